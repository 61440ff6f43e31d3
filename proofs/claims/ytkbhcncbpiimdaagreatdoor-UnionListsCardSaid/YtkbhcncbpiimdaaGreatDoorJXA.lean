/- A walker in memory: its way, the parts that are left; what is kept where one walker alone is turned. What a walker's goOn, at, Left do. Condition: the walker lies in memory. What a walker's at, Left and a place's copy answer. Condition: the walker, the place lie in memory. -/
import Derived.Test.YtkbhcncbpiimdaaGreatDoorJP
import Derived.Test.YtkbhcncbpiimdaaGreatDoorJJ
import Derived.Test.YtkbhcncbpiimdaaGreatDoorJW2
import Derived.WalkKit
import Derived.WalkSpells
import Derived.WalkLawsBesides
import Derived.Outline
import Derived.LoopTactic
import Derived.Deep.QuietTactic
import Derived.BigQuiet
import Derived.Deep.RegionHeld3
import Derived.Lib.Hide
import Derived.Lib.Small
import Derived.IntWalk
import Derived.KernelRfl
import Derived.Deep.Cut
import Derived.BigRegion
import Derived.ChangeAlike
import Derived.Deep.RegionLaw
import Derived.Deep.AppendLies
import Derived.StillTailTactics
import Derived.Deep.LoopGhost
import Derived.ProofKit
import Derived.OpenShut
import Derived.Deep.Slices
import Derived.SizedLaws
namespace Go.Proofs.YtkbhcncbpiimdaaGreatDoor.wlk
set_option maxRecDepth 100000
open Go.RowKit Go.Proofs.YtkbhcncbpiimdaaGreatDoor.words Go.Proofs.YtkbhcncbpiimdaaGreatDoor.ext Go.Proofs.YtkbhcncbpiimdaaGreatDoor.name Go.Proofs.YtkbhcncbpiimdaaGreatDoor.tre Go.Proofs.YtkbhcncbpiimdaaGreatDoor.stk Go.Proofs.YtkbhcncbpiimdaaGreatDoor.seen

/-- What a path leads to: its own path, the kind, the spot, the place. -/
structure Tg where
  S : ByteArray
  K : Int
  l : Int
  i : Int
  Q : List (Nat × Nat)
def tgC (t : Tg) (A : Option Addr) (c : Nat) : List Value := [.string t.S, .int .i64 t.K, .int .i64 t.l, .int .i64 t.i, .slice A t.Q.length c]
/-- A target's cells, from a place on. -/
structure TgAt (w : World) (B : Nat) (b o : Nat) (t : Tg) (A : Option Addr) (c : Nat) : Prop where
  lt : b < B
  c0 : w.cell? ⟨b, o, none⟩ = some (.string t.S)
  c1 : w.cell? ⟨b, o + 1, none⟩ = some (.int .i64 t.K)
  c2 : w.cell? ⟨b, o + 2, none⟩ = some (.int .i64 t.l)
  c3 : w.cell? ⟨b, o + 3, none⟩ = some (.int .i64 t.i)
  c4 : w.cell? ⟨b, o + 4, none⟩ = some (.slice A t.Q.length c)
  plc : Plc w B A t.Q
  len : t.Q.length ≤ c
  nil : A = none → t.Q.length = 0 ∧ c = 0
def Way (w : World) (B : Nat) (A : Option Addr) (ts : List Tg) : Prop := ∀ (k : Nat) (t : Tg), ts[k]? = some t → ∃ b off Aq cq, A = some ⟨b, off, none⟩ ∧ TgAt w B b (off + k * 5) t Aq cq
theorem Way.take {w : World} {B : Nat} {A : Option Addr} {ts : List Tg} (h : Way w B A ts) (n : Nat) : Way w B A (ts.take n) := fun k t hk => h k t (by
  rw [List.getElem?_take] at hk
  split at hk
  · exact hk
  · cases hk)
/-- One block alone is turned. -/
structure Tur (g : Nat) (w w' : World) : Prop where
  os : w'.os = w.os
  tape : w'.tape = w.tape
  output : w'.output = w.output
  size : w.heap.size ≤ w'.heap.size
  block : ∀ k, k < w.heap.size → k ≠ g → w'.heap[k]? = w.heap[k]?
theorem Tur.refl (g : Nat) (w : World) : Tur g w w := ⟨rfl, rfl, rfl, Nat.le_refl _, fun _ _ _ => rfl⟩
theorem Tur.trans {g : Nat} {a b c : World} (h1 : Tur g a b) (h2 : Tur g b c) : Tur g a c :=
  ⟨h2.os.trans h1.os, h2.tape.trans h1.tape, h2.output.trans h1.output, Nat.le_trans h1.size h2.size, fun k hk hg => (h2.block k (Nat.lt_of_lt_of_le hk h1.size) hg).trans (h1.block k hk hg)⟩
theorem Tur.below {g : Nat} {a b : World} (h : Below a.heap.size a b) : Tur g a b := ⟨h.os, h.tape, h.output, h.size, fun k hk _ => h.block k hk⟩
theorem Tur.drew {g : Nat} {a b : World} (h : Tur g a b) : Tur g a b.drew := ⟨h.os, h.tape, h.output, h.size, h.block⟩
theorem Tur.set {g : Nat} {a b : World} (h : Tur g a b) (i : Nat) (v : Value) : Tur g a (b.setCell ⟨g, i, none⟩ v) :=
  ⟨h.os, h.tape, h.output, by simpa using h.size, fun k hk hg => (heap_setCell_other _ _ _ _ hg).trans (h.block k hk hg)⟩
theorem Tur.low {g B : Nat} {a b : World} (h : Tur g a b) (hB : B ≤ g) (hs : B ≤ a.heap.size) : Below B a b := ⟨h.os, h.tape, h.output, h.size, fun k hk => h.block k (by omega) (by omega)⟩
theorem Tur.cell {g : Nat} {a b : World} (h : Tur g a b) {p : Addr} (hp : p.block < a.heap.size) (hg : p.block ≠ g) : b.cell? p = a.cell? p := World.cell?_of_block (h.block _ hp hg)
/-- A walker's block. -/
def wkC (v0 v1 : Value) (f : Bool) (h : Int) : Obj := .cells #[v0, v1, .bool f, .int .i64 h] 168 (0, 0)
theorem ne_str {w : World} {g b o : Nat} {A A1 : Option Addr} {n c n1 c1 : Nat} {f : Bool} {h : Int} {s : ByteArray} (hg : w.heap[g]? = some (wkC (.slice A n c) (.slice A1 n1 c1) f h)) (hc : w.cell? ⟨b, o, none⟩ = some (.string s)) : b ≠ g := fun e => by
  subst e
  have h1 := cell_of_blk hg o
  rw [hc] at h1
  rcases o with _ | _ | _ | _ | o <;> simp at h1
theorem ne_ints {w : World} {g b o : Nat} {A A1 : Option Addr} {n c n1 c1 : Nat} {f : Bool} {h x y : Int} (hg : w.heap[g]? = some (wkC (.slice A n c) (.slice A1 n1 c1) f h)) (hc : w.cell? ⟨b, o, none⟩ = some (.int .i64 x)) (hd : w.cell? ⟨b, o + 1, none⟩ = some (.int .i64 y)) : b ≠ g := fun e => by
  subst e
  have h1 := cell_of_blk hg o
  have h2 := cell_of_blk hg (o + 1)
  rw [hc] at h1
  rw [hd] at h2
  rcases o with _ | _ | _ | _ | o <;> simp at h1 h2
section turned
variable {w w' : World} {g : Nat} {A A1 : Option Addr} {n c n1 c1 : Nat} {f : Bool} {h : Int}
theorem Tur.plc (ht : Tur g w w') (hg : w.heap[g]? = some (wkC (.slice A n c) (.slice A1 n1 c1) f h)) {Aq : Option Addr} {Q : List (Nat × Nat)} (hp : Plc w w.heap.size Aq Q) : Plc w' w'.heap.size Aq Q := fun i x hx => by
  obtain ⟨b, off, h1, h2, h3, h4⟩ := hp i x hx
  have hne := ne_ints hg h3 h4
  exact ⟨b, off, h1, Nat.lt_of_lt_of_le h2 ht.size, (ht.cell (p := ⟨b, off + i * 2, none⟩) h2 hne).trans h3, (ht.cell (p := ⟨b, off + i * 2 + 1, none⟩) h2 hne).trans h4⟩
theorem Tur.row (ht : Tur g w w') (hg : w.heap[g]? = some (wkC (.slice A n c) (.slice A1 n1 c1) f h)) {Aq : Option Addr} {N : List ByteArray} (hp : heap.Row w w.heap.size Aq N) : heap.Row w' w'.heap.size Aq N := fun i x hx => by
  obtain ⟨b, off, h1, h2, h3⟩ := hp i x hx
  exact ⟨b, off, h1, Nat.lt_of_lt_of_le h2 ht.size, (ht.cell (p := ⟨b, off + i, none⟩) h2 (ne_str hg h3)).trans h3⟩
theorem Tur.way (ht : Tur g w w') (hg : w.heap[g]? = some (wkC (.slice A n c) (.slice A1 n1 c1) f h)) {Aq : Option Addr} {ts : List Tg} (hp : Way w w.heap.size Aq ts) : Way w' w'.heap.size Aq ts := fun k t hk => by
  obtain ⟨b, off, Aq', cq, h1, h2⟩ := hp k t hk
  have hne := ne_str hg h2.c0
  exact ⟨b, off, Aq', cq, h1, Nat.lt_of_lt_of_le h2.lt ht.size, (ht.cell (p := ⟨b, off + k * 5, none⟩) h2.lt hne).trans h2.c0, (ht.cell (p := ⟨b, off + k * 5 + 1, none⟩) h2.lt hne).trans h2.c1,
    (ht.cell (p := ⟨b, off + k * 5 + 2, none⟩) h2.lt hne).trans h2.c2, (ht.cell (p := ⟨b, off + k * 5 + 3, none⟩) h2.lt hne).trans h2.c3, (ht.cell (p := ⟨b, off + k * 5 + 4, none⟩) h2.lt hne).trans h2.c4, ht.plc hg h2.plc, h2.len, h2.nil⟩
end turned
/-- A walker. -/
structure Wkr (w : World) (g : Nat) (ts : List Tg) (ps : List ByteArray) (f : Bool) (h : Nat) : Prop where
  ex : ∃ A c Ap cp, w.heap[g]? = some (wkC (.slice A ts.length c) (.slice Ap ps.length cp) f (h : Int)) ∧ ts.length ≤ c ∧ ps.length ≤ cp ∧ Way w w.heap.size A ts ∧ heap.Row w w.heap.size Ap ps
theorem Wkr.later {w w' : World} {g : Nat} {ts : List Tg} {ps : List ByteArray} {f : Bool} {h : Nat} (hw : Wkr w g ts ps f h) (hb : Below w.heap.size w w') : Wkr w' g ts ps f h := by
  obtain ⟨A, c, Ap, cp, h1, h2, h3, h4, h5⟩ := hw.ex
  exact ⟨A, c, Ap, cp, (hb.block _ (lt_of_some h1)).trans h1, h2, h3, (Tur.below (g := g) hb).way h1 h4, (Tur.below (g := g) hb).row h1 h5⟩

/-! Up, as often as the parts lead up -/
def dd : ByteArray := ⟨#[46, 46]⟩
def upK : Nat → List ByteArray → Nat
  | k, [] => k
  | k, p :: ps => if p = dd then upK (max (k - 1) 1) ps else k
def restP : List ByteArray → List ByteArray
  | [] => []
  | p :: ps => if p = dd then restP ps else p :: ps
theorem restP_le : ∀ ps : List ByteArray, (restP ps).length ≤ ps.length
  | [] => Nat.le_refl _
  | p :: ps => by
    have := restP_le ps
    unfold restP
    split
    · rw [List.length_cons]; omega
    · exact Nat.le_refl _
theorem upK_le : ∀ (ps : List ByteArray) (k n : Nat), k ≤ n → 1 ≤ n → upK k ps ≤ n
  | [], k, n, h, _ => h
  | p :: ps, k, n, h, h1 => by
    unfold upK
    split
    · exact upK_le ps _ n (by omega) h1
    · exact h
theorem upK_pos : ∀ (ps : List ByteArray) (k : Nat), 1 ≤ k → 1 ≤ upK k ps
  | [], k, h => h
  | p :: ps, k, h => by
    unfold upK
    split
    · exact upK_pos ps _ (by omega)
    · exact h
theorem infoTg : (Tryz.prog.info? 58).map (fun i => (i.zero, i.size, i.bytes)) = some (some (.agg #[.string ⟨#[]⟩, .int .i64 0, .int .i64 0, .int .i64 0, .slice none 0 0]), 5, 64) := by kernel_rfl
theorem cut_way (A : Option Addr) (n cap i : Nat) (h : i ≤ cap) (wx : World) :
    (Instr.slice 166 (.slice A n cap) none (some (.int .i64 (i : Int))) none).run Tryz.prog wx = .ok (.slice A i cap) wx := by
  obtain ⟨i0, hi, hz0, hz1, hz2⟩ := info_parts infoTg
  have he : Tryz.prog.elem 166 = 58 := by kernel_rfl
  rw [run_slice_h (P := Tryz.prog) wx 166 A n cap (by kernel_rfl) .i64 (i : Int) (by omega) (by omega), he]
  simp [sizeOf, typeInfo, hi, hz1, Result.andThen, sliced]
  rcases A with _ | A
  · intro _; rfl
  · simp [Addr.add]
theorem cut_on (A : Option Addr) (n cap : Nat) (h : 1 ≤ n) (wx : World) :
    (Instr.slice 34 (.slice A n cap) (some (.int .i64 1)) none none).run Tryz.prog wx = .ok (.slice (if cap = 1 then A else A.map (·.add 1)) (n - 1) (cap - 1)) wx := by
  obtain ⟨i0, hi, hz0, hz1, hz2⟩ := info_parts infoStr
  have he : Tryz.prog.elem 34 = 9 := by kernel_rfl
  rw [run_slice_l (P := Tryz.prog) wx 34 A n cap (by kernel_rfl) .i64 1 (by omega) (by omega), he]
  simp [sizeOf, typeInfo, hi, hz1, Result.andThen, sliced]
theorem row_on {w : World} {B : Nat} {A : Option Addr} {p : ByteArray} {ps : List ByteArray} {cap : Nat} (h : heap.Row w B A (p :: ps)) (hc : ps.length + 1 ≤ cap) : heap.Row w B (if cap = 1 then A else A.map (·.add 1)) ps := fun i s hs => by
  have hl := (List.getElem?_eq_some_iff.1 hs).1
  obtain ⟨b, off, rfl, h2, h3⟩ := h (i + 1) s (by simpa using hs)
  rw [if_neg (by omega)]
  exact ⟨b, off + 1, by simp [Addr.add], h2, by rw [show off + 1 + i = off + (i + 1) by omega]; exact h3⟩
end Go.Proofs.YtkbhcncbpiimdaaGreatDoor.wlk

namespace Go.Proofs.YtkbhcncbpiimdaaGreatDoor.wlk
set_option maxRecDepth 100000
open Go.RowKit Go.Proofs.YtkbhcncbpiimdaaGreatDoor.words Go.Proofs.YtkbhcncbpiimdaaGreatDoor.ext Go.Proofs.YtkbhcncbpiimdaaGreatDoor.name Go.Proofs.YtkbhcncbpiimdaaGreatDoor.tre Go.Proofs.YtkbhcncbpiimdaaGreatDoor.stk Go.Proofs.YtkbhcncbpiimdaaGreatDoor.seen

/-- The walker's block on its way up. -/
structure GoI (w : World) (g : Nat) (A : Option Addr) (n c k : Nat) (v1 : Value) (f : Bool) (h : Int) (wr : World) : Prop where
  blk : wr.heap[g]? = some (wkC (.slice A k c) v1 f h)
  tur : Tur g w wr
def lenV : Value → Nat
  | .slice _ n _ => n
  | _ => 0
theorem GoI.drew {w wr : World} {g n c k : Nat} {A : Option Addr} {v1 : Value} {f : Bool} {h : Int} (hi : GoI w g A n c k v1 f h wr) : GoI w g A n c k v1 f h wr.drew := ⟨hi.blk, hi.tur.drew⟩
theorem dd_list : dd.toList = [46, 46] := by rw [ByteArray.toList_eq]; rfl
set_option maxHeartbeats 3200000 in
theorem goOn_any (w : World) (g : Nat) (A A1 Ap : Option Addr) (c n1 c1 cp : Nat) (ts : List Tg) (ps : List ByteArray) (f : Bool) (h : Nat) (hg : w.heap[g]? = some (wkC (.slice A ts.length c) (.slice A1 n1 c1) f (h : Int)))
    (hc : ts.length ≤ c) (hcp : ps.length ≤ cp) (hW : Way w w.heap.size A ts) (hR : heap.Row w w.heap.size Ap ps) (h1 : 1 ≤ ts.length) (htl : ts.length ≤ 1000000000) :
    Calls Tryz.prog 92 #[.pointer (some ⟨g, 0, none⟩), .slice Ap ps.length cp] w fun e w' => (∃ u, e = .returned u) ∧ Wkr w' g (ts.take (upK ts.length ps)) (restP ps) f h ∧ Tur g w w' := by
  have HI : Hid (GoI w g A ts.length c ts.length (.slice A1 n1 c1) f h w) := Lib.hid ⟨hg, Tur.refl _ _⟩
  have HG := Lib.hid hg
  have HW := Lib.hid hW
  have HR := Lib.hid hR
  clear hg hW hR
  go_enter Tryz.func92, Tryz.ntmps92
  go_wp2_with fail
  go_loopw [1] (fun v wr => ∃ (k : Nat) (qs : List ByteArray) (Aq : Option Addr) (cq : Nat), v = .slice Aq qs.length cq ∧ 1 ≤ k ∧ k ≤ ts.length ∧ qs.length ≤ cq ∧ qs.length ≤ ps.length ∧ Hid (upK ts.length ps = upK k qs ∧ restP ps = restP qs) ∧ Hid (heap.Row w w.heap.size Aq qs) ∧ Hid (GoI w g A ts.length c k (.slice A1 n1 c1) f h wr)) (fun v _ => lenV v)
  case atStart => exact ⟨ts.length, ps, Ap, cp, rfl, h1, Nat.le_refl _, hcp, Nat.le_refl _, Lib.hid ⟨rfl, rfl⟩, HR, HI⟩
  case round =>
    clear HI
    obtain ⟨k, qs, Aq, cq, rfl, hk1, hk2, hcq, hql, HU, HQ, HI⟩ := hrel
    have v0 : wr.cell? ⟨g, 0, none⟩ = some (.slice A k c) := cell_of_blk HI.out.blk 0
    have v1 : wr.cell? ⟨g, 1, none⟩ = some (.slice A1 n1 c1) := cell_of_blk HI.out.blk 1
    have z0 := free_of_blk HI.out.blk 0
    have z1 := free_of_blk HI.out.blk 1
    by_cases hgo : ∃ qs', qs = dd :: qs'
    · obtain ⟨qs', rfl⟩ := hgo
      obtain ⟨b, off, hAq, _, x0⟩ := (HI.out.tur.row HG.out HQ.out) 0 dd rfl
      rw [Nat.add_zero] at x0
      obtain ⟨A2, hA2⟩ : ∃ A2, A2 = (if cq = 1 then Aq else Aq.map (·.add 1)) := ⟨_, rfl⟩
      have hcut : ∀ wx, (Instr.slice 34 (.slice Aq (qs'.length + 1) cq) (some (.int .i64 1)) none none).run Tryz.prog wx = .ok (.slice A2 qs'.length (cq - 1)) wx := fun wx => by
        rw [hA2]
        exact cut_on Aq (qs'.length + 1) cq (by omega) wx
      have hrow : heap.Row w w.heap.size A2 qs' := by
        rw [hA2]
        exact row_on HQ.out (by rw [List.length_cons] at hcq; omega)
      obtain ⟨k2, hk2e⟩ : ∃ k2, k2 = max (k - 1) 1 := ⟨_, rfl⟩
      have hkc : k2 ≤ c := by omega
      have hmax : max ((k : Int) - 1) 1 = (k2 : Int) := by omega
      have hcw : ∀ wx, (Instr.slice 166 (.slice A k c) none (some (.int .i64 (max ((k : Int) - 1) 1))) none).run Tryz.prog wx = .ok (.slice A k2 c) wx := fun wx => by
        rw [hmax]
        exact cut_way A k c k2 hkc wx
      have q1 : IntKind.i64.wrap ((k : Int) - 1) = (k : Int) - 1 := IntWalk.i64_in _ (by omega)
      have HRow := Lib.hid hrow
      have HUn : Hid (upK ts.length ps = upK k2 qs' ∧ restP ps = restP qs') := Lib.hid (by
        obtain ⟨e1, e2⟩ := HU.out
        rw [e1, e2, hk2e]
        exact ⟨by rw [upK, if_pos rfl], by rw [restP, if_pos rfl]⟩)
      have l0 : (0 : Int) < ((qs'.length : Int) + 1) := by omega
      have k21 : 1 ≤ k2 := by omega
      have k22 : k2 ≤ ts.length := by omega
      have HIn : Hid (GoI w g A ts.length c k2 (.slice A1 n1 c1) f h (wr.setCell ⟨g, 0, none⟩ (.slice A k2 c))) := Lib.hid ⟨by
        rw [heap_setCell_same wr g 0 _ _ (.slice A k2 c) HI.out.blk]
        rfl, HI.out.tur.set 0 _⟩
      clear hA2 hrow hk2e hmax HU HQ HI
      subst hAq
      have hd : (dd.toList == [46, 46]) = true := by rw [dd_list]; rfl
      go_wp2_with fail
      go_region_law (fail)
      all_goals
        clear v0 v1 z0 z1 x0 hd
        try simp only [List.getElem_toArray, List.getElem_cons_succ, List.getElem_cons_zero]
        try simp only [Act.put, List.setIfInBounds_toArray, List.set_cons_zero, List.set_cons_succ]
        go_wp2_with fail
        go_roundw
        case rel => exact ⟨k2, qs', A2, cq - 1, rfl, k21, k22, by rw [List.length_cons] at hcq; omega, by rw [List.length_cons] at hql; omega, HUn, HRow, Lib.hid (by first | exact HIn.out | exact HIn.out.drew | exact HIn.out.drew.drew)⟩
        case measure => simp [lenV]
    · have hup : upK k qs = k ∧ restP qs = qs := by
        rcases qs with _ | ⟨p, qs'⟩
        · exact ⟨rfl, rfl⟩
        · have hne : p ≠ dd := fun e => hgo ⟨qs', by rw [e]⟩
          exact ⟨by rw [upK, if_neg hne], by rw [restP, if_neg hne]⟩
      have HUp := Lib.hid hup
      have HFin : Hid (∀ W : World, W = wr.setCell ⟨g, 1, none⟩ (.slice Aq qs.length cq) → Wkr W g (ts.take (upK ts.length ps)) (restP ps) f h ∧ Tur g w W) := Lib.hid fun W hWe => by
        subst hWe
        obtain ⟨e1, e2⟩ := HU.out
        rw [e1, e2, hup.1, hup.2]
        have ht := HI.out.tur.set 1 (.slice Aq qs.length cq)
        have hb : (wr.setCell ⟨g, 1, none⟩ (.slice Aq qs.length cq)).heap[g]? = some (wkC (.slice A k c) (.slice Aq qs.length cq) f (h : Int)) := by
          rw [heap_setCell_same wr g 1 _ _ (.slice Aq qs.length cq) HI.out.blk]
          rfl
        have hkl : (ts.take k).length = k := by rw [List.length_take]; omega
        exact ⟨⟨A, c, Aq, cq, by rw [hkl]; exact hb, by rw [hkl]; omega, hcq, (ht.way HG.out HW.out).take k, ht.row HG.out HQ.out⟩, ht⟩
      rcases qs with _ | ⟨p, qs'⟩
      · clear HI HU HQ hup
        go_wp2_with fail
        go_end0
        exact ⟨⟨_, rfl⟩, HFin.out _ rfl⟩
      · have hne : p ≠ dd := fun e => hgo ⟨qs', by rw [e]⟩
        have hd : (p.toList == [46, 46]) = false := by
          rw [beq_eq_false_iff_ne]
          exact fun e => hne (heap.toList_inj (e.trans dd_list.symm))
        obtain ⟨b, off, hAq, _, x0⟩ := (HI.out.tur.row HG.out HQ.out) 0 p rfl
        rw [Nat.add_zero] at x0
        have l0 : (0 : Int) < ((qs'.length : Int) + 1) := by omega
        subst hAq
        clear HI HU HQ hup hne
        go_wp2_with fail
        go_end0
        exact ⟨⟨_, rfl⟩, HFin.out _ rfl⟩
end Go.Proofs.YtkbhcncbpiimdaaGreatDoor.wlk

namespace Go.Proofs.YtkbhcncbpiimdaaGreatDoor.wlk
set_option maxRecDepth 100000
open Go.RowKit Go.Proofs.YtkbhcncbpiimdaaGreatDoor.words Go.Proofs.YtkbhcncbpiimdaaGreatDoor.ext Go.Proofs.YtkbhcncbpiimdaaGreatDoor.name Go.Proofs.YtkbhcncbpiimdaaGreatDoor.tre Go.Proofs.YtkbhcncbpiimdaaGreatDoor.stk Go.Proofs.YtkbhcncbpiimdaaGreatDoor.seen

def set5 (w : World) (g : Nat) (u0 u1 u2 u3 u4 : Value) : World := ((((w.setCell ⟨g, 0, none⟩ u0).setCell ⟨g, 1, none⟩ u1).setCell ⟨g, 2, none⟩ u2).setCell ⟨g, 3, none⟩ u3).setCell ⟨g, 4, none⟩ u4
theorem over5 {w : World} {g : Nat} {T : TypeId} {c0 c1 c2 c3 c4 u0 u1 u2 u3 u4 : Value} (h : w.heap[g]? = some (.cells #[c0, c1, c2, c3, c4] T (0, 0))) : (set5 w g u0 u1 u2 u3 u4).heap[g]? = some (.cells #[u0, u1, u2, u3, u4] T (0, 0)) := by
  simp [set5, World.setCell, Array.getElem?_modify, h]
theorem below5 {B g : Nat} {a b : World} (h : Below B a b) (hg : B ≤ g) (u0 u1 u2 u3 u4 : Value) : Below B a (set5 b g u0 u1 u2 u3 u4) :=
  ((((h.setCell (p := ⟨g, 0, none⟩) hg u0).setCell (p := ⟨g, 1, none⟩) hg u1).setCell (p := ⟨g, 2, none⟩) hg u2).setCell (p := ⟨g, 3, none⟩) hg u3).setCell (p := ⟨g, 4, none⟩) hg u4
/-- A target as a value. -/
def tgV (t : Tg) (A : Option Addr) (c : Nat) : Value := .agg #[.string t.S, .int .i64 t.K, .int .i64 t.l, .int .i64 t.i, .slice A t.Q.length c]
/-- A target is handed back. -/
def Tgt (t : Tg) (w : World) (e : Ending) (w' : World) : Prop := (∃ A c, e = .returned (tgV t A c) ∧ Plc w' w'.heap.size A t.Q ∧ t.Q.length ≤ c ∧ (A = none → t.Q.length = 0 ∧ c = 0)) ∧ Below w.heap.size w w'
set_option maxHeartbeats 3200000 in
theorem at_any (w : World) (g : Nat) (ts : List Tg) (t : Tg) (ps : List ByteArray) (f : Bool) (h : Nat) (hw : Wkr w g (ts ++ [t]) ps f h) (hl : ts.length ≤ 1000000000) :
    Calls Tryz.prog 94 #[.pointer (some ⟨g, 0, none⟩)] w (Tgt t w) := by
  obtain ⟨W1, hW1⟩ : ∃ W1, W1 = w.alloc (.cells #[.string ⟨#[]⟩, .int .i64 0, .int .i64 0, .int .i64 0, .slice none 0 0] 58) := ⟨_, rfl⟩
  have hb1 : Below w.heap.size w W1 := by rw [hW1]; exact (Below.refl _ _).alloc (Nat.le_refl _) _
  have hx1 : W1.heap[w.heap.size]? = some (.cells #[.string ⟨#[]⟩, .int .i64 0, .int .i64 0, .int .i64 0, .slice none 0 0] 58 (0, 0)) := by rw [hW1]; exact heap_alloc_new w _
  obtain ⟨A, c, Ap, cp, hg0, _, _, hway, _⟩ := hw.ex
  have hg := (hb1.block _ (lt_of_some hg0)).trans hg0
  obtain ⟨b, off, Aq, cq, hA, htg⟩ := hway ts.length t (by simp)
  subst hA
  have hll : (ts ++ [t]).length = ts.length + 1 := by simp
  rw [hll] at hg
  obtain ⟨k, hk⟩ : ∃ k, k = ts.length := ⟨_, rfl⟩
  obtain ⟨n, hn⟩ : ∃ n, n = k + 1 := ⟨_, rfl⟩
  rw [← hk] at hl htg hg
  rw [← hn] at hg
  have v0 : W1.cell? ⟨g, 0, none⟩ = some (.slice (some ⟨b, off, none⟩) n c) := cell_of_blk hg 0
  have c0 := (hb1.cell (p := ⟨b, off + k * 5, none⟩) htg.lt).trans htg.c0
  have c1 := (hb1.cell (p := ⟨b, off + k * 5 + 1, none⟩) htg.lt).trans htg.c1
  have c2 := (hb1.cell (p := ⟨b, off + k * 5 + 2, none⟩) htg.lt).trans htg.c2
  have c3 := (hb1.cell (p := ⟨b, off + k * 5 + 3, none⟩) htg.lt).trans htg.c3
  have c4 := (hb1.cell (p := ⟨b, off + k * 5 + 4, none⟩) htg.lt).trans htg.c4
  have i0 : (0 : Int) ≤ (n : Int) - 1 := by omega
  have i1 : (n : Int) - 1 < (n : Int) := by omega
  have i3 : (1 : Int) ≤ (n : Int) := by omega
  have i2 : ((n : Int) - 1).toNat = k := by omega
  have q1 : IntKind.i64.wrap ((n : Int) - 1) = (n : Int) - 1 := IntWalk.i64_in _ (by omega)
  have z0 := free_of_blk hx1 0
  have z1 := free_of_blk hx1 1
  have z2 := free_of_blk hx1 2
  have z3 := free_of_blk hx1 3
  have z4 := free_of_blk hx1 4
  have d0 : W1.cell? ⟨w.heap.size, 0, none⟩ = some (.string ⟨#[]⟩) := cell_of_blk hx1 0
  have d1 : W1.cell? ⟨w.heap.size, 1, none⟩ = some (.int .i64 0) := cell_of_blk hx1 1
  have d2 : W1.cell? ⟨w.heap.size, 2, none⟩ = some (.int .i64 0) := cell_of_blk hx1 2
  have d3 : W1.cell? ⟨w.heap.size, 3, none⟩ = some (.int .i64 0) := cell_of_blk hx1 3
  have d4 : W1.cell? ⟨w.heap.size, 4, none⟩ = some (.slice none 0 0) := cell_of_blk hx1 4
  obtain ⟨Wd, hWd⟩ : ∃ Wd, Wd = set5 W1 w.heap.size (.string t.S) (.int .i64 t.K) (.int .i64 t.l) (.int .i64 t.i) (.slice Aq t.Q.length cq) := ⟨_, rfl⟩
  have hob : Wd.heap[w.heap.size]? = some (.cells #[.string t.S, .int .i64 t.K, .int .i64 t.l, .int .i64 t.i, .slice Aq t.Q.length cq] 58 (0, 0)) := by rw [hWd]; exact over5 hx1
  have hBd : Below w.heap.size w Wd := by rw [hWd]; exact below5 hb1 (Nat.le_refl _) _ _ _ _ _
  have hplc : Plc Wd Wd.heap.size Aq t.Q := (htg.plc.keep hBd).more hBd.size
  have p0 : Wd.drew.cell? ⟨w.heap.size, 0, none⟩ = some (.string t.S) := cell_of_blk hob 0
  have p1 : Wd.drew.cell? ⟨w.heap.size, 1, none⟩ = some (.int .i64 t.K) := cell_of_blk hob 1
  have p2 : Wd.drew.cell? ⟨w.heap.size, 2, none⟩ = some (.int .i64 t.l) := cell_of_blk hob 2
  have p3 : Wd.drew.cell? ⟨w.heap.size, 3, none⟩ = some (.int .i64 t.i) := cell_of_blk hob 3
  have p4 : Wd.drew.cell? ⟨w.heap.size, 4, none⟩ = some (.slice Aq t.Q.length cq) := cell_of_blk hob 4
  have HEn : Hid (Tgt t w (.returned (tgV t Aq cq)) Wd.drew) := Lib.hid ⟨⟨Aq, cq, rfl, hplc, htg.len, htg.nil⟩, hBd.drew⟩
  unfold set5 at hWd
  have HWd := Lib.hid hWd.symm
  have HW1 := Lib.hid hW1
  clear hw hW1 hb1 hx1 hg hg0 hway htg hll hk hn hWd hob hBd hplc
  go_enter Tryz.func94, Tryz.ntmps94
  go_upto_region 1 with fail
  rw [← HW1.out]
  go_region_law (fail)
  all_goals
    rw [HWd.out]
    go_wp2_with fail
    exact bodyPost_ret (v := tgV t Aq cq) (by simp [results, Tryz.results94, go_sem, tgV, p0, p1, p2, p3, p4]) rfl HEn.out
/-- A place's cells lie where it lies. -/
theorem plc_lies {w : World} {A : Option Addr} {P : List (Nat × Nat)} (h : Plc w w.heap.size A P) : Lies w A (P.flatMap spC) := fun j u hj => by
  have hl : (P.flatMap spC).length = P.length * 2 := by
    induction P with
    | nil => rfl
    | cons x P ih =>
      rw [List.flatMap_cons, List.length_append, List.length_cons]
      have : (P.flatMap spC).length = P.length * 2 := by
        clear ih hj h
        induction P with
        | nil => rfl
        | cons x P ih => rw [List.flatMap_cons, List.length_append, List.length_cons, ih]; simp [spC]; omega
      rw [this]
      simp [spC]; omega
  have hjl := (List.getElem?_eq_some_iff.1 hj).1
  obtain ⟨q, r, rfl, hr⟩ : ∃ q r, j = q * 2 + r ∧ r < 2 := ⟨j / 2, j % 2, by omega, by omega⟩
  obtain ⟨x, hx⟩ : ∃ x, P[q]? = some x := ⟨_, List.getElem?_eq_getElem (by omega)⟩
  rw [spC_at hx r hr] at hj
  obtain ⟨b, off, h1, h2, h3, h4⟩ := h q x hx
  refine ⟨b, off, h1, h2, ?_⟩
  rcases r with _ | r
  · have e : (Value.int .i64 (x.1 : Int)) = u := by simpa [spC] using hj
    rw [← e]
    exact h3
  · obtain rfl : r = 0 := by omega
    have e : (Value.int .i64 (x.2 : Int)) = u := by simpa [spC] using hj
    rw [← e, ← Nat.add_assoc]
    exact h4
theorem spC_one (P : List (Nat × Nat)) : ∀ u ∈ P.flatMap spC, u.oneCell' = true := fun u hu => by
  obtain ⟨x, _, hx⟩ := List.mem_flatMap.1 hu
  simp only [spC, List.mem_cons, List.mem_nil_iff, or_false] at hx
  rcases hx with rfl | rfl <;> rfl
theorem spC_len : ∀ P : List (Nat × Nat), (P.flatMap spC).length = P.length * 2
  | [] => rfl
  | x :: P => by rw [List.flatMap_cons, List.length_append, List.length_cons, spC_len P]; simp [spC]; omega
theorem own_high {w : World} {B size n c k : Nat} {E : TypeId} {A : Option Addr} {xs : List Value} (h : w.ownsRow B E size (.slice A n c) k xs) : ∀ b o fr, A = some ⟨b, o, fr⟩ → B ≤ b := fun b o fr hA => by
  rcases h.2 with ⟨h0, _⟩ | ⟨g, cap, cur, h1, h2, _⟩
  · injection h0 with h0
    rw [hA] at h0
    cases h0
  · injection h1 with h1
    rw [hA] at h1
    injection h1 with h1
    injection h1 with h1
    rw [h1]
    exact h2
def Plcd (P : List (Nat × Nat)) (w : World) (e : Ending) (w' : World) : Prop := (∃ A c, e = .returned (.slice A P.length c) ∧ Plc w' w'.heap.size A P ∧ P.length ≤ c ∧ (A = none → P.length = 0 ∧ c = 0) ∧ ∀ b o fr, A = some ⟨b, o, fr⟩ → w.heap.size ≤ b) ∧ Below w.heap.size w w'
set_option maxHeartbeats 1600000 in
theorem copy_plc (A : Option Addr) (c : Nat) (P : List (Nat × Nat)) (w : World) (hp : Plc w w.heap.size A P) (hz : A = none → P.length = 0 ∧ c = 0) (hl : P.length ≤ 1000) :
    Calls Tryz.prog 95 #[.slice A P.length c] w (Plcd P w) := by
  obtain ⟨i0, hi, hz0, hz1, hz2⟩ := info_parts infoSpot
  rcases A with _ | ad
  · obtain ⟨h0, rfl⟩ := hz rfl
    have hP : P = [] := List.eq_nil_of_length_eq_zero h0
    subst hP
    have heq0 := fun wx => Lib.run_eql_slice_nil (P := Tryz.prog) wx 54 52 none 0 0 0 0 Tryz.underlying54
    clear hp hl hz hz0 hz1 hz2 hi
    go_enter Tryz.func95, Tryz.ntmps95
    go_wp2_with fail
    go_ret
    exact ⟨⟨none, 0, rfl, fun i x hx => by simp at hx, Nat.le_refl _, fun _ => ⟨rfl, rfl⟩, fun _ _ _ h => by cases h⟩, Below.refl _ _⟩
  · have heq := fun wx => Lib.run_eql_slice_nil (P := Tryz.prog) wx 54 52 (some ad) P.length c 0 0 Tryz.underlying54
    have hnews : Hid (∀ j u, (P.flatMap spC)[j]? = some u → (w.alloc (.cells #[] 52)).cell? (ad.add j) = some u) := Lib.hid fun j u hu => by
      obtain ⟨b, off, hA, hB, hc⟩ := plc_lies hp j u hu
      injection hA with hA
      subst hA
      rw [add_place]
      exact (((Below.refl w.heap.size w).alloc (Nat.le_refl _) (.cells #[] 52)).cell (p := ⟨b, off + j, none⟩) hB).trans hc
    have HOne := Lib.hid (spC_one P)
    have HLen := Lib.hid (spC_len P)
    clear hp hz
    go_enter Tryz.func95, Tryz.ntmps95
    go_wp2_with (at_builtin; refine wpList_append_own _ rfl (.tmp 5) (.tmp 6) 54 rfl w.heap.size 52 i0 _ 2 16 Tryz.underlying54 hi hz0 hz1 hz2 rfl (by omega) (.slice (some ⟨w.heap.size, 0, none⟩) 0 0) 0 [] rfl (World.ownsRow_made w #[] 0 (Nat.le_refl _) (by decide) rfl) ad P.length c (P.flatMap spC) rfl HLen.out hnews.out HOne.out (by simp only [maxLen]; omega) (by omega) (by simp) ?_; intro v4 w4 hown4 hgrow hnil4)
    rw [Nat.zero_add, List.nil_append] at hown4
    obtain ⟨A4, c4, rfl, h1, h2⟩ := own_facts hown4
    have HO4 := Lib.hid hown4
    have HB4 := Lib.hid (keep_grown (S := w.heap.size) ((Below.refl w.heap.size w).alloc (Nat.le_refl _) (.cells #[] 52)) (World.ownsRow_made w #[] 0 (Nat.le_refl _) (by decide) rfl : (w.alloc (.cells #[] 52)).ownsRow w.heap.size 52 2 _ 0 []) hgrow (Nat.le_refl _) (Nat.le_refl _))
    clear hown4 hgrow hnil4
    go_wp2_with fail
    go_ret
    exact ⟨⟨A4, c4, rfl, own_plc HO4.out, h1, h2, own_high HO4.out⟩, HB4.out⟩
end Go.Proofs.YtkbhcncbpiimdaaGreatDoor.wlk
