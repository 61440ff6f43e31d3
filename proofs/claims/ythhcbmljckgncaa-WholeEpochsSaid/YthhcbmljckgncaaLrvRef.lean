/- What the reference's Find, Use and Put answer of a row of pairs. Condition: the row lies in memory. -/
import Derived.Test.YthhcbmljckgncaaLrvBox
import Derived.Defers
import Derived.Recover
import Derived.Deep.LoopGhost
import Derived.Lib.Hide
import Derived.StillTailTactics
import Derived.IntWalk
import Derived.Deep.Cut
import Derived.KernelRfl
import Derived.WalkSpells
import Derived.WalkLawsBesides
import Derived.Outline
import Derived.LoopTactic
import Derived.BigRegion
import Derived.ChangeAlike
import Derived.Deep.AppendLies
import Derived.BigQuiet
import Derived.Deep.QuietTactic
import Derived.Lib.MinMax
import Derived.Test.YthhcbmljckgncaaChecked
namespace Go.Proofs.Ythhcbmljckgncaa.lrr
set_option maxRecDepth 100000
open Go.RowKit Go.Proofs.Ythhcbmljckgncaa.words Go.Proofs.Ythhcbmljckgncaa.lru

def pC (p : ByteArray × Int) : List Value := [.string p.1, .int .i64 p.2]
theorem pC_one (p : ByteArray × Int) : ∀ u ∈ pC p, u.oneCell' = true := fun u hu => by
  simp only [pC, List.mem_cons, List.mem_nil_iff, or_false] at hu
  rcases hu with rfl | rfl <;> rfl
theorem pCs_one (L : List (ByteArray × Int)) : ∀ u ∈ L.flatMap pC, u.oneCell' = true := fun u hu => by
  obtain ⟨p, _, hp⟩ := List.mem_flatMap.1 hu
  exact pC_one p u hp
theorem pC_len (L : List (ByteArray × Int)) : (L.flatMap pC).length = L.length * 2 := by
  induction L with
  | nil => rfl
  | cons p L ih => rw [List.flatMap_cons, List.length_append, ih, List.length_cons]; simp [pC]; omega
theorem pC_at : ∀ {L : List (ByteArray × Int)} {i : Nat} {p : ByteArray × Int}, L[i]? = some p → ∀ j, j < 2 → (L.flatMap pC)[i * 2 + j]? = (pC p)[j]?
  | [], i, p, h, _, _ => by simp at h
  | x :: L, i, p, h, j, hj => by
    rw [List.flatMap_cons]
    rcases i with _ | i
    · obtain rfl : x = p := by simpa using h
      rw [List.getElem?_append_left (by simp [pC]; omega), Nat.zero_mul, Nat.zero_add]
    · rw [List.getElem?_append_right (by simp [pC]; omega), ← pC_at (L := L) (i := i) (by simpa using h) j hj]
      congr 1
      simp [pC]; omega
theorem pC_take (L : List (ByteArray × Int)) (m : Nat) : (L.flatMap pC).take (m * 2) = (L.take m).flatMap pC := by
  induction L generalizing m with
  | nil => simp
  | cons p L ih =>
    rcases m with _ | m
    · simp
    · rw [List.flatMap_cons, List.take_succ_cons, List.flatMap_cons, ← ih m, List.take_append, show (pC p).length = 2 from rfl, show (m + 1) * 2 - 2 = m * 2 by omega, List.take_of_length_le (by simp [pC]; omega)]
theorem pC_drop (L : List (ByteArray × Int)) (m : Nat) : (L.flatMap pC).drop (m * 2) = (L.drop m).flatMap pC := by
  induction L generalizing m with
  | nil => simp
  | cons p L ih =>
    rcases m with _ | m
    · simp
    · rw [List.flatMap_cons, List.drop_succ_cons, ← ih m, List.drop_append, show (pC p).length = 2 from rfl, show (m + 1) * 2 - 2 = m * 2 by omega, List.drop_of_length_le (by simp [pC]; omega), List.nil_append]

theorem toList_inj {a b : ByteArray} (h : a.toList = b.toList) : a = b := by
  rw [ByteArray.toList_eq, ByteArray.toList_eq] at h
  exact ByteArray.ext (Array.ext' h)
theorem toListNe {a b : ByteArray} (h : a ≠ b) : (a.toList == b.toList) = false := by
  rw [beq_eq_false_iff_ne]
  exact fun e => h (toList_inj e)
theorem key_ne {L : List (ByteArray × Int)} {i j : Nat} {k : ByteArray} {x : Int} {p : ByteArray × Int} (hi : L[i]? = some (k, x)) (hnd : (L.map (·.1)).Nodup) (hj : L[j]? = some p) (hji : j < i) : p.1 ≠ k := fun he => by
  have h1 : (L.map (·.1))[i]? = some k := by rw [List.getElem?_map, hi]; rfl
  have h2 : (L.map (·.1))[j]? = some k := by rw [List.getElem?_map, hj, ← he]; rfl
  have hjl : j < (L.map (·.1)).length := (List.getElem?_eq_some_iff.1 h2).1
  have := (List.getElem?_inj hjl hnd).1 (h2.trans h1.symm)
  omega
/-- The reference's row of pairs. -/
def Ref (w : World) (B : Nat) (v : Value) (L : List (ByteArray × Int)) : Prop := w.ownsRow B 41 2 v L.length (L.flatMap pC)
theorem Ref.pair {w : World} {B : Nat} {A : Option Addr} {c : Nat} {L : List (ByteArray × Int)} (h : Ref w B (.slice A L.length c) L) {i : Nat} {p : ByteArray × Int} (hi : L[i]? = some p) :
    ∃ b, A = some ⟨b, 0, none⟩ ∧ B ≤ b ∧ b < w.heap.size ∧ w.cell? ⟨b, i * 2, none⟩ = some (.string p.1) ∧ w.cell? ⟨b, i * 2 + 1, none⟩ = some (.int .i64 p.2) := by
  obtain ⟨g, c', h1, h2, h3, h4⟩ := own_at h (j := i * 2 + 0) (u := .string p.1) (by rw [pC_at hi 0 (by omega)]; rfl)
  obtain ⟨g', c'', h5, _, _, h6⟩ := own_at h (j := i * 2 + 1) (u := .int .i64 p.2) (by rw [pC_at hi 1 (by omega)]; rfl)
  rw [h1] at h5
  injection h5 with e1
  injection e1 with e1
  injection e1 with e1
  subst e1
  injection h1 with e1
  exact ⟨g, e1, h2, h3, h4, h6⟩
set_option maxHeartbeats 1600000 in
theorem find_yes (B i c : Nat) (A : Option Addr) (L : List (ByteArray × Int)) (k : ByteArray) (x : Int) (w : World) (h : Ref w B (.slice A L.length c) L) (hi : L[i]? = some (k, x)) (hnd : (L.map (·.1)).Nodup) (hl : L.length ≤ 1000) :
    Calls Try.prog 15 #[.slice A L.length c, .string k] w fun e w' => e = .returned (.int .i64 (i : Int)) ∧ w = w' := by
  have hlt : i < L.length := (List.getElem?_eq_some_iff.1 hi).1
  have H := Lib.hid h
  have HI := Lib.hid hi
  have HN := Lib.hid (fun (j : Nat) (p : ByteArray × Int) (hj : L[j]? = some p) (hji : j < i) => key_ne hi hnd hj hji)
  clear h hi hnd
  go_enter Try.func15, Try.ntmps15
  go_wp2_with fail
  go_loop [5] (fun v => ∃ j : Nat, j ≤ i ∧ v = .int .i64 (j : Int)) (fun v => L.length - (intOf v).toNat)
  case atStart => exact ⟨0, Nat.zero_le _, rfl⟩
  case round =>
    obtain ⟨j, hj, rfl⟩ := hrel
    have hjl : j < L.length := by omega
    obtain ⟨p, hp⟩ : ∃ p, L[j]? = some p := ⟨_, List.getElem?_eq_getElem hjl⟩
    obtain ⟨b, hA, _, _, cb, _⟩ := H.out.pair hp
    subst hA
    have j0 : (0 : Int) ≤ (j : Int) := by omega
    have j1 : (j : Int) < (L.length : Int) := by omega
    by_cases hji : j < i
    · have hne : (p.1.toList == k.toList) = false := toListNe (HN.out j p hp hji)
      clear hp
      go_wp2_with fail
      go_round
      case rel => exact ⟨j + 1, by omega, by go_num⟩
      case measure => simp [intOf]; omega
    · obtain rfl : j = i := by omega
      have hpk : p.1 = k := by have := hp.symm.trans HI.out; injection this with this; rw [this]
      rw [hpk] at cb
      have heq : (k.toList == k.toList) = true := by simp
      clear hp hpk
      go_wp2_with fail
      go_ret
      exact ⟨rfl, rfl⟩
set_option maxHeartbeats 1600000 in
theorem find_no (B c : Nat) (A : Option Addr) (L : List (ByteArray × Int)) (k : ByteArray) (w : World) (h : Ref w B (.slice A L.length c) L) (hn : ∀ p ∈ L, p.1 ≠ k) (hl : L.length ≤ 1000) :
    Calls Try.prog 15 #[.slice A L.length c, .string k] w fun e w' => e = .returned (.int .i64 (-1)) ∧ w = w' := by
  have H := Lib.hid h
  have HN := Lib.hid hn
  clear h hn
  go_enter Try.func15, Try.ntmps15
  go_wp2_with fail
  go_loop [5] (fun v => ∃ j : Nat, j ≤ L.length ∧ v = .int .i64 (j : Int)) (fun v => L.length - (intOf v).toNat)
  case atStart => exact ⟨0, Nat.zero_le _, rfl⟩
  case round =>
    obtain ⟨j, hj, rfl⟩ := hrel
    have j0 : (0 : Int) ≤ (j : Int) := by omega
    by_cases hjl : j < L.length
    · obtain ⟨p, hp⟩ : ∃ p, L[j]? = some p := ⟨_, List.getElem?_eq_getElem hjl⟩
      obtain ⟨b, hA, _, _, cb, _⟩ := H.out.pair hp
      subst hA
      have j1 : (j : Int) < (L.length : Int) := by omega
      have hne : (p.1.toList == k.toList) = false := toListNe (HN.out p (List.mem_of_getElem? hp))
      clear hp
      go_wp2_with fail
      go_round
      case rel => exact ⟨j + 1, by omega, by go_num⟩
      case measure => simp [intOf]; omega
    · go_wp2_with fail
      go_ret
      exact ⟨rfl, rfl⟩

theorem infoRef : (Try.prog.info? 41).map (fun i => (i.zero, i.size, i.bytes)) = some (some (.agg #[.string ⟨#[]⟩, .int .i64 0]), 2, 24) := by kernel_rfl
theorem rest_snoc (L : List (ByteArray × Int)) (k : ByteArray) {j : Nat} {p : ByteArray × Int} (hp : L[j]? = some p) : rest (L.take (j + 1)) k = rest (L.take j) k ++ (if p.1 = k then [] else [p]) := by
  obtain ⟨hj, hx⟩ := List.getElem?_eq_some_iff.1 hp
  rw [List.take_succ_eq_append_getElem hj, hx]
  unfold rest
  rw [List.filter_append]
  congr 1
  by_cases h : p.1 = k <;> simp [h]
theorem rest_take_le (L : List (ByteArray × Int)) (k : ByteArray) (j : Nat) : (rest (L.take j) k).length ≤ L.length := by
  have := rest_le (L.take j) k
  rw [List.length_take] at this
  omega
def UseIn (w : World) (L : List (ByteArray × Int)) (e : Ending) (w' : World) : Prop := ∃ v, e = .returned v ∧ Ref w' w.heap.size v L ∧ Below w.heap.size w w'
set_option maxHeartbeats 3200000 in
theorem use_any (B c : Nat) (A : Option Addr) (L : List (ByteArray × Int)) (k : ByteArray) (x : Int) (w : World) (h : Ref w B (.slice A L.length c) L) (hl : L.length ≤ 1000) :
    Calls Try.prog 16 #[.slice A L.length c, .agg #[.string k, .int .i64 x]] w (UseIn w ((k, x) :: rest L k)) := by
  obtain ⟨iE, hiE, zE0, zE1, zE2⟩ := info_three infoRef
  obtain ⟨W1, hW1⟩ : ∃ W1, W1 = w.alloc (.cells #[.string k, .int .i64 x] 41) := ⟨_, rfl⟩
  obtain ⟨W2, hW2⟩ : ∃ W2, W2 = W1.alloc (.cells #[.string k, .int .i64 x] 41) := ⟨_, rfl⟩
  have hb1 : Below w.heap.size w W1 := by rw [hW1]; exact (Below.refl _ _).alloc (Nat.le_refl _) _
  have hz1 : W1.heap.size = w.heap.size + 1 := by rw [hW1]; simp
  have hb2 : Below W1.heap.size W1 W2 := by rw [hW2]; exact (Below.refl _ _).alloc (Nat.le_refl _) _
  have hk1 : W1.heap[w.heap.size]? = some (.cells #[.string k, .int .i64 x] 41 (0, 0)) := by rw [hW1]; exact heap_alloc_new w _
  have q0 : W1.cell? ⟨w.heap.size, 0, none⟩ = some (.string k) := cell_of_blk hk1 0
  have q1 : W1.cell? ⟨w.heap.size, 1, none⟩ = some (.int .i64 x) := cell_of_blk hk1 1
  have ho2 : W2.ownsRow W1.heap.size 41 2 (.slice (some ⟨W1.heap.size, 0, none⟩) 1 1) 1 (([(k, x)] : List (ByteArray × Int)).flatMap pC) := by
    rw [hW2]
    exact own_full W1 W1.heap.size 2 1 41 (([(k, x)] : List (ByteArray × Int)).flatMap pC) (Nat.le_refl _) (by decide) rfl
  have H := Lib.hid h
  have HB1 := Lib.hid hb1
  have HK1 := Lib.hid hk1
  have HO2 := Lib.hid ho2
  have HB2 := Lib.hid hb2
  have HW1 := Lib.hid hW1
  have HW2 := Lib.hid hW2
  have HZ1 := Lib.hid hz1
  rw [hz1] at ho2
  clear h hb1 hk1 ho2 hb2 hW1 hW2 hz1
  go_enter Try.func16, Try.ntmps16
  go_upto_region 1 with fail
  rw [← HW1.out]
  go_upto_region 2 with fail
  rw [← HW2.out]
  clear q0 q1
  go_wp2_with fail
  go_loopw [6, 5] (fun v v5 wr => ∃ j : Nat, v = .int .i64 (j : Int) ∧ j ≤ L.length ∧ Hid (wr.ownsRow W1.heap.size 41 2 v5 (1 + (rest (L.take j) k).length) (((k, x) :: rest (L.take j) k).flatMap pC)) ∧ Hid (Below W1.heap.size W1 wr)) (fun v _ _ => L.length - (intOf v).toNat)
  case atStart => exact ⟨0, rfl, Nat.zero_le _, HO2, HB2⟩
  case round =>
    obtain ⟨j, rfl, hj, HO, HB⟩ := hrel
    obtain ⟨Ar, cr, rfl, hcr, _, _⟩ := own_facts HO.out
    have j0 : (0 : Int) ≤ (j : Int) := by omega
    by_cases hjl : j < L.length
    · obtain ⟨p, hp⟩ : ∃ p, L[j]? = some p := ⟨_, List.getElem?_eq_getElem hjl⟩
      obtain ⟨b, hA, _, hbl, cb0, cb1⟩ := H.out.pair hp
      subst hA
      have j1 : (j : Int) < (L.length : Int) := by omega
      have hbw : b < W1.heap.size := by have := HB1.out.size; omega
      have c0 : wr.cell? ⟨b, j * 2, none⟩ = some (.string p.1) := (HB.out.cell (p := ⟨b, j * 2, none⟩) hbw).trans ((HB1.out.cell (p := ⟨b, j * 2, none⟩) hbl).trans cb0)
      have c1 : wr.cell? ⟨b, j * 2 + 1, none⟩ = some (.int .i64 p.2) := (HB.out.cell (p := ⟨b, j * 2 + 1, none⟩) hbw).trans ((HB1.out.cell (p := ⟨b, j * 2 + 1, none⟩) hbl).trans cb1)
      have hwl : w.heap.size < W1.heap.size := by have := HZ1.out; omega
      have q0 : wr.cell? ⟨w.heap.size, 0, none⟩ = some (.string k) := (HB.out.cell (p := ⟨w.heap.size, 0, none⟩) hwl).trans (cell_of_blk HK1.out 0)
      by_cases hpk : p.1 = k
      · have hne : (k.toList != k.toList) = false := by simp
        have HO' : Hid (wr.drew.ownsRow W1.heap.size 41 2 (.slice Ar (1 + (rest (L.take j) k).length) cr) (1 + (rest (L.take (j + 1)) k).length) (((k, x) :: rest (L.take (j + 1)) k).flatMap pC)) := Lib.hid (by
          rw [rest_snoc L k hp, if_pos hpk, List.append_nil]; exact HO.out)
        have HB' : Hid (Below W1.heap.size W1 wr.drew) := Lib.hid ⟨HB.out.os, HB.out.tape, HB.out.output, HB.out.size, HB.out.block⟩
        rw [hpk] at c0
        clear hp hpk HO HB cb0 cb1
        go_wp2_with fail
        go_region
        all_goals
          go_wp2_with fail
          go_roundw
          case rel => exact ⟨j + 1, by go_num, by omega, HO', HB'⟩
          case measure => simp [intOf]; omega
      · have hne : (p.1.toList != k.toList) = true := by rw [bne, toListNe hpk]; rfl
        have hne4 : (!(p.1.toList == k.toList)) = true := by rw [toListNe hpk]; rfl
        obtain ⟨Wd, hWd⟩ : ∃ Wd, Wd = wr.drew := ⟨_, rfl⟩
        obtain ⟨Wc, hWc⟩ : ∃ Wc, Wc = Wd.alloc (.cells #[.string p.1, .int .i64 p.2] 41) := ⟨_, rfl⟩
        have hbd : Below wr.heap.size wr Wd := by rw [hWd]; exact ⟨rfl, rfl, rfl, Nat.le_refl _, fun _ _ => rfl⟩
        have hzd : Wd.heap.size = wr.heap.size := by rw [hWd]; rfl
        have hbc : Below Wd.heap.size Wd Wc := by rw [hWc]; exact (Below.refl _ _).alloc (Nat.le_refl _) _
        have HNc : Hid (∀ (i : Nat) (u : Value), (pC p)[i]? = some u → Wc.cell? ((⟨Wd.heap.size, 0, none⟩ : Addr).add i) = some u) := Lib.hid fun i u hi => by rw [hWc, new_cell]; simpa [pC] using hi
        have hbdc : Below wr.heap.size wr Wc := hbd.trans (hbc.mono (Nat.le_of_eq hzd.symm))
        have HOc := Lib.hid (ownL HO.out hbdc)
        have HBc := Lib.hid (HB.out.trans (hbdc.mono HB.out.size))
        have d1 : Wd.cell? ⟨b, j * 2, none⟩ = some (.string p.1) := by rw [hWd]; exact c0
        have d2 : Wd.cell? ⟨b, j * 2 + 1, none⟩ = some (.int .i64 p.2) := by rw [hWd]; exact c1
        have HTk : Hid (((k, x) :: rest (L.take (j + 1)) k).flatMap pC = ((k, x) :: rest (L.take j) k).flatMap pC ++ pC p ∧ 1 + (rest (L.take (j + 1)) k).length = 1 + (rest (L.take j) k).length + 1) := Lib.hid (by
          rw [rest_snoc L k hp, if_neg hpk]
          refine ⟨?_, by simp; omega⟩
          rw [← List.cons_append, List.flatMap_append, List.flatMap_singleton])
        have hlr := rest_take_le L k j
        have HONE := Lib.hid (pC_one p)
        have HWd := Lib.hid hWd
        have HWc := Lib.hid hWc.symm
        clear hp hpk HO HB cb0 cb1 hWd hWc hbd hzd hbc hbdc
        go_wp2_with fail
        go_region
        all_goals
          rw [← HWd.out]
          clear c0 c1 q0
          go_wp2_with (at_builtin; rw [HWc.out]; refine wpList_append_own _ rfl (.tmp 23) (.tmp 28) 38 rfl W1.heap.size 41 iE _ 2 24 Try.underlying38 hiE zE0 zE1 zE2 rfl (by omega) (.slice Ar (1 + (rest (L.take j) k).length) cr) (1 + (rest (L.take j) k).length) (((k, x) :: rest (L.take j) k).flatMap pC) rfl HOc.out ⟨Wd.heap.size, 0, none⟩ 1 1 (pC p) rfl rfl HNc.out HONE.out (by simp only [maxLen]; omega) (by omega) HBc.out.size ?_; intro v5' wq hownq hgrowq hnilq)
          have HBq := Lib.hid (keep_grown HBc.out HOc.out hgrowq (Nat.le_refl _) (Nat.le_refl _))
          have HOq : Hid (wq.ownsRow W1.heap.size 41 2 v5' (1 + (rest (L.take (j + 1)) k).length) (((k, x) :: rest (L.take (j + 1)) k).flatMap pC)) := Lib.hid (by rw [HTk.out.1, HTk.out.2]; exact hownq)
          clear hownq hgrowq hnilq
          go_roundw
          case rel => exact ⟨j + 1, by go_num, by omega, HOq, HBq⟩
          case measure => simp [intOf]; omega
    · obtain rfl : j = L.length := by omega
      have HE : Hid (UseIn w ((k, x) :: rest L k) (.returned (.slice Ar (1 + (rest (L.take L.length) k).length) cr)) wr) := Lib.hid ⟨_, rfl, by
        have h := HO.out
        rw [List.take_length] at h ⊢
        unfold Ref
        rw [show ((k, x) :: rest L k).length = 1 + (rest L k).length by rw [List.length_cons, Nat.add_comm]]
        exact own_mono h (show w.heap.size ≤ W1.heap.size by have := HZ1.out; omega), HB1.out.trans (HB.out.mono HB1.out.size)⟩
      clear HO HB
      go_wp2_with fail
      go_ret
      exact HE.out
theorem cut_ref (A : Option Addr) (l n c : Nat) (hn : n ≤ c) (W : World) : (Instr.slice 38 (.slice A l c) none (some (.int .i64 (n : Int))) none).run Try.prog W = .ok (.slice A n c) W := by
  obtain ⟨i0, hi, hz0, hz1, hz2⟩ := info_three infoRef
  have he : Try.prog.elem 38 = 41 := by kernel_rfl
  rw [run_slice_h (P := Try.prog) W 38 A l c (by kernel_rfl) .i64 (n : Int) (by omega) (by omega), he]
  simp [sizeOf, typeInfo, hi, hz1, Result.andThen, sliced]
  rcases A with _ | A
  · intro _; rfl
  · simp [Addr.add]
def RPutIn (w : World) (r : Nat) (L : List (ByteArray × Int)) (k : ByteArray) (x : Int) (e : Ending) (w' : World) : Prop :=
  ∃ v, e = .returned (.tuple #[v, .string (goneK L r k ⟨#[]⟩), .bool (goneB L r k)]) ∧ Ref w' w.heap.size v (putL L r k x) ∧ Below w.heap.size w w'
theorem last_of {L : List (ByteArray × Int)} {r : Nat} {k : ByteArray} {x : Int} (hr : 1 ≤ r) (hg : goneB L r k = true) :
    ∃ p, ((k, x) :: rest L k)[(rest L k).length]? = some p ∧ goneK L r k ⟨#[]⟩ = p.1 := by
  have h : r < (rest L k).length + 1 := by simpa [goneB] using hg
  unfold goneK
  rw [if_pos hg]
  rcases hl : (rest L k) with _ | ⟨a, T⟩
  · rw [hl] at h; simp at h; omega
  · have hlt : T.length < (a :: T).length := by simp
    refine ⟨(a :: T)[T.length], ?_, ?_⟩
    · rw [List.length_cons, List.getElem?_cons_succ]
      exact List.getElem?_eq_getElem hlt
    · rw [List.getLast?_eq_getElem?, List.length_cons, Nat.add_sub_cancel, List.getElem?_eq_getElem hlt]
      rfl
set_option maxHeartbeats 1600000 in
theorem rput_any (B c r : Nat) (A : Option Addr) (L : List (ByteArray × Int)) (k : ByteArray) (x : Int) (w : World) (h : Ref w B (.slice A L.length c) L) (hl : L.length ≤ 1000) (hr : 1 ≤ r) :
    Calls Try.prog 19 #[.slice A L.length c, .int .i64 (r : Int), .agg #[.string k, .int .i64 x]] w (RPutIn w r L k x) := by
  obtain ⟨W1, hW1⟩ : ∃ W1, W1 = w.alloc (.cells #[.string k, .int .i64 x] 41) := ⟨_, rfl⟩
  have hb1 : Below w.heap.size w W1 := by rw [hW1]; exact (Below.refl _ _).alloc (Nat.le_refl _) _
  have hk1 : W1.heap[w.heap.size]? = some (.cells #[.string k, .int .i64 x] 41 (0, 0)) := by rw [hW1]; exact heap_alloc_new w _
  have q0 : W1.cell? ⟨w.heap.size, 0, none⟩ = some (.string k) := cell_of_blk hk1 0
  have q1 : W1.cell? ⟨w.heap.size, 1, none⟩ = some (.int .i64 x) := cell_of_blk hk1 1
  have HU := Lib.hid (use_any B c A L k x W1 (ownL h hb1) hl)
  have hlr := rest_le L k
  have HB1 := Lib.hid hb1
  have HW1 := Lib.hid hW1
  clear h hb1 hk1 hW1
  obtain ⟨n, hn⟩ : ∃ n, n = (rest L k).length := ⟨_, rfl⟩
  by_cases hg : goneB L r k = true
  · obtain ⟨p, hp, hpk⟩ := last_of (x := x) hr hg
    have hrl : r < n + 1 := by have : r < (rest L k).length + 1 := by simpa [goneB] using hg
                               omega
    rw [← hn] at hp hlr
    have hlen : ((k, x) :: rest L k).length = n + 1 := by rw [List.length_cons, hn]
    have HP := Lib.hid hp
    have hput : putL L r k x = ((k, x) :: rest L k).take n := by unfold putL; rw [if_pos hg, List.dropLast_eq_take, hlen]; rfl
    have HPut := Lib.hid hput
    have HLen := Lib.hid hlen
    have HPK := Lib.hid hpk
    have HG := Lib.hid hg
    have i0 : (0 : Int) ≤ (n : Int) := by omega
    have i1 : (n : Int) < (n : Int) + 1 := by omega
    have i2 : IntKind.i64.wrap (n : Int) = (n : Int) := IntWalk.i64_in _ (by omega)
    have i3 : IntKind.i64.wrap (((n + 1 : Nat) : Int) - 1) = (n : Int) := by rw [IntWalk.i64_in _ (by omega)]; omega
    have i4 : ¬ n + 1 ≤ r := by omega
    have i5 : ¬ (n : Int) + 1 ≤ (r : Int) := by omega
    clear hp hput hlen hn hg hpk
    go_enter Try.func19, Try.ntmps19
    go_upto_region 1 with fail
    rw [← HW1.out]
    go_wp2_with fail
    refine HU.out.mono ?_
    rintro e w2 ⟨v, rfl, hv, hb2⟩
    obtain ⟨A2, c2, rfl, hle2, hm2, _⟩ := own_facts hv
    have hvr := hv
    rw [HLen.out] at hvr hle2 ⊢
    unfold Ref at hv
    rw [HLen.out] at hv
    obtain ⟨b, hA, _, _, cb, _⟩ := Ref.pair (L := (k, x) :: rest L k) (c := c2) (A := A2) (by unfold Ref; rw [HLen.out]; exact hv) HP.out
    subst hA
    unfold maxLen at hm2
    have hcut := fun W => cut_ref (some ⟨b, 0, none⟩) (n + 1) n c2 (by omega) W
    have hE : RPutIn w r L k x (.returned (.tuple #[.slice (some ⟨b, 0, none⟩) n c2, .string p.1, .bool true])) w2 := by
      refine ⟨_, by rw [HPK.out, HG.out], ?_, HB1.out.trans (hb2.mono HB1.out.size)⟩
      have hc := own_cut hv n (by omega)
      rw [pC_take] at hc
      unfold Ref
      rw [HPut.out, List.length_take, HLen.out, Nat.min_eq_left (by omega)]
      exact own_mono hc HB1.out.size
    have HE := Lib.hid hE
    clear hE hv hvr hb2 q0 q1
    go_wp2_with fail
    go_ret3
    exact HE.out
  · have hrl : n + 1 ≤ r := by have : ¬ r < (rest L k).length + 1 := by simpa [goneB] using hg
                               omega
    have hg' : goneB L r k = false := by simpa using hg
    rw [← hn] at hlr
    have hlen : ((k, x) :: rest L k).length = n + 1 := by rw [List.length_cons, hn]
    have hput : putL L r k x = (k, x) :: rest L k := by unfold putL; rw [if_neg hg]
    have hgk : goneK L r k ⟨#[]⟩ = (⟨#[]⟩ : ByteArray) := by unfold goneK; rw [if_neg hg]
    have HPut := Lib.hid hput
    have HLen := Lib.hid hlen
    have HG := Lib.hid hg'
    have HGK := Lib.hid hgk
    have i5 : (n : Int) + 1 ≤ (r : Int) := by omega
    clear hput hlen hn hg hg' hgk
    go_enter Try.func19, Try.ntmps19
    go_upto_region 1 with fail
    rw [← HW1.out]
    go_wp2_with fail
    refine HU.out.mono ?_
    rintro e w2 ⟨v, rfl, hv, hb2⟩
    obtain ⟨A2, c2, rfl, _, _, _⟩ := own_facts hv
    have hE : RPutIn w r L k x (.returned (.tuple #[.slice A2 ((k, x) :: rest L k).length c2, .string ⟨#[]⟩, .bool false])) w2 := by
      refine ⟨_, by rw [HGK.out, HG.out], ?_, HB1.out.trans (hb2.mono HB1.out.size)⟩
      unfold Ref
      rw [HPut.out]
      exact own_mono hv HB1.out.size
    rw [HLen.out] at hE ⊢
    have HE := Lib.hid hE
    clear hE hv hb2 q0 q1
    go_wp2_with fail
    go_ret3
    exact HE.out

/-! Keys -/
end Go.Proofs.Ythhcbmljckgncaa.lrr
