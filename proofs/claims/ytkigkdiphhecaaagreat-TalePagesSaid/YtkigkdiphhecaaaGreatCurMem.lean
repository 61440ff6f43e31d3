/- A table of cursors in memory: a block of three cells and a map; New, Len, Room, Get of it. Condition: the table lies in memory. -/
import Derived.Test.YtkigkdiphhecaaaGreatMapInt
import Derived.Test.YtkigkdiphhecaaaGreatLrvBox
import Derived.Defers
import Derived.Deep.LoopGhost
import Derived.Lib.Hide
import Derived.Lib.MinMax
import Derived.StillTailTactics
import Derived.IntWalk
import Derived.Deep.Cut
import Derived.KernelRfl
import Derived.WalkSpells
import Derived.WalkLawsBesides
import Derived.Outline
import Derived.LoopTactic
import Derived.BigRegion
import Derived.ChangeAlike
import Derived.BigQuiet
import Derived.Deep.QuietTactic
import Derived.Maps.RangeWalk
import Derived.Carry
import Derived.Test.YtkigkdiphhecaaaGreatChecked
namespace Go.Proofs.YtkigkdiphhecaaaGreat.cur
set_option maxRecDepth 100000
open Go.RowKit Go.Proofs.YtkigkdiphhecaaaGreat.words Go.Proofs.YtkigkdiphhecaaaGreat.lru Go.Proofs.YtkigkdiphhecaaaGreat.mpi

/-- A cursor. -/
structure Cu where
  ep : Int
  dr : ByteArray
  at_ : Int
def c0 : Cu := ⟨0, ⟨#[]⟩, 0⟩
def curV (c : Cu) : Value := .agg #[.int .i64 c.ep, .string c.dr, .int .i64 c.at_]
/-- Cursors by numbers. -/
abbrev Cs := List (Int × Cu)
def cR (L : Cs) : List Pr := L.map fun p => (p.1, curV p.2)
def valC : Cs → Int → Option Cu
  | [], _ => none
  | (y, c) :: L, x => if x = y then some c else valC L x
theorem cR_len (L : Cs) : (cR L).length = L.length := List.length_map ..
theorem cR_val (x : Int) : ∀ L : Cs, valP (cR L) x = (valC L x).map curV
  | [] => rfl
  | (y, c) :: L => by
    have ih := cR_val x L
    unfold cR at ih ⊢
    rw [List.map_cons]
    unfold valP valC
    rw [ih]
    split <;> rfl
theorem cR_keys (L : Cs) : (cR L).map (·.1) = L.map (·.1) := by unfold cR; rw [List.map_map]; rfl
theorem cR_snoc (L : Cs) (x : Int) (c : Cu) : cR (L ++ [(x, c)]) = cR L ++ [(x, curV c)] := by unfold cR; rw [List.map_append]; rfl
def setC (L : Cs) (x : Int) (c : Cu) : Cs := L.map fun p => if p.1 = x then (x, c) else p
def delC (L : Cs) (x : Int) : Cs := L.filter fun p => !(p.1 == x)
theorem cR_set (L : Cs) (x : Int) (c : Cu) : cR (setC L x c) = setL (cR L) x (curV c) := by
  unfold cR setC setL
  rw [List.map_map, List.map_map]
  apply List.map_congr_left
  intro p _
  simp only [Function.comp]
  split <;> rfl
theorem cR_del (L : Cs) (x : Int) : cR (delC L x) = delL (cR L) x := by
  unfold cR delC delL
  rw [List.filter_map]
  rfl
theorem valC_none {x : Int} {L : Cs} : valC L x = none ↔ ∀ p ∈ L, p.1 ≠ x := by
  have h1 : valC L x = none ↔ valP (cR L) x = none := by rw [cR_val]; simp
  rw [h1, valP_none]
  unfold cR
  constructor
  · intro h p hp
    exact h _ (List.mem_map.2 ⟨p, hp, rfl⟩)
  · intro h p hp
    obtain ⟨p', hp', rfl⟩ := List.mem_map.1 hp
    exact h p' hp'

/-- At block t a table with room for r, of which n were ever opened; its map is at block m. -/
def Tb (w : World) (B t m : Nat) (r n : Int) (L : Cs) : Prop :=
  B ≤ t ∧ B ≤ m ∧ w.heap[t]? = some (.cells #[.int .i64 r, .int .i64 n, .map (some m)] 67 (0, 0)) ∧ MapL w Tryz.prog 3 m (cR L)
def Bk (t m : Nat) (j : Nat) : Prop := j = t ∨ j = m
section
variable {S : Nat → Prop} {w w' : World} {B t m : Nat} {r n : Int} {L : Cs}
theorem Tb.tn (h : Tb w B t m r n L) (ht : Tn S w w') (hS : ∀ j, Bk t m j → ¬ S j) : Tb w' B t m r n L := by
  obtain ⟨h1, h2, h3, h4⟩ := h
  exact ⟨h1, h2, (ht.block t (lt_of_some h3) (hS t (.inl rfl))).trans h3, h4.of_block (ht.block m h4.lt (hS m (.inr rfl)))⟩
theorem Tb.quiet (h : Tb w B t m r n L) (ht : Tn (fun _ => False) w w') : Tb w' B t m r n L := h.tn ht fun _ _ hc => hc
theorem Tb.later (h : Tb w B t m r n L) (hb : Below w.heap.size w w') : Tb w' B t m r n L := h.quiet (Tn.of_below hb _)
theorem Tb.ne (h : Tb w B t m r n L) : t ≠ m := fun e => by
  subst e
  exact h.2.2.2.not _ _ _ h.2.2.1
theorem Tb.lt (h : Tb w B t m r n L) (j : Nat) (hj : Bk t m j) : B ≤ j ∧ j < w.heap.size := by
  rcases hj with rfl | rfl
  · exact ⟨h.1, lt_of_some h.2.2.1⟩
  · exact ⟨h.2.1, h.2.2.2.lt⟩
theorem Tb.nd (h : Tb w B t m r n L) : (L.map (·.1)).Nodup := by
  have := h.2.2.2.nd
  rwa [cR_keys] at this
theorem Tb.type (h : Tb w B t m r n L) {j : Nat} (hj : Bk t m j) {cs : Array Value} {ty : TypeId} {f : Nat × Nat} (hc : w.heap[j]? = some (.cells cs ty f)) : ty = 67 := by
  rcases hj with rfl | rfl
  · rw [h.2.2.1] at hc
    injection hc with hc
    injection hc with _ hc
    exact hc.symm
  · exact absurd hc (h.2.2.2.not _ _ _)
end
/-- What a call leaves of a table. -/
structure Kept (w : World) (B t m : Nat) (r n : Int) (L : Cs) (w' : World) : Prop where
  tb : Tb w' B t m r n L
  tn : Tn (Bk t m) w w'
theorem Kept.below {w w' : World} {B t m : Nat} {r n n0 : Int} {L L0 : Cs} (h : Kept w B t m r n L w') (h0 : Tb w B t m r n0 L0) (hB : B ≤ w.heap.size) : Below B w w' := h.tn.below (fun k hk => (h0.lt k hk).1) hB

theorem zeroCur (w : World) : (zeroValue 97).run Tryz.prog w = .ok (curV c0) w := by kernel_rfl
def MadeC (w : World) (r : Int) (e : Ending) (w' : World) : Prop := ∃ t m, e = .returned (.pointer (some ⟨t, 0, none⟩)) ∧ Tb w' w.heap.size t m r 0 [] ∧ Below w.heap.size w w'
theorem new_any (room r : Int) (w : World) (hr : r = min (max room 1) 1024) :
    Calls Tryz.prog 26 #[.int .i64 room] w (MadeC w r) := by
  obtain ⟨m1, hm1⟩ : ∃ m1, max room 1 = m1 := ⟨_, rfl⟩
  rw [hm1] at hr
  have hm2 : min m1 1024 = r := hr.symm
  have hmm := @run_makeMap Tryz.prog
  obtain ⟨W1, hW1⟩ : ∃ W1, W1 = w.alloc (.map #[] 0) := ⟨_, rfl⟩
  obtain ⟨W2, hW2⟩ : ∃ W2, W2 = W1.alloc (.cells #[.int .i64 r, .int .i64 0, .map (some w.heap.size)] 67) := ⟨_, rfl⟩
  have hb1 : Below w.heap.size w W1 := by rw [hW1]; exact (Below.refl _ _).alloc (Nat.le_refl _) _
  have hz : W1.heap.size = w.heap.size + 1 := by rw [hW1]; simp
  have hb2 : Below W1.heap.size W1 W2 := by rw [hW2]; exact (Below.refl _ _).alloc (Nat.le_refl _) _
  have hm : MapL W1 Tryz.prog 3 w.heap.size (cR []) := by rw [hW1]; exact MapL.made w Tryz.prog 3
  have HE : Hid (MadeC w r (.returned (.pointer (some ⟨w.heap.size + 1, 0, none⟩))) W2) := Lib.hid ⟨_, w.heap.size, rfl, ⟨Nat.le_succ _, Nat.le_refl _, by rw [← hz, hW2]; exact heap_alloc_new W1 _, hm.of_block (hb2.block _ hm.lt)⟩, hb1.trans (hb2.mono hb1.size)⟩
  clear hr hb1 hz hb2 hm
  go_enter Tryz.func26, Tryz.ntmps26
  go_wp2
  rw [← hW1, ← hW2]
  clear hW1 hW2
  go_ret
  exact HE.out
section
variable (B t m : Nat) (r n : Int) (L : Cs) (x : Int) (w : World)
theorem clen_any (h : Tb w B t m r n L) :
    Calls Tryz.prog 49 #[.pointer (some ⟨t, 0, none⟩)] w fun e w' => e = .returned (.int .i64 (L.length : Int)) ∧ w = w' := by
  have d2 := cell_of_blk h.2.2.1 2
  have hl := fun ty => h.2.2.2.len Tryz.underlying65 ty
  rw [cR_len] at hl
  clear h
  go_enter Tryz.func49, Tryz.ntmps49
  go_wp2
  go_ret
  exact ⟨rfl, rfl⟩
/-- What Get answers. -/
def gotC (L : Cs) (x : Int) : Cu := (valC L x).getD c0
def gotE (L : Cs) (x : Int) : Int := if (valC L x).isSome then 0 else 9
def GotC (w : World) (c : Cu) (k : Int) (e : Ending) (w' : World) : Prop := e = .returned (.tuple #[.agg #[.int .i64 c.ep, .string c.dr, .int .i64 c.at_], .int .i64 k]) ∧ Below w.heap.size w w'
theorem get_ends {w w1 w9 : World} {q : Nat} {c : Cu} {cs : Array Value} (hb : Below w.heap.size w w1) (hq : w.heap.size ≤ q) (hz : w1.heap[q]? = some (.cells cs 97 (0, 0))) (hc : cs.size = 3)
    (h9 : w9 = ((w1.setCell ⟨q, 0, none⟩ (.int .i64 c.ep)).setCell ⟨q, 1, none⟩ (.string c.dr)).setCell ⟨q, 2, none⟩ (.int .i64 c.at_)) : w9.heap[q]? = some (.cells #[.int .i64 c.ep, .string c.dr, .int .i64 c.at_] 97 (0, 0)) ∧ Below w.heap.size w w9 := by
  have e : w9 = setsV w1 q 0 [.int .i64 c.ep, .string c.dr, .int .i64 c.at_] := h9
  constructor
  · rw [e]
    exact setsV_all hz hc.symm
  · rw [e]
    exact ((Tn.of_below hb (fun k => k = q)).trans (setsV_tn (S := fun k => k = q) _ (.inr rfl) _ _ _ (Tn.refl _ _))).below (fun k hk => by omega) (Nat.le_refl _)
set_option maxHeartbeats 800000 in
theorem get_any (h : Tb w B t m r n L) (hx : Fits x) :
    Calls Tryz.prog 61 #[.pointer (some ⟨t, 0, none⟩), .int .i64 x] w (GotC w (gotC L x) (gotE L x)) := by
  obtain ⟨W1, hW1⟩ : ∃ W1, W1 = w.alloc (.cells #[.int .i64 0, .string ⟨#[]⟩, .int .i64 0] 97) := ⟨_, rfl⟩
  have hb1 : Below w.heap.size w W1 := by rw [hW1]; exact (Below.refl _ _).alloc (Nat.le_refl _) _
  have hk1 : W1.heap[w.heap.size]? = some (.cells #[.int .i64 0, .string ⟨#[]⟩, .int .i64 0] 97 (0, 0)) := by rw [hW1]; exact heap_alloc_new w _
  have hT1 := h.later hb1
  have d2 := cell_of_blk hT1.2.2.1 2
  obtain ⟨c, hc⟩ : ∃ c, c = gotC L x := ⟨_, rfl⟩
  obtain ⟨k, hk⟩ : ∃ k, k = gotE L x := ⟨_, rfl⟩
  rw [← hc, ← hk]
  obtain ⟨ep, dr, at_⟩ := c
  obtain ⟨W2, hW2⟩ : ∃ W2, W2 = W1.alloc (.cells #[.int .i64 ep, .string dr, .int .i64 at_] 97) := ⟨_, rfl⟩
  have hb2 : Below W1.heap.size W1 W2 := by rw [hW2]; exact (Below.refl _ _).alloc (Nat.le_refl _) _
  have hk2 : W2.heap[W1.heap.size]? = some (.cells #[.int .i64 ep, .string dr, .int .i64 at_] 97 (0, 0)) := by rw [hW2]; exact heap_alloc_new W1 _
  have hk12 := (hb2.block _ (lt_of_some hk1)).trans hk1
  have s0 := cell_of_blk hk2 0
  have s1 := cell_of_blk hk2 1
  have s2 := cell_of_blk hk2 2
  have z0 := cell_of_blk hk12 0
  have z1 := cell_of_blk hk12 1
  have z2 := cell_of_blk hk12 2
  have fz0 := free_of_blk hk12 0
  have fz1 := free_of_blk hk12 1
  have fz2 := free_of_blk hk12 2
  have hlk := hT1.2.2.2.look_ok Tryz.underlying3 Tryz.underlying65 (zeroCur W1) hx
  rw [cR_val] at hlk
  obtain ⟨W9, hW9⟩ : ∃ W9, W9 = ((W2.setCell ⟨w.heap.size, 0, none⟩ (.int .i64 ep)).setCell ⟨w.heap.size, 1, none⟩ (.string dr)).setCell ⟨w.heap.size, 2, none⟩ (.int .i64 at_) := ⟨_, rfl⟩
  obtain ⟨k1, k2⟩ := get_ends (c := ⟨ep, dr, at_⟩) (hb1.trans (hb2.mono hb1.size)) (Nat.le_refl _) hk12 rfl hW9
  have y0 := cell_of_blk k1 0
  have y1 := cell_of_blk k1 1
  have y2 := cell_of_blk k1 2
  have HE : Hid (GotC w ⟨ep, dr, at_⟩ k (.returned (.tuple #[.agg #[.int .i64 ep, .string dr, .int .i64 at_], .int .i64 k])) W9) := Lib.hid ⟨rfl, k2⟩
  have HW1 := Lib.hid hW1
  have HW2 := Lib.hid hW2
  obtain ⟨q, hq⟩ : ∃ q, q = W1.heap.size := ⟨_, rfl⟩
  rw [← hq] at s0 s1 s2
  have HQ : Hid (W1.heap.size = q) := Lib.hid hq.symm
  have HQ2 : Hid (w.heap.size + 1 = q) := Lib.hid (by rw [hq, hW1]; simp)
  rcases hv : valC L x with _ | c
  · have ek : k = 9 := by rw [hk]; unfold gotE; rw [hv]; rfl
    have ec : (⟨ep, dr, at_⟩ : Cu) = c0 := by rw [hc]; unfold gotC; rw [hv]; rfl
    rw [hv] at hlk
    injection ec with e1 e2 e3
    subst e1 e2 e3 ek
    replace hlk : (Instr.lookup 65 (.map (some m)) (.int .i64 x) true).run Tryz.prog W1 = .ok (.tuple #[.agg #[.int .i64 0, .string ⟨#[]⟩, .int .i64 0], .bool false]) W1 := hlk
    clear h hb1 hk1 hT1 hb2 hk2 hk12 hx hc hk hv k1 k2 hW1 hW2 hq
    go_enter Tryz.func61, Tryz.ntmps61
    go_upto_region 1 with fail
    rw [← HW1.out]
    go_upto_region 2 with fail
    rw [← HW2.out]
    clear d2 hlk
    go_wp2
    rw [← hW9]
    exact bodyPost_ret (v := .tuple #[.agg #[.int .i64 0, .string ⟨#[]⟩, .int .i64 0], .int .i64 9]) (by simp [results, Tryz.results61, go_sem, y0, y1, y2]) rfl HE.out
  · have ek : k = 0 := by rw [hk]; unfold gotE; rw [hv]; rfl
    have ec : (⟨ep, dr, at_⟩ : Cu) = c := by rw [hc]; unfold gotC; rw [hv]; rfl
    rw [hv] at hlk
    subst ec ek
    replace hlk : (Instr.lookup 65 (.map (some m)) (.int .i64 x) true).run Tryz.prog W1 = .ok (.tuple #[.agg #[.int .i64 ep, .string dr, .int .i64 at_], .bool true]) W1 := hlk
    clear h hb1 hk1 hT1 hb2 hk2 hk12 hx hc hk hv k1 k2 hW1 hW2 hq
    go_enter Tryz.func61, Tryz.ntmps61
    go_upto_region 1 with fail
    rw [← HW1.out]
    go_upto_region 2 with fail
    rw [← HW2.out]
    try rw [HQ.out]
    try rw [HQ2.out]
    clear d2 hlk
    go_wp2
    rw [← hW9]
    exact bodyPost_ret (v := .tuple #[.agg #[.int .i64 ep, .string dr, .int .i64 at_], .int .i64 0]) (by simp [results, Tryz.results61, go_sem, y0, y1, y2]) rfl HE.out
end
end Go.Proofs.YtkigkdiphhecaaaGreat.cur
