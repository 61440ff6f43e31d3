/- CursorDoes: what is kept, round by round. No condition. -/
import Derived.Test.YthmehalkijbpdaaCurSt
import Derived.Test.YthmehalkijbpdaaArgAct18
namespace Go.Proofs.Ythmehalkijbpdaa.cdo
set_option maxRecDepth 100000
open Go.RowKit Go.Maps Go.Proofs.Ythmehalkijbpdaa.words Go.Proofs.Ythmehalkijbpdaa.lru Go.Proofs.Ythmehalkijbpdaa.mpi Go.Proofs.Ythmehalkijbpdaa.cur

/-- All that the law keeps: behind j acts. -/
structure InC (w : World) (t m mo j : Nat) (wr : World) (r : Int) (n : Nat) (L : Cs) : Prop where
  st : CSt w t m wr r (n : Int) L
  mp : MapL wr Try.prog 3 mo (cR L)
  lo : w.heap.size ≤ mo
  ne1 : mo ≠ t
  ne2 : mo ≠ m
  ks : ∀ x ∈ keysC L, 1 ≤ x ∧ x ≤ (n : Int)
  rl : (L.length : Int) ≤ r
  r2 : r ≤ 1024
  nj : n ≤ j
section
variable {w wr w' : World} {t m mo j j' n n' : Nat} {r : Int} {L L' : Cs}
theorem InC.later (h : InC w t m mo j wr r n L) (hb : Below wr.heap.size wr w') : InC w t m mo j w' r n L :=
  ⟨h.st.later hb, h.mp.of_block (hb.block mo h.mp.lt), h.lo, h.ne1, h.ne2, h.ks, h.rl, h.r2, h.nj⟩
theorem InC.le (h : InC w t m mo j wr r n L) (hj : j ≤ j') : InC w t m mo j' wr r n L := ⟨h.st, h.mp, h.lo, h.ne1, h.ne2, h.ks, h.rl, h.r2, Nat.le_trans h.nj hj⟩
theorem InC.lts (h : InC w t m mo j wr r n L) : t < wr.heap.size ∧ m < wr.heap.size ∧ mo < wr.heap.size := ⟨(h.st.1.lt t (.inl rfl)).2, (h.st.1.lt m (.inr rfl)).2, h.mp.lt⟩
theorem InC.less (h : InC w t m mo j wr r n L) : L.length ≤ 1024 := by have := h.rl; have := h.r2; omega
/-- Behind the program's call and the law's own. -/
theorem InC.fin {w3 : World} (h : InC w t m mo j wr r n L) (hk : Kept wr w.heap.size t m r (n' : Int) L' w') (hm : MapL w3 Try.prog 3 mo (cR L')) (ht : Tn (fun k => k = mo) w' w3) (hks : ∀ x ∈ keysC L', 1 ≤ x ∧ x ≤ (n' : Int)) (hrl : (L'.length : Int) ≤ r) (hn : n' ≤ j + 1) : InC w t m mo (j + 1) w3 r n' L' := by
  have hc := h.st.kept hk
  refine ⟨⟨hc.1.tn ht fun k hb e => ?_, hc.2.trans (ht.below (fun k e => by rw [e]; exact h.lo) hc.2.size)⟩, hm, h.lo, h.ne1, h.ne2, hks, hrl, h.r2, hn⟩
  rcases hb with hb | hb
  · exact h.ne1 (e.symm.trans hb)
  · exact h.ne2 (e.symm.trans hb)
theorem InC.fin2 {w3 : World} (h : InC w t m mo j wr r n L) (hc : CSt w t m w' r (n' : Int) L') (hm : MapL w3 Try.prog 3 mo (cR L')) (ht : Tn (fun k => k = mo) w' w3) (hks : ∀ x ∈ keysC L', 1 ≤ x ∧ x ≤ (n' : Int)) (hrl : (L'.length : Int) ≤ r) (hn : n' ≤ j + 1) : InC w t m mo (j + 1) w3 r n' L' := by
  refine ⟨⟨hc.1.tn ht fun k hb e => ?_, hc.2.trans (ht.below (fun k e => by rw [e]; exact h.lo) hc.2.size)⟩, hm, h.lo, h.ne1, h.ne2, hks, hrl, h.r2, hn⟩
  rcases hb with hb | hb
  · exact h.ne1 (e.symm.trans hb)
  · exact h.ne2 (e.symm.trans hb)
theorem cst_over {b : Nat} {cs : Array Value} {ty : TypeId} {k : Int} (h : CSt w t m wr r k L) (hb : wr.heap[b]? = some (.cells cs ty (0, 0))) (hty : ty ≠ 69) (hlo : w.heap.size ≤ b) (ht : Tn (fun k => k = b) wr w') : CSt w t m w' r k L :=
  ⟨h.1.tn ht fun k hk e => hty (h.1.type hk (e ▸ hb)), h.2.trans (ht.below (fun k e => by rw [e]; exact hlo) h.2.size)⟩
theorem InC.map_kept {k : Int} (h : InC w t m mo j wr r n L) (hk : Kept wr w.heap.size t m r k L' w') : MapL w' Try.prog 3 mo (cR L) :=
  h.mp.of_block (hk.tn.block mo h.mp.lt (fun hb => by rcases hb with hb | hb; exact h.ne1 hb; exact h.ne2 hb))
/-- A block beside the table stays. -/
theorem InC.box {k : Int} (h : InC w t m mo j wr r n L) (hk : Kept wr w.heap.size t m r k L' w') {b : Nat} {cs : Array Value} {ty : TypeId} (hb : wr.heap[b]? = some (.cells cs ty (0, 0))) (hty : ty ≠ 69) : w'.heap[b]? = some (.cells cs ty (0, 0)) :=
  (hk.tn.block b (lt_of_some hb) (fun hi => hty (h.st.1.type hi hb))).trans hb
theorem fresh_none (h : InC w t m mo j wr r n L) : valC L ((n : Int) + 1) = none := keys_no fun hx => by have := h.ks _ hx; omega
theorem ks_open (h : InC w t m mo j wr r n L) (c : Cu) : ∀ x ∈ keysC (L ++ [((n : Int) + 1, c)]), 1 ≤ x ∧ x ≤ ((n + 1 : Nat) : Int) := fun x hx => by
  rw [keys_snoc, List.mem_append] at hx
  rcases hx with hx | hx
  · have := h.ks _ hx; push_cast; omega
  · have : x = (n : Int) + 1 := by simpa using hx
    push_cast; omega
theorem keys_set (L : Cs) (x : Int) (c : Cu) : keysC (setC L x c) = keysC L := by
  unfold keysC setC
  rw [List.map_map]
  apply List.map_congr_left
  intro p _
  simp only [Function.comp]
  split
  · rename_i h; exact h.symm
  · rfl
theorem set_lenC (L : Cs) (x : Int) (c : Cu) : (setC L x c).length = L.length := List.length_map ..
theorem del_lenC (L : Cs) (x : Int) : (delC L x).length ≤ L.length := List.length_filter_le _ _
theorem del_ks (h : InC w t m mo j wr r n L) (x : Int) : ∀ y ∈ keysC (delC L x), 1 ≤ y ∧ y ≤ (n : Int) := fun y hy => by
  rw [keys_del] at hy
  exact h.ks y (List.mem_filter.1 hy).1
theorem del_sameC {x : Int} (h : valC L x = none) : delC L x = L := by
  unfold delC
  rw [List.filter_eq_self]
  intro p hp
  simpa using valC_none.1 h p hp
theorem neq_cur (a : Int) (s : ByteArray) (b : Int) (W : World) : (binOp .neq 48 (.agg #[.int .i64 a, .string s, .int .i64 b]) (.agg #[.int .i64 a, .string s, .int .i64 b])).run Try.prog W = .ok (.bool false) W := by
  rw [run_neq_struct]
  have hs : Try.prog.underlying 9 = some .string := Try.underlying9
  have hi : Try.prog.underlying 3 = some (.int .i64) := Try.underlying3
  rw [run_equalIn_agg W 9999 48 _ _ (by kernel_rfl) (by kernel_rfl)]
  simp [hs, hi, go_sem]
/-- What a cut keeps. -/
def Cut (w : World) (t m mo j : Nat) (r : Int) (v7 : Value) (wx : World) : Prop := ∃ (n : Nat) (L : Cs), v7 = .int .i64 (n : Int) ∧ Hid (InC w t m mo j wx r n L)
end
end Go.Proofs.Ythmehalkijbpdaa.cdo
