/- That heap speaks: what Merge and First answer of two rows. No condition. -/
import Derived.Test.YtdibdbadoigfoaaHeapRefM
namespace Go.Proofs.Ytdibdbadoigfoaa.heap
set_option maxRecDepth 100000
open Go.RowKit Go.Proofs.Ytdibdbadoigfoaa.words
open scoped List

def tA : ByteArray := ⟨#[97]⟩
def tB : ByteArray := ⟨#[98]⟩
def tC : ByteArray := ⟨#[99]⟩
def twoRows : List (List ByteArray) := [[tA, tC], [tB, tC]]
def fourIts : List It := [(tA, 0), (tB, 1), (tC, 0), (tC, 1)]
theorem lt_bytes {a b : ByteArray} (h : Op.bytesLess a.data.toList b.data.toList = true) : ltB a b = true := by
  unfold ltB
  rw [ByteArray.toList_eq, ByteArray.toList_eq]
  exact h
theorem tAB : ltB tA tB = true := lt_bytes (by decide)
theorem tAC : ltB tA tC = true := lt_bytes (by decide)
theorem tBC : ltB tB tC = true := lt_bytes (by decide)
theorem two_ris : ∀ l ∈ twoRows, Ris l := fun l hl => by
  simp only [twoRows, List.mem_cons, List.mem_nil_iff, or_false] at hl
  rcases hl with rfl | rfl
  · simp [Ris, tAC]
  · simp [Ris, tBC]
theorem two_merged : Merged twoRows fourIts := by
  refine ⟨?_, ?_⟩
  · show [(tA, 0), (tB, 1), (tC, 0), (tC, 1)] ~ [(tA, 0), (tC, 0), (tB, 1), (tC, 1)]
    exact List.Perm.cons _ (List.Perm.swap _ _ _)
  · have h : ∀ {a b : It}, ltI a b → leI a b := fun h hc => ltI_self _ (ltI_trans h hc)
    have h1 : leI (tA, 0) (tB, 1) := h (.inl tAB)
    have h2 : leI (tA, 0) (tC, 0) := h (.inl tAC)
    have h3 : leI (tA, 0) (tC, 1) := h (.inl tAC)
    have h4 : leI (tB, 1) (tC, 0) := h (.inl tBC)
    have h5 : leI (tB, 1) (tC, 1) := h (.inl tBC)
    have h6 : leI (tC, 0) (tC, 1) := h (.inr ⟨rfl, by show (0 : Nat) < 1; omega⟩)
    simp [fourIts, h1, h2, h3, h4, h5, h6]
theorem four_firsts : (firsts fourIts).length = 3 := by
  have h1 : ¬ tA = tB := fun e => by have := tAB; rw [e, ltB_self] at this; cases this
  have h2 : ¬ tB = tC := fun e => by have := tBC; rw [e, ltB_self] at this; cases this
  simp [firsts, fourIts, firstF, h1, h2]
set_option maxHeartbeats 3200000 in
theorem speaks_any (w : World) : Calls Try.prog 5 #[] w fun e w' => e = .returned (.bool true) ∧ Below w.heap.size w w' := by
  obtain ⟨W1, hW1⟩ : ∃ W1, W1 = w.alloc (.cells #[.string tA, .string tC] 9) := ⟨_, rfl⟩
  obtain ⟨W2, hW2⟩ : ∃ W2, W2 = W1.alloc (.cells #[.string tB, .string tC] 9) := ⟨_, rfl⟩
  obtain ⟨W3, hW3⟩ : ∃ W3, W3 = W2.alloc (.cells #[.slice (some ⟨w.heap.size, 0, none⟩) 2 2, .slice (some ⟨w.heap.size + 1, 0, none⟩) 2 2] 24) := ⟨_, rfl⟩
  have hz1 : W1.heap.size = w.heap.size + 1 := by rw [hW1]; simp
  have hz2 : W2.heap.size = w.heap.size + 2 := by rw [hW2]; simp [hz1]
  have hz3 : W3.heap.size = w.heap.size + 3 := by rw [hW3]; simp [hz2]
  have hb1 : Below w.heap.size w W1 := by rw [hW1]; exact (Below.refl _ _).alloc (Nat.le_refl _) _
  have hb2 : Below w.heap.size w W2 := by rw [hW2]; exact hb1.alloc hb1.size _
  have hb3 : Below w.heap.size w W3 := by rw [hW3]; exact hb2.alloc hb2.size _
  have k1 : W3.heap[w.heap.size]? = some (.cells #[.string tA, .string tC] 9 (0, 0)) := by
    rw [hW3]
    refine (Below.heap_alloc W2 _ _ (by omega)).trans ?_
    rw [hW2]
    refine (Below.heap_alloc W1 _ _ (by omega)).trans ?_
    rw [hW1]
    exact heap_alloc_new w _
  have k2 : W3.heap[w.heap.size + 1]? = some (.cells #[.string tB, .string tC] 9 (0, 0)) := by
    rw [hW3]
    refine (Below.heap_alloc W2 _ _ (by omega)).trans ?_
    rw [hW2, ← hz1]
    exact heap_alloc_new W1 _
  have k3 : W3.heap[w.heap.size + 2]? = some (.cells #[.slice (some ⟨w.heap.size, 0, none⟩) 2 2, .slice (some ⟨w.heap.size + 1, 0, none⟩) 2 2] 24 (0, 0)) := by
    rw [hW3, ← hz2]
    exact heap_alloc_new W2 _
  have hrow : ∀ (b : Nat) (x y : ByteArray), b < W3.heap.size → W3.heap[b]? = some (.cells #[.string x, .string y] 9 (0, 0)) → Row W3 W3.heap.size (some ⟨b, 0, none⟩) [x, y] := fun b x y hb hk i s hs => by
    refine ⟨b, 0, rfl, hb, ?_⟩
    rcases i with _ | _ | i
    · obtain rfl : x = s := by simpa using hs
      exact cell_of_blk hk 0
    · obtain rfl : y = s := by simpa using hs
      exact cell_of_blk hk 1
    · simp at hs
  have hR : Rws W3 W3.heap.size (some ⟨w.heap.size + 2, 0, none⟩) twoRows := fun i l hl => by
    rcases i with _ | _ | i
    · obtain rfl : [tA, tC] = l := by simpa [twoRows] using hl
      exact ⟨_, _, _, _, rfl, by omega, cell_of_blk k3 0, hrow _ _ _ (by omega) k1, Nat.le_refl _, by decide⟩
    · obtain rfl : [tB, tC] = l := by simpa [twoRows] using hl
      exact ⟨_, _, _, _, rfl, by omega, cell_of_blk k3 1, hrow _ _ _ (by omega) k2, Nat.le_refl _, by decide⟩
    · simp [twoRows] at hl
  have HC := Lib.hid (show Calls Try.prog 7 #[.slice (some ⟨w.heap.size + 2, 0, none⟩) 2 2] W3 (MergedIn W3 twoRows) from merge_any _ 2 twoRows W3 hR two_ris (by decide) (by decide))
  rw [hW1] at hW2
  rw [hW2] at hW3
  have HW3 := Lib.hid hW3
  have HB3 := Lib.hid hb3
  clear hz1 hz2 hz3 hb1 hb2 hb3 k1 k2 k3 hrow hR hW1 hW2 hW3
  unfold tA tB tC at HW3
  go_enter Try.func5, Try.ntmps5
  go_wp2_with fail
  rw [← HW3.out]
  refine HC.out.mono ?_
  rintro e w4 ⟨v, out, rfl, hown, hmg, hb4⟩
  obtain rfl : out = fourIts := hmg.eq two_merged
  have hown : w4.ownsRow W3.heap.size 32 2 v 4 (fourIts.flatMap itCells) := hown
  obtain ⟨A4, l4, c4, rfl⟩ := own_slice hown
  have hl4 : l4 = 4 := own_len hown
  subst hl4
  have HB4 := Lib.hid (HB3.out.trans (hb4.mono HB3.out.size))
  obtain ⟨g, c', e1, -⟩ := own_cell hown (j := 2) (u := .string tB) rfl
  injection e1 with e1 _ e2
  subst e1
  clear e2 c'
  have HI := Lib.hid (own_itms hown)
  have hc : ∀ j u, (fourIts.flatMap itCells)[j]? = some u → w4.cell? ⟨g, j, none⟩ = some u := fun j u hj => by
    obtain ⟨g', _, e1', _, _, _, _, d, _⟩ := own_cell hown hj
    injection e1' with e1'
    injection e1' with e1'
    injection e1' with e1'
    rw [e1']; exact d
  have d0 : w4.cell? ⟨g, 2, none⟩ = some (.string tB) := hc 2 _ rfl
  have d1 : w4.cell? ⟨g, 3, none⟩ = some (.int .i64 1) := hc 3 _ rfl
  have d2 : w4.cell? ⟨g, 6, none⟩ = some (.string tC) := hc 6 _ rfl
  have d3 : w4.cell? ⟨g, 7, none⟩ = some (.int .i64 1) := hc 7 _ rfl
  have q0 : ∀ W : World, Sem.run Try.prog (binOp .eql 32 (.agg #[.string ⟨#[98]⟩, .int .i64 1]) (.agg #[.string ⟨#[98]⟩, .int .i64 1])) W = .ok (.bool true) W := fun _ => by kernel_rfl
  have q1 : ∀ W : World, Sem.run Try.prog (binOp .eql 32 (.agg #[.string ⟨#[99]⟩, .int .i64 1]) (.agg #[.string ⟨#[99]⟩, .int .i64 1])) W = .ok (.bool true) W := fun _ => by kernel_rfl
  have HF := Lib.hid (show Calls Try.prog 9 #[.slice (some ⟨g, 0, none⟩) 4 c4] w4 (FirstIn w4 fourIts) from first_any _ c4 fourIts w4 HI.out (by decide))
  unfold tB at d0
  unfold tC at d2
  clear hown hmg hb4 hc HC HW3 HB3
  go_wp2_with fail
  refine HF.out.mono ?_
  rintro e w5 ⟨v5, rfl, hown5, hb5⟩
  rw [four_firsts] at hown5
  obtain ⟨A5, l5, c5, rfl⟩ := own_slice hown5
  have hl5 : l5 = 3 := own_len hown5
  subst hl5
  have HB5 := Lib.hid (HB4.out.trans (hb5.mono HB4.out.size))
  clear hown5 hb5 HF HB4
  go_wp2_with fail
  go_ret
  exact ⟨rfl, HB5.out⟩
end Go.Proofs.Ytdibdbadoigfoaa.heap
