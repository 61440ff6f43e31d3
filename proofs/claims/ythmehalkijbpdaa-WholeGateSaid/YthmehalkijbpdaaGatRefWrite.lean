/- The reference's Write and Leave. Condition: the rows lie in memory. (Written by wip/gen/genref17.py.) -/
import Derived.Test.YthmehalkijbpdaaGatRefOps
namespace Go.Proofs.Ythmehalkijbpdaa.gat
set_option maxRecDepth 100000
open Go.RowKit Go.Proofs.Ythmehalkijbpdaa.words Go.Proofs.Ythmehalkijbpdaa.lru Go.Proofs.Ythmehalkijbpdaa.mpi

section
variable (B : Nat) (a1 a2 a3 : Value) (R : List Int) (o : Option Int) (W : List Int) (x : Int) (w : World)
set_option maxHeartbeats 800000 in
theorem refwrite_no (h : Rf w B a1 a2 a3 R o W) (hl : R.length ≤ 900) (hlw : W.length ≤ 900) (hin : inB R o x = true) (hB : B ≤ w.heap.size) :
    Calls Try.prog 12 #[.agg #[a1, a2, a3], .int .i64 x] w (RefIn w B R o W false) := by
  obtain ⟨W1, hW1⟩ : ∃ W1, W1 = w.alloc (.cells #[a1, a2, a3] 30) := ⟨_, rfl⟩
  obtain ⟨W2, hW2⟩ : ∃ W2, W2 = W1.alloc (.cells #[.slice none 0 0, .slice none 0 0, .slice none 0 0] 30) := ⟨_, rfl⟩
  have h2 := Two.made hW1 hW2
  have HW1 := Lib.hid hW1
  have HW2 := Lib.hid hW2
  obtain ⟨q1, hq1⟩ : ∃ q1, q1 = w.heap.size := ⟨_, rfl⟩
  obtain ⟨q2, hq2⟩ : ∃ q2, q2 = w.heap.size + 1 := ⟨_, rfl⟩
  rw [← hq2, ← hq1] at h2
  have HQ1 := Lib.hid hq1.symm
  have HQ2 := Lib.hid hq2.symm
  obtain ⟨iE, hiE, zE0, zE1, zE2⟩ := info_three infoInt
  have HF := Lib.hid (h.later h2.below)
  have HI := Lib.hid (refin_any B a1 a2 a3 R o W x W2 HF.out (by omega))
  rw [hin] at HI
  have HT := Lib.hid h2
  obtain ⟨A1, c1, A2, c2, A3, c3, rfl, rfl, rfl⟩ := h.slices
  obtain ⟨n1, hn1⟩ : ∃ n, n = R.length := ⟨_, rfl⟩
  obtain ⟨n2, hn2⟩ : ∃ n, n = o.toList.length := ⟨_, rfl⟩
  obtain ⟨n3, hn3⟩ : ∃ n, n = W.length := ⟨_, rfl⟩
  have hn9 : n3 ≤ 900 := by omega
  rw [← hn1, ← hn2, ← hn3] at HF HI HT HW1 ⊢
  have HN3 := Lib.hid hn3
  have HB0 := Lib.hid hB
  clear h hl hlw h2 hW1 hW2 hq1 hq2 hn1 hn2 hn3 hin hB
  go_enter Try.func12, Try.ntmps12
  go_upto_region 1 with fail
  rw [← HW1.out, ← HW2.out, HQ2.out, HQ1.out]
  have g0 := cell_of_blk HT.out.b1 0
  have g1 := cell_of_blk HT.out.b1 1
  have g2 := cell_of_blk HT.out.b1 2
  go_wp2_with fail
  refine HI.out.mono ?_
  rintro e w3 ⟨rfl, hb3⟩
  have h3 := HT.out.later hb3
  have p0 := cell_of_blk h3.b1 0
  have p1 := cell_of_blk h3.b1 1
  have p2 := cell_of_blk h3.b1 2
  have hF3 := HF.out.later hb3
  have HT3 := Lib.hid h3
  have HF3 := Lib.hid hF3
  clear h3 hb3 hF3 g0 g1 g2
  have z0 := cell_of_blk HT3.out.b2 0
  have z1 := cell_of_blk HT3.out.b2 1
  have z2 := cell_of_blk HT3.out.b2 2
  have fz0 := free_of_blk HT3.out.b2 0
  have fz1 := free_of_blk HT3.out.b2 1
  have fz2 := free_of_blk HT3.out.b2 2
  obtain ⟨W9, hW9⟩ : ∃ W9, W9 = ((w3.setCell ⟨q2, 0, none⟩ (.slice A1 n1 c1)).setCell ⟨q2, 1, none⟩ (.slice A2 n2 c2)).setCell ⟨q2, 2, none⟩ (.slice A3 n3 c3) := ⟨_, rfl⟩
  obtain ⟨k1, k2, k3⟩ := HT3.out.ends _ _ _ hW9
  have HE : Hid (RefIn w B R o W false (.returned (.tuple #[.agg #[.slice A1 n1 c1, .slice A2 n2 c2, .slice A3 n3 c3], .bool false])) W9) := Lib.hid ⟨_, _, _, rfl, HF3.out.over HT3.out.b2 k3, k2⟩
  have y0 := cell_of_blk k1 0
  have y1 := cell_of_blk k1 1
  have y2 := cell_of_blk k1 2
  clear k1 k2 k3
  go_wp2
  rw [← hW9]
  exact bodyPost_ret (v := .tuple #[.agg #[.slice A1 n1 c1, .slice A2 n2 c2, .slice A3 n3 c3], .bool false]) (by simp [results, Try.results12, go_sem, y0, y1, y2]) rfl HE.out
set_option maxHeartbeats 800000 in
theorem refleave_no (h : Rf w B a1 a2 a3 R o W) (hl : R.length ≤ 900) (hlw : W.length ≤ 900) (hin : inB R o x = false) (hB : B ≤ w.heap.size) :
    Calls Try.prog 14 #[.agg #[a1, a2, a3], .int .i64 x] w (RefIn w B R o W false) := by
  obtain ⟨W1, hW1⟩ : ∃ W1, W1 = w.alloc (.cells #[a1, a2, a3] 30) := ⟨_, rfl⟩
  obtain ⟨W2, hW2⟩ : ∃ W2, W2 = W1.alloc (.cells #[.slice none 0 0, .slice none 0 0, .slice none 0 0] 30) := ⟨_, rfl⟩
  have h2 := Two.made hW1 hW2
  have HW1 := Lib.hid hW1
  have HW2 := Lib.hid hW2
  obtain ⟨q1, hq1⟩ : ∃ q1, q1 = w.heap.size := ⟨_, rfl⟩
  obtain ⟨q2, hq2⟩ : ∃ q2, q2 = w.heap.size + 1 := ⟨_, rfl⟩
  rw [← hq2, ← hq1] at h2
  have HQ1 := Lib.hid hq1.symm
  have HQ2 := Lib.hid hq2.symm
  obtain ⟨iE, hiE, zE0, zE1, zE2⟩ := info_three infoInt
  have HF := Lib.hid (h.later h2.below)
  have HI := Lib.hid (refin_any B a1 a2 a3 R o W x W2 HF.out (by omega))
  rw [hin] at HI
  have HT := Lib.hid h2
  obtain ⟨A1, c1, A2, c2, A3, c3, rfl, rfl, rfl⟩ := h.slices
  obtain ⟨n1, hn1⟩ : ∃ n, n = R.length := ⟨_, rfl⟩
  obtain ⟨n2, hn2⟩ : ∃ n, n = o.toList.length := ⟨_, rfl⟩
  obtain ⟨n3, hn3⟩ : ∃ n, n = W.length := ⟨_, rfl⟩
  have hn9 : n3 ≤ 900 := by omega
  rw [← hn1, ← hn2, ← hn3] at HF HI HT HW1 ⊢
  have HN3 := Lib.hid hn3
  have HB0 := Lib.hid hB
  clear h hl hlw h2 hW1 hW2 hq1 hq2 hn1 hn2 hn3 hin hB
  go_enter Try.func14, Try.ntmps14
  go_upto_region 1 with fail
  rw [← HW1.out, ← HW2.out, HQ2.out, HQ1.out]
  have g0 := cell_of_blk HT.out.b1 0
  have g1 := cell_of_blk HT.out.b1 1
  have g2 := cell_of_blk HT.out.b1 2
  go_wp2_with fail
  refine HI.out.mono ?_
  rintro e w3 ⟨rfl, hb3⟩
  have h3 := HT.out.later hb3
  have p0 := cell_of_blk h3.b1 0
  have p1 := cell_of_blk h3.b1 1
  have p2 := cell_of_blk h3.b1 2
  have hF3 := HF.out.later hb3
  have HT3 := Lib.hid h3
  have HF3 := Lib.hid hF3
  clear h3 hb3 hF3 g0 g1 g2
  have z0 := cell_of_blk HT3.out.b2 0
  have z1 := cell_of_blk HT3.out.b2 1
  have z2 := cell_of_blk HT3.out.b2 2
  have fz0 := free_of_blk HT3.out.b2 0
  have fz1 := free_of_blk HT3.out.b2 1
  have fz2 := free_of_blk HT3.out.b2 2
  obtain ⟨W9, hW9⟩ : ∃ W9, W9 = ((w3.setCell ⟨q2, 0, none⟩ (.slice A1 n1 c1)).setCell ⟨q2, 1, none⟩ (.slice A2 n2 c2)).setCell ⟨q2, 2, none⟩ (.slice A3 n3 c3) := ⟨_, rfl⟩
  obtain ⟨k1, k2, k3⟩ := HT3.out.ends _ _ _ hW9
  have HE : Hid (RefIn w B R o W false (.returned (.tuple #[.agg #[.slice A1 n1 c1, .slice A2 n2 c2, .slice A3 n3 c3], .bool false])) W9) := Lib.hid ⟨_, _, _, rfl, HF3.out.over HT3.out.b2 k3, k2⟩
  have y0 := cell_of_blk k1 0
  have y1 := cell_of_blk k1 1
  have y2 := cell_of_blk k1 2
  clear k1 k2 k3
  go_wp2
  rw [← hW9]
  exact bodyPost_ret (v := .tuple #[.agg #[.slice A1 n1 c1, .slice A2 n2 c2, .slice A3 n3 c3], .bool false]) (by simp [results, Try.results14, go_sem, y0, y1, y2]) rfl HE.out
set_option maxHeartbeats 1600000 in
theorem refwrite_wait_has (h : Rf w B a1 a2 a3 R o W) (hl : R.length ≤ 900) (hlw : W.length ≤ 900) (hin : inB R o x = false) (hhas : hasB W x = true) (hno : W.head? ≠ some x ∨ o.isSome = true ∨ R ≠ []) (hB : B ≤ w.heap.size) :
    Calls Try.prog 12 #[.agg #[a1, a2, a3], .int .i64 x] w (RefIn w B R o W false) := by
  obtain ⟨W1, hW1⟩ : ∃ W1, W1 = w.alloc (.cells #[a1, a2, a3] 30) := ⟨_, rfl⟩
  obtain ⟨W2, hW2⟩ : ∃ W2, W2 = W1.alloc (.cells #[.slice none 0 0, .slice none 0 0, .slice none 0 0] 30) := ⟨_, rfl⟩
  have h2 := Two.made hW1 hW2
  have HW1 := Lib.hid hW1
  have HW2 := Lib.hid hW2
  obtain ⟨q1, hq1⟩ : ∃ q1, q1 = w.heap.size := ⟨_, rfl⟩
  obtain ⟨q2, hq2⟩ : ∃ q2, q2 = w.heap.size + 1 := ⟨_, rfl⟩
  rw [← hq2, ← hq1] at h2
  have HQ1 := Lib.hid hq1.symm
  have HQ2 := Lib.hid hq2.symm
  obtain ⟨iE, hiE, zE0, zE1, zE2⟩ := info_three infoInt
  have HF := Lib.hid (h.later h2.below)
  have HI := Lib.hid (refin_any B a1 a2 a3 R o W x W2 HF.out (by omega))
  rw [hin] at HI
  have HT := Lib.hid h2
  obtain ⟨A1, c1, A2, c2, A3, c3, rfl, rfl, rfl⟩ := h.slices
  obtain ⟨n1, hn1⟩ : ∃ n, n = R.length := ⟨_, rfl⟩
  obtain ⟨n2, hn2⟩ : ∃ n, n = o.toList.length := ⟨_, rfl⟩
  obtain ⟨n3, hn3⟩ : ∃ n, n = W.length := ⟨_, rfl⟩
  have hn9 : n3 ≤ 900 := by omega
  rw [← hn1, ← hn2, ← hn3] at HF HI HT HW1 ⊢
  have HN3 := Lib.hid hn3
  have HB0 := Lib.hid hB
  have HL : Hid (W.length ≤ 1000) := Lib.hid (by omega)
  have HNE : Hid (W ≠ []) := Lib.hid fun e => by rw [e] at hhas; cases hhas
  have HNO : Hid (W.head? ≠ some x ∨ (0 : Int) < (n1 : Int) ∨ (0 : Int) < (n2 : Int)) := Lib.hid (by
    rcases hno with hw | hw | hw
    · exact .inl hw
    · rcases o with _ | z
      · cases hw
      · right; right; rw [hn2]; exact Int.one_pos
    · right; left
      have := List.length_pos_iff.2 hw
      omega)
  clear h hl hlw h2 hW1 hW2 hq1 hq2 hn1 hn2 hn3 hin hB hno
  go_enter Try.func12, Try.ntmps12
  go_upto_region 1 with fail
  rw [← HW1.out, ← HW2.out, HQ2.out, HQ1.out]
  have g0 := cell_of_blk HT.out.b1 0
  have g1 := cell_of_blk HT.out.b1 1
  have g2 := cell_of_blk HT.out.b1 2
  go_wp2_with fail
  refine HI.out.mono ?_
  rintro e w3 ⟨rfl, hb3⟩
  have h3 := HT.out.later hb3
  have p0 := cell_of_blk h3.b1 0
  have p1 := cell_of_blk h3.b1 1
  have p2 := cell_of_blk h3.b1 2
  have hF3 := HF.out.later hb3
  have HT3 := Lib.hid h3
  have HF3 := Lib.hid hF3
  clear h3 hb3 hF3 g0 g1 g2
  have HHAS := Lib.hid (has_any B (.slice A3 n3 c3) W x w3 HF3.out.r3 HL.out)
  rw [hhas] at HHAS
  clear hhas
  go_wp2_with fail
  refine HHAS.out.mono ?_
  rintro e wx ⟨rfl, e1⟩
  subst e1
  have HTS := HT3
  have HFS := HF3
  obtain ⟨wS, rfl⟩ : ∃ wS, wS = w3 := ⟨_, rfl⟩
  obtain ⟨A7, rfl⟩ : ∃ a, a = A3 := ⟨_, rfl⟩
  obtain ⟨c7, rfl⟩ : ∃ a, a = c3 := ⟨_, rfl⟩
  obtain ⟨m3, rfl⟩ : ∃ a, a = n3 := ⟨_, rfl⟩
  have hmp : (0 : Int) < (m3 : Int) := by
    have := List.length_pos_iff.2 HNE.out
    have := HN3.out
    omega
  clear p0 p1 p2
  obtain ⟨h0, hh0⟩ : ∃ h0, W[0]? = some h0 := ⟨_, List.getElem?_eq_getElem (by exact List.length_pos_iff.2 HNE.out)⟩
  have hrow := HFS.out.r3
  have hml : m3 = W.length := by
    obtain ⟨_, _, hsl⟩ := hrow.slice
    injection hsl
  have hrow2 : Rw wS B (.slice A7 W.length c7) W := by rw [← hml]; exact hrow
  obtain ⟨b, hA, _, _, cb⟩ := hrow2.at_ hh0
  subst hA
  have HHH : Hid (W.head? = some h0) := Lib.hid (by rw [List.head?_eq_getElem?]; exact hh0)
  clear hrow hrow2 hml hh0
  have p0 := cell_of_blk HTS.out.b1 0
  have p1 := cell_of_blk HTS.out.b1 1
  have p2 := cell_of_blk HTS.out.b1 2
  have z0 := cell_of_blk HTS.out.b2 0
  have z1 := cell_of_blk HTS.out.b2 1
  have z2 := cell_of_blk HTS.out.b2 2
  have fz0 := free_of_blk HTS.out.b2 0
  have fz1 := free_of_blk HTS.out.b2 1
  have fz2 := free_of_blk HTS.out.b2 2
  obtain ⟨W9, hW9⟩ : ∃ W9, W9 = ((wS.setCell ⟨q2, 0, none⟩ (.slice A1 n1 c1)).setCell ⟨q2, 1, none⟩ (.slice A2 n2 c2)).setCell ⟨q2, 2, none⟩ (.slice (some ⟨b, 0, none⟩) m3 c7) := ⟨_, rfl⟩
  obtain ⟨k1, k2, k3⟩ := HTS.out.ends _ _ _ hW9
  have HE : Hid (RefIn w B R o W false (.returned (.tuple #[.agg #[.slice A1 n1 c1, .slice A2 n2 c2, .slice (some ⟨b, 0, none⟩) m3 c7], .bool false])) W9) := Lib.hid ⟨_, _, _, rfl, HFS.out.over HTS.out.b2 k3, k2⟩
  have y0 := cell_of_blk k1 0
  have y1 := cell_of_blk k1 1
  have y2 := cell_of_blk k1 2
  clear k1 k2 k3
  by_cases hx0 : h0 = x
  · have hd : (0 : Int) < (n1 : Int) ∨ (n1 = 0 ∧ (0 : Int) < (n2 : Int)) := by
      rcases HNO.out with hw | hw | hw
      · exact absurd (HHH.out.trans (by rw [hx0])) hw
      · exact .inl hw
      · by_cases hz : (0 : Int) < (n1 : Int)
        · exact .inl hz
        · exact .inr ⟨by omega, hw⟩
    have tb : (h0 != x) = false := by simpa using hx0
    have tb2 : (!(h0 == x)) = false := by simpa using hx0
    clear hx0
    rcases hd with hd | ⟨hd, hd2⟩
    · go_wp2
      rw [← hW9]
      exact bodyPost_ret (v := .tuple #[.agg #[.slice A1 n1 c1, .slice A2 n2 c2, .slice (some ⟨b, 0, none⟩) m3 c7], .bool false]) (by simp [results, Try.results12, go_sem, y0, y1, y2]) rfl HE.out
    · subst hd
      go_wp2
      rw [← hW9]
      exact bodyPost_ret (v := .tuple #[.agg #[.slice A1 0 c1, .slice A2 n2 c2, .slice (some ⟨b, 0, none⟩) m3 c7], .bool false]) (by simp [results, Try.results12, go_sem, y0, y1, y2]) rfl HE.out
  · have tb : (h0 != x) = true := by simpa using hx0
    have tb2 : (!(h0 == x)) = true := by simpa using hx0
    clear hx0
    go_wp2
    rw [← hW9]
    exact bodyPost_ret (v := .tuple #[.agg #[.slice A1 n1 c1, .slice A2 n2 c2, .slice (some ⟨b, 0, none⟩) m3 c7], .bool false]) (by simp [results, Try.results12, go_sem, y0, y1, y2]) rfl HE.out
set_option maxHeartbeats 1600000 in
theorem refwrite_wait_new (h : Rf w B a1 a2 a3 R o W) (hl : R.length ≤ 900) (hlw : W.length ≤ 900) (hin : inB R o x = false) (hhas : hasB W x = false) (hno : (W ++ [x]).head? ≠ some x ∨ o.isSome = true ∨ R ≠ []) (hB : B ≤ w.heap.size) :
    Calls Try.prog 12 #[.agg #[a1, a2, a3], .int .i64 x] w (RefIn w B R o (W ++ [x]) false) := by
  obtain ⟨W1, hW1⟩ : ∃ W1, W1 = w.alloc (.cells #[a1, a2, a3] 30) := ⟨_, rfl⟩
  obtain ⟨W2, hW2⟩ : ∃ W2, W2 = W1.alloc (.cells #[.slice none 0 0, .slice none 0 0, .slice none 0 0] 30) := ⟨_, rfl⟩
  have h2 := Two.made hW1 hW2
  have HW1 := Lib.hid hW1
  have HW2 := Lib.hid hW2
  obtain ⟨q1, hq1⟩ : ∃ q1, q1 = w.heap.size := ⟨_, rfl⟩
  obtain ⟨q2, hq2⟩ : ∃ q2, q2 = w.heap.size + 1 := ⟨_, rfl⟩
  rw [← hq2, ← hq1] at h2
  have HQ1 := Lib.hid hq1.symm
  have HQ2 := Lib.hid hq2.symm
  obtain ⟨iE, hiE, zE0, zE1, zE2⟩ := info_three infoInt
  have HF := Lib.hid (h.later h2.below)
  have HI := Lib.hid (refin_any B a1 a2 a3 R o W x W2 HF.out (by omega))
  rw [hin] at HI
  have HT := Lib.hid h2
  obtain ⟨A1, c1, A2, c2, A3, c3, rfl, rfl, rfl⟩ := h.slices
  obtain ⟨n1, hn1⟩ : ∃ n, n = R.length := ⟨_, rfl⟩
  obtain ⟨n2, hn2⟩ : ∃ n, n = o.toList.length := ⟨_, rfl⟩
  obtain ⟨n3, hn3⟩ : ∃ n, n = W.length := ⟨_, rfl⟩
  have hn9 : n3 ≤ 900 := by omega
  rw [← hn1, ← hn2, ← hn3] at HF HI HT HW1 ⊢
  have HN3 := Lib.hid hn3
  have HB0 := Lib.hid hB
  have HL : Hid (W.length ≤ 1000) := Lib.hid (by omega)
  have HNO : Hid ((W ++ [x]).head? ≠ some x ∨ (0 : Int) < (n1 : Int) ∨ (0 : Int) < (n2 : Int)) := Lib.hid (by
    rcases hno with hw | hw | hw
    · exact .inl hw
    · rcases o with _ | z
      · cases hw
      · right; right; rw [hn2]; exact Int.one_pos
    · right; left
      have := List.length_pos_iff.2 hw
      omega)
  clear h hl hlw h2 hW1 hW2 hq1 hq2 hn1 hn2 hn3 hin hB hno
  go_enter Try.func12, Try.ntmps12
  go_upto_region 1 with fail
  rw [← HW1.out, ← HW2.out, HQ2.out, HQ1.out]
  have g0 := cell_of_blk HT.out.b1 0
  have g1 := cell_of_blk HT.out.b1 1
  have g2 := cell_of_blk HT.out.b1 2
  go_wp2_with fail
  refine HI.out.mono ?_
  rintro e w3 ⟨rfl, hb3⟩
  have h3 := HT.out.later hb3
  have p0 := cell_of_blk h3.b1 0
  have p1 := cell_of_blk h3.b1 1
  have p2 := cell_of_blk h3.b1 2
  have hF3 := HF.out.later hb3
  have HT3 := Lib.hid h3
  have HF3 := Lib.hid hF3
  clear h3 hb3 hF3 g0 g1 g2
  have HHAS := Lib.hid (has_any B (.slice A3 n3 c3) W x w3 HF3.out.r3 HL.out)
  rw [hhas] at HHAS
  clear hhas
  go_wp2_with fail
  refine HHAS.out.mono ?_
  rintro e wx ⟨rfl, e1⟩
  subst e1
  go_upto_region 4 with fail
  obtain ⟨W4, hW4⟩ : ∃ W4, W4 = w3.alloc (.cells #[] 3) := ⟨_, rfl⟩
  have hb4 : Below w3.heap.size w3 W4 := by rw [hW4]; exact (Below.refl _ _).alloc (Nat.le_refl _) _
  have HO4 : Hid (W4.ownsRow w3.heap.size 3 1 (.slice (some ⟨w3.heap.size, 0, none⟩) 0 0) 0 []) := Lib.hid (by rw [hW4]; exact own_full w3 w3.heap.size 1 0 3 [] (Nat.le_refl _) (by decide) rfl)
  have HB4 := Lib.hid hb4
  have HW4 := Lib.hid hW4.symm
  have HONE := Lib.hid (iC_one W)
  have HONEx := Lib.hid (iC_one [x])
  have e0 := cell_of_blk (HT3.out.later hb4).b1 2
  have hR4 := (HF3.out.later hb4).r3
  unfold Rw at hR4
  rw [← HN3.out] at hR4
  have HR4 := Lib.hid hR4
  have ex0 : (w3.alloc (.cells #[] 3)).cell? ⟨q1, 2, none⟩ = some (.slice A3 n3 c3) := by rw [HW4.out]; exact e0
  clear hW4 hb4 hR4
  go_upto_region 5 with (first
    | (at_builtin; rw [HW4.out]; refine wpList_append_row rfl (.tmp 15) (.tmp 17) 28 rfl w3.heap.size 3 iE _ 1 8 Try.underlying28 hiE zE0 zE1 zE2 rfl (by decide) (.slice (some ⟨w3.heap.size, 0, none⟩) 0 0) 0 [] rfl HO4.out B (.slice A3 n3 c3) n3 (iC W) rfl HR4.out HONE.out (by simp only [maxLen]; omega) (by omega) HB4.out.size ?_; intro v5 w5 ho5 hg5; have hB5 := keep_grown HB4.out HO4.out hg5 (Nat.le_refl _) (Nat.le_refl _); rw [List.nil_append, Nat.zero_add] at ho5; obtain ⟨A5, c5, rfl, _⟩ := own_facts ho5; obtain ⟨W6, hW6⟩ : ∃ W6, W6 = w5.alloc (.cells #[.int .i64 x] 3) := ⟨_, rfl⟩; have hb6 : Below w5.heap.size w5 W6 := by { rw [hW6]; exact (Below.refl _ _).alloc (Nat.le_refl _) _ }; have HN6 : Hid (∀ (i : Nat) (u : Value), (iC [x])[i]? = some u → W6.cell? ((⟨w5.heap.size, 0, none⟩ : Addr).add i) = some u) := Lib.hid fun i u hi => by { rw [hW6, new_cell]; simpa [iC] using hi }; have HO6 := Lib.hid (ownL ho5 hb6); have HB6 := Lib.hid (hB5.trans (hb6.mono hB5.size)); have HW6 := Lib.hid hW6.symm; clear hW6 hb6 hB5 ho5 hg5)
    | (at_builtin; rw [HW6.out]; refine wpList_append_own _ rfl (.tmp 18) (.tmp 20) 28 rfl w3.heap.size 3 iE _ 1 8 Try.underlying28 hiE zE0 zE1 zE2 rfl (by decide) (.slice A5 n3 c5) n3 (iC W) rfl HO6.out ⟨w5.heap.size, 0, none⟩ 1 1 (iC [x]) rfl rfl HN6.out HONEx.out (by simp only [maxLen]; omega) (by omega) HB6.out.size ?_; intro v7 w7 ho7 hg7 hnil7; have hB7 := keep_grown HB6.out HO6.out hg7 (Nat.le_refl _) (Nat.le_refl _); have hT7 := HT3.out.later hB7; obtain ⟨A7, c7, rfl, _⟩ := own_facts ho7; have z0 := cell_of_blk hT7.b1 2; have fz0 := free_of_blk hT7.b1 2; have HT7 := Lib.hid hT7; have HO7 := Lib.hid ho7; have HB7 := Lib.hid hB7; clear hnil7 ho7 hg7 hT7 hB7))
  obtain ⟨W8, hW8⟩ : ∃ W8, W8 = w7.setCell ⟨q1, 2, none⟩ (.slice A7 (n3 + 1) c7) := ⟨_, rfl⟩
  rw [← hW8]
  have hF7 := HF3.out.later HB7.out
  have hF7' : Rf w7 B (.slice A1 n1 c1) (.slice A2 n2 c2) (.slice A7 (n3 + 1) c7) R o (W ++ [x]) := ⟨hF7.r1, hF7.r2, by
    have h := HO7.out
    have e1 : n3 + 1 = (W ++ [x]).length := by rw [List.length_append, HN3.out]; rfl
    have e2 : iC W ++ iC [x] = iC (W ++ [x]) := by unfold iC; rw [List.map_append]
    rw [e2] at h
    unfold Rw
    rw [← e1]
    exact own_mono h (Nat.le_trans HB0.out HT3.out.below.size)⟩
  have hT8 := HT7.out.set2 (.slice A7 (n3 + 1) c7)
  rw [← hW8] at hT8
  have hF8 := hF7'.over HT7.out.b1 (w' := W8) (by rw [hW8]; exact (Tn.refl (fun j => j = q1) w7).setCell (p := ⟨q1, 2, none⟩) (.inr rfl) _)
  have HTS := Lib.hid hT8
  have HFS := Lib.hid hF8
  clear hT8 hF8 hF7 hF7' hW8 HB7 HO7 HT7 z0 fz0 HW4 HO4 HB4 HR4 HB6 HO6 HN6 HW6 ex0 e0 p0 p1 p2
  obtain ⟨wS, rfl⟩ : ∃ wS, wS = W8 := ⟨_, rfl⟩
  obtain ⟨m3, hm3⟩ : ∃ m, m = n3 + 1 := ⟨_, rfl⟩
  have hmp : (0 : Int) < (m3 : Int) := by omega
  rw [← hm3] at HTS HFS ⊢
  clear hm3
  obtain ⟨h0, hh0⟩ : ∃ h0, (W ++ [x])[0]? = some h0 := ⟨_, List.getElem?_eq_getElem (by simp)⟩
  have hrow := HFS.out.r3
  have hml : m3 = (W ++ [x]).length := by
    obtain ⟨_, _, hsl⟩ := hrow.slice
    injection hsl
  have hrow2 : Rw wS B (.slice A7 (W ++ [x]).length c7) (W ++ [x]) := by rw [← hml]; exact hrow
  obtain ⟨b, hA, _, _, cb⟩ := hrow2.at_ hh0
  subst hA
  have HHH : Hid ((W ++ [x]).head? = some h0) := Lib.hid (by rw [List.head?_eq_getElem?]; exact hh0)
  clear hrow hrow2 hml hh0
  have p0 := cell_of_blk HTS.out.b1 0
  have p1 := cell_of_blk HTS.out.b1 1
  have p2 := cell_of_blk HTS.out.b1 2
  have z0 := cell_of_blk HTS.out.b2 0
  have z1 := cell_of_blk HTS.out.b2 1
  have z2 := cell_of_blk HTS.out.b2 2
  have fz0 := free_of_blk HTS.out.b2 0
  have fz1 := free_of_blk HTS.out.b2 1
  have fz2 := free_of_blk HTS.out.b2 2
  obtain ⟨W9, hW9⟩ : ∃ W9, W9 = ((wS.setCell ⟨q2, 0, none⟩ (.slice A1 n1 c1)).setCell ⟨q2, 1, none⟩ (.slice A2 n2 c2)).setCell ⟨q2, 2, none⟩ (.slice (some ⟨b, 0, none⟩) m3 c7) := ⟨_, rfl⟩
  obtain ⟨k1, k2, k3⟩ := HTS.out.ends _ _ _ hW9
  have HE : Hid (RefIn w B R o (W ++ [x]) false (.returned (.tuple #[.agg #[.slice A1 n1 c1, .slice A2 n2 c2, .slice (some ⟨b, 0, none⟩) m3 c7], .bool false])) W9) := Lib.hid ⟨_, _, _, rfl, HFS.out.over HTS.out.b2 k3, k2⟩
  have y0 := cell_of_blk k1 0
  have y1 := cell_of_blk k1 1
  have y2 := cell_of_blk k1 2
  clear k1 k2 k3
  by_cases hx0 : h0 = x
  · have hd : (0 : Int) < (n1 : Int) ∨ (n1 = 0 ∧ (0 : Int) < (n2 : Int)) := by
      rcases HNO.out with hw | hw | hw
      · exact absurd (HHH.out.trans (by rw [hx0])) hw
      · exact .inl hw
      · by_cases hz : (0 : Int) < (n1 : Int)
        · exact .inl hz
        · exact .inr ⟨by omega, hw⟩
    have tb : (h0 != x) = false := by simpa using hx0
    have tb2 : (!(h0 == x)) = false := by simpa using hx0
    clear hx0
    rcases hd with hd | ⟨hd, hd2⟩
    · go_wp2
      rw [← hW9]
      exact bodyPost_ret (v := .tuple #[.agg #[.slice A1 n1 c1, .slice A2 n2 c2, .slice (some ⟨b, 0, none⟩) m3 c7], .bool false]) (by simp [results, Try.results12, go_sem, y0, y1, y2]) rfl HE.out
    · subst hd
      go_wp2
      rw [← hW9]
      exact bodyPost_ret (v := .tuple #[.agg #[.slice A1 0 c1, .slice A2 n2 c2, .slice (some ⟨b, 0, none⟩) m3 c7], .bool false]) (by simp [results, Try.results12, go_sem, y0, y1, y2]) rfl HE.out
  · have tb : (h0 != x) = true := by simpa using hx0
    have tb2 : (!(h0 == x)) = true := by simpa using hx0
    clear hx0
    go_wp2
    rw [← hW9]
    exact bodyPost_ret (v := .tuple #[.agg #[.slice A1 n1 c1, .slice A2 n2 c2, .slice (some ⟨b, 0, none⟩) m3 c7], .bool false]) (by simp [results, Try.results12, go_sem, y0, y1, y2]) rfl HE.out
set_option maxHeartbeats 1600000 in
theorem refwrite_go_has (Wn : List Int) (h : Rf w B a1 a2 a3 R o W) (hR : R = []) (ho : o = none) (hlw : W.length ≤ 900) (hhas : hasB W x = true) (hW : W = x :: Wn) (hnd : x ∉ Wn) (hB : B ≤ w.heap.size) :
    Calls Try.prog 12 #[.agg #[a1, a2, a3], .int .i64 x] w (RefIn w B [] (some x) Wn true) := by
  have hl : R.length ≤ 900 := by rw [hR]; exact Nat.zero_le _
  have hin : inB R o x = false := by rw [hR, ho]; rfl
  obtain ⟨W1, hW1⟩ : ∃ W1, W1 = w.alloc (.cells #[a1, a2, a3] 30) := ⟨_, rfl⟩
  obtain ⟨W2, hW2⟩ : ∃ W2, W2 = W1.alloc (.cells #[.slice none 0 0, .slice none 0 0, .slice none 0 0] 30) := ⟨_, rfl⟩
  have h2 := Two.made hW1 hW2
  have HW1 := Lib.hid hW1
  have HW2 := Lib.hid hW2
  obtain ⟨q1, hq1⟩ : ∃ q1, q1 = w.heap.size := ⟨_, rfl⟩
  obtain ⟨q2, hq2⟩ : ∃ q2, q2 = w.heap.size + 1 := ⟨_, rfl⟩
  rw [← hq2, ← hq1] at h2
  have HQ1 := Lib.hid hq1.symm
  have HQ2 := Lib.hid hq2.symm
  obtain ⟨iE, hiE, zE0, zE1, zE2⟩ := info_three infoInt
  have HF := Lib.hid (h.later h2.below)
  have HI := Lib.hid (refin_any B a1 a2 a3 R o W x W2 HF.out (by omega))
  rw [hin] at HI
  have HT := Lib.hid h2
  obtain ⟨A1, c1, A2, c2, A3, c3, rfl, rfl, rfl⟩ := h.slices
  obtain ⟨n1, hn1⟩ : ∃ n, n = R.length := ⟨_, rfl⟩
  obtain ⟨n2, hn2⟩ : ∃ n, n = o.toList.length := ⟨_, rfl⟩
  obtain ⟨n3, hn3⟩ : ∃ n, n = W.length := ⟨_, rfl⟩
  have hn9 : n3 ≤ 900 := by omega
  rw [← hn1, ← hn2, ← hn3] at HF HI HT HW1 ⊢
  have HN3 := Lib.hid hn3
  have HB0 := Lib.hid hB
  have HL : Hid (W.length ≤ 1000) := Lib.hid (by omega)
  have HL9 : Hid (W.length ≤ 1000) := Lib.hid (by omega)
  have HNE : Hid (W ≠ []) := Lib.hid fun e => by rw [e] at hhas; cases hhas
  have e1 : n1 = 0 := by rw [hn1, hR]; rfl
  have e2 : n2 = 0 := by rw [hn2, ho]; rfl
  have HRO : Hid (R = [] ∧ o = none) := Lib.hid ⟨hR, ho⟩
  have HWX := Lib.hid hW
  have HND := Lib.hid hnd
  clear hn1 hn2
  subst e1 e2
  clear h hl hlw h2 hW1 hW2 hq1 hq2 hn3 hin hB hR ho hW hnd
  go_enter Try.func12, Try.ntmps12
  go_upto_region 1 with fail
  rw [← HW1.out, ← HW2.out, HQ2.out, HQ1.out]
  have g0 := cell_of_blk HT.out.b1 0
  have g1 := cell_of_blk HT.out.b1 1
  have g2 := cell_of_blk HT.out.b1 2
  go_wp2_with fail
  refine HI.out.mono ?_
  rintro e w3 ⟨rfl, hb3⟩
  have h3 := HT.out.later hb3
  have p0 := cell_of_blk h3.b1 0
  have p1 := cell_of_blk h3.b1 1
  have p2 := cell_of_blk h3.b1 2
  have hF3 := HF.out.later hb3
  have HT3 := Lib.hid h3
  have HF3 := Lib.hid hF3
  clear h3 hb3 hF3 g0 g1 g2
  have HHAS := Lib.hid (has_any B (.slice A3 n3 c3) W x w3 HF3.out.r3 HL.out)
  rw [hhas] at HHAS
  clear hhas
  go_wp2_with fail
  refine HHAS.out.mono ?_
  rintro e wx ⟨rfl, e1⟩
  subst e1
  have HTS := HT3
  have HFS := HF3
  obtain ⟨wS, rfl⟩ : ∃ wS, wS = w3 := ⟨_, rfl⟩
  obtain ⟨A7, rfl⟩ : ∃ a, a = A3 := ⟨_, rfl⟩
  obtain ⟨c7, rfl⟩ : ∃ a, a = c3 := ⟨_, rfl⟩
  obtain ⟨m3, rfl⟩ : ∃ a, a = n3 := ⟨_, rfl⟩
  have hmp : (0 : Int) < (m3 : Int) := by
    have := List.length_pos_iff.2 HNE.out
    have := HN3.out
    omega
  clear p0 p1 p2
  have hrow := HFS.out.r3
  have hml : m3 = W.length := by
    obtain ⟨_, _, hsl⟩ := hrow.slice
    injection hsl
  have hrow2 : Rw wS B (.slice A7 W.length c7) W := by rw [← hml]; exact hrow
  obtain ⟨b, hA, _, _, cb⟩ := hrow2.at_ (j := 0) (x := x) (by rw [HWX.out]; rfl)
  subst hA
  have hles : less W x = Wn := by
    rw [HWX.out]
    unfold less
    rw [List.filter_cons_of_neg (by simp), List.filter_eq_self]
    intro y hy
    have : y ≠ x := fun e => HND.out (e ▸ hy)
    simpa using this
  have hw := without_any B _ _ x wS hrow HL9.out
  rw [hles] at hw
  have HWO := Lib.hid hw
  clear hrow hrow2 hml hles hw
  have p0 := cell_of_blk HTS.out.b1 0
  have p1 := cell_of_blk HTS.out.b1 1
  have p2 := cell_of_blk HTS.out.b1 2
  have tb : (x != x) = false := by simp
  have tb2 : (!(x == x)) = false := by simp
  go_wp2_with fail
  refine HWO.out.mono ?_
  rintro e wq ⟨v, rfl, hv, hbq⟩
  obtain ⟨Av, cv, rfl⟩ := hv.slice
  obtain ⟨nv, hnv⟩ : ∃ nv, nv = Wn.length := ⟨_, rfl⟩
  rw [← hnv] at hv ⊢
  have hTq := HTS.out.later hbq
  have hFq := HFS.out.later hbq
  have z0 := cell_of_blk hTq.b1 2
  have fz0 := free_of_blk hTq.b1 2
  obtain ⟨W8, hW8⟩ : ∃ W8, W8 = wq.setCell ⟨q1, 2, none⟩ (.slice Av nv cv) := ⟨_, rfl⟩
  have hT8 := hTq.set2 (.slice Av nv cv)
  rw [← hW8] at hT8
  have hFq' : Rf wq B (.slice A1 0 c1) (.slice A2 0 c2) (.slice Av nv cv) [] none Wn := ⟨by have := hFq.r1; rwa [HRO.out.1] at this, by have := hFq.r2; rwa [HRO.out.2] at this, hv.mono (Nat.le_trans HB0.out HTS.out.below.size)⟩
  have hF8 := hFq'.over hTq.b1 (w' := W8) (by rw [hW8]; exact (Tn.refl (fun j => j = q1) wq).setCell (p := ⟨q1, 2, none⟩) (.inr rfl) _)
  obtain ⟨W10, hW10⟩ : ∃ W10, W10 = W8.alloc (.cells #[.int .i64 x] 3) := ⟨_, rfl⟩
  have hb10 : Below W8.heap.size W8 W10 := by rw [hW10]; exact (Below.refl _ _).alloc (Nat.le_refl _) _
  have hr10 : Rw W10 W8.heap.size (.slice (some ⟨W8.heap.size, 0, none⟩) 1 1) [x] := by
    rw [hW10]
    exact own_full W8 W8.heap.size 1 1 3 (iC [x]) (Nat.le_refl _) (by decide) rfl
  have hT10 := hT8.later hb10
  have hF10 := hF8.later hb10
  have HF10 : Hid (Rf W10 B (.slice A1 0 c1) (.slice (some ⟨W8.heap.size, 0, none⟩) 1 1) (.slice Av nv cv) [] (some x) Wn) := Lib.hid ⟨hF10.r1, hr10.mono (Nat.le_trans HB0.out hT8.below.size), hF10.r3⟩
  obtain ⟨W12, hW12⟩ : ∃ W12, W12 = (W8.alloc (.cells #[.int .i64 x] 3)).setCell ⟨q1, 1, none⟩ (.slice (some ⟨W8.heap.size, 0, none⟩) 1 1) := ⟨_, rfl⟩
  rw [hW10] at hT10 HF10
  have y1 := cell_of_blk hT10.b1 1
  have fy1 := free_of_blk hT10.b1 1
  have hT12 := hT10.set1 (.slice (some ⟨W8.heap.size, 0, none⟩) 1 1)
  rw [← hW12] at hT12
  have hF12 := HF10.out.over hT10.b1 (w' := W12) (by rw [hW12]; exact (Tn.refl (fun j => j = q1) _).setCell (p := ⟨q1, 1, none⟩) (.inr rfl) _)
  obtain ⟨W9, hW9⟩ : ∃ W9, W9 = ((W12.setCell ⟨q2, 0, none⟩ (.slice A1 0 c1)).setCell ⟨q2, 1, none⟩ (.slice (some ⟨W8.heap.size, 0, none⟩) 1 1)).setCell ⟨q2, 2, none⟩ (.slice Av nv cv) := ⟨_, rfl⟩
  obtain ⟨k1, k2, k3⟩ := hT12.ends _ _ _ hW9
  have HE : Hid (RefIn w B [] (some x) Wn true (.returned (.tuple #[.agg #[.slice A1 0 c1, .slice (some ⟨W8.heap.size, 0, none⟩) 1 1, .slice Av nv cv], .bool true])) W9) := Lib.hid ⟨_, _, _, rfl, hF12.over hT12.b2 k3, k2⟩
  have x0 := cell_of_blk k1 0
  have x1 := cell_of_blk k1 1
  have x2 := cell_of_blk k1 2
  have r0 := cell_of_blk hT12.b1 0
  have r1 := cell_of_blk hT12.b1 1
  have r2 := cell_of_blk hT12.b1 2
  have s0 := cell_of_blk hT12.b2 0
  have s1 := cell_of_blk hT12.b2 1
  have s2 := cell_of_blk hT12.b2 2
  have fs0 := free_of_blk hT12.b2 0
  have fs1 := free_of_blk hT12.b2 1
  have fs2 := free_of_blk hT12.b2 2
  have HW8 := Lib.hid hW8
  have HW12 := Lib.hid hW12
  clear hT8 hF8 hFq hFq' hTq hb10 hr10 hT10 hW8 hW10 hv hbq hnv p0 p1 p2 k1 k2 k3 hT12 hF12 hW12 HF10
  go_upto_region 8 with fail
  rw [← HW8.out]
  clear z0 fz0
  go_upto_region 9 with fail
  rw [← HW12.out]
  clear y1 fy1
  go_wp2
  rw [← hW9]
  exact bodyPost_ret (v := .tuple #[.agg #[.slice A1 0 c1, .slice (some ⟨W8.heap.size, 0, none⟩) 1 1, .slice Av nv cv], .bool true]) (by simp [results, Try.results12, go_sem, x0, x1, x2]) rfl HE.out
set_option maxHeartbeats 1600000 in
theorem refwrite_go_new (Wn : List Int) (h : Rf w B a1 a2 a3 R o W) (hR : R = []) (ho : o = none) (hlw : W.length ≤ 900) (hhas : hasB W x = false) (hW : (W ++ [x]) = x :: Wn) (hnd : x ∉ Wn) (hB : B ≤ w.heap.size) :
    Calls Try.prog 12 #[.agg #[a1, a2, a3], .int .i64 x] w (RefIn w B [] (some x) Wn true) := by
  have hl : R.length ≤ 900 := by rw [hR]; exact Nat.zero_le _
  have hin : inB R o x = false := by rw [hR, ho]; rfl
  obtain ⟨W1, hW1⟩ : ∃ W1, W1 = w.alloc (.cells #[a1, a2, a3] 30) := ⟨_, rfl⟩
  obtain ⟨W2, hW2⟩ : ∃ W2, W2 = W1.alloc (.cells #[.slice none 0 0, .slice none 0 0, .slice none 0 0] 30) := ⟨_, rfl⟩
  have h2 := Two.made hW1 hW2
  have HW1 := Lib.hid hW1
  have HW2 := Lib.hid hW2
  obtain ⟨q1, hq1⟩ : ∃ q1, q1 = w.heap.size := ⟨_, rfl⟩
  obtain ⟨q2, hq2⟩ : ∃ q2, q2 = w.heap.size + 1 := ⟨_, rfl⟩
  rw [← hq2, ← hq1] at h2
  have HQ1 := Lib.hid hq1.symm
  have HQ2 := Lib.hid hq2.symm
  obtain ⟨iE, hiE, zE0, zE1, zE2⟩ := info_three infoInt
  have HF := Lib.hid (h.later h2.below)
  have HI := Lib.hid (refin_any B a1 a2 a3 R o W x W2 HF.out (by omega))
  rw [hin] at HI
  have HT := Lib.hid h2
  obtain ⟨A1, c1, A2, c2, A3, c3, rfl, rfl, rfl⟩ := h.slices
  obtain ⟨n1, hn1⟩ : ∃ n, n = R.length := ⟨_, rfl⟩
  obtain ⟨n2, hn2⟩ : ∃ n, n = o.toList.length := ⟨_, rfl⟩
  obtain ⟨n3, hn3⟩ : ∃ n, n = W.length := ⟨_, rfl⟩
  have hn9 : n3 ≤ 900 := by omega
  rw [← hn1, ← hn2, ← hn3] at HF HI HT HW1 ⊢
  have HN3 := Lib.hid hn3
  have HB0 := Lib.hid hB
  have HL : Hid (W.length ≤ 1000) := Lib.hid (by omega)
  have HL9 : Hid ((W ++ [x]).length ≤ 1000) := Lib.hid (by rw [List.length_append, List.length_singleton]; omega)
  have e1 : n1 = 0 := by rw [hn1, hR]; rfl
  have e2 : n2 = 0 := by rw [hn2, ho]; rfl
  have HRO : Hid (R = [] ∧ o = none) := Lib.hid ⟨hR, ho⟩
  have HWX := Lib.hid hW
  have HND := Lib.hid hnd
  clear hn1 hn2
  subst e1 e2
  clear h hl hlw h2 hW1 hW2 hq1 hq2 hn3 hin hB hR ho hW hnd
  go_enter Try.func12, Try.ntmps12
  go_upto_region 1 with fail
  rw [← HW1.out, ← HW2.out, HQ2.out, HQ1.out]
  have g0 := cell_of_blk HT.out.b1 0
  have g1 := cell_of_blk HT.out.b1 1
  have g2 := cell_of_blk HT.out.b1 2
  go_wp2_with fail
  refine HI.out.mono ?_
  rintro e w3 ⟨rfl, hb3⟩
  have h3 := HT.out.later hb3
  have p0 := cell_of_blk h3.b1 0
  have p1 := cell_of_blk h3.b1 1
  have p2 := cell_of_blk h3.b1 2
  have hF3 := HF.out.later hb3
  have HT3 := Lib.hid h3
  have HF3 := Lib.hid hF3
  clear h3 hb3 hF3 g0 g1 g2
  have HHAS := Lib.hid (has_any B (.slice A3 n3 c3) W x w3 HF3.out.r3 HL.out)
  rw [hhas] at HHAS
  clear hhas
  go_wp2_with fail
  refine HHAS.out.mono ?_
  rintro e wx ⟨rfl, e1⟩
  subst e1
  go_upto_region 4 with fail
  obtain ⟨W4, hW4⟩ : ∃ W4, W4 = w3.alloc (.cells #[] 3) := ⟨_, rfl⟩
  have hb4 : Below w3.heap.size w3 W4 := by rw [hW4]; exact (Below.refl _ _).alloc (Nat.le_refl _) _
  have HO4 : Hid (W4.ownsRow w3.heap.size 3 1 (.slice (some ⟨w3.heap.size, 0, none⟩) 0 0) 0 []) := Lib.hid (by rw [hW4]; exact own_full w3 w3.heap.size 1 0 3 [] (Nat.le_refl _) (by decide) rfl)
  have HB4 := Lib.hid hb4
  have HW4 := Lib.hid hW4.symm
  have HONE := Lib.hid (iC_one W)
  have HONEx := Lib.hid (iC_one [x])
  have e0 := cell_of_blk (HT3.out.later hb4).b1 2
  have hR4 := (HF3.out.later hb4).r3
  unfold Rw at hR4
  rw [← HN3.out] at hR4
  have HR4 := Lib.hid hR4
  have ex0 : (w3.alloc (.cells #[] 3)).cell? ⟨q1, 2, none⟩ = some (.slice A3 n3 c3) := by rw [HW4.out]; exact e0
  clear hW4 hb4 hR4
  go_upto_region 5 with (first
    | (at_builtin; rw [HW4.out]; refine wpList_append_row rfl (.tmp 15) (.tmp 17) 28 rfl w3.heap.size 3 iE _ 1 8 Try.underlying28 hiE zE0 zE1 zE2 rfl (by decide) (.slice (some ⟨w3.heap.size, 0, none⟩) 0 0) 0 [] rfl HO4.out B (.slice A3 n3 c3) n3 (iC W) rfl HR4.out HONE.out (by simp only [maxLen]; omega) (by omega) HB4.out.size ?_; intro v5 w5 ho5 hg5; have hB5 := keep_grown HB4.out HO4.out hg5 (Nat.le_refl _) (Nat.le_refl _); rw [List.nil_append, Nat.zero_add] at ho5; obtain ⟨A5, c5, rfl, _⟩ := own_facts ho5; obtain ⟨W6, hW6⟩ : ∃ W6, W6 = w5.alloc (.cells #[.int .i64 x] 3) := ⟨_, rfl⟩; have hb6 : Below w5.heap.size w5 W6 := by { rw [hW6]; exact (Below.refl _ _).alloc (Nat.le_refl _) _ }; have HN6 : Hid (∀ (i : Nat) (u : Value), (iC [x])[i]? = some u → W6.cell? ((⟨w5.heap.size, 0, none⟩ : Addr).add i) = some u) := Lib.hid fun i u hi => by { rw [hW6, new_cell]; simpa [iC] using hi }; have HO6 := Lib.hid (ownL ho5 hb6); have HB6 := Lib.hid (hB5.trans (hb6.mono hB5.size)); have HW6 := Lib.hid hW6.symm; clear hW6 hb6 hB5 ho5 hg5)
    | (at_builtin; rw [HW6.out]; refine wpList_append_own _ rfl (.tmp 18) (.tmp 20) 28 rfl w3.heap.size 3 iE _ 1 8 Try.underlying28 hiE zE0 zE1 zE2 rfl (by decide) (.slice A5 n3 c5) n3 (iC W) rfl HO6.out ⟨w5.heap.size, 0, none⟩ 1 1 (iC [x]) rfl rfl HN6.out HONEx.out (by simp only [maxLen]; omega) (by omega) HB6.out.size ?_; intro v7 w7 ho7 hg7 hnil7; have hB7 := keep_grown HB6.out HO6.out hg7 (Nat.le_refl _) (Nat.le_refl _); have hT7 := HT3.out.later hB7; obtain ⟨A7, c7, rfl, _⟩ := own_facts ho7; have z0 := cell_of_blk hT7.b1 2; have fz0 := free_of_blk hT7.b1 2; have HT7 := Lib.hid hT7; have HO7 := Lib.hid ho7; have HB7 := Lib.hid hB7; clear hnil7 ho7 hg7 hT7 hB7))
  obtain ⟨W8, hW8⟩ : ∃ W8, W8 = w7.setCell ⟨q1, 2, none⟩ (.slice A7 (n3 + 1) c7) := ⟨_, rfl⟩
  rw [← hW8]
  have hF7 := HF3.out.later HB7.out
  have hF7' : Rf w7 B (.slice A1 0 c1) (.slice A2 0 c2) (.slice A7 (n3 + 1) c7) R o (W ++ [x]) := ⟨hF7.r1, hF7.r2, by
    have h := HO7.out
    have e1 : n3 + 1 = (W ++ [x]).length := by rw [List.length_append, HN3.out]; rfl
    have e2 : iC W ++ iC [x] = iC (W ++ [x]) := by unfold iC; rw [List.map_append]
    rw [e2] at h
    unfold Rw
    rw [← e1]
    exact own_mono h (Nat.le_trans HB0.out HT3.out.below.size)⟩
  have hT8 := HT7.out.set2 (.slice A7 (n3 + 1) c7)
  rw [← hW8] at hT8
  have hF8 := hF7'.over HT7.out.b1 (w' := W8) (by rw [hW8]; exact (Tn.refl (fun j => j = q1) w7).setCell (p := ⟨q1, 2, none⟩) (.inr rfl) _)
  have HTS := Lib.hid hT8
  have HFS := Lib.hid hF8
  clear hT8 hF8 hF7 hF7' hW8 HB7 HO7 HT7 z0 fz0 HW4 HO4 HB4 HR4 HB6 HO6 HN6 HW6 ex0 e0 p0 p1 p2
  obtain ⟨wS, rfl⟩ : ∃ wS, wS = W8 := ⟨_, rfl⟩
  obtain ⟨m3, hm3⟩ : ∃ m, m = n3 + 1 := ⟨_, rfl⟩
  have hmp : (0 : Int) < (m3 : Int) := by omega
  rw [← hm3] at HTS HFS ⊢
  clear hm3
  have hrow := HFS.out.r3
  have hml : m3 = (W ++ [x]).length := by
    obtain ⟨_, _, hsl⟩ := hrow.slice
    injection hsl
  have hrow2 : Rw wS B (.slice A7 (W ++ [x]).length c7) (W ++ [x]) := by rw [← hml]; exact hrow
  obtain ⟨b, hA, _, _, cb⟩ := hrow2.at_ (j := 0) (x := x) (by rw [HWX.out]; rfl)
  subst hA
  have hles : less (W ++ [x]) x = Wn := by
    rw [HWX.out]
    unfold less
    rw [List.filter_cons_of_neg (by simp), List.filter_eq_self]
    intro y hy
    have : y ≠ x := fun e => HND.out (e ▸ hy)
    simpa using this
  have hw := without_any B _ _ x wS hrow HL9.out
  rw [hles] at hw
  have HWO := Lib.hid hw
  clear hrow hrow2 hml hles hw
  have p0 := cell_of_blk HTS.out.b1 0
  have p1 := cell_of_blk HTS.out.b1 1
  have p2 := cell_of_blk HTS.out.b1 2
  have tb : (x != x) = false := by simp
  have tb2 : (!(x == x)) = false := by simp
  go_wp2_with fail
  refine HWO.out.mono ?_
  rintro e wq ⟨v, rfl, hv, hbq⟩
  obtain ⟨Av, cv, rfl⟩ := hv.slice
  obtain ⟨nv, hnv⟩ : ∃ nv, nv = Wn.length := ⟨_, rfl⟩
  rw [← hnv] at hv ⊢
  have hTq := HTS.out.later hbq
  have hFq := HFS.out.later hbq
  have z0 := cell_of_blk hTq.b1 2
  have fz0 := free_of_blk hTq.b1 2
  obtain ⟨W8, hW8⟩ : ∃ W8, W8 = wq.setCell ⟨q1, 2, none⟩ (.slice Av nv cv) := ⟨_, rfl⟩
  have hT8 := hTq.set2 (.slice Av nv cv)
  rw [← hW8] at hT8
  have hFq' : Rf wq B (.slice A1 0 c1) (.slice A2 0 c2) (.slice Av nv cv) [] none Wn := ⟨by have := hFq.r1; rwa [HRO.out.1] at this, by have := hFq.r2; rwa [HRO.out.2] at this, hv.mono (Nat.le_trans HB0.out HTS.out.below.size)⟩
  have hF8 := hFq'.over hTq.b1 (w' := W8) (by rw [hW8]; exact (Tn.refl (fun j => j = q1) wq).setCell (p := ⟨q1, 2, none⟩) (.inr rfl) _)
  obtain ⟨W10, hW10⟩ : ∃ W10, W10 = W8.alloc (.cells #[.int .i64 x] 3) := ⟨_, rfl⟩
  have hb10 : Below W8.heap.size W8 W10 := by rw [hW10]; exact (Below.refl _ _).alloc (Nat.le_refl _) _
  have hr10 : Rw W10 W8.heap.size (.slice (some ⟨W8.heap.size, 0, none⟩) 1 1) [x] := by
    rw [hW10]
    exact own_full W8 W8.heap.size 1 1 3 (iC [x]) (Nat.le_refl _) (by decide) rfl
  have hT10 := hT8.later hb10
  have hF10 := hF8.later hb10
  have HF10 : Hid (Rf W10 B (.slice A1 0 c1) (.slice (some ⟨W8.heap.size, 0, none⟩) 1 1) (.slice Av nv cv) [] (some x) Wn) := Lib.hid ⟨hF10.r1, hr10.mono (Nat.le_trans HB0.out hT8.below.size), hF10.r3⟩
  obtain ⟨W12, hW12⟩ : ∃ W12, W12 = (W8.alloc (.cells #[.int .i64 x] 3)).setCell ⟨q1, 1, none⟩ (.slice (some ⟨W8.heap.size, 0, none⟩) 1 1) := ⟨_, rfl⟩
  rw [hW10] at hT10 HF10
  have y1 := cell_of_blk hT10.b1 1
  have fy1 := free_of_blk hT10.b1 1
  have hT12 := hT10.set1 (.slice (some ⟨W8.heap.size, 0, none⟩) 1 1)
  rw [← hW12] at hT12
  have hF12 := HF10.out.over hT10.b1 (w' := W12) (by rw [hW12]; exact (Tn.refl (fun j => j = q1) _).setCell (p := ⟨q1, 1, none⟩) (.inr rfl) _)
  obtain ⟨W9, hW9⟩ : ∃ W9, W9 = ((W12.setCell ⟨q2, 0, none⟩ (.slice A1 0 c1)).setCell ⟨q2, 1, none⟩ (.slice (some ⟨W8.heap.size, 0, none⟩) 1 1)).setCell ⟨q2, 2, none⟩ (.slice Av nv cv) := ⟨_, rfl⟩
  obtain ⟨k1, k2, k3⟩ := hT12.ends _ _ _ hW9
  have HE : Hid (RefIn w B [] (some x) Wn true (.returned (.tuple #[.agg #[.slice A1 0 c1, .slice (some ⟨W8.heap.size, 0, none⟩) 1 1, .slice Av nv cv], .bool true])) W9) := Lib.hid ⟨_, _, _, rfl, hF12.over hT12.b2 k3, k2⟩
  have x0 := cell_of_blk k1 0
  have x1 := cell_of_blk k1 1
  have x2 := cell_of_blk k1 2
  have r0 := cell_of_blk hT12.b1 0
  have r1 := cell_of_blk hT12.b1 1
  have r2 := cell_of_blk hT12.b1 2
  have s0 := cell_of_blk hT12.b2 0
  have s1 := cell_of_blk hT12.b2 1
  have s2 := cell_of_blk hT12.b2 2
  have fs0 := free_of_blk hT12.b2 0
  have fs1 := free_of_blk hT12.b2 1
  have fs2 := free_of_blk hT12.b2 2
  have HW8 := Lib.hid hW8
  have HW12 := Lib.hid hW12
  clear hT8 hF8 hFq hFq' hTq hb10 hr10 hT10 hW8 hW10 hv hbq hnv p0 p1 p2 k1 k2 k3 hT12 hF12 hW12 HF10
  go_upto_region 8 with fail
  rw [← HW8.out]
  clear z0 fz0
  go_upto_region 9 with fail
  rw [← HW12.out]
  clear y1 fy1
  go_wp2
  rw [← hW9]
  exact bodyPost_ret (v := .tuple #[.agg #[.slice A1 0 c1, .slice (some ⟨W8.heap.size, 0, none⟩) 1 1, .slice Av nv cv], .bool true]) (by simp [results, Try.results12, go_sem, x0, x1, x2]) rfl HE.out
set_option maxHeartbeats 1600000 in
theorem refleave_yes (h : Rf w B a1 a2 a3 R o W) (hl : R.length ≤ 900) (hlw : W.length ≤ 900) (hin : inB R o x = true) (hor : o.isSome = true → R = []) (hB : B ≤ w.heap.size) :
    Calls Try.prog 14 #[.agg #[a1, a2, a3], .int .i64 x] w (RefIn w B (less R x) none W true) := by
  obtain ⟨W1, hW1⟩ : ∃ W1, W1 = w.alloc (.cells #[a1, a2, a3] 30) := ⟨_, rfl⟩
  obtain ⟨W2, hW2⟩ : ∃ W2, W2 = W1.alloc (.cells #[.slice none 0 0, .slice none 0 0, .slice none 0 0] 30) := ⟨_, rfl⟩
  have h2 := Two.made hW1 hW2
  have HW1 := Lib.hid hW1
  have HW2 := Lib.hid hW2
  obtain ⟨q1, hq1⟩ : ∃ q1, q1 = w.heap.size := ⟨_, rfl⟩
  obtain ⟨q2, hq2⟩ : ∃ q2, q2 = w.heap.size + 1 := ⟨_, rfl⟩
  rw [← hq2, ← hq1] at h2
  have HQ1 := Lib.hid hq1.symm
  have HQ2 := Lib.hid hq2.symm
  obtain ⟨iE, hiE, zE0, zE1, zE2⟩ := info_three infoInt
  have HF := Lib.hid (h.later h2.below)
  have HI := Lib.hid (refin_any B a1 a2 a3 R o W x W2 HF.out (by omega))
  rw [hin] at HI
  have HT := Lib.hid h2
  obtain ⟨A1, c1, A2, c2, A3, c3, rfl, rfl, rfl⟩ := h.slices
  obtain ⟨n1, hn1⟩ : ∃ n, n = R.length := ⟨_, rfl⟩
  obtain ⟨n2, hn2⟩ : ∃ n, n = o.toList.length := ⟨_, rfl⟩
  obtain ⟨n3, hn3⟩ : ∃ n, n = W.length := ⟨_, rfl⟩
  have hn9 : n3 ≤ 900 := by omega
  rw [← hn1, ← hn2, ← hn3] at HF HI HT HW1 ⊢
  have HN3 := Lib.hid hn3
  have HB0 := Lib.hid hB
  have HLR : Hid (R.length ≤ 1000) := Lib.hid (by omega)
  have hoe : less o.toList x = (none : Option Int).toList := by
    rcases o with _ | z
    · rfl
    · have hR := hor rfl
      rw [hR] at hin
      have hz : (some z == some x) = true := hin
      have hz : z = x := by simpa using hz
      subst hz
      simp [less]
  have HOE := Lib.hid hoe
  clear h hl hlw h2 hW1 hW2 hq1 hq2 hn1 hn2 hn3 hin hB hor hoe
  go_enter Try.func14, Try.ntmps14
  go_upto_region 1 with fail
  rw [← HW1.out, ← HW2.out, HQ2.out, HQ1.out]
  have g0 := cell_of_blk HT.out.b1 0
  have g1 := cell_of_blk HT.out.b1 1
  have g2 := cell_of_blk HT.out.b1 2
  go_wp2_with fail
  refine HI.out.mono ?_
  rintro e w3 ⟨rfl, hb3⟩
  have h3 := HT.out.later hb3
  have p0 := cell_of_blk h3.b1 0
  have p1 := cell_of_blk h3.b1 1
  have p2 := cell_of_blk h3.b1 2
  have hF3 := HF.out.later hb3
  have HT3 := Lib.hid h3
  have HF3 := Lib.hid hF3
  clear h3 hb3 hF3 g0 g1 g2
  have HWO := Lib.hid (without_any B _ _ x w3 HF3.out.r1 HLR.out)
  go_wp2_with fail
  refine HWO.out.mono ?_
  rintro e wq ⟨v, rfl, hv, hbq⟩
  obtain ⟨Av, cv, rfl⟩ := hv.slice
  obtain ⟨nv, hnv⟩ : ∃ nv, nv = (less R x).length := ⟨_, rfl⟩
  rw [← hnv] at hv ⊢
  have hTq := HT3.out.later hbq
  have hFq := HF3.out.later hbq
  have z0 := cell_of_blk hTq.b1 0
  have fz0 := free_of_blk hTq.b1 0
  obtain ⟨W8, hW8⟩ : ∃ W8, W8 = wq.setCell ⟨q1, 0, none⟩ (.slice Av nv cv) := ⟨_, rfl⟩
  have hT8 := hTq.set0 (.slice Av nv cv)
  rw [← hW8] at hT8
  have hFq' : Rf wq B (.slice Av nv cv) (.slice A2 n2 c2) (.slice A3 n3 c3) (less R x) o W := ⟨hv.mono (Nat.le_trans HB0.out HT3.out.below.size), hFq.r2, hFq.r3⟩
  have hF8 := hFq'.over hTq.b1 (w' := W8) (by rw [hW8]; exact (Tn.refl (fun j => j = q1) wq).setCell (p := ⟨q1, 0, none⟩) (.inr rfl) _)
  have HT8 := Lib.hid hT8
  have HF8 := Lib.hid hF8
  have HW8 := Lib.hid hW8
  have r1 := cell_of_blk hT8.b1 1
  have HWO2 := Lib.hid (without_any B _ _ x W8 hF8.r2 (by have := opt_le o; omega))
  rw [HOE.out] at HWO2
  clear hT8 hF8 hW8 hFq hFq' hTq hv hbq hnv p0 p1 p2
  go_upto_region 4 with fail
  rw [← HW8.out]
  clear z0 fz0
  go_wp2_with fail
  refine HWO2.out.mono ?_
  rintro e wq2 ⟨v2, rfl, hv2, hbq2⟩
  obtain ⟨Av2, cv2, rfl⟩ := hv2.slice
  rw [show ((none : Option Int).toList.length) = 0 from rfl] at hv2 ⊢
  have hTq := HT8.out.later hbq2
  have hFq := HF8.out.later hbq2
  have z0 := cell_of_blk hTq.b1 1
  have fz0 := free_of_blk hTq.b1 1
  obtain ⟨W12, hW12⟩ : ∃ W12, W12 = wq2.setCell ⟨q1, 1, none⟩ (.slice Av2 0 cv2) := ⟨_, rfl⟩
  have hT12 := hTq.set1 (.slice Av2 0 cv2)
  rw [← hW12] at hT12
  have hFq' : Rf wq2 B (.slice Av nv cv) (.slice Av2 0 cv2) (.slice A3 n3 c3) (less R x) none W := ⟨hFq.r1, hv2.mono (Nat.le_trans HB0.out HT8.out.below.size), hFq.r3⟩
  have hF12 := hFq'.over hTq.b1 (w' := W12) (by rw [hW12]; exact (Tn.refl (fun j => j = q1) wq2).setCell (p := ⟨q1, 1, none⟩) (.inr rfl) _)
  obtain ⟨W9, hW9⟩ : ∃ W9, W9 = ((W12.setCell ⟨q2, 0, none⟩ (.slice Av nv cv)).setCell ⟨q2, 1, none⟩ (.slice Av2 0 cv2)).setCell ⟨q2, 2, none⟩ (.slice A3 n3 c3) := ⟨_, rfl⟩
  obtain ⟨k1, k2, k3⟩ := hT12.ends _ _ _ hW9
  have HE : Hid (RefIn w B (less R x) none W true (.returned (.tuple #[.agg #[.slice Av nv cv, .slice Av2 0 cv2, .slice A3 n3 c3], .bool true])) W9) := Lib.hid ⟨_, _, _, rfl, hF12.over hT12.b2 k3, k2⟩
  have x0 := cell_of_blk k1 0
  have x1 := cell_of_blk k1 1
  have x2 := cell_of_blk k1 2
  have r0 := cell_of_blk hT12.b1 0
  have r1 := cell_of_blk hT12.b1 1
  have r2 := cell_of_blk hT12.b1 2
  have s0 := cell_of_blk hT12.b2 0
  have s1 := cell_of_blk hT12.b2 1
  have s2 := cell_of_blk hT12.b2 2
  have fs0 := free_of_blk hT12.b2 0
  have fs1 := free_of_blk hT12.b2 1
  have fs2 := free_of_blk hT12.b2 2
  have HW12 := Lib.hid hW12
  clear hT12 hF12 hW12 hFq hFq' hTq hv2 hbq2 k1 k2 k3
  go_upto_region 5 with fail
  rw [← HW12.out]
  clear z0 fz0
  go_wp2
  rw [← hW9]
  exact bodyPost_ret (v := .tuple #[.agg #[.slice Av nv cv, .slice Av2 0 cv2, .slice A3 n3 c3], .bool true]) (by simp [results, Try.results14, go_sem, x0, x1, x2]) rfl HE.out
end
end Go.Proofs.Ythmehalkijbpdaa.gat
