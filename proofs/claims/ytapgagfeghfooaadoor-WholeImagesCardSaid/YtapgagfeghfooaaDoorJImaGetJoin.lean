/- What get's walk finds in numbers at places is what the plain reading finds in the bytes: files, links, whiteouts. No condition. -/
import Derived.Test.YtapgagfeghfooaaDoorJImaGetFile
namespace Go.Proofs.YtapgagfeghfooaaDoor.ima
set_option maxRecDepth 100000
open Go.RowKit Go.Proofs.YtapgagfeghfooaaDoor.words Go.Proofs.YtapgagfeghfooaaDoor.ext Go.Proofs.YtapgagfeghfooaaDoor.name Go.Proofs.YtapgagfeghfooaaDoor.tre

theorem takeP_num {s : ByteArray} {p z : Nat} (h : p + z ≤ s.size) : takeP z (s.data.toList.drop p) = some (num ((s.data.toList.drop p).take z), s.data.toList.drop (p + z)) := by
  have hl : s.data.toList.length = s.size := rfl
  unfold takeP
  rw [if_pos (by rw [List.length_drop, hl]; omega), List.drop_drop]
theorem takeP_few {s : ByteArray} {p z : Nat} (h : ¬ p + z ≤ s.size) (hz : 0 < z) : takeP z (s.data.toList.drop p) = none := by
  have hl : s.data.toList.length = s.size := rfl
  unfold takeP
  rw [if_neg (by rw [List.length_drop, hl]; omega)]
theorem takeP_head {s : ByteArray} (h : 0 < s.size) : takeP 1 s.data.toList = some (s[0].toNat, s.data.toList.drop 1) := by
  have hl : s.data.toList.length = s.size := rfl
  have h1 := takeP_num (s := s) (p := 0) (z := 1) (by omega)
  rw [List.drop_zero] at h1
  rw [h1]
  have h2 : s.data.toList.take 1 = [s[0]] := by
    rcases hs : s.data.toList with _ | ⟨a, l⟩
    · rw [hs] at hl; simp at hl; omega
    · have : s[0] = a := by
        have h3 : s.data.toList[0]? = some s[0] := by
          rw [Array.getElem?_toList]
          exact Array.getElem?_eq_getElem (by exact h)
        rw [hs] at h3
        simpa using h3.symm
      rw [this]
      rfl
  rw [h2]
  have : num [s[0]] = s[0].toNat := by simp [num]
  rw [this]
theorem getP_empty {f : Nat} {s : ByteArray} (h : s.size = 0) : getP f s.data.toList = none := by
  have hl : s.data.toList.length = s.size := rfl
  have hn : s.data.toList = [] := List.eq_nil_of_length_eq_zero (by omega)
  rcases f with _ | f
  · rfl
  · rw [getP_eq, hn]
    rfl
theorem getP_file {f : Nat} {s : ByteArray} (h : 0 < s.size) (hk : s[0].toNat = 1) : getP (f + 1) s.data.toList = (fileR s).map fun R => (.mk 1 false [] [] (numB s 1 4) R.1 ⟨#[]⟩, R.2) := by
  rw [getP_eq, takeP_head h, hk]
  simp only [if_true]
  unfold fileP fileR
  by_cases h5 : 1 + 4 ≤ s.size
  · rw [takeP_num h5]
    simp only
    by_cases h9 : 5 + 4 ≤ s.size
    · rw [takeP_num h9, numB_yes h9, numB_yes h5]
      simp only
      rw [if_neg (by omega), Int.toNat_natCast]
      rcases exP (num ((s.data.toList.drop 5).take 4)) (s.data.toList.drop (5 + 4)) with _ | ⟨E, l⟩ <;> rfl
    · rw [takeP_few h9 (by decide), numB_no h9]
      rfl
  · have h9 : numB s 5 4 = -1 := numB_no (by omega)
    rw [takeP_few h5 (by decide), h9]
    rfl
theorem getP_white {f : Nat} {s : ByteArray} (h : 0 < s.size) (hk : s[0].toNat = 4) : getP (f + 1) s.data.toList = some (whiteN, s.data.toList.drop 1) := by
  rw [getP_eq, takeP_head h, hk]
  rfl
theorem getP_other {f : Nat} {s : ByteArray} (h : 0 < s.size) (hk : s[0].toNat ≠ 1 ∧ s[0].toNat ≠ 2 ∧ s[0].toNat ≠ 3 ∧ s[0].toNat ≠ 4) : getP (f + 1) s.data.toList = none := by
  rw [getP_eq, takeP_head h]
  simp only
  rw [if_neg hk.1, if_neg hk.2.1, if_neg hk.2.2.1, if_neg hk.2.2.2]
theorem getP_link_no {f : Nat} {s : ByteArray} (h : 0 < s.size) (hk : s[0].toNat = 3) (hn : ¬ (0 ≤ numB s 1 2 ∧ 3 + numB s 1 2 ≤ (s.size : Int))) : getP (f + 1) s.data.toList = none := by
  have hl : s.data.toList.length = s.size := rfl
  rw [getP_eq, takeP_head h, hk]
  simp only
  rw [if_neg (by decide), if_neg (by decide), if_pos trivial]
  unfold textP
  by_cases h3 : 1 + 2 ≤ s.size
  · rw [takeP_num h3]
    rw [numB_yes h3] at hn
    simp only
    rw [if_neg (by rw [List.length_drop, hl]; omega)]
  · rw [takeP_few h3 (by decide)]
theorem getP_link {f : Nat} {s : ByteArray} {z : Nat} (h : 0 < s.size) (hk : s[0].toNat = 3) (h1 : numB s 1 2 = (z : Int)) (h2 : 3 + z ≤ s.size) : getP (f + 1) s.data.toList = some (linkAt s z, s.data.toList.drop (3 + z)) := by
  have hl : s.data.toList.length = s.size := rfl
  rw [getP_eq, takeP_head h, hk]
  simp only
  rw [if_neg (by decide), if_neg (by decide), if_pos trivial]
  unfold textP
  rw [takeP_num (show 1 + 2 ≤ s.size by omega)]
  rw [numB_yes (show 1 + 2 ≤ s.size by omega)] at h1
  have hz : num ((s.data.toList.drop 1).take 2) = z := by omega
  simp only
  rw [hz, if_pos (by rw [List.length_drop, hl]; omega), List.drop_drop]
  have hx : mkB ((s.data.toList.drop 3).take z) = s.extract 3 (3 + z) := by
    have h := (cut_list s 3 z h2).1
    have : mkB (s.extract 3 (3 + z)).data.toList = s.extract 3 (3 + z) := rfl
    rw [h] at this
    exact this
  show some (Nd.mk 3 false [] [] 0 [] (mkB ((s.data.toList.drop 3).take z)), _) = _
  rw [hx]
  rfl
theorem textP_cut {s : ByteArray} {p z : Nat} (h1 : numB s p 1 = (z : Int)) (h2 : p + 1 + z ≤ s.size) : textP 1 (s.data.toList.drop p) = some ((s.data.toList.drop (p + 1)).take z, s.data.toList.drop (p + 1 + z)) := by
  have hl : s.data.toList.length = s.size := rfl
  unfold textP
  rw [takeP_num (show p + 1 ≤ s.size by omega)]
  rw [numB_yes (show p + 1 ≤ s.size by omega)] at h1
  have hz : num ((s.data.toList.drop p).take 1) = z := by omega
  simp only
  rw [hz, if_pos (by rw [List.length_drop, hl]; omega), List.drop_drop]
theorem textP_few {s : ByteArray} {p : Nat} (h : numB s p 1 < 0 ∨ (s.size : Int) < (p : Int) + 1 + numB s p 1) : textP 1 (s.data.toList.drop p) = none := by
  have hl : s.data.toList.length = s.size := rfl
  unfold textP
  by_cases h3 : p + 1 ≤ s.size
  · rw [takeP_num h3]
    rw [numB_yes h3] at h
    simp only
    rw [if_neg (by rw [List.length_drop, hl]; omega)]
  · rw [takeP_few h3 (by decide)]
theorem cut_mkB {s : ByteArray} {p z : Nat} (h : p + z ≤ s.size) : mkB ((s.data.toList.drop p).take z) = s.extract p (p + z) := by
  have h1 := (cut_list s p z h).1
  have : mkB (s.extract p (p + z)).data.toList = s.extract p (p + z) := rfl
  rw [h1] at this
  exact this
/-- The entries that get reads, one behind the other. -/
theorem itP_few {f k : Nat} {s : ByteArray} {p c : Nat} (h : numB s p 1 < 0 ∨ (s.size : Int) < (p : Int) + 1 + numB s p 1) : itP (getC f) (k + 1) c (s.data.toList.drop p) = none := by
  rw [itP, textP_few h]
theorem itP_bad {f k : Nat} {s : ByteArray} {p z c : Nat} (h1 : numB s p 1 = (z : Int)) (h2 : p + 1 + z ≤ s.size) (h3 : getP f (s.data.toList.drop (p + 1 + z)) = none) : itP (getC f) (k + 1) c (s.data.toList.drop p) = none := by
  rw [itP, textP_cut h1 h2]
  simp only
  unfold getC
  rw [h3]
  rfl
theorem itP_next {f k : Nat} {s : ByteArray} {p z c : Nat} {x : Nd} {l : List UInt8} (h1 : numB s p 1 = (z : Int)) (h2 : p + 1 + z ≤ s.size) (h3 : getP f (s.data.toList.drop (p + 1 + z)) = some (x, l)) :
    itP (getC f) (k + 1) c (s.data.toList.drop p) = (itP (getC f) k c l).map fun R => (s.extract (p + 1) (p + 1 + z) :: R.1, x :: R.2.1, R.2.2) := by
  rw [itP, textP_cut h1 h2]
  simp only
  have hg : getC f c (s.data.toList.drop (p + 1 + z)) = some (x, l, c) := by unfold getC; rw [h3]; rfl
  rw [hg]
  simp only
  rw [cut_mkB h2]
  rcases itP (getC f) k c l with _ | ⟨N, I, l3, c3⟩ <;> rfl
def dirR (f : Nat) (s : ByteArray) : Option (List ByteArray × List Nd × List UInt8 × Nat) := if numB s 2 2 < 0 ∨ 1 < numB s 1 1 then none else itP (getC f) (numB s 2 2).toNat 0 (s.data.toList.drop 4)
theorem getP_dir {f : Nat} {s : ByteArray} (h : 0 < s.size) (hk : s[0].toNat = 2) : getP (f + 1) s.data.toList = (dirR f s).map fun R => (.mk 2 (decide (numB s 1 1 = 1)) R.1 R.2.1 0 [] ⟨#[]⟩, R.2.2.1) := by
  rw [getP_eq, takeP_head h, hk]
  simp only
  rw [if_neg (by decide), if_pos trivial]
  unfold dirP dirR
  by_cases h2 : 1 + 1 ≤ s.size
  · rw [takeP_num h2, numB_yes h2]
    simp only
    by_cases h1 : 1 < num ((s.data.toList.drop 1).take 1)
    · rw [if_pos h1, if_pos (.inr (by omega))]
      rfl
    · rw [if_neg h1]
      by_cases h4 : 2 + 2 ≤ s.size
      · rw [takeP_num h4, numB_yes h4, if_neg (by omega), Int.toNat_natCast]
        simp only
        have hd : decide (((num ((s.data.toList.drop 1).take 1) : Nat) : Int) = 1) = decide (num ((s.data.toList.drop 1).take 1) = 1) := by
          rw [decide_eq_decide]
          omega
        rw [hd]
        rcases itP (getC f) (num ((s.data.toList.drop 2).take 2)) 0 (s.data.toList.drop (2 + 2)) with _ | ⟨N, I, l3, c3⟩ <;> rfl
      · rw [takeP_few h4 (by decide), numB_no h4, if_pos (.inl (by decide))]
        rfl
  · have h4 : numB s 2 2 = -1 := numB_no (by omega)
    rw [takeP_few h2 (by decide), h4, if_pos (.inl (by decide))]
    rfl
end Go.Proofs.YtapgagfeghfooaaDoor.ima
