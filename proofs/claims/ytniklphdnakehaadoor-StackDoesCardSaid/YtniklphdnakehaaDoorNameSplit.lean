/- What name.Right and name.Split answer, at any text. Conditions: the text's length is one; the library's MaxLen holds a number. -/
import Derived.Test.YtniklphdnakehaaDoorNameCut
import Derived.Test.YtniklphdnakehaaDoorShelf
import Derived.RegionTactic
import Derived.ChangeAlike
import Derived.Deep.QuietTactic
import Derived.BigQuiet
namespace Go.Proofs.YtniklphdnakehaaDoor.name
set_option maxRecDepth 100000
open Go.RowKit Go.Proofs.YtniklphdnakehaaDoor.words

theorem idx_no (s : ByteArray) (c : Int) (u : UInt8) (w : World) (hc : c.toNat.toUInt8 = u) (h : s.data.toList.contains u = false) :
    Calls Tryd.prog 140 #[.string s, .int .u8 c] w fun e w' => e = .returned (.int .i64 (-1)) ∧ w = w' :=
  (Tryd.strings_IndexByte s c w).mono fun e w' ⟨he, hw⟩ => by
    refine ⟨?_, hw.symm⟩
    rw [Lib.contains_iff_indexByte] at h
    have h1 := of_decide_eq_false h
    have h2 := Lib.indexByte_ge s.data.toList u
    rw [he, hc, show Lib.indexByte s.data.toList u = -1 by omega]
theorem idx_yes (s : ByteArray) (c : Int) (u : UInt8) (w : World) (hc : c.toNat.toUInt8 = u) (h : s.data.toList.contains u = true) :
    Calls Tryd.prog 140 #[.string s, .int .u8 c] w fun e w' => ∃ i : Nat, e = .returned (.int .i64 (i : Int)) ∧ w = w' :=
  (Tryd.strings_IndexByte s c w).mono fun e w' ⟨he, hw⟩ => by
    rw [Lib.contains_iff_indexByte] at h
    have h1 := of_decide_eq_true h
    refine ⟨(Lib.indexByte s.data.toList u).toNat, ?_, hw.symm⟩
    rw [he, hc, Int.toNat_of_nonneg h1]

set_option maxHeartbeats 800000 in
theorem nameright_any (s : ByteArray) (w : World) (hs : s.size ≤ 9223372036854775807) : Calls Tryd.prog 135 #[.string s] w fun e w' => e = .returned (.bool (right s.data.toList)) ∧ w = w' := by
  have hl : s.data.toList.length = s.size := size_list s
  by_cases e0 : s.size < 1
  · have hr : right s.data.toList = false := right_short (.inl (List.eq_nil_of_length_eq_zero (by omega)))
    rw [hr]
    clear hl
    go_enter Tryd.func135, Tryd.ntmps135
    go_wp2
    go_ret
    exact ⟨rfl, rfl⟩
  · have d0 : decide ((s.size : Int) < 1) = false := by simp; omega
    by_cases e3 : 64 < s.size
    · have hr : right s.data.toList = false := right_short (.inr (.inr (.inr (by omega))))
      rw [hr]
      clear hl
      go_enter Tryd.func135, Tryd.ntmps135
      go_wp2
      go_ret
      exact ⟨rfl, rfl⟩
    · have d3 : decide (64 < (s.size : Int)) = false := by simp; omega
      by_cases e1 : s.toList = [46]
      · have hr : right s.data.toList = false := right_short (.inr (.inl (by rw [← to_list]; exact e1)))
        have f1 : (s.toList == [46]) = true := by rw [e1]; rfl
        rw [hr]
        clear e1 hl
        go_enter Tryd.func135, Tryd.ntmps135
        go_wp2
        go_ret
        exact ⟨rfl, rfl⟩
      · have f1 : (s.toList == [46]) = false := by simpa using e1
        by_cases e2 : s.toList = [46, 46]
        · have hr : right s.data.toList = false := right_short (.inr (.inr (.inl (by rw [← to_list]; exact e2))))
          have f2 : (s.toList == [46, 46]) = true := by rw [e2]; rfl
          rw [hr]
          clear e2 hl
          go_enter Tryd.func135, Tryd.ntmps135
          go_wp2
          go_ret
          exact ⟨rfl, rfl⟩
        · have f2 : (s.toList == [46, 46]) = false := by simpa using e2
          have hr : right s.data.toList = clean s.data.toList := right_of (by omega) (by omega) (by rw [← to_list]; exact e1) (by rw [← to_list]; exact e2)
          rw [hr]
          rcases h47 : s.data.toList.contains 47 with _ | _
          · rcases h0 : s.data.toList.contains 0 with _ | _
            · have hc : clean s.data.toList = true := by unfold clean; rw [h47, h0]; rfl
              have H47 := Lib.hid h47
              have H0 := Lib.hid h0
              rw [hc]
              clear hc hr h47 h0 e1 e2 hl
              go_enter Tryd.func135, Tryd.ntmps135
              go_wp2_with fail
              refine (idx_no _ _ 47 _ (by decide) H47.out).mono ?_
              rintro e w' ⟨rfl, rfl⟩
              go_wp2_with fail
              refine (idx_no _ _ 0 _ (by decide) H0.out).mono ?_
              rintro e w' ⟨rfl, rfl⟩
              go_wp2_with fail
              go_ret
              exact ⟨rfl, rfl⟩
            · have hc : clean s.data.toList = false := by unfold clean; rw [h0]; simp
              have H47 := Lib.hid h47
              have H0 := Lib.hid h0
              rw [hc]
              clear hc hr h47 h0 e1 e2 hl
              go_enter Tryd.func135, Tryd.ntmps135
              go_wp2_with fail
              refine (idx_no _ _ 47 _ (by decide) H47.out).mono ?_
              rintro e w' ⟨rfl, rfl⟩
              go_wp2_with fail
              refine (idx_yes _ _ 0 _ (by decide) H0.out).mono ?_
              rintro e w' ⟨i, rfl, rfl⟩
              go_wp2_with fail
              go_ret
              exact ⟨rfl, rfl⟩
          · have hc : clean s.data.toList = false := by unfold clean; rw [h47]; rfl
            have H47 := Lib.hid h47
            rw [hc]
            clear hc hr h47 e1 e2 hl
            go_enter Tryd.func135, Tryd.ntmps135
            go_wp2_with fail
            refine (idx_yes _ _ 47 _ (by decide) H47.out).mono ?_
            rintro e w' ⟨i, rfl, rfl⟩
            go_wp2_with fail
            go_ret
            exact ⟨rfl, rfl⟩
theorem right_yes (s : ByteArray) (w : World) (hs : s.size ≤ 9223372036854775807) (h : right s.data.toList = true) : Calls Tryd.prog 135 #[.string s] w fun e w' => e = .returned (.bool true) ∧ w = w' :=
  (nameright_any s w hs).mono fun _ _ ⟨he, hw⟩ => ⟨by rw [he, h], hw⟩
theorem right_no (s : ByteArray) (w : World) (hs : s.size ≤ 9223372036854775807) (h : right s.data.toList = false) : Calls Tryd.prog 135 #[.string s] w fun e w' => e = .returned (.bool false) ∧ w = w' :=
  (nameright_any s w hs).mono fun _ _ ⟨he, hw⟩ => ⟨by rw [he, h], hw⟩
end Go.Proofs.YtniklphdnakehaaDoor.name
