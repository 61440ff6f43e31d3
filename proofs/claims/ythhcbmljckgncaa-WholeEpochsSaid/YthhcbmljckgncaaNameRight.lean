/- Names: what the reference's Right answers at any text, and the words for it. Condition: the text's length is one. -/
import Derived.Test.YthhcbmljckgncaaChecked
import Derived.Test.YthhcbmljckgncaaWords
import Derived.WalkKit
import Derived.WalkSpells
import Derived.WalkLawsBesides
import Derived.Lib.Hide
import Derived.IntWalk
import Derived.KernelRfl
namespace Go.Proofs.Ythhcbmljckgncaa.name
set_option maxRecDepth 100000
open Go.RowKit Go.Proofs.Ythhcbmljckgncaa.words

/-- Can an entry be called so? -/
def right (l : List UInt8) : Bool := decide (1 ≤ l.length ∧ l.length ≤ 64) && !(l == [46]) && !(l == [46, 46]) && !(l.contains 47) && !(l.contains 0)

theorem size_list (s : ByteArray) : s.data.toList.length = s.size := by rw [Array.length_toList]; rfl
theorem to_list (s : ByteArray) : s.toList = s.data.toList := ByteArray.toList_eq s
theorem take_snoc (s : ByteArray) (k : Nat) (h : k < s.size) : s.data.toList.take (k + 1) = s.data.toList.take k ++ [s[k]] := by
  rw [List.take_succ_eq_append_getElem (by simpa using h)]; rfl
/-- Neither byte is in it. -/
def clean (l : List UInt8) : Bool := !(l.contains 47) && !(l.contains 0)
theorem clean_iff (l : List UInt8) : clean l = true ↔ (47 : UInt8) ∉ l ∧ (0 : UInt8) ∉ l := by
  unfold clean
  rw [Bool.and_eq_true, Bool.not_eq_true', Bool.not_eq_true', List.contains_eq_mem, List.contains_eq_mem, decide_eq_false_iff_not, decide_eq_false_iff_not]
theorem clean_more {l : List UInt8} {b : UInt8} (h : clean l = true) (h1 : b ≠ 47) (h2 : b ≠ 0) : clean (l ++ [b]) = true := by
  rw [clean_iff] at h ⊢
  refine ⟨fun hm => ?_, fun hm => ?_⟩
  · rcases List.mem_append.1 hm with hm | hm
    · exact h.1 hm
    · exact h1 (List.mem_singleton.1 hm).symm
  · rcases List.mem_append.1 hm with hm | hm
    · exact h.2 hm
    · exact h2 (List.mem_singleton.1 hm).symm
theorem clean_not {l : List UInt8} (h : (47 : UInt8) ∈ l ∨ (0 : UInt8) ∈ l) : clean l = false := by
  rw [← Bool.not_eq_true, clean_iff]
  rintro ⟨h1, h2⟩
  exact h.elim h1 h2
theorem byte_mem (s : ByteArray) (k : Nat) (h : k < s.size) : s[k] ∈ s.data.toList := by
  have : s[k] = s.data.toList[k]'(by rw [size_list]; exact h) := rfl
  rw [this]
  exact List.getElem_mem _
theorem right_eq (l : List UInt8) : right l = (decide (1 ≤ l.length ∧ l.length ≤ 64) && !(l == [46]) && !(l == [46, 46]) && clean l) := by
  unfold right clean
  simp only [Bool.and_assoc]
theorem right_of {l : List UInt8} (h1 : 1 ≤ l.length) (h2 : l.length ≤ 64) (h3 : l ≠ [46]) (h4 : l ≠ [46, 46]) : right l = clean l := by
  have e3 : (l == [46]) = false := by simpa using h3
  have e4 : (l == [46, 46]) = false := by simpa using h4
  rw [right_eq, e3, e4, decide_eq_true ⟨h1, h2⟩]
  rfl
theorem right_short {l : List UInt8} (h : l = [] ∨ l = [46] ∨ l = [46, 46] ∨ 64 < l.length) : right l = false := by
  rw [right_eq]
  rcases h with rfl | rfl | rfl | h
  · rfl
  · rfl
  · rfl
  · rw [decide_eq_false (by omega)]; rfl

set_option maxHeartbeats 800000 in
theorem refright_any (s : ByteArray) (w : World) (hs : s.size ≤ 9223372036854775807) : Calls Try.prog 10 #[.string s] w fun e w' => e = .returned (.bool (right s.data.toList)) ∧ w = w' := by
  by_cases e0 : s.toList = []
  · have hr : right s.data.toList = false := right_short (.inl (by rw [← to_list]; exact e0))
    have f0 : s.toList.isEmpty = true := by rw [e0]; rfl
    rw [hr]
    go_enter Try.func10, Try.ntmps10
    go_wp2
    go_ret
    exact ⟨rfl, rfl⟩
  · have f0 : s.toList.isEmpty = false := by simpa using e0
    by_cases e1 : s.toList = [46]
    · have hr : right s.data.toList = false := right_short (.inr (.inl (by rw [← to_list]; exact e1)))
      have f1 : (s.toList == [46]) = true := by rw [e1]; rfl
      rw [hr]
      clear e1
      go_enter Try.func10, Try.ntmps10
      go_wp2
      go_ret
      exact ⟨rfl, rfl⟩
    · have f1 : (s.toList == [46]) = false := by simpa using e1
      by_cases e2 : s.toList = [46, 46]
      · have hr : right s.data.toList = false := right_short (.inr (.inr (.inl (by rw [← to_list]; exact e2))))
        have f2 : (s.toList == [46, 46]) = true := by rw [e2]; rfl
        rw [hr]
        clear e2
        go_enter Try.func10, Try.ntmps10
        go_wp2
        go_ret
        exact ⟨rfl, rfl⟩
      · have f2 : (s.toList == [46, 46]) = false := by simpa using e2
        by_cases e3 : 64 < s.size
        · have hr : right s.data.toList = false := right_short (.inr (.inr (.inr (by rw [size_list]; exact e3))))
          rw [hr]
          go_enter Try.func10, Try.ntmps10
          go_wp2
          go_ret
          exact ⟨rfl, rfl⟩
        · have hl : s.data.toList.length = s.size := size_list s
          have h1 : 1 ≤ s.size := by
            rcases Nat.eq_zero_or_pos s.size with h0 | h0
            · exact absurd (by rw [to_list]; exact List.eq_nil_of_length_eq_zero (by omega)) e0
            · exact h0
          have hr : right s.data.toList = clean s.data.toList := right_of (by omega) (by omega) (by rw [← to_list]; exact e1) (by rw [← to_list]; exact e2)
          rw [hr]
          have d3 : decide (64 < (s.size : Int)) = false := by simp; omega
          clear hr hl
          go_enter Try.func10, Try.ntmps10
          go_wp2
          clear f0 f1 f2 d3 e0 e1 e2
          go_loop [3] (fun c => ∃ k : Nat, k ≤ s.size ∧ c = .int .i64 k ∧ clean (s.data.toList.take k) = true) (fun c => s.size - (intOf c).toNat)
          case atStart => exact ⟨0, Nat.zero_le _, rfl, rfl⟩
          case round =>
            obtain ⟨k, hk, rfl, hc⟩ := hrel
            have HC := Lib.hid hc
            clear hc
            by_cases hlt : k < s.size
            · have HS := Lib.hid (take_snoc s k hlt)
              have HM := Lib.hid (byte_mem s k hlt)
              by_cases c1 : s[k] = 47
              · have g1 : ((s[k].toNat : Int) == 47) = true := by rw [c1]; rfl
                have HF := Lib.hid (show clean s.data.toList = false from clean_not (.inl (by rw [← c1]; exact HM.out)))
                clear c1
                go_wp2
                go_ret
                exact ⟨by rw [HF.out]; rfl, rfl⟩
              · have g1 : ((s[k].toNat : Int) == 47) = false := by
                  rw [beq_eq_false_iff_ne]
                  intro e
                  exact c1 (UInt8.toNat_inj.1 (by simpa using Int.ofNat_inj.1 e))
                by_cases c2 : s[k] = 0
                · have g2 : ((s[k].toNat : Int) == 0) = true := by rw [c2]; rfl
                  have HF := Lib.hid (show clean s.data.toList = false from clean_not (.inr (by rw [← c2]; exact HM.out)))
                  clear c1 c2
                  go_wp2
                  go_ret
                  exact ⟨by rw [HF.out]; rfl, rfl⟩
                · have g2 : ((s[k].toNat : Int) == 0) = false := by
                    rw [beq_eq_false_iff_ne]
                    intro e
                    exact c2 (UInt8.toNat_inj.1 (by simpa using Int.ofNat_inj.1 e))
                  have HN := Lib.hid (clean_more HC.out c1 c2)
                  clear c1 c2
                  go_wp2
                  go_round
                  case rel => exact ⟨k + 1, by omega, by go_num, by rw [HS.out]; exact HN.out⟩
                  case measure => simp [intOf]; omega
            · have HT := Lib.hid (show clean s.data.toList = true by have := HC.out; rwa [List.take_of_length_le (by rw [size_list]; omega)] at this)
              go_wp2
              go_ret
              exact ⟨by rw [HT.out]; rfl, rfl⟩
end Go.Proofs.Ythhcbmljckgncaa.name
