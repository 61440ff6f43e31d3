/- What Read, Reader.Take, Reader.Text and Reader.Left do, at any bytes and any size. -/
import Derived.Test.YtikcipibdebcaaaWireRef
namespace Go.Proofs.Ytikcipibdebcaaa.wire
open Go.RowKit Go.Proofs.Ytikcipibdebcaaa.words

/-- Block g is a reader that has the bytes s ahead. -/
def Rd (g : Nat) (s : ByteArray) (w : World) : Prop := w.heap[g]? = some (.cells #[.string s] 46 (0, 0))
abbrev Rs : TypeId → Prop := fun t => t = 46
theorem rd_set {g B : Nat} {s t : ByteArray} {w : World} (h : Rd g s w) (hB : B ≤ g) : Rd g t (w.setCell ⟨g, 0, none⟩ (.string t)) ∧ Kept Rs B w (w.setCell ⟨g, 0, none⟩ (.string t)) :=
  ⟨blk_set h _, (Kept.refl Rs B w).setCell (p := ⟨g, 0, none⟩) hB ⟨_, _, _, h, rfl⟩ _⟩

theorem read_any (s : ByteArray) (w : World) : Calls Try.prog 12 #[.string s] w fun e w' => e = .returned (.pointer (some ⟨w.heap.size, 0, none⟩)) ∧ w.alloc (.cells #[.string s] 46) = w' := by
  go_enter Try.func12, Try.ntmps12
  go_wp2
  go_ret
  exact ⟨rfl, rfl⟩
theorem left_any (g : Nat) (s : ByteArray) (w : World) (h : Rd g s w) : Calls Try.prog 16 #[.pointer (some ⟨g, 0, none⟩)] w fun e w' => e = .returned (.int .i64 (s.size : Int)) ∧ w = w' := by
  have hc : w.cell? ⟨g, 0, none⟩ = some (.string s) := cell_of_blk h 0
  clear h
  go_enter Try.func16, Try.ntmps16
  go_wp2
  go_ret
  exact ⟨rfl, rfl⟩

theorem take_size (g : Nat) (size : Int) (w : World) (hs : size < 1 ∨ 4 < size) :
    Calls Try.prog 14 #[.pointer (some ⟨g, 0, none⟩), .int .i64 size] w fun e w' => e = .returned (.tuple #[.int .i64 0, .bool false]) ∧ w = w' := by
  go_enter Try.func14, Try.ntmps14
  go_wp2_with (go_at_call 17; refine (sized_no _ _ hs).mono ?_; rintro e w' ⟨rfl, rfl⟩)
  go_ret2
  exact ⟨rfl, rfl⟩
theorem take_few (g : Nat) (s : ByteArray) (size : Int) (w : World) (h : Rd g s w) (h1 : 1 ≤ size) (h2 : size ≤ 4) (h3 : (s.size : Int) < size) :
    Calls Try.prog 14 #[.pointer (some ⟨g, 0, none⟩), .int .i64 size] w fun e w' => e = .returned (.tuple #[.int .i64 0, .bool false]) ∧ w = w' := by
  have hc : w.cell? ⟨g, 0, none⟩ = some (.string s) := cell_of_blk h 0
  clear h
  go_enter Try.func14, Try.ntmps14
  go_wp2_with (go_at_call 17; refine (sized_yes _ _ h1 h2).mono ?_; rintro e w' ⟨rfl, rfl⟩)
  go_ret2
  exact ⟨rfl, rfl⟩
theorem or_byte (m b : Nat) (hm : m < 4294967296) (hb : b < 256) : bits .or .i64 ((m : Int) * 256) (b : Int) = (m : Int) * 256 + b :=
  bits_join .i64 62 (by decide) (fun n h0 h1 => by rw [IntKind.wrap_i64]; omega) 8 _ _ (by omega) (by omega) (by omega) (by omega) (by omega) (by omega)
set_option maxHeartbeats 800000 in
theorem take_yes (g : Nat) (s : ByteArray) (size : Nat) (w : World) (h : Rd g s w) (h1 : 1 ≤ size) (h2 : size ≤ 4) (h3 : size ≤ s.size) (hs : s.size ≤ maxLen) :
    Calls Try.prog 14 #[.pointer (some ⟨g, 0, none⟩), .int .i64 (size : Int)] w fun e w' => e = .returned (.tuple #[.int .i64 (num (s.data.toList.take size) : Int), .bool true]) ∧
      w.setCell ⟨g, 0, none⟩ (.string (s.extract size s.size)) = w' := by
  unfold maxLen at hs
  have hc : w.cell? ⟨g, 0, none⟩ = some (.string s) := cell_of_blk h 0
  have hf : w.frozen? ⟨g, 0, none⟩ = false := free_of_blk h 0
  have d3 : decide ((s.size : Int) < (size : Int)) = false := by simp; omega
  clear h
  go_enter Try.func14, Try.ntmps14
  go_wp2_with (go_at_call 17; refine (sized_yes _ _ (by omega) (by omega)).mono ?_; rintro e w' ⟨rfl, rfl⟩)
  clear d3
  go_loop [6, 7, 21] (fun v _ c => ∃ k : Nat, k ≤ size ∧ c = .int .i64 k ∧ v = .int .i64 (num (s.data.toList.take k) : Int)) (fun _ _ c => size - (intOf c).toNat)
  case atStart => exact ⟨0, Nat.zero_le _, rfl, by simp [num]⟩
  case round =>
    obtain ⟨k, hk, rfl, rfl⟩ := hrel
    have hn := num_lt k (s.data.toList.take k) (by rw [List.length_take, size_list]; omega)
    have hp : 256 ^ k ≤ 256 ^ 4 := Nat.pow_le_pow_right (by omega) (by omega)
    obtain ⟨m, hm⟩ : ∃ m, m = num (s.data.toList.take k) := ⟨_, rfl⟩
    rw [← hm] at hn ⊢
    have hm4 : m < 4294967296 := by omega
    by_cases hlt : k < size
    · have hks : k < s.size := by omega
      have HM := Lib.hid (num_take s k hks)
      have HN := Lib.hid hm
      have hb1 : (s[k].toNat : Int) ≤ 255 := by have := s[k].toNat_lt; omega
      have hb0 : 0 ≤ (s[k].toNat : Int) := by omega
      have hor := or_byte m s[k].toNat hm4 (by omega)
      clear hn hp hm
      go_wp2
      go_round
      case rel => exact ⟨k + 1, by omega, by go_num, by rw [HM.out, ← HN.out]; go_num⟩
      case measure => simp [intOf]; omega
    · have HN := Lib.hid hm
      obtain rfl : k = size := by omega
      clear hn hp hm
      go_wp2
      go_ret2
      refine ⟨?_, rfl⟩
      show Ending.returned (.tuple #[Value.int .i64 (m : Int), .bool true]) = _
      rw [HN.out]

/-- What is ahead behind a reading of k bytes. -/
theorem drop_of (s : ByteArray) (k : Nat) : (s.extract k s.size).data.toList = s.data.toList.drop k := by
  rw [Lib.extract_data, List.take_of_length_le (by rw [List.length_drop, size_list]; exact Nat.le_refl _)]
theorem take_no (g : Nat) (s : ByteArray) (size : Int) (w : World) (h : Rd g s w) (hs : size < 1 ∨ 4 < size ∨ (s.size : Int) < size) :
    Calls Try.prog 14 #[.pointer (some ⟨g, 0, none⟩), .int .i64 size] w fun e w' => e = .returned (.tuple #[.int .i64 0, .bool false]) ∧ w = w' := by
  by_cases h1 : size < 1 ∨ 4 < size
  · exact take_size g size w h1
  · exact take_few g s size w h (by omega) (by omega) (by omega)

/-! Text -/
theorem rtext_no (g : Nat) (s : ByteArray) (size : Int) (w : World) (h : Rd g s w) (hs : size < 1 ∨ 4 < size ∨ (s.size : Int) < size) :
    Calls Try.prog 15 #[.pointer (some ⟨g, 0, none⟩), .int .i64 size] w fun e w' => e = .returned (.tuple #[.string ⟨#[]⟩, .bool false]) ∧ w = w' := by
  have hc : w.cell? ⟨g, 0, none⟩ = some (.string s) := cell_of_blk h 0
  have H := Lib.hid h
  clear h
  go_enter Try.func15, Try.ntmps15
  go_wp2_with (go_at_call 14; refine (take_no _ _ _ _ H.out hs).mono ?_; rintro e w' ⟨rfl, rfl⟩)
  go_ret2
  exact ⟨rfl, rfl⟩
set_option maxHeartbeats 800000 in
theorem rtext_few (g B : Nat) (s : ByteArray) (size : Nat) (w : World) (h : Rd g s w) (hB : B ≤ g) (h1 : 1 ≤ size) (h2 : size ≤ 4) (h3 : size ≤ s.size) (hs : s.size ≤ maxLen) (h4 : s.size < size + num (s.data.toList.take size)) :
    Calls Try.prog 15 #[.pointer (some ⟨g, 0, none⟩), .int .i64 (size : Int)] w fun e w' => e = .returned (.tuple #[.string ⟨#[]⟩, .bool false]) ∧ Rd g s w' ∧ Kept Rs B w w' := by
  have hc : w.cell? ⟨g, 0, none⟩ = some (.string s) := cell_of_blk h 0
  have hn := num_lt size (s.data.toList.take size) (by rw [List.length_take, size_list]; omega)
  have hp : 256 ^ size ≤ 256 ^ 4 := Nat.pow_le_pow_right (by omega) (by omega)
  have P := rd_set (t := s.extract size s.size) h hB
  have P2 := rd_set (t := s) P.1 hB
  have hf2 : (w.setCell ⟨g, 0, none⟩ (.string (s.extract size s.size))).frozen? ⟨g, 0, none⟩ = false := free_of_blk P.1 0
  have hc2 : (w.setCell ⟨g, 0, none⟩ (.string (s.extract size s.size))).cell? ⟨g, 0, none⟩ = some (.string (s.extract size s.size)) := cell_of_blk P.1 0
  obtain ⟨m, hm⟩ : ∃ m, m = num (s.data.toList.take size) := ⟨_, rfl⟩
  have T := take_yes g s size w h h1 h2 h3 hs
  rw [← hm] at hn h4 T
  have hm4 : m < 4294967296 := by omega
  have hes : (s.extract size s.size).size = s.size - size := by rw [ByteArray.size_extract]; omega
  have hlt : ((s.extract size s.size).size : Int) < (m : Int) := by rw [hes]; omega
  obtain ⟨t, ht⟩ : ∃ t, t = s.extract size s.size := ⟨_, rfl⟩
  rw [← ht] at T P P2 hf2 hc2 hlt
  have HT := Lib.hid T
  have HP := Lib.hid P
  have HP2 := Lib.hid P2
  clear hn hp hm h T P P2 ht hes
  go_enter Try.func15, Try.ntmps15
  go_wp2_with (go_at_call 14; refine HT.out.mono ?_; rintro e w' ⟨rfl, rfl⟩)
  go_ret2
  exact ⟨rfl, HP2.out.1, HP.out.2.trans HP2.out.2⟩
set_option maxHeartbeats 800000 in
theorem rtext_yes (g B : Nat) (s : ByteArray) (size : Nat) (w : World) (h : Rd g s w) (hB : B ≤ g) (h1 : 1 ≤ size) (h2 : size ≤ 4) (h3 : size ≤ s.size) (hs : s.size ≤ maxLen) (h4 : size + num (s.data.toList.take size) ≤ s.size) :
    Calls Try.prog 15 #[.pointer (some ⟨g, 0, none⟩), .int .i64 (size : Int)] w fun e w' => ∃ x s' : ByteArray, e = .returned (.tuple #[.string x, .bool true]) ∧
      x.data.toList = (s.data.toList.drop size).take (num (s.data.toList.take size)) ∧ s'.data.toList = s.data.toList.drop (size + num (s.data.toList.take size)) ∧ Rd g s' w' ∧ Kept Rs B w w' := by
  have hc : w.cell? ⟨g, 0, none⟩ = some (.string s) := cell_of_blk h 0
  have hn := num_lt size (s.data.toList.take size) (by rw [List.length_take, size_list]; omega)
  have hp : 256 ^ size ≤ 256 ^ 4 := Nat.pow_le_pow_right (by omega) (by omega)
  obtain ⟨m, hm⟩ : ∃ m, m = num (s.data.toList.take size) := ⟨_, rfl⟩
  have T := take_yes g s size w h h1 h2 h3 hs
  rw [← hm] at hn h4 T ⊢
  have hm4 : m < 4294967296 := by omega
  obtain ⟨t, ht⟩ : ∃ t, t = s.extract size s.size := ⟨_, rfl⟩
  have hes : t.size = s.size - size := by rw [ht, ByteArray.size_extract]; omega
  have hmt : m ≤ t.size := by omega
  have P := rd_set (t := t) h hB
  have P2 := rd_set (t := t.extract m t.size) P.1 hB
  have hf2 : (w.setCell ⟨g, 0, none⟩ (.string t)).frozen? ⟨g, 0, none⟩ = false := free_of_blk P.1 0
  have hc2 : (w.setCell ⟨g, 0, none⟩ (.string t)).cell? ⟨g, 0, none⟩ = some (.string t) := cell_of_blk P.1 0
  rw [← ht] at T
  have e1 : (t.extract 0 m).data.toList = (s.data.toList.drop size).take m := by rw [Lib.extract_data, ht, drop_of]; simp
  have e2 : (t.extract m t.size).data.toList = s.data.toList.drop (size + m) := by rw [drop_of, ht, drop_of, List.drop_drop]
  have E1 := Lib.hid e1
  have E2 := Lib.hid e2
  have HT := Lib.hid T
  have HP := Lib.hid P
  have HP2 := Lib.hid P2
  clear hn hp hm h T P P2 ht hes e1 e2
  go_enter Try.func15, Try.ntmps15
  go_wp2_with (go_at_call 14; refine HT.out.mono ?_; rintro e w' ⟨rfl, rfl⟩)
  go_ret2
  exact ⟨_, _, rfl, E1.out, E2.out, HP2.out.1, HP.out.2.trans HP2.out.2⟩
end Go.Proofs.Ytikcipibdebcaaa.wire
