/- What the functions on names of a node answer: whether one comes ahead of another, whether they rise, whether a target is one. Conditions: texts as they are read. -/
import Derived.Test.YtniklphdnakehaaDoorTreEach
import Derived.Test.YtniklphdnakehaaDoorNameRefSplit
import Derived.Test.YtniklphdnakehaaDoorExtRef
import Derived.Deep.QuietTactic
import Derived.BigQuiet
namespace Go.Proofs.YtniklphdnakehaaDoor.tre
set_option maxRecDepth 100000
open Go.RowKit Go.Proofs.YtniklphdnakehaaDoor.words Go.Proofs.YtniklphdnakehaaDoor.ext Go.Proofs.YtniklphdnakehaaDoor.name

theorem bytesLess_cons (a b : UInt8) (x y : List UInt8) : Op.bytesLess (a :: x) (b :: y) = (decide (a < b) || (a == b && Op.bytesLess x y)) := rfl
theorem bytesLess_nil (x : List UInt8) : Op.bytesLess x [] = false := by cases x <;> rfl
theorem bytesLess_self : ∀ x : List UInt8, Op.bytesLess x x = false
  | [] => rfl
  | a :: x => by rw [bytesLess_cons, bytesLess_self x]; simp
/-- One of three. -/
theorem bytesLess_three : ∀ x y : List UInt8, Op.bytesLess y x = !(Op.bytesLess x y || x == y)
  | [], [] => rfl
  | [], _ :: _ => rfl
  | _ :: _, [] => rfl
  | a :: x, b :: y => by
    rw [bytesLess_cons, bytesLess_cons, bytesLess_three x y]
    rcases Nat.lt_trichotomy a.toNat b.toNat with h | h | h
    · have h1 : a < b := h
      have h2 : ¬ b < a := by intro h2; have : b.toNat < a.toNat := h2; omega
      have h3 : (b == a) = false := by rw [beq_eq_false_iff_ne]; rintro rfl; omega
      simp [h1, h2, h3]
    · obtain rfl : a = b := UInt8.toNat_inj.1 h
      simp
    · have h1 : b < a := h
      have h2 : ¬ a < b := by intro h2; have : a.toNat < b.toNat := h2; omega
      have h3 : (a == b) = false := by rw [beq_eq_false_iff_ne]; rintro rfl; omega
      have h4 : (a :: x == b :: y) = false := by rw [beq_eq_false_iff_ne]; intro e; injection e with e _; rw [e] at h; omega
      simp [h1, h2, h3, h4]
theorem bytesLess_trans : ∀ {x y z : List UInt8}, Op.bytesLess x y = true → Op.bytesLess y z = true → Op.bytesLess x z = true
  | _, _, [], _, h2 => by rw [bytesLess_nil] at h2; cases h2
  | [], _, _ :: _, _, _ => rfl
  | _ :: _, [], _ :: _, h1, _ => by cases h1
  | a :: x, b :: y, c :: z, h1, h2 => by
    rw [bytesLess_cons] at h1 h2 ⊢
    simp only [Bool.or_eq_true, decide_eq_true_eq, Bool.and_eq_true, beq_iff_eq] at h1 h2 ⊢
    rcases h1 with h1 | ⟨rfl, h1⟩
    · rcases h2 with h2 | ⟨rfl, h2⟩
      · left
        have a1 : a.toNat < b.toNat := h1
        have a2 : b.toNat < c.toNat := h2
        show a.toNat < c.toNat
        omega
      · exact .inl h1
    · rcases h2 with h2 | ⟨rfl, h2⟩
      · exact .inl h2
      · exact .inr ⟨rfl, bytesLess_trans h1 h2⟩
theorem lessB_three (a b : ByteArray) : lessB b a = !(Op.bytesLess a.toList b.toList || a.toList == b.toList) := bytesLess_three _ _
theorem drop_byte (s : ByteArray) (k : Nat) (h : k < s.size) : s.toList.drop k = s[k] :: s.toList.drop (k + 1) := by
  rw [name.to_list]
  have : s[k] = s.data.toList[k]'(by rw [name.size_list]; exact h) := rfl
  rw [this]
  exact List.drop_eq_getElem_cons _
theorem quiet_eq {P : Program} {f : FuncId} {args : Array Value} {w : World} {n : Nat} {v : Value}
    (h : Calls P f args (w.drewN n) fun e w' => e = .returned v ∧ w.drewN n = w') : Calls P f args (w.drewN n) fun e w' => e = .returned v ∧ ∃ m, w' = w.drewN m :=
  h.mono fun _ _ ⟨he, hm⟩ => ⟨he, n, hm.symm⟩
theorem quiet_drew {P : Program} {f : FuncId} {args : Array Value} {w : World} {n : Nat} {v : Value}
    (h : Calls P f args (w.drewN n) fun e w' => e = .returned v ∧ ∃ q, (w.drewN n).drewN q = w') : Calls P f args (w.drewN n) fun e w' => e = .returned v ∧ ∃ m, w' = w.drewN m :=
  h.mono fun _ _ ⟨he, q, hm⟩ => ⟨he, n + q, by rw [← hm, World.drewN_drewN]⟩

set_option maxHeartbeats 1600000 in
theorem less_any (a b : ByteArray) (w : World) (ha : a.size ≤ 140737488355328) :
    Calls Tryd.prog 139 #[.string a, .string b] w fun e w' => e = .returned (.bool (lessB a b)) ∧ ∃ n, w.drewN n = w' := by
  go_enter Tryd.func139, Tryd.ntmps139
  go_wp2_with fail
  go_loopw [5] (fun c wr => ∃ (k n : Nat), k ≤ a.size ∧ k ≤ b.size ∧ c = .int .i64 k ∧ Hid (lessB a b = Op.bytesLess (a.toList.drop k) (b.toList.drop k)) ∧ wr = w.drewN n)
    (fun c _ => a.size - (intOf c).toNat)
  case atStart => exact ⟨0, 0, Nat.zero_le _, Nat.zero_le _, rfl, Lib.hid rfl, rfl⟩
  case round =>
    obtain ⟨k, nd, hk, hk2, rfl, HL, rfl⟩ := hrel
    by_cases h1 : k < a.size
    · by_cases h2 : k < b.size
      · have i0 : (0 : Int) ≤ (k : Int) := by omega
        have i1 : (k : Int) < (a.size : Int) := by omega
        have i2 : (k : Int) < (b.size : Int) := by omega
        have HD := Lib.hid (show lessB a b = (decide (a[k] < b[k]) || (a[k] == b[k] && Op.bytesLess (a.toList.drop (k + 1)) (b.toList.drop (k + 1)))) by rw [HL.out, drop_byte a k h1, drop_byte b k h2, bytesLess_cons])
        by_cases he : a[k] = b[k]
        · have g1 : ((a[k].toNat : Int) != (b[k].toNat : Int)) = false := by rw [he]; simp
          have HN := Lib.hid (show lessB a b = Op.bytesLess (a.toList.drop (k + 1)) (b.toList.drop (k + 1)) by rw [HD.out, he]; simp)
          have HE := Lib.hid he
          clear he
          go_wp2_with fail
          go_quiet (fail)
          go_wp2_with fail
          go_roundw
          case rel => exact ⟨k + 1, _, by omega, by omega, by go_num, HN, rfl⟩
          case measure => simp [intOf]; omega
        · have g1 : ((a[k].toNat : Int) != (b[k].toNat : Int)) = true := by
            rw [bne_iff_ne]
            intro e
            exact he (UInt8.toNat_inj.1 (by simpa using Int.ofNat_inj.1 e))
          have HF := Lib.hid (show decide (a[k].toNat < b[k].toNat) = lessB a b by
            rw [HD.out, show (a[k] == b[k]) = false by rw [beq_eq_false_iff_ne]; exact he, Bool.false_and, Bool.or_false]
            rfl)
          have HE := Lib.hid he
          clear he
          go_wp2_with fail
          go_quiet (fail)
          go_wp2_with fail
          go_quiet (fail)
          go_wp2_with fail
          go_ret
          exact ⟨ret_bool HF.out, by rw [World.drewN_drewN]; exact quiet_mk⟩
      · have HF := Lib.hid (show false = lessB a b by rw [HL.out, List.drop_of_length_le (l := b.toList) (by rw [name.to_list, name.size_list]; omega), bytesLess_nil])
        have g : ¬ (a.size : Int) < (b.size : Int) := by omega
        have g3 : ¬ a.size < b.size := by omega
        go_wp2_with fail
        go_ret
        exact ⟨ret_bool HF.out, nd, rfl⟩
    · obtain rfl : k = a.size := by omega
      by_cases h2 : a.size < b.size
      · have HF := Lib.hid (show true = lessB a b by
          rw [HL.out, List.drop_of_length_le (l := a.toList) (by rw [name.to_list, name.size_list]; omega), drop_byte b _ h2]; rfl)
        go_wp2_with fail
        go_ret
        exact ⟨ret_bool HF.out, nd, rfl⟩
      · have HF := Lib.hid (show false = lessB a b by rw [HL.out, List.drop_of_length_le (l := b.toList) (by rw [name.to_list, name.size_list]; omega), bytesLess_nil])
        go_wp2_with fail
        go_ret
        exact ⟨ret_bool HF.out, nd, rfl⟩
end Go.Proofs.YtniklphdnakehaaDoor.tre
