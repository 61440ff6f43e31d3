/- What the law's 'big' answers of any slice of extents: whether they are more than are looked at. Conditions: the texts are no longer than a process holds. -/
import Derived.Test.YtlbjcednekllaaaExtRight
namespace Go.Proofs.Ytlbjcednekllaaa.ext
open Go.RowKit Go.Proofs.Ytlbjcednekllaaa.words

def sumOf : List Ex → Nat
  | [] => 0
  | x :: L => x.D.size + 1 + sumOf L
def bigB (L : List Ex) : Bool := decide (500 < sumOf L)
theorem sumOf_append : ∀ L M : List Ex, sumOf (L ++ M) = sumOf L + sumOf M
  | [], M => by simp [sumOf]
  | x :: L, M => by rw [List.cons_append]; simp only [sumOf]; rw [sumOf_append L M]; omega
theorem sumOf_take {L : List Ex} {k : Nat} {x : Ex} (h : L[k]? = some x) : sumOf (L.take (k + 1)) = sumOf (L.take k) + (x.D.size + 1) := by
  rw [take_at h, sumOf_append]; rfl
theorem sumOf_take_le (L : List Ex) (k : Nat) : sumOf (L.take k) ≤ sumOf L := by
  conv => rhs; rw [← List.take_append_drop k L]
  rw [sumOf_append]
  omega
theorem length_le_sum : ∀ L : List Ex, L.length ≤ sumOf L
  | [] => Nat.zero_le _
  | x :: L => by have := length_le_sum L; simp only [List.length_cons, sumOf]; omega

set_option maxHeartbeats 1600000 in
theorem big_any (A : Option Addr) (cap : Nat) (L : List Ex) (w : World) (hI : Exts w w.heap.size A L) (hlen : L.length ≤ 9223372036854775807) :
    Calls Try.prog 7 #[.slice A L.length cap] w fun e w' => e = .returned (.bool (bigB L)) ∧ Below w.heap.size w w' := by
  have HI := Lib.hid hI
  clear hI
  go_enter Try.func7, Try.ntmps7
  go_wp2_with fail
  go_loopw [3, 8] (fun s c wr => ∃ (k m : Nat), k ≤ L.length ∧ c = .int .i64 k ∧ s = .int .i64 m ∧ m ≤ 500 ∧ Hid (m = sumOf (L.take k)) ∧ Below w.heap.size w wr)
    (fun _ c _ => L.length - (intOf c).toNat)
  case atStart => exact ⟨0, 0, Nat.zero_le _, rfl, rfl, by omega, Lib.hid rfl, Below.refl _ _⟩
  case round =>
    obtain ⟨k, m, hk, rfl, rfl, hm, HM, hbel⟩ := hrel
    have HB := Lib.hid hbel
    clear hbel
    by_cases hlt : k < L.length
    · obtain ⟨x, hx⟩ : ∃ x, L[k]? = some x := ⟨_, List.getElem?_eq_getElem hlt⟩
      obtain ⟨⟨b, off, rfl, hB, c0, c1⟩, o1, o2, hz⟩ := (HI.out.keep HB.out) k x hx
      have HS := Lib.hid (sumOf_take hx)
      have HBX := Lib.hid (HB.out.alloc HB.out.size (.cells #[.int .i64 x.O, .string x.D] 32))
      clear hx
      by_cases a1 : 500 < m + (x.D.size + 1)
      · have HN := Lib.hid (show bigB L = true from decide_eq_true (by have h1 := HS.out; have h2 := HM.out; have h3 := sumOf_take_le L (k + 1); omega))
        have g1 : (500 : Int) < (m : Int) + ((x.D.size : Int) + 1) := by omega
        go_wp2_with fail
        go_ret
        exact ⟨ret_bool HN.out.symm, HBX.out⟩
      · have HN := Lib.hid (show m + (x.D.size + 1) = sumOf (L.take (k + 1)) by rw [HS.out, HM.out])
        have g1 : ¬ (500 : Int) < (m : Int) + ((x.D.size : Int) + 1) := by omega
        go_wp2_with fail
        go_roundw
        case rel => exact ⟨k + 1, m + (x.D.size + 1), by omega, by go_num, by go_num, by omega, HN, HBX.out⟩
        case measure => simp [intOf]; omega
    · have HD := Lib.hid (show bigB L = false from decide_eq_false (by have h2 := HM.out; rw [List.take_of_length_le (by omega)] at h2; omega))
      go_wp2_with fail
      go_ret
      exact ⟨ret_bool HD.out.symm, HB.out⟩
end Go.Proofs.Ytlbjcednekllaaa.ext
