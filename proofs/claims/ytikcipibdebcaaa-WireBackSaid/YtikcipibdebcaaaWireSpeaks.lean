/- What the law's own check of one text answers: true, and it leaves all that was as it was. No condition. -/
import Derived.Test.YtikcipibdebcaaaWireRead
namespace Go.Proofs.Ytikcipibdebcaaa.wire
open Go.RowKit Go.Proofs.Ytikcipibdebcaaa.words

theorem speaks_bytes : ([] : List UInt8) ++ be (((⟨#[97, 98]⟩ : ByteArray).size : Nat) : Int) (2 : Int).toNat ++ (⟨#[97, 98]⟩ : ByteArray).data.toList = [0, 2, 97, 98] := by decide +kernel
theorem text_of {x : ByteArray} {l : List UInt8} (h : x.data.toList = l) : x = ⟨l.toArray⟩ := by
  obtain ⟨⟨a⟩⟩ := x
  subst h
  rfl

set_option maxHeartbeats 1600000 in
theorem speaks_any (w : World) : Calls Try.prog 6 #[] w fun e w' => e = .returned (.bool true) ∧ Below w.heap.size w w' := by
  go_enter Try.func6, Try.ntmps6
  go_wp2_with fail
  refine (text_yes _ _ _ w.heap.size [] _ (Wr.start (Nat.le_refl _)) (by decide +kernel) (by simp) (by decide +kernel)).mono ?_
  rintro e w1 ⟨rfl, hw1, hk1⟩
  rw [speaks_bytes] at hw1
  have H1 := Lib.hid hw1
  have hb1 : Below w.heap.size w w1 := ((Below.refl _ _).alloc (Nat.le_refl _) _).trans (hk1.below (by simp))
  have B1 := Lib.hid hb1
  have hl1 := hw1.lt
  clear hw1 hk1 hb1
  go_wp2_with fail
  refine (put_no _ _ _ _ (by decide +kernel)).mono ?_
  rintro e w' ⟨rfl, rfl⟩
  go_wp2_with fail
  refine (bytes_any _ _ _ _ H1.out).mono ?_
  rintro e w' ⟨rfl, rfl⟩
  go_wp2_with fail
  refine (read_any _ _).mono ?_
  rintro e w2 ⟨rfl, rfl⟩
  go_wp2_with fail
  refine (rtext_yes _ w1.heap.size _ 2 _ (heap_alloc_new w1 _) (Nat.le_refl _) (by omega) (by omega) (by decide +kernel) (by decide +kernel) (by decide +kernel)).mono ?_
  rintro e w3 ⟨x, s', rfl, hx, hs', hr, hk3⟩
  obtain rfl : x = ⟨#[97, 98]⟩ := text_of (hx.trans (by decide +kernel))
  obtain rfl : s' = ⟨#[]⟩ := text_of (hs'.trans (by decide +kernel))
  have H3 := Lib.hid ((H1.out.alloc (.cells #[.string ⟨#[0, 2, 97, 98]⟩] 46)).kept hk3 (by decide) (by decide))
  have HR := Lib.hid hr
  have HB := Lib.hid ((((B1.out).alloc (by have := B1.out.size; exact this) (.cells #[.string ⟨#[0, 2, 97, 98]⟩] 46)).trans ((hk3.below (by simp)).mono B1.out.size)))
  clear hx hs' hr hk3
  go_wp2_with fail
  refine (bytes_any _ _ _ _ H3.out).mono ?_
  rintro e w' ⟨rfl, rfl⟩
  go_wp2_with fail
  refine (left_any _ _ _ HR.out).mono ?_
  rintro e w' ⟨rfl, rfl⟩
  go_wp2_with fail
  go_ret
  exact ⟨rfl, HB.out⟩
end Go.Proofs.Ytikcipibdebcaaa.wire
