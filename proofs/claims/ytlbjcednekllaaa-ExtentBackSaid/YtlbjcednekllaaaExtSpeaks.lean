/- What the law's own check of one byte answers: true, and it leaves all that was as it was. No condition. -/
import Derived.Test.YtlbjcednekllaaaExtOf
namespace Go.Proofs.Ytlbjcednekllaaa.ext
open Go.RowKit Go.Proofs.Ytlbjcednekllaaa.words

theorem text_is {x y : ByteArray} (h : x.data.toList = y.data.toList) : x = y := by
  obtain ⟨⟨a⟩⟩ := x
  obtain ⟨⟨b⟩⟩ := y
  simp only at h
  subst h
  rfl
/-- extent.Read in a world in which all that lay in w1 lies as it was. -/
theorem read_to (rd : ByteArray) (w1 : World) (size off n : Int) (A : Option Addr) (cap : Nat) (L : List Ex) (w : World) (hI : Exts w1 w1.heap.size A L) (hb : Below w1.heap.size w1 w) (hlen : L.length ≤ 4611686018427387903) (hcap : L.length ≤ cap) (hr : rightB size L = true)
    (ho1 : -9223372036854775808 ≤ off) (ho2 : off ≤ 9223372036854775807) (hn1 : -9223372036854775808 ≤ n) (hn2 : n ≤ 9223372036854775807) (hrd : rd.data.toList = readB size L off n) :
    Calls Try.prog 10 #[.int .i64 size, .slice A L.length cap, .int .i64 off, .int .i64 n] w fun e w' => e = .returned (.string rd) ∧ Below w1.heap.size w1 w' :=
  (read_any size off n A cap L w ((hI.keep hb).more hb.size) hlen hcap hr ho1 ho2 hn1 hn2).mono fun _ _ ⟨⟨r, he, hx⟩, hb'⟩ => ⟨by rw [he, text_is (hx.trans hrd.symm)], hb.trans (hb'.mono hb.size)⟩
theorem right_to (r : Bool) (w1 : World) (size : Int) (A : Option Addr) (cap : Nat) (L : List Ex) (w : World) (hI : Exts w1 w1.heap.size A L) (hb : Below w1.heap.size w1 w) (hlen : L.length ≤ 9223372036854775807) (hs1 : -9223372036854775808 ≤ size) (hs2 : size ≤ 9223372036854775807) (hr : rightB size L = r) :
    Calls Try.prog 8 #[.int .i64 size, .slice A L.length cap] w fun e w' => e = .returned (.bool r) ∧ Below w1.heap.size w1 w' :=
  (right_any size A cap L w ((hI.keep hb).more hb.size) hlen hs1 hs2).mono fun _ _ ⟨he, hb'⟩ => ⟨by rw [he, hr], hb.trans (hb'.mono hb.size)⟩
theorem of_to (w1 : World) (s : ByteArray) (n : Nat) (w : World) (hb : Below w1.heap.size w1 w) (hs : s.size ≤ 1000000) (hn : (ofB s).length = n) :
    Calls Try.prog 12 #[.string s] w fun e w' => (∃ A c, e = .returned (.slice A n c)) ∧ Below w1.heap.size w1 w' :=
  (of_any s w hs).mono fun _ _ ⟨⟨A, c, he, _⟩, hb'⟩ => ⟨⟨A, c, by rw [he, hn]⟩, hb.trans (hb'.mono hb.size)⟩

def one : List Ex := [⟨1, ⟨#[98]⟩⟩]
theorem one_six : rightB 6 one = true := by decide +kernel
theorem one_one : rightB 1 one = false := by decide +kernel
theorem one_read : (⟨#[0, 98, 0, 0, 0, 0]⟩ : ByteArray).data.toList = readB 6 one 0 9 := by decide +kernel
theorem one_of : (ofB ⟨#[0, 98, 0]⟩).length = 1 := by decide +kernel

set_option maxHeartbeats 1600000 in
theorem speaks_any (w : World) : Calls Try.prog 6 #[] w fun e w' => e = .returned (.bool true) ∧ Below w.heap.size w w' := by
  obtain ⟨W1, hW1⟩ : ∃ W1, W1 = w.alloc (.cells #[.int .i64 1, .string ⟨#[98]⟩] 32) := ⟨_, rfl⟩
  have hI : Exts W1 W1.heap.size (some ⟨w.heap.size, 0, none⟩) one := fun i x hx => by
    have hi : i = 0 := by
      have := (List.getElem?_eq_some_iff.1 hx).1
      have hl : one.length = 1 := rfl
      omega
    subst hi
    obtain rfl : (⟨1, ⟨#[98]⟩⟩ : Ex) = x := Option.some.inj hx
    rw [hW1]
    exact ⟨⟨w.heap.size, 0, rfl, by simp, by simp, by simp⟩, by decide, by decide, by decide⟩
  have hb : Below w.heap.size w W1 := by rw [hW1]; exact (Below.refl _ _).alloc (Nat.le_refl _) _
  have HI := Lib.hid hI
  have HB := Lib.hid hb
  have HL : Hid (one.length = 1) := Lib.hid rfl
  have HW := Lib.hid hW1
  clear hI hb hW1
  go_enter Try.func6, Try.ntmps6
  go_wp2_with fail
  rw [← HW.out]
  refine (right_to true W1 6 _ 1 one _ HI.out (Below.refl _ _) (by decide) (by omega) (by omega) one_six).mono ?_
  rintro e w2 ⟨rfl, hb2⟩
  have HB2 := Lib.hid hb2
  clear hb2
  go_wp2_with fail
  refine (right_to false W1 1 _ 1 one _ HI.out HB2.out (by decide) (by omega) (by omega) one_one).mono ?_
  rintro e w3 ⟨rfl, hb3⟩
  have HB3 := Lib.hid hb3
  clear hb3
  go_wp2_with fail
  refine (read_to ⟨#[0, 98, 0, 0, 0, 0]⟩ W1 6 0 9 _ 1 one _ HI.out HB3.out (by decide) (by decide) one_six (by omega) (by omega) (by omega) (by omega) one_read).mono ?_
  rintro e w4 ⟨rfl, hb4⟩
  have HB4 := Lib.hid hb4
  clear hb4
  go_wp2_with fail
  refine (of_to W1 ⟨#[0, 98, 0]⟩ 1 _ HB4.out (by decide) one_of).mono ?_
  rintro e w5 ⟨⟨A5, c5, rfl⟩, hb5⟩
  have HB5 := Lib.hid hb5
  clear hb5
  go_wp2_with fail
  go_ret
  exact ⟨rfl, HB.out.trans (HB5.out.mono HB.out.size)⟩
end Go.Proofs.Ytlbjcednekllaaa.ext
