/- A slice of items as it is read in a walk: four cells an item. No condition. -/
import Derived.Test.YtikcipibdebcaaaWireSpeaks
namespace Go.Proofs.Ytikcipibdebcaaa.wire
open Go.RowKit Go.Proofs.Ytikcipibdebcaaa.words

/-- An item's four fields. -/
structure It where
  N : Int
  Z : Int
  S : ByteArray
  Is : Bool
/-- The slice value with address A holds the items L, below block B. -/
def Items (w : World) (B : Nat) (A : Option Addr) (L : List It) : Prop :=
  ∀ i x, L[i]? = some x → (∃ b off, A = some ⟨b, off, none⟩ ∧ b < B ∧ w.cell? ⟨b, off + i * 4, none⟩ = some (.int .i64 x.N) ∧ w.cell? ⟨b, off + i * 4 + 1, none⟩ = some (.int .i64 x.Z) ∧
    w.cell? ⟨b, off + i * 4 + 2, none⟩ = some (.string x.S) ∧ w.cell? ⟨b, off + i * 4 + 3, none⟩ = some (.bool x.Is)) ∧ x.N ≤ 9223372036854775807 ∧ x.S.size ≤ 9223372036854775807
theorem Items.keep {w w' : World} {B : Nat} {A : Option Addr} {L : List It} (h : Items w B A L) (hb : Below B w w') : Items w' B A L := fun i x hx => by
  obtain ⟨⟨b, off, hA, hB, c0, c1, c2, c3⟩, h1, h2⟩ := h i x hx
  exact ⟨⟨b, off, hA, hB, (hb.cell (p := ⟨b, off + i * 4, none⟩) hB).trans c0, (hb.cell (p := ⟨b, off + i * 4 + 1, none⟩) hB).trans c1, (hb.cell (p := ⟨b, off + i * 4 + 2, none⟩) hB).trans c2, (hb.cell (p := ⟨b, off + i * 4 + 3, none⟩) hB).trans c3⟩, h1, h2⟩
theorem Items.more {w : World} {B B' : Nat} {A : Option Addr} {L : List It} (h : Items w B A L) (hB' : B ≤ B') : Items w B' A L := fun i x hx => by
  obtain ⟨⟨b, off, hA, hB, c⟩, h1⟩ := h i x hx
  exact ⟨⟨b, off, hA, Nat.lt_of_lt_of_le hB hB', c⟩, h1⟩

theorem append_data (a b : ByteArray) : (a ++ b).data.toList = a.data.toList ++ b.data.toList := by
  obtain ⟨⟨l⟩⟩ := a
  obtain ⟨⟨m⟩⟩ := b
  rfl
theorem fits_true (n size : Int) (w : World) (h64 : n ≤ 9223372036854775807) (h : fits n size = true) : Calls Try.prog 7 #[.int .i64 n, .int .i64 size] w fun e w' => e = .returned (.bool true) ∧ w = w' :=
  (fits_any n size w h64).mono fun _ _ ⟨he, hw⟩ => ⟨by rw [he, h], hw⟩
theorem fits_false (n size : Int) (w : World) (h64 : n ≤ 9223372036854775807) (h : fits n size = false) : Calls Try.prog 7 #[.int .i64 n, .int .i64 size] w fun e w' => e = .returned (.bool false) ∧ w = w' :=
  (fits_any n size w h64).mono fun _ _ ⟨he, hw⟩ => ⟨by rw [he, h], hw⟩
theorem refput_of (t : ByteArray) (n size : Int) (w : World) (h64 : n ≤ 9223372036854775807) (h : fits n size = true) (ht : t.size ≤ 1000000000) :
    Calls Try.prog 8 #[.string t, .int .i64 n, .int .i64 size] w fun e w' => ∃ r : ByteArray, e = .returned (.string r) ∧ r.data.toList = t.data.toList ++ be n size.toNat ∧ Below w.heap.size w w' := by
  obtain ⟨s, rfl, h1, h2, h3, h4⟩ := fits_yes h
  exact (refput_any t n s w h1 h2 h3 h64 ht).mono fun _ _ ⟨he, hw⟩ => ⟨_, he, by simp, hw⟩
theorem bytes_of (b B : Nat) (r : ByteArray) (w : World) (hw : Wr 26 5 B b r.data.toList w) :
    Calls Try.prog 11 #[.pointer (some ⟨b, 0, none⟩)] w fun e w' => e = .returned (.string r) ∧ w = w' :=
  (bytes_any b B _ w hw).mono fun _ _ ⟨he, hw⟩ => ⟨by rw [he], hw⟩
theorem fits_size {n size : Int} (h : fits n size = true) : size.toNat ≤ 4 := by have := of_decide_eq_true h; omega
end Go.Proofs.Ytikcipibdebcaaa.wire
