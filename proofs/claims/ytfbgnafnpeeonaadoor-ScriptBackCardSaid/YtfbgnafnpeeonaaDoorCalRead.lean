/- What call's numbers, readAt and read answer. Condition: at most a million bytes; what the listed variables hold. -/
import Derived.Test.YtfbgnafnpeeonaaDoorCalText
namespace Go.Proofs.YtfbgnafnpeeonaaDoor.cal
set_option maxRecDepth 100000
open Go.RowKit Go.Proofs.YtfbgnafnpeeonaaDoor.words

theorem cut_any (m : Int) (s : ByteArray) (w : World) (hs : s.size ≤ 1000000) (hE : Env m w) :
    Calls Tryd.prog 22 #[.string s, .string ⟨#[32]⟩] w fun e w' => (∃ (a b : ByteArray) (f : Bool), e = .returned (.tuple #[.string a, .string b, .bool f]) ∧ cutL s.data.toList = (a.data.toList, b.data.toList, f)) ∧ Below w.heap.size w w' := by
  refine (Tryd.strings_Cut s ⟨#[32]⟩ m w (by omega) hE.max).mono ?_
  rintro e w' ⟨rfl, n, rfl⟩
  exact ⟨⟨_, _, _, rfl, by rw [data_mk, data_mk]; rfl⟩, ⟨rfl, rfl, rfl, Nat.le_refl _, fun _ _ => rfl⟩⟩
theorem cut_size {s a b : ByteArray} {f : Bool} (h : cutL s.data.toList = (a.data.toList, b.data.toList, f)) : a.size ≤ s.size ∧ b.size ≤ s.size := by
  rw [← size_list, ← size_list, ← size_list]
  cases f with
  | true =>
    have h1 := cutL_some h
    rw [h1]
    simp
    omega
  | false =>
    obtain ⟨h1, h2⟩ := cutL_none h
    rw [h1, h2]
    simp
def NumsOut (a b : List UInt8) (e : Ending) : Prop := (∃ x : Int × Int, numsM a b = some x ∧ e = .returned (.tuple #[.int .i64 x.1, .int .i64 x.2, .bool true])) ∨ (numsM a b = none ∧ ∃ x y : Int, e = .returned (.tuple #[.int .i64 x, .int .i64 y, .bool false]))
set_option maxHeartbeats 1600000 in
theorem numbers_any (m : Int) (v u : ByteArray) (w : World) (hv : v.size ≤ 1000000) (hu : u.size ≤ 1000000) (hE : Env m w) :
    Calls Tryd.prog 78 #[.string v, .string u] w fun e w' => NumsOut v.data.toList u.data.toList e ∧ Below w.heap.size w w' := by
  have HC := Lib.hid (number_any m v w (by omega) hE)
  have HE := Lib.hid hE
  clear hE
  go_enter Tryd.func78, Tryd.ntmps78
  go_wp2_with fail
  refine HC.out.mono ?_
  rintro e w2 ⟨ho, hb2⟩
  have HC2 := Lib.hid (number_any m u w2 (by omega) (HE.out.later hb2))
  have HB2 := Lib.hid hb2
  clear hb2 HC
  rcases ho with ⟨h1, rfl⟩ | ⟨x, h1, rfl⟩
  · have HO : Hid (∀ y : Int, NumsOut v.data.toList u.data.toList (.returned (.tuple #[.int .i64 0, .int .i64 y, .bool false]))) := Lib.hid fun y => .inr ⟨by unfold numsM; rw [h1], _, _, rfl⟩
    clear h1
    go_wp2_with fail
    refine HC2.out.mono ?_
    rintro e w3 ⟨ho, hb3⟩
    have HF := Lib.hid (HB2.out.trans (hb3.mono HB2.out.size))
    clear hb3 HC2
    rcases ho with ⟨_, rfl⟩ | ⟨y, _, rfl⟩
    · go_wp2_with fail
      go_ret3
      exact ⟨HO.out 0, HF.out⟩
    · go_wp2_with fail
      go_ret3
      exact ⟨HO.out y, HF.out⟩
  · go_wp2_with fail
    refine HC2.out.mono ?_
    rintro e w3 ⟨ho, hb3⟩
    have HF := Lib.hid (HB2.out.trans (hb3.mono HB2.out.size))
    clear hb3 HC2
    rcases ho with ⟨h2, rfl⟩ | ⟨y, h2, rfl⟩
    · have HO : Hid (NumsOut v.data.toList u.data.toList (.returned (.tuple #[.int .i64 x, .int .i64 0, .bool false]))) := Lib.hid (.inr ⟨by unfold numsM; rw [h1, h2], _, _, rfl⟩)
      clear h1 h2
      go_wp2_with fail
      go_ret3
      exact ⟨HO.out, HF.out⟩
    · have HO : Hid (NumsOut v.data.toList u.data.toList (.returned (.tuple #[.int .i64 x, .int .i64 y, .bool true]))) := Lib.hid (.inl ⟨(x, y), by unfold numsM; rw [h1, h2], rfl⟩)
      clear h1 h2
      go_wp2_with fail
      go_ret3
      exact ⟨HO.out, HF.out⟩
/-- What readAt finds. -/
def atM (s : List UInt8) : Option (Int × Int × List UInt8) := if (cutL (cutL s).2.1).2.2 then (numsM (cutL s).1 (cutL (cutL s).2.1).1).map fun x => (x.1, x.2, (cutL (cutL s).2.1).2.1) else none
def AtO (s : ByteArray) (e : Ending) : Prop := ∃ (x y : Int) (p : ByteArray), p.size ≤ s.size ∧ ((atM s.data.toList = some (x, y, p.data.toList) ∧ e = .returned (.tuple #[.int .i64 x, .int .i64 y, .string p, .bool true])) ∨ (atM s.data.toList = none ∧ e = .returned (.tuple #[.int .i64 x, .int .i64 y, .string p, .bool false])))
set_option maxHeartbeats 1600000 in
theorem readat_any (m : Int) (s : ByteArray) (w : World) (hs : s.size ≤ 1000000) (hE : Env m w) :
    Calls Tryd.prog 77 #[.string s] w fun e w' => AtO s e ∧ Below w.heap.size w w' := by
  have HC := Lib.hid (cut_any m s w hs hE)
  have HE := Lib.hid hE
  clear hE
  go_enter Tryd.func77, Tryd.ntmps77
  go_wp2_with fail
  refine HC.out.mono ?_
  rintro e w2 ⟨⟨a, b, f1, rfl, hc1⟩, hb2⟩
  have hz1 := cut_size hc1
  have HC2 := Lib.hid (cut_any m b w2 (by omega) (HE.out.later hb2))
  have HB2 := Lib.hid hb2
  have HC1 := Lib.hid hc1
  have HZ1 := Lib.hid hz1
  clear hb2 HC hc1 hz1
  go_wp2_with fail
  refine HC2.out.mono ?_
  rintro e w3 ⟨⟨c, d, f2, rfl, hc2⟩, hb3⟩
  have hz2 := cut_size hc2
  have HB3 := Lib.hid (HB2.out.trans (hb3.mono HB2.out.size))
  have HC3 := Lib.hid (numbers_any m a c w3 (by have := HZ1.out; omega) (by have := HZ1.out; omega) (HE.out.later HB3.out))
  have HAt : Hid (atM s.data.toList = if f2 then (numsM a.data.toList c.data.toList).map fun x => (x.1, x.2, d.data.toList) else none) := Lib.hid (by
    unfold atM
    rw [HC1.out]
    simp only
    rw [hc2])
  have HZ2 : Hid (d.size ≤ s.size) := Lib.hid (by have := HZ1.out; omega)
  clear hb3 HC2 hc2 hz2
  go_wp2_with fail
  refine HC3.out.mono ?_
  rintro e w4 ⟨ho, hb4⟩
  have HF := Lib.hid (HB3.out.trans (hb4.mono HB3.out.size))
  clear hb4 HC3
  rcases ho with ⟨⟨x, y⟩, h1, rfl⟩ | ⟨h1, x, y, rfl⟩
  · cases f2 with
    | true =>
      have HO : Hid (AtO s (.returned (.tuple #[.int .i64 x, .int .i64 y, .string d, .bool true]))) := Lib.hid ⟨x, y, d, HZ2.out, .inl ⟨by rw [HAt.out, h1]; rfl, rfl⟩⟩
      clear h1
      go_wp2_with fail
      exact bodyPost_ret (v := .tuple #[.int .i64 x, .int .i64 y, .string d, .bool true]) (by simp [results, Tryd.results77, go_sem]) rfl ⟨HO.out, HF.out⟩
    | false =>
      have HO : Hid (AtO s (.returned (.tuple #[.int .i64 x, .int .i64 y, .string d, .bool false]))) := Lib.hid ⟨x, y, d, HZ2.out, .inr ⟨by rw [HAt.out]; rfl, rfl⟩⟩
      clear h1
      go_wp2_with fail
      exact bodyPost_ret (v := .tuple #[.int .i64 x, .int .i64 y, .string d, .bool false]) (by simp [results, Tryd.results77, go_sem]) rfl ⟨HO.out, HF.out⟩
  · have HO : Hid (AtO s (.returned (.tuple #[.int .i64 x, .int .i64 y, .string d, .bool false]))) := Lib.hid ⟨x, y, d, HZ2.out, .inr ⟨by rw [HAt.out, h1]; cases f2 <;> rfl, rfl⟩⟩
    clear h1
    go_wp2_with fail
    exact bodyPost_ret (v := .tuple #[.int .i64 x, .int .i64 y, .string d, .bool false]) (by simp [results, Tryd.results77, go_sem]) rfl ⟨HO.out, HF.out⟩
end Go.Proofs.YtfbgnafnpeeonaaDoor.cal
