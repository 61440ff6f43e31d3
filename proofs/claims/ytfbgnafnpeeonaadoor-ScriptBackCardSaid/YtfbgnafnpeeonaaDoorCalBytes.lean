/- What call.Bytes answers: the bytes of such words, or that they are none. Condition: at most a billion bytes. -/
import Derived.Test.YtfbgnafnpeeonaaDoorCalHex
namespace Go.Proofs.YtfbgnafnpeeonaaDoor.cal
set_option maxRecDepth 100000
open Go.RowKit Go.Proofs.YtfbgnafnpeeonaaDoor.words

theorem index_digit (c : UInt8) (w : World) : Calls Tryd.prog 64 #[.string ⟨#[48, 49, 50, 51, 52, 53, 54, 55, 56, 57, 97, 98, 99, 100, 101, 102]⟩, .int .u8 (c.toNat : Int)] w fun e w' => e = .returned (.int .i64 (Lib.indexByte dgs c)) ∧ w' = w := by
  refine (Tryd.strings_IndexByte _ _ w).mono fun e w' ⟨h1, h2⟩ => ⟨?_, h2⟩
  rw [h1]
  have : ((c.toNat : Int)).toNat.toUInt8 = c := by simp
  rw [this]
  rfl
theorem unP_cons (a b : UInt8) (r : List UInt8) : unP (a :: b :: r) = if Lib.indexByte dgs a < 0 ∨ Lib.indexByte dgs b < 0 then none else (unP r).map (UInt8.ofNat (16 * (Lib.indexByte dgs a).toNat + (Lib.indexByte dgs b).toNat) :: ·) := rfl
/-- What is read of so many pairs. -/
theorem unP_app : ∀ (l : List UInt8) (a b : UInt8) (r : List UInt8), unP l = some r → (0 ≤ Lib.indexByte dgs a ∧ 0 ≤ Lib.indexByte dgs b) → unP (l ++ [a, b]) = some (r ++ [UInt8.ofNat (16 * (Lib.indexByte dgs a).toNat + (Lib.indexByte dgs b).toNat)])
  | [], a, b, r, h, hab => by
    injection h with h
    subst h
    show (if _ then _ else _) = _
    rw [if_neg (by omega)]
    rfl
  | [_], _, _, _, h, _ => by cases h
  | x :: y :: l, a, b, r, h, hab => by
    have h : (if Lib.indexByte dgs x < 0 ∨ Lib.indexByte dgs y < 0 then none else (unP l).map (UInt8.ofNat (16 * (Lib.indexByte dgs x).toNat + (Lib.indexByte dgs y).toNat) :: ·)) = some r := h
    split at h
    · cases h
    · rename_i hn
      obtain ⟨t, ht, rfl⟩ := Option.map_eq_some_iff.1 h
      have ih := unP_app l a b t ht hab
      rw [List.cons_append, List.cons_append, unP_cons, if_neg hn, ih]
      rfl
theorem unP_bad : ∀ (l : List UInt8) (a b : UInt8) (t r : List UInt8), unP l = some r → (Lib.indexByte dgs a < 0 ∨ Lib.indexByte dgs b < 0) → unP (l ++ a :: b :: t) = none
  | [], a, b, t, r, _, hab => by
    show (if _ then _ else _) = _
    rw [if_pos hab]
  | [_], _, _, _, _, h, _ => by cases h
  | x :: y :: l, a, b, t, r, h, hab => by
    have h : (if Lib.indexByte dgs x < 0 ∨ Lib.indexByte dgs y < 0 then none else (unP l).map (UInt8.ofNat (16 * (Lib.indexByte dgs x).toNat + (Lib.indexByte dgs y).toNat) :: ·)) = some r := h
    split at h
    · cases h
    · rename_i hn
      obtain ⟨u, hu, rfl⟩ := Option.map_eq_some_iff.1 h
      have ih := unP_bad l a b t u hu hab
      rw [List.cons_append, List.cons_append, unP_cons, if_neg hn, ih]
      rfl
theorem unP_odd : ∀ l : List UInt8, l.length % 2 = 1 → unP l = none
  | [], h => by cases h
  | [_], _ => rfl
  | a :: b :: r, h => by
    have ih := unP_odd r (by simp only [List.length_cons] at h; omega)
    show (if _ then _ else _) = _
    rw [ih]
    split <;> rfl
theorem take_two (s : ByteArray) (k : Nat) (h : k + 1 < s.size) : s.data.toList.take (k + 2) = s.data.toList.take k ++ [s[k], s[k + 1]] := by
  rw [take_snoc s (k + 1) h, take_snoc s k (by omega), List.append_assoc]
  rfl
theorem split_two (s : ByteArray) (k : Nat) (h : k + 1 < s.size) : s.data.toList = s.data.toList.take k ++ s[k] :: s[k + 1] :: s.data.toList.drop (k + 2) := by
  have h1 : s.data.toList = s.data.toList.take (k + 2) ++ s.data.toList.drop (k + 2) := (List.take_append_drop _ _).symm
  rw [take_two s k h, List.append_assoc] at h1
  exact h1
theorem pair_byte (x y : Int) (h0 : 0 ≤ x) (h1 : x < 16) (h2 : 0 ≤ y) (h3 : y < 16) : bits .or .i64 (x * 16) y = 16 * x + y := by
  have : ∀ a b : Fin 16, bits .or .i64 ((a.val : Int) * 16) (b.val : Int) = 16 * (a.val : Int) + (b.val : Int) := by decide +kernel
  have := this ⟨x.toNat, by omega⟩ ⟨y.toNat, by omega⟩
  simp only [Int.toNat_of_nonneg h0, Int.toNat_of_nonneg h2] at this
  exact this
/-- What Bytes answers. -/
def BytesOut (l : List UInt8) (e : Ending) : Prop := (unH l = none ∧ e = .returned (.tuple #[.string ⟨#[]⟩, .bool false])) ∨ (∃ r : ByteArray, unH l = some r.data.toList ∧ e = .returned (.tuple #[.string r, .bool true]))
set_option maxHeartbeats 3200000 in
theorem bytes_any (s : ByteArray) (w : World) (hs : s.size ≤ 1000000000) :
    Calls Tryd.prog 50 #[.string s] w fun e w' => BytesOut s.data.toList e ∧ Below w.heap.size w w' := by
  by_cases e0 : s.data.toList = [45]
  · have f0 : (s.toList == [45]) = true := by rw [to_list, e0]; rfl
    have HF := Lib.hid (show BytesOut s.data.toList (.returned (.tuple #[.string ⟨#[]⟩, .bool true])) from .inr ⟨⟨#[]⟩, by rw [e0]; rfl, rfl⟩)
    clear e0
    go_enter Tryd.func50, Tryd.ntmps50
    go_wp2
    go_ret2
    exact ⟨HF.out, Below.refl _ _⟩
  have f0 : (s.toList == [45]) = false := by rw [to_list]; simpa using e0
  by_cases e1 : s.data.toList = []
  · have f1 : s.toList.isEmpty = true := by rw [to_list, e1]; rfl
    have HF := Lib.hid (show BytesOut s.data.toList (.returned (.tuple #[.string ⟨#[]⟩, .bool false])) from .inl ⟨by rw [e1]; rfl, rfl⟩)
    clear e0 e1
    go_enter Tryd.func50, Tryd.ntmps50
    go_wp2
    go_ret2
    exact ⟨HF.out, Below.refl _ _⟩
  have f1 : s.toList.isEmpty = false := by rw [to_list]; simpa using e1
  have HU := Lib.hid (show unH s.data.toList = unP s.data.toList by unfold unH; rw [if_neg e0, if_neg e1])
  clear e0 e1
  obtain ⟨q, hq⟩ : ∃ q : Int, q = (s.size : Int) % 2 := ⟨_, rfl⟩
  have q1 : (s.size : Int) % 2 = q := hq.symm
  have q2 : Int.tmod (s.size : Int) 2 = q := by rw [hq]; exact Int.tmod_eq_emod_of_nonneg (by omega)
  by_cases ho : s.size % 2 = 1
  · obtain rfl : q = 1 := by omega
    have HF := Lib.hid (show BytesOut s.data.toList (.returned (.tuple #[.string ⟨#[]⟩, .bool false])) from .inl ⟨by rw [HU.out, unP_odd _ (by rw [size_list]; exact ho)], rfl⟩)
    clear hq ho
    go_enter Tryd.func50, Tryd.ntmps50
    go_wp2
    go_ret2
    exact ⟨HF.out, Below.refl _ _⟩
  obtain rfl : q = 0 := by omega
  clear hq
  have HEv : Hid (s.size % 2 = 0) := Lib.hid (by omega)
  clear ho
  obtain ⟨W1, hW1⟩ : ∃ W1, W1 = w.alloc (.cells #[.pointer none, .slice none 0 0] 51) := ⟨_, rfl⟩
  have hb1 : Below w.heap.size w W1 := by rw [hW1]; exact (Below.refl _ _).alloc (Nat.le_refl _) _
  have hg := bld_grow (s.size / 2) w W1 hW1 (by omega)
  have HG := Lib.hid hg
  have HB1 := Lib.hid hb1
  have HW1 := Lib.hid hW1.symm
  clear hW1 hb1 hg
  go_enter Tryd.func50, Tryd.ntmps50
  go_wp2_with fail
  rw [HW1.out]
  refine HG.out.mono ?_
  rintro e w2 ⟨rfl, hbl2, hb2⟩
  have H0 : Hid (∃ r : List UInt8, unP (s.data.toList.take 0) = some r ∧ r.length ≤ 0 ∧ Bld w.heap.size w.heap.size r w2 ∧ Below w.heap.size w w2) := Lib.hid ⟨[], rfl, Nat.le_refl _, hbl2, HB1.out.trans hb2⟩
  clear HG HW1 hbl2 hb2 HB1
  go_wp2_with fail
  go_loopw [5] (fun v wr => ∃ k : Nat, k ≤ s.size ∧ v = .int .i64 (k : Int) ∧ Hid (k % 2 = 0) ∧ Hid (∃ r : List UInt8, unP (s.data.toList.take k) = some r ∧ r.length ≤ k ∧ Bld w.heap.size w.heap.size r wr ∧ Below w.heap.size w wr)) (fun v _ => s.size - (intOf v).toNat)
  case atStart => exact ⟨0, Nat.zero_le _, rfl, Lib.hid rfl, H0⟩
  case round =>
    clear H0
    obtain ⟨k, hk, rfl, hpar, hH⟩ := hrel
    have k0 : (0 : Int) ≤ (k : Int) := by omega
    by_cases hks : k < s.size
    · have k1 : (k : Int) < (s.size : Int) := by omega
      have hks1 : k + 1 < s.size := by have := hpar.out; have := HEv.out; omega
      have k2 : (k : Int) + 1 < (s.size : Int) := by omega
      have k3 : (0 : Int) ≤ (k : Int) + 1 := by omega
      obtain ⟨x, hx⟩ : ∃ x, x = Lib.indexByte dgs s[k] := ⟨_, rfl⟩
      obtain ⟨y, hy⟩ : ∃ y, y = Lib.indexByte dgs s[k + 1] := ⟨_, rfl⟩
      have HI : Hid (∀ w' : World, Calls Tryd.prog 64 #[.string ⟨#[48, 49, 50, 51, 52, 53, 54, 55, 56, 57, 97, 98, 99, 100, 101, 102]⟩, .int .u8 (s[k].toNat : Int)] w' fun e w'' => e = .returned (.int .i64 x) ∧ w'' = w') := Lib.hid fun w' => by rw [hx]; exact index_digit _ w'
      have HJ : Hid (∀ w' : World, Calls Tryd.prog 64 #[.string ⟨#[48, 49, 50, 51, 52, 53, 54, 55, 56, 57, 97, 98, 99, 100, 101, 102]⟩, .int .u8 (s[k + 1].toNat : Int)] w' fun e w'' => e = .returned (.int .i64 y) ∧ w'' = w') := Lib.hid fun w' => by rw [hy]; exact index_digit _ w'
      have hxc := undig s[k]
      have hyc := undig s[k + 1]
      rw [← hx] at hxc
      rw [← hy] at hyc
      have HX := Lib.hid hx
      have HY := Lib.hid hy
      have HXc := Lib.hid hxc
      have HYc := Lib.hid hyc
      clear hx hy hxc hyc
      go_wp2_with fail
      go_quiet (first | (go_at_call 64; with_reducible exact Calls.quiet_of_same (HI.out _)) | (go_at_call 64; with_reducible exact Calls.quiet_of_same (HJ.out _)))
      obtain ⟨w3, hw3⟩ : ∃ w3, w3 = wr.drewN nq := ⟨_, rfl⟩
      rw [← hw3]
      have hH3 : ∃ r : List UInt8, unP (s.data.toList.take k) = some r ∧ r.length ≤ k ∧ Bld w.heap.size w.heap.size r w3 ∧ Below w.heap.size w w3 := by
        obtain ⟨r, r1, r2, r3, r4⟩ := hH.out
        rw [hw3]
        exact ⟨r, r1, r2, r3, ⟨r4.os, r4.tape, r4.output, r4.size, r4.block⟩⟩
      obtain ⟨r, r1, r2, r3, r4⟩ := hH3
      have HR1 := Lib.hid r1
      have HR3 := Lib.hid r3
      have HR4 := Lib.hid r4
      clear hw3 r1 r3 r4 hH HI HJ
      by_cases hx0 : x < 0
      · have HF := Lib.hid (show BytesOut s.data.toList (.returned (.tuple #[.string ⟨#[]⟩, .bool false])) from .inl ⟨by rw [HU.out, split_two s k hks1]; exact unP_bad _ _ _ _ _ HR1.out (.inl (by rw [← HX.out]; exact hx0)), rfl⟩)
        go_wp2
        go_ret2
        exact ⟨HF.out, HR4.out⟩
      by_cases hy0 : y < 0
      · have HF := Lib.hid (show BytesOut s.data.toList (.returned (.tuple #[.string ⟨#[]⟩, .bool false])) from .inl ⟨by rw [HU.out, split_two s k hks1]; exact unP_bad _ _ _ _ _ HR1.out (.inr (by rw [← HY.out]; exact hy0)), rfl⟩)
        go_wp2
        go_ret2
        exact ⟨HF.out, HR4.out⟩
      have hx15 : 0 ≤ x ∧ x < 16 := by rcases HXc.out with h | h <;> omega
      have hy15 : 0 ≤ y ∧ y < 16 := by rcases HYc.out with h | h <;> omega
      have HN := Lib.hid (unP_app _ _ _ _ HR1.out (show 0 ≤ Lib.indexByte dgs s[k] ∧ 0 ≤ Lib.indexByte dgs s[k + 1] by rw [← HX.out, ← HY.out]; omega))
      have hpb := pair_byte x y hx15.1 hx15.2 hy15.1 hy15.2
      go_wp2_with fail
      obtain ⟨c, hc⟩ : ∃ c, c = UInt8.ofNat (16 * x.toNat + y.toNat) := ⟨_, rfl⟩
      have hcn : (c.toNat : Int) = 16 * x + y := by rw [hc, UInt8.toNat_ofNat']; omega
      have hwb := write_byte w.heap.size w.heap.size r c w3 HR3.out (by omega) HR4.out.size
      rw [hcn] at hwb
      have HWB := Lib.hid hwb
      have HC := Lib.hid hc
      clear hwb hcn hc
      refine HWB.out.mono ?_
      rintro e w4 ⟨rfl, hbl4, hb4⟩
      have H4 : Hid (∃ r : List UInt8, unP (s.data.toList.take (k + 2)) = some r ∧ r.length ≤ k + 2 ∧ Bld w.heap.size w.heap.size r w4 ∧ Below w.heap.size w w4) := Lib.hid ⟨r ++ [c], by
        rw [take_two s k hks1, HN.out, HC.out, ← HX.out, ← HY.out], by rw [List.length_append, List.length_singleton]; omega, hbl4, HR4.out.trans hb4⟩
      have HP2 : Hid ((k + 2) % 2 = 0) := Lib.hid (by have := hpar.out; omega)
      clear hbl4 hb4 HWB HR3 HR4 HN
      go_wp2_with fail
      go_roundw
      case rel => exact ⟨k + 2, by omega, by go_num, HP2, H4⟩
      case measure => simp [intOf]; omega
    · have k1 : ¬ (k : Int) < (s.size : Int) := by omega
      obtain rfl : k = s.size := by omega
      obtain ⟨r, r1, r2, r3, r4⟩ := hH.out
      rw [List.take_of_length_le (by rw [size_list]; exact Nat.le_refl _)] at r1
      have HS := Lib.hid (bld_string _ _ _ wr r3 r4.size)
      have HR4 := Lib.hid r4
      have HR1 := Lib.hid r1
      clear hH r1 r3 r4
      go_wp2_with fail
      refine HS.out.mono ?_
      rintro e w5 ⟨rfl, hb5⟩
      have HF := Lib.hid (HR4.out.trans hb5)
      obtain ⟨b, hb⟩ : ∃ b : ByteArray, b = ⟨r.toArray⟩ := ⟨_, rfl⟩
      rw [← hb]
      have HE : Hid (BytesOut s.data.toList (.returned (.tuple #[.string b, .bool true]))) := Lib.hid (.inr ⟨b, by rw [HU.out, HR1.out, hb, data_mk], rfl⟩)
      clear hb hb5 HS
      go_wp2_with fail
      go_ret2
      exact ⟨HE.out, HF.out⟩
end Go.Proofs.YtfbgnafnpeeonaaDoor.cal
