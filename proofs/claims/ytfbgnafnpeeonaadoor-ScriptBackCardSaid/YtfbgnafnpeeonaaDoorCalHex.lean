/- What call.Hex answers: bytes in words. Condition: at most a billion bytes. -/
import Derived.Test.YtfbgnafnpeeonaaDoorCalBld
namespace Go.Proofs.YtfbgnafnpeeonaaDoor.cal
set_option maxRecDepth 100000
open Go.RowKit Go.Proofs.YtfbgnafnpeeonaaDoor.words

def digB : ByteArray := ⟨#[48, 49, 50, 51, 52, 53, 54, 55, 56, 57, 97, 98, 99, 100, 101, 102]⟩
theorem digB_size : digB.size = 16 := by decide +kernel
theorem digB_at : ∀ i : Fin 16, (digB.data.toList.drop i.val).take 1 = [hexD i.val] := by decide +kernel
theorem digB_get (i : Nat) (hi : i < digB.size) : digB[i] = hexD i := by
  have h16 : i < 16 := by rw [digB_size] at hi; exact hi
  have h := digB_at ⟨i, h16⟩
  have h' : i < digB.data.toList.length := by rw [size_list]; exact hi
  rw [List.drop_eq_getElem_cons h'] at h
  simp only [List.take_succ_cons, List.take_zero, List.cons.injEq, and_true] at h
  rw [← h]
  rfl
theorem idx_digits {P : Program} (t : TypeId) (ht : P.underlying t = some .string) (k : IntKind) (z : Int) (i : Nat) (hz : z = (i : Int)) (hi : i < 16) (w : World) :
    (Instr.index t (.string ⟨#[48, 49, 50, 51, 52, 53, 54, 55, 56, 57, 97, 98, 99, 100, 101, 102]⟩) (.int k z)).run P w = .ok (.int .u8 ((hexD i).toNat : Int)) w := by
  subst hz
  show (Instr.index t (.string digB) (.int k (i : Int))).run P w = _
  rw [run_index_string w t digB k _ ht, dif_pos ⟨by omega, by rw [digB_size]; omega⟩]
  have e : ((i : Int)).toNat = i := by omega
  simp only [e]
  rw [digB_get i (by rw [digB_size]; exact hi)]
theorem hexP_snoc (l : List UInt8) (b : UInt8) : hexP (l ++ [b]) = hexP l ++ [hexD (b.toNat / 16), hexD (b.toNat % 16)] := by
  induction l with
  | nil => rfl
  | cons a l ih => simp only [List.cons_append, hexP, ih]
set_option maxHeartbeats 1600000 in
theorem hex_any (s : ByteArray) (w : World) (hs : s.size ≤ 1000000000) :
    Calls Tryd.prog 19 #[.string s] w fun e w' => (∃ r : ByteArray, e = .returned (.string r) ∧ r.data.toList = hexL s.data.toList) ∧ Below w.heap.size w w' := by
  by_cases e0 : s.data.toList = []
  · have f0 : s.toList.isEmpty = true := by rw [to_list, e0]; rfl
    have HE := Lib.hid (show hexL s.data.toList = [45] by rw [e0]; rfl)
    clear e0
    go_enter Tryd.func19, Tryd.ntmps19
    go_wp2
    go_ret
    exact ⟨⟨_, rfl, HE.out.symm⟩, Below.refl _ _⟩
  · have f0 : s.toList.isEmpty = false := by rw [to_list]; simpa using e0
    have HE := Lib.hid (show hexL s.data.toList = hexP s.data.toList by unfold hexL; rw [if_neg e0])
    clear e0
    obtain ⟨W1, hW1⟩ : ∃ W1, W1 = w.alloc (.cells #[.pointer none, .slice none 0 0] 51) := ⟨_, rfl⟩
    have hb1 : Below w.heap.size w W1 := by rw [hW1]; exact (Below.refl _ _).alloc (Nat.le_refl _) _
    have hg := bld_grow (2 * s.size) w W1 hW1 (by omega)
    rw [show ((2 * s.size : Nat) : Int) = 2 * (s.size : Int) by omega] at hg
    have HG := Lib.hid hg
    have HB1 := Lib.hid hb1
    have HW1 := Lib.hid hW1.symm
    clear hW1 hb1 hg
    go_enter Tryd.func19, Tryd.ntmps19
    go_wp2_with fail
    rw [HW1.out]
    refine HG.out.mono ?_
    rintro e w2 ⟨rfl, hbl2, hb2⟩
    have H0 : Hid (Bld w.heap.size w.heap.size (hexP (s.data.toList.take 0)) w2 ∧ Below w.heap.size w w2) := Lib.hid ⟨hbl2, HB1.out.trans hb2⟩
    clear HG HW1 hbl2 hb2 HB1
    go_wp2_with fail
    go_loopw [13] (fun v wr => ∃ k : Nat, k ≤ s.size ∧ v = .int .i64 (k : Int) ∧ Hid (Bld w.heap.size w.heap.size (hexP (s.data.toList.take k)) wr ∧ Below w.heap.size w wr)) (fun v _ => s.size - (intOf v).toNat)
    case atStart => exact ⟨0, Nat.zero_le _, rfl, H0⟩
    case round =>
      clear H0
      obtain ⟨k, hk, rfl, hH⟩ := hrel
      have k0 : (0 : Int) ≤ (k : Int) := by omega
      by_cases hks : k < s.size
      · have k1 : (k : Int) < (s.size : Int) := by omega
        have hx := s[k].toNat_lt
        have HX := Lib.hid (show hexP (s.data.toList.take (k + 1)) = hexP (s.data.toList.take k) ++ [hexD (s[k].toNat / 16)] ++ [hexD (s[k].toNat % 16)] by rw [take_snoc s k hks, hexP_snoc, List.append_assoc]; rfl)
        have hd1 : ∀ w' : World, (Instr.index 9 (.string ⟨#[48, 49, 50, 51, 52, 53, 54, 55, 56, 57, 97, 98, 99, 100, 101, 102]⟩) (.int .u8 ((s[k].toNat : Int) / 16))).run Tryd.prog w' = .ok (.int .u8 ((hexD (s[k].toNat / 16)).toNat : Int)) w' := idx_digits _ Tryd.underlying9 .u8 _ (s[k].toNat / 16) (by omega) (by omega)
        have HB := Lib.hid (write_byte w.heap.size w.heap.size _ (hexD (s[k].toNat / 16)) wr hH.out.1 (by rw [hexP_len, List.length_take, size_list]; omega) hH.out.2.size)
        go_wp2_with fail
        refine HB.out.mono ?_
        rintro e w3 ⟨rfl, hbl3, hb3⟩
        have HB3 := Lib.hid (hH.out.2.trans hb3)
        have HL3 := Lib.hid (write_byte w.heap.size w.heap.size _ (hexD (s[k].toNat % 16)) w3 hbl3 (by rw [List.length_append, hexP_len, List.length_take, size_list]; simp; omega) HB3.out.size)
        clear hbl3 hb3 HB hd1
        have hd2 : ∀ w' : World, (Instr.index 9 (.string ⟨#[48, 49, 50, 51, 52, 53, 54, 55, 56, 57, 97, 98, 99, 100, 101, 102]⟩) (.int .u8 ((s[k].toNat : Int) % 16))).run Tryd.prog w' = .ok (.int .u8 ((hexD (s[k].toNat % 16)).toNat : Int)) w' := idx_digits _ Tryd.underlying9 .u8 _ (s[k].toNat % 16) (by omega) (by omega)
        go_wp2_with fail
        refine HL3.out.mono ?_
        rintro e w4 ⟨rfl, hbl4, hb4⟩
        rw [← HX.out] at hbl4
        have H4 := Lib.hid (And.intro hbl4 (HB3.out.trans hb4))
        clear hbl4 hb4 HL3 hd2
        go_wp2_with fail
        go_roundw
        case rel => exact ⟨k + 1, by omega, by go_num, H4⟩
        case measure => simp [intOf]; omega
      · have k1 : ¬ (k : Int) < (s.size : Int) := by omega
        obtain rfl : k = s.size := by omega
        have h1 := hH.out.1
        rw [List.take_of_length_le (by rw [size_list]; exact Nat.le_refl _)] at h1
        have HS := Lib.hid (bld_string _ _ _ wr h1 hH.out.2.size)
        clear h1
        go_wp2_with fail
        refine HS.out.mono ?_
        rintro e w5 ⟨rfl, hb5⟩
        have HF := Lib.hid (hH.out.2.trans hb5)
        obtain ⟨r, hr⟩ : ∃ r : ByteArray, r = ⟨(hexP s.data.toList).toArray⟩ := ⟨_, rfl⟩
        rw [← hr]
        have HR := Lib.hid hr
        clear hr hb5 HS
        go_wp2_with fail
        go_ret
        exact ⟨⟨r, rfl, by rw [HR.out, HE.out, data_mk]⟩, HF.out⟩
end Go.Proofs.YtfbgnafnpeeonaaDoor.cal
