/- The walk of WireWrites: at any slice of items it returns true and leaves all that was as it was. Condition: the slice's length is one. -/
import Derived.Test.YtikcipibdebcaaaWireItems
namespace Go.Proofs.Ytikcipibdebcaaa.wire
open Go.RowKit Go.Proofs.Ytikcipibdebcaaa.words

/-- How the round's facts go on behind a step that leaves x's block as it is. -/
theorem x_cells {w : World} {X : Nat} {N Z : Int} {S : ByteArray} {Is : Bool} (h : w.heap[X]? = some (.cells #[.int .i64 N, .int .i64 Z, .string S, .bool Is] 28 (0, 0))) :
    w.cell? ⟨X, 0, none⟩ = some (.int .i64 N) ∧ w.cell? ⟨X, 1, none⟩ = some (.int .i64 Z) ∧ w.cell? ⟨X, 2, none⟩ = some (.string S) ∧ w.cell? ⟨X, 3, none⟩ = some (.bool Is) :=
  ⟨cell_of_blk h 0, cell_of_blk h 1, cell_of_blk h 2, cell_of_blk h 3⟩

set_option maxHeartbeats 6400000 in
theorem writes_walk (A : Option Addr) (len cap : Nat) (L : List It) (w : World) (hL : L.length = len) (hI : Items w w.heap.size A L) (hlen : len ≤ 9223372036854775807) :
    Calls Try.prog 3 #[.slice A len cap] w fun e w' => e = .returned (.bool true) ∧ Below w.heap.size w w' := by
  have HLe := Lib.hid hL
  have HI := Lib.hid hI
  clear hL hI
  by_cases hbig : 50 < len
  · go_enter Try.func3, Try.ntmps3
    go_wp2_with (go_at_call 6; refine (speaks_any _).mono ?_; rintro e w1 ⟨rfl, hb1⟩)
    go_ret
    exact ⟨rfl, hb1⟩
  · go_enter Try.func3, Try.ntmps3
    go_wp2_with fail
    refine (speaks_any _).mono ?_
    rintro e w1 ⟨rfl, hb1⟩
    have B1 := Lib.hid hb1
    clear hb1
    go_wp2_with fail
    have I1 := Lib.hid (((HI.out).keep B1.out).more B1.out.size)
    go_loopw [4, 16] (fun v c wr => ∃ (k : Nat) (r : ByteArray), k ≤ len ∧ c = .int .i64 k ∧ v = .string r ∧ r.size ≤ k * 1004 ∧ Wr 26 5 w1.heap.size w1.heap.size r.data.toList wr ∧ Below w1.heap.size w1 wr)
      (fun _ c _ => len - (intOf c).toNat)
    case atStart => exact ⟨0, ⟨#[]⟩, Nat.zero_le _, rfl, rfl, by decide, Wr.start (Nat.le_refl _), (Below.refl _ _).alloc (Nat.le_refl _) _⟩
    case round =>
      obtain ⟨k, r, hk, rfl, rfl, hbl, hwr, hbel⟩ := hrel
      have hrl : r.size ≤ 50200 := by have : k * 1004 ≤ 50 * 1004 := Nat.mul_le_mul_right _ (by omega); omega
      have hbl1 : r.size ≤ (k + 1) * 1004 := Nat.le_trans hbl (Nat.mul_le_mul_right 1004 (Nat.le_succ k))
      by_cases hlt : k < len
      · have I2 := I1.out.keep hbel
        obtain ⟨x, hx⟩ : ∃ x, L[k]? = some x := ⟨_, List.getElem?_eq_getElem (by rw [HLe.out]; exact hlt)⟩
        obtain ⟨⟨b, off, rfl, hB, c0, c1, c2, c3⟩, hN, hS⟩ := I2 k x hx
        obtain ⟨N, Z, S, Is⟩ := x
        simp only at c0 c1 c2 c3 hN hS
        have HW := Lib.hid hwr
        have HB := Lib.hid hbel
        have BX : ∀ o, Below w1.heap.size w1 (wr.alloc o) := fun o => HB.out.alloc HB.out.size o
        have HBX := Lib.hid BX
        have hRL : r.data.toList.length = r.size := size_list r
        have HRL := Lib.hid hRL
        clear hwr hbel hx I2 BX hRL
        by_cases hS1 : 1000 < S.size
        · go_wp2_with fail
          go_ret
          exact ⟨rfl, B1.out.trans ((HBX.out _).mono B1.out.size)⟩
        · cases Is
          · by_cases hfit : fits N Z = true
            · have HF := Lib.hid hfit
              have hz4 := fits_size hfit
              clear hfit
              go_wp2_with fail
              refine (fits_true _ _ _ hN HF.out).mono ?_
              rintro e w' ⟨rfl, rfl⟩
              go_wp2_with fail
              refine (refput_of _ _ _ _ hN HF.out (by omega)).mono ?_
              rintro e w2 ⟨r2, rfl, hr2, hb2⟩
              have hx2 := (hb2.block wr.heap.size (by simp)).trans (heap_alloc_new wr _)
              obtain ⟨d0, d1, d2, d3⟩ := x_cells hx2
              have hw2 := (HW.out.alloc _).kept (Kept.of_below hb2 (fun _ => False) 0) (by simp) (by simp)
              have HW2 := Lib.hid hw2
              have HX2 := Lib.hid hx2
              have HB2 := Lib.hid ((HBX.out _).trans (hb2.mono (HBX.out _).size))
              have HR2 := Lib.hid hr2
              clear hx2 hw2 hb2 hr2
              go_wp2_with fail
              refine (put_yes _ _ _ _ _ _ HW2.out HF.out (by rw [HRL.out]; omega)).mono ?_
              rintro e w3 ⟨rfl, hw3, hk3⟩
              have hx3 := hk3.blk HX2.out (by decide)
              have HW3 := Lib.hid hw3
              have HB3 := Lib.hid (HB2.out.trans (hk3.below HB2.out.size))
              clear hw3 hk3 d0 d1 d2 d3 c0 c1 c2 c3
              go_wp2_with fail
              go_roundw
              case rel =>
                refine ⟨k + 1, r2, by omega, by go_num, rfl, ?_, by rw [HR2.out]; exact HW3.out, HB3.out⟩
                have e : r2.size = r.size + Z.toNat := by rw [← size_list, HR2.out, List.length_append, be_length, HRL.out]
                omega
              case measure => simp [intOf]; omega
            · have HF := Lib.hid (Bool.eq_false_iff.2 hfit)
              clear hfit
              go_wp2_with fail
              refine (fits_false _ _ _ hN HF.out).mono ?_
              rintro e w' ⟨rfl, rfl⟩
              go_wp2_with fail
              refine (put_no _ _ _ _ HF.out).mono ?_
              rintro e w' ⟨rfl, rfl⟩
              go_wp2_with fail
              go_roundw
              case rel => exact ⟨k + 1, r, by omega, by go_num, rfl, hbl1, HW.out.alloc _, HBX.out _⟩
              case measure => simp [intOf]; omega
          · by_cases hfit : fits (S.size : Int) Z = true
            · have HF := Lib.hid hfit
              have hz4 := fits_size hfit
              clear hfit
              go_wp2_with fail
              refine (fits_true _ _ _ (by omega) HF.out).mono ?_
              rintro e w' ⟨rfl, rfl⟩
              go_wp2_with fail
              refine (refput_of _ _ _ _ (by omega) HF.out (by omega)).mono ?_
              rintro e w2 ⟨r2, rfl, hr2, hb2⟩
              have hx2 := (hb2.block wr.heap.size (by simp)).trans (heap_alloc_new wr _)
              obtain ⟨d0, d1, d2, d3⟩ := x_cells hx2
              have hw2 := (HW.out.alloc _).kept (Kept.of_below hb2 (fun _ => False) 0) (by simp) (by simp)
              have e2 : r2.size = r.size + Z.toNat := by rw [← size_list, hr2, List.length_append, be_length, HRL.out]
              have hr2l : r2.size ≤ 60000 := by omega
              have hr2k : r2.size + S.size ≤ (k + 1) * 1004 := by omega
              have HW2 := Lib.hid hw2
              have HX2 := Lib.hid hx2
              have HB2 := Lib.hid ((HBX.out _).trans (hb2.mono (HBX.out _).size))
              have HR2 := Lib.hid hr2
              clear hx2 hw2 hb2 hr2 e2
              go_wp2_with fail
              refine (text_yes _ _ _ _ _ _ HW2.out HF.out (by rw [HRL.out]; omega) (by omega)).mono ?_
              rintro e w3 ⟨rfl, hw3, hk3⟩
              have hx3 := hk3.blk HX2.out (by decide)
              obtain ⟨f0, f1, f2, f3⟩ := x_cells hx3
              have HW3 := Lib.hid hw3
              have HB3 := Lib.hid (HB2.out.trans (hk3.below HB2.out.size))
              clear hw3 hk3 d0 d1 d2 d3 c0 c1 c2 c3 hx3
              go_wp2_with fail
              go_roundw
              case rel =>
                refine ⟨k + 1, r2 ++ S, by omega, by go_num, rfl, ?_, by rw [append_data, HR2.out]; exact HW3.out, HB3.out⟩
                rw [ByteArray.size_append]
                exact hr2k
              case measure => simp [intOf]; omega
            · have HF := Lib.hid (Bool.eq_false_iff.2 hfit)
              clear hfit
              go_wp2_with fail
              refine (fits_false _ _ _ (by omega) HF.out).mono ?_
              rintro e w' ⟨rfl, rfl⟩
              go_wp2_with fail
              refine (text_no _ _ _ _ HF.out).mono ?_
              rintro e w' ⟨rfl, rfl⟩
              go_wp2_with fail
              go_roundw
              case rel => exact ⟨k + 1, r, by omega, by go_num, rfl, hbl1, HW.out.alloc _, HBX.out _⟩
              case measure => simp [intOf]; omega
      · go_wp2_with fail
        refine (bytes_of _ _ r _ hwr).mono ?_
        rintro e w' ⟨rfl, rfl⟩
        go_wp2_with fail
        go_ret
        exact ⟨rfl, B1.out.trans (hbel.mono B1.out.size)⟩
end Go.Proofs.Ytikcipibdebcaaa.wire
