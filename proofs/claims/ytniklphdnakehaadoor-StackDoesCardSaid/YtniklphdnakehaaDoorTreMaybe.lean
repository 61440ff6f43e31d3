/- What mayBe answers of any node: whether it may be. Conditions: the node is one that was read; the library's MaxLen holds a number. -/
import Derived.Test.YtniklphdnakehaaDoorTreMay
import Derived.Test.YtniklphdnakehaaDoorExtRight
namespace Go.Proofs.YtniklphdnakehaaDoor.tre
set_option maxRecDepth 100000
open Go.RowKit Go.Proofs.YtniklphdnakehaaDoor.words Go.Proofs.YtniklphdnakehaaDoor.ext Go.Proofs.YtniklphdnakehaaDoor.name

theorem extright_is (b : Bool) (size : Int) (A : Option Addr) (cap : Nat) (L : List Ex) (w : World) (hI : Exts w w.heap.size A L) (hlen : L.length ≤ 9223372036854775807) (hs1 : -9223372036854775808 ≤ size) (hs2 : size ≤ 9223372036854775807) (hb : rightB size L = b) :
    Calls Tryd.prog 116 #[.int .i64 size, .slice A L.length cap] w fun e w' => e = .returned (.bool b) ∧ Below w.heap.size w w' :=
  (right_any size A cap L w hI hlen hs1 hs2).mono fun _ _ ⟨he, hw⟩ => ⟨by rw [he, hb], hw⟩
theorem rising_is (b : Bool) (A : Option Addr) (cap : Nat) (N : List ByteArray) (w : World) (hI : Txts w w.heap.size A N) (hlen : N.length ≤ 4611686018427387904) (hb : riseB N = b) :
    Calls Tryd.prog 117 #[.slice A N.length cap] w fun e w' => e = .returned (.bool b) ∧ w = w' :=
  (rising_any A cap N w hI hlen).mono fun _ _ ⟨he, hw⟩ => ⟨by rw [he, hb], hw⟩
theorem target_is (b : Bool) (s : ByteArray) (m : Int) (w : World) (hs : s.size ≤ 140737488355328) (hm : w.cell? ⟨0, 0, none⟩ = some (.int .i64 m)) (hb : pathB s = b) :
    Calls Tryd.prog 118 #[.string s] w fun e w' => e = .returned (.bool b) ∧ Below w.heap.size w w' :=
  (target_any s m w hs hm).mono fun _ _ ⟨he, hw⟩ => ⟨by rw [he, hb], hw⟩
theorem bare_is (b : Bool) (n : Nd) (r : Raw) (w : World) (hb : bareB n = b) : Calls Tryd.prog 119 #[ndV n r] w fun e w' => e = .returned (.bool b) ∧ Below w.heap.size w w' :=
  (bare_any n r w).mono fun _ _ ⟨he, hw⟩ => ⟨by rw [he, hb], hw⟩
theorem below_cell {a w : World} {p : Addr} {u : Value} (h : a.cell? p = some u) (hb : Below a.heap.size a w) : w.cell? p = some u :=
  (hb.cell (World.block_lt_of_cell? a _ h)).trans h

set_option maxHeartbeats 6400000 in
theorem maybe_any (n : Nd) (r : Raw) (m : Int) (w : World) (hN : NdAt w w.heap.size n r) (hm : w.cell? ⟨0, 0, none⟩ = some (.int .i64 m)) :
    Calls Tryd.prog 95 #[ndV n r] w fun e w' => e = .returned (.bool (oneB n)) ∧ Below w.heap.size w w' := by
  obtain ⟨W1, hW1⟩ : ∃ W1, W1 = w.alloc (.cells (rawCells n r) 27) := ⟨_, rfl⟩
  have hb1 : Below w.heap.size w W1 := by rw [hW1]; exact (Below.refl _ _).alloc (Nat.le_refl _) _
  have HX1 : Hid (Box W1 w.heap.size n r) := by rw [hW1]; exact Lib.hid (Box.new w n r)
  have HN := Lib.hid (hN.later hb1)
  have HM := Lib.hid (below_cell hm hb1)
  have fit := hN.fit
  have f1 := fit.le
  have f2 := fit.s1
  have f3 := fit.s2
  have f4 := fit.t
  have f5 := fit.ln
  have f6 := fit.li
  have HB1 := Lib.hid hb1
  unfold rawCells at hW1
  have HW1 := Lib.hid hW1
  clear hN fit hb1 hW1 hm
  unfold ndV rawCells
  by_cases k1 : n.K = 1
  · have g1 : (n.K == 1) = true := by rw [k1]; rfl
    obtain ⟨rt, hrt⟩ : ∃ rt, rt = rightB n.S n.E := ⟨_, rfl⟩
    obtain ⟨br, hbr⟩ : ∃ br, br = bareB (.mk n.K n.O n.N n.I 0 [] n.T) := ⟨_, rfl⟩
    have HO := Lib.hid (show oneB n = (rt && br) by
      rw [oneB_1 k1, hrt, hbr]
      show (noneB n && n.T.size == 0 && _) = (_ && (noneB n && true && n.T.size == 0))
      cases noneB n <;> cases (n.T.size == 0) <;> simp)
    have HRt := Lib.hid hrt
    have HBr := Lib.hid hbr
    clear k1 hrt hbr
    go_enter Tryd.func95, Tryd.ntmps95
    go_wp2_with fail
    rw [← HW1.out]
    obtain ⟨b0, b1, b2, b3, b4, b5, b6⟩ := HX1.out.cells
    go_wp2_with fail
    refine (extright_is rt n.S r.Ae r.ce n.E _ HN.out.exts (by omega) f2 f3 HRt.out.symm).mono ?_
    rintro e w2 ⟨rfl, hb2⟩
    have HB2 := Lib.hid (HB1.out.trans (hb2.mono HB1.out.size))
    have HX2 := Lib.hid (HX1.out.below hb2)
    have z4 : w2.frozen? ⟨w.heap.size, 4, none⟩ = false := free_of_blk HX2.out 4
    have z5 : w2.frozen? ⟨w.heap.size, 5, none⟩ = false := free_of_blk HX2.out 5
    have HBs := Lib.hid ((HB2.out.setCell (p := ⟨w.heap.size, 4, none⟩) (Nat.le_refl _) (.int .i64 0)).setCell (p := ⟨w.heap.size, 5, none⟩) (Nat.le_refl _) (.slice none 0 0))
    clear hb2 b0 b1 b2 b3 b4 b5 b6 HX1
    obtain ⟨b0, b1, b2, b3, b4, b5, b6⟩ := HX2.out.cells
    cases rt
    · go_wp2_with fail
      go_ret
      exact ⟨ret_bool (by rw [HO.out]; rfl), HBs.out⟩
    · go_wp2_with fail
      refine (bare_is br (.mk n.K n.O n.N n.I 0 [] n.T) { r with Ae := none, ce := 0 } _ HBr.out.symm).mono ?_
      rintro e w3 ⟨rfl, hb3⟩
      have HB3 := Lib.hid (HBs.out.trans (hb3.mono HBs.out.size))
      clear hb3
      go_wp2_with fail
      go_ret
      exact ⟨ret_bool (by rw [HO.out, Bool.true_and]), HB3.out⟩
  have g1 : (n.K == 1) = false := by rw [beq_eq_false_iff_ne]; exact k1
  by_cases k2 : n.K = 2
  · have g2 : (n.K == 2) = true := by rw [k2]; rfl
    obtain ⟨br, hbr⟩ : ∃ br, br = bareB (.mk n.K false [] [] n.S n.E n.T) := ⟨_, rfl⟩
    obtain ⟨rt, hrt⟩ : ∃ rt, rt = riseB n.N := ⟨_, rfl⟩
    have HO := Lib.hid (show oneB n = ((n.N.length == n.I.length) && rt && br) by
      rw [oneB_2 k2, hrt, hbr]
      show (emptyB n && n.T.size == 0 && _) = (_ && (true && emptyB n && n.T.size == 0))
      cases emptyB n <;> cases (n.T.size == 0) <;> simp)
    have HRt := Lib.hid hrt
    have HBr := Lib.hid hbr
    have z1 : W1.frozen? ⟨w.heap.size, 1, none⟩ = false := free_of_blk HX1.out 1
    have z2 : W1.frozen? ⟨w.heap.size, 2, none⟩ = false := free_of_blk HX1.out 2
    have z3 : W1.frozen? ⟨w.heap.size, 3, none⟩ = false := free_of_blk HX1.out 3
    have HBs := Lib.hid (((HB1.out.setCell (p := ⟨w.heap.size, 1, none⟩) (Nat.le_refl _) (.bool false)).setCell (p := ⟨w.heap.size, 2, none⟩) (Nat.le_refl _) (.slice none 0 0)).setCell (p := ⟨w.heap.size, 3, none⟩) (Nat.le_refl _) (.slice none 0 0))
    clear k1 k2 hrt hbr
    by_cases hlen : n.I.length = n.N.length
    · have g0 : ((n.I.length : Int) == (n.N.length : Int)) = true := by rw [hlen]; simp
      have HE := Lib.hid (show (n.N.length == n.I.length) = true by rw [beq_iff_eq]; exact hlen.symm)
      clear hlen
      go_enter Tryd.func95, Tryd.ntmps95
      go_wp2_with fail
      rw [← HW1.out]
      obtain ⟨b0, b1, b2, b3, b4, b5, b6⟩ := HX1.out.cells
      go_wp2_with fail
      refine (rising_is rt r.An r.cn n.N _ HN.out.names (by omega) HRt.out.symm).mono ?_
      rintro e w2 ⟨rfl, rfl⟩
      cases rt
      · go_wp2_with fail
        go_ret
        exact ⟨ret_bool (by rw [HO.out, Bool.and_false, Bool.false_and]), HBs.out⟩
      · go_wp2_with fail
        refine (bare_is br (.mk n.K false [] [] n.S n.E n.T) { r with An := none, cn := 0, Ai := none, ci := 0 } _ HBr.out.symm).mono ?_
        rintro e w3 ⟨rfl, hb3⟩
        have HB3 := Lib.hid (HBs.out.trans (hb3.mono HBs.out.size))
        clear hb3
        go_wp2_with fail
        go_ret
        exact ⟨ret_bool (by rw [HO.out, HE.out]; rfl), HB3.out⟩
    · have g0 : ((n.I.length : Int) == (n.N.length : Int)) = false := by rw [beq_eq_false_iff_ne]; omega
      have HE := Lib.hid (show (n.N.length == n.I.length) = false by rw [beq_eq_false_iff_ne]; exact fun h => hlen h.symm)
      clear hlen
      go_enter Tryd.func95, Tryd.ntmps95
      go_wp2_with fail
      go_ret
      exact ⟨ret_bool (by rw [HO.out, HE.out, Bool.false_and, Bool.false_and]), (Below.refl _ _).alloc (Nat.le_refl _) _⟩
  have g2 : (n.K == 2) = false := by rw [beq_eq_false_iff_ne]; exact k2
  by_cases k3 : n.K = 3
  · have g3 : (n.K == 3) = true := by rw [k3]; rfl
    obtain ⟨rt, hrt⟩ : ∃ rt, rt = pathB n.T := ⟨_, rfl⟩
    obtain ⟨br, hbr⟩ : ∃ br, br = bareB (.mk n.K n.O n.N n.I n.S n.E ⟨#[]⟩) := ⟨_, rfl⟩
    have HO := Lib.hid (show oneB n = (rt && br) by
      rw [oneB_3 k3, hrt, hbr]
      show (noneB n && emptyB n && _) = (_ && (noneB n && emptyB n && true))
      cases noneB n <;> cases emptyB n <;> simp)
    have HRt := Lib.hid hrt
    have HBr := Lib.hid hbr
    clear k1 k2 k3 hrt hbr
    go_enter Tryd.func95, Tryd.ntmps95
    go_wp2_with fail
    rw [← HW1.out]
    obtain ⟨b0, b1, b2, b3, b4, b5, b6⟩ := HX1.out.cells
    go_wp2_with fail
    refine (target_is rt n.T m _ f4 HM.out HRt.out.symm).mono ?_
    rintro e w2 ⟨rfl, hb2⟩
    have HB2 := Lib.hid (HB1.out.trans (hb2.mono HB1.out.size))
    have HX2 := Lib.hid (HX1.out.below hb2)
    have z6 : w2.frozen? ⟨w.heap.size, 6, none⟩ = false := free_of_blk HX2.out 6
    have HBs := Lib.hid (HB2.out.setCell (p := ⟨w.heap.size, 6, none⟩) (Nat.le_refl _) (.string ⟨#[]⟩))
    clear hb2 b0 b1 b2 b3 b4 b5 b6 HX1
    obtain ⟨b0, b1, b2, b3, b4, b5, b6⟩ := HX2.out.cells
    cases rt
    · go_wp2_with fail
      go_ret
      exact ⟨ret_bool (by rw [HO.out]; rfl), HBs.out⟩
    · go_wp2_with fail
      refine (bare_is br (.mk n.K n.O n.N n.I n.S n.E ⟨#[]⟩) r _ HBr.out.symm).mono ?_
      rintro e w3 ⟨rfl, hb3⟩
      have HB3 := Lib.hid (HBs.out.trans (hb3.mono HBs.out.size))
      clear hb3
      go_wp2_with fail
      go_ret
      exact ⟨ret_bool (by rw [HO.out, Bool.true_and]), HB3.out⟩
  have g3 : (n.K == 3) = false := by rw [beq_eq_false_iff_ne]; exact k3
  by_cases k4 : n.K = 4
  · have g4 : (n.K == 4) = true := by rw [k4]; rfl
    obtain ⟨br, hbr⟩ : ∃ br, br = bareB n := ⟨_, rfl⟩
    have HO := Lib.hid (show oneB n = br by rw [oneB_4 k4, hbr]; rfl)
    have HBr := Lib.hid hbr
    clear k1 k2 k3 k4 hbr
    go_enter Tryd.func95, Tryd.ntmps95
    go_wp2_with fail
    rw [← HW1.out]
    obtain ⟨b0, b1, b2, b3, b4, b5, b6⟩ := HX1.out.cells
    go_wp2_with fail
    refine (bare_is br n r _ HBr.out.symm).mono ?_
    rintro e w3 ⟨rfl, hb3⟩
    have HB3 := Lib.hid (HB1.out.trans (hb3.mono HB1.out.size))
    clear hb3
    go_wp2_with fail
    go_ret
    exact ⟨ret_bool HO.out.symm, HB3.out⟩
  have g4 : (n.K == 4) = false := by rw [beq_eq_false_iff_ne]; exact k4
  have HF := Lib.hid (show false = oneB n by rw [oneB_0 k1 k2 k3 k4])
  clear k1 k2 k3 k4
  go_enter Tryd.func95, Tryd.ntmps95
  go_wp2_with fail
  go_ret
  exact ⟨ret_bool HF.out, (Below.refl _ _).alloc (Nat.le_refl _) _⟩
end Go.Proofs.YtniklphdnakehaaDoor.tre
