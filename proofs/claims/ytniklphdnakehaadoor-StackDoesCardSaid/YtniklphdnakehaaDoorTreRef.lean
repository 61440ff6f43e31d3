/- What the reference's all, Count, Depth and Right answer of any node. Conditions: the node is one that was read, and no deeper than a thousand. -/
import Derived.Test.YtniklphdnakehaaDoorTreRight
namespace Go.Proofs.YtniklphdnakehaaDoor.tre
set_option maxRecDepth 100000
open Go.RowKit Go.Proofs.YtniklphdnakehaaDoor.words Go.Proofs.YtniklphdnakehaaDoor.ext Go.Proofs.YtniklphdnakehaaDoor.name

theorem one_is (b : Bool) (n : Nd) (r : Raw) (w : World) (hN : NdAt w w.heap.size n r) (hb : oneB n = b) : Calls Tryd.prog 103 #[ndV n r] w fun e w' => e = .returned (.bool b) ∧ Below w.heap.size w w' :=
  (one_any n r w hN).mono fun _ _ ⟨he, hw⟩ => ⟨by rw [he, hb], hw⟩
theorem wrap_add (a b : Int) : wrap64 (wrap64 a + wrap64 b) = wrap64 (a + b) := by unfold wrap64; omega
theorem countL_append : ∀ L M : List Nd, countL (L ++ M) = countL L + countL M
  | [], M => by rw [List.nil_append, countL_nil, Nat.zero_add]
  | x :: L, M => by rw [List.cons_append, countL_cons, countL_cons, countL_append L M, Nat.add_assoc]
theorem depthL_append : ∀ L M : List Nd, depthL (L ++ M) = max (depthL L) (depthL M)
  | [], M => by rw [List.nil_append, depthL_nil, Nat.zero_max]
  | x :: L, M => by rw [List.cons_append, depthL_cons, depthL_cons, depthL_append L M, Nat.max_assoc]
theorem countL_take {L : List Nd} {k : Nat} {x : Nd} (h : L[k]? = some x) : countL (L.take (k + 1)) = countL (L.take k) + count x := by
  rw [take_at h, countL_append, countL_cons, countL_nil]; rfl
theorem depthL_take {L : List Nd} {k : Nat} {x : Nd} (h : L[k]? = some x) : depthL (L.take (k + 1)) = max (depthL (L.take k)) (depth x + 1) := by
  rw [take_at h, depthL_append, depthL_cons, depthL_nil, Nat.max_zero]

set_option maxHeartbeats 3200000 in
theorem all_at (W0 : World) : ∀ (k : Nat) (n : Nd) (r : Raw) (w : World), depth n < k → NdAt W0 W0.heap.size n r → Below W0.heap.size W0 w →
    Calls Tryd.prog 65 #[ndV n r] w fun e w' => e = .returned (.bool (allB n)) ∧ Below w.heap.size w w' := by
  intro k
  induction k with
  | zero => intro n r w hk; omega
  | succ k ih =>
    intro n r w hk hN hb
    have IH := Lib.hid ih
    have f4 := hN.fit.li
    have HN := Lib.hid hN
    have HB := Lib.hid hb
    obtain ⟨W1, hW1⟩ : ∃ W1, W1 = w.alloc (.cells (rawCells n r) 27) := ⟨_, rfl⟩
    have HX1 : Hid (Box W1 w.heap.size n r) := by rw [hW1]; exact Lib.hid (Box.new w n r)
    have HB1 : Hid (Below w.heap.size w W1) := by rw [hW1]; exact Lib.hid ((Below.refl _ _).alloc (Nat.le_refl _) _)
    unfold rawCells at hW1
    have HW1 := Lib.hid hW1
    have HS := Lib.hid (allB_eq n)
    clear hN hb hW1 ih
    unfold ndV rawCells
    go_enter Tryd.func65, Tryd.ntmps65
    go_upto_region 1 with fail
    rw [← HW1.out]
    go_wp2_with fail
    go_loopw [3] (fun v wr => ∃ (j : Nat), j ≤ n.I.length ∧ v = .int .i64 j ∧ Hid (allL n.I = allL (n.I.drop j)) ∧ Below W1.heap.size W1 wr)
      (fun v _ => n.I.length - (intOf v).toNat)
    case atStart => exact ⟨0, Nat.zero_le _, rfl, Lib.hid rfl, Below.refl _ _⟩
    case round =>
      obtain ⟨j, hj, rfl, HL, hbw⟩ := hrel
      have HBr := Lib.hid hbw
      have HX := Lib.hid (HX1.out.below hbw)
      have HBw := Lib.hid (HB.out.trans (HB1.out.trans (hbw.mono HB1.out.size) |>.mono HB.out.size))
      clear hbw
      obtain ⟨b0, b1, b2, b3, b4, b5, b6⟩ := HX.out.cells
      by_cases hlt : j < n.I.length
      · obtain ⟨x, hx⟩ : ∃ x, n.I[j]? = some x := ⟨_, List.getElem?_eq_getElem hlt⟩
        obtain ⟨r', hr', b, off, hAi, hB, c0, c1, c2, c3, c4, c5, c6⟩ := HN.out.entry hx HBw.out
        have hdx : depth x < k := by have := depth_at hx; have := depth_eq n; omega
        obtain ⟨q1, hq1⟩ : ∃ q1, q1 = allB x := ⟨_, rfl⟩
        have HLX := Lib.hid (show allL (n.I.drop j) = (q1 && allL (n.I.drop (j + 1))) by rw [drop_at hx, allL_cons, ← hq1])
        have HI := Lib.hid (IH.out x r' wr hdx hr' HBw.out)
        rw [← hq1] at HI
        unfold ndV rawCells at HI
        rw [hAi] at b3
        have i0 : (0 : Int) ≤ (j : Int) := by omega
        clear hx hr' hq1 hAi
        go_wp2_with fail
        refine HI.out.mono ?_
        rintro e w5 ⟨rfl, hb5⟩
        have HB5 := Lib.hid (HBr.out.trans (hb5.mono HBr.out.size))
        clear hb5 HI b0 b1 b2 b3 b4 b5 b6 c0 c1 c2 c3 c4 c5 c6
        cases q1
        · have HF := Lib.hid (show false = allB n by rw [HS.out, HL.out, HLX.out]; rfl)
          go_wp2_with fail
          go_ret
          exact ⟨ret_bool HF.out, HB1.out.trans (HB5.out.mono HB1.out.size)⟩
        · have HN2 := Lib.hid (show allL n.I = allL (n.I.drop (j + 1)) by rw [HL.out, HLX.out, Bool.true_and])
          go_wp2_with fail
          go_roundw
          case rel => exact ⟨j + 1, by omega, by go_num, HN2, HB5.out⟩
          case measure => simp [intOf]; omega
      · obtain ⟨ob, hob⟩ : ∃ ob, ob = oneB n := ⟨_, rfl⟩
        have HF := Lib.hid (show ob = allB n by rw [HS.out, HL.out, List.drop_of_length_le (by omega), allL_nil, Bool.true_and, hob])
        have HI := Lib.hid (one_is ob n r wr ((HN.out.later HBw.out)) hob.symm)
        unfold ndV rawCells at HI
        clear hob
        go_wp2_with fail
        refine HI.out.mono ?_
        rintro e w5 ⟨rfl, hb5⟩
        have HB5 := Lib.hid (HBr.out.trans (hb5.mono HBr.out.size))
        clear hb5 HI
        go_wp2_with fail
        go_ret
        exact ⟨ret_bool HF.out, HB1.out.trans (HB5.out.mono HB1.out.size)⟩

theorem ret_i64 {a b : Int} (h : a = b) : Ending.returned (.int .i64 a) = .returned (.int .i64 b) := by rw [h]

set_option maxHeartbeats 3200000 in
theorem refcount_at (W0 : World) : ∀ (k : Nat) (n : Nd) (r : Raw) (w : World), depth n < k → NdAt W0 W0.heap.size n r → Below W0.heap.size W0 w →
    Calls Tryd.prog 36 #[ndV n r] w fun e w' => e = .returned (.int .i64 (wrap64 (count n : Int))) ∧ Below w.heap.size w w' := by
  intro k
  induction k with
  | zero => intro n r w hk; omega
  | succ k ih =>
    intro n r w hk hN hb
    have IH := Lib.hid ih
    have f4 := hN.fit.li
    have HN := Lib.hid hN
    have HB := Lib.hid hb
    obtain ⟨W1, hW1⟩ : ∃ W1, W1 = w.alloc (.cells (rawCells n r) 27) := ⟨_, rfl⟩
    have HX1 : Hid (Box W1 w.heap.size n r) := by rw [hW1]; exact Lib.hid (Box.new w n r)
    have HB1 : Hid (Below w.heap.size w W1) := by rw [hW1]; exact Lib.hid ((Below.refl _ _).alloc (Nat.le_refl _) _)
    unfold rawCells at hW1
    have HW1 := Lib.hid hW1
    have HS := Lib.hid (count_eq n)
    clear hN hb hW1 ih
    unfold ndV rawCells
    go_enter Tryd.func36, Tryd.ntmps36
    go_upto_region 1 with fail
    rw [← HW1.out]
    go_wp2_with fail
    go_loopw [3, 4] (fun s v wr => ∃ (j : Nat) (kk : Int), j ≤ n.I.length ∧ v = .int .i64 j ∧ s = .int .i64 kk ∧ Hid (kk = wrap64 ((1 + countL (n.I.take j) : Nat) : Int)) ∧ Below W1.heap.size W1 wr)
      (fun _ v _ => n.I.length - (intOf v).toNat)
    case atStart => exact ⟨0, 1, Nat.zero_le _, rfl, rfl, Lib.hid (by rw [List.take_zero, countL_nil]; decide +kernel), Below.refl _ _⟩
    case round =>
      obtain ⟨j, kk, hj, rfl, rfl, HL, hbw⟩ := hrel
      have HBr := Lib.hid hbw
      have HX := Lib.hid (HX1.out.below hbw)
      have HBw := Lib.hid (HB.out.trans (HB1.out.trans (hbw.mono HB1.out.size) |>.mono HB.out.size))
      clear hbw
      obtain ⟨b0, b1, b2, b3, b4, b5, b6⟩ := HX.out.cells
      by_cases hlt : j < n.I.length
      · obtain ⟨x, hx⟩ : ∃ x, n.I[j]? = some x := ⟨_, List.getElem?_eq_getElem hlt⟩
        obtain ⟨r', hr', b, off, hAi, hB, c0, c1, c2, c3, c4, c5, c6⟩ := HN.out.entry hx HBw.out
        have hdx : depth x < k := by have := depth_at hx; have := depth_eq n; omega
        obtain ⟨q1, hq1⟩ : ∃ q1, q1 = wrap64 (count x : Int) := ⟨_, rfl⟩
        have HLX := Lib.hid (show wrap64 (kk + q1) = wrap64 ((1 + countL (n.I.take (j + 1)) : Nat) : Int) by
          rw [HL.out, hq1, wrap_add, countL_take hx]
          congr 1
          omega)
        have HI := Lib.hid (IH.out x r' wr hdx hr' HBw.out)
        rw [← hq1] at HI
        unfold ndV rawCells at HI
        rw [hAi] at b3
        have i0 : (0 : Int) ≤ (j : Int) := by omega
        clear hx hr' hq1 hAi
        go_wp2_with fail
        refine HI.out.mono ?_
        rintro e w5 ⟨rfl, hb5⟩
        have HB5 := Lib.hid (HBr.out.trans (hb5.mono HBr.out.size))
        clear hb5 HI b0 b1 b2 b3 b4 b5 b6 c0 c1 c2 c3 c4 c5 c6
        go_wp2_with fail
        go_roundw
        case rel => exact ⟨j + 1, _, by omega, by go_num, rfl, HLX, HB5.out⟩
        case measure => simp [intOf]; omega
      · have HF := Lib.hid (show kk = wrap64 (count n : Int) by rw [HL.out, HS.out, List.take_of_length_le (by omega)])
        go_wp2_with fail
        go_ret
        exact ⟨ret_i64 HF.out, HB1.out.trans (HBr.out.mono HB1.out.size)⟩

set_option maxHeartbeats 3200000 in
theorem refdepth_at (W0 : World) : ∀ (k : Nat) (n : Nd) (r : Raw) (w : World), depth n < k → k ≤ 10000 → NdAt W0 W0.heap.size n r → Below W0.heap.size W0 w →
    Calls Tryd.prog 66 #[ndV n r] w fun e w' => e = .returned (.int .i64 (depth n : Int)) ∧ Below w.heap.size w w' := by
  intro k
  induction k with
  | zero => intro n r w hk; omega
  | succ k ih =>
    intro n r w hk hk2 hN hb
    have IH := Lib.hid ih
    have f4 := hN.fit.li
    have HN := Lib.hid hN
    have HB := Lib.hid hb
    obtain ⟨W1, hW1⟩ : ∃ W1, W1 = w.alloc (.cells (rawCells n r) 27) := ⟨_, rfl⟩
    have HX1 : Hid (Box W1 w.heap.size n r) := by rw [hW1]; exact Lib.hid (Box.new w n r)
    have HB1 : Hid (Below w.heap.size w W1) := by rw [hW1]; exact Lib.hid ((Below.refl _ _).alloc (Nat.le_refl _) _)
    unfold rawCells at hW1
    have HW1 := Lib.hid hW1
    have HS := Lib.hid (depth_eq n)
    clear hN hb hW1 ih
    unfold ndV rawCells
    go_enter Tryd.func66, Tryd.ntmps66
    go_upto_region 1 with fail
    rw [← HW1.out]
    go_wp2_with fail
    go_loopw [3, 4] (fun s v wr => ∃ (j dd : Nat), j ≤ n.I.length ∧ v = .int .i64 j ∧ s = .int .i64 dd ∧ Hid (dd = depthL (n.I.take j)) ∧ dd ≤ k ∧ Below W1.heap.size W1 wr)
      (fun _ v _ => n.I.length - (intOf v).toNat)
    case atStart => exact ⟨0, 0, Nat.zero_le _, rfl, rfl, Lib.hid (by rw [List.take_zero, depthL_nil]), Nat.zero_le _, Below.refl _ _⟩
    case round =>
      obtain ⟨j, dd, hj, rfl, rfl, HL, hdd, hbw⟩ := hrel
      have HBr := Lib.hid hbw
      have HX := Lib.hid (HX1.out.below hbw)
      have HBw := Lib.hid (HB.out.trans (HB1.out.trans (hbw.mono HB1.out.size) |>.mono HB.out.size))
      clear hbw
      obtain ⟨b0, b1, b2, b3, b4, b5, b6⟩ := HX.out.cells
      by_cases hlt : j < n.I.length
      · obtain ⟨x, hx⟩ : ∃ x, n.I[j]? = some x := ⟨_, List.getElem?_eq_getElem hlt⟩
        obtain ⟨r', hr', b, off, hAi, hB, c0, c1, c2, c3, c4, c5, c6⟩ := HN.out.entry hx HBw.out
        have hdx : depth x < k := by have := depth_at hx; have := depth_eq n; omega
        obtain ⟨q1, hq1⟩ : ∃ q1, q1 = depth x := ⟨_, rfl⟩
        have HLX := Lib.hid (show depthL (n.I.take (j + 1)) = max dd (q1 + 1) by rw [depthL_take hx, HL.out, hq1])
        have hq2 : q1 < k := by rw [hq1]; exact hdx
        have HI := Lib.hid (IH.out x r' wr hdx (by omega) hr' HBw.out)
        rw [← hq1] at HI
        unfold ndV rawCells at HI
        rw [hAi] at b3
        have i0 : (0 : Int) ≤ (j : Int) := by omega
        clear hx hr' hq1 hAi
        go_wp2_with fail
        refine HI.out.mono ?_
        rintro e w5 ⟨rfl, hb5⟩
        have HB5 := Lib.hid (HBr.out.trans (hb5.mono HBr.out.size))
        clear hb5 HI b0 b1 b2 b3 b4 b5 b6 c0 c1 c2 c3 c4 c5 c6
        by_cases hg : dd < q1 + 1
        · have g1 : (dd : Int) < (q1 : Int) + 1 := by omega
          have HN2 := Lib.hid (show q1 + 1 = depthL (n.I.take (j + 1)) by rw [HLX.out]; omega)
          go_wp2_with fail
          go_roundw
          case rel => exact ⟨j + 1, q1 + 1, by omega, by go_num, by go_num, HN2, by omega, HB5.out⟩
          case measure => simp [intOf]; omega
        · have g1 : ¬ (dd : Int) < (q1 : Int) + 1 := by omega
          have HN2 := Lib.hid (show dd = depthL (n.I.take (j + 1)) by rw [HLX.out]; omega)
          go_wp2_with fail
          go_roundw
          case rel => exact ⟨j + 1, dd, by omega, by go_num, rfl, HN2, by omega, HB5.out⟩
          case measure => simp [intOf]; omega
      · have HF := Lib.hid (show (dd : Int) = (depth n : Int) by rw [HS.out, HL.out, List.take_of_length_le (by omega)])
        go_wp2_with fail
        go_ret
        exact ⟨ret_i64 HF.out, HB1.out.trans (HBr.out.mono HB1.out.size)⟩

set_option maxHeartbeats 3200000 in
theorem refright_node (n : Nd) (r : Raw) (w : World) (hN : NdAt w w.heap.size n r) (hd : depth n ≤ 1000) :
    Calls Tryd.prog 18 #[ndV n r] w fun e w' => e = .returned (.bool (refB n)) ∧ Below w.heap.size w w' := by
  obtain ⟨W1, hW1⟩ : ∃ W1, W1 = w.alloc (.cells (rawCells n r) 27) := ⟨_, rfl⟩
  have hb1 : Below w.heap.size w W1 := by rw [hW1]; exact (Below.refl _ _).alloc (Nat.le_refl _) _
  have HX1 : Hid (Box W1 w.heap.size n r) := by rw [hW1]; exact Lib.hid (Box.new w n r)
  have HB1 := Lib.hid hb1
  have HN := Lib.hid hN
  unfold rawCells at hW1
  have HW1 := Lib.hid hW1
  clear hN hb1 hW1
  unfold ndV rawCells
  by_cases k2 : n.K = 2
  · have g2 : (n.K == 2) = true := by rw [k2]; rfl
    obtain ⟨ab, hab⟩ : ∃ ab, ab = allB n := ⟨_, rfl⟩
    have HAb := Lib.hid hab
    have HR := Lib.hid (show refB n = (ab && decide (wrap64 (count n : Int) ≤ 4096) && decide (depth n ≤ 15)) by unfold refB; rw [g2, hab, Bool.true_and])
    have HA := Lib.hid (all_at w (depth n + 1) n r W1 (by omega) HN.out HB1.out)
    rw [← hab] at HA
    unfold ndV rawCells at HA
    obtain ⟨cn, hcn⟩ : ∃ cn, cn = wrap64 (count n : Int) := ⟨_, rfl⟩
    have HCn := Lib.hid hcn
    rw [← hcn] at HR
    obtain ⟨dn, hdn⟩ : ∃ dn, dn = depth n := ⟨_, rfl⟩
    have HDn := Lib.hid hdn
    rw [← hdn] at HR
    clear k2 hab hcn
    go_enter Tryd.func18, Tryd.ntmps18
    go_upto_region 1 with fail
    rw [← HW1.out]
    obtain ⟨b0, b1, b2, b3, b4, b5, b6⟩ := HX1.out.cells
    have HD0 := Lib.hid hdn
    clear hdn
    go_wp2_with fail
    refine HA.out.mono ?_
    rintro e w2 ⟨rfl, hb2⟩
    have HB2 := Lib.hid (HB1.out.trans (hb2.mono HB1.out.size))
    have HX2 := Lib.hid (HX1.out.below hb2)
    clear hb2 HA b0 b1 b2 b3 b4 b5 b6
    cases ab
    · go_wp2_with fail
      go_ret
      exact ⟨ret_bool (by rw [HR.out]; rfl), HB2.out⟩
    · obtain ⟨b0, b1, b2, b3, b4, b5, b6⟩ := HX2.out.cells
      have HC := Lib.hid (refcount_at w (depth n + 1) n r w2 (by omega) HN.out HB2.out)
      rw [← HCn.out] at HC
      unfold ndV rawCells at HC
      go_wp2_with fail
      refine HC.out.mono ?_
      rintro e w3 ⟨rfl, hb3⟩
      have HB3 := Lib.hid (HB2.out.trans (hb3.mono HB2.out.size))
      have HX3 := Lib.hid (HX2.out.below hb3)
      clear hb3 HC b0 b1 b2 b3 b4 b5 b6
      by_cases h1 : cn ≤ 4096
      · have g1 : decide (cn ≤ 4096) = true := decide_eq_true h1
        obtain ⟨b0, b1, b2, b3, b4, b5, b6⟩ := HX3.out.cells
        have HD := Lib.hid (refdepth_at w (depth n + 1) n r w3 (by omega) (by omega) HN.out HB3.out)
        rw [← HDn.out] at HD
        unfold ndV rawCells at HD
        clear h1
        go_wp2_with fail
        refine HD.out.mono ?_
        rintro e w4 ⟨rfl, hb4⟩
        have HB4 := Lib.hid (HB3.out.trans (hb4.mono HB3.out.size))
        clear hb4 HD b0 b1 b2 b3 b4 b5 b6
        by_cases h2 : dn ≤ 15
        · have g2' : (dn : Int) ≤ 15 := by omega
          go_wp2_with fail
          go_ret
          exact ⟨ret_bool (by rw [HR.out, g1, decide_eq_true h2]; first | (simp; done) | (simp; omega)), HB4.out⟩
        · have g2' : ¬ (dn : Int) ≤ 15 := by omega
          go_wp2_with fail
          go_ret
          exact ⟨ret_bool (by rw [HR.out, g1, decide_eq_false (by omega)]; first | (simp; done) | (simp; omega)), HB4.out⟩
      · have g1 : decide (cn ≤ 4096) = false := decide_eq_false h1
        clear h1
        go_wp2_with fail
        go_ret
        exact ⟨ret_bool (by rw [HR.out, g1]; rfl), HB3.out⟩
  · have g2 : (n.K == 2) = false := by rw [beq_eq_false_iff_ne]; exact k2
    have HF := Lib.hid (show false = refB n by unfold refB; rw [g2, Bool.false_and, Bool.false_and, Bool.false_and])
    clear k2
    go_enter Tryd.func18, Tryd.ntmps18
    go_wp2_with fail
    go_ret
    exact ⟨ret_bool HF.out, (Below.refl _ _).alloc (Nat.le_refl _) _⟩

set_option maxHeartbeats 1600000 in
theorem small_node (n : Nd) (r : Raw) (w : World) (hN : NdAt w w.heap.size n r) :
    Calls Tryd.prog 17 #[ndV n r] w fun e w' => e = .returned (.int .i64 (if smallB n = true then 1 else 0)) ∧ Below w.heap.size w w' := by
  obtain ⟨W1, hW1⟩ : ∃ W1, W1 = (w.alloc (.cells (rawCells n r) 27)).alloc (.cells #[.int .i64 400] 3) := ⟨_, rfl⟩
  have hb1 : Below w.heap.size w W1 := by rw [hW1]; exact ((Below.refl _ _).alloc (Nat.le_refl _) _).alloc (by simp) _
  have HX1 : Hid (Box W1 w.heap.size n r) := by rw [hW1]; exact Lib.hid ((Box.new w n r).alloc _)
  have hc1 : Cnt W1 (w.heap.size + 1) 400 := by rw [hW1]; exact heap_two _ _ _
  have HI := Lib.hid (small_at w (depth n + 1) n r 30 400 (w.heap.size + 1) W1 (by omega) hN hb1 (by omega) hc1 (by omega) (by omega) (by omega) (by omega))
  obtain ⟨sb, hsb⟩ : ∃ sb, sb = smallB n := ⟨_, rfl⟩
  rw [show (smallS n 30 400).1 = sb from hsb.symm] at HI
  rw [← hsb]
  have HB1 := Lib.hid hb1
  unfold rawCells at hW1
  have HW1 := Lib.hid hW1
  unfold ndV rawCells at HI
  clear hN hb1 hc1 hW1 hsb
  unfold ndV rawCells
  go_enter Tryd.func17, Tryd.ntmps17
  go_upto_region 2 with fail
  rw [← HW1.out]
  obtain ⟨b0, b1, b2, b3, b4, b5, b6⟩ := HX1.out.cells
  go_wp2_with fail
  refine HI.out.mono ?_
  rintro e w2 ⟨rfl, _, hg2⟩
  have HB2 := Lib.hid (below_grown HB1.out (Nat.le_refl _) hg2 (by omega))
  clear hg2 HI
  cases sb
  · go_wp2_with fail
    go_ret
    exact ⟨rfl, HB2.out⟩
  · go_wp2_with fail
    go_ret
    exact ⟨rfl, HB2.out⟩
end Go.Proofs.YtniklphdnakehaaDoor.tre
