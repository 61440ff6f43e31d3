/- The law SeenOne: what an upper branch has by a name hides all that is below it, but directories below a directory that isn't opaque. Conditions: the nodes lie in memory; the library's MaxLen holds a number. -/
import Derived.Test.YtmmpceodhadipaaDoorJQ
import Derived.Deep.CutRange
import Derived.BigQuiet
namespace Go.Proofs.YtmmpceodhadipaaDoor.seen
set_option maxRecDepth 100000
open Go.RowKit Go.Proofs.YtmmpceodhadipaaDoor.words Go.Proofs.YtmmpceodhadipaaDoor.ext Go.Proofs.YtmmpceodhadipaaDoor.name Go.Proofs.YtmmpceodhadipaaDoor.tre Go.Proofs.YtmmpceodhadipaaDoor.stk

set_option maxHeartbeats 51200000 in
theorem law_one (n : Nd) (r : Raw) (A : Option Addr) (c : Nat) (T : List Nd) (rs : Nat → Raw) (s : ByteArray) (m : Int) (w : World) (hN : NdAt w w.heap.size n r) (hT : Trees w w.heap.size A T rs) (hm : w.cell? ⟨0, 0, none⟩ = some (.int .i64 m)) (hlen : T.length * 112 ≤ 140737488351232) (hz : A = none → T.length = 0 ∧ c = 0) :
    Calls Tryd.prog 4 #[ndV n r, .slice A T.length c, .string s] w fun e w' => e = .returned (.bool true) ∧ Below w.heap.size w w' := by
  obtain ⟨W1, hW1⟩ : ∃ W1, W1 = w.alloc (.cells (rawCells n r) 39) := ⟨_, rfl⟩
  have hb1 : Below w.heap.size w W1 := by rw [hW1]; exact (Below.refl _ _).alloc (Nat.le_refl _) _
  have hx1 : Box W1 w.heap.size n r := by rw [hW1]; exact Box.new w n r
  have HX1 := Lib.hid hx1
  have HN1 := Lib.hid (hN.later hb1)
  have HT1 := Lib.hid (hT.later hb1)
  have HM1 := Lib.hid (below_cell hm hb1)
  have HB1 := Lib.hid hb1
  have HZ := Lib.hid hz
  have HTm := Lib.hid hN.tame
  unfold rawCells at hW1
  have HW1 := Lib.hid hW1
  clear hN hm hW1 hb1 hx1 hT hz
  unfold ndV rawCells
  have hi0 : (Tryd.prog.info? 39).map (fun i => (i.zero, i.size, i.bytes)) = some (some (.agg #[.int .i64 0, .bool false, .slice none 0 0, .slice none 0 0, .int .i64 0, .slice none 0 0, .string ⟨#[]⟩]), 7, 112) := by kernel_rfl
  obtain ⟨iS, hiS, zS0, zS1, zS2⟩ := info_parts hi0
  clear hi0
  go_enter Tryd.func4, Tryd.ntmps4
  go_upto_region 1 with fail
  rw [← HW1.out]
  clear HW1
  go_upto_region 3 with (refine (speaks_any m W1 HM1.out).mono ?_; rintro e w2 ⟨rfl, hb2⟩)
  have HX2 := Lib.hid (HX1.out.below hb2)
  have HN2 := Lib.hid (HN1.out.later hb2)
  have HT2 := Lib.hid (HT1.out.later hb2)
  have HM2 := Lib.hid (below_cell HM1.out hb2)
  have HB2 := Lib.hid (HB1.out.trans (hb2.mono HB1.out.size))
  clear hb2 HX1 HN1 HT1 HM1 HB1
  go_cut [7] from 20 to 25 (fun v wx => ∃ A' c', v = .slice A' (T.length + 1) c' ∧ Hid (Trees wx wx.heap.size A' (T ++ [n]) (putR rs T.length r)) ∧ Hid (Below w2.heap.size w2 wx))
  case first =>
    obtain ⟨V, hV⟩ : ∃ V, V = w2.drew := ⟨_, rfl⟩
    have HBV := Lib.hid (show Below w2.heap.size w2 V by rw [hV]; exact (Below.refl _ _).drew)
    have HSS : Hid (∀ w' : World, Below w2.heap.size w2 w' → (w'.cell? ⟨w.heap.size, 0, none⟩ = some (.int .i64 n.K) ∧ w'.cell? ⟨w.heap.size, 1, none⟩ = some (.bool n.O) ∧ w'.cell? ⟨w.heap.size, 2, none⟩ = some (.slice r.An n.N.length r.cn) ∧ w'.cell? ⟨w.heap.size, 3, none⟩ = some (.slice r.Ai n.I.length r.ci) ∧ w'.cell? ⟨w.heap.size, 4, none⟩ = some (.int .i64 n.S) ∧ w'.cell? ⟨w.heap.size, 5, none⟩ = some (.slice r.Ae n.E.length r.ce) ∧ w'.cell? ⟨w.heap.size, 6, none⟩ = some (.string n.T))) := Lib.hid fun w' hb => (HX2.out.below hb).cells
    have HSV := Lib.hid (HSS.out _ HBV.out)
    refine wp_region_held_drew (S := fun w' => (w'.cell? ⟨w.heap.size, 0, none⟩ = some (.int .i64 n.K) ∧ w'.cell? ⟨w.heap.size, 1, none⟩ = some (.bool n.O) ∧ w'.cell? ⟨w.heap.size, 2, none⟩ = some (.slice r.An n.N.length r.cn) ∧ w'.cell? ⟨w.heap.size, 3, none⟩ = some (.slice r.Ai n.I.length r.ci) ∧ w'.cell? ⟨w.heap.size, 4, none⟩ = some (.int .i64 n.S) ∧ w'.cell? ⟨w.heap.size, 5, none⟩ = some (.slice r.Ae n.E.length r.ce) ∧ w'.cell? ⟨w.heap.size, 6, none⟩ = some (.string n.T))) (by kernel_rfl) (by rw [← hV]; exact HSV.out) (fun hHeld => ?_)
    rw [← hV] at hHeld ⊢
    clear hV HSV
    refine wpAnyH_take (i := 1) (oi := ⟨some 21, _, _, _, _, _⟩) (v := ?_) rfl (by kernel_rfl) (by kernel_rfl) (by kernel_rfl) (fun _ _ _ h => h) (Or.inl ⟨by kernel_rfl, ?_⟩) (by assumption) ?_
    rotate_left 1
    focus (intro w' hSw; (try dsimp only at hSw); go_simp; (try with_reducible rfl))
    try simp only [Act.put, List.setIfInBounds_toArray, List.set_cons_zero, List.set_cons_succ]
    refine wpAnyH_take (i := 3) (oi := ⟨some 23, _, _, _, _, _⟩) (v := ?_) rfl (by kernel_rfl) (by kernel_rfl) (by kernel_rfl) (fun _ _ _ h => h) (Or.inl ⟨by kernel_rfl, ?_⟩) (by assumption) ?_
    rotate_left 1
    focus (intro w' hSw; (try dsimp only at hSw); go_simp; (try with_reducible rfl))
    try simp only [Act.put, List.setIfInBounds_toArray, List.set_cons_zero, List.set_cons_succ]
    refine wpAnyH_ready (rs := [0, 4]) (by kernel_rfl) (by simp) ?_
    refine AllReadyH.cons rfl (fun K hK => ?_) (AllReadyH.cons rfl (fun K hK => ?_) AllReadyH.nil)
    · skip
      obtain ⟨v1, hv1⟩ : ∃ v1, v1 = World.alloc V (.cells #[] 39) := ⟨_, rfl⟩
      have hxv1 : Below (World.heap V).size V v1 := by rw [hv1]; exact (Below.refl _ _).alloc (Nat.le_refl _) _
      have HBv1 := Lib.hid (HBV.out.trans (hxv1.mono HBV.out.size))
      have HOv1 : Hid (World.ownsRow v1 w2.heap.size 39 7 (.slice (some ⟨(World.heap V).size, 0, none⟩) 0 0) 0 []) := Lib.hid (by rw [hv1]; exact World.ownsRow_made V #[] 0 HBV.out.size (by decide) rfl)
      go_simp
      rw [← hv1]
      clear hv1 hxv1
      clear hHeld
      refine hK.out _ _ (HSS.out _ HBv1.out) (fun hHeld => ?_)
      clear hK
      try simp only [Act.put, List.setIfInBounds_toArray, List.set_cons_zero, List.set_cons_succ]
      refine wpAnyH_ready (rs := [2, 4]) (by kernel_rfl) (by simp) ?_
      refine AllReadyH.cons rfl (fun K hK => ?_) (AllReadyH.cons rfl (fun K hK => ?_) AllReadyH.nil)
      · skip
        refine step_append_opt v1 (by rfl) (.tmp 20) (.tmp 21) 22 (by rfl) w2.heap.size 39 iS _ 7 112 Tryd.underlying22 hiS zS0 zS1 zS2 rfl (by omega) (.slice (some ⟨(World.heap V).size, 0, none⟩) 0 0) 0 [] (by rfl) HOv1.out A T.length c (rowCells T rs) HZ.out (by rfl) (rowCells_length T rs) (trees_lies (HT2.out.later HBv1.out)) (rowCells_one T rs) (by simp only [maxLen]; omega) (by omega) HBv1.out.size ?_
        intro vr v2 hown hgrow
        rw [Nat.zero_add, List.nil_append] at hown
        obtain ⟨Ar, cr, rfl, _, _⟩ := own_facts hown
        have HBv2 := Lib.hid (keep_grown HBv1.out HOv1.out hgrow (Nat.le_refl _) (Nat.le_refl _))
        have HOv2 := Lib.hid hown
        clear hown hgrow
        clear hHeld
        refine hK.out (Act.put _ (some 22) _) _ (HSS.out _ HBv2.out) (fun hHeld => ?_)
        clear hK
        try simp only [Act.put, List.setIfInBounds_toArray, List.set_cons_zero, List.set_cons_succ]
        refine wpAnyH_ready (rs := [4]) (by kernel_rfl) (by simp) ?_
        refine AllReadyH.cons rfl (fun K hK => ?_) AllReadyH.nil
        obtain ⟨v3, hv3⟩ : ∃ v3, v3 = World.alloc v2 (.cells (rawCells n r) 39) := ⟨_, rfl⟩
        have hxv3 : Below (World.heap v2).size v2 v3 := by rw [hv3]; exact (Below.refl _ _).alloc (Nat.le_refl _) _
        have HBv3 := Lib.hid (HBv2.out.trans (hxv3.mono HBv2.out.size))
        have HLv3 : Hid (Lies v3 (some ⟨(World.heap v2).size, 0, none⟩) (rawCells n r).toList) := Lib.hid (by rw [hv3]; exact node_news v2 n r)
        have HOv3 := Lib.hid (ownL HOv2.out hxv3)
        unfold rawCells at hv3
        go_simp
        rw [← hv3]
        clear hv3 hxv3
        clear hHeld
        refine hK.out _ _ (HSS.out _ HBv3.out) (fun hHeld => ?_)
        clear hK
        try simp only [Act.put, List.setIfInBounds_toArray, List.set_cons_zero, List.set_cons_succ]
        refine wpAnyH_ready (rs := [5]) (by kernel_rfl) (by simp) ?_
        refine AllReadyH.cons rfl (fun K hK => ?_) AllReadyH.nil
        refine step_append_opt v3 (by rfl) (.tmp 22) (.tmp 24) 22 (by rfl) w2.heap.size 39 iS _ 7 112 Tryd.underlying22 hiS zS0 zS1 zS2 rfl (by omega) (.slice Ar T.length cr) T.length (rowCells T rs) (by rfl) HOv3.out (some ⟨(World.heap v2).size, 0, none⟩) 1 1 (rawCells n r).toList (fun h => by cases h) (by rfl) (by rfl) HLv3.out (one_cells n r) (by simp only [maxLen]; omega) (by omega) HBv3.out.size ?_
        intro vr2 v4 hown hgrow
        obtain ⟨Aq, cq, rfl, _, _⟩ := own_facts hown
        have HBv4 := Lib.hid (keep_grown HBv3.out HOv3.out hgrow (Nat.le_refl _) (Nat.le_refl _))
        have HF := Lib.hid (own_more rfl hown (fun i x hx => ((HT2.out.later HBv4.out) i x hx).2) (HN2.out.later HBv4.out))
        clear hown hgrow
        clear hHeld
        refine hK.out (Act.put _ (some 25) _) _ (HSS.out _ HBv4.out) (fun hHeld => ?_)
        clear hK
        try simp only [Act.put, List.setIfInBounds_toArray, List.set_cons_zero, List.set_cons_succ]
        refine wpAnyH_take (i := 6) (oi := ⟨some 7, _, _, _, _, _⟩) (v := ?_) rfl (by kernel_rfl) (by kernel_rfl) (by kernel_rfl) (fun _ _ _ h => h) (Or.inl ⟨by kernel_rfl, ?_⟩) (by assumption) ?_
        rotate_left 1
        focus (intro w' hSw; (try dsimp only at hSw); go_simp; (try with_reducible rfl))
        try simp only [Act.put, List.setIfInBounds_toArray, List.set_cons_zero, List.set_cons_succ]
        refine wpAnyH_done (by kernel_rfl) ?_ _
        clear hHeld
        go_wp2_with fail
        go_meet
        case rel => exact ⟨_, _, rfl, HF, HBv4⟩
      · skip
        obtain ⟨v2, hv2⟩ : ∃ v2, v2 = World.alloc v1 (.cells (rawCells n r) 39) := ⟨_, rfl⟩
        have hxv2 : Below (World.heap v1).size v1 v2 := by rw [hv2]; exact (Below.refl _ _).alloc (Nat.le_refl _) _
        have HBv2 := Lib.hid (HBv1.out.trans (hxv2.mono HBv1.out.size))
        have HLv2 : Hid (Lies v2 (some ⟨(World.heap v1).size, 0, none⟩) (rawCells n r).toList) := Lib.hid (by rw [hv2]; exact node_news v1 n r)
        have HOv2 := Lib.hid (ownL HOv1.out hxv2)
        unfold rawCells at hv2
        go_simp
        rw [← hv2]
        clear hv2 hxv2
        clear hHeld
        refine hK.out _ _ (HSS.out _ HBv2.out) (fun hHeld => ?_)
        clear hK
        try simp only [Act.put, List.setIfInBounds_toArray, List.set_cons_zero, List.set_cons_succ]
        have hlt2 : (World.heap v1).size < (World.heap v2).size := by have := HLv2.out 0 _ rfl; obtain ⟨b', off', e1, e2, _⟩ := this; injection e1 with e1; injection e1 with e1 e1'; subst e1; exact e2
        have hlt1 : (World.heap V).size < (World.heap v1).size := by have h := own_block_lt HOv1.out; exact h
        refine wpAnyH_ready (rs := [2]) (by kernel_rfl) (by simp) ?_
        refine AllReadyH.cons rfl (fun K hK => ?_) AllReadyH.nil
        refine step_append_opt v2 (by rfl) (.tmp 20) (.tmp 21) 22 (by rfl) w2.heap.size 39 iS _ 7 112 Tryd.underlying22 hiS zS0 zS1 zS2 rfl (by omega) (.slice (some ⟨(World.heap V).size, 0, none⟩) 0 0) 0 [] (by rfl) HOv2.out A T.length c (rowCells T rs) HZ.out (by rfl) (rowCells_length T rs) (trees_lies (HT2.out.later HBv2.out)) (rowCells_one T rs) (by simp only [maxLen]; omega) (by omega) HBv2.out.size ?_
        intro vr v3 hown hgrow
        rw [Nat.zero_add, List.nil_append] at hown
        obtain ⟨Ar, cr, rfl, _, _⟩ := own_facts hown
        have HBv3 := Lib.hid (keep_grown HBv2.out HOv2.out hgrow (Nat.le_refl _) (Nat.le_refl _))
        have HOv3 := Lib.hid hown
        have HLv3 := Lib.hid (lies_grown HLv2.out (hlt2) hgrow (fun e => by have e' : (World.heap v1).size = (World.heap V).size := Option.some.inj e; omega))
        clear hown hgrow
        clear hHeld
        refine hK.out (Act.put _ (some 22) _) _ (HSS.out _ HBv3.out) (fun hHeld => ?_)
        clear hK
        try simp only [Act.put, List.setIfInBounds_toArray, List.set_cons_zero, List.set_cons_succ]
        refine wpAnyH_ready (rs := [5]) (by kernel_rfl) (by simp) ?_
        refine AllReadyH.cons rfl (fun K hK => ?_) AllReadyH.nil
        refine step_append_opt v3 (by rfl) (.tmp 22) (.tmp 24) 22 (by rfl) w2.heap.size 39 iS _ 7 112 Tryd.underlying22 hiS zS0 zS1 zS2 rfl (by omega) (.slice Ar T.length cr) T.length (rowCells T rs) (by rfl) HOv3.out (some ⟨(World.heap v1).size, 0, none⟩) 1 1 (rawCells n r).toList (fun h => by cases h) (by rfl) (by rfl) HLv3.out (one_cells n r) (by simp only [maxLen]; omega) (by omega) HBv3.out.size ?_
        intro vr2 v4 hown hgrow
        obtain ⟨Aq, cq, rfl, _, _⟩ := own_facts hown
        have HBv4 := Lib.hid (keep_grown HBv3.out HOv3.out hgrow (Nat.le_refl _) (Nat.le_refl _))
        have HF := Lib.hid (own_more rfl hown (fun i x hx => ((HT2.out.later HBv4.out) i x hx).2) (HN2.out.later HBv4.out))
        clear hown hgrow
        clear hHeld
        refine hK.out (Act.put _ (some 25) _) _ (HSS.out _ HBv4.out) (fun hHeld => ?_)
        clear hK
        try simp only [Act.put, List.setIfInBounds_toArray, List.set_cons_zero, List.set_cons_succ]
        refine wpAnyH_take (i := 6) (oi := ⟨some 7, _, _, _, _, _⟩) (v := ?_) rfl (by kernel_rfl) (by kernel_rfl) (by kernel_rfl) (fun _ _ _ h => h) (Or.inl ⟨by kernel_rfl, ?_⟩) (by assumption) ?_
        rotate_left 1
        focus (intro w' hSw; (try dsimp only at hSw); go_simp; (try with_reducible rfl))
        try simp only [Act.put, List.setIfInBounds_toArray, List.set_cons_zero, List.set_cons_succ]
        refine wpAnyH_done (by kernel_rfl) ?_ _
        clear hHeld
        go_wp2_with fail
        go_meet
        case rel => exact ⟨_, _, rfl, HF, HBv4⟩
    · skip
      obtain ⟨v1, hv1⟩ : ∃ v1, v1 = World.alloc V (.cells (rawCells n r) 39) := ⟨_, rfl⟩
      have hxv1 : Below (World.heap V).size V v1 := by rw [hv1]; exact (Below.refl _ _).alloc (Nat.le_refl _) _
      have HBv1 := Lib.hid (HBV.out.trans (hxv1.mono HBV.out.size))
      have HLv1 : Hid (Lies v1 (some ⟨(World.heap V).size, 0, none⟩) (rawCells n r).toList) := Lib.hid (by rw [hv1]; exact node_news V n r)
      unfold rawCells at hv1
      go_simp
      rw [← hv1]
      clear hv1 hxv1
      clear hHeld
      refine hK.out _ _ (HSS.out _ HBv1.out) (fun hHeld => ?_)
      clear hK
      try simp only [Act.put, List.setIfInBounds_toArray, List.set_cons_zero, List.set_cons_succ]
      have hlt1 : (World.heap V).size < (World.heap v1).size := by have := HLv1.out 0 _ rfl; obtain ⟨b', off', e1, e2, _⟩ := this; injection e1 with e1; injection e1 with e1 e1'; subst e1; exact e2
      refine wpAnyH_ready (rs := [0]) (by kernel_rfl) (by simp) ?_
      refine AllReadyH.cons rfl (fun K hK => ?_) AllReadyH.nil
      obtain ⟨v2, hv2⟩ : ∃ v2, v2 = World.alloc v1 (.cells #[] 39) := ⟨_, rfl⟩
      have hxv2 : Below (World.heap v1).size v1 v2 := by rw [hv2]; exact (Below.refl _ _).alloc (Nat.le_refl _) _
      have HBv2 := Lib.hid (HBv1.out.trans (hxv2.mono HBv1.out.size))
      have HOv2 : Hid (World.ownsRow v2 w2.heap.size 39 7 (.slice (some ⟨(World.heap v1).size, 0, none⟩) 0 0) 0 []) := Lib.hid (by rw [hv2]; exact World.ownsRow_made v1 #[] 0 HBv1.out.size (by decide) rfl)
      have HLv2 := Lib.hid (Below.lies HLv1.out hxv2)
      go_simp
      rw [← hv2]
      clear hv2 hxv2
      clear hHeld
      refine hK.out _ _ (HSS.out _ HBv2.out) (fun hHeld => ?_)
      clear hK
      try simp only [Act.put, List.setIfInBounds_toArray, List.set_cons_zero, List.set_cons_succ]
      have hlt2 : (World.heap v1).size ≤ (World.heap v2).size := by have h := own_block_lt HOv2.out; omega
      refine wpAnyH_ready (rs := [2]) (by kernel_rfl) (by simp) ?_
      refine AllReadyH.cons rfl (fun K hK => ?_) AllReadyH.nil
      refine step_append_opt v2 (by rfl) (.tmp 20) (.tmp 21) 22 (by rfl) w2.heap.size 39 iS _ 7 112 Tryd.underlying22 hiS zS0 zS1 zS2 rfl (by omega) (.slice (some ⟨(World.heap v1).size, 0, none⟩) 0 0) 0 [] (by rfl) HOv2.out A T.length c (rowCells T rs) HZ.out (by rfl) (rowCells_length T rs) (trees_lies (HT2.out.later HBv2.out)) (rowCells_one T rs) (by simp only [maxLen]; omega) (by omega) HBv2.out.size ?_
      intro vr v3 hown hgrow
      rw [Nat.zero_add, List.nil_append] at hown
      obtain ⟨Ar, cr, rfl, _, _⟩ := own_facts hown
      have HBv3 := Lib.hid (keep_grown HBv2.out HOv2.out hgrow (Nat.le_refl _) (Nat.le_refl _))
      have HOv3 := Lib.hid hown
      have HLv3 := Lib.hid (lies_grown HLv2.out (by omega) hgrow (fun e => by have e' : (World.heap V).size = (World.heap v1).size := Option.some.inj e; omega))
      clear hown hgrow
      clear hHeld
      refine hK.out (Act.put _ (some 22) _) _ (HSS.out _ HBv3.out) (fun hHeld => ?_)
      clear hK
      try simp only [Act.put, List.setIfInBounds_toArray, List.set_cons_zero, List.set_cons_succ]
      refine wpAnyH_ready (rs := [5]) (by kernel_rfl) (by simp) ?_
      refine AllReadyH.cons rfl (fun K hK => ?_) AllReadyH.nil
      refine step_append_opt v3 (by rfl) (.tmp 22) (.tmp 24) 22 (by rfl) w2.heap.size 39 iS _ 7 112 Tryd.underlying22 hiS zS0 zS1 zS2 rfl (by omega) (.slice Ar T.length cr) T.length (rowCells T rs) (by rfl) HOv3.out (some ⟨(World.heap V).size, 0, none⟩) 1 1 (rawCells n r).toList (fun h => by cases h) (by rfl) (by rfl) HLv3.out (one_cells n r) (by simp only [maxLen]; omega) (by omega) HBv3.out.size ?_
      intro vr2 v4 hown hgrow
      obtain ⟨Aq, cq, rfl, _, _⟩ := own_facts hown
      have HBv4 := Lib.hid (keep_grown HBv3.out HOv3.out hgrow (Nat.le_refl _) (Nat.le_refl _))
      have HF := Lib.hid (own_more rfl hown (fun i x hx => ((HT2.out.later HBv4.out) i x hx).2) (HN2.out.later HBv4.out))
      clear hown hgrow
      clear hHeld
      refine hK.out (Act.put _ (some 25) _) _ (HSS.out _ HBv4.out) (fun hHeld => ?_)
      clear hK
      try simp only [Act.put, List.setIfInBounds_toArray, List.set_cons_zero, List.set_cons_succ]
      refine wpAnyH_take (i := 6) (oi := ⟨some 7, _, _, _, _, _⟩) (v := ?_) rfl (by kernel_rfl) (by kernel_rfl) (by kernel_rfl) (fun _ _ _ h => h) (Or.inl ⟨by kernel_rfl, ?_⟩) (by assumption) ?_
      rotate_left 1
      focus (intro w' hSw; (try dsimp only at hSw); go_simp; (try with_reducible rfl))
      try simp only [Act.put, List.setIfInBounds_toArray, List.set_cons_zero, List.set_cons_succ]
      refine wpAnyH_done (by kernel_rfl) ?_ _
      clear hHeld
      go_wp2_with fail
      go_meet
      case rel => exact ⟨_, _, rfl, HF, HBv4⟩
  case rest =>
    rename World => w3
    obtain ⟨A3, c3, rfl, HT3, HB3⟩ := hcut
    obtain ⟨N1, hN1⟩ : ∃ N1, N1 = T.length + 1 := ⟨_, rfl⟩
    rw [← hN1]
    have hl3 : (T ++ [n]).length = N1 := by rw [hN1, List.length_append, List.length_singleton]
    have hr3 : (T ++ [n]).reverse = n :: T.reverse := by rw [List.reverse_append]; rfl
    have HN1 := Lib.hid hN1
    have Hl3 := Lib.hid hl3
    have Hr3 := Lib.hid hr3
    clear hN1 hl3 hr3
    have hC := may_any A3 c3 (T ++ [n]) _ w3 HT3.out
    rw [Hl3.out] at hC
    have HC := Lib.hid hC
    clear hC
    go_wp2_with fail
    refine HC.out.mono ?_
    rintro e w4 ⟨rfl, hb4⟩
    have HB4 := Lib.hid (HB3.out.trans (hb4.mono HB3.out.size))
    have HT4 := Lib.hid (HT3.out.later hb4)
    clear hb4 HC HT3
    rcases hmay : mayB (T ++ [n]) with _ | _
    · rw [mayI_no hmay]
      go_wp2_with fail
      go_ret
      exact ⟨rfl, HB2.out.trans (HB4.out.mono HB2.out.size)⟩
    rw [mayI_yes hmay]
    obtain ⟨hmT, hT7⟩ := mayB_less hmay
    have hfine := (fine_of HT4.out hmay).rev
    rw [Hr3.out] at hfine
    have hf2 := (fine_of (HT2.out) hmT).rev
    have HMay := Lib.hid hmay
    have HMT := Lib.hid hmT
    have HF1 := Lib.hid hfine
    have HF2 := Lib.hid hf2
    clear hmay hmT hfine hf2
    by_cases hs100 : 100 < s.size
    · have g : (100 : Int) < (s.size : Int) := by omega
      go_wp2_with fail
      go_ret
      exact ⟨rfl, HB2.out.trans (HB4.out.mono HB2.out.size)⟩
    have g : ¬ (100 : Int) < (s.size : Int) := by omega
    have hC := stack_any A3 c3 (T ++ [n]) _ m w4 HT4.out (below_cell HM2.out HB4.out)
    rw [Hl3.out] at hC
    have HC := Lib.hid hC
    clear hC
    go_wp2_with fail
    refine HC.out.mono ?_
    rintro e w5 ⟨hst, hb5⟩
    rcases hst with ⟨_, A5, c5, L5, hE, hok5⟩ | ⟨hno, _⟩
    rotate_left 1
    · rw [HMay.out] at hno
      cases hno
    rw [Hl3.out] at hE
    subst hE
    obtain ⟨W6, hW6⟩ : ∃ W6, W6 = w5.alloc (.cells #[.slice A5 N1 c5, .int .i64 (N1 : Int)] 28) := ⟨_, rfl⟩
    have hb6 : Below w5.heap.size w5 W6 := by rw [hW6]; exact (Below.refl _ _).alloc (Nat.le_refl _) _
    have HK6 := Lib.hid (show W6.heap[w5.heap.size]? = some (.cells #[.slice A5 N1 c5, .int .i64 (N1 : Int)] 28 (0, 0)) by rw [hW6]; exact heap_alloc_new w5 _)
    have hs6 := StkOk.stkM (hok5.later hb6)
    rw [Hr3.out] at hs6
    have HS6 := Lib.hid hs6
    have HL5 := Lib.hid (hok5.len.trans Hl3.out)
    have HB6 := Lib.hid (HB4.out.trans ((hb5.trans (hb6.mono hb5.size)).mono HB4.out.size))
    have HW6 := Lib.hid hW6
    have HC2 := Lib.hid (stack_any A c T rs m W6 (HT2.out.later HB6.out) (below_cell HM2.out HB6.out))
    clear hb5 hok5 hb6 hs6 hW6 HC
    go_upto_region 7 with fail
    rw [← HW6.out]
    clear HW6
    go_wp2_with fail
    refine HC2.out.mono ?_
    rintro e w7 ⟨hst, hb7⟩
    rcases hst with ⟨_, A7, c7, L7, rfl, hok7⟩ | ⟨hno, _⟩
    rotate_left 1
    · rw [HMT.out] at hno
      cases hno
    obtain ⟨W8, hW8⟩ : ∃ W8, W8 = w7.alloc (.cells #[.slice A7 T.length c7, .int .i64 (T.length : Int)] 28) := ⟨_, rfl⟩
    have hb8 : Below w7.heap.size w7 W8 := by rw [hW8]; exact (Below.refl _ _).alloc (Nat.le_refl _) _
    have HK8 := Lib.hid (show W8.heap[w7.heap.size]? = some (.cells #[.slice A7 T.length c7, .int .i64 (T.length : Int)] 28 (0, 0)) by rw [hW8]; exact heap_alloc_new w7 _)
    have HS8 := Lib.hid (StkOk.stkM (hok7.later hb8))
    have HL7 := Lib.hid hok7.len
    have hb68 := hb7.trans (hb8.mono hb7.size)
    have HS68 := Lib.hid (HS6.out.later hb68)
    have HK68 := Lib.hid ((hb68.block _ (lt_of_some HK6.out)).trans HK6.out)
    have HB8 := Lib.hid (HB6.out.trans (hb68.mono HB6.out.size))
    have HX8 := Lib.hid (HX2.out.below HB8.out)
    have hF := reffind_any n r s W8 (HN2.out.later HB8.out)
    unfold ndV rawCells at hF
    have HFd := Lib.hid hF
    have HW8 := Lib.hid hW8
    clear hb7 hb8 hb68 hok7 hW8 HC2 hF HS6 HK6
    go_upto_region 8 with fail
    rw [← HW8.out]
    clear HW8
    obtain ⟨b0, b1, b2, b3, b4, b5, b6⟩ := HX8.out.cells
    go_wp2_with fail
    refine HFd.out.mono ?_
    rintro e w9 ⟨hp, hb9⟩
    obtain ⟨at_, rfl, hat⟩ : ∃ at_ : Int, e = .returned (.int .i64 at_) ∧ ((∃ j : Nat, at_ = (j : Int) ∧ n.N[j]? = some s) ∨ (at_ = -1 ∧ ∀ j : Nat, n.N[j]? ≠ some s)) := by
      rcases hp with ⟨j, h1, h2⟩ | ⟨h1, h2⟩
      · exact ⟨_, h1, .inl ⟨j, rfl, h2⟩⟩
      · exact ⟨_, h1, .inr ⟨rfl, h2⟩⟩
    have HB9 := Lib.hid (HB8.out.trans (hb9.mono HB8.out.size))
    have HS9 := Lib.hid (HS68.out.later hb9)
    have HK9 := Lib.hid ((hb9.block _ (lt_of_some HK68.out)).trans HK68.out)
    have HT9 := Lib.hid (HS8.out.later hb9)
    have HQ9 := Lib.hid ((hb9.block _ (lt_of_some HK8.out)).trans HK8.out)
    have HX9 := Lib.hid (HX8.out.below hb9)
    have HAt := Lib.hid hat
    clear hp hb9 hat HFd b0 b1 b2 b3 b4 b5 b6 HS68 HK68 HS8 HK8 HX8
    have J1_1 : Hid (∀ w' : World, Below w9.heap.size w9 w' → Calls Tryd.prog 15 #[.agg #[.slice A5 (N1) c5, .int .i64 ((N1 : Nat) : Int)]] w' fun e w'' => (∃ Ap cp, e = .returned (.slice Ap (rootP (tabs (n :: T.reverse))).length cp) ∧ Plc w'' w''.heap.size Ap (rootP (tabs (n :: T.reverse)))) ∧ Below w'.heap.size w' w'') := Lib.hid fun w' hb => by
      have h1 := rooted_any (R := n :: T.reverse) HF1.out A5 c5 ((N1 : Nat) : Int) L5 w' (HS9.out.later hb) (by rw [HL5.out]; have := HN1.out; omega)
      rw [HL5.out] at h1
      exact h1
    have J2_1 : Hid (∀ (w' : World) (Ap : Option Addr) (cp : Nat), Below w9.heap.size w9 w' → Plc w' w'.heap.size Ap (rootP (tabs (n :: T.reverse))) → Calls Tryd.prog 19 #[.agg #[.slice A5 (N1) c5, .int .i64 ((N1 : Nat) : Int)], .slice Ap (rootP (tabs (n :: T.reverse))).length cp, .string s] w' fun e w'' => (∃ k l i Af nf cf b, Hits (n :: T.reverse) s k l i nf b ∧ e = .returned (.tuple #[.agg #[.int .i64 k, .int .i64 l, .int .i64 i, .slice Af nf cf], .bool b])) ∧ Below w'.heap.size w' w'') := Lib.hid fun w' Ap cp hb hp => by
      have h1 := looked_root (R := n :: T.reverse) HF1.out A5 c5 ((N1 : Nat) : Int) L5 Ap cp s w' (HS9.out.later hb) (by rw [HL5.out]; have := HN1.out; omega) hp
      rw [HL5.out] at h1
      exact h1
    have HSS_1 : Hid (∀ w' : World, Below w9.heap.size w9 w' → ((w'.cell? ⟨w5.heap.size, 0, none⟩ = some (.slice A5 N1 c5) ∧ w'.cell? ⟨w5.heap.size, 1, none⟩ = some (.int .i64 (N1 : Int)) ∧ Below w9.heap.size w9 w'))) := Lib.hid fun w' hb' => by
      have e2 := (hb'.block _ (lt_of_some HK9.out)).trans HK9.out
      exact ⟨cell_of_blk e2 0, cell_of_blk e2 1, hb'⟩
    go_upto_region 11 with fail
    go_cut [13, 14] from 53 to 60 (fun v vb wx => ∃ (gf : Nat) (k l i : Int) (Af : Option Addr) (nf cf : Nat) (b : Bool), v = .pointer (some ⟨gf, 0, none⟩) ∧ vb = .bool b ∧ Hid (Hits (n :: T.reverse) s k l i nf b) ∧ Hid (wx.heap[gf]? = some (.cells #[.int .i64 k, .int .i64 l, .int .i64 i, .slice Af nf cf] 44 (0, 0))) ∧ Hid (Below w9.heap.size w9 wx))
    case first =>
      obtain ⟨V, hV⟩ : ∃ V, V = World.drew w9 := ⟨_, rfl⟩
      have HBV := Lib.hid (show Below w9.heap.size w9 V by rw [hV]; exact (Below.refl _ _).drew)
      refine wp_region_held_drew (S := fun w' => (w'.cell? ⟨w5.heap.size, 0, none⟩ = some (.slice A5 N1 c5) ∧ w'.cell? ⟨w5.heap.size, 1, none⟩ = some (.int .i64 (N1 : Int)) ∧ Below w9.heap.size w9 w')) (by kernel_rfl) (by rw [← hV]; exact HSS_1.out _ HBV.out) (fun hHeld => ?_)
      rw [← hV] at hHeld ⊢
      clear hV
      refine wpAnyH_take (i := 0) (oi := ⟨some 54, _, _, _, _, _⟩) (v := ?_) rfl (by kernel_rfl) (by kernel_rfl) (by kernel_rfl) (fun _ _ _ h => h) (Or.inl ⟨by kernel_rfl, ?_⟩) (by assumption) ?_
      rotate_left 1
      focus (intro w' hSw; (try dsimp only at hSw); go_simp; (try with_reducible rfl))
      try simp only [Act.put, List.setIfInBounds_toArray, List.set_cons_zero, List.set_cons_succ]
      refine wpAnyH_take (i := 1) (oi := ⟨some 55, _, _, _, _, _⟩) (v := ?_) rfl (by kernel_rfl) (by kernel_rfl) (by kernel_rfl) (fun _ _ _ h => h) (Or.inl ⟨by kernel_rfl, ?_⟩) (by assumption) ?_
      rotate_left 1
      focus (intro w' hSw; (try dsimp only at hSw); go_simp; (try with_reducible rfl))
      try simp only [Act.put, List.setIfInBounds_toArray, List.set_cons_zero, List.set_cons_succ]
      refine wpAnyH_take (i := 3) (oi := ⟨some 57, _, _, _, _, _⟩) (v := ?_) rfl (by kernel_rfl) (by kernel_rfl) (by kernel_rfl) (fun _ _ _ h => h) (Or.inl ⟨by kernel_rfl, ?_⟩) (by assumption) ?_
      rotate_left 1
      focus (intro w' hSw; (try dsimp only at hSw); go_simp; (try with_reducible rfl))
      try simp only [Act.put, List.setIfInBounds_toArray, List.set_cons_zero, List.set_cons_succ]
      refine wpAnyH_ready (rs := [2, 8]) (by kernel_rfl) (by simp) ?_
      refine AllReadyH.cons rfl (fun K hK => ?_) (AllReadyH.cons rfl (fun K hK => ?_) AllReadyH.nil)
      · skip
        go_simp
        go_at_call 15
        refine (J1_1.out _ HBV.out).mono ?_
        rintro en v1 ⟨⟨Ap, cp, rfl, hp⟩, hv1⟩
        have HBv1 := Lib.hid (HBV.out.trans (hv1.mono (HBV.out).size))
        have HPv1 := Lib.hid hp
        clear hv1 hp
        clear hHeld
        refine hK.out _ _ (HSS_1.out _ HBv1.out) (fun hHeld => ?_)
        clear hK
        try simp only [Act.put, List.setIfInBounds_toArray, List.set_cons_zero, List.set_cons_succ]
        refine wpAnyH_ready (rs := [4, 8]) (by kernel_rfl) (by simp) ?_
        refine AllReadyH.cons rfl (fun K hK => ?_) (AllReadyH.cons rfl (fun K hK => ?_) AllReadyH.nil)
        · skip
          go_simp
          go_at_call 19
          refine (J2_1.out _ Ap cp HBv1.out HPv1.out).mono ?_
          rintro en v2 ⟨⟨k, l, i, Af, nf, cf, b, hh, rfl⟩, hv2⟩
          have HBv2 := Lib.hid (HBv1.out.trans (hv2.mono (HBv1.out).size))
          have HH := Lib.hid hh
          clear hv2 hh
          clear hHeld
          refine hK.out _ _ (HSS_1.out _ HBv2.out) (fun hHeld => ?_)
          clear hK
          try simp only [Act.put, List.setIfInBounds_toArray, List.set_cons_zero, List.set_cons_succ]
          refine wpAnyH_take (i := 5) (oi := ⟨some 53, _, _, _, _, _⟩) (v := ?_) rfl (by kernel_rfl) (by kernel_rfl) (by kernel_rfl) (fun _ _ _ h => h) (Or.inl ⟨by kernel_rfl, ?_⟩) (by assumption) ?_
          rotate_left 1
          focus (intro w' hSw; (try dsimp only at hSw); go_simp; (try with_reducible rfl))
          try simp only [Act.put, List.setIfInBounds_toArray, List.set_cons_zero, List.set_cons_succ]
          refine wpAnyH_take (i := 6) (oi := ⟨some 59, _, _, _, _, _⟩) (v := ?_) rfl (by kernel_rfl) (by kernel_rfl) (by kernel_rfl) (fun _ _ _ h => h) (Or.inl ⟨by kernel_rfl, ?_⟩) (by assumption) ?_
          rotate_left 1
          focus (intro w' hSw; (try dsimp only at hSw); go_simp; (try with_reducible rfl))
          try simp only [Act.put, List.setIfInBounds_toArray, List.set_cons_zero, List.set_cons_succ]
          refine wpAnyH_take (i := 7) (oi := ⟨some 60, _, _, _, _, _⟩) (v := ?_) rfl (by kernel_rfl) (by kernel_rfl) (by kernel_rfl) (fun _ _ _ h => h) (Or.inl ⟨by kernel_rfl, ?_⟩) (by assumption) ?_
          rotate_left 1
          focus (intro w' hSw; (try dsimp only at hSw); go_simp; (try with_reducible rfl))
          try simp only [Act.put, List.setIfInBounds_toArray, List.set_cons_zero, List.set_cons_succ]
          refine wpAnyH_ready (rs := [8]) (by kernel_rfl) (by simp) ?_
          refine AllReadyH.cons rfl (fun K hK => ?_) AllReadyH.nil
          obtain ⟨v3, hv3⟩ : ∃ v3, v3 = World.alloc v2 (.cells #[.int .i64 0, .int .i64 0, .int .i64 0, .slice none 0 0] 44) := ⟨_, rfl⟩
          have hxv3 : Below (World.heap v2).size v2 v3 := by rw [hv3]; exact (Below.refl _ _).alloc (Nat.le_refl _) _
          have HBv3 := Lib.hid (HBv2.out.trans (hxv3.mono (HBv2.out).size))
          have HGv3 := Lib.hid (show v3.heap[(World.heap v2).size]? = some (.cells #[.int .i64 0, .int .i64 0, .int .i64 0, .slice none 0 0] 44 (0, 0)) by rw [hv3]; exact heap_alloc_new v2 _)
          go_simp
          rw [← hv3]
          clear hv3 hxv3
          clear hHeld
          refine hK.out _ _ (HSS_1.out _ HBv3.out) (fun hHeld => ?_)
          clear hK
          try simp only [Act.put, List.setIfInBounds_toArray, List.set_cons_zero, List.set_cons_succ]
          refine wpAnyH_ready (rs := [9]) (by kernel_rfl) (by simp) ?_
          refine AllReadyH.cons rfl (fun K hK => ?_) AllReadyH.nil
          have c0 := cell_of_blk HGv3.out 0
          have c1 := cell_of_blk HGv3.out 1
          have c2 := cell_of_blk HGv3.out 2
          have c3 := cell_of_blk HGv3.out 3
          have z0 := free_of_blk HGv3.out 0
          have z1 := free_of_blk HGv3.out 1
          have z2 := free_of_blk HGv3.out 2
          have z3 := free_of_blk HGv3.out 3
          obtain ⟨v4, hv4⟩ : ∃ v4, v4 = (((World.setCell v3 ⟨(World.heap v2).size, 0, none⟩ (.int .i64 k)).setCell ⟨(World.heap v2).size, 1, none⟩ (.int .i64 l)).setCell ⟨(World.heap v2).size, 2, none⟩ (.int .i64 i)).setCell ⟨(World.heap v2).size, 3, none⟩ (.slice Af nf cf) := ⟨_, rfl⟩
          have hyv4 := over4 (u0 := .int .i64 k) (u1 := .int .i64 l) (u2 := .int .i64 i) (u3 := .slice Af nf cf) HGv3.out
          rw [← hv4] at hyv4
          have HGv4 := Lib.hid hyv4
          have hle : w9.heap.size ≤ (World.heap v2).size := HBv2.out.size
          have HBv4 : Hid (Below w9.heap.size w9 v4) := Lib.hid (by rw [hv4]; exact (((HBv3.out.setCell (p := ⟨(World.heap v2).size, 0, none⟩) hle _).setCell (p := ⟨(World.heap v2).size, 1, none⟩) hle _).setCell (p := ⟨(World.heap v2).size, 2, none⟩) hle _).setCell (p := ⟨(World.heap v2).size, 3, none⟩) hle _)
          go_simp
          rw [← hv4]
          clear hv4 hyv4 hle c0 c1 c2 c3 z0 z1 z2 z3
          clear hHeld
          refine hK.out _ _ (HSS_1.out _ HBv4.out) (fun hHeld => ?_)
          clear hK
          try simp only [Act.put, List.setIfInBounds_toArray, List.set_cons_zero, List.set_cons_succ]
          refine wpAnyH_take (i := 10) (oi := ⟨some 14, _, _, _, _, _⟩) (v := ?_) rfl (by kernel_rfl) (by kernel_rfl) (by kernel_rfl) (fun _ _ _ h => h) (Or.inl ⟨by kernel_rfl, ?_⟩) (by assumption) ?_
          rotate_left 1
          focus (intro w' hSw; (try dsimp only at hSw); go_simp; (try with_reducible rfl))
          try simp only [Act.put, List.setIfInBounds_toArray, List.set_cons_zero, List.set_cons_succ]
          refine wpAnyH_done (by kernel_rfl) ?_ _
          clear hHeld
          go_wp2_with fail
          go_meet
          case rel => exact ⟨_, k, l, i, Af, nf, cf, b, rfl, rfl, HH, HGv4, HBv4⟩
        · skip
          obtain ⟨v2, hv2⟩ : ∃ v2, v2 = World.alloc v1 (.cells #[.int .i64 0, .int .i64 0, .int .i64 0, .slice none 0 0] 44) := ⟨_, rfl⟩
          have hxv2 : Below (World.heap v1).size v1 v2 := by rw [hv2]; exact (Below.refl _ _).alloc (Nat.le_refl _) _
          have HBv2 := Lib.hid (HBv1.out.trans (hxv2.mono (HBv1.out).size))
          have HGv2 := Lib.hid (show v2.heap[(World.heap v1).size]? = some (.cells #[.int .i64 0, .int .i64 0, .int .i64 0, .slice none 0 0] 44 (0, 0)) by rw [hv2]; exact heap_alloc_new v1 _)
          have HPv2 := Lib.hid ((HPv1.out.keep hxv2).more hxv2.size)
          go_simp
          rw [← hv2]
          clear hv2 hxv2
          clear hHeld
          refine hK.out _ _ (HSS_1.out _ HBv2.out) (fun hHeld => ?_)
          clear hK
          try simp only [Act.put, List.setIfInBounds_toArray, List.set_cons_zero, List.set_cons_succ]
          refine wpAnyH_ready (rs := [4]) (by kernel_rfl) (by simp) ?_
          refine AllReadyH.cons rfl (fun K hK => ?_) AllReadyH.nil
          go_simp
          go_at_call 19
          refine (J2_1.out _ Ap cp HBv2.out HPv2.out).mono ?_
          rintro en v3 ⟨⟨k, l, i, Af, nf, cf, b, hh, rfl⟩, hv3⟩
          have HBv3 := Lib.hid (HBv2.out.trans (hv3.mono (HBv2.out).size))
          have HH := Lib.hid hh
          have HGv3 := Lib.hid ((hv3.block _ (lt_of_some HGv2.out)).trans HGv2.out)
          clear hv3 hh
          clear hHeld
          refine hK.out _ _ (HSS_1.out _ HBv3.out) (fun hHeld => ?_)
          clear hK
          try simp only [Act.put, List.setIfInBounds_toArray, List.set_cons_zero, List.set_cons_succ]
          refine wpAnyH_take (i := 5) (oi := ⟨some 53, _, _, _, _, _⟩) (v := ?_) rfl (by kernel_rfl) (by kernel_rfl) (by kernel_rfl) (fun _ _ _ h => h) (Or.inl ⟨by kernel_rfl, ?_⟩) (by assumption) ?_
          rotate_left 1
          focus (intro w' hSw; (try dsimp only at hSw); go_simp; (try with_reducible rfl))
          try simp only [Act.put, List.setIfInBounds_toArray, List.set_cons_zero, List.set_cons_succ]
          refine wpAnyH_take (i := 6) (oi := ⟨some 59, _, _, _, _, _⟩) (v := ?_) rfl (by kernel_rfl) (by kernel_rfl) (by kernel_rfl) (fun _ _ _ h => h) (Or.inl ⟨by kernel_rfl, ?_⟩) (by assumption) ?_
          rotate_left 1
          focus (intro w' hSw; (try dsimp only at hSw); go_simp; (try with_reducible rfl))
          try simp only [Act.put, List.setIfInBounds_toArray, List.set_cons_zero, List.set_cons_succ]
          refine wpAnyH_take (i := 7) (oi := ⟨some 60, _, _, _, _, _⟩) (v := ?_) rfl (by kernel_rfl) (by kernel_rfl) (by kernel_rfl) (fun _ _ _ h => h) (Or.inl ⟨by kernel_rfl, ?_⟩) (by assumption) ?_
          rotate_left 1
          focus (intro w' hSw; (try dsimp only at hSw); go_simp; (try with_reducible rfl))
          try simp only [Act.put, List.setIfInBounds_toArray, List.set_cons_zero, List.set_cons_succ]
          refine wpAnyH_ready (rs := [9]) (by kernel_rfl) (by simp) ?_
          refine AllReadyH.cons rfl (fun K hK => ?_) AllReadyH.nil
          have c0 := cell_of_blk HGv3.out 0
          have c1 := cell_of_blk HGv3.out 1
          have c2 := cell_of_blk HGv3.out 2
          have c3 := cell_of_blk HGv3.out 3
          have z0 := free_of_blk HGv3.out 0
          have z1 := free_of_blk HGv3.out 1
          have z2 := free_of_blk HGv3.out 2
          have z3 := free_of_blk HGv3.out 3
          obtain ⟨v4, hv4⟩ : ∃ v4, v4 = (((World.setCell v3 ⟨(World.heap v1).size, 0, none⟩ (.int .i64 k)).setCell ⟨(World.heap v1).size, 1, none⟩ (.int .i64 l)).setCell ⟨(World.heap v1).size, 2, none⟩ (.int .i64 i)).setCell ⟨(World.heap v1).size, 3, none⟩ (.slice Af nf cf) := ⟨_, rfl⟩
          have hyv4 := over4 (u0 := .int .i64 k) (u1 := .int .i64 l) (u2 := .int .i64 i) (u3 := .slice Af nf cf) HGv3.out
          rw [← hv4] at hyv4
          have HGv4 := Lib.hid hyv4
          have hle : w9.heap.size ≤ (World.heap v1).size := HBv1.out.size
          have HBv4 : Hid (Below w9.heap.size w9 v4) := Lib.hid (by rw [hv4]; exact (((HBv3.out.setCell (p := ⟨(World.heap v1).size, 0, none⟩) hle _).setCell (p := ⟨(World.heap v1).size, 1, none⟩) hle _).setCell (p := ⟨(World.heap v1).size, 2, none⟩) hle _).setCell (p := ⟨(World.heap v1).size, 3, none⟩) hle _)
          go_simp
          rw [← hv4]
          clear hv4 hyv4 hle c0 c1 c2 c3 z0 z1 z2 z3
          clear hHeld
          refine hK.out _ _ (HSS_1.out _ HBv4.out) (fun hHeld => ?_)
          clear hK
          try simp only [Act.put, List.setIfInBounds_toArray, List.set_cons_zero, List.set_cons_succ]
          refine wpAnyH_take (i := 10) (oi := ⟨some 14, _, _, _, _, _⟩) (v := ?_) rfl (by kernel_rfl) (by kernel_rfl) (by kernel_rfl) (fun _ _ _ h => h) (Or.inl ⟨by kernel_rfl, ?_⟩) (by assumption) ?_
          rotate_left 1
          focus (intro w' hSw; (try dsimp only at hSw); go_simp; (try with_reducible rfl))
          try simp only [Act.put, List.setIfInBounds_toArray, List.set_cons_zero, List.set_cons_succ]
          refine wpAnyH_done (by kernel_rfl) ?_ _
          clear hHeld
          go_wp2_with fail
          go_meet
          case rel => exact ⟨_, k, l, i, Af, nf, cf, b, rfl, rfl, HH, HGv4, HBv4⟩
      · skip
        obtain ⟨v1, hv1⟩ : ∃ v1, v1 = World.alloc V (.cells #[.int .i64 0, .int .i64 0, .int .i64 0, .slice none 0 0] 44) := ⟨_, rfl⟩
        have hxv1 : Below (World.heap V).size V v1 := by rw [hv1]; exact (Below.refl _ _).alloc (Nat.le_refl _) _
        have HBv1 := Lib.hid (HBV.out.trans (hxv1.mono (HBV.out).size))
        have HGv1 := Lib.hid (show v1.heap[(World.heap V).size]? = some (.cells #[.int .i64 0, .int .i64 0, .int .i64 0, .slice none 0 0] 44 (0, 0)) by rw [hv1]; exact heap_alloc_new V _)
        go_simp
        rw [← hv1]
        clear hv1 hxv1
        clear hHeld
        refine hK.out _ _ (HSS_1.out _ HBv1.out) (fun hHeld => ?_)
        clear hK
        try simp only [Act.put, List.setIfInBounds_toArray, List.set_cons_zero, List.set_cons_succ]
        refine wpAnyH_ready (rs := [2]) (by kernel_rfl) (by simp) ?_
        refine AllReadyH.cons rfl (fun K hK => ?_) AllReadyH.nil
        go_simp
        go_at_call 15
        refine (J1_1.out _ HBv1.out).mono ?_
        rintro en v2 ⟨⟨Ap, cp, rfl, hp⟩, hv2⟩
        have HBv2 := Lib.hid (HBv1.out.trans (hv2.mono (HBv1.out).size))
        have HPv2 := Lib.hid hp
        have HGv2 := Lib.hid ((hv2.block _ (lt_of_some HGv1.out)).trans HGv1.out)
        clear hv2 hp
        clear hHeld
        refine hK.out _ _ (HSS_1.out _ HBv2.out) (fun hHeld => ?_)
        clear hK
        try simp only [Act.put, List.setIfInBounds_toArray, List.set_cons_zero, List.set_cons_succ]
        refine wpAnyH_ready (rs := [4]) (by kernel_rfl) (by simp) ?_
        refine AllReadyH.cons rfl (fun K hK => ?_) AllReadyH.nil
        go_simp
        go_at_call 19
        refine (J2_1.out _ Ap cp HBv2.out HPv2.out).mono ?_
        rintro en v3 ⟨⟨k, l, i, Af, nf, cf, b, hh, rfl⟩, hv3⟩
        have HBv3 := Lib.hid (HBv2.out.trans (hv3.mono (HBv2.out).size))
        have HH := Lib.hid hh
        have HGv3 := Lib.hid ((hv3.block _ (lt_of_some HGv2.out)).trans HGv2.out)
        clear hv3 hh
        clear hHeld
        refine hK.out _ _ (HSS_1.out _ HBv3.out) (fun hHeld => ?_)
        clear hK
        try simp only [Act.put, List.setIfInBounds_toArray, List.set_cons_zero, List.set_cons_succ]
        refine wpAnyH_take (i := 5) (oi := ⟨some 53, _, _, _, _, _⟩) (v := ?_) rfl (by kernel_rfl) (by kernel_rfl) (by kernel_rfl) (fun _ _ _ h => h) (Or.inl ⟨by kernel_rfl, ?_⟩) (by assumption) ?_
        rotate_left 1
        focus (intro w' hSw; (try dsimp only at hSw); go_simp; (try with_reducible rfl))
        try simp only [Act.put, List.setIfInBounds_toArray, List.set_cons_zero, List.set_cons_succ]
        refine wpAnyH_take (i := 6) (oi := ⟨some 59, _, _, _, _, _⟩) (v := ?_) rfl (by kernel_rfl) (by kernel_rfl) (by kernel_rfl) (fun _ _ _ h => h) (Or.inl ⟨by kernel_rfl, ?_⟩) (by assumption) ?_
        rotate_left 1
        focus (intro w' hSw; (try dsimp only at hSw); go_simp; (try with_reducible rfl))
        try simp only [Act.put, List.setIfInBounds_toArray, List.set_cons_zero, List.set_cons_succ]
        refine wpAnyH_take (i := 7) (oi := ⟨some 60, _, _, _, _, _⟩) (v := ?_) rfl (by kernel_rfl) (by kernel_rfl) (by kernel_rfl) (fun _ _ _ h => h) (Or.inl ⟨by kernel_rfl, ?_⟩) (by assumption) ?_
        rotate_left 1
        focus (intro w' hSw; (try dsimp only at hSw); go_simp; (try with_reducible rfl))
        try simp only [Act.put, List.setIfInBounds_toArray, List.set_cons_zero, List.set_cons_succ]
        refine wpAnyH_ready (rs := [9]) (by kernel_rfl) (by simp) ?_
        refine AllReadyH.cons rfl (fun K hK => ?_) AllReadyH.nil
        have c0 := cell_of_blk HGv3.out 0
        have c1 := cell_of_blk HGv3.out 1
        have c2 := cell_of_blk HGv3.out 2
        have c3 := cell_of_blk HGv3.out 3
        have z0 := free_of_blk HGv3.out 0
        have z1 := free_of_blk HGv3.out 1
        have z2 := free_of_blk HGv3.out 2
        have z3 := free_of_blk HGv3.out 3
        obtain ⟨v4, hv4⟩ : ∃ v4, v4 = (((World.setCell v3 ⟨(World.heap V).size, 0, none⟩ (.int .i64 k)).setCell ⟨(World.heap V).size, 1, none⟩ (.int .i64 l)).setCell ⟨(World.heap V).size, 2, none⟩ (.int .i64 i)).setCell ⟨(World.heap V).size, 3, none⟩ (.slice Af nf cf) := ⟨_, rfl⟩
        have hyv4 := over4 (u0 := .int .i64 k) (u1 := .int .i64 l) (u2 := .int .i64 i) (u3 := .slice Af nf cf) HGv3.out
        rw [← hv4] at hyv4
        have HGv4 := Lib.hid hyv4
        have hle : w9.heap.size ≤ (World.heap V).size := HBV.out.size
        have HBv4 : Hid (Below w9.heap.size w9 v4) := Lib.hid (by rw [hv4]; exact (((HBv3.out.setCell (p := ⟨(World.heap V).size, 0, none⟩) hle _).setCell (p := ⟨(World.heap V).size, 1, none⟩) hle _).setCell (p := ⟨(World.heap V).size, 2, none⟩) hle _).setCell (p := ⟨(World.heap V).size, 3, none⟩) hle _)
        go_simp
        rw [← hv4]
        clear hv4 hyv4 hle c0 c1 c2 c3 z0 z1 z2 z3
        clear hHeld
        refine hK.out _ _ (HSS_1.out _ HBv4.out) (fun hHeld => ?_)
        clear hK
        try simp only [Act.put, List.setIfInBounds_toArray, List.set_cons_zero, List.set_cons_succ]
        refine wpAnyH_take (i := 10) (oi := ⟨some 14, _, _, _, _, _⟩) (v := ?_) rfl (by kernel_rfl) (by kernel_rfl) (by kernel_rfl) (fun _ _ _ h => h) (Or.inl ⟨by kernel_rfl, ?_⟩) (by assumption) ?_
        rotate_left 1
        focus (intro w' hSw; (try dsimp only at hSw); go_simp; (try with_reducible rfl))
        try simp only [Act.put, List.setIfInBounds_toArray, List.set_cons_zero, List.set_cons_succ]
        refine wpAnyH_done (by kernel_rfl) ?_ _
        clear hHeld
        go_wp2_with fail
        go_meet
        case rel => exact ⟨_, k, l, i, Af, nf, cf, b, rfl, rfl, HH, HGv4, HBv4⟩
    case rest =>
    rename World => w10
    obtain ⟨gf, k, l, i, Af, nf, cf, b, rfl, rfl, HH, HG, HB10⟩ := hcut
    have HT10 := Lib.hid (HT9.out.later HB10.out)
    have HQ10 := Lib.hid ((HB10.out.block _ (lt_of_some HQ9.out)).trans HQ9.out)
    have HX10 := Lib.hid (HX9.out.below HB10.out)
    clear HT9 HQ9 HX9 J1_1 J2_1 HSS_1 HS9 HK9
    have J1_2 : Hid (∀ w' : World, Below w10.heap.size w10 w' → Calls Tryd.prog 15 #[.agg #[.slice A7 (T.length) c7, .int .i64 ((T.length : Nat) : Int)]] w' fun e w'' => (∃ Ap cp, e = .returned (.slice Ap (rootP (tabs (T.reverse))).length cp) ∧ Plc w'' w''.heap.size Ap (rootP (tabs (T.reverse)))) ∧ Below w'.heap.size w' w'') := Lib.hid fun w' hb => by
      have h1 := rooted_any (R := T.reverse) HF2.out A7 c7 ((T.length : Nat) : Int) L7 w' (HT10.out.later hb) (by rw [HL7.out]; have := HN1.out; omega)
      rw [HL7.out] at h1
      exact h1
    have J2_2 : Hid (∀ (w' : World) (Ap : Option Addr) (cp : Nat), Below w10.heap.size w10 w' → Plc w' w'.heap.size Ap (rootP (tabs (T.reverse))) → Calls Tryd.prog 19 #[.agg #[.slice A7 (T.length) c7, .int .i64 ((T.length : Nat) : Int)], .slice Ap (rootP (tabs (T.reverse))).length cp, .string s] w' fun e w'' => (∃ k l i Af nf cf b, Hits (T.reverse) s k l i nf b ∧ e = .returned (.tuple #[.agg #[.int .i64 k, .int .i64 l, .int .i64 i, .slice Af nf cf], .bool b])) ∧ Below w'.heap.size w' w'') := Lib.hid fun w' Ap cp hb hp => by
      have h1 := looked_root (R := T.reverse) HF2.out A7 c7 ((T.length : Nat) : Int) L7 Ap cp s w' (HT10.out.later hb) (by rw [HL7.out]; have := HN1.out; omega) hp
      rw [HL7.out] at h1
      exact h1
    have HSS_2 : Hid (∀ w' : World, Below w10.heap.size w10 w' → ((w'.cell? ⟨w7.heap.size, 0, none⟩ = some (.slice A7 T.length c7) ∧ w'.cell? ⟨w7.heap.size, 1, none⟩ = some (.int .i64 (T.length : Int)) ∧ Below w10.heap.size w10 w'))) := Lib.hid fun w' hb' => by
      have e2 := (hb'.block _ (lt_of_some HQ10.out)).trans HQ10.out
      exact ⟨cell_of_blk e2 0, cell_of_blk e2 1, hb'⟩
    go_upto_region 12 with fail
    go_cut [15, 16] from 61 to 68 (fun v vb wx => ∃ (gf : Nat) (k l i : Int) (Af : Option Addr) (nf cf : Nat) (b : Bool), v = .pointer (some ⟨gf, 0, none⟩) ∧ vb = .bool b ∧ Hid (Hits T.reverse s k l i nf b) ∧ Hid (wx.heap[gf]? = some (.cells #[.int .i64 k, .int .i64 l, .int .i64 i, .slice Af nf cf] 44 (0, 0))) ∧ Hid (Below w10.heap.size w10 wx))
    case first =>
      obtain ⟨V, hV⟩ : ∃ V, V = World.drew w10 := ⟨_, rfl⟩
      have HBV := Lib.hid (show Below w10.heap.size w10 V by rw [hV]; exact (Below.refl _ _).drew)
      refine wp_region_held_drew (S := fun w' => (w'.cell? ⟨w7.heap.size, 0, none⟩ = some (.slice A7 T.length c7) ∧ w'.cell? ⟨w7.heap.size, 1, none⟩ = some (.int .i64 (T.length : Int)) ∧ Below w10.heap.size w10 w')) (by kernel_rfl) (by rw [← hV]; exact HSS_2.out _ HBV.out) (fun hHeld => ?_)
      rw [← hV] at hHeld ⊢
      clear hV
      refine wpAnyH_take (i := 0) (oi := ⟨some 62, _, _, _, _, _⟩) (v := ?_) rfl (by kernel_rfl) (by kernel_rfl) (by kernel_rfl) (fun _ _ _ h => h) (Or.inl ⟨by kernel_rfl, ?_⟩) (by assumption) ?_
      rotate_left 1
      focus (intro w' hSw; (try dsimp only at hSw); go_simp; (try with_reducible rfl))
      try simp only [Act.put, List.setIfInBounds_toArray, List.set_cons_zero, List.set_cons_succ]
      refine wpAnyH_take (i := 1) (oi := ⟨some 63, _, _, _, _, _⟩) (v := ?_) rfl (by kernel_rfl) (by kernel_rfl) (by kernel_rfl) (fun _ _ _ h => h) (Or.inl ⟨by kernel_rfl, ?_⟩) (by assumption) ?_
      rotate_left 1
      focus (intro w' hSw; (try dsimp only at hSw); go_simp; (try with_reducible rfl))
      try simp only [Act.put, List.setIfInBounds_toArray, List.set_cons_zero, List.set_cons_succ]
      refine wpAnyH_take (i := 3) (oi := ⟨some 65, _, _, _, _, _⟩) (v := ?_) rfl (by kernel_rfl) (by kernel_rfl) (by kernel_rfl) (fun _ _ _ h => h) (Or.inl ⟨by kernel_rfl, ?_⟩) (by assumption) ?_
      rotate_left 1
      focus (intro w' hSw; (try dsimp only at hSw); go_simp; (try with_reducible rfl))
      try simp only [Act.put, List.setIfInBounds_toArray, List.set_cons_zero, List.set_cons_succ]
      refine wpAnyH_ready (rs := [2, 8]) (by kernel_rfl) (by simp) ?_
      refine AllReadyH.cons rfl (fun K hK => ?_) (AllReadyH.cons rfl (fun K hK => ?_) AllReadyH.nil)
      · skip
        go_simp
        go_at_call 15
        refine (J1_2.out _ HBV.out).mono ?_
        rintro en v1 ⟨⟨Ap, cp, rfl, hp⟩, hv1⟩
        have HBv1 := Lib.hid (HBV.out.trans (hv1.mono (HBV.out).size))
        have HPv1 := Lib.hid hp
        clear hv1 hp
        clear hHeld
        refine hK.out _ _ (HSS_2.out _ HBv1.out) (fun hHeld => ?_)
        clear hK
        try simp only [Act.put, List.setIfInBounds_toArray, List.set_cons_zero, List.set_cons_succ]
        refine wpAnyH_ready (rs := [4, 8]) (by kernel_rfl) (by simp) ?_
        refine AllReadyH.cons rfl (fun K hK => ?_) (AllReadyH.cons rfl (fun K hK => ?_) AllReadyH.nil)
        · skip
          go_simp
          go_at_call 19
          refine (J2_2.out _ Ap cp HBv1.out HPv1.out).mono ?_
          rintro en v2 ⟨⟨k, l, i, Af, nf, cf, b, hh, rfl⟩, hv2⟩
          have HBv2 := Lib.hid (HBv1.out.trans (hv2.mono (HBv1.out).size))
          have HH := Lib.hid hh
          clear hv2 hh
          clear hHeld
          refine hK.out _ _ (HSS_2.out _ HBv2.out) (fun hHeld => ?_)
          clear hK
          try simp only [Act.put, List.setIfInBounds_toArray, List.set_cons_zero, List.set_cons_succ]
          refine wpAnyH_take (i := 5) (oi := ⟨some 61, _, _, _, _, _⟩) (v := ?_) rfl (by kernel_rfl) (by kernel_rfl) (by kernel_rfl) (fun _ _ _ h => h) (Or.inl ⟨by kernel_rfl, ?_⟩) (by assumption) ?_
          rotate_left 1
          focus (intro w' hSw; (try dsimp only at hSw); go_simp; (try with_reducible rfl))
          try simp only [Act.put, List.setIfInBounds_toArray, List.set_cons_zero, List.set_cons_succ]
          refine wpAnyH_take (i := 6) (oi := ⟨some 67, _, _, _, _, _⟩) (v := ?_) rfl (by kernel_rfl) (by kernel_rfl) (by kernel_rfl) (fun _ _ _ h => h) (Or.inl ⟨by kernel_rfl, ?_⟩) (by assumption) ?_
          rotate_left 1
          focus (intro w' hSw; (try dsimp only at hSw); go_simp; (try with_reducible rfl))
          try simp only [Act.put, List.setIfInBounds_toArray, List.set_cons_zero, List.set_cons_succ]
          refine wpAnyH_take (i := 7) (oi := ⟨some 68, _, _, _, _, _⟩) (v := ?_) rfl (by kernel_rfl) (by kernel_rfl) (by kernel_rfl) (fun _ _ _ h => h) (Or.inl ⟨by kernel_rfl, ?_⟩) (by assumption) ?_
          rotate_left 1
          focus (intro w' hSw; (try dsimp only at hSw); go_simp; (try with_reducible rfl))
          try simp only [Act.put, List.setIfInBounds_toArray, List.set_cons_zero, List.set_cons_succ]
          refine wpAnyH_ready (rs := [8]) (by kernel_rfl) (by simp) ?_
          refine AllReadyH.cons rfl (fun K hK => ?_) AllReadyH.nil
          obtain ⟨v3, hv3⟩ : ∃ v3, v3 = World.alloc v2 (.cells #[.int .i64 0, .int .i64 0, .int .i64 0, .slice none 0 0] 44) := ⟨_, rfl⟩
          have hxv3 : Below (World.heap v2).size v2 v3 := by rw [hv3]; exact (Below.refl _ _).alloc (Nat.le_refl _) _
          have HBv3 := Lib.hid (HBv2.out.trans (hxv3.mono (HBv2.out).size))
          have HGv3 := Lib.hid (show v3.heap[(World.heap v2).size]? = some (.cells #[.int .i64 0, .int .i64 0, .int .i64 0, .slice none 0 0] 44 (0, 0)) by rw [hv3]; exact heap_alloc_new v2 _)
          go_simp
          rw [← hv3]
          clear hv3 hxv3
          clear hHeld
          refine hK.out _ _ (HSS_2.out _ HBv3.out) (fun hHeld => ?_)
          clear hK
          try simp only [Act.put, List.setIfInBounds_toArray, List.set_cons_zero, List.set_cons_succ]
          refine wpAnyH_ready (rs := [9]) (by kernel_rfl) (by simp) ?_
          refine AllReadyH.cons rfl (fun K hK => ?_) AllReadyH.nil
          have c0 := cell_of_blk HGv3.out 0
          have c1 := cell_of_blk HGv3.out 1
          have c2 := cell_of_blk HGv3.out 2
          have c3 := cell_of_blk HGv3.out 3
          have z0 := free_of_blk HGv3.out 0
          have z1 := free_of_blk HGv3.out 1
          have z2 := free_of_blk HGv3.out 2
          have z3 := free_of_blk HGv3.out 3
          obtain ⟨v4, hv4⟩ : ∃ v4, v4 = (((World.setCell v3 ⟨(World.heap v2).size, 0, none⟩ (.int .i64 k)).setCell ⟨(World.heap v2).size, 1, none⟩ (.int .i64 l)).setCell ⟨(World.heap v2).size, 2, none⟩ (.int .i64 i)).setCell ⟨(World.heap v2).size, 3, none⟩ (.slice Af nf cf) := ⟨_, rfl⟩
          have hyv4 := over4 (u0 := .int .i64 k) (u1 := .int .i64 l) (u2 := .int .i64 i) (u3 := .slice Af nf cf) HGv3.out
          rw [← hv4] at hyv4
          have HGv4 := Lib.hid hyv4
          have hle : w10.heap.size ≤ (World.heap v2).size := HBv2.out.size
          have HBv4 : Hid (Below w10.heap.size w10 v4) := Lib.hid (by rw [hv4]; exact (((HBv3.out.setCell (p := ⟨(World.heap v2).size, 0, none⟩) hle _).setCell (p := ⟨(World.heap v2).size, 1, none⟩) hle _).setCell (p := ⟨(World.heap v2).size, 2, none⟩) hle _).setCell (p := ⟨(World.heap v2).size, 3, none⟩) hle _)
          go_simp
          rw [← hv4]
          clear hv4 hyv4 hle c0 c1 c2 c3 z0 z1 z2 z3
          clear hHeld
          refine hK.out _ _ (HSS_2.out _ HBv4.out) (fun hHeld => ?_)
          clear hK
          try simp only [Act.put, List.setIfInBounds_toArray, List.set_cons_zero, List.set_cons_succ]
          refine wpAnyH_take (i := 10) (oi := ⟨some 16, _, _, _, _, _⟩) (v := ?_) rfl (by kernel_rfl) (by kernel_rfl) (by kernel_rfl) (fun _ _ _ h => h) (Or.inl ⟨by kernel_rfl, ?_⟩) (by assumption) ?_
          rotate_left 1
          focus (intro w' hSw; (try dsimp only at hSw); go_simp; (try with_reducible rfl))
          try simp only [Act.put, List.setIfInBounds_toArray, List.set_cons_zero, List.set_cons_succ]
          refine wpAnyH_done (by kernel_rfl) ?_ _
          clear hHeld
          go_wp2_with fail
          go_meet
          case rel => exact ⟨_, k, l, i, Af, nf, cf, b, rfl, rfl, HH, HGv4, HBv4⟩
        · skip
          obtain ⟨v2, hv2⟩ : ∃ v2, v2 = World.alloc v1 (.cells #[.int .i64 0, .int .i64 0, .int .i64 0, .slice none 0 0] 44) := ⟨_, rfl⟩
          have hxv2 : Below (World.heap v1).size v1 v2 := by rw [hv2]; exact (Below.refl _ _).alloc (Nat.le_refl _) _
          have HBv2 := Lib.hid (HBv1.out.trans (hxv2.mono (HBv1.out).size))
          have HGv2 := Lib.hid (show v2.heap[(World.heap v1).size]? = some (.cells #[.int .i64 0, .int .i64 0, .int .i64 0, .slice none 0 0] 44 (0, 0)) by rw [hv2]; exact heap_alloc_new v1 _)
          have HPv2 := Lib.hid ((HPv1.out.keep hxv2).more hxv2.size)
          go_simp
          rw [← hv2]
          clear hv2 hxv2
          clear hHeld
          refine hK.out _ _ (HSS_2.out _ HBv2.out) (fun hHeld => ?_)
          clear hK
          try simp only [Act.put, List.setIfInBounds_toArray, List.set_cons_zero, List.set_cons_succ]
          refine wpAnyH_ready (rs := [4]) (by kernel_rfl) (by simp) ?_
          refine AllReadyH.cons rfl (fun K hK => ?_) AllReadyH.nil
          go_simp
          go_at_call 19
          refine (J2_2.out _ Ap cp HBv2.out HPv2.out).mono ?_
          rintro en v3 ⟨⟨k, l, i, Af, nf, cf, b, hh, rfl⟩, hv3⟩
          have HBv3 := Lib.hid (HBv2.out.trans (hv3.mono (HBv2.out).size))
          have HH := Lib.hid hh
          have HGv3 := Lib.hid ((hv3.block _ (lt_of_some HGv2.out)).trans HGv2.out)
          clear hv3 hh
          clear hHeld
          refine hK.out _ _ (HSS_2.out _ HBv3.out) (fun hHeld => ?_)
          clear hK
          try simp only [Act.put, List.setIfInBounds_toArray, List.set_cons_zero, List.set_cons_succ]
          refine wpAnyH_take (i := 5) (oi := ⟨some 61, _, _, _, _, _⟩) (v := ?_) rfl (by kernel_rfl) (by kernel_rfl) (by kernel_rfl) (fun _ _ _ h => h) (Or.inl ⟨by kernel_rfl, ?_⟩) (by assumption) ?_
          rotate_left 1
          focus (intro w' hSw; (try dsimp only at hSw); go_simp; (try with_reducible rfl))
          try simp only [Act.put, List.setIfInBounds_toArray, List.set_cons_zero, List.set_cons_succ]
          refine wpAnyH_take (i := 6) (oi := ⟨some 67, _, _, _, _, _⟩) (v := ?_) rfl (by kernel_rfl) (by kernel_rfl) (by kernel_rfl) (fun _ _ _ h => h) (Or.inl ⟨by kernel_rfl, ?_⟩) (by assumption) ?_
          rotate_left 1
          focus (intro w' hSw; (try dsimp only at hSw); go_simp; (try with_reducible rfl))
          try simp only [Act.put, List.setIfInBounds_toArray, List.set_cons_zero, List.set_cons_succ]
          refine wpAnyH_take (i := 7) (oi := ⟨some 68, _, _, _, _, _⟩) (v := ?_) rfl (by kernel_rfl) (by kernel_rfl) (by kernel_rfl) (fun _ _ _ h => h) (Or.inl ⟨by kernel_rfl, ?_⟩) (by assumption) ?_
          rotate_left 1
          focus (intro w' hSw; (try dsimp only at hSw); go_simp; (try with_reducible rfl))
          try simp only [Act.put, List.setIfInBounds_toArray, List.set_cons_zero, List.set_cons_succ]
          refine wpAnyH_ready (rs := [9]) (by kernel_rfl) (by simp) ?_
          refine AllReadyH.cons rfl (fun K hK => ?_) AllReadyH.nil
          have c0 := cell_of_blk HGv3.out 0
          have c1 := cell_of_blk HGv3.out 1
          have c2 := cell_of_blk HGv3.out 2
          have c3 := cell_of_blk HGv3.out 3
          have z0 := free_of_blk HGv3.out 0
          have z1 := free_of_blk HGv3.out 1
          have z2 := free_of_blk HGv3.out 2
          have z3 := free_of_blk HGv3.out 3
          obtain ⟨v4, hv4⟩ : ∃ v4, v4 = (((World.setCell v3 ⟨(World.heap v1).size, 0, none⟩ (.int .i64 k)).setCell ⟨(World.heap v1).size, 1, none⟩ (.int .i64 l)).setCell ⟨(World.heap v1).size, 2, none⟩ (.int .i64 i)).setCell ⟨(World.heap v1).size, 3, none⟩ (.slice Af nf cf) := ⟨_, rfl⟩
          have hyv4 := over4 (u0 := .int .i64 k) (u1 := .int .i64 l) (u2 := .int .i64 i) (u3 := .slice Af nf cf) HGv3.out
          rw [← hv4] at hyv4
          have HGv4 := Lib.hid hyv4
          have hle : w10.heap.size ≤ (World.heap v1).size := HBv1.out.size
          have HBv4 : Hid (Below w10.heap.size w10 v4) := Lib.hid (by rw [hv4]; exact (((HBv3.out.setCell (p := ⟨(World.heap v1).size, 0, none⟩) hle _).setCell (p := ⟨(World.heap v1).size, 1, none⟩) hle _).setCell (p := ⟨(World.heap v1).size, 2, none⟩) hle _).setCell (p := ⟨(World.heap v1).size, 3, none⟩) hle _)
          go_simp
          rw [← hv4]
          clear hv4 hyv4 hle c0 c1 c2 c3 z0 z1 z2 z3
          clear hHeld
          refine hK.out _ _ (HSS_2.out _ HBv4.out) (fun hHeld => ?_)
          clear hK
          try simp only [Act.put, List.setIfInBounds_toArray, List.set_cons_zero, List.set_cons_succ]
          refine wpAnyH_take (i := 10) (oi := ⟨some 16, _, _, _, _, _⟩) (v := ?_) rfl (by kernel_rfl) (by kernel_rfl) (by kernel_rfl) (fun _ _ _ h => h) (Or.inl ⟨by kernel_rfl, ?_⟩) (by assumption) ?_
          rotate_left 1
          focus (intro w' hSw; (try dsimp only at hSw); go_simp; (try with_reducible rfl))
          try simp only [Act.put, List.setIfInBounds_toArray, List.set_cons_zero, List.set_cons_succ]
          refine wpAnyH_done (by kernel_rfl) ?_ _
          clear hHeld
          go_wp2_with fail
          go_meet
          case rel => exact ⟨_, k, l, i, Af, nf, cf, b, rfl, rfl, HH, HGv4, HBv4⟩
      · skip
        obtain ⟨v1, hv1⟩ : ∃ v1, v1 = World.alloc V (.cells #[.int .i64 0, .int .i64 0, .int .i64 0, .slice none 0 0] 44) := ⟨_, rfl⟩
        have hxv1 : Below (World.heap V).size V v1 := by rw [hv1]; exact (Below.refl _ _).alloc (Nat.le_refl _) _
        have HBv1 := Lib.hid (HBV.out.trans (hxv1.mono (HBV.out).size))
        have HGv1 := Lib.hid (show v1.heap[(World.heap V).size]? = some (.cells #[.int .i64 0, .int .i64 0, .int .i64 0, .slice none 0 0] 44 (0, 0)) by rw [hv1]; exact heap_alloc_new V _)
        go_simp
        rw [← hv1]
        clear hv1 hxv1
        clear hHeld
        refine hK.out _ _ (HSS_2.out _ HBv1.out) (fun hHeld => ?_)
        clear hK
        try simp only [Act.put, List.setIfInBounds_toArray, List.set_cons_zero, List.set_cons_succ]
        refine wpAnyH_ready (rs := [2]) (by kernel_rfl) (by simp) ?_
        refine AllReadyH.cons rfl (fun K hK => ?_) AllReadyH.nil
        go_simp
        go_at_call 15
        refine (J1_2.out _ HBv1.out).mono ?_
        rintro en v2 ⟨⟨Ap, cp, rfl, hp⟩, hv2⟩
        have HBv2 := Lib.hid (HBv1.out.trans (hv2.mono (HBv1.out).size))
        have HPv2 := Lib.hid hp
        have HGv2 := Lib.hid ((hv2.block _ (lt_of_some HGv1.out)).trans HGv1.out)
        clear hv2 hp
        clear hHeld
        refine hK.out _ _ (HSS_2.out _ HBv2.out) (fun hHeld => ?_)
        clear hK
        try simp only [Act.put, List.setIfInBounds_toArray, List.set_cons_zero, List.set_cons_succ]
        refine wpAnyH_ready (rs := [4]) (by kernel_rfl) (by simp) ?_
        refine AllReadyH.cons rfl (fun K hK => ?_) AllReadyH.nil
        go_simp
        go_at_call 19
        refine (J2_2.out _ Ap cp HBv2.out HPv2.out).mono ?_
        rintro en v3 ⟨⟨k, l, i, Af, nf, cf, b, hh, rfl⟩, hv3⟩
        have HBv3 := Lib.hid (HBv2.out.trans (hv3.mono (HBv2.out).size))
        have HH := Lib.hid hh
        have HGv3 := Lib.hid ((hv3.block _ (lt_of_some HGv2.out)).trans HGv2.out)
        clear hv3 hh
        clear hHeld
        refine hK.out _ _ (HSS_2.out _ HBv3.out) (fun hHeld => ?_)
        clear hK
        try simp only [Act.put, List.setIfInBounds_toArray, List.set_cons_zero, List.set_cons_succ]
        refine wpAnyH_take (i := 5) (oi := ⟨some 61, _, _, _, _, _⟩) (v := ?_) rfl (by kernel_rfl) (by kernel_rfl) (by kernel_rfl) (fun _ _ _ h => h) (Or.inl ⟨by kernel_rfl, ?_⟩) (by assumption) ?_
        rotate_left 1
        focus (intro w' hSw; (try dsimp only at hSw); go_simp; (try with_reducible rfl))
        try simp only [Act.put, List.setIfInBounds_toArray, List.set_cons_zero, List.set_cons_succ]
        refine wpAnyH_take (i := 6) (oi := ⟨some 67, _, _, _, _, _⟩) (v := ?_) rfl (by kernel_rfl) (by kernel_rfl) (by kernel_rfl) (fun _ _ _ h => h) (Or.inl ⟨by kernel_rfl, ?_⟩) (by assumption) ?_
        rotate_left 1
        focus (intro w' hSw; (try dsimp only at hSw); go_simp; (try with_reducible rfl))
        try simp only [Act.put, List.setIfInBounds_toArray, List.set_cons_zero, List.set_cons_succ]
        refine wpAnyH_take (i := 7) (oi := ⟨some 68, _, _, _, _, _⟩) (v := ?_) rfl (by kernel_rfl) (by kernel_rfl) (by kernel_rfl) (fun _ _ _ h => h) (Or.inl ⟨by kernel_rfl, ?_⟩) (by assumption) ?_
        rotate_left 1
        focus (intro w' hSw; (try dsimp only at hSw); go_simp; (try with_reducible rfl))
        try simp only [Act.put, List.setIfInBounds_toArray, List.set_cons_zero, List.set_cons_succ]
        refine wpAnyH_ready (rs := [9]) (by kernel_rfl) (by simp) ?_
        refine AllReadyH.cons rfl (fun K hK => ?_) AllReadyH.nil
        have c0 := cell_of_blk HGv3.out 0
        have c1 := cell_of_blk HGv3.out 1
        have c2 := cell_of_blk HGv3.out 2
        have c3 := cell_of_blk HGv3.out 3
        have z0 := free_of_blk HGv3.out 0
        have z1 := free_of_blk HGv3.out 1
        have z2 := free_of_blk HGv3.out 2
        have z3 := free_of_blk HGv3.out 3
        obtain ⟨v4, hv4⟩ : ∃ v4, v4 = (((World.setCell v3 ⟨(World.heap V).size, 0, none⟩ (.int .i64 k)).setCell ⟨(World.heap V).size, 1, none⟩ (.int .i64 l)).setCell ⟨(World.heap V).size, 2, none⟩ (.int .i64 i)).setCell ⟨(World.heap V).size, 3, none⟩ (.slice Af nf cf) := ⟨_, rfl⟩
        have hyv4 := over4 (u0 := .int .i64 k) (u1 := .int .i64 l) (u2 := .int .i64 i) (u3 := .slice Af nf cf) HGv3.out
        rw [← hv4] at hyv4
        have HGv4 := Lib.hid hyv4
        have hle : w10.heap.size ≤ (World.heap V).size := HBV.out.size
        have HBv4 : Hid (Below w10.heap.size w10 v4) := Lib.hid (by rw [hv4]; exact (((HBv3.out.setCell (p := ⟨(World.heap V).size, 0, none⟩) hle _).setCell (p := ⟨(World.heap V).size, 1, none⟩) hle _).setCell (p := ⟨(World.heap V).size, 2, none⟩) hle _).setCell (p := ⟨(World.heap V).size, 3, none⟩) hle _)
        go_simp
        rw [← hv4]
        clear hv4 hyv4 hle c0 c1 c2 c3 z0 z1 z2 z3
        clear hHeld
        refine hK.out _ _ (HSS_2.out _ HBv4.out) (fun hHeld => ?_)
        clear hK
        try simp only [Act.put, List.setIfInBounds_toArray, List.set_cons_zero, List.set_cons_succ]
        refine wpAnyH_take (i := 10) (oi := ⟨some 16, _, _, _, _, _⟩) (v := ?_) rfl (by kernel_rfl) (by kernel_rfl) (by kernel_rfl) (fun _ _ _ h => h) (Or.inl ⟨by kernel_rfl, ?_⟩) (by assumption) ?_
        rotate_left 1
        focus (intro w' hSw; (try dsimp only at hSw); go_simp; (try with_reducible rfl))
        try simp only [Act.put, List.setIfInBounds_toArray, List.set_cons_zero, List.set_cons_succ]
        refine wpAnyH_done (by kernel_rfl) ?_ _
        clear hHeld
        go_wp2_with fail
        go_meet
        case rel => exact ⟨_, k, l, i, Af, nf, cf, b, rfl, rfl, HH, HGv4, HBv4⟩
    case rest =>
    rename World => w11
    obtain ⟨gg, k2, l2, i2, Ag, ng, cg, b2, rfl, rfl, HH2, HG2, HB11⟩ := hcut
    have HX11 := Lib.hid (HX10.out.below HB11.out)
    have HG1 := Lib.hid ((HB11.out.block _ (lt_of_some HG.out)).trans HG.out)
    have HBx := Lib.hid (HB10.out.trans (HB11.out.mono HB10.out.size))
    have HBf := Lib.hid (HB9.out.trans (HBx.out.mono HB9.out.size))
    have HBe := Lib.hid (HB2.out.trans (HBf.out.mono HB2.out.size))
    clear HT10 HQ10 HX10 J1_2 J2_2 HSS_2 HG
    have f0 := cell_of_blk HG1.out 0
    have f1 : w11.cell? ⟨gf, 0 + 1, none⟩ = _ := cell_of_blk HG1.out 1
    have f2 : w11.cell? ⟨gf, 0 + 1 + 1, none⟩ = _ := cell_of_blk HG1.out 2
    have f3 := cell_of_blk HG1.out 3
    have q0 := cell_of_blk HG2.out 0
    have q1 : w11.cell? ⟨gg, 0 + 1, none⟩ = _ := cell_of_blk HG2.out 1
    have q2 : w11.cell? ⟨gg, 0 + 1 + 1, none⟩ = _ := cell_of_blk HG2.out 2
    have q3 := cell_of_blk HG2.out 3
    obtain ⟨b0, b1, b2', b3, b4, b5, b6⟩ := HX11.out.cells
    have hbd := hits_bound HH2.out
    rw [List.length_reverse] at hbd
    have hnd := hits_bound HH.out
    rw [List.length_cons, List.length_reverse] at hnd
    rcases HAt.out with ⟨j, rfl, hj⟩ | ⟨rfl, hno⟩
    · have hasc := HF1.out.asc n (List.mem_cons_self ..)
      have hjl : j < n.I.length := by rw [← hasc.2]; exact (List.getElem?_eq_some_iff.1 hj).1
      obtain ⟨y, hy⟩ : ∃ y, n.I[j]? = some y := ⟨_, List.getElem?_eq_getElem hjl⟩
      obtain ⟨t4, tn4⟩ := hit_some hasc.1 HF2.out hj hy HH.out HH2.out
      obtain ⟨r', _, bi, oi, hAi, _, e0, e1, _⟩ := (HN2.out.later HBf.out).entry hy (Below.refl _ _)
      have hoy := allB_one ((preN_in n y (List.mem_of_getElem? (preN_kid (k := 0) (by rw [preN_eq]; rfl) hy))).2.2 (HF1.out.all n (List.mem_cons_self ..)))
      have hky := kind_of hoy
      rw [hAi] at b3
      have j0 : (0 : Int) ≤ (j : Int) := by omega
      have j1 : (j : Int) < (n.I.length : Int) := by omega
      have jn : ¬ ((j : Int) < 0) := by omega
      clear hy hj hasc hoy hAi
      rcases hky with hk | hk | hk | hk
      · rw [hk] at e0 tn4
        obtain ⟨rfl, rfl, rfl, hc, _⟩ := tn4 (by decide)
        have hc1 := hc (.inl (by decide))
        have gl : (nf : Int) ≤ 1 := by omega
        clear t4 tn4 hc hk
        go_upto_region 20 with fail
        go_quiet (fail)
        go_wp2_with fail
        go_ret
        exact ⟨rfl, ext.below_drewN HBe.out _⟩
      · rw [hk] at e0 tn4
        obtain ⟨rfl, rfl, rfl, hc, hd⟩ := tn4 (by decide)
        clear t4 tn4 hk
        rcases hyo : y.O with _ | _
        · rw [hyo] at e1 hc hd
          rcases hno : n.O with _ | _
          · rw [hno] at b1 hd hc
            have hcc := hd rfl rfl rfl
            clear hc hd hyo hno
            rcases b2 with _ | _
            · rw [if_neg (fun h => by cases h.1)] at hcc
              subst hcc
              go_wp2_with fail
              go_ret
              exact ⟨rfl, HBe.out⟩
            · by_cases hk2 : k2 = 2
              · rw [if_pos ⟨rfl, hk2⟩] at hcc
                subst hcc hk2
                have gw : IntKind.i64.wrap (1 + (ng : Int)) = ((1 + ng : Nat) : Int) := by rw [IntWalk.i64_in _ (by omega)]; omega
                go_wp2_with fail
                go_ret
                exact ⟨rfl, HBe.out⟩
              · rw [if_neg (fun h => hk2 h.2)] at hcc
                subst hcc
                have gk : (k2 == 2) = false := by rw [beq_eq_false_iff_ne]; exact hk2
                go_wp2_with fail
                go_ret
                exact ⟨rfl, HBe.out⟩
          · rw [hno] at b1 hc
            have hc1 := hc (.inr (.inr rfl))
            have gl : (nf : Int) ≤ 1 := by omega
            clear hc hd hyo hno
            go_upto_region 20 with fail
            go_quiet (fail)
            go_wp2_with fail
            go_ret
            exact ⟨rfl, ext.below_drewN HBe.out _⟩
        · rw [hyo] at e1 hc
          have hc1 := hc (.inr (.inl rfl))
          have gl : (nf : Int) ≤ 1 := by omega
          clear hc hd hyo
          go_upto_region 20 with fail
          go_quiet (fail)
          go_wp2_with fail
          go_ret
          exact ⟨rfl, ext.below_drewN HBe.out _⟩
      · rw [hk] at e0 tn4
        obtain ⟨rfl, rfl, rfl, hc, _⟩ := tn4 (by decide)
        have hc1 := hc (.inl (by decide))
        have gl : (nf : Int) ≤ 1 := by omega
        clear t4 tn4 hc hk
        go_upto_region 20 with fail
        go_quiet (fail)
        go_wp2_with fail
        go_ret
        exact ⟨rfl, ext.below_drewN HBe.out _⟩
      · rw [hk] at e0
        obtain rfl := t4 hk
        clear t4 tn4 hk
        go_wp2_with fail
        go_ret
        exact ⟨rfl, HBe.out⟩
    · obtain ⟨tO, tN⟩ := hit_none HF2.out hno HH.out HH2.out
      rcases hO : n.O with _ | _
      · rw [hO] at b1
        obtain ⟨rfl, rfl, rfl, hb⟩ := tN hO
        rcases b with _ | _
        · clear hb tO tN hO
          go_wp2_with fail
          go_ret
          exact ⟨rfl, HBe.out⟩
        · obtain ⟨rfl, rfl⟩ := hb rfl
          have gw : IntKind.i64.wrap (l2 + 1) = l2 + 1 := by rw [IntWalk.i64_in _ (by omega)]
          clear hb tO tN hO
          go_wp2_with fail
          go_ret
          exact ⟨rfl, HBe.out⟩
      · rw [hO] at b1
        obtain rfl := tO hO
        clear tO tN hO
        go_wp2_with fail
        go_ret
        exact ⟨rfl, HBe.out⟩
end Go.Proofs.YtmmpceodhadipaaDoor.seen
