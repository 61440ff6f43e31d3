/- What the law TreeRight answers: true. Conditions: the node is one that was read; the library's MaxLen holds a number. -/
import Derived.Test.YtecgepjdlpjiiaaDoorTreSpeaks
import Derived.Test.YtecgepjdlpjiiaaDoorTreRSame
namespace Go.Proofs.YtecgepjdlpjiiaaDoor.tre
open Go.RowKit Go.Proofs.YtecgepjdlpjiiaaDoor.words Go.Proofs.YtecgepjdlpjiiaaDoor.ext Go.Proofs.YtecgepjdlpjiiaaDoor.name

/-- A node's box, and all that was. -/
def Sees (w' W1 : World) (g : Nat) (n : Nd) (r : Raw) : Prop :=
  w'.cell? ⟨g, 0, none⟩ = some (.int .i64 n.K) ∧ w'.cell? ⟨g, 1, none⟩ = some (.bool n.O) ∧ w'.cell? ⟨g, 2, none⟩ = some (.slice r.An n.N.length r.cn) ∧
    w'.cell? ⟨g, 3, none⟩ = some (.slice r.Ai n.I.length r.ci) ∧ w'.cell? ⟨g, 4, none⟩ = some (.int .i64 n.S) ∧ w'.cell? ⟨g, 5, none⟩ = some (.slice r.Ae n.E.length r.ce) ∧ w'.cell? ⟨g, 6, none⟩ = some (.string n.T) ∧ Below W1.heap.size W1 w'
theorem Box.sees {w' W1 : World} {g : Nat} {n : Nd} {r : Raw} (h : Box W1 g n r) (hb : Below W1.heap.size W1 w') : Sees w' W1 g n r := by
  obtain ⟨b0, b1, b2, b3, b4, b5, b6⟩ := (h.below hb).cells
  exact ⟨b0, b1, b2, b3, b4, b5, b6, hb⟩
theorem small_is (c : Int) (n : Nd) (r : Raw) (w : World) (hN : NdAt w w.heap.size n r) (hc : (if smallB n = true then 1 else 0 : Int) = c) :
    Calls Tryd.prog 8 #[ndV n r] w fun e w' => e = .returned (.int .i64 c) ∧ Below w.heap.size w w' :=
  (small_node n r w hN).mono fun _ _ ⟨he, hw⟩ => ⟨by rw [he, hc], hw⟩

set_option maxRecDepth 100000 in
set_option maxHeartbeats 6400000 in
theorem law_right (n : Nd) (r : Raw) (m : Int) (w : World) (hN : NdAt w w.heap.size n r) (hm : w.cell? ⟨0, 0, none⟩ = some (.int .i64 m)) :
    Calls Tryd.prog 3 #[ndV n r] w fun e w' => e = .returned (.bool true) ∧ Below w.heap.size w w' := by
  obtain ⟨W1, hW1⟩ : ∃ W1, W1 = w.alloc (.cells (rawCells n r) 26) := ⟨_, rfl⟩
  have hb1 : Below w.heap.size w W1 := by rw [hW1]; exact (Below.refl _ _).alloc (Nat.le_refl _) _
  have hX1 : Box W1 w.heap.size n r := by rw [hW1]; exact Box.new w n r
  have HB1 := Lib.hid hb1
  have HX1 := Lib.hid hX1
  have HN1 := Lib.hid (hN.later hb1)
  have HM1 := Lib.hid (below_cell hm hb1)
  unfold rawCells at hW1
  have HW1 := Lib.hid hW1
  clear hN hm hb1 hX1 hW1
  unfold ndV rawCells
  go_enter Tryd.func3, Tryd.ntmps3
  go_upto_region 1 with fail
  rw [← HW1.out]
  go_wp2_with fail
  refine (speaks_any m W1 HM1.out).mono ?_
  rintro e w2 ⟨rfl, hb2⟩
  have HB2 := Lib.hid (HB1.out.trans (hb2.mono HB1.out.size))
  have HX2 := Lib.hid (HX1.out.below hb2)
  have HN2 := Lib.hid (HN1.out.later hb2)
  have HM2 := Lib.hid (below_cell HM1.out hb2)
  clear hb2 HB1 HX1 HN1 HM1 HW1
  go_upto_region 3 with fail
  rcases hs : smallB n with _ | _
  · have HSm := Lib.hid (show (if smallB n = true then 1 else 0 : Int) = 0 by rw [hs]; rfl)
    have HS : Hid (∀ w' : World, Below w2.heap.size w2 w' → (w'.cell? ⟨w.heap.size, 0, none⟩ = some (.int .i64 n.K) ∧ w'.cell? ⟨w.heap.size, 1, none⟩ = some (.bool n.O) ∧ w'.cell? ⟨w.heap.size, 2, none⟩ = some (.slice r.An n.N.length r.cn) ∧ w'.cell? ⟨w.heap.size, 3, none⟩ = some (.slice r.Ai n.I.length r.ci) ∧ w'.cell? ⟨w.heap.size, 4, none⟩ = some (.int .i64 n.S) ∧ w'.cell? ⟨w.heap.size, 5, none⟩ = some (.slice r.Ae n.E.length r.ce) ∧ w'.cell? ⟨w.heap.size, 6, none⟩ = some (.string n.T) ∧ Below w2.heap.size w2 w')) := Lib.hid fun w' hb => HX2.out.sees hb
    have H1 : Hid (∀ w' : World, Below w2.heap.size w2 w' → Calls Tryd.prog 8 #[.agg #[.int .i64 n.K, .bool n.O, .slice r.An n.N.length r.cn, .slice r.Ai n.I.length r.ci, .int .i64 n.S, .slice r.Ae n.E.length r.ce, .string n.T]] w' fun e w'' => e = .returned (.int .i64 0) ∧ Below w2.heap.size w2 w'') :=
      Lib.hid fun w' hb => (small_is 0 n r w' (HN2.out.later hb) HSm.out).mono fun _ _ ⟨he, hw⟩ => ⟨he, hb.trans (hw.mono hb.size)⟩
    have HSd := Lib.hid (HS.out _ (Below.refl w2.heap.size w2).drew)
    have H1d := Lib.hid (H1.out _ (Below.refl w2.heap.size w2).drew)
    clear hs HSm
    refine wp_region_held_drew (S := fun w' => w'.cell? ⟨w.heap.size, 0, none⟩ = some (.int .i64 n.K) ∧ w'.cell? ⟨w.heap.size, 1, none⟩ = some (.bool n.O) ∧ w'.cell? ⟨w.heap.size, 2, none⟩ = some (.slice r.An n.N.length r.cn) ∧ w'.cell? ⟨w.heap.size, 3, none⟩ = some (.slice r.Ai n.I.length r.ci) ∧ w'.cell? ⟨w.heap.size, 4, none⟩ = some (.int .i64 n.S) ∧ w'.cell? ⟨w.heap.size, 5, none⟩ = some (.slice r.Ae n.E.length r.ce) ∧ w'.cell? ⟨w.heap.size, 6, none⟩ = some (.string n.T) ∧ Below w2.heap.size w2 w') (by kernel_rfl) HSd.out (fun hHeld => ?_)
    refine wpAnyH_take (i := 0) (oi := ⟨some 5, _, _, _, _, _⟩) (v := ?_) rfl (by kernel_rfl) (by kernel_rfl) (by kernel_rfl) (fun _ _ _ h => h) (Or.inl ⟨by kernel_rfl, ?_⟩) (by assumption) ?_
    rotate_left 1
    focus (intro w' hSw; (try dsimp only at hSw); go_simp; (try with_reducible rfl))
    try simp only [Act.put, List.setIfInBounds_toArray, List.set_cons_zero, List.set_cons_succ]
    refine wpAnyH_ready (rs := [1]) (by kernel_rfl) (by simp) ?_
    refine AllReadyH.cons rfl (fun K hK => ?_) AllReadyH.nil
    go_simp
    go_at_call 8
    refine H1d.out.mono ?_
    rintro e w' ⟨rfl, hb'⟩
    refine hK.out _ _ (HS.out _ hb') (fun hHeld => ?_)
    clear hK
    try simp only [Act.put, List.setIfInBounds_toArray, List.set_cons_zero, List.set_cons_succ]
    refine wpAnyH_take (i := 2) (oi := ⟨some 7, _, _, _, _, _⟩) (v := ?_) rfl (by kernel_rfl) (by kernel_rfl) (by kernel_rfl) (fun _ _ _ h => h) (Or.inl ⟨by kernel_rfl, ?_⟩) (by assumption) ?_
    rotate_left 1
    focus (intro w' hSw; (try dsimp only at hSw); go_simp; (try with_reducible rfl))
    try simp only [Act.put, List.setIfInBounds_toArray, List.set_cons_zero, List.set_cons_succ]
    refine wpAnyH_take (i := 3) (oi := ⟨some 8, _, _, _, _, _⟩) (v := ?_) rfl (by kernel_rfl) (by kernel_rfl) (by kernel_rfl) (fun _ _ _ h => h) (Or.inl ⟨by kernel_rfl, ?_⟩) (by assumption) ?_
    rotate_left 1
    focus (intro w' hSw; (try dsimp only at hSw); go_simp; (try with_reducible rfl))
    try simp only [Act.put, List.setIfInBounds_toArray, List.set_cons_zero, List.set_cons_succ]
    refine wpAnyH_take (i := 4) (oi := ⟨some 9, _, _, _, _, _⟩) (v := undef) rfl (by kernel_rfl) (by kernel_rfl) (by kernel_rfl) (fun _ _ _ h => h) (Or.inr ⟨by kernel_rfl, rfl⟩) (by assumption) ?_
    try simp only [Act.put, List.setIfInBounds_toArray, List.set_cons_zero, List.set_cons_succ]
    refine wpAnyH_take (i := 5) (oi := ⟨some 10, _, _, _, _, _⟩) (v := undef) rfl (by kernel_rfl) (by kernel_rfl) (by kernel_rfl) (fun _ _ _ h => h) (Or.inr ⟨by kernel_rfl, rfl⟩) (by assumption) ?_
    try simp only [Act.put, List.setIfInBounds_toArray, List.set_cons_zero, List.set_cons_succ]
    refine wpAnyH_take (i := 6) (oi := ⟨some 11, _, _, _, _, _⟩) (v := undef) rfl (by kernel_rfl) (by kernel_rfl) (by kernel_rfl) (fun _ _ _ h => h) (Or.inr ⟨by kernel_rfl, rfl⟩) (by assumption) ?_
    try simp only [Act.put, List.setIfInBounds_toArray, List.set_cons_zero, List.set_cons_succ]
    refine wpAnyH_take (i := 7) (oi := ⟨some 12, _, _, _, _, _⟩) (v := undef) rfl (by kernel_rfl) (by kernel_rfl) (by kernel_rfl) (fun _ _ _ h => h) (Or.inr ⟨by kernel_rfl, rfl⟩) (by assumption) ?_
    try simp only [Act.put, List.setIfInBounds_toArray, List.set_cons_zero, List.set_cons_succ]
    refine wpAnyH_take (i := 8) (oi := ⟨some 13, _, _, _, _, _⟩) (v := undef) rfl (by kernel_rfl) (by kernel_rfl) (by kernel_rfl) (fun _ _ _ h => h) (Or.inr ⟨by kernel_rfl, rfl⟩) (by assumption) ?_
    try simp only [Act.put, List.setIfInBounds_toArray, List.set_cons_zero, List.set_cons_succ]
    refine wpAnyH_take (i := 9) (oi := ⟨some 14, _, _, _, _, _⟩) (v := undef) rfl (by kernel_rfl) (by kernel_rfl) (by kernel_rfl) (fun _ _ _ h => h) (Or.inr ⟨by kernel_rfl, rfl⟩) (by assumption) ?_
    try simp only [Act.put, List.setIfInBounds_toArray, List.set_cons_zero, List.set_cons_succ]
    refine wpAnyH_take (i := 10) (oi := ⟨some 15, _, _, _, _, _⟩) (v := undef) rfl (by kernel_rfl) (by kernel_rfl) (by kernel_rfl) (fun _ _ _ h => h) (Or.inr ⟨by kernel_rfl, rfl⟩) (by assumption) ?_
    try simp only [Act.put, List.setIfInBounds_toArray, List.set_cons_zero, List.set_cons_succ]
    refine wpAnyH_take (i := 11) (oi := ⟨some 16, _, _, _, _, _⟩) (v := undef) rfl (by kernel_rfl) (by kernel_rfl) (by kernel_rfl) (fun _ _ _ h => h) (Or.inr ⟨by kernel_rfl, rfl⟩) (by assumption) ?_
    try simp only [Act.put, List.setIfInBounds_toArray, List.set_cons_zero, List.set_cons_succ]
    refine wpAnyH_take (i := 12) (oi := ⟨some 17, _, _, _, _, _⟩) (v := undef) rfl (by kernel_rfl) (by kernel_rfl) (by kernel_rfl) (fun _ _ _ h => h) (Or.inr ⟨by kernel_rfl, rfl⟩) (by assumption) ?_
    try simp only [Act.put, List.setIfInBounds_toArray, List.set_cons_zero, List.set_cons_succ]
    refine wpAnyH_take (i := 13) (oi := ⟨some 18, _, _, _, _, _⟩) (v := undef) rfl (by kernel_rfl) (by kernel_rfl) (by kernel_rfl) (fun _ _ _ h => h) (Or.inr ⟨by kernel_rfl, rfl⟩) (by assumption) ?_
    try simp only [Act.put, List.setIfInBounds_toArray, List.set_cons_zero, List.set_cons_succ]
    refine wpAnyH_take (i := 14) (oi := ⟨some 19, _, _, _, _, _⟩) (v := undef) rfl (by kernel_rfl) (by kernel_rfl) (by kernel_rfl) (fun _ _ _ h => h) (Or.inr ⟨by kernel_rfl, rfl⟩) (by assumption) ?_
    try simp only [Act.put, List.setIfInBounds_toArray, List.set_cons_zero, List.set_cons_succ]
    refine wpAnyH_take (i := 15) (oi := ⟨some 20, _, _, _, _, _⟩) (v := undef) rfl (by kernel_rfl) (by kernel_rfl) (by kernel_rfl) (fun _ _ _ h => h) (Or.inr ⟨by kernel_rfl, rfl⟩) (by assumption) ?_
    try simp only [Act.put, List.setIfInBounds_toArray, List.set_cons_zero, List.set_cons_succ]
    refine wpAnyH_take (i := 16) (oi := ⟨some 21, _, _, _, _, _⟩) (v := ?_) rfl (by kernel_rfl) (by kernel_rfl) (by kernel_rfl) (fun _ _ _ h => h) (Or.inl ⟨by kernel_rfl, ?_⟩) (by assumption) ?_
    rotate_left 1
    focus (intro w' hSw; (try dsimp only at hSw); go_simp; (try with_reducible rfl))
    try simp only [Act.put, List.setIfInBounds_toArray, List.set_cons_zero, List.set_cons_succ]
    refine wpAnyH_take (i := 17) (oi := ⟨some 2, _, _, _, _, _⟩) (v := ?_) rfl (by kernel_rfl) (by kernel_rfl) (by kernel_rfl) (fun _ _ _ h => h) (Or.inl ⟨by kernel_rfl, ?_⟩) (by assumption) ?_
    rotate_left 1
    focus (intro w' hSw; (try dsimp only at hSw); go_simp; (try with_reducible rfl))
    try simp only [Act.put, List.setIfInBounds_toArray, List.set_cons_zero, List.set_cons_succ]
    refine wpAnyH_done (by kernel_rfl) ?_ _
    have HF := Lib.hid hb'
    clear hb'
    go_wp2_with fail
    go_ret
    exact ⟨rfl, HB2.out.trans (HF.out.mono HB2.out.size)⟩
  · have hd := smallB_depth hs
    have hT := HN2.out.tame
    obtain ⟨t, ht⟩ : ∃ t, t = treeB n := ⟨_, rfl⟩
    obtain ⟨c, hc⟩ : ∃ c, c = countC n := ⟨_, rfl⟩
    have htr : refB n = t := by rw [ht, tree_same hs hT]
    have hcr : wrap64 (count n : Int) = c := by rw [hc, countC_eq (by omega)]
    have HSm := Lib.hid (show (if smallB n = true then 1 else 0 : Int) = 1 by rw [hs]; rfl)
    have HS : Hid (∀ w' : World, Below w2.heap.size w2 w' → (w'.cell? ⟨w.heap.size, 0, none⟩ = some (.int .i64 n.K) ∧ w'.cell? ⟨w.heap.size, 1, none⟩ = some (.bool n.O) ∧ w'.cell? ⟨w.heap.size, 2, none⟩ = some (.slice r.An n.N.length r.cn) ∧ w'.cell? ⟨w.heap.size, 3, none⟩ = some (.slice r.Ai n.I.length r.ci) ∧ w'.cell? ⟨w.heap.size, 4, none⟩ = some (.int .i64 n.S) ∧ w'.cell? ⟨w.heap.size, 5, none⟩ = some (.slice r.Ae n.E.length r.ce) ∧ w'.cell? ⟨w.heap.size, 6, none⟩ = some (.string n.T) ∧ Below w2.heap.size w2 w')) := Lib.hid fun w' hb => HX2.out.sees hb
    have H1 : Hid (Calls Tryd.prog 8 #[.agg #[.int .i64 n.K, .bool n.O, .slice r.An n.N.length r.cn, .slice r.Ai n.I.length r.ci, .int .i64 n.S, .slice r.Ae n.E.length r.ce, .string n.T]] w2.drew fun e w'' => e = .returned (.int .i64 1) ∧ Below w2.heap.size w2 w'') :=
      Lib.hid ((small_is 1 n r w2.drew (HN2.out.later (Below.refl w2.heap.size w2).drew) HSm.out).mono fun _ _ ⟨he, hw⟩ => ⟨he, (Below.refl w2.heap.size w2).drew.trans (hw.mono (Nat.le_refl _))⟩)
    have H2 : Hid (∀ w' : World, Below w2.heap.size w2 w' → Calls Tryd.prog 9 #[.agg #[.int .i64 n.K, .bool n.O, .slice r.An n.N.length r.cn, .slice r.Ai n.I.length r.ci, .int .i64 n.S, .slice r.Ae n.E.length r.ce, .string n.T]] w' fun e w'' => e = .returned (.bool t) ∧ Below w2.heap.size w2 w'') :=
      Lib.hid fun w' hb => (treeright_any n r m w' (HN2.out.later hb) (below_cell HM2.out hb) (by omega)).mono fun _ _ ⟨he, hw⟩ => ⟨by rw [he, ht], hb.trans (hw.mono hb.size)⟩
    have H3 : Hid (∀ w' : World, Below w2.heap.size w2 w' → Calls Tryd.prog 10 #[.agg #[.int .i64 n.K, .bool n.O, .slice r.An n.N.length r.cn, .slice r.Ai n.I.length r.ci, .int .i64 n.S, .slice r.Ae n.E.length r.ce, .string n.T]] w' fun e w'' => e = .returned (.bool t) ∧ Below w2.heap.size w2 w'') :=
      Lib.hid fun w' hb => (refright_node n r w' (HN2.out.later hb) (by omega)).mono fun _ _ ⟨he, hw⟩ => ⟨by rw [he, htr], hb.trans (hw.mono hb.size)⟩
    have H4 : Hid (∀ w' : World, Below w2.heap.size w2 w' → Calls Tryd.prog 11 #[.agg #[.int .i64 n.K, .bool n.O, .slice r.An n.N.length r.cn, .slice r.Ai n.I.length r.ci, .int .i64 n.S, .slice r.Ae n.E.length r.ce, .string n.T]] w' fun e w'' => e = .returned (.int .i64 c) ∧ Below w2.heap.size w2 w'') :=
      Lib.hid fun w' hb => (treecount_any n r w' (HN2.out.later hb) (by omega)).mono fun _ _ ⟨he, hw⟩ => ⟨by rw [he, hc], hb.trans (hw.mono hb.size)⟩
    have H5 : Hid (∀ w' : World, Below w2.heap.size w2 w' → Calls Tryd.prog 12 #[.agg #[.int .i64 n.K, .bool n.O, .slice r.An n.N.length r.cn, .slice r.Ai n.I.length r.ci, .int .i64 n.S, .slice r.Ae n.E.length r.ce, .string n.T]] w' fun e w'' => e = .returned (.int .i64 c) ∧ Below w2.heap.size w2 w'') :=
      Lib.hid fun w' hb => (refcount_at w' (depth n + 1) n r w' (Nat.lt_succ_self _) (HN2.out.later hb) (Below.refl _ _)).mono fun _ _ ⟨he, hw⟩ => ⟨by rw [he, hcr], hb.trans (hw.mono hb.size)⟩
    have HSd := Lib.hid (HS.out _ (Below.refl w2.heap.size w2).drew)
    clear hs hd hT ht hc htr hcr HSm
    refine wp_region_held_drew (S := fun w' => w'.cell? ⟨w.heap.size, 0, none⟩ = some (.int .i64 n.K) ∧ w'.cell? ⟨w.heap.size, 1, none⟩ = some (.bool n.O) ∧ w'.cell? ⟨w.heap.size, 2, none⟩ = some (.slice r.An n.N.length r.cn) ∧ w'.cell? ⟨w.heap.size, 3, none⟩ = some (.slice r.Ai n.I.length r.ci) ∧ w'.cell? ⟨w.heap.size, 4, none⟩ = some (.int .i64 n.S) ∧ w'.cell? ⟨w.heap.size, 5, none⟩ = some (.slice r.Ae n.E.length r.ce) ∧ w'.cell? ⟨w.heap.size, 6, none⟩ = some (.string n.T) ∧ Below w2.heap.size w2 w') (by kernel_rfl) HSd.out (fun hHeld => ?_)
    refine wpAnyH_take (i := 0) (oi := ⟨some 5, _, _, _, _, _⟩) (v := ?_) rfl (by kernel_rfl) (by kernel_rfl) (by kernel_rfl) (fun _ _ _ h => h) (Or.inl ⟨by kernel_rfl, ?_⟩) (by assumption) ?_
    rotate_left 1
    focus (intro w' hSw; (try dsimp only at hSw); go_simp; (try with_reducible rfl))
    try simp only [Act.put, List.setIfInBounds_toArray, List.set_cons_zero, List.set_cons_succ]
    refine wpAnyH_ready (rs := [1]) (by kernel_rfl) (by simp) ?_
    refine AllReadyH.cons rfl (fun K hK => ?_) AllReadyH.nil
    go_simp
    go_at_call 8
    refine H1.out.mono ?_
    rintro e v1 ⟨rfl, hv1⟩
    refine hK.out _ _ (HS.out _ hv1) (fun hHeld => ?_)
    clear hK
    try simp only [Act.put, List.setIfInBounds_toArray, List.set_cons_zero, List.set_cons_succ]
    refine wpAnyH_take (i := 2) (oi := ⟨some 7, _, _, _, _, _⟩) (v := ?_) rfl (by kernel_rfl) (by kernel_rfl) (by kernel_rfl) (fun _ _ _ h => h) (Or.inl ⟨by kernel_rfl, ?_⟩) (by assumption) ?_
    rotate_left 1
    focus (intro w' hSw; (try dsimp only at hSw); go_simp; (try with_reducible rfl))
    try simp only [Act.put, List.setIfInBounds_toArray, List.set_cons_zero, List.set_cons_succ]
    refine wpAnyH_take (i := 3) (oi := ⟨some 8, _, _, _, _, _⟩) (v := ?_) rfl (by kernel_rfl) (by kernel_rfl) (by kernel_rfl) (fun _ _ _ h => h) (Or.inl ⟨by kernel_rfl, ?_⟩) (by assumption) ?_
    rotate_left 1
    focus (intro w' hSw; (try dsimp only at hSw); go_simp; (try with_reducible rfl))
    try simp only [Act.put, List.setIfInBounds_toArray, List.set_cons_zero, List.set_cons_succ]
    refine wpAnyH_take (i := 4) (oi := ⟨some 9, _, _, _, _, _⟩) (v := ?_) rfl (by kernel_rfl) (by kernel_rfl) (by kernel_rfl) (fun _ _ _ h => h) (Or.inl ⟨by kernel_rfl, ?_⟩) (by assumption) ?_
    rotate_left 1
    focus (intro w' hSw; (try dsimp only at hSw); go_simp; (try with_reducible rfl))
    try simp only [Act.put, List.setIfInBounds_toArray, List.set_cons_zero, List.set_cons_succ]
    refine wpAnyH_take (i := 6) (oi := ⟨some 11, _, _, _, _, _⟩) (v := ?_) rfl (by kernel_rfl) (by kernel_rfl) (by kernel_rfl) (fun _ _ _ h => h) (Or.inl ⟨by kernel_rfl, ?_⟩) (by assumption) ?_
    rotate_left 1
    focus (intro w' hSw; (try dsimp only at hSw); go_simp; (try with_reducible rfl))
    try simp only [Act.put, List.setIfInBounds_toArray, List.set_cons_zero, List.set_cons_succ]
    refine wpAnyH_ready (rs := [5]) (by kernel_rfl) (by simp) ?_
    refine AllReadyH.cons rfl (fun K hK => ?_) AllReadyH.nil
    go_simp
    go_at_call 9
    refine (H2.out _ hv1).mono ?_
    rintro e v2 ⟨rfl, hv2⟩
    refine hK.out _ _ (HS.out _ hv2) (fun hHeld => ?_)
    clear hK
    try simp only [Act.put, List.setIfInBounds_toArray, List.set_cons_zero, List.set_cons_succ]
    refine wpAnyH_ready (rs := [7]) (by kernel_rfl) (by simp) ?_
    refine AllReadyH.cons rfl (fun K hK => ?_) AllReadyH.nil
    go_simp
    go_at_call 10
    refine (H3.out _ hv2).mono ?_
    rintro e v3 ⟨rfl, hv3⟩
    refine hK.out _ _ (HS.out _ hv3) (fun hHeld => ?_)
    clear hK
    try simp only [Act.put, List.setIfInBounds_toArray, List.set_cons_zero, List.set_cons_succ]
    refine wpAnyH_take (i := 8) (oi := ⟨some 13, _, _, _, _, _⟩) (v := ?_) rfl (by kernel_rfl) (by kernel_rfl) (by kernel_rfl) (fun _ _ _ h => h) (Or.inl ⟨by kernel_rfl, ?_⟩) (by assumption) ?_
    rotate_left 1
    focus (intro w' hSw; (try dsimp only at hSw); go_simp; (try with_reducible rfl))
    try simp only [Act.put, List.setIfInBounds_toArray, List.set_cons_zero, List.set_cons_succ]
    refine wpAnyH_take (i := 9) (oi := ⟨some 14, _, _, _, _, _⟩) (v := ?_) rfl (by kernel_rfl) (by kernel_rfl) (by kernel_rfl) (fun _ _ _ h => h) (Or.inl ⟨by kernel_rfl, ?_⟩) (by assumption) ?_
    rotate_left 1
    focus (intro w' hSw; (try dsimp only at hSw); go_simp; (try with_reducible rfl))
    try simp only [Act.put, List.setIfInBounds_toArray, List.set_cons_zero, List.set_cons_succ]
    refine wpAnyH_take (i := 10) (oi := ⟨some 15, _, _, _, _, _⟩) (v := ?_) rfl (by kernel_rfl) (by kernel_rfl) (by kernel_rfl) (fun _ _ _ h => h) (Or.inl ⟨by kernel_rfl, ?_⟩) (by assumption) ?_
    rotate_left 1
    focus (intro w' hSw; (try dsimp only at hSw); go_simp; (try with_reducible rfl))
    try simp only [Act.put, List.setIfInBounds_toArray, List.set_cons_zero, List.set_cons_succ]
    refine wpAnyH_take (i := 12) (oi := ⟨some 17, _, _, _, _, _⟩) (v := ?_) rfl (by kernel_rfl) (by kernel_rfl) (by kernel_rfl) (fun _ _ _ h => h) (Or.inl ⟨by kernel_rfl, ?_⟩) (by assumption) ?_
    rotate_left 1
    focus (intro w' hSw; (try dsimp only at hSw); go_simp; (try with_reducible rfl))
    try simp only [Act.put, List.setIfInBounds_toArray, List.set_cons_zero, List.set_cons_succ]
    refine wpAnyH_ready (rs := [11]) (by kernel_rfl) (by simp) ?_
    refine AllReadyH.cons rfl (fun K hK => ?_) AllReadyH.nil
    go_simp
    go_at_call 11
    refine (H4.out _ hv3).mono ?_
    rintro e v4 ⟨rfl, hv4⟩
    refine hK.out _ _ (HS.out _ hv4) (fun hHeld => ?_)
    clear hK
    try simp only [Act.put, List.setIfInBounds_toArray, List.set_cons_zero, List.set_cons_succ]
    refine wpAnyH_ready (rs := [13]) (by kernel_rfl) (by simp) ?_
    refine AllReadyH.cons rfl (fun K hK => ?_) AllReadyH.nil
    go_simp
    go_at_call 12
    refine (H5.out _ hv4).mono ?_
    rintro e v5 ⟨rfl, hv5⟩
    refine hK.out _ _ (HS.out _ hv5) (fun hHeld => ?_)
    clear hK
    try simp only [Act.put, List.setIfInBounds_toArray, List.set_cons_zero, List.set_cons_succ]
    refine wpAnyH_take (i := 14) (oi := ⟨some 19, _, _, _, _, _⟩) (v := ?_) rfl (by kernel_rfl) (by kernel_rfl) (by kernel_rfl) (fun _ _ _ h => h) (Or.inl ⟨by kernel_rfl, ?_⟩) (by assumption) ?_
    rotate_left 1
    focus (intro w' hSw; (try dsimp only at hSw); go_simp; (try with_reducible rfl))
    try simp only [Act.put, List.setIfInBounds_toArray, List.set_cons_zero, List.set_cons_succ]
    refine wpAnyH_take (i := 15) (oi := ⟨some 20, _, _, _, _, _⟩) (v := ?_) rfl (by kernel_rfl) (by kernel_rfl) (by kernel_rfl) (fun _ _ _ h => h) (Or.inl ⟨by kernel_rfl, ?_⟩) (by assumption) ?_
    rotate_left 1
    focus (intro w' hSw; (try dsimp only at hSw); go_simp; (try with_reducible rfl))
    try simp only [Act.put, List.setIfInBounds_toArray, List.set_cons_zero, List.set_cons_succ]
    refine wpAnyH_take (i := 16) (oi := ⟨some 21, _, _, _, _, _⟩) (v := ?_) rfl (by kernel_rfl) (by kernel_rfl) (by kernel_rfl) (fun _ _ _ h => h) (Or.inl ⟨by kernel_rfl, ?_⟩) (by assumption) ?_
    rotate_left 1
    focus (intro w' hSw; (try dsimp only at hSw); go_simp; (try with_reducible rfl))
    try simp only [Act.put, List.setIfInBounds_toArray, List.set_cons_zero, List.set_cons_succ]
    refine wpAnyH_take (i := 17) (oi := ⟨some 2, _, _, _, _, _⟩) (v := ?_) rfl (by kernel_rfl) (by kernel_rfl) (by kernel_rfl) (fun _ _ _ h => h) (Or.inl ⟨by kernel_rfl, ?_⟩) (by assumption) ?_
    rotate_left 1
    focus (intro w' hSw; (try dsimp only at hSw); go_simp; (try with_reducible rfl))
    try simp only [Act.put, List.setIfInBounds_toArray, List.set_cons_zero, List.set_cons_succ]
    refine wpAnyH_done (by kernel_rfl) ?_ _
    have HF := Lib.hid hv5
    clear hv1 hv2 hv3 hv4 hv5
    go_wp2_with fail
    go_ret
    exact ⟨rfl, HB2.out.trans (HF.out.mono HB2.out.size)⟩
end Go.Proofs.YtecgepjdlpjiiaaDoor.tre
