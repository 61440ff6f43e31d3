/- What the law TreeSame answers: true. Conditions: the nodes are such as were read; the library's MaxLen holds a number. -/
import Derived.Test.YtecgepjdlpjiiaaDoorTreLawR
namespace Go.Proofs.YtecgepjdlpjiiaaDoor.tre
open Go.RowKit Go.Proofs.YtecgepjdlpjiiaaDoor.words Go.Proofs.YtecgepjdlpjiiaaDoor.ext Go.Proofs.YtecgepjdlpjiiaaDoor.name

structure Sm (w W : World) (n : Nd) (r : Raw) (m : Nd) (q : Raw) : Prop where
  t : Two w W n r m q
  a : NdAt W W.heap.size n r
  b : NdAt W W.heap.size m q
theorem Sm.later {w W W' : World} {n m : Nd} {r q : Raw} (h : Sm w W n r m q) (hb : Below W.heap.size W W') : Sm w W' n r m q := ⟨h.t.later hb, h.a.later hb, h.b.later hb⟩

set_option maxRecDepth 100000 in
set_option maxHeartbeats 6400000 in
theorem law_same (n m : Nd) (r q : Raw) (s : ByteArray) (mx : Int) (w : World) (hN : NdAt w w.heap.size n r) (hM : NdAt w w.heap.size m q) (hm : w.cell? ⟨0, 0, none⟩ = some (.int .i64 mx)) (hs : s.size ≤ 9223372036854775807) :
    Calls Tryd.prog 4 #[ndV n r, ndV m q, .string s] w fun e w' => e = .returned (.bool true) ∧ Below w.heap.size w w' := by
  obtain ⟨W1, hW1⟩ : ∃ W1, W1 = (w.alloc (.cells (rawCells n r) 26)).alloc (.cells (rawCells m q) 26) := ⟨_, rfl⟩
  have hT : Two w W1 n r m q := by rw [hW1]; exact Two.new w n r m q
  have HS1 : Hid (Sm w W1 n r m q) := Lib.hid ⟨hT, hN.later hT.b, hM.later hT.b⟩
  have HM1 := Lib.hid (below_cell hm hT.b)
  unfold rawCells at hW1
  have HW1 := Lib.hid hW1
  clear hN hM hm hT hW1
  unfold ndV rawCells
  go_enter Tryd.func4, Tryd.ntmps4
  go_upto_region 1 with fail
  rw [← HW1.out]
  go_wp2_with fail
  refine (speaks_any mx W1 HM1.out).mono ?_
  rintro e w2 ⟨rfl, hb2⟩
  have HS2 := Lib.hid (HS1.out.later hb2)
  clear hb2 HS1 HM1 HW1
  obtain ⟨b0, b1, b2, b3, b4, b5, b6⟩ := HS2.out.t.x.cells
  go_upto_region 3 with fail
  obtain ⟨c1, hc1⟩ : ∃ c : Int, c = (if smallB n = true then 1 else 0) := ⟨_, rfl⟩
  have HC1 := Lib.hid hc1
  have h1 := small_is c1 n r w2 HS2.out.a hc1.symm
  unfold ndV rawCells at h1
  have H1 := Lib.hid h1
  clear h1 hc1
  rcases hs1 : smallB n with _ | _
  · obtain rfl : c1 = 0 := by rw [HC1.out, hs1]; rfl
    clear hs1
    go_wp2_with fail
    refine H1.out.mono ?_
    rintro e w3 ⟨rfl, hb3⟩
    have HS3 := Lib.hid (HS2.out.later hb3)
    clear hb3 H1 HS2 b0 b1 b2 b3 b4 b5 b6
    go_wp2_with fail
    go_ret
    exact ⟨rfl, HS3.out.t.b⟩
  obtain rfl : c1 = 1 := by rw [HC1.out, hs1]; rfl
  have HSn := Lib.hid hs1
  clear hs1
  go_wp2_with fail
  refine H1.out.mono ?_
  rintro e w3 ⟨rfl, hb3⟩
  have HS3 := Lib.hid (HS2.out.later hb3)
  clear hb3 H1 HS2 HC1 b0 b1 b2 b3 b4 b5 b6
  obtain ⟨b0, b1, b2, b3, b4, b5, b6⟩ := HS3.out.t.y.cells
  obtain ⟨c2, hc2⟩ : ∃ c : Int, c = (if smallB m = true then 1 else 0) := ⟨_, rfl⟩
  have HC2 := Lib.hid hc2
  have h2 := small_is c2 m q w3 HS3.out.b hc2.symm
  unfold ndV rawCells at h2
  have H2 := Lib.hid h2
  clear h2 hc2
  rcases hs2 : smallB m with _ | _
  · obtain rfl : c2 = 0 := by rw [HC2.out, hs2]; rfl
    clear hs2
    go_wp2_with fail
    refine H2.out.mono ?_
    rintro e w4 ⟨rfl, hb4⟩
    have HS4 := Lib.hid (HS3.out.later hb4)
    clear hb4 H2 HS3 b0 b1 b2 b3 b4 b5 b6
    go_wp2_with fail
    go_ret
    exact ⟨rfl, HS4.out.t.b⟩
  obtain rfl : c2 = 1 := by rw [HC2.out, hs2]; rfl
  clear hs2
  go_wp2_with fail
  refine H2.out.mono ?_
  rintro e w4 ⟨rfl, hb4⟩
  have HS4 := Lib.hid (HS3.out.later hb4)
  clear hb4 H2 HS3 HC2 b0 b1 b2 b3 b4 b5 b6
  by_cases hlen : 200 < s.size
  · have g1 : (200 : Int) < (s.size : Int) := by omega
    go_wp2_with fail
    go_ret
    exact ⟨rfl, HS4.out.t.b⟩
  have g1 : ¬ (200 : Int) < (s.size : Int) := by omega
  have hdn := smallB_depth HSn.out
  clear hlen
  go_upto_region 5 with fail
  have HS : Hid (∀ w' : World, Below w4.heap.size w4 w' → ((w'.cell? ⟨w.heap.size, 0, none⟩ = some (.int .i64 n.K) ∧ w'.cell? ⟨w.heap.size, 1, none⟩ = some (.bool n.O) ∧ w'.cell? ⟨w.heap.size, 2, none⟩ = some (.slice r.An n.N.length r.cn) ∧ w'.cell? ⟨w.heap.size, 3, none⟩ = some (.slice r.Ai n.I.length r.ci) ∧ w'.cell? ⟨w.heap.size, 4, none⟩ = some (.int .i64 n.S) ∧ w'.cell? ⟨w.heap.size, 5, none⟩ = some (.slice r.Ae n.E.length r.ce) ∧ w'.cell? ⟨w.heap.size, 6, none⟩ = some (.string n.T)) ∧ (w'.cell? ⟨w.heap.size + 1, 0, none⟩ = some (.int .i64 m.K) ∧ w'.cell? ⟨w.heap.size + 1, 1, none⟩ = some (.bool m.O) ∧ w'.cell? ⟨w.heap.size + 1, 2, none⟩ = some (.slice q.An m.N.length q.cn) ∧ w'.cell? ⟨w.heap.size + 1, 3, none⟩ = some (.slice q.Ai m.I.length q.ci) ∧ w'.cell? ⟨w.heap.size + 1, 4, none⟩ = some (.int .i64 m.S) ∧ w'.cell? ⟨w.heap.size + 1, 5, none⟩ = some (.slice q.Ae m.E.length q.ce) ∧ w'.cell? ⟨w.heap.size + 1, 6, none⟩ = some (.string m.T)) ∧ Below w4.heap.size w4 w')) := Lib.hid fun w' hb => ⟨(HS4.out.t.x.below hb).cells, (HS4.out.t.y.below hb).cells, hb⟩
  obtain ⟨sb, hsb⟩ : ∃ sb, sb = sameB n m := ⟨_, rfl⟩
  have J1 : Hid (∀ w' : World, Below w4.heap.size w4 w' → Calls Tryd.prog 13 #[.agg #[.int .i64 n.K, .bool n.O, .slice r.An n.N.length r.cn, .slice r.Ai n.I.length r.ci, .int .i64 n.S, .slice r.Ae n.E.length r.ce, .string n.T], .agg #[.int .i64 m.K, .bool m.O, .slice q.An m.N.length q.cn, .slice q.Ai m.I.length q.ci, .int .i64 m.S, .slice q.Ae m.E.length q.ce, .string m.T]] w' fun e w'' => e = .returned (.bool sb) ∧ Below w4.heap.size w4 w'') :=
    Lib.hid fun w' hb => (treesame_any n m r q w' (HS4.out.later hb).a (HS4.out.later hb).b (by omega)).mono fun _ _ ⟨he, hw⟩ => ⟨by rw [he, hsb], hb.trans (hw.mono hb.size)⟩
  have J2 : Hid (∀ w' : World, Below w4.heap.size w4 w' → Calls Tryd.prog 14 #[.agg #[.int .i64 n.K, .bool n.O, .slice r.An n.N.length r.cn, .slice r.Ai n.I.length r.ci, .int .i64 n.S, .slice r.Ae n.E.length r.ce, .string n.T], .agg #[.int .i64 m.K, .bool m.O, .slice q.An m.N.length q.cn, .slice q.Ai m.I.length q.ci, .int .i64 m.S, .slice q.Ae m.E.length q.ce, .string m.T]] w' fun e w'' => e = .returned (.bool sb) ∧ Below w4.heap.size w4 w'') :=
    Lib.hid fun w' hb => (rsame_at w' (depth n + 1) n m r q w' (Nat.lt_succ_self _) (HS4.out.later hb).a (HS4.out.later hb).b (Below.refl _ _)).mono fun _ _ ⟨he, hw⟩ => ⟨by rw [he, hsb], hb.trans (hw.mono hb.size)⟩
  have J3 : Hid (∀ w' : World, Below w4.heap.size w4 w' → Calls Tryd.prog 13 #[.agg #[.int .i64 n.K, .bool n.O, .slice r.An n.N.length r.cn, .slice r.Ai n.I.length r.ci, .int .i64 n.S, .slice r.Ae n.E.length r.ce, .string n.T], .agg #[.int .i64 n.K, .bool n.O, .slice r.An n.N.length r.cn, .slice r.Ai n.I.length r.ci, .int .i64 n.S, .slice r.Ae n.E.length r.ce, .string n.T]] w' fun e w'' => e = .returned (.bool true) ∧ Below w4.heap.size w4 w'') :=
    Lib.hid fun w' hb => (treesame_any n n r r w' (HS4.out.later hb).a (HS4.out.later hb).a (by omega)).mono fun _ _ ⟨he, hw⟩ => ⟨by rw [he, sameB_self], hb.trans (hw.mono hb.size)⟩
  have HSd := Lib.hid (HS.out _ (Below.refl w4.heap.size w4).drew)
  clear hsb
  refine wp_region_held_drew (S := fun w' => (w'.cell? ⟨w.heap.size, 0, none⟩ = some (.int .i64 n.K) ∧ w'.cell? ⟨w.heap.size, 1, none⟩ = some (.bool n.O) ∧ w'.cell? ⟨w.heap.size, 2, none⟩ = some (.slice r.An n.N.length r.cn) ∧ w'.cell? ⟨w.heap.size, 3, none⟩ = some (.slice r.Ai n.I.length r.ci) ∧ w'.cell? ⟨w.heap.size, 4, none⟩ = some (.int .i64 n.S) ∧ w'.cell? ⟨w.heap.size, 5, none⟩ = some (.slice r.Ae n.E.length r.ce) ∧ w'.cell? ⟨w.heap.size, 6, none⟩ = some (.string n.T)) ∧ (w'.cell? ⟨w.heap.size + 1, 0, none⟩ = some (.int .i64 m.K) ∧ w'.cell? ⟨w.heap.size + 1, 1, none⟩ = some (.bool m.O) ∧ w'.cell? ⟨w.heap.size + 1, 2, none⟩ = some (.slice q.An m.N.length q.cn) ∧ w'.cell? ⟨w.heap.size + 1, 3, none⟩ = some (.slice q.Ai m.I.length q.ci) ∧ w'.cell? ⟨w.heap.size + 1, 4, none⟩ = some (.int .i64 m.S) ∧ w'.cell? ⟨w.heap.size + 1, 5, none⟩ = some (.slice q.Ae m.E.length q.ce) ∧ w'.cell? ⟨w.heap.size + 1, 6, none⟩ = some (.string m.T)) ∧ Below w4.heap.size w4 w') (by kernel_rfl) HSd.out (fun hHeld => ?_)
  refine wpAnyH_take (i := 0) (oi := ⟨some 25, _, _, _, _, _⟩) (v := ?_) rfl (by kernel_rfl) (by kernel_rfl) (by kernel_rfl) (fun _ _ _ h => h) (Or.inl ⟨by kernel_rfl, ?_⟩) (by assumption) ?_
  rotate_left 1
  focus (intro w' hSw; (try dsimp only at hSw); go_simp; (try with_reducible rfl))
  try simp only [Act.put, List.setIfInBounds_toArray, List.set_cons_zero, List.set_cons_succ]
  refine wpAnyH_take (i := 1) (oi := ⟨some 26, _, _, _, _, _⟩) (v := ?_) rfl (by kernel_rfl) (by kernel_rfl) (by kernel_rfl) (fun _ _ _ h => h) (Or.inl ⟨by kernel_rfl, ?_⟩) (by assumption) ?_
  rotate_left 1
  focus (intro w' hSw; (try dsimp only at hSw); go_simp; (try with_reducible rfl))
  try simp only [Act.put, List.setIfInBounds_toArray, List.set_cons_zero, List.set_cons_succ]
  refine wpAnyH_take (i := 3) (oi := ⟨some 28, _, _, _, _, _⟩) (v := ?_) rfl (by kernel_rfl) (by kernel_rfl) (by kernel_rfl) (fun _ _ _ h => h) (Or.inl ⟨by kernel_rfl, ?_⟩) (by assumption) ?_
  rotate_left 1
  focus (intro w' hSw; (try dsimp only at hSw); go_simp; (try with_reducible rfl))
  try simp only [Act.put, List.setIfInBounds_toArray, List.set_cons_zero, List.set_cons_succ]
  refine wpAnyH_take (i := 4) (oi := ⟨some 29, _, _, _, _, _⟩) (v := ?_) rfl (by kernel_rfl) (by kernel_rfl) (by kernel_rfl) (fun _ _ _ h => h) (Or.inl ⟨by kernel_rfl, ?_⟩) (by assumption) ?_
  rotate_left 1
  focus (intro w' hSw; (try dsimp only at hSw); go_simp; (try with_reducible rfl))
  try simp only [Act.put, List.setIfInBounds_toArray, List.set_cons_zero, List.set_cons_succ]
  refine wpAnyH_ready (rs := [2]) (by kernel_rfl) (by simp) ?_
  refine AllReadyH.cons rfl (fun K hK => ?_) AllReadyH.nil
  go_simp
  go_at_call 13
  refine (J1.out _ (Below.refl w4.heap.size w4).drew).mono ?_
  rintro e v1 ⟨rfl, hv1⟩
  clear hHeld
  refine hK.out _ _ (HS.out _ hv1) (fun hHeld => ?_)
  clear hK
  try simp only [Act.put, List.setIfInBounds_toArray, List.set_cons_zero, List.set_cons_succ]
  refine wpAnyH_ready (rs := [5]) (by kernel_rfl) (by simp) ?_
  refine AllReadyH.cons rfl (fun K hK => ?_) AllReadyH.nil
  go_simp
  go_at_call 14
  refine (J2.out _ hv1).mono ?_
  rintro e v2 ⟨rfl, hv2⟩
  clear hHeld
  refine hK.out _ _ (HS.out _ hv2) (fun hHeld => ?_)
  clear hK
  try simp only [Act.put, List.setIfInBounds_toArray, List.set_cons_zero, List.set_cons_succ]
  refine wpAnyH_take (i := 6) (oi := ⟨some 31, _, _, _, _, _⟩) (v := ?_) rfl (by kernel_rfl) (by kernel_rfl) (by kernel_rfl) (fun _ _ _ h => h) (Or.inl ⟨by kernel_rfl, ?_⟩) (by assumption) ?_
  rotate_left 1
  focus (intro w' hSw; (try dsimp only at hSw); go_simp; (try with_reducible rfl))
  try simp only [Act.put, List.setIfInBounds_toArray, List.set_cons_zero, List.set_cons_succ]
  refine wpAnyH_take (i := 7) (oi := ⟨some 32, _, _, _, _, _⟩) (v := ?_) rfl (by kernel_rfl) (by kernel_rfl) (by kernel_rfl) (fun _ _ _ h => h) (Or.inl ⟨by kernel_rfl, ?_⟩) (by assumption) ?_
  rotate_left 1
  focus (intro w' hSw; (try dsimp only at hSw); go_simp; (try with_reducible rfl))
  try simp only [Act.put, List.setIfInBounds_toArray, List.set_cons_zero, List.set_cons_succ]
  refine wpAnyH_take (i := 8) (oi := ⟨some 33, _, _, _, _, _⟩) (v := ?_) rfl (by kernel_rfl) (by kernel_rfl) (by kernel_rfl) (fun _ _ _ h => h) (Or.inl ⟨by kernel_rfl, ?_⟩) (by assumption) ?_
  rotate_left 1
  focus (intro w' hSw; (try dsimp only at hSw); go_simp; (try with_reducible rfl))
  try simp only [Act.put, List.setIfInBounds_toArray, List.set_cons_zero, List.set_cons_succ]
  refine wpAnyH_take (i := 9) (oi := ⟨some 34, _, _, _, _, _⟩) (v := ?_) rfl (by kernel_rfl) (by kernel_rfl) (by kernel_rfl) (fun _ _ _ h => h) (Or.inl ⟨by kernel_rfl, ?_⟩) (by assumption) ?_
  rotate_left 1
  focus (intro w' hSw; (try dsimp only at hSw); go_simp; (try with_reducible rfl))
  try simp only [Act.put, List.setIfInBounds_toArray, List.set_cons_zero, List.set_cons_succ]
  refine wpAnyH_ready (rs := [10]) (by kernel_rfl) (by simp) ?_
  refine AllReadyH.cons rfl (fun K hK => ?_) AllReadyH.nil
  go_simp
  go_at_call 13
  refine (J3.out _ hv2).mono ?_
  rintro e v3 ⟨rfl, hv3⟩
  clear hHeld
  refine hK.out _ _ (HS.out _ hv3) (fun hHeld => ?_)
  clear hK
  try simp only [Act.put, List.setIfInBounds_toArray, List.set_cons_zero, List.set_cons_succ]
  refine wpAnyH_take (i := 11) (oi := ⟨some 36, _, _, _, _, _⟩) (v := ?_) rfl (by kernel_rfl) (by kernel_rfl) (by kernel_rfl) (fun _ _ _ h => h) (Or.inl ⟨by kernel_rfl, ?_⟩) (by assumption) ?_
  rotate_left 1
  focus (intro w' hSw; (try dsimp only at hSw); go_simp; (try with_reducible rfl))
  try simp only [Act.put, List.setIfInBounds_toArray, List.set_cons_zero, List.set_cons_succ]
  refine wpAnyH_take (i := 12) (oi := ⟨some 37, _, _, _, _, _⟩) (v := ?_) rfl (by kernel_rfl) (by kernel_rfl) (by kernel_rfl) (fun _ _ _ h => h) (Or.inl ⟨by kernel_rfl, ?_⟩) (by assumption) ?_
  rotate_left 1
  focus (intro w' hSw; (try dsimp only at hSw); go_simp; (try with_reducible rfl))
  try simp only [Act.put, List.setIfInBounds_toArray, List.set_cons_zero, List.set_cons_succ]
  refine wpAnyH_done (by kernel_rfl) ?_ _
  have HS5 := Lib.hid (HS4.out.later hv3)
  clear hv1 hv2 hv3 HS HSd J1 J2 J3 HS4 hHeld
  go_upto_region 7 with fail
  obtain ⟨b0, b1, b2, b3, b4, b5, b6⟩ := HS5.out.t.x.cells
  by_cases hk : n.K = 2
  case neg =>
    have k1 : (n.K == 2) = false := by rw [beq_eq_false_iff_ne]; exact hk
    have k2 : (n.K != 2) = true := by rw [bne_iff_ne]; exact hk
    clear hk
    go_wp2_with fail
    go_ret
    exact ⟨rfl, HS5.out.t.b⟩
  case pos =>
  have k1 : (n.K == 2) = true := by rw [hk]; rfl
  have k2 : (n.K != 2) = false := by rw [hk]; rfl
  obtain ⟨ob, hob⟩ : ∃ ob, ob = oneB n := ⟨_, rfl⟩
  have h1 := one_is ob n r v3 HS5.out.a hob.symm
  unfold ndV rawCells at h1
  have H1 := Lib.hid h1
  have HO := Lib.hid (hob.trans (oneB_2 hk))
  clear hk hob h1
  cases ob
  case false =>
    go_wp2_with fail
    refine H1.out.mono ?_
    rintro e w6 ⟨rfl, hb6⟩
    have HS6 := Lib.hid (HS5.out.later hb6)
    clear hb6 H1 HS5 b0 b1 b2 b3 b4 b5 b6
    go_wp2_with fail
    go_ret
    exact ⟨rfl, HS6.out.t.b⟩
  case true =>
  have ho := HO.out.symm
  rw [Bool.and_eq_true, Bool.and_eq_true, Bool.and_eq_true, beq_iff_eq] at ho
  have HLn := Lib.hid ho.2.1
  have HAs := Lib.hid (riseB_asc ho.2.2)
  clear ho HO
  go_wp2_with fail
  refine H1.out.mono ?_
  rintro e w6 ⟨rfl, hb6⟩
  have HS6 := Lib.hid (HS5.out.later hb6)
  clear hb6 H1 HS5 b0 b1 b2 b3 b4 b5 b6
  obtain ⟨b0, b1, b2, b3, b4, b5, b6⟩ := HS6.out.t.x.cells
  have h2 := find_any n r s w6 HS6.out.a HAs.out (beq_iff_eq.1 HLn.out) (by omega)
  unfold ndV rawCells at h2
  have H2 := Lib.hid h2
  clear h2
  go_upto_region 9 with fail
  go_wp2_with fail
  refine H2.out.mono ?_
  rintro e w7 ⟨⟨i, x, r', hi, hx, rfl, hn7⟩ | ⟨rfl, hno⟩, hb7⟩
  · obtain ⟨W8, hW8⟩ : ∃ W8, W8 = w7.alloc (.cells (rawCells x r') 26) := ⟨_, rfl⟩
    have hb8 : Below w7.heap.size w7 W8 := by rw [hW8]; exact (Below.refl _ _).alloc (Nat.le_refl _) _
    have HX8 : Hid (Box W8 w7.heap.size x r') := by rw [hW8]; exact Lib.hid (Box.new w7 x r')
    have HS8 := Lib.hid ((HS6.out.later hb7).later hb8)
    have HC8 := Lib.hid ((hn7.at_ (B := w7.heap.size) fun b hb => hb.2).later hb8)
    have HI := Lib.hid hi
    have HX := Lib.hid hx
    unfold rawCells at hW8
    have HW8 := Lib.hid hW8
    clear hi hx hn7 hb7 hb8 hW8 H2 HS6 b0 b1 b2 b3 b4 b5 b6
    unfold ndV rawCells
    go_upto_region 10 with fail
    rw [← HW8.out]
    obtain ⟨b0, b1, b2, b3, b4, b5, b6⟩ := HS8.out.t.x.cells
    have h3 := reffind_any n r s W8 HS8.out.a
    unfold ndV rawCells at h3
    have H3 := Lib.hid h3
    clear h3 HW8
    go_wp2_with fail
    refine H3.out.mono ?_
    rintro e w9 ⟨⟨i', rfl, hi'⟩ | ⟨rfl, hno⟩, hb9⟩
    · obtain rfl : i' = i := HAs.out.one hi' HI.out
      have HS9 := Lib.hid (HS8.out.later hb9)
      have HX9 := Lib.hid (HX8.out.below hb9)
      have HC9 := Lib.hid (HC8.out.later hb9)
      have hlt := (List.getElem?_eq_some_iff.1 HX.out).1
      have hdx : depth x < 1000 := by have := depth_at HX.out; have := depth_eq n; omega
      clear hi' hb9 H3 HS8 HX8 HC8 b0 b1 b2 b3 b4 b5 b6
      go_upto_region 13 with fail
      obtain ⟨ry, hry, b, off, hA, hB, c0, c1, c2, c3, c4, c5, c6⟩ := HS9.out.a.entry HX.out (Below.refl w9.heap.size w9)
      have hb3 := HS9.out.t.x.cells.2.2.2.1
      rw [hA] at hb3
      have i0 : (0 : Int) ≤ (i' : Int) := by omega
      have i1 : (i' : Int) < (n.I.length : Int) := by omega
      have hg := HS9.out.t.x.lt
      have HS : Hid (∀ w' : World, Below w9.heap.size w9 w' → ((w'.cell? ⟨w7.heap.size, 0, none⟩ = some (.int .i64 x.K) ∧ w'.cell? ⟨w7.heap.size, 1, none⟩ = some (.bool x.O) ∧ w'.cell? ⟨w7.heap.size, 2, none⟩ = some (.slice r'.An x.N.length r'.cn) ∧ w'.cell? ⟨w7.heap.size, 3, none⟩ = some (.slice r'.Ai x.I.length r'.ci) ∧ w'.cell? ⟨w7.heap.size, 4, none⟩ = some (.int .i64 x.S) ∧ w'.cell? ⟨w7.heap.size, 5, none⟩ = some (.slice r'.Ae x.E.length r'.ce) ∧ w'.cell? ⟨w7.heap.size, 6, none⟩ = some (.string x.T)) ∧ w'.cell? ⟨w.heap.size, 3, none⟩ = some (.slice (some ⟨b, off, none⟩) n.I.length r.ci) ∧ (w'.cell? ⟨b, off + i' * 7, none⟩ = some (.int .i64 x.K) ∧ w'.cell? ⟨b, off + i' * 7 + 1, none⟩ = some (.bool x.O) ∧ w'.cell? ⟨b, off + i' * 7 + 2, none⟩ = some (.slice ry.An x.N.length ry.cn) ∧ w'.cell? ⟨b, off + i' * 7 + 3, none⟩ = some (.slice ry.Ai x.I.length ry.ci) ∧ w'.cell? ⟨b, off + i' * 7 + 4, none⟩ = some (.int .i64 x.S) ∧ w'.cell? ⟨b, off + i' * 7 + 5, none⟩ = some (.slice ry.Ae x.E.length ry.ce) ∧ w'.cell? ⟨b, off + i' * 7 + 6, none⟩ = some (.string x.T)) ∧ Below w9.heap.size w9 w')) := Lib.hid fun w' hb => by
        have cc := fun o => hb.cell (p := ⟨b, o, none⟩) hB
        exact ⟨(HX9.out.below hb).cells, (hb.cell (p := ⟨w.heap.size, 3, none⟩) hg).trans hb3, ⟨(cc _).trans c0, (cc _).trans c1, (cc _).trans c2, (cc _).trans c3, (cc _).trans c4, (cc _).trans c5, (cc _).trans c6⟩, hb⟩
      have hbd := (Below.refl w9.heap.size w9).drew
      have J1 : Hid (Calls Tryd.prog 14 #[.agg #[.int .i64 x.K, .bool x.O, .slice r'.An x.N.length r'.cn, .slice r'.Ai x.I.length r'.ci, .int .i64 x.S, .slice r'.Ae x.E.length r'.ce, .string x.T], .agg #[.int .i64 x.K, .bool x.O, .slice ry.An x.N.length ry.cn, .slice ry.Ai x.I.length ry.ci, .int .i64 x.S, .slice ry.Ae x.E.length ry.ce, .string x.T]] w9.drew fun e w'' => e = .returned (.bool true) ∧ Below w9.heap.size w9 w'') :=
        Lib.hid ((rsame_at w9.drew 1000 x x r' ry w9.drew hdx (HC9.out.later hbd) ((hry.keep hbd).more hbd.size) (Below.refl _ _)).mono fun _ _ ⟨he, hw⟩ => ⟨by rw [he, sameB_self], hbd.trans (hw.mono hbd.size)⟩)
      have HSd := Lib.hid (HS.out _ hbd)
      clear hA hry c0 c1 c2 c3 c4 c5 c6 hb3 hbd
      refine wp_region_held_drew (S := fun w' => (w'.cell? ⟨w7.heap.size, 0, none⟩ = some (.int .i64 x.K) ∧ w'.cell? ⟨w7.heap.size, 1, none⟩ = some (.bool x.O) ∧ w'.cell? ⟨w7.heap.size, 2, none⟩ = some (.slice r'.An x.N.length r'.cn) ∧ w'.cell? ⟨w7.heap.size, 3, none⟩ = some (.slice r'.Ai x.I.length r'.ci) ∧ w'.cell? ⟨w7.heap.size, 4, none⟩ = some (.int .i64 x.S) ∧ w'.cell? ⟨w7.heap.size, 5, none⟩ = some (.slice r'.Ae x.E.length r'.ce) ∧ w'.cell? ⟨w7.heap.size, 6, none⟩ = some (.string x.T)) ∧ w'.cell? ⟨w.heap.size, 3, none⟩ = some (.slice (some ⟨b, off, none⟩) n.I.length r.ci) ∧ (w'.cell? ⟨b, off + i' * 7, none⟩ = some (.int .i64 x.K) ∧ w'.cell? ⟨b, off + i' * 7 + 1, none⟩ = some (.bool x.O) ∧ w'.cell? ⟨b, off + i' * 7 + 2, none⟩ = some (.slice ry.An x.N.length ry.cn) ∧ w'.cell? ⟨b, off + i' * 7 + 3, none⟩ = some (.slice ry.Ai x.I.length ry.ci) ∧ w'.cell? ⟨b, off + i' * 7 + 4, none⟩ = some (.int .i64 x.S) ∧ w'.cell? ⟨b, off + i' * 7 + 5, none⟩ = some (.slice ry.Ae x.E.length ry.ce) ∧ w'.cell? ⟨b, off + i' * 7 + 6, none⟩ = some (.string x.T)) ∧ Below w9.heap.size w9 w') (by kernel_rfl) HSd.out (fun hHeld => ?_)
      refine wpAnyH_take (i := 0) (oi := ⟨some 64, _, _, _, _, _⟩) (v := ?_) rfl (by kernel_rfl) (by kernel_rfl) (by kernel_rfl) (fun _ _ _ h => h) (Or.inl ⟨by kernel_rfl, ?_⟩) (by assumption) ?_
      rotate_left 1
      focus (intro w' hSw; (try dsimp only at hSw); go_simp; (try with_reducible rfl))
      try simp only [Act.put, List.setIfInBounds_toArray, List.set_cons_zero, List.set_cons_succ]
      refine wpAnyH_take (i := 1) (oi := ⟨some 65, _, _, _, _, _⟩) (v := ?_) rfl (by kernel_rfl) (by kernel_rfl) (by kernel_rfl) (fun _ _ _ h => h) (Or.inl ⟨by kernel_rfl, ?_⟩) (by assumption) ?_
      rotate_left 1
      focus (intro w' hSw; (try dsimp only at hSw); go_simp; (try with_reducible rfl))
      try simp only [Act.put, List.setIfInBounds_toArray, List.set_cons_zero, List.set_cons_succ]
      refine wpAnyH_take (i := 2) (oi := ⟨some 66, _, _, _, _, _⟩) (v := ?_) rfl (by kernel_rfl) (by kernel_rfl) (by kernel_rfl) (fun _ _ _ h => h) (Or.inl ⟨by kernel_rfl, ?_⟩) (by assumption) ?_
      rotate_left 1
      focus (intro w' hSw; (try dsimp only at hSw); go_simp; (try with_reducible rfl))
      try simp only [Act.put, List.setIfInBounds_toArray, List.set_cons_zero, List.set_cons_succ]
      refine wpAnyH_take (i := 3) (oi := ⟨some 67, _, _, _, _, _⟩) (v := ?_) rfl (by kernel_rfl) (by kernel_rfl) (by kernel_rfl) (fun _ _ _ h => h) (Or.inl ⟨by kernel_rfl, ?_⟩) (by assumption) ?_
      rotate_left 1
      focus (intro w' hSw; (try dsimp only at hSw); go_simp; (try with_reducible rfl))
      try simp only [Act.put, List.setIfInBounds_toArray, List.set_cons_zero, List.set_cons_succ]
      refine wpAnyH_take (i := 4) (oi := ⟨some 68, _, _, _, _, _⟩) (v := ?_) rfl (by kernel_rfl) (by kernel_rfl) (by kernel_rfl) (fun _ _ _ h => h) (Or.inl ⟨by kernel_rfl, ?_⟩) (by assumption) ?_
      rotate_left 1
      focus (intro w' hSw; (try dsimp only at hSw); go_simp; (try with_reducible rfl))
      try simp only [Act.put, List.setIfInBounds_toArray, List.set_cons_zero, List.set_cons_succ]
      refine wpAnyH_take (i := 5) (oi := ⟨some 69, _, _, _, _, _⟩) (v := ?_) rfl (by kernel_rfl) (by kernel_rfl) (by kernel_rfl) (fun _ _ _ h => h) (Or.inl ⟨by kernel_rfl, ?_⟩) (by assumption) ?_
      rotate_left 1
      focus (intro w' hSw; (try dsimp only at hSw); go_simp; (try with_reducible rfl))
      try simp only [Act.put, List.setIfInBounds_toArray, List.set_cons_zero, List.set_cons_succ]
      refine wpAnyH_take (i := 6) (oi := ⟨some 70, _, _, _, _, _⟩) (v := ?_) rfl (by kernel_rfl) (by kernel_rfl) (by kernel_rfl) (fun _ _ _ h => h) (Or.inl ⟨by kernel_rfl, ?_⟩) (by assumption) ?_
      rotate_left 1
      focus (intro w' hSw; (try dsimp only at hSw); go_simp; (try with_reducible rfl))
      try simp only [Act.put, List.setIfInBounds_toArray, List.set_cons_zero, List.set_cons_succ]
      refine wpAnyH_take (i := 7) (oi := ⟨some 71, _, _, _, _, _⟩) (v := ?_) rfl (by kernel_rfl) (by kernel_rfl) (by kernel_rfl) (fun _ _ _ h => h) (Or.inl ⟨by kernel_rfl, ?_⟩) (by assumption) ?_
      rotate_left 1
      focus (intro w' hSw; (try dsimp only at hSw); go_simp; (try with_reducible rfl))
      try simp only [Act.put, List.setIfInBounds_toArray, List.set_cons_zero, List.set_cons_succ]
      refine wpAnyH_ready (rs := [8]) (by kernel_rfl) (by simp) ?_
      refine AllReadyH.cons rfl (fun K hK => ?_) AllReadyH.nil
      go_simp
      go_at_call 14
      refine J1.out.mono ?_
      rintro e v5 ⟨rfl, hv5⟩
      clear hHeld
      refine hK.out _ _ (HS.out _ hv5) (fun hHeld => ?_)
      clear hK
      try simp only [Act.put, List.setIfInBounds_toArray, List.set_cons_zero, List.set_cons_succ]
      refine wpAnyH_take (i := 9) (oi := ⟨some 73, _, _, _, _, _⟩) (v := ?_) rfl (by kernel_rfl) (by kernel_rfl) (by kernel_rfl) (fun _ _ _ h => h) (Or.inl ⟨by kernel_rfl, ?_⟩) (by assumption) ?_
      rotate_left 1
      focus (intro w' hSw; (try dsimp only at hSw); go_simp; (try with_reducible rfl))
      try simp only [Act.put, List.setIfInBounds_toArray, List.set_cons_zero, List.set_cons_succ]
      refine wpAnyH_take (i := 10) (oi := ⟨some 6, _, _, _, _, _⟩) (v := ?_) rfl (by kernel_rfl) (by kernel_rfl) (by kernel_rfl) (fun _ _ _ h => h) (Or.inl ⟨by kernel_rfl, ?_⟩) (by assumption) ?_
      rotate_left 1
      focus (intro w' hSw; (try dsimp only at hSw); go_simp; (try with_reducible rfl))
      try simp only [Act.put, List.setIfInBounds_toArray, List.set_cons_zero, List.set_cons_succ]
      refine wpAnyH_done (by kernel_rfl) ?_ _
      have HF := Lib.hid (HS9.out.later hv5).t.b
      clear hv5 HS HSd J1 HS9 HX9 HC9 hHeld
      go_wp2_with fail
      go_ret
      exact ⟨rfl, HF.out⟩
    · exact absurd HI.out (hno i)
  · obtain ⟨W8, hW8⟩ : ∃ W8, W8 = w7.alloc (.cells (rawCells nd0 raw0) 26) := ⟨_, rfl⟩
    have hb8 : Below w7.heap.size w7 W8 := by rw [hW8]; exact (Below.refl _ _).alloc (Nat.le_refl _) _
    have HX8 : Hid (Box W8 w7.heap.size nd0 raw0) := by rw [hW8]; exact Lib.hid (Box.new w7 nd0 raw0)
    have HS8 := Lib.hid ((HS6.out.later hb7).later hb8)
    have HNo := Lib.hid hno
    have hW8' : W8 = w7.alloc (.cells #[.int .i64 0, .bool false, .slice none 0 0, .slice none 0 0, .int .i64 0, .slice none 0 0, .string ⟨#[]⟩] 26) := hW8
    have HW8 := Lib.hid hW8'
    clear hno hb7 hb8 hW8 hW8' H2 HS6 b0 b1 b2 b3 b4 b5 b6
    have z0 : ndV nd0 raw0 = .agg #[.int .i64 0, .bool false, .slice none 0 0, .slice none 0 0, .int .i64 0, .slice none 0 0, .string ⟨#[]⟩] := rfl
    rw [z0]
    go_upto_region 10 with fail
    rw [← HW8.out]
    obtain ⟨b0, b1, b2, b3, b4, b5, b6⟩ := HS8.out.t.x.cells
    have h3 := reffind_any n r s W8 HS8.out.a
    unfold ndV rawCells at h3
    have H3 := Lib.hid h3
    clear h3 HW8 z0
    go_wp2_with fail
    refine H3.out.mono ?_
    rintro e w9 ⟨⟨i', rfl, hi'⟩ | ⟨rfl, _⟩, hb9⟩
    · exact absurd hi' (HNo.out i')
    · have HS9 := Lib.hid (HS8.out.later hb9)
      have hX9 := HX8.out.below hb9
      have p0 : w9.cell? ⟨w7.heap.size, 0, none⟩ = some (.int .i64 0) := hX9.cells.1
      have p1 : w9.cell? ⟨w7.heap.size, 1, none⟩ = some (.bool false) := hX9.cells.2.1
      have p2 : w9.cell? ⟨w7.heap.size, 2, none⟩ = some (.slice none 0 0) := hX9.cells.2.2.1
      have p3 : w9.cell? ⟨w7.heap.size, 3, none⟩ = some (.slice none 0 0) := hX9.cells.2.2.2.1
      have p4 : w9.cell? ⟨w7.heap.size, 4, none⟩ = some (.int .i64 0) := hX9.cells.2.2.2.2.1
      have p5 : w9.cell? ⟨w7.heap.size, 5, none⟩ = some (.slice none 0 0) := hX9.cells.2.2.2.2.2.1
      have p6 : w9.cell? ⟨w7.heap.size, 6, none⟩ = some (.string ⟨#[]⟩) := hX9.cells.2.2.2.2.2.2
      have hz := bare_at w9 w9.heap.size 0 ⟨#[]⟩ (fit0 0 ⟨#[]⟩ (by decide) (by decide) (by decide))
      have h4 : Calls Tryd.prog 14 #[.agg #[.int .i64 0, .bool false, .slice none 0 0, .slice none 0 0, .int .i64 0, .slice none 0 0, .string ⟨#[]⟩], .agg #[.int .i64 0, .bool false, .slice none 0 0, .slice none 0 0, .int .i64 0, .slice none 0 0, .string ⟨#[]⟩]] w9 fun e w' => e = .returned (.bool true) ∧ Below w9.heap.size w9 w' :=
        (rsame_at w9 1 nd0 nd0 raw0 raw0 w9 (by decide +kernel) hz hz (Below.refl _ _)).mono fun _ _ ⟨he, hw⟩ => ⟨by rw [he, sameB_self], hw⟩
      have H4 := Lib.hid h4
      clear hz h4 hb9 hX9 H3 HS8 HX8 b0 b1 b2 b3 b4 b5 b6
      go_wp2_with fail
      refine H4.out.mono ?_
      rintro e w10 ⟨rfl, hb10⟩
      have HF := Lib.hid (HS9.out.later hb10).t.b
      clear hb10 H4 HS9 p0 p1 p2 p3 p4 p5 p6
      go_wp2_with fail
      go_ret
      exact ⟨rfl, HF.out⟩
end Go.Proofs.YtecgepjdlpjiiaaDoor.tre
