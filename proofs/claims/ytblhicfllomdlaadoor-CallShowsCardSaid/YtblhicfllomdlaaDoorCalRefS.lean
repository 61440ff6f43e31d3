/- What the reference's Show answers. Condition: as of call's Show. -/
import Derived.Test.YtblhicfllomdlaaDoorCalShow
import Derived.Test.YtblhicfllomdlaaDoorCalRefT
namespace Go.Proofs.YtblhicfllomdlaaDoor.cal
set_option maxRecDepth 100000
open Go.RowKit Go.Proofs.YtblhicfllomdlaaDoor.words

theorem join_snoc (a x : List UInt8) (L : List (List UInt8)) : joinM (a :: (L ++ [x])) = joinM (a :: L) ++ 32 :: x := by
  rw [join_cons, join_cons, List.flatMap_append, List.append_assoc]
  simp
theorem show_ok {q k z h d : Int} {t : List UInt8} {N : List (List UInt8)} {en : Bool} : showM q 0 k z h d t N en = joinM (okL :: ansM q k z h d t N en) := rfl
theorem show_err {q e k z h d : Int} {t : List UInt8} {N : List (List UInt8)} {en : Bool} (he : e ≠ 0) : showM q e k z h d t N en = errL ++ 32 :: Lib.itoa e := if_neg he
set_option maxHeartbeats 12800000 in
theorem refshow_any (q e k z h d : Int) (t : ByteArray) (A : Option Addr) (N : List ByteArray) (c : Nat) (en : Bool) (w : World) (hN : Sl w A N) (hf : ResFit e k z h d t N) :
    Calls Tryd.prog 19 #[.int .i64 q, resV e k z h d t A N c en] w (StrOut (showM q e k z h d t.data.toList (dataL N) en) w) := by
  obtain ⟨W1, hW1⟩ : ∃ W1, W1 = w.alloc (.cells #[.int .i64 e, .int .i64 k, .int .i64 z, .int .i64 h, .int .i64 d, .string t, .slice A N.length c, .bool en] 40) := ⟨_, rfl⟩
  have hb1 : Below w.heap.size w W1 := by rw [hW1]; exact (Below.refl _ _).alloc (Nat.le_refl _) _
  have hx : W1.heap[w.heap.size]? = some (resB e k z h d t A N c en) := by rw [hW1]; exact heap_alloc_new w _
  have HX := Lib.hid hx
  have HF := Lib.hid hf
  have HS1 := Lib.hid (hN.later hb1)
  have HB1 := Lib.hid hb1
  have HW := Lib.hid hW1.symm
  have hl : N.length ≤ 100 := hf.N.1
  unfold resB at hx
  have c0 : W1.cell? ⟨w.heap.size, 0, none⟩ = some (.int .i64 e) := cell_of_blk hx 0
  have c1 : W1.cell? ⟨w.heap.size, 1, none⟩ = some (.int .i64 k) := cell_of_blk hx 1
  have c2 : W1.cell? ⟨w.heap.size, 2, none⟩ = some (.int .i64 z) := cell_of_blk hx 2
  have c3 : W1.cell? ⟨w.heap.size, 3, none⟩ = some (.int .i64 h) := cell_of_blk hx 3
  have c4 : W1.cell? ⟨w.heap.size, 4, none⟩ = some (.int .i64 d) := cell_of_blk hx 4
  have c5 : W1.cell? ⟨w.heap.size, 5, none⟩ = some (.string t) := cell_of_blk hx 5
  have c6 : W1.cell? ⟨w.heap.size, 6, none⟩ = some (.slice A N.length c) := cell_of_blk hx 6
  have c7 : W1.cell? ⟨w.heap.size, 7, none⟩ = some (.bool en) := cell_of_blk hx 7
  clear hW1 hb1 hx hN hf
  unfold resV
  go_enter Tryd.func19, Tryd.ntmps19
  go_upto_region 1 with fail
  rw [HW.out]
  clear HW
  by_cases he : e = 0
  rotate_left 1
  · have ge : (e != 0) = true := by rw [bne_iff_ne]; exact he
    have HM := Lib.hid (show_err (q := q) (k := k) (z := z) (h := h) (d := d) (t := t.data.toList) (N := dataL N) (en := en) he)
    have HI := Lib.hid (refnum_any e HF.out.e W1)
    clear he
    go_wp2_with fail
    refine HI.out.mono ?_
    rintro en2 w2 ⟨⟨r, rfl, hr⟩, hb2⟩
    have hrz := num_size hr HF.out.e
    have y1 : ¬ 9223372036854775807 < 6 + r.size := by omega
    have HFn : Hid (StrOut (showM q e k z h d t.data.toList (dataL N) en) w (.returned (.string (⟨#[101, 114, 114, 111, 114, 32]⟩ ++ r))) w2) := Lib.hid ⟨⟨_, rfl, by rw [app_data, hr, HM.out]; rfl⟩, HB1.out.trans (hb2.mono HB1.out.size)⟩
    clear hr hb2 HI
    go_wp2_with fail
    go_ret
    exact HFn.out
  subst he
  by_cases h1 : q = 1
  · subst h1
    have HS : Hid (∀ w' : World, Below W1.heap.size W1 w' → (w'.cell? ⟨w.heap.size, 1, none⟩ = some (.int .i64 k) ∧ w'.cell? ⟨w.heap.size, 3, none⟩ = some (.int .i64 h))) := Lib.hid fun w' hb => by
      have e1 := (hb.block _ (lt_of_some HX.out)).trans HX.out
      unfold resB at e1
      exact ⟨cell_of_blk e1 1, cell_of_blk e1 3⟩
    have HBv : Hid (Below W1.heap.size W1 W1.drew) := Lib.hid (Below.refl _ _).drew
    have HA : Hid (∀ w' : World, Below W1.heap.size W1 w' → Calls Tryd.prog 11 #[.int .i64 k] w' fun e w'' => (∃ r : ByteArray, e = .returned (.string r) ∧ r.data.toList = Lib.itoa k) ∧ Below W1.heap.size W1 w'') := Lib.hid fun w' hb => (refnum_any k HF.out.k w').mono fun e w'' ⟨h1, h2⟩ => ⟨h1, hb.trans (h2.mono hb.size)⟩
    have HBB : Hid (∀ w' : World, Below W1.heap.size W1 w' → Calls Tryd.prog 11 #[.int .i64 h] w' fun e w'' => (∃ r : ByteArray, e = .returned (.string r) ∧ r.data.toList = Lib.itoa h) ∧ Below W1.heap.size W1 w'') := Lib.hid fun w' hb => (refnum_any h HF.out.h w').mono fun e w'' ⟨h1, h2⟩ => ⟨h1, hb.trans (h2.mono hb.size)⟩
    go_upto_region 5 with fail
    refine wp_region_held_drew (S := fun w' => (w'.cell? ⟨w.heap.size, 1, none⟩ = some (.int .i64 k) ∧ w'.cell? ⟨w.heap.size, 3, none⟩ = some (.int .i64 h))) (by kernel_rfl) (HS.out _ HBv.out) (fun hHeld => ?_)
    refine wpAnyH_take (i := 0) (oi := ⟨some 17, _, _, _, _, _⟩) (v := ?_) rfl (by kernel_rfl) (by kernel_rfl) (by kernel_rfl) (fun _ _ _ h => h) (Or.inl ⟨by kernel_rfl, ?_⟩) (by assumption) ?_
    rotate_left 1
    focus (intro w' hSw; (try dsimp only at hSw); go_simp; (try with_reducible rfl))
    try simp only [Act.put, List.setIfInBounds_toArray, List.set_cons_zero, List.set_cons_succ]
    refine wpAnyH_take (i := 1) (oi := ⟨some 18, _, _, _, _, _⟩) (v := ?_) rfl (by kernel_rfl) (by kernel_rfl) (by kernel_rfl) (fun _ _ _ h => h) (Or.inl ⟨by kernel_rfl, ?_⟩) (by assumption) ?_
    rotate_left 1
    focus (intro w' hSw; (try dsimp only at hSw); go_simp; (try with_reducible rfl))
    try simp only [Act.put, List.setIfInBounds_toArray, List.set_cons_zero, List.set_cons_succ]
    refine wpAnyH_take (i := 5) (oi := ⟨some 22, _, _, _, _, _⟩) (v := ?_) rfl (by kernel_rfl) (by kernel_rfl) (by kernel_rfl) (fun _ _ _ h => h) (Or.inl ⟨by kernel_rfl, ?_⟩) (by assumption) ?_
    rotate_left 1
    focus (intro w' hSw; (try dsimp only at hSw); go_simp; (try with_reducible rfl))
    try simp only [Act.put, List.setIfInBounds_toArray, List.set_cons_zero, List.set_cons_succ]
    refine wpAnyH_take (i := 6) (oi := ⟨some 23, _, _, _, _, _⟩) (v := ?_) rfl (by kernel_rfl) (by kernel_rfl) (by kernel_rfl) (fun _ _ _ h => h) (Or.inl ⟨by kernel_rfl, ?_⟩) (by assumption) ?_
    rotate_left 1
    focus (intro w' hSw; (try dsimp only at hSw); go_simp; (try with_reducible rfl))
    try simp only [Act.put, List.setIfInBounds_toArray, List.set_cons_zero, List.set_cons_succ]
    refine wpAnyH_ready (rs := [2]) (by kernel_rfl) (by simp) ?_
    refine AllReadyH.cons rfl (fun K hK => ?_) AllReadyH.nil
    go_simp
    go_at_call 11
    refine (HA.out _ HBv.out).mono ?_
    rintro en1 v1 ⟨⟨ra, rfl, hra⟩, hv1⟩
    have ya := num_size hra HF.out.k
    have y1 : ¬ 9223372036854775807 < 3 + ra.size := by omega
    have y2 : ¬ 9223372036854775807 < 3 + ra.size + 1 := by omega
    clear hHeld
    refine hK.out _ _ (HS.out _ hv1) (fun hHeld => ?_)
    clear hK
    refine wpAnyH_take (i := 3) (oi := ⟨some 20, _, _, _, _, _⟩) (v := ?_) rfl (by kernel_rfl) (by kernel_rfl) (by kernel_rfl) (fun _ _ _ h => h) (Or.inl ⟨by kernel_rfl, ?_⟩) (by assumption) ?_
    rotate_left 1
    focus (intro w' hSw; (try dsimp only at hSw); go_simp; (try with_reducible rfl))
    try simp only [Act.put, List.setIfInBounds_toArray, List.set_cons_zero, List.set_cons_succ]
    refine wpAnyH_take (i := 4) (oi := ⟨some 21, _, _, _, _, _⟩) (v := ?_) rfl (by kernel_rfl) (by kernel_rfl) (by kernel_rfl) (fun _ _ _ h => h) (Or.inl ⟨by kernel_rfl, ?_⟩) (by assumption) ?_
    rotate_left 1
    focus (intro w' hSw; (try dsimp only at hSw); go_simp; (try with_reducible rfl))
    try simp only [Act.put, List.setIfInBounds_toArray, List.set_cons_zero, List.set_cons_succ]
    refine wpAnyH_ready (rs := [7]) (by kernel_rfl) (by simp) ?_
    refine AllReadyH.cons rfl (fun K hK => ?_) AllReadyH.nil
    go_simp
    go_at_call 11
    refine (HBB.out _ hv1).mono ?_
    rintro en2 v2 ⟨⟨rb, rfl, hrb⟩, hv2⟩
    have yb := num_size hrb HF.out.h
    have y3 : ¬ 9223372036854775807 < 3 + ra.size + 1 + rb.size := by omega
    clear hHeld
    refine hK.out _ _ (HS.out _ hv2) (fun hHeld => ?_)
    clear hK
    refine wpAnyH_take (i := 8) (oi := ⟨some 25, _, _, _, _, _⟩) (v := ?_) rfl (by kernel_rfl) (by kernel_rfl) (by kernel_rfl) (fun _ _ _ h => h) (Or.inl ⟨by kernel_rfl, ?_⟩) (by assumption) ?_
    rotate_left 1
    focus (intro w' hSw; (try dsimp only at hSw); go_simp; (try with_reducible rfl))
    try simp only [Act.put, List.setIfInBounds_toArray, List.set_cons_zero, List.set_cons_succ]
    refine wpAnyH_take (i := 9) (oi := ⟨some 4, _, _, _, _, _⟩) (v := ?_) rfl (by kernel_rfl) (by kernel_rfl) (by kernel_rfl) (fun _ _ _ h => h) (Or.inl ⟨by kernel_rfl, ?_⟩) (by assumption) ?_
    rotate_left 1
    focus (intro w' hSw; (try dsimp only at hSw); go_simp; (try with_reducible rfl))
    try simp only [Act.put, List.setIfInBounds_toArray, List.set_cons_zero, List.set_cons_succ]
    refine wpAnyH_done (by kernel_rfl) ?_ _
    have HFn : Hid (StrOut (showM 1 0 k z h d t.data.toList (dataL N) en) w (.returned (.string (⟨#[111, 107, 32]⟩ ++ ra ++ ⟨#[32]⟩ ++ rb))) v2) := Lib.hid ⟨⟨_, rfl, by simp only [app_data, hra, hrb, show_ok, List.append_assoc]; rfl⟩, HB1.out.trans (hv2.mono HB1.out.size)⟩
    clear hHeld hra hrb hv1 hv2 HA HBB HS HBv
    go_wp2_with fail
    go_ret
    exact HFn.out
  have g1 : (q == 1) = false := by rw [beq_eq_false_iff_ne]; exact h1
  by_cases h2 : q = 2
  · subst h2
    clear h1
    have HS : Hid (∀ w' : World, Below W1.heap.size W1 w' → (w'.cell? ⟨w.heap.size, 1, none⟩ = some (.int .i64 k) ∧ w'.cell? ⟨w.heap.size, 2, none⟩ = some (.int .i64 z))) := Lib.hid fun w' hb => by
      have e1 := (hb.block _ (lt_of_some HX.out)).trans HX.out
      unfold resB at e1
      exact ⟨cell_of_blk e1 1, cell_of_blk e1 2⟩
    have HBv : Hid (Below W1.heap.size W1 W1.drew) := Lib.hid (Below.refl _ _).drew
    have HA : Hid (∀ w' : World, Below W1.heap.size W1 w' → Calls Tryd.prog 11 #[.int .i64 k] w' fun e w'' => (∃ r : ByteArray, e = .returned (.string r) ∧ r.data.toList = Lib.itoa k) ∧ Below W1.heap.size W1 w'') := Lib.hid fun w' hb => (refnum_any k HF.out.k w').mono fun e w'' ⟨h1, h2⟩ => ⟨h1, hb.trans (h2.mono hb.size)⟩
    have HBB : Hid (∀ w' : World, Below W1.heap.size W1 w' → Calls Tryd.prog 11 #[.int .i64 z] w' fun e w'' => (∃ r : ByteArray, e = .returned (.string r) ∧ r.data.toList = Lib.itoa z) ∧ Below W1.heap.size W1 w'') := Lib.hid fun w' hb => (refnum_any z HF.out.z w').mono fun e w'' ⟨h1, h2⟩ => ⟨h1, hb.trans (h2.mono hb.size)⟩
    go_upto_region 7 with fail
    refine wp_region_held_drew (S := fun w' => (w'.cell? ⟨w.heap.size, 1, none⟩ = some (.int .i64 k) ∧ w'.cell? ⟨w.heap.size, 2, none⟩ = some (.int .i64 z))) (by kernel_rfl) (HS.out _ HBv.out) (fun hHeld => ?_)
    refine wpAnyH_take (i := 0) (oi := ⟨some 28, _, _, _, _, _⟩) (v := ?_) rfl (by kernel_rfl) (by kernel_rfl) (by kernel_rfl) (fun _ _ _ h => h) (Or.inl ⟨by kernel_rfl, ?_⟩) (by assumption) ?_
    rotate_left 1
    focus (intro w' hSw; (try dsimp only at hSw); go_simp; (try with_reducible rfl))
    try simp only [Act.put, List.setIfInBounds_toArray, List.set_cons_zero, List.set_cons_succ]
    refine wpAnyH_take (i := 1) (oi := ⟨some 29, _, _, _, _, _⟩) (v := ?_) rfl (by kernel_rfl) (by kernel_rfl) (by kernel_rfl) (fun _ _ _ h => h) (Or.inl ⟨by kernel_rfl, ?_⟩) (by assumption) ?_
    rotate_left 1
    focus (intro w' hSw; (try dsimp only at hSw); go_simp; (try with_reducible rfl))
    try simp only [Act.put, List.setIfInBounds_toArray, List.set_cons_zero, List.set_cons_succ]
    refine wpAnyH_take (i := 5) (oi := ⟨some 33, _, _, _, _, _⟩) (v := ?_) rfl (by kernel_rfl) (by kernel_rfl) (by kernel_rfl) (fun _ _ _ h => h) (Or.inl ⟨by kernel_rfl, ?_⟩) (by assumption) ?_
    rotate_left 1
    focus (intro w' hSw; (try dsimp only at hSw); go_simp; (try with_reducible rfl))
    try simp only [Act.put, List.setIfInBounds_toArray, List.set_cons_zero, List.set_cons_succ]
    refine wpAnyH_take (i := 6) (oi := ⟨some 34, _, _, _, _, _⟩) (v := ?_) rfl (by kernel_rfl) (by kernel_rfl) (by kernel_rfl) (fun _ _ _ h => h) (Or.inl ⟨by kernel_rfl, ?_⟩) (by assumption) ?_
    rotate_left 1
    focus (intro w' hSw; (try dsimp only at hSw); go_simp; (try with_reducible rfl))
    try simp only [Act.put, List.setIfInBounds_toArray, List.set_cons_zero, List.set_cons_succ]
    refine wpAnyH_ready (rs := [2]) (by kernel_rfl) (by simp) ?_
    refine AllReadyH.cons rfl (fun K hK => ?_) AllReadyH.nil
    go_simp
    go_at_call 11
    refine (HA.out _ HBv.out).mono ?_
    rintro en1 v1 ⟨⟨ra, rfl, hra⟩, hv1⟩
    have ya := num_size hra HF.out.k
    have y1 : ¬ 9223372036854775807 < 3 + ra.size := by omega
    have y2 : ¬ 9223372036854775807 < 3 + ra.size + 1 := by omega
    clear hHeld
    refine hK.out _ _ (HS.out _ hv1) (fun hHeld => ?_)
    clear hK
    refine wpAnyH_take (i := 3) (oi := ⟨some 31, _, _, _, _, _⟩) (v := ?_) rfl (by kernel_rfl) (by kernel_rfl) (by kernel_rfl) (fun _ _ _ h => h) (Or.inl ⟨by kernel_rfl, ?_⟩) (by assumption) ?_
    rotate_left 1
    focus (intro w' hSw; (try dsimp only at hSw); go_simp; (try with_reducible rfl))
    try simp only [Act.put, List.setIfInBounds_toArray, List.set_cons_zero, List.set_cons_succ]
    refine wpAnyH_take (i := 4) (oi := ⟨some 32, _, _, _, _, _⟩) (v := ?_) rfl (by kernel_rfl) (by kernel_rfl) (by kernel_rfl) (fun _ _ _ h => h) (Or.inl ⟨by kernel_rfl, ?_⟩) (by assumption) ?_
    rotate_left 1
    focus (intro w' hSw; (try dsimp only at hSw); go_simp; (try with_reducible rfl))
    try simp only [Act.put, List.setIfInBounds_toArray, List.set_cons_zero, List.set_cons_succ]
    refine wpAnyH_ready (rs := [7]) (by kernel_rfl) (by simp) ?_
    refine AllReadyH.cons rfl (fun K hK => ?_) AllReadyH.nil
    go_simp
    go_at_call 11
    refine (HBB.out _ hv1).mono ?_
    rintro en2 v2 ⟨⟨rb, rfl, hrb⟩, hv2⟩
    have yb := num_size hrb HF.out.z
    have y3 : ¬ 9223372036854775807 < 3 + ra.size + 1 + rb.size := by omega
    clear hHeld
    refine hK.out _ _ (HS.out _ hv2) (fun hHeld => ?_)
    clear hK
    refine wpAnyH_take (i := 8) (oi := ⟨some 36, _, _, _, _, _⟩) (v := ?_) rfl (by kernel_rfl) (by kernel_rfl) (by kernel_rfl) (fun _ _ _ h => h) (Or.inl ⟨by kernel_rfl, ?_⟩) (by assumption) ?_
    rotate_left 1
    focus (intro w' hSw; (try dsimp only at hSw); go_simp; (try with_reducible rfl))
    try simp only [Act.put, List.setIfInBounds_toArray, List.set_cons_zero, List.set_cons_succ]
    refine wpAnyH_take (i := 9) (oi := ⟨some 4, _, _, _, _, _⟩) (v := ?_) rfl (by kernel_rfl) (by kernel_rfl) (by kernel_rfl) (fun _ _ _ h => h) (Or.inl ⟨by kernel_rfl, ?_⟩) (by assumption) ?_
    rotate_left 1
    focus (intro w' hSw; (try dsimp only at hSw); go_simp; (try with_reducible rfl))
    try simp only [Act.put, List.setIfInBounds_toArray, List.set_cons_zero, List.set_cons_succ]
    refine wpAnyH_done (by kernel_rfl) ?_ _
    have HFn : Hid (StrOut (showM 2 0 k z h d t.data.toList (dataL N) en) w (.returned (.string (⟨#[111, 107, 32]⟩ ++ ra ++ ⟨#[32]⟩ ++ rb))) v2) := Lib.hid ⟨⟨_, rfl, by simp only [app_data, hra, hrb, show_ok, List.append_assoc]; rfl⟩, HB1.out.trans (hv2.mono HB1.out.size)⟩
    clear hHeld hra hrb hv1 hv2 HA HBB HS HBv
    go_wp2_with fail
    go_ret
    exact HFn.out
  have g2 : (q == 2) = false := by rw [beq_eq_false_iff_ne]; exact h2
  by_cases h3 : q = 3
  · subst h3
    clear h1 h2
    have HC := Lib.hid (refhex_any t W1 (by have := HF.out.t; omega))
    go_wp2_with fail
    refine HC.out.mono ?_
    rintro en2 w2 ⟨⟨r, rfl, hr⟩, hb2⟩
    have hrz : r.size ≤ 30000 := by have h1 := hexL_len t.data.toList; rw [← hr, size_list, size_list] at h1; have := HF.out.t; omega
    have y1 : ¬ 9223372036854775807 < 3 + r.size := by omega
    have HFn : Hid (StrOut (showM 3 0 k z h d t.data.toList (dataL N) en) w (.returned (.string (⟨#[111, 107, 32]⟩ ++ r))) w2) := Lib.hid ⟨⟨_, rfl, by rw [app_data, hr, show_ok]; rfl⟩, HB1.out.trans (hb2.mono HB1.out.size)⟩
    clear hr hb2 HC
    go_wp2_with fail
    go_ret
    exact HFn.out
  have g3 : (q == 3) = false := by rw [beq_eq_false_iff_ne]; exact h3
  by_cases h4 : q = 4
  · subst h4
    clear h1 h2 h3
    have HC := Lib.hid (refhex_any t W1 (by have := HF.out.t; omega))
    go_wp2_with fail
    refine HC.out.mono ?_
    rintro en2 w2 ⟨⟨r, rfl, hr⟩, hb2⟩
    have hrz : r.size ≤ 30000 := by have h1 := hexL_len t.data.toList; rw [← hr, size_list, size_list] at h1; have := HF.out.t; omega
    have y1 : ¬ 9223372036854775807 < 3 + r.size := by omega
    have HFn : Hid (StrOut (showM 4 0 k z h d t.data.toList (dataL N) en) w (.returned (.string (⟨#[111, 107, 32]⟩ ++ r))) w2) := Lib.hid ⟨⟨_, rfl, by rw [app_data, hr, show_ok]; rfl⟩, HB1.out.trans (hb2.mono HB1.out.size)⟩
    clear hr hb2 HC
    go_wp2_with fail
    go_ret
    exact HFn.out
  have g4 : (q == 4) = false := by rw [beq_eq_false_iff_ne]; exact h4
  by_cases h5 : q = 5
  · subst h5
    clear h1 h2 h3 h4
    have HC := Lib.hid (refnum_any d HF.out.d W1)
    go_wp2_with fail
    refine HC.out.mono ?_
    rintro en2 w2 ⟨⟨r, rfl, hr⟩, hb2⟩
    have hrz : r.size ≤ 30000 := by have := num_size hr HF.out.d; omega
    have y1 : ¬ 9223372036854775807 < 3 + r.size := by omega
    have HFn : Hid (StrOut (showM 5 0 k z h d t.data.toList (dataL N) en) w (.returned (.string (⟨#[111, 107, 32]⟩ ++ r))) w2) := Lib.hid ⟨⟨_, rfl, by rw [app_data, hr, show_ok]; rfl⟩, HB1.out.trans (hb2.mono HB1.out.size)⟩
    clear hr hb2 HC
    go_wp2_with fail
    go_ret
    exact HFn.out
  have g5 : (q == 5) = false := by rw [beq_eq_false_iff_ne]; exact h5
  by_cases h8 : q = 8
  · subst h8
    clear h1 h2 h3 h4 h5
    have HC := Lib.hid (refnum_any d HF.out.d W1)
    go_wp2_with fail
    refine HC.out.mono ?_
    rintro en2 w2 ⟨⟨r, rfl, hr⟩, hb2⟩
    have hrz : r.size ≤ 30000 := by have := num_size hr HF.out.d; omega
    have y1 : ¬ 9223372036854775807 < 3 + r.size := by omega
    have HFn : Hid (StrOut (showM 8 0 k z h d t.data.toList (dataL N) en) w (.returned (.string (⟨#[111, 107, 32]⟩ ++ r))) w2) := Lib.hid ⟨⟨_, rfl, by rw [app_data, hr, show_ok]; rfl⟩, HB1.out.trans (hb2.mono HB1.out.size)⟩
    clear hr hb2 HC
    go_wp2_with fail
    go_ret
    exact HFn.out
  have g8 : (q == 8) = false := by rw [beq_eq_false_iff_ne]; exact h8
  by_cases h6 : q = 6
  · subst h6
    clear h1 h2 h3 h4 h5 h8
    have HSm : Hid (showM 6 0 k z h d t.data.toList (dataL N) en = joinM (okL :: pageM en (dataL N))) := Lib.hid rfl
    obtain ⟨s0, hs0, hz0⟩ : ∃ s0 : ByteArray, s0.data.toList = joinM (okL :: pageM en (dataL (N.take 0))) ∧ s0.size ≤ 10 := by
      cases en
      · exact ⟨⟨#[111, 107]⟩, rfl, by decide⟩
      · exact ⟨⟨#[111, 107, 32, 101, 110, 100]⟩, rfl, by decide⟩
    have h0 : en = false → s0 = ⟨#[111, 107]⟩ := fun h => by subst h; exact data_inj hs0
    have h1 : en = true → s0 = ⟨#[111, 107, 32, 101, 110, 100]⟩ := fun h => by subst h; exact data_inj hs0
    have HS0 := Lib.hid hs0
    clear hs0
    have Htail : Hid (Below W1.heap.size W1 W1) := Lib.hid (Below.refl _ _)
    rcases hen : en with _ | _
    · have hs := h0 hen
      subst hen
      rw [hs] at HS0 hz0
      have HSt : Hid ((⟨#[111, 107]⟩ : ByteArray).data.toList = joinM (okL :: pageM false (dataL (N.take 0)))) := HS0
      clear h0 h1 hs HS0
      go_wp2_with fail
      go_loopw [5, 6] (fun v5 v6 wr => ∃ (j : Nat) (r : ByteArray), j ≤ N.length ∧ v6 = .int .i64 (j : Int) ∧ v5 = .string r ∧ r.size ≤ 10 + j * 2002 ∧ Hid (r.data.toList = joinM (okL :: pageM false (dataL (N.take j)))) ∧ Hid (Below W1.heap.size W1 wr)) (fun _ v _ => N.length - (intOf v).toNat)
      case atStart => exact ⟨0, _, Nat.zero_le _, rfl, rfl, by decide, HSt, Htail⟩
      case round =>
        clear HSt
        obtain ⟨j, r, hj, rfl, rfl, hrz, hr, HBr⟩ := hrel
        have j0 : (0 : Int) ≤ (j : Int) := by omega
        have ex := (HBr.out.block _ (lt_of_some HX.out)).trans HX.out
        unfold resB at ex
        have d6 : wr.cell? ⟨w.heap.size, 6, none⟩ = some (.slice A N.length c) := cell_of_blk ex 6
        have hrl : r.size ≤ 300000 := by have : j * 2002 ≤ 100 * 2002 := Nat.mul_le_mul_right _ (by omega); omega
        clear ex
        by_cases hjs : j < N.length
        · have j1 : (j : Int) < (N.length : Int) := by omega
          obtain ⟨x, hxj⟩ : ∃ x, N[j]? = some x := ⟨_, List.getElem?_eq_getElem hjs⟩
          obtain ⟨b, off, hA, hb, hcx⟩ := (HS1.out.later HBr.out) j x hxj
          subst hA
          have hxs := HF.out.N.2 x (List.mem_of_getElem? hxj)
          have HC := Lib.hid (refhex_any x wr (by omega))
          have HXj := Lib.hid (show pageM false (dataL (N.take (j + 1))) = pageM false (dataL (N.take j)) ++ [hexL x.data.toList] by rw [take_one hxj, dataL, List.map_append]; exact pageM_snoc _ _ _)
          have HL := Lib.hid (hexL_len x.data.toList)
          have y0 : ¬ 9223372036854775807 < r.size + 1 := by omega
          clear hxj hb
          go_wp2_with fail
          refine HC.out.mono ?_
          rintro en2 w3 ⟨⟨u, rfl, hu⟩, hb3⟩
          have huz : u.size ≤ 2001 := by have h1 := HL.out; rw [← hu, size_list, size_list] at h1; omega
          have y1 : ¬ 9223372036854775807 < r.size + 1 + u.size := by omega
          have H4 : Hid ((r ++ ⟨#[32]⟩ ++ u).data.toList = joinM (okL :: pageM false (dataL (N.take (j + 1))))) := Lib.hid (by rw [HXj.out, join_snoc, ← hr.out, ← hu, app_data, app_data, List.append_assoc]; rfl)
          have HB4 := Lib.hid (HBr.out.trans (hb3.mono HBr.out.size))
          have HZ4 : Hid ((r ++ ⟨#[32]⟩ ++ u).size ≤ 10 + (j + 1) * 2002) := Lib.hid (by rw [ByteArray.size_append, ByteArray.size_append]; show r.size + 1 + u.size ≤ _; omega)
          clear hu hb3 HC hr HXj hcx d6
          go_wp2_with fail
          go_roundw
          case rel => exact ⟨j + 1, r ++ ⟨#[32]⟩ ++ u, by omega, by go_num, rfl, HZ4.out, H4, HB4⟩
          case measure => simp [intOf]; omega
        · obtain rfl : j = N.length := by omega
          have j1 : ¬ (N.length : Int) < (N.length : Int) := by omega
          have h1 := hr.out
          rw [List.take_length] at h1
          have HFn : Hid (StrOut (showM 6 0 k z h d t.data.toList (dataL N) false) w (.returned (.string r)) wr) := Lib.hid ⟨⟨r, rfl, by rw [h1]; rfl⟩, HB1.out.trans (HBr.out.mono HB1.out.size)⟩
          clear h1 hr
          go_wp2_with fail
          go_ret
          exact HFn.out
    · have hs := h1 hen
      subst hen
      rw [hs] at HS0 hz0
      have HSt : Hid ((⟨#[111, 107, 32, 101, 110, 100]⟩ : ByteArray).data.toList = joinM (okL :: pageM true (dataL (N.take 0)))) := HS0
      clear h0 h1 hs HS0
      go_wp2_with fail
      go_loopw [5, 6] (fun v5 v6 wr => ∃ (j : Nat) (r : ByteArray), j ≤ N.length ∧ v6 = .int .i64 (j : Int) ∧ v5 = .string r ∧ r.size ≤ 10 + j * 2002 ∧ Hid (r.data.toList = joinM (okL :: pageM true (dataL (N.take j)))) ∧ Hid (Below W1.heap.size W1 wr)) (fun _ v _ => N.length - (intOf v).toNat)
      case atStart => exact ⟨0, _, Nat.zero_le _, rfl, rfl, by decide, HSt, Htail⟩
      case round =>
        clear HSt
        obtain ⟨j, r, hj, rfl, rfl, hrz, hr, HBr⟩ := hrel
        have j0 : (0 : Int) ≤ (j : Int) := by omega
        have ex := (HBr.out.block _ (lt_of_some HX.out)).trans HX.out
        unfold resB at ex
        have d6 : wr.cell? ⟨w.heap.size, 6, none⟩ = some (.slice A N.length c) := cell_of_blk ex 6
        have hrl : r.size ≤ 300000 := by have : j * 2002 ≤ 100 * 2002 := Nat.mul_le_mul_right _ (by omega); omega
        clear ex
        by_cases hjs : j < N.length
        · have j1 : (j : Int) < (N.length : Int) := by omega
          obtain ⟨x, hxj⟩ : ∃ x, N[j]? = some x := ⟨_, List.getElem?_eq_getElem hjs⟩
          obtain ⟨b, off, hA, hb, hcx⟩ := (HS1.out.later HBr.out) j x hxj
          subst hA
          have hxs := HF.out.N.2 x (List.mem_of_getElem? hxj)
          have HC := Lib.hid (refhex_any x wr (by omega))
          have HXj := Lib.hid (show pageM true (dataL (N.take (j + 1))) = pageM true (dataL (N.take j)) ++ [hexL x.data.toList] by rw [take_one hxj, dataL, List.map_append]; exact pageM_snoc _ _ _)
          have HL := Lib.hid (hexL_len x.data.toList)
          have y0 : ¬ 9223372036854775807 < r.size + 1 := by omega
          clear hxj hb
          go_wp2_with fail
          refine HC.out.mono ?_
          rintro en2 w3 ⟨⟨u, rfl, hu⟩, hb3⟩
          have huz : u.size ≤ 2001 := by have h1 := HL.out; rw [← hu, size_list, size_list] at h1; omega
          have y1 : ¬ 9223372036854775807 < r.size + 1 + u.size := by omega
          have H4 : Hid ((r ++ ⟨#[32]⟩ ++ u).data.toList = joinM (okL :: pageM true (dataL (N.take (j + 1))))) := Lib.hid (by rw [HXj.out, join_snoc, ← hr.out, ← hu, app_data, app_data, List.append_assoc]; rfl)
          have HB4 := Lib.hid (HBr.out.trans (hb3.mono HBr.out.size))
          have HZ4 : Hid ((r ++ ⟨#[32]⟩ ++ u).size ≤ 10 + (j + 1) * 2002) := Lib.hid (by rw [ByteArray.size_append, ByteArray.size_append]; show r.size + 1 + u.size ≤ _; omega)
          clear hu hb3 HC hr HXj hcx d6
          go_wp2_with fail
          go_roundw
          case rel => exact ⟨j + 1, r ++ ⟨#[32]⟩ ++ u, by omega, by go_num, rfl, HZ4.out, H4, HB4⟩
          case measure => simp [intOf]; omega
        · obtain rfl : j = N.length := by omega
          have j1 : ¬ (N.length : Int) < (N.length : Int) := by omega
          have h1 := hr.out
          rw [List.take_length] at h1
          have HFn : Hid (StrOut (showM 6 0 k z h d t.data.toList (dataL N) true) w (.returned (.string r)) wr) := Lib.hid ⟨⟨r, rfl, by rw [h1]; rfl⟩, HB1.out.trans (HBr.out.mono HB1.out.size)⟩
          clear h1 hr
          go_wp2_with fail
          go_ret
          exact HFn.out
  have g6 : (q == 6) = false := by rw [beq_eq_false_iff_ne]; exact h6
  have HFn : Hid (StrOut (showM q 0 k z h d t.data.toList (dataL N) en) w (.returned (.string ⟨#[111, 107]⟩)) W1) := Lib.hid ⟨⟨_, rfl, by
    rw [show_ok]
    unfold ansM
    rw [if_neg h1, if_neg h2, if_neg (fun h => h.elim h3 h4), if_neg (fun h => h.elim h5 h8), if_neg h6]
    rfl⟩, HB1.out⟩
  clear h1 h2 h3 h4 h5 h8 h6
  go_wp2_with fail
  go_ret
  exact HFn.out
end Go.Proofs.YtblhicfllomdlaaDoor.cal
