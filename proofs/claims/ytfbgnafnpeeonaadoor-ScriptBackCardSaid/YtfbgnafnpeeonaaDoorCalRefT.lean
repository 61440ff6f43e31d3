/- What the reference's Text answers. Condition: at most a million bytes; numbers of 64 bits. -/
import Derived.Test.YtfbgnafnpeeonaaDoorCalText
namespace Go.Proofs.YtfbgnafnpeeonaaDoor.cal
set_option maxRecDepth 100000
open Go.RowKit Go.Proofs.YtfbgnafnpeeonaaDoor.words

theorem text_some {k o n i : Int} {p g : ByteArray} (h : 1 ≤ k ∧ k ≤ 9) : textM (opM k p o n i g) = joinM (wordL k :: restM (opM k p o n i g)) := if_neg (kind_word k h).2.2
theorem text_none {k o n i : Int} {p g : ByteArray} (h : ¬ (1 ≤ k ∧ k ≤ 9)) : textM (opM k p o n i g) = [] := by
  rcases kind_cases k with h1 | ⟨h1, _⟩
  · omega
  · exact if_pos h1
theorem num_size {r : ByteArray} {n : Int} (hr : r.data.toList = Lib.itoa n) (hn : I64 n) : r.size ≤ 21 := by
  rw [← size_list, hr]
  exact Lib.itoa_length_le n hn.1 hn.2
set_option maxHeartbeats 6400000 in
theorem reftext_any (k : Int) (p : ByteArray) (o n i : Int) (g : ByteArray) (w : World) (hf : OpFit o n i p g) : Calls Tryd.prog 26 #[opV k p o n i g] w (StrOut (textM (opM k p o n i g)) w) := by
  obtain ⟨W1, hW1⟩ : ∃ W1, W1 = w.alloc (.cells #[.int .i64 k, .string p, .int .i64 o, .int .i64 n, .int .i64 i, .string g] 45) := ⟨_, rfl⟩
  have hb1 : Below w.heap.size w W1 := by rw [hW1]; exact (Below.refl _ _).alloc (Nat.le_refl _) _
  have hx : W1.heap[w.heap.size]? = some (opB k p o n i g) := by rw [hW1]; exact heap_alloc_new w _
  have HX := Lib.hid hx
  unfold opB at hx
  have HB1 := Lib.hid hb1
  have HF := Lib.hid hf
  have HW := Lib.hid hW1.symm
  have c0 : W1.cell? ⟨w.heap.size, 0, none⟩ = some (.int .i64 k) := cell_of_blk hx 0
  have c1 : W1.cell? ⟨w.heap.size, 1, none⟩ = some (.string p) := cell_of_blk hx 1
  have c2 : W1.cell? ⟨w.heap.size, 2, none⟩ = some (.int .i64 o) := cell_of_blk hx 2
  have c3 : W1.cell? ⟨w.heap.size, 3, none⟩ = some (.int .i64 n) := cell_of_blk hx 3
  have c4 : W1.cell? ⟨w.heap.size, 4, none⟩ = some (.int .i64 i) := cell_of_blk hx 4
  have c5 : W1.cell? ⟨w.heap.size, 5, none⟩ = some (.string g) := cell_of_blk hx 5
  clear hW1 hb1 hx hf
  unfold opV
  go_enter Tryd.func26, Tryd.ntmps26
  go_upto_region 1 with fail
  rw [HW.out]
  clear HW
  by_cases k0 : k < 1
  · have HT := Lib.hid (text_none (p := p) (o := o) (n := n) (i := i) (g := g) (show ¬ (1 ≤ k ∧ k ≤ 9) by omega))
    go_wp2_with fail
    go_ret
    exact ⟨⟨_, rfl, by rw [HT.out]⟩, HB1.out⟩
  by_cases k9 : 9 < k
  · have HT := Lib.hid (text_none (p := p) (o := o) (n := n) (i := i) (g := g) (show ¬ (1 ≤ k ∧ k ≤ 9) by omega))
    go_wp2_with fail
    go_ret
    exact ⟨⟨_, rfl, by rw [HT.out]⟩, HB1.out⟩
  have HT := Lib.hid (text_some (p := p) (o := o) (n := n) (i := i) (g := g) (show 1 ≤ k ∧ k ≤ 9 by omega))
  have HN := Lib.hid (name_any k W1)
  have HWl := Lib.hid (word_len k)
  go_wp2_with fail
  refine HN.out.mono ?_
  rintro e w2 ⟨⟨nm, rfl, hnm⟩, hb2⟩
  have hz0 : nm.size ≤ 8 := by rw [← size_list, hnm]; exact HWl.out
  have hz1 : (nm ++ ⟨#[32]⟩).size ≤ 9 := by rw [ByteArray.size_append]; exact Nat.succ_le_succ hz0
  have HX2 := Lib.hid ((hb2.block _ (lt_of_some HX.out)).trans HX.out)
  have hx2 := HX2.out
  unfold opB at hx2
  have HB2 := Lib.hid (HB1.out.trans (hb2.mono HB1.out.size))
  have HNm := Lib.hid hnm
  clear c0 c1 c2 c3 c4 c5 hb2 hnm HN k0 k9
  have c0 : w2.cell? ⟨w.heap.size, 0, none⟩ = some (.int .i64 k) := cell_of_blk hx2 0
  have c1 : w2.cell? ⟨w.heap.size, 1, none⟩ = some (.string p) := cell_of_blk hx2 1
  have c2 : w2.cell? ⟨w.heap.size, 2, none⟩ = some (.int .i64 o) := cell_of_blk hx2 2
  have c3 : w2.cell? ⟨w.heap.size, 3, none⟩ = some (.int .i64 n) := cell_of_blk hx2 3
  have c4 : w2.cell? ⟨w.heap.size, 4, none⟩ = some (.int .i64 i) := cell_of_blk hx2 4
  have c5 : w2.cell? ⟨w.heap.size, 5, none⟩ = some (.string g) := cell_of_blk hx2 5
  clear hx2
  go_upto_region 4 with fail
  obtain ⟨s0, hs0⟩ : ∃ s0, s0 = nm ++ (⟨#[32]⟩ : ByteArray) := ⟨_, rfl⟩
  rw [← hs0] at hz1 ⊢
  have HS0 : Hid (s0.data.toList = wordL k ++ [32]) := Lib.hid (by rw [hs0, app_data, HNm.out])
  clear hs0 hz0
  by_cases h4 : k = 4
  · subst h4
    have HS : Hid (∀ w' : World, Below w2.heap.size w2 w' → (w'.cell? ⟨w.heap.size, 2, none⟩ = some (.int .i64 o) ∧ w'.cell? ⟨w.heap.size, 3, none⟩ = some (.int .i64 n) ∧ w'.cell? ⟨w.heap.size, 1, none⟩ = some (.string p))) := Lib.hid fun w' hb => by
      have e := (hb.block _ (lt_of_some HX2.out)).trans HX2.out
      unfold opB at e
      exact ⟨cell_of_blk e 2, cell_of_blk e 3, cell_of_blk e 1⟩
    have HBv : Hid (Below w2.heap.size w2 w2.drew) := Lib.hid (Below.refl _ _).drew
    have HA : Hid (∀ w' : World, Below w2.heap.size w2 w' → Calls Tryd.prog 24 #[.int .i64 o] w' fun e w'' => (∃ r : ByteArray, e = .returned (.string r) ∧ r.data.toList = Lib.itoa o) ∧ Below w2.heap.size w2 w'') := Lib.hid fun w' hb => (refnum_any o HF.out.o w').mono fun e w'' ⟨h1, h2⟩ => ⟨h1, hb.trans (h2.mono hb.size)⟩
    have HBB : Hid (∀ w' : World, Below w2.heap.size w2 w' → Calls Tryd.prog 24 #[.int .i64 n] w' fun e w'' => (∃ r : ByteArray, e = .returned (.string r) ∧ r.data.toList = Lib.itoa n) ∧ Below w2.heap.size w2 w'') := Lib.hid fun w' hb => (refnum_any n HF.out.n w').mono fun e w'' ⟨h1, h2⟩ => ⟨h1, hb.trans (h2.mono hb.size)⟩
    go_upto_region 6 with fail
    refine wp_region_held_drew (S := fun w' => (w'.cell? ⟨w.heap.size, 2, none⟩ = some (.int .i64 o) ∧ w'.cell? ⟨w.heap.size, 3, none⟩ = some (.int .i64 n) ∧ w'.cell? ⟨w.heap.size, 1, none⟩ = some (.string p))) (by kernel_rfl) (HS.out _ HBv.out) (fun hHeld => ?_)
    refine wpAnyH_take (i := 0) (oi := ⟨some 20, _, _, _, _, _⟩) (v := ?_) rfl (by kernel_rfl) (by kernel_rfl) (by kernel_rfl) (fun _ _ _ h => h) (Or.inl ⟨by kernel_rfl, ?_⟩) (by assumption) ?_
    rotate_left 1
    focus (intro w' hSw; (try dsimp only at hSw); go_simp; (try with_reducible rfl))
    try simp only [Act.put, List.setIfInBounds_toArray, List.set_cons_zero, List.set_cons_succ]
    refine wpAnyH_take (i := 1) (oi := ⟨some 21, _, _, _, _, _⟩) (v := ?_) rfl (by kernel_rfl) (by kernel_rfl) (by kernel_rfl) (fun _ _ _ h => h) (Or.inl ⟨by kernel_rfl, ?_⟩) (by assumption) ?_
    rotate_left 1
    focus (intro w' hSw; (try dsimp only at hSw); go_simp; (try with_reducible rfl))
    try simp only [Act.put, List.setIfInBounds_toArray, List.set_cons_zero, List.set_cons_succ]
    refine wpAnyH_take (i := 2) (oi := ⟨some 22, _, _, _, _, _⟩) (v := ?_) rfl (by kernel_rfl) (by kernel_rfl) (by kernel_rfl) (fun _ _ _ h => h) (Or.inl ⟨by kernel_rfl, ?_⟩) (by assumption) ?_
    rotate_left 1
    focus (intro w' hSw; (try dsimp only at hSw); go_simp; (try with_reducible rfl))
    try simp only [Act.put, List.setIfInBounds_toArray, List.set_cons_zero, List.set_cons_succ]
    refine wpAnyH_take (i := 6) (oi := ⟨some 26, _, _, _, _, _⟩) (v := ?_) rfl (by kernel_rfl) (by kernel_rfl) (by kernel_rfl) (fun _ _ _ h => h) (Or.inl ⟨by kernel_rfl, ?_⟩) (by assumption) ?_
    rotate_left 1
    focus (intro w' hSw; (try dsimp only at hSw); go_simp; (try with_reducible rfl))
    try simp only [Act.put, List.setIfInBounds_toArray, List.set_cons_zero, List.set_cons_succ]
    refine wpAnyH_take (i := 7) (oi := ⟨some 27, _, _, _, _, _⟩) (v := ?_) rfl (by kernel_rfl) (by kernel_rfl) (by kernel_rfl) (fun _ _ _ h => h) (Or.inl ⟨by kernel_rfl, ?_⟩) (by assumption) ?_
    rotate_left 1
    focus (intro w' hSw; (try dsimp only at hSw); go_simp; (try with_reducible rfl))
    try simp only [Act.put, List.setIfInBounds_toArray, List.set_cons_zero, List.set_cons_succ]
    refine wpAnyH_take (i := 11) (oi := ⟨some 31, _, _, _, _, _⟩) (v := ?_) rfl (by kernel_rfl) (by kernel_rfl) (by kernel_rfl) (fun _ _ _ h => h) (Or.inl ⟨by kernel_rfl, ?_⟩) (by assumption) ?_
    rotate_left 1
    focus (intro w' hSw; (try dsimp only at hSw); go_simp; (try with_reducible rfl))
    try simp only [Act.put, List.setIfInBounds_toArray, List.set_cons_zero, List.set_cons_succ]
    refine wpAnyH_take (i := 12) (oi := ⟨some 32, _, _, _, _, _⟩) (v := ?_) rfl (by kernel_rfl) (by kernel_rfl) (by kernel_rfl) (fun _ _ _ h => h) (Or.inl ⟨by kernel_rfl, ?_⟩) (by assumption) ?_
    rotate_left 1
    focus (intro w' hSw; (try dsimp only at hSw); go_simp; (try with_reducible rfl))
    try simp only [Act.put, List.setIfInBounds_toArray, List.set_cons_zero, List.set_cons_succ]
    refine wpAnyH_ready (rs := [3]) (by kernel_rfl) (by simp) ?_
    refine AllReadyH.cons rfl (fun K hK => ?_) AllReadyH.nil
    go_simp
    go_at_call 24
    refine (HA.out _ HBv.out).mono ?_
    rintro en v1 ⟨⟨ra, rfl, hra⟩, hv1⟩
    have ya := num_size hra HF.out.o
    have y1 : ¬ 9223372036854775807 < s0.size + ra.size := by omega
    have y2 : ¬ 9223372036854775807 < s0.size + ra.size + 1 := by omega
    clear hHeld
    refine hK.out _ _ (HS.out _ hv1) (fun hHeld => ?_)
    clear hK
    refine wpAnyH_take (i := 4) (oi := ⟨some 24, _, _, _, _, _⟩) (v := ?_) rfl (by kernel_rfl) (by kernel_rfl) (by kernel_rfl) (fun _ _ _ h => h) (Or.inl ⟨by kernel_rfl, ?_⟩) (by assumption) ?_
    rotate_left 1
    focus (intro w' hSw; (try dsimp only at hSw); go_simp; (try with_reducible rfl))
    try simp only [Act.put, List.setIfInBounds_toArray, List.set_cons_zero, List.set_cons_succ]
    refine wpAnyH_take (i := 5) (oi := ⟨some 25, _, _, _, _, _⟩) (v := ?_) rfl (by kernel_rfl) (by kernel_rfl) (by kernel_rfl) (fun _ _ _ h => h) (Or.inl ⟨by kernel_rfl, ?_⟩) (by assumption) ?_
    rotate_left 1
    focus (intro w' hSw; (try dsimp only at hSw); go_simp; (try with_reducible rfl))
    try simp only [Act.put, List.setIfInBounds_toArray, List.set_cons_zero, List.set_cons_succ]
    refine wpAnyH_ready (rs := [8]) (by kernel_rfl) (by simp) ?_
    refine AllReadyH.cons rfl (fun K hK => ?_) AllReadyH.nil
    go_simp
    go_at_call 24
    refine (HBB.out _ hv1).mono ?_
    rintro en v2 ⟨⟨rb, rfl, hrb⟩, hv2⟩
    have yb := num_size hrb HF.out.n
    have y3 : ¬ 9223372036854775807 < s0.size + ra.size + 1 + rb.size := by omega
    have y4 : ¬ 9223372036854775807 < s0.size + ra.size + 1 + rb.size + 1 := by omega
    have yp := HF.out.p
    have y5 : ¬ 9223372036854775807 < s0.size + ra.size + 1 + rb.size + 1 + p.size := by omega
    clear hHeld
    refine hK.out _ _ (HS.out _ hv2) (fun hHeld => ?_)
    clear hK
    refine wpAnyH_take (i := 9) (oi := ⟨some 29, _, _, _, _, _⟩) (v := ?_) rfl (by kernel_rfl) (by kernel_rfl) (by kernel_rfl) (fun _ _ _ h => h) (Or.inl ⟨by kernel_rfl, ?_⟩) (by assumption) ?_
    rotate_left 1
    focus (intro w' hSw; (try dsimp only at hSw); go_simp; (try with_reducible rfl))
    try simp only [Act.put, List.setIfInBounds_toArray, List.set_cons_zero, List.set_cons_succ]
    refine wpAnyH_take (i := 10) (oi := ⟨some 30, _, _, _, _, _⟩) (v := ?_) rfl (by kernel_rfl) (by kernel_rfl) (by kernel_rfl) (fun _ _ _ h => h) (Or.inl ⟨by kernel_rfl, ?_⟩) (by assumption) ?_
    rotate_left 1
    focus (intro w' hSw; (try dsimp only at hSw); go_simp; (try with_reducible rfl))
    try simp only [Act.put, List.setIfInBounds_toArray, List.set_cons_zero, List.set_cons_succ]
    refine wpAnyH_take (i := 13) (oi := ⟨some 33, _, _, _, _, _⟩) (v := ?_) rfl (by kernel_rfl) (by kernel_rfl) (by kernel_rfl) (fun _ _ _ h => h) (Or.inl ⟨by kernel_rfl, ?_⟩) (by assumption) ?_
    rotate_left 1
    focus (intro w' hSw; (try dsimp only at hSw); go_simp; (try with_reducible rfl))
    try simp only [Act.put, List.setIfInBounds_toArray, List.set_cons_zero, List.set_cons_succ]
    refine wpAnyH_take (i := 14) (oi := ⟨some 2, _, _, _, _, _⟩) (v := ?_) rfl (by kernel_rfl) (by kernel_rfl) (by kernel_rfl) (fun _ _ _ h => h) (Or.inl ⟨by kernel_rfl, ?_⟩) (by assumption) ?_
    rotate_left 1
    focus (intro w' hSw; (try dsimp only at hSw); go_simp; (try with_reducible rfl))
    try simp only [Act.put, List.setIfInBounds_toArray, List.set_cons_zero, List.set_cons_succ]
    refine wpAnyH_done (by kernel_rfl) ?_ _
    have HFn : Hid (StrOut (textM (opM 4 p o n i g)) w (.returned (.string (s0 ++ ra ++ ⟨#[32]⟩ ++ rb ++ ⟨#[32]⟩ ++ p))) v2) := Lib.hid ⟨⟨_, rfl, by simp only [app_data, HS0.out, hra, hrb, HT.out, List.append_assoc]; rfl⟩, HB2.out.trans (hv2.mono HB2.out.size)⟩
    clear hHeld hra hrb hv1 hv2 HA HBB HS HBv
    go_wp2_with fail
    go_ret
    exact HFn.out
  have g4 : (k == 4) = false := by rw [beq_eq_false_iff_ne]; exact h4
  by_cases h6 : k = 6
  · subst h6
    clear h4
    have HS : Hid (∀ w' : World, Below w2.heap.size w2 w' → (w'.cell? ⟨w.heap.size, 4, none⟩ = some (.int .i64 i) ∧ w'.cell? ⟨w.heap.size, 3, none⟩ = some (.int .i64 n))) := Lib.hid fun w' hb => by
      have e := (hb.block _ (lt_of_some HX2.out)).trans HX2.out
      unfold opB at e
      exact ⟨cell_of_blk e 4, cell_of_blk e 3⟩
    have HBv : Hid (Below w2.heap.size w2 w2.drew) := Lib.hid (Below.refl _ _).drew
    have HA : Hid (∀ w' : World, Below w2.heap.size w2 w' → Calls Tryd.prog 24 #[.int .i64 i] w' fun e w'' => (∃ r : ByteArray, e = .returned (.string r) ∧ r.data.toList = Lib.itoa i) ∧ Below w2.heap.size w2 w'') := Lib.hid fun w' hb => (refnum_any i HF.out.i w').mono fun e w'' ⟨h1, h2⟩ => ⟨h1, hb.trans (h2.mono hb.size)⟩
    have HBB : Hid (∀ w' : World, Below w2.heap.size w2 w' → Calls Tryd.prog 24 #[.int .i64 n] w' fun e w'' => (∃ r : ByteArray, e = .returned (.string r) ∧ r.data.toList = Lib.itoa n) ∧ Below w2.heap.size w2 w'') := Lib.hid fun w' hb => (refnum_any n HF.out.n w').mono fun e w'' ⟨h1, h2⟩ => ⟨h1, hb.trans (h2.mono hb.size)⟩
    go_upto_region 8 with fail
    refine wp_region_held_drew (S := fun w' => (w'.cell? ⟨w.heap.size, 4, none⟩ = some (.int .i64 i) ∧ w'.cell? ⟨w.heap.size, 3, none⟩ = some (.int .i64 n))) (by kernel_rfl) (HS.out _ HBv.out) (fun hHeld => ?_)
    refine wpAnyH_take (i := 0) (oi := ⟨some 36, _, _, _, _, _⟩) (v := ?_) rfl (by kernel_rfl) (by kernel_rfl) (by kernel_rfl) (fun _ _ _ h => h) (Or.inl ⟨by kernel_rfl, ?_⟩) (by assumption) ?_
    rotate_left 1
    focus (intro w' hSw; (try dsimp only at hSw); go_simp; (try with_reducible rfl))
    try simp only [Act.put, List.setIfInBounds_toArray, List.set_cons_zero, List.set_cons_succ]
    refine wpAnyH_take (i := 1) (oi := ⟨some 37, _, _, _, _, _⟩) (v := ?_) rfl (by kernel_rfl) (by kernel_rfl) (by kernel_rfl) (fun _ _ _ h => h) (Or.inl ⟨by kernel_rfl, ?_⟩) (by assumption) ?_
    rotate_left 1
    focus (intro w' hSw; (try dsimp only at hSw); go_simp; (try with_reducible rfl))
    try simp only [Act.put, List.setIfInBounds_toArray, List.set_cons_zero, List.set_cons_succ]
    refine wpAnyH_take (i := 2) (oi := ⟨some 38, _, _, _, _, _⟩) (v := ?_) rfl (by kernel_rfl) (by kernel_rfl) (by kernel_rfl) (fun _ _ _ h => h) (Or.inl ⟨by kernel_rfl, ?_⟩) (by assumption) ?_
    rotate_left 1
    focus (intro w' hSw; (try dsimp only at hSw); go_simp; (try with_reducible rfl))
    try simp only [Act.put, List.setIfInBounds_toArray, List.set_cons_zero, List.set_cons_succ]
    refine wpAnyH_take (i := 6) (oi := ⟨some 42, _, _, _, _, _⟩) (v := ?_) rfl (by kernel_rfl) (by kernel_rfl) (by kernel_rfl) (fun _ _ _ h => h) (Or.inl ⟨by kernel_rfl, ?_⟩) (by assumption) ?_
    rotate_left 1
    focus (intro w' hSw; (try dsimp only at hSw); go_simp; (try with_reducible rfl))
    try simp only [Act.put, List.setIfInBounds_toArray, List.set_cons_zero, List.set_cons_succ]
    refine wpAnyH_take (i := 7) (oi := ⟨some 43, _, _, _, _, _⟩) (v := ?_) rfl (by kernel_rfl) (by kernel_rfl) (by kernel_rfl) (fun _ _ _ h => h) (Or.inl ⟨by kernel_rfl, ?_⟩) (by assumption) ?_
    rotate_left 1
    focus (intro w' hSw; (try dsimp only at hSw); go_simp; (try with_reducible rfl))
    try simp only [Act.put, List.setIfInBounds_toArray, List.set_cons_zero, List.set_cons_succ]
    refine wpAnyH_ready (rs := [3]) (by kernel_rfl) (by simp) ?_
    refine AllReadyH.cons rfl (fun K hK => ?_) AllReadyH.nil
    go_simp
    go_at_call 24
    refine (HA.out _ HBv.out).mono ?_
    rintro en v1 ⟨⟨ra, rfl, hra⟩, hv1⟩
    have ya := num_size hra HF.out.i
    have y1 : ¬ 9223372036854775807 < s0.size + ra.size := by omega
    have y2 : ¬ 9223372036854775807 < s0.size + ra.size + 1 := by omega
    clear hHeld
    refine hK.out _ _ (HS.out _ hv1) (fun hHeld => ?_)
    clear hK
    refine wpAnyH_take (i := 4) (oi := ⟨some 40, _, _, _, _, _⟩) (v := ?_) rfl (by kernel_rfl) (by kernel_rfl) (by kernel_rfl) (fun _ _ _ h => h) (Or.inl ⟨by kernel_rfl, ?_⟩) (by assumption) ?_
    rotate_left 1
    focus (intro w' hSw; (try dsimp only at hSw); go_simp; (try with_reducible rfl))
    try simp only [Act.put, List.setIfInBounds_toArray, List.set_cons_zero, List.set_cons_succ]
    refine wpAnyH_take (i := 5) (oi := ⟨some 41, _, _, _, _, _⟩) (v := ?_) rfl (by kernel_rfl) (by kernel_rfl) (by kernel_rfl) (fun _ _ _ h => h) (Or.inl ⟨by kernel_rfl, ?_⟩) (by assumption) ?_
    rotate_left 1
    focus (intro w' hSw; (try dsimp only at hSw); go_simp; (try with_reducible rfl))
    try simp only [Act.put, List.setIfInBounds_toArray, List.set_cons_zero, List.set_cons_succ]
    refine wpAnyH_ready (rs := [8]) (by kernel_rfl) (by simp) ?_
    refine AllReadyH.cons rfl (fun K hK => ?_) AllReadyH.nil
    go_simp
    go_at_call 24
    refine (HBB.out _ hv1).mono ?_
    rintro en v2 ⟨⟨rb, rfl, hrb⟩, hv2⟩
    have yb := num_size hrb HF.out.n
    have y3 : ¬ 9223372036854775807 < s0.size + ra.size + 1 + rb.size := by omega
    clear hHeld
    refine hK.out _ _ (HS.out _ hv2) (fun hHeld => ?_)
    clear hK
    refine wpAnyH_take (i := 9) (oi := ⟨some 45, _, _, _, _, _⟩) (v := ?_) rfl (by kernel_rfl) (by kernel_rfl) (by kernel_rfl) (fun _ _ _ h => h) (Or.inl ⟨by kernel_rfl, ?_⟩) (by assumption) ?_
    rotate_left 1
    focus (intro w' hSw; (try dsimp only at hSw); go_simp; (try with_reducible rfl))
    try simp only [Act.put, List.setIfInBounds_toArray, List.set_cons_zero, List.set_cons_succ]
    refine wpAnyH_take (i := 10) (oi := ⟨some 2, _, _, _, _, _⟩) (v := ?_) rfl (by kernel_rfl) (by kernel_rfl) (by kernel_rfl) (fun _ _ _ h => h) (Or.inl ⟨by kernel_rfl, ?_⟩) (by assumption) ?_
    rotate_left 1
    focus (intro w' hSw; (try dsimp only at hSw); go_simp; (try with_reducible rfl))
    try simp only [Act.put, List.setIfInBounds_toArray, List.set_cons_zero, List.set_cons_succ]
    refine wpAnyH_done (by kernel_rfl) ?_ _
    have HFn : Hid (StrOut (textM (opM 6 p o n i g)) w (.returned (.string (s0 ++ ra ++ ⟨#[32]⟩ ++ rb))) v2) := Lib.hid ⟨⟨_, rfl, by simp only [app_data, HS0.out, hra, hrb, HT.out, List.append_assoc]; rfl⟩, HB2.out.trans (hv2.mono HB2.out.size)⟩
    clear hHeld hra hrb hv1 hv2 HA HBB HS HBv
    go_wp2_with fail
    go_ret
    exact HFn.out
  have g6 : (k == 6) = false := by rw [beq_eq_false_iff_ne]; exact h6
  by_cases h7 : k = 7
  · subst h7
    clear h4 h6
    have HC := Lib.hid (refnum_any i HF.out.i w2)
    go_wp2_with fail
    refine HC.out.mono ?_
    rintro e w3 ⟨⟨r, rfl, hr⟩, hb3⟩
    have hrz : r.size ≤ 21 := num_size hr HF.out.i
    have HFn : Hid (StrOut (textM (opM 7 p o n i g)) w (.returned (.string (s0 ++ r))) w3) := Lib.hid ⟨⟨_, rfl, by rw [app_data, HS0.out, hr, HT.out, List.append_assoc]; rfl⟩, HB2.out.trans (hb3.mono HB2.out.size)⟩
    clear hr hb3 HC
    go_wp2_with fail
    go_ret
    exact HFn.out
  have g7 : (k == 7) = false := by rw [beq_eq_false_iff_ne]; exact h7
  by_cases h9 : k = 9
  · subst h9
    clear h4 h6 h7
    have HC := Lib.hid (refnum_any i HF.out.i w2)
    go_wp2_with fail
    refine HC.out.mono ?_
    rintro e w3 ⟨⟨r, rfl, hr⟩, hb3⟩
    have hrz : r.size ≤ 21 := num_size hr HF.out.i
    have HFn : Hid (StrOut (textM (opM 9 p o n i g)) w (.returned (.string (s0 ++ r))) w3) := Lib.hid ⟨⟨_, rfl, by rw [app_data, HS0.out, hr, HT.out, List.append_assoc]; rfl⟩, HB2.out.trans (hb3.mono HB2.out.size)⟩
    clear hr hb3 HC
    go_wp2_with fail
    go_ret
    exact HFn.out
  have g9 : (k == 9) = false := by rw [beq_eq_false_iff_ne]; exact h9
  by_cases h8 : k = 8
  · subst h8
    clear h4 h6 h7 h9
    have HC := Lib.hid (refhex_any g w2 (by have := HF.out.g; omega))
    go_wp2_with fail
    refine HC.out.mono ?_
    rintro e w3 ⟨⟨r, rfl, hr⟩, hb3⟩
    have hrz : r.size ≤ 2000001 := by have h1 := hexL_len g.data.toList; rw [← hr, size_list, size_list] at h1; have := HF.out.g; omega
    have HFn : Hid (StrOut (textM (opM 8 p o n i g)) w (.returned (.string (s0 ++ r))) w3) := Lib.hid ⟨⟨_, rfl, by rw [app_data, HS0.out, hr, HT.out, List.append_assoc]; rfl⟩, HB2.out.trans (hb3.mono HB2.out.size)⟩
    clear hr hb3 HC
    go_wp2_with fail
    go_ret
    exact HFn.out
  have g8 : (k == 8) = false := by rw [beq_eq_false_iff_ne]; exact h8
  have HFn : Hid (StrOut (textM (opM k p o n i g)) w (.returned (.string (s0 ++ p))) w2) := Lib.hid ⟨⟨_, rfl, by
    rw [app_data, HS0.out, HT.out]
    unfold restM opM
    simp only
    rw [if_neg h4, if_neg h6, if_neg (fun h => h.elim h7 h9), if_neg h8, joinM_two, List.append_assoc]
    rfl⟩, HB2.out⟩
  have yp := HF.out.p
  clear h4 h6 h7 h9 h8
  go_wp2_with fail
  go_ret
  exact HFn.out
end Go.Proofs.YtfbgnafnpeeonaaDoor.cal
