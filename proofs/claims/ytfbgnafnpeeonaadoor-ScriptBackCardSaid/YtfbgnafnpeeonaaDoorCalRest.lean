/- What call's rest, Text and Right answer. Condition: at most a million bytes; numbers of 64 bits; what the listed variables hold. -/
import Derived.Test.YtfbgnafnpeeonaaDoorCalJoin
import Derived.Deep.RegionHeld
namespace Go.Proofs.YtfbgnafnpeeonaaDoor.cal
set_option maxRecDepth 100000
open Go.RowKit Go.Proofs.YtfbgnafnpeeonaaDoor.words

def RestOut (L : List (List UInt8)) (w : World) (e : Ending) (w' : World) : Prop :=
  (∃ (b c : Nat) (Q : List ByteArray), e = .returned (.slice (some ⟨b, 0, none⟩) Q.length c) ∧ dataL Q = L ∧ Sl w' (some ⟨b, 0, none⟩) Q) ∧ Below w.heap.size w w'
theorem sl_new (w : World) (Q : List ByteArray) : Sl (w.alloc (.cells (Q.map Value.string).toArray 9)) (some ⟨w.heap.size, 0, none⟩) Q := fun i x hx => by
  have hb : (w.alloc (.cells (Q.map Value.string).toArray 9)).heap[w.heap.size]? = some (.cells (Q.map Value.string).toArray 9 (0, 0)) := heap_alloc_new w _
  refine ⟨_, 0, rfl, lt_of_some hb, ?_⟩
  rw [cell_of_blk hb, Nat.zero_add]
  simp [hx]
theorem rest_end {w w2 : World} (hb : Below w.heap.size w w2) (Q : List ByteArray) {L : List (List UInt8)} (hQ : dataL Q = L) (n : Nat) (hn : n = Q.length) (o : Obj) (ho : o = .cells (Q.map Value.string).toArray 9) :
    RestOut L w (.returned (.slice (some ⟨w2.heap.size, 0, none⟩) n n)) (w2.alloc o) := by
  subst hn
  subst ho
  exact ⟨⟨_, _, Q, rfl, hQ, sl_new w2 Q⟩, hb.trans ((Below.refl _ _).alloc (Nat.le_refl _) _ |>.mono hb.size)⟩
structure OpFit (o n i : Int) (p g : ByteArray) : Prop where
  o : I64 o
  n : I64 n
  i : I64 i
  p : p.size ≤ 1000000
  g : g.size ≤ 1000000
theorem OpFit.fit {k o n i : Int} {p g : ByteArray} (h : OpFit o n i p g) : (opM k p o n i g).fit := ⟨h.o, h.n, h.i⟩
set_option maxHeartbeats 6400000 in
theorem rest_any (m : Int) (k : Int) (p : ByteArray) (o n i : Int) (g : ByteArray) (w : World) (hE : Env m w) (hf : OpFit o n i p g) : Calls Tryd.prog 34 #[opV k p o n i g] w (RestOut (restM (opM k p o n i g)) w) := by
  obtain ⟨W1, hW1⟩ : ∃ W1, W1 = w.alloc (.cells #[.int .i64 k, .string p, .int .i64 o, .int .i64 n, .int .i64 i, .string g] 45) := ⟨_, rfl⟩
  have hb1 : Below w.heap.size w W1 := by rw [hW1]; exact (Below.refl _ _).alloc (Nat.le_refl _) _
  have hx : W1.heap[w.heap.size]? = some (opB k p o n i g) := by rw [hW1]; exact heap_alloc_new w _
  have HX := Lib.hid hx
  have HF := Lib.hid hf
  have HE := Lib.hid (hE.later hb1)
  have HB1 := Lib.hid hb1
  have HW := Lib.hid hW1.symm
  unfold opB at hx
  have c0 : W1.cell? ⟨w.heap.size, 0, none⟩ = some (.int .i64 k) := cell_of_blk hx 0
  have c1 : W1.cell? ⟨w.heap.size, 1, none⟩ = some (.string p) := cell_of_blk hx 1
  have c2 : W1.cell? ⟨w.heap.size, 2, none⟩ = some (.int .i64 o) := cell_of_blk hx 2
  have c3 : W1.cell? ⟨w.heap.size, 3, none⟩ = some (.int .i64 n) := cell_of_blk hx 3
  have c4 : W1.cell? ⟨w.heap.size, 4, none⟩ = some (.int .i64 i) := cell_of_blk hx 4
  have c5 : W1.cell? ⟨w.heap.size, 5, none⟩ = some (.string g) := cell_of_blk hx 5
  clear hW1 hb1 hx hE hf
  unfold opV
  go_enter Tryd.func34, Tryd.ntmps34
  go_upto_region 1 with fail
  rw [HW.out]
  clear HW
  by_cases h4 : k = 4
  · subst h4
    have HS : Hid (∀ w' : World, Below W1.heap.size W1 w' → (w'.cell? ⟨w.heap.size, 2, none⟩ = some (.int .i64 o) ∧ w'.cell? ⟨w.heap.size, 3, none⟩ = some (.int .i64 n) ∧ w'.cell? ⟨w.heap.size, 1, none⟩ = some (.string p))) := Lib.hid fun w' hb => by
      have e := (hb.block _ (lt_of_some HX.out)).trans HX.out
      unfold opB at e
      exact ⟨cell_of_blk e 2, cell_of_blk e 3, cell_of_blk e 1⟩
    have HBv : Hid (Below W1.heap.size W1 W1.drew) := Lib.hid (Below.refl _ _).drew
    have HA : Hid (∀ w' : World, Below W1.heap.size W1 w' → Calls Tryd.prog 31 #[.int .i64 o] w' fun e w'' => (∃ r : ByteArray, e = .returned (.string r) ∧ r.data.toList = Lib.itoa o) ∧ Below W1.heap.size W1 w'') := Lib.hid fun w' hb => (itoa_any m o w' HF.out.o (HE.out.later hb)).mono fun e w'' ⟨h1, h2⟩ => ⟨h1, hb.trans (h2.mono hb.size)⟩
    have HBB : Hid (∀ w' : World, Below W1.heap.size W1 w' → Calls Tryd.prog 31 #[.int .i64 n] w' fun e w'' => (∃ r : ByteArray, e = .returned (.string r) ∧ r.data.toList = Lib.itoa n) ∧ Below W1.heap.size W1 w'') := Lib.hid fun w' hb => (itoa_any m n w' HF.out.n (HE.out.later hb)).mono fun e w'' ⟨h1, h2⟩ => ⟨h1, hb.trans (h2.mono hb.size)⟩
    go_wp2_with fail
    refine wp_region_held_drew (S := fun w' => (w'.cell? ⟨w.heap.size, 2, none⟩ = some (.int .i64 o) ∧ w'.cell? ⟨w.heap.size, 3, none⟩ = some (.int .i64 n) ∧ w'.cell? ⟨w.heap.size, 1, none⟩ = some (.string p))) (by kernel_rfl) (HS.out _ HBv.out) (fun hHeld => ?_)
    refine wpAnyH_take (i := 0) (oi := ⟨some 7, _, _, _, _, _⟩) (v := ?_) rfl (by kernel_rfl) (by kernel_rfl) (by kernel_rfl) (fun _ _ _ h => h) (Or.inl ⟨by kernel_rfl, ?_⟩) (by assumption) ?_
    rotate_left 1
    focus (intro w' hSw; (try dsimp only at hSw); go_simp; (try with_reducible rfl))
    try simp only [Act.put, List.setIfInBounds_toArray, List.set_cons_zero, List.set_cons_succ]
    refine wpAnyH_take (i := 1) (oi := ⟨some 8, _, _, _, _, _⟩) (v := ?_) rfl (by kernel_rfl) (by kernel_rfl) (by kernel_rfl) (fun _ _ _ h => h) (Or.inl ⟨by kernel_rfl, ?_⟩) (by assumption) ?_
    rotate_left 1
    focus (intro w' hSw; (try dsimp only at hSw); go_simp; (try with_reducible rfl))
    try simp only [Act.put, List.setIfInBounds_toArray, List.set_cons_zero, List.set_cons_succ]
    refine wpAnyH_take (i := 3) (oi := ⟨some 10, _, _, _, _, _⟩) (v := ?_) rfl (by kernel_rfl) (by kernel_rfl) (by kernel_rfl) (fun _ _ _ h => h) (Or.inl ⟨by kernel_rfl, ?_⟩) (by assumption) ?_
    rotate_left 1
    focus (intro w' hSw; (try dsimp only at hSw); go_simp; (try with_reducible rfl))
    try simp only [Act.put, List.setIfInBounds_toArray, List.set_cons_zero, List.set_cons_succ]
    refine wpAnyH_take (i := 4) (oi := ⟨some 11, _, _, _, _, _⟩) (v := ?_) rfl (by kernel_rfl) (by kernel_rfl) (by kernel_rfl) (fun _ _ _ h => h) (Or.inl ⟨by kernel_rfl, ?_⟩) (by assumption) ?_
    rotate_left 1
    focus (intro w' hSw; (try dsimp only at hSw); go_simp; (try with_reducible rfl))
    try simp only [Act.put, List.setIfInBounds_toArray, List.set_cons_zero, List.set_cons_succ]
    refine wpAnyH_take (i := 6) (oi := ⟨some 13, _, _, _, _, _⟩) (v := ?_) rfl (by kernel_rfl) (by kernel_rfl) (by kernel_rfl) (fun _ _ _ h => h) (Or.inl ⟨by kernel_rfl, ?_⟩) (by assumption) ?_
    rotate_left 1
    focus (intro w' hSw; (try dsimp only at hSw); go_simp; (try with_reducible rfl))
    try simp only [Act.put, List.setIfInBounds_toArray, List.set_cons_zero, List.set_cons_succ]
    refine wpAnyH_take (i := 7) (oi := ⟨some 14, _, _, _, _, _⟩) (v := ?_) rfl (by kernel_rfl) (by kernel_rfl) (by kernel_rfl) (fun _ _ _ h => h) (Or.inl ⟨by kernel_rfl, ?_⟩) (by assumption) ?_
    rotate_left 1
    focus (intro w' hSw; (try dsimp only at hSw); go_simp; (try with_reducible rfl))
    try simp only [Act.put, List.setIfInBounds_toArray, List.set_cons_zero, List.set_cons_succ]
    refine wpAnyH_ready (rs := [2]) (by kernel_rfl) (by simp) ?_
    refine AllReadyH.cons rfl (fun K hK => ?_) AllReadyH.nil
    go_simp
    go_at_call 31
    refine (HA.out _ HBv.out).mono ?_
    rintro en v1 ⟨⟨ra, rfl, hra⟩, hv1⟩
    clear hHeld
    refine hK.out _ _ (HS.out _ hv1) (fun hHeld => ?_)
    clear hK
    refine wpAnyH_ready (rs := [5]) (by kernel_rfl) (by simp) ?_
    refine AllReadyH.cons rfl (fun K hK => ?_) AllReadyH.nil
    go_simp
    go_at_call 31
    refine (HBB.out _ hv1).mono ?_
    rintro en v2 ⟨⟨rb, rfl, hrb⟩, hv2⟩
    clear hHeld
    refine hK.out _ _ (HS.out _ hv2) (fun hHeld => ?_)
    clear hK
    refine wpAnyH_ready (rs := [8]) (by kernel_rfl) (by simp) ?_
    refine AllReadyH.cons rfl (fun K hK => ?_) AllReadyH.nil
    go_simp
    clear hHeld
    refine hK.out _ _ (HS.out _ (hv2.trans ((Below.refl _ _).alloc (Nat.le_refl _) _ |>.mono hv2.size))) (fun hHeld => ?_)
    clear hK
    refine wpAnyH_take (i := 9) (oi := ⟨some 2, _, _, _, _, _⟩) (v := ?_) rfl (by kernel_rfl) (by kernel_rfl) (by kernel_rfl) (fun _ _ _ h => h) (Or.inl ⟨by kernel_rfl, ?_⟩) (by assumption) ?_
    rotate_left 1
    focus (intro w' hSw; (try dsimp only at hSw); go_simp; (try with_reducible rfl))
    try simp only [Act.put, List.setIfInBounds_toArray, List.set_cons_zero, List.set_cons_succ]
    refine wpAnyH_done (by kernel_rfl) ?_ _
    have HR : Hid (RestOut (restM (opM 4 p o n i g)) w (.returned (.slice (some ⟨v2.heap.size, 0, none⟩) 3 3)) (v2.alloc (.cells #[.string ra, .string rb, .string p] 9))) := Lib.hid (rest_end (HB1.out.trans (hv2.mono HB1.out.size)) [ra, rb, p] (show [ra.data.toList, rb.data.toList, p.data.toList] = _ by rw [hra, hrb]; rfl) 3 rfl _ rfl)
    clear hHeld hra hrb hv1 hv2 HA HBB HS HBv
    go_wp2_with fail
    go_ret
    exact HR.out
  have g4 : (k == 4) = false := by rw [beq_eq_false_iff_ne]; exact h4
  by_cases h6 : k = 6
  · subst h6
    clear h4
    have HS : Hid (∀ w' : World, Below W1.heap.size W1 w' → (w'.cell? ⟨w.heap.size, 4, none⟩ = some (.int .i64 i) ∧ w'.cell? ⟨w.heap.size, 3, none⟩ = some (.int .i64 n))) := Lib.hid fun w' hb => by
      have e := (hb.block _ (lt_of_some HX.out)).trans HX.out
      unfold opB at e
      exact ⟨cell_of_blk e 4, cell_of_blk e 3⟩
    have HBv : Hid (Below W1.heap.size W1 W1.drew) := Lib.hid (Below.refl _ _).drew
    have HA : Hid (∀ w' : World, Below W1.heap.size W1 w' → Calls Tryd.prog 31 #[.int .i64 i] w' fun e w'' => (∃ r : ByteArray, e = .returned (.string r) ∧ r.data.toList = Lib.itoa i) ∧ Below W1.heap.size W1 w'') := Lib.hid fun w' hb => (itoa_any m i w' HF.out.i (HE.out.later hb)).mono fun e w'' ⟨h1, h2⟩ => ⟨h1, hb.trans (h2.mono hb.size)⟩
    have HBB : Hid (∀ w' : World, Below W1.heap.size W1 w' → Calls Tryd.prog 31 #[.int .i64 n] w' fun e w'' => (∃ r : ByteArray, e = .returned (.string r) ∧ r.data.toList = Lib.itoa n) ∧ Below W1.heap.size W1 w'') := Lib.hid fun w' hb => (itoa_any m n w' HF.out.n (HE.out.later hb)).mono fun e w'' ⟨h1, h2⟩ => ⟨h1, hb.trans (h2.mono hb.size)⟩
    go_wp2_with fail
    refine wp_region_held_drew (S := fun w' => (w'.cell? ⟨w.heap.size, 4, none⟩ = some (.int .i64 i) ∧ w'.cell? ⟨w.heap.size, 3, none⟩ = some (.int .i64 n))) (by kernel_rfl) (HS.out _ HBv.out) (fun hHeld => ?_)
    refine wpAnyH_take (i := 0) (oi := ⟨some 18, _, _, _, _, _⟩) (v := ?_) rfl (by kernel_rfl) (by kernel_rfl) (by kernel_rfl) (fun _ _ _ h => h) (Or.inl ⟨by kernel_rfl, ?_⟩) (by assumption) ?_
    rotate_left 1
    focus (intro w' hSw; (try dsimp only at hSw); go_simp; (try with_reducible rfl))
    try simp only [Act.put, List.setIfInBounds_toArray, List.set_cons_zero, List.set_cons_succ]
    refine wpAnyH_take (i := 1) (oi := ⟨some 19, _, _, _, _, _⟩) (v := ?_) rfl (by kernel_rfl) (by kernel_rfl) (by kernel_rfl) (fun _ _ _ h => h) (Or.inl ⟨by kernel_rfl, ?_⟩) (by assumption) ?_
    rotate_left 1
    focus (intro w' hSw; (try dsimp only at hSw); go_simp; (try with_reducible rfl))
    try simp only [Act.put, List.setIfInBounds_toArray, List.set_cons_zero, List.set_cons_succ]
    refine wpAnyH_take (i := 3) (oi := ⟨some 21, _, _, _, _, _⟩) (v := ?_) rfl (by kernel_rfl) (by kernel_rfl) (by kernel_rfl) (fun _ _ _ h => h) (Or.inl ⟨by kernel_rfl, ?_⟩) (by assumption) ?_
    rotate_left 1
    focus (intro w' hSw; (try dsimp only at hSw); go_simp; (try with_reducible rfl))
    try simp only [Act.put, List.setIfInBounds_toArray, List.set_cons_zero, List.set_cons_succ]
    refine wpAnyH_take (i := 4) (oi := ⟨some 22, _, _, _, _, _⟩) (v := ?_) rfl (by kernel_rfl) (by kernel_rfl) (by kernel_rfl) (fun _ _ _ h => h) (Or.inl ⟨by kernel_rfl, ?_⟩) (by assumption) ?_
    rotate_left 1
    focus (intro w' hSw; (try dsimp only at hSw); go_simp; (try with_reducible rfl))
    try simp only [Act.put, List.setIfInBounds_toArray, List.set_cons_zero, List.set_cons_succ]
    refine wpAnyH_ready (rs := [2]) (by kernel_rfl) (by simp) ?_
    refine AllReadyH.cons rfl (fun K hK => ?_) AllReadyH.nil
    go_simp
    go_at_call 31
    refine (HA.out _ HBv.out).mono ?_
    rintro en v1 ⟨⟨ra, rfl, hra⟩, hv1⟩
    clear hHeld
    refine hK.out _ _ (HS.out _ hv1) (fun hHeld => ?_)
    clear hK
    refine wpAnyH_ready (rs := [5]) (by kernel_rfl) (by simp) ?_
    refine AllReadyH.cons rfl (fun K hK => ?_) AllReadyH.nil
    go_simp
    go_at_call 31
    refine (HBB.out _ hv1).mono ?_
    rintro en v2 ⟨⟨rb, rfl, hrb⟩, hv2⟩
    clear hHeld
    refine hK.out _ _ (HS.out _ hv2) (fun hHeld => ?_)
    clear hK
    refine wpAnyH_ready (rs := [6]) (by kernel_rfl) (by simp) ?_
    refine AllReadyH.cons rfl (fun K hK => ?_) AllReadyH.nil
    go_simp
    clear hHeld
    refine hK.out _ _ (HS.out _ (hv2.trans ((Below.refl _ _).alloc (Nat.le_refl _) _ |>.mono hv2.size))) (fun hHeld => ?_)
    clear hK
    refine wpAnyH_take (i := 7) (oi := ⟨some 2, _, _, _, _, _⟩) (v := ?_) rfl (by kernel_rfl) (by kernel_rfl) (by kernel_rfl) (fun _ _ _ h => h) (Or.inl ⟨by kernel_rfl, ?_⟩) (by assumption) ?_
    rotate_left 1
    focus (intro w' hSw; (try dsimp only at hSw); go_simp; (try with_reducible rfl))
    try simp only [Act.put, List.setIfInBounds_toArray, List.set_cons_zero, List.set_cons_succ]
    refine wpAnyH_done (by kernel_rfl) ?_ _
    have HR : Hid (RestOut (restM (opM 6 p o n i g)) w (.returned (.slice (some ⟨v2.heap.size, 0, none⟩) 2 2)) (v2.alloc (.cells #[.string ra, .string rb] 9))) := Lib.hid (rest_end (HB1.out.trans (hv2.mono HB1.out.size)) [ra, rb] (show [ra.data.toList, rb.data.toList] = _ by rw [hra, hrb]; rfl) 2 rfl _ rfl)
    clear hHeld hra hrb hv1 hv2 HA HBB HS HBv
    go_wp2_with fail
    go_ret
    exact HR.out
  have g6 : (k == 6) = false := by rw [beq_eq_false_iff_ne]; exact h6
  by_cases h7 : k = 7
  · subst h7
    clear h4 h6
    have HC := Lib.hid (itoa_any m i W1 HF.out.i HE.out)
    go_wp2_with fail
    refine HC.out.mono ?_
    rintro e w2 ⟨⟨r, rfl, hr⟩, hb2⟩
    have HR : Hid (RestOut (restM (opM 7 p o n i g)) w (.returned (.slice (some ⟨w2.heap.size, 0, none⟩) 1 1)) (w2.alloc (.cells #[.string r] 9))) := Lib.hid (rest_end (HB1.out.trans (hb2.mono HB1.out.size)) [r] (show [r.data.toList] = _ by rw [hr]; rfl) 1 rfl _ rfl)
    clear hr hb2 HC
    go_wp2_with fail
    go_ret
    exact HR.out
  have g7 : (k == 7) = false := by rw [beq_eq_false_iff_ne]; exact h7
  by_cases h9 : k = 9
  · subst h9
    clear h4 h6
    have HC := Lib.hid (itoa_any m i W1 HF.out.i HE.out)
    go_wp2_with fail
    refine HC.out.mono ?_
    rintro e w2 ⟨⟨r, rfl, hr⟩, hb2⟩
    have HR : Hid (RestOut (restM (opM 9 p o n i g)) w (.returned (.slice (some ⟨w2.heap.size, 0, none⟩) 1 1)) (w2.alloc (.cells #[.string r] 9))) := Lib.hid (rest_end (HB1.out.trans (hb2.mono HB1.out.size)) [r] (show [r.data.toList] = _ by rw [hr]; rfl) 1 rfl _ rfl)
    clear hr hb2 HC
    go_wp2_with fail
    go_ret
    exact HR.out
  have g9 : (k == 9) = false := by rw [beq_eq_false_iff_ne]; exact h9
  by_cases h8 : k = 8
  · subst h8
    clear h4 h6 h7 h9
    have HC := Lib.hid (hex_any g W1 (by have := HF.out.g; omega))
    go_wp2_with fail
    refine HC.out.mono ?_
    rintro e w2 ⟨⟨r, rfl, hr⟩, hb2⟩
    have HR : Hid (RestOut (restM (opM 8 p o n i g)) w (.returned (.slice (some ⟨w2.heap.size, 0, none⟩) 1 1)) (w2.alloc (.cells #[.string r] 9))) := Lib.hid (rest_end (HB1.out.trans (hb2.mono HB1.out.size)) [r] (show [r.data.toList] = _ by rw [hr]; rfl) 1 rfl _ rfl)
    clear hr hb2 HC
    go_wp2_with fail
    go_ret
    exact HR.out
  have g8 : (k == 8) = false := by rw [beq_eq_false_iff_ne]; exact h8
  have HM : Hid ([p.data.toList] = restM (opM k p o n i g)) := Lib.hid (by unfold restM opM; simp only; rw [if_neg h4, if_neg h6, if_neg (fun h => h.elim h7 h9), if_neg h8])
  have HR : Hid (RestOut (restM (opM k p o n i g)) w (.returned (.slice (some ⟨W1.heap.size, 0, none⟩) 1 1)) (W1.alloc (.cells #[.string p] 9))) := Lib.hid (rest_end HB1.out [p] HM.out 1 rfl _ rfl)
  clear h4 h6 h7 h9 h8
  go_wp2_with fail
  go_ret
  exact HR.out
end Go.Proofs.YtfbgnafnpeeonaaDoor.cal
