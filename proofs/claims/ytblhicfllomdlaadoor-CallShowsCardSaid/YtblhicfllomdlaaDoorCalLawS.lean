/- The law CallShows. Condition: what the listed variables hold. -/
import Derived.Test.YtblhicfllomdlaaDoorCalSpeak
namespace Go.Proofs.YtblhicfllomdlaaDoor.cal
set_option maxRecDepth 100000
open Go.RowKit Go.Proofs.YtblhicfllomdlaaDoor.words

set_option maxHeartbeats 12800000 in
theorem law_shows (m : Int) (q e k z h d : Int) (t : ByteArray) (A : Option Addr) (N : List ByteArray) (c : Nat) (en : Bool) (w : World) (hE : Env m w) (he : I64 e) (hk : I64 k) (hz : I64 z) (hh : I64 h) (hd : I64 d) (hN : Sl w A N) (ht : t.size ≤ 140737488355328) (hNz : ∀ x ∈ N, x.size ≤ 140737488355328) (hNl : N.length ≤ 140737488355328) :
    Calls Tryd.prog 6 #[.int .i64 q, resV e k z h d t A N c en] w (AnsB true w) := by
  obtain ⟨W1, hW1⟩ : ∃ W1, W1 = w.alloc (.cells #[.int .i64 e, .int .i64 k, .int .i64 z, .int .i64 h, .int .i64 d, .string t, .slice A N.length c, .bool en] 40) := ⟨_, rfl⟩
  have hb1 : Below w.heap.size w W1 := by rw [hW1]; exact (Below.refl _ _).alloc (Nat.le_refl _) _
  have hx : W1.heap[w.heap.size]? = some (resB e k z h d t A N c en) := by rw [hW1]; exact heap_alloc_new w _
  have HX := Lib.hid hx
  have HE := Lib.hid (hE.later hb1)
  have HN := Lib.hid (hN.later hb1)
  have HB1 := Lib.hid hb1
  have HW := Lib.hid hW1.symm
  have HSp := Lib.hid (speaks_any m W1 HE.out)
  have HNz := Lib.hid hNz
  clear hW1 hb1 hx hE hN hNz
  unfold resV
  go_enter Tryd.func6, Tryd.ntmps6
  go_upto_region 1 with fail
  rw [HW.out]
  clear HW
  go_wp2_with fail
  refine HSp.out.mono ?_
  rintro en1 w2 ⟨rfl, hb2⟩
  have HB2 := Lib.hid hb2
  have e2 := (hb2.block _ (lt_of_some HX.out)).trans HX.out
  unfold resB at e2
  have a5 : w2.cell? ⟨w.heap.size, 5, none⟩ = some (.string t) := cell_of_blk e2 5
  have a6 : w2.cell? ⟨w.heap.size, 6, none⟩ = some (.slice A N.length c) := cell_of_blk e2 6
  have HF2 := Lib.hid (HB1.out.trans (hb2.mono HB1.out.size))
  clear hb2 HSp e2
  by_cases hs : 2000 < t.size
  · have g1 : (2000 : Int) < (t.size : Int) := by omega
    go_wp2_with fail
    go_ret
    exact ⟨rfl, HF2.out⟩
  have g1 : ¬ (2000 : Int) < (t.size : Int) := by omega
  by_cases hl : 100 < N.length
  · have g2 : (100 : Int) < (N.length : Int) := by omega
    go_wp2_with fail
    go_ret
    exact ⟨rfl, HF2.out⟩
  have g2 : ¬ (100 : Int) < (N.length : Int) := by omega
  go_wp2_with fail
  go_loop [22] (fun v => ∃ j : Nat, j ≤ N.length ∧ v = .int .i64 (j : Int) ∧ Hid (∀ x ∈ N.take j, x.size ≤ 200)) (fun v => N.length - (intOf v).toNat)
  case atStart => exact ⟨0, Nat.zero_le _, rfl, Lib.hid (fun x hx => by simp at hx)⟩
  case round =>
    obtain ⟨j, hj, rfl, hH⟩ := hrel
    have j0 : (0 : Int) ≤ (j : Int) := by omega
    by_cases hjs : j < N.length
    · have j1 : (j : Int) < (N.length : Int) := by omega
      obtain ⟨x, hxj⟩ : ∃ x, N[j]? = some x := ⟨_, List.getElem?_eq_getElem hjs⟩
      obtain ⟨b, off, hA, hb, hcx⟩ := (HN.out.later HB2.out) j x hxj
      subst hA
      have hxz := HNz.out x (List.mem_of_getElem? hxj)
      by_cases hx2 : 200 < x.size
      · have g3 : (200 : Int) < (x.size : Int) := by omega
        clear hxj hb
        go_wp2_with fail
        go_ret
        exact ⟨rfl, HF2.out⟩
      · have g3 : ¬ (200 : Int) < (x.size : Int) := by omega
        have HNx : Hid (∀ y ∈ N.take (j + 1), y.size ≤ 200) := Lib.hid fun y hy => by
          rw [take_one hxj] at hy
          rcases List.mem_append.1 hy with hy | hy
          · exact hH.out y hy
          · rw [List.mem_singleton.1 hy]
            omega
        clear hxj hb
        go_wp2_with fail
        go_round
        case rel => exact ⟨j + 1, by omega, by go_num, HNx⟩
        case measure => simp [intOf]; omega
    obtain rfl : j = N.length := by omega
    have j1 : ¬ (N.length : Int) < (N.length : Int) := by omega
    have hfew : Few N := ⟨by omega, fun x hx => by have := hH.out x (by rw [List.take_length]; exact hx); omega⟩
    have HFt : Hid (ResFit e k z h d t N) := Lib.hid ⟨he, hk, hz, hh, hd, by omega, hfew⟩
    obtain ⟨r, hr⟩ : ∃ r : ByteArray, r.data.toList = showM q e k z h d t.data.toList (dataL N) en := ⟨⟨(showM q e k z h d t.data.toList (dataL N) en).toArray⟩, data_mk _⟩
    have HS : Hid (∀ w' : World, Below w2.heap.size w2 w' → (w'.cell? ⟨w.heap.size, 0, none⟩ = some (.int .i64 e) ∧ w'.cell? ⟨w.heap.size, 1, none⟩ = some (.int .i64 k) ∧ w'.cell? ⟨w.heap.size, 2, none⟩ = some (.int .i64 z) ∧ w'.cell? ⟨w.heap.size, 3, none⟩ = some (.int .i64 h) ∧ w'.cell? ⟨w.heap.size, 4, none⟩ = some (.int .i64 d) ∧ w'.cell? ⟨w.heap.size, 5, none⟩ = some (.string t) ∧ w'.cell? ⟨w.heap.size, 6, none⟩ = some (.slice A N.length c) ∧ w'.cell? ⟨w.heap.size, 7, none⟩ = some (.bool en))) := Lib.hid fun w' hb => by
      have e1 := ((HB2.out.trans (hb.mono HB2.out.size)).block _ (lt_of_some HX.out)).trans HX.out
      unfold resB at e1
      exact ⟨cell_of_blk e1 0, cell_of_blk e1 1, cell_of_blk e1 2, cell_of_blk e1 3, cell_of_blk e1 4, cell_of_blk e1 5, cell_of_blk e1 6, cell_of_blk e1 7⟩
    have HBv : Hid (Below w2.heap.size w2 w2.drew) := Lib.hid (Below.refl _ _).drew
    have HSh : Hid (∀ w' : World, Below w2.heap.size w2 w' → Calls Tryd.prog 18 #[.int .i64 q, .agg #[.int .i64 e, .int .i64 k, .int .i64 z, .int .i64 h, .int .i64 d, .string t, .slice A N.length c, .bool en]] w' fun e' w'' => e' = .returned (.string r) ∧ Below w2.heap.size w2 w'') := Lib.hid fun w' hb => (show_any m q e k z h d t A N c en w' (HE.out.later (HB2.out.trans (hb.mono HB2.out.size))) (HN.out.later (HB2.out.trans (hb.mono HB2.out.size))) HFt.out).mono fun e' w'' h => by
      obtain ⟨h1, h2⟩ := str_of hr h
      exact ⟨h1, hb.trans (h2.mono hb.size)⟩
    have HRs : Hid (∀ w' : World, Below w2.heap.size w2 w' → Calls Tryd.prog 19 #[.int .i64 q, .agg #[.int .i64 e, .int .i64 k, .int .i64 z, .int .i64 h, .int .i64 d, .string t, .slice A N.length c, .bool en]] w' fun e' w'' => e' = .returned (.string r) ∧ Below w2.heap.size w2 w'') := Lib.hid fun w' hb => (refshow_any q e k z h d t A N c en w' (HN.out.later (HB2.out.trans (hb.mono HB2.out.size))) HFt.out).mono fun e' w'' h => by
      obtain ⟨h1, h2⟩ := str_of hr h
      exact ⟨h1, hb.trans (h2.mono hb.size)⟩
    have gr : (r.toList == r.toList) = true := beq_self_eq_true _
    clear hr hfew hH
    go_upto_region 11 with fail
    refine wp_region_held_drew (S := fun w' => (w'.cell? ⟨w.heap.size, 0, none⟩ = some (.int .i64 e) ∧ w'.cell? ⟨w.heap.size, 1, none⟩ = some (.int .i64 k) ∧ w'.cell? ⟨w.heap.size, 2, none⟩ = some (.int .i64 z) ∧ w'.cell? ⟨w.heap.size, 3, none⟩ = some (.int .i64 h) ∧ w'.cell? ⟨w.heap.size, 4, none⟩ = some (.int .i64 d) ∧ w'.cell? ⟨w.heap.size, 5, none⟩ = some (.string t) ∧ w'.cell? ⟨w.heap.size, 6, none⟩ = some (.slice A N.length c) ∧ w'.cell? ⟨w.heap.size, 7, none⟩ = some (.bool en))) (by kernel_rfl) (HS.out _ HBv.out) (fun hHeld => ?_)
    refine wpAnyH_take (i := 0) (oi := ⟨some 30, _, _, _, _, _⟩) (v := ?_) rfl (by kernel_rfl) (by kernel_rfl) (by kernel_rfl) (fun _ _ _ h => h) (Or.inl ⟨by kernel_rfl, ?_⟩) (by assumption) ?_
    rotate_left 1
    focus (intro w' hSw; (try dsimp only at hSw); go_simp; (try with_reducible rfl))
    try simp only [Act.put, List.setIfInBounds_toArray, List.set_cons_zero, List.set_cons_succ]
    refine wpAnyH_take (i := 1) (oi := ⟨some 31, _, _, _, _, _⟩) (v := ?_) rfl (by kernel_rfl) (by kernel_rfl) (by kernel_rfl) (fun _ _ _ h => h) (Or.inl ⟨by kernel_rfl, ?_⟩) (by assumption) ?_
    rotate_left 1
    focus (intro w' hSw; (try dsimp only at hSw); go_simp; (try with_reducible rfl))
    try simp only [Act.put, List.setIfInBounds_toArray, List.set_cons_zero, List.set_cons_succ]
    refine wpAnyH_take (i := 3) (oi := ⟨some 33, _, _, _, _, _⟩) (v := ?_) rfl (by kernel_rfl) (by kernel_rfl) (by kernel_rfl) (fun _ _ _ h => h) (Or.inl ⟨by kernel_rfl, ?_⟩) (by assumption) ?_
    rotate_left 1
    focus (intro w' hSw; (try dsimp only at hSw); go_simp; (try with_reducible rfl))
    try simp only [Act.put, List.setIfInBounds_toArray, List.set_cons_zero, List.set_cons_succ]
    refine wpAnyH_take (i := 4) (oi := ⟨some 34, _, _, _, _, _⟩) (v := ?_) rfl (by kernel_rfl) (by kernel_rfl) (by kernel_rfl) (fun _ _ _ h => h) (Or.inl ⟨by kernel_rfl, ?_⟩) (by assumption) ?_
    rotate_left 1
    focus (intro w' hSw; (try dsimp only at hSw); go_simp; (try with_reducible rfl))
    try simp only [Act.put, List.setIfInBounds_toArray, List.set_cons_zero, List.set_cons_succ]
    refine wpAnyH_ready (rs := [2]) (by kernel_rfl) (by simp) ?_
    refine AllReadyH.cons rfl (fun K hK => ?_) AllReadyH.nil
    go_simp
    go_at_call 18
    refine (HSh.out _ HBv.out).mono ?_
    rintro en1 v1 ⟨rfl, hv1⟩
    clear hHeld
    refine hK.out _ _ (HS.out _ hv1) (fun hHeld => ?_)
    clear hK
    refine wpAnyH_ready (rs := [5]) (by kernel_rfl) (by simp) ?_
    refine AllReadyH.cons rfl (fun K hK => ?_) AllReadyH.nil
    go_simp
    go_at_call 19
    refine (HRs.out _ hv1).mono ?_
    rintro en2 v2 ⟨rfl, hv2⟩
    clear hHeld
    refine hK.out _ _ (HS.out _ hv2) (fun hHeld => ?_)
    clear hK
    refine wpAnyH_take (i := 6) (oi := ⟨some 36, _, _, _, _, _⟩) (v := ?_) rfl (by kernel_rfl) (by kernel_rfl) (by kernel_rfl) (fun _ _ _ h => h) (Or.inl ⟨by kernel_rfl, ?_⟩) (by assumption) ?_
    rotate_left 1
    focus (intro w' hSw; (try dsimp only at hSw); go_simp; (try with_reducible rfl))
    try simp only [Act.put, List.setIfInBounds_toArray, List.set_cons_zero, List.set_cons_succ]
    refine wpAnyH_take (i := 7) (oi := ⟨some 4, _, _, _, _, _⟩) (v := ?_) rfl (by kernel_rfl) (by kernel_rfl) (by kernel_rfl) (fun _ _ _ h => h) (Or.inl ⟨by kernel_rfl, ?_⟩) (by assumption) ?_
    rotate_left 1
    focus (intro w' hSw; (try dsimp only at hSw); go_simp; (try with_reducible rfl))
    try simp only [Act.put, List.setIfInBounds_toArray, List.set_cons_zero, List.set_cons_succ]
    refine wpAnyH_done (by kernel_rfl) ?_ _
    have HFn := Lib.hid (HF2.out.trans (hv2.mono HF2.out.size))
    clear hHeld hv1 hv2 HSh HRs HS HBv
    go_wp2_with fail
    go_ret
    exact ⟨rfl, HFn.out⟩
end Go.Proofs.YtblhicfllomdlaaDoor.cal
