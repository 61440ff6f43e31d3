/- What tree.Right, tree.Count and ends answer of any node. Conditions: the node is one that was read, and no deeper than a thousand; the library's MaxLen holds a number. -/
import Derived.Test.YtniklphdnakehaaDoorTreMaybe
namespace Go.Proofs.YtniklphdnakehaaDoor.tre
set_option maxRecDepth 100000
open Go.RowKit Go.Proofs.YtniklphdnakehaaDoor.words Go.Proofs.YtniklphdnakehaaDoor.ext Go.Proofs.YtniklphdnakehaaDoor.name

theorem maybe_is (b : Bool) (n : Nd) (r : Raw) (m : Int) (w : World) (hN : NdAt w w.heap.size n r) (hm : w.cell? ⟨0, 0, none⟩ = some (.int .i64 m)) (hb : oneB n = b) :
    Calls Tryd.prog 95 #[ndV n r] w fun e w' => e = .returned (.bool b) ∧ Below w.heap.size w w' :=
  (maybe_any n r m w hN hm).mono fun _ _ ⟨he, hw⟩ => ⟨by rw [he, hb], hw⟩

theorem heap_two (w : World) (o o' : Obj) : ((w.alloc o).alloc o').heap[w.heap.size + 1]? = some o' := by
  have h := heap_alloc_new (w.alloc o) o'
  rw [show (w.alloc o).heap.size = w.heap.size + 1 by simp] at h
  exact h

set_option maxHeartbeats 3200000 in
theorem asker_right {W0 : World} {m : Int} {bl : Nat} (hm : W0.cell? ⟨0, 0, none⟩ = some (.int .i64 m)) (hbl : W0.heap.size ≤ bl) :
    Asker W0 94 #[.pointer (some ⟨bl, 0, none⟩)] (some bl) (fun c w => Cnt w bl c) stR := by
  refine ⟨enters_of Tryd.func94 (by kernel_rfl) rfl, ?_, fun c w w' h hg => (hg.block bl h.lt (by simp)).trans h, fun c w b h hb => by injection hb with hb; subst hb; exact ⟨hbl, h.lt⟩⟩
  intro n r d c w hN hb hc hd1 hd2
  have HN := Lib.hid hN
  have HB := Lib.hid hb
  obtain ⟨W1, hW1⟩ : ∃ W1, W1 = w.alloc (.cells (rawCells n r) 27) := ⟨_, rfl⟩
  have HX1 : Hid (Box W1 w.heap.size n r) := by rw [hW1]; exact Lib.hid (Box.new w n r)
  have HC1 : Hid (Cnt W1 bl c) := by rw [hW1]; exact Lib.hid (hc.alloc _)
  have HG1 : Hid (w.grownBy W1 (some bl)) := by rw [hW1]; exact Lib.hid (grown_alloc _ _ _)
  have HB1 : Hid (Below W0.heap.size W0 W1) := by rw [hW1]; exact Lib.hid (hb.alloc hb.size _)
  have hne : w.heap.size ≠ bl := by have := hc.lt; omega
  have hne' : bl ≠ w.heap.size := fun e => hne e.symm
  unfold rawCells at hW1
  have HW1 := Lib.hid hW1
  obtain ⟨c1, hc1⟩ : ∃ c1, c1 = wrap64 (c + 1) := ⟨_, rfl⟩
  have hw := hc1.symm
  obtain ⟨W2, hW2⟩ : ∃ W2, W2 = W1.setCell ⟨bl, 0, none⟩ (.int .i64 c1) := ⟨_, rfl⟩
  have HX2 : Hid (Box W2 w.heap.size n r) := by rw [hW2]; exact Lib.hid (HX1.out.grown (grown_set _ _ _) (fun e => hne (by injection e)))
  have HC2 : Hid (Cnt W2 bl c1) := by rw [hW2]; exact Lib.hid (HC1.out.set_ _)
  have HG2 : Hid (w.grownBy W2 (some bl)) := by rw [hW2]; exact Lib.hid (grown_trans HG1.out (grown_set _ _ _))
  have HB2 : Hid (Below W0.heap.size W0 W2) := by rw [hW2]; exact Lib.hid (below_grown HB1.out (Nat.le_refl _) (grown_set _ _ _) hbl)
  have HW2 := Lib.hid hW2
  have HM2 := Lib.hid (below_cell hm HB2.out)
  have HN2 := Lib.hid (hN.later HB2.out)
  have HS := Lib.hid (show stR n d c = (decide (c1 ≤ 4096) && decide (d ≤ 15) && oneB n, c1) by unfold stR; rw [← hc1])
  obtain ⟨ob, hob⟩ : ∃ ob, ob = oneB n := ⟨_, rfl⟩
  have HOb := Lib.hid hob
  clear hN hb hc hm hW1 hW2 hc1 hob
  unfold ndV rawCells
  go_enter Tryd.func94, Tryd.ntmps94
  go_upto_region 1 with fail
  rw [← HW1.out]
  have hfz := HC1.out.free
  have hcl := HC1.out.cell
  obtain ⟨b0, b1, b2, b3, b4, b5, b6⟩ := HX1.out.cells
  go_upto_region 2 with fail
  rw [← HW2.out]
  clear b0 b1 b2 b3 b4 b5 b6 hfz hcl hw
  have hcl := HC2.out.cell
  obtain ⟨b0, b1, b2, b3, b4, b5, b6⟩ := HX2.out.cells
  by_cases h1 : c1 ≤ 4096
  · by_cases h2 : d ≤ 15
    · have g1 : decide (c1 ≤ 4096) = true := decide_eq_true h1
      have g2 : decide (d ≤ 15) = true := decide_eq_true h2
      have HF := Lib.hid (show stR n d c = (ob, c1) by rw [HS.out, g1, g2, ← HOb.out]; rfl)
      clear h1 h2
      go_wp2_with fail
      refine (maybe_is ob n r m _ HN2.out HM2.out HOb.out.symm).mono ?_
      rintro e w3 ⟨rfl, hb3⟩
      have HC3 := Lib.hid (HC2.out.below hb3)
      have HG3 := Lib.hid (grown_trans HG2.out (grown_of_below hb3 _))
      clear hb3
      go_wp2_with fail
      go_ret
      exact ⟨ret_fst HF.out, cnt_snd HF.out HC3.out, HG3.out⟩
    · have g1 : decide (c1 ≤ 4096) = true := decide_eq_true h1
      have g2 : decide (d ≤ 15) = false := decide_eq_false h2
      have HF := Lib.hid (show stR n d c = (false, c1) by rw [HS.out, g1, g2]; rfl)
      clear h1 h2
      go_wp2_with fail
      go_ret
      exact ⟨ret_fst HF.out, cnt_snd HF.out HC2.out, HG2.out⟩
  · have g1 : decide (c1 ≤ 4096) = false := decide_eq_false h1
    have HF := Lib.hid (show stR n d c = (false, c1) by rw [HS.out, g1]; rfl)
    clear h1
    go_wp2_with fail
    go_ret
    exact ⟨ret_fst HF.out, cnt_snd HF.out HC2.out, HG2.out⟩

set_option maxHeartbeats 3200000 in
theorem asker_count {W0 : World} {bl : Nat} (hbl : W0.heap.size ≤ bl) :
    Asker W0 88 #[.pointer (some ⟨bl, 0, none⟩)] (some bl) (fun c w => Cnt w bl c) stC := by
  refine ⟨enters_of Tryd.func88 (by kernel_rfl) rfl, ?_, fun c w w' h hg => (hg.block bl h.lt (by simp)).trans h, fun c w b h hb => by injection hb with hb; subst hb; exact ⟨hbl, h.lt⟩⟩
  intro n r d c w hN hb hc hd1 hd2
  obtain ⟨W1, hW1⟩ : ∃ W1, W1 = w.alloc (.cells (rawCells n r) 27) := ⟨_, rfl⟩
  have HC1 : Hid (Cnt W1 bl c) := by rw [hW1]; exact Lib.hid (hc.alloc _)
  have HG1 : Hid (w.grownBy W1 (some bl)) := by rw [hW1]; exact Lib.hid (grown_alloc _ _ _)
  have hne : w.heap.size ≠ bl := by have := hc.lt; omega
  have hne' : bl ≠ w.heap.size := fun e => hne e.symm
  unfold rawCells at hW1
  have HW1 := Lib.hid hW1
  obtain ⟨c1, hc1⟩ : ∃ c1, c1 = wrap64 (c + 1) := ⟨_, rfl⟩
  have hw := hc1.symm
  have HC2 := Lib.hid (HC1.out.set_ c1)
  have HG2 := Lib.hid (grown_trans HG1.out (grown_set W1 bl (.int .i64 c1)))
  have HS := Lib.hid (show stC n d c = (decide (d ≤ 65536), c1) by unfold stC; rw [← hc1])
  clear hN hb hc hW1 hc1
  unfold ndV rawCells
  go_enter Tryd.func88, Tryd.ntmps88
  go_upto_region 1 with fail
  rw [← HW1.out]
  have hfz := HC1.out.free
  have hcl := HC1.out.cell
  by_cases h1 : d ≤ 65536
  · have g1 : decide (d ≤ 65536) = true := decide_eq_true h1
    have HF := Lib.hid (show stC n d c = (true, c1) by rw [HS.out, g1])
    clear h1
    go_wp2_with fail
    go_ret
    exact ⟨ret_fst HF.out, cnt_snd HF.out HC2.out, HG2.out⟩
  · have g1 : decide (d ≤ 65536) = false := decide_eq_false h1
    have HF := Lib.hid (show stC n d c = (false, c1) by rw [HS.out, g1])
    clear h1
    go_wp2_with fail
    go_ret
    exact ⟨ret_fst HF.out, cnt_snd HF.out HC2.out, HG2.out⟩


set_option maxHeartbeats 3200000 in
theorem treeright_any (n : Nd) (r : Raw) (m : Int) (w : World) (hN : NdAt w w.heap.size n r) (hm : w.cell? ⟨0, 0, none⟩ = some (.int .i64 m)) (hd : depth n ≤ 1000) :
    Calls Tryd.prog 55 #[ndV n r] w fun e w' => e = .returned (.bool (treeB n)) ∧ Below w.heap.size w w' := by
  obtain ⟨W1, hW1⟩ : ∃ W1, W1 = (w.alloc (.cells (rawCells n r) 27)).alloc (.cells #[.int .i64 0] 3) := ⟨_, rfl⟩
  have hb1 : Below w.heap.size w W1 := by rw [hW1]; exact ((Below.refl _ _).alloc (Nat.le_refl _) _).alloc (by simp) _
  have HX1 : Hid (Box W1 w.heap.size n r) := by rw [hW1]; exact Lib.hid ((Box.new w n r).alloc _)
  have hc1 : Cnt W1 (w.heap.size + 1) 0 := by
    rw [hW1]
    exact heap_two _ _ _
  have HI := Lib.hid (each_at (asker_right (bl := w.heap.size + 1) hm (by omega)) (depth n + 1) n r 0 0 W1 (by omega) hN hb1 hc1 (by omega) (by omega))
  have HB1 := Lib.hid hb1
  unfold rawCells at hW1
  have HW1 := Lib.hid hW1
  unfold ndV rawCells at HI
  clear hN hm hb1 hc1 hW1
  unfold ndV rawCells
  by_cases k2 : n.K = 2
  · have g2 : (n.K == 2) = true := by rw [k2]; rfl
    obtain ⟨p1, hp1⟩ : ∃ p1, p1 = (eachS stR n 0 0).1 := ⟨_, rfl⟩
    rw [← hp1] at HI
    have HF := Lib.hid (show p1 = treeB n by unfold treeB; rw [g2, ← hp1, Bool.true_and])
    clear k2 hp1
    go_enter Tryd.func55, Tryd.ntmps55
    go_upto_region 2 with fail
    rw [← HW1.out]
    obtain ⟨b0, b1, b2, b3, b4, b5, b6⟩ := HX1.out.cells
    go_wp2_with fail
    refine HI.out.mono ?_
    rintro e w2 ⟨rfl, _, hg2⟩
    have HB2 := Lib.hid (below_grown HB1.out (Nat.le_refl _) hg2 (by omega))
    clear hg2 HI
    go_wp2_with fail
    go_ret
    exact ⟨ret_bool HF.out, HB2.out⟩
  · have g2 : (n.K == 2) = false := by rw [beq_eq_false_iff_ne]; exact k2
    have HF := Lib.hid (show false = treeB n by unfold treeB; rw [g2, Bool.false_and])
    clear k2
    go_enter Tryd.func55, Tryd.ntmps55
    go_upto_region 2 with fail
    rw [← HW1.out]
    obtain ⟨b0, b1, b2, b3, b4, b5, b6⟩ := HX1.out.cells
    go_wp2_with fail
    go_ret
    exact ⟨ret_bool HF.out, HB1.out⟩

/-- How many, as the code counts. -/
def countC (n : Nd) : Int := (eachS stC n 0 0).2
set_option maxHeartbeats 3200000 in
theorem treecount_any (n : Nd) (r : Raw) (w : World) (hN : NdAt w w.heap.size n r) (hd : depth n ≤ 1000) :
    Calls Tryd.prog 48 #[ndV n r] w fun e w' => e = .returned (.int .i64 (countC n)) ∧ Below w.heap.size w w' := by
  obtain ⟨W1, hW1⟩ : ∃ W1, W1 = (w.alloc (.cells (rawCells n r) 27)).alloc (.cells #[.int .i64 0] 3) := ⟨_, rfl⟩
  have hb1 : Below w.heap.size w W1 := by rw [hW1]; exact ((Below.refl _ _).alloc (Nat.le_refl _) _).alloc (by simp) _
  have HX1 : Hid (Box W1 w.heap.size n r) := by rw [hW1]; exact Lib.hid ((Box.new w n r).alloc _)
  have hc1 : Cnt W1 (w.heap.size + 1) 0 := by
    rw [hW1]
    exact heap_two _ _ _
  have HI := Lib.hid (each_at (asker_count (W0 := w) (bl := w.heap.size + 1) (by omega)) (depth n + 1) n r 0 0 W1 (by omega) hN hb1 hc1 (by omega) (by omega))
  have HB1 := Lib.hid hb1
  unfold rawCells at hW1
  have HW1 := Lib.hid hW1
  unfold ndV rawCells at HI
  clear hN hb1 hc1 hW1
  unfold ndV rawCells
  go_enter Tryd.func48, Tryd.ntmps48
  go_upto_region 2 with fail
  rw [← HW1.out]
  obtain ⟨b0, b1, b2, b3, b4, b5, b6⟩ := HX1.out.cells
  go_wp2_with fail
  refine HI.out.mono ?_
  rintro e w2 ⟨rfl, hc2, hg2⟩
  have HB2 := Lib.hid (below_grown HB1.out (Nat.le_refl _) hg2 (by omega))
  have k0 := Cnt.cell (show Cnt w2 (w.heap.size + 1) (countC n) from hc2)
  clear hg2 hc2 HI
  go_wp2_with fail
  go_ret
  exact ⟨rfl, HB2.out⟩

end Go.Proofs.YtniklphdnakehaaDoor.tre
