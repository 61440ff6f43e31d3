/- What branch's Open answers of an image, and of what is none; and the law BranchReads: of any tree what is read of any node is the document's; an image's branch is its tree's. Conditions: the node is one that was read; the library's MaxLen holds a number. -/
import Derived.Test.YtmmpceodhadipaaDoorJV7
import Derived.Test.YtmmpceodhadipaaDoorJJ
import Derived.Test.YtmmpceodhadipaaDoorJU1
namespace Go.Proofs.YtmmpceodhadipaaDoor.ima
set_option maxRecDepth 100000
open Go.RowKit Go.Proofs.YtmmpceodhadipaaDoor.words Go.Proofs.YtmmpceodhadipaaDoor.ext Go.Proofs.YtmmpceodhadipaaDoor.name Go.Proofs.YtmmpceodhadipaaDoor.tre

set_option maxHeartbeats 1600000 in
theorem open_img (n : Nd) (m : Int) (w : World) (hm : w.cell? ⟨0, 0, none⟩ = some (.int .i64 m)) (h : treeB n = true) (hcc : countC n = (count n : Int)) (hc : count n ≤ 4096) (hl : (nb n).length ≤ 4194297) (hd : depth n ≤ 1000) :
    Calls Tryd.prog 35 #[.string (imgB n)] w fun e w' => (∃ g, e = .returned (.tuple #[.pointer (some ⟨g, 0, none⟩), .int .i64 0]) ∧ Brn w' w'.heap.size g (flatN 0 n)) ∧ Below w.heap.size w w' := by
  have hC := decode_img n m w hm h hc hl
  obtain ⟨q, hq⟩ : ∃ q, q = imgB n := ⟨_, rfl⟩
  rw [← hq] at hC ⊢
  have HC := Lib.hid hC
  have HM := Lib.hid hm
  clear hq hC hm
  go_enter Tryd.func35, Tryd.ntmps35
  go_wp2_with fail
  refine HC.out.mono ?_
  rintro e w1 ⟨r, rfl, hn, hb1⟩
  obtain ⟨W2, hW2⟩ : ∃ W2, W2 = w1.alloc (.cells (rawCells n r) 39) := ⟨_, rfl⟩
  have hb2 : Below w1.heap.size w1 W2 := by rw [hW2]; exact (Below.refl _ _).alloc (Nat.le_refl _) _
  have hx2 : Box W2 w1.heap.size n r := by rw [hW2]; exact Box.new w1 n r
  have hn2 := (hn.at_ fun k hk => hk.lt).later hb2
  have hb02 := hb1.trans (hb2.mono hb1.size)
  have hN := new_yes n r m W2 hn2 (below_cell HM.out hb02) hd h hcc hc
  unfold ndV rawCells at hN
  have HNew := Lib.hid hN
  have HB2 := Lib.hid hb02
  have HX2 := Lib.hid hx2
  unfold rawCells at hW2
  have HW2 := Lib.hid hW2
  clear hn hb1 hb2 hx2 hn2 hb02 hN hW2 HC
  unfold ndV rawCells
  go_upto_region 2 with fail
  rw [← HW2.out]
  clear HW2
  obtain ⟨b0, b1, b2, b3, b4, b5, b6⟩ := HX2.out.cells
  go_wp2_with fail
  refine HNew.out.mono ?_
  rintro e w3 ⟨⟨g, rfl, hbr⟩, hb3⟩
  have HF := Lib.hid (And.intro hbr (HB2.out.trans (hb3.mono HB2.out.size)))
  clear hbr hb3 HNew b0 b1 b2 b3 b4 b5 b6
  go_wp2_with fail
  go_ret2
  exact ⟨⟨g, rfl, HF.out.1⟩, HF.out.2⟩
set_option maxHeartbeats 1600000 in
theorem open_no (s : ByteArray) (m : Int) (w : World) (hm : w.cell? ⟨0, 0, none⟩ = some (.int .i64 m)) (hs : s.size ≤ 140737488355328)
    (hd : ∀ n c, nodeP 4097 0 (Lib.trimPrefix s.data.toList magic.data.toList) = some (n, [], c) → depth n ≤ 1000) (hn : decB s = none) :
    Calls Tryd.prog 35 #[.string s] w fun e w' => e = .returned (.tuple #[.pointer none, .int .i64 1]) ∧ Below w.heap.size w w' := by
  have HC := Lib.hid (show Calls Tryd.prog 26 #[.string s] w fun e w' => e = .returned (.tuple #[.agg #[.int .i64 0, .bool false, .slice none 0 0, .slice none 0 0, .int .i64 0, .slice none 0 0, .string ⟨#[]⟩], .int .i64 1]) ∧ Below w.heap.size w w' from decode_none hm hs hd hn)
  clear hm hd hn
  go_enter Tryd.func35, Tryd.ntmps35
  go_wp2_with fail
  refine HC.out.mono ?_
  rintro e w1 ⟨rfl, hb1⟩
  have HB1 := Lib.hid hb1
  clear hb1 HC
  go_wp2_with fail
  go_ret2
  exact ⟨rfl, HB1.out.alloc HB1.out.size _⟩
set_option maxHeartbeats 12800000 in
theorem law_reads (n : Nd) (r : Raw) (off many : Int) (m : Int) (w : World) (hN : NdAt w w.heap.size n r) (hm : w.cell? ⟨0, 0, none⟩ = some (.int .i64 m)) (ho : -9223372036854775808 ≤ off ∧ off ≤ 9223372036854775807) (hy : -9223372036854775808 ≤ many ∧ many ≤ 9223372036854775807) :
    Calls Tryd.prog 7 #[ndV n r, .int .i64 off, .int .i64 many] w fun e w' => e = .returned (.bool true) ∧ Below w.heap.size w w' := by
  obtain ⟨W1, hW1⟩ : ∃ W1, W1 = w.alloc (.cells (rawCells n r) 39) := ⟨_, rfl⟩
  have hb1 : Below w.heap.size w W1 := by rw [hW1]; exact (Below.refl _ _).alloc (Nat.le_refl _) _
  have hx1 : Box W1 w.heap.size n r := by rw [hW1]; exact Box.new w n r
  have HX1 := Lib.hid hx1
  have HN1 := Lib.hid (hN.later hb1)
  have HM1 := Lib.hid (below_cell hm hb1)
  have HB1 := Lib.hid hb1
  unfold rawCells at hW1
  have HW1 := Lib.hid hW1
  have HTm := Lib.hid hN.tame
  clear hN hm hW1 hb1 hx1
  unfold ndV rawCells
  go_enter Tryd.func7, Tryd.ntmps7
  go_upto_region 1 with fail
  rw [← HW1.out]
  go_wp2_with fail
  refine (bspeaks_any m W1 HM1.out).mono ?_
  rintro e w2 ⟨rfl, hb2⟩
  have HX2 := Lib.hid (HX1.out.below hb2)
  have HN2 := Lib.hid (HN1.out.later hb2)
  have HM2 := Lib.hid (below_cell HM1.out hb2)
  have HB2 := Lib.hid (HB1.out.trans (hb2.mono HB1.out.size))
  clear hb2 HX1 HN1 HM1 HB1 HW1
  obtain ⟨b0, b1, b2, b3, b4, b5, b6⟩ := HX2.out.cells
  rcases hsm : smallB n with _ | _
  · have hs := small_is 0 n r w2 HN2.out (by rw [hsm]; rfl)
    unfold ndV rawCells at hs
    have HS := Lib.hid hs
    clear hs hsm
    go_wp2_with fail
    refine HS.out.mono ?_
    rintro e w3 ⟨rfl, hb3⟩
    have HB3 := Lib.hid (HB2.out.trans (hb3.mono HB2.out.size))
    clear hb3 HS
    go_wp2_with fail
    go_ret
    exact ⟨rfl, HB3.out⟩
  have hs := small_is 1 n r w2 HN2.out (by rw [hsm]; rfl)
  unfold ndV rawCells at hs
  have HS := Lib.hid hs
  have HSm := Lib.hid hsm
  clear hs hsm
  go_wp2_with fail
  refine HS.out.mono ?_
  rintro e w3 ⟨rfl, hb3⟩
  have HX3 := Lib.hid (HX2.out.below hb3)
  have HN3 := Lib.hid (HN2.out.later hb3)
  have HM3 := Lib.hid (below_cell HM2.out hb3)
  have HB3 := Lib.hid (HB2.out.trans (hb3.mono HB2.out.size))
  have hdp := smallB_depth HSm.out
  have hR := refright_node n r w3 HN3.out (by omega)
  have hts := tree_same HSm.out HTm.out
  unfold ndV rawCells at hR
  have HR := Lib.hid hR
  clear hb3 hR HS HX2 HN2 HM2 HB2 b0 b1 b2 b3 b4 b5 b6
  obtain ⟨b0, b1, b2, b3, b4, b5, b6⟩ := HX3.out.cells
  rcases htr : treeB n with _ | _
  · rw [htr] at hts
    rw [← hts] at HR
    clear hts htr
    go_wp2_with fail
    refine HR.out.mono ?_
    rintro e w4 ⟨rfl, hb4⟩
    have HB4 := Lib.hid (HB3.out.trans (hb4.mono HB3.out.size))
    clear hb4 HR
    go_wp2_with fail
    go_ret
    exact ⟨rfl, HB4.out⟩
  rw [htr] at hts
  have HRf := Lib.hid hts.symm
  rw [← hts] at HR
  have HOk := Lib.hid (okay_of HSm.out HTm.out htr)
  have HTr := Lib.hid htr
  have HNb := Lib.hid (smallB_nb HSm.out HOk.out.all HTm.out)
  clear hts htr
  by_cases hm3 : 3000 < many
  · have g : (3000 : Int) < many := hm3
    go_wp2_with fail
    refine HR.out.mono ?_
    rintro e w4 ⟨rfl, hb4⟩
    have HB4 := Lib.hid (HB3.out.trans (hb4.mono HB3.out.size))
    clear hb4 HR
    go_wp2_with fail
    go_ret
    exact ⟨rfl, HB4.out⟩
  have g : ¬ (3000 : Int) < many := hm3
  go_wp2_with fail
  refine HR.out.mono ?_
  rintro e w4 ⟨rfl, hb4⟩
  have HX4 := Lib.hid (HX3.out.below hb4)
  have HN4 := Lib.hid (HN3.out.later hb4)
  have HM4 := Lib.hid (below_cell HM3.out hb4)
  have HB4 := Lib.hid (HB3.out.trans (hb4.mono HB3.out.size))
  have hNw := new_yes n r m w4 HN4.out HM4.out (by omega) HTr.out HOk.out.cc (by have := HOk.out.cnt; omega)
  unfold ndV rawCells at hNw
  have HNw := Lib.hid hNw
  clear hb4 hNw HR HX3 HN3 HM3 HB3 b0 b1 b2 b3 b4 b5 b6
  obtain ⟨b0, b1, b2, b3, b4, b5, b6⟩ := HX4.out.cells
  go_wp2_with fail
  refine HNw.out.mono ?_
  rintro e w5 ⟨⟨g1, rfl, hbr1⟩, hb5⟩
  have HX5 := Lib.hid (HX4.out.below hb5)
  have HN5 := Lib.hid (HN4.out.later hb5)
  have HM5 := Lib.hid (below_cell HM4.out hb5)
  have HB5 := Lib.hid (HB4.out.trans (hb5.mono HB4.out.size))
  have HG5 := Lib.hid hbr1
  obtain ⟨q, hq⟩ : ∃ q, q = imgB n := ⟨_, rfl⟩
  have hE : Calls Tryd.prog 34 #[ndV n r] w5 fun e w' => e = .returned (.tuple #[.string q, .bool true]) ∧ Below w5.heap.size w5 w' := by
    rw [hq]
    exact refencode_yes n r w5 HN5.out (by omega) HRf.out (by have := HOk.out.cnt; omega) (by have := HNb.out; omega)
  have hOp : ∀ w' : World, Below w5.heap.size w5 w' → Calls Tryd.prog 35 #[.string q] w' fun e w'' => (∃ g, e = .returned (.tuple #[.pointer (some ⟨g, 0, none⟩), .int .i64 0]) ∧ Brn w'' w''.heap.size g (flatN 0 n)) ∧ Below w'.heap.size w' w'' := fun w' hb => by
    rw [hq]
    exact open_img n m w' (below_cell HM5.out hb) HTr.out HOk.out.cc (by have := HOk.out.cnt; omega) (by have := HNb.out; omega) (by omega)
  obtain ⟨z, hz⟩ : ∃ z : ByteArray, z = ⟨#[0]⟩ := ⟨_, rfl⟩
  have hzs : z.size = 1 := by rw [hz]; rfl
  have hmo := more_none (n := n) (r := z) HTr.out (by have := HOk.out.cnt; omega) (by omega)
  have hqs : (q ++ z).size ≤ 140737488355328 := by
    rw [ByteArray.size_append, hq, imgB_size]
    have := HNb.out
    omega
  rw [← hq] at hmo
  have hOn : ∀ w' : World, Below w5.heap.size w5 w' → Calls Tryd.prog 35 #[.string (q ++ z)] w' fun e w'' => e = .returned (.tuple #[.pointer none, .int .i64 1]) ∧ Below w'.heap.size w' w'' := fun w' hb =>
    open_no (q ++ z) m w' (below_cell HM5.out hb) hqs hmo.2 hmo.1
  have HQz : Hid (q.size ≤ 140737488355327) := Lib.hid (by rw [ByteArray.size_append, hzs] at hqs; omega)
  rw [hz] at hOn
  unfold ndV rawCells at hE
  have HE := Lib.hid hE
  have HOp := Lib.hid hOp
  have HOn := Lib.hid hOn
  clear hb5 hbr1 hE hOp hOn hmo hq hqs hz hzs HNw HX4 HN4 HM4 HB4 b0 b1 b2 b3 b4 b5 b6
  obtain ⟨b0, b1, b2, b3, b4, b5, b6⟩ := HX5.out.cells
  go_wp2_with fail
  refine HE.out.mono ?_
  rintro e w6 ⟨rfl, hb6⟩
  have HX6 := Lib.hid (HX5.out.below hb6)
  have HN6 := Lib.hid (HN5.out.later hb6)
  have HG6 := Lib.hid (HG5.out.later hb6)
  have HB6 := Lib.hid (HB5.out.trans (hb6.mono HB5.out.size))
  have H56 := Lib.hid hb6
  clear hb6 HE HX5 HN5 HG5 HB5 b0 b1 b2 b3 b4 b5 b6
  go_wp2_with fail
  refine (HOp.out w6 H56.out).mono ?_
  rintro e w7 ⟨⟨g2, rfl, hbr2⟩, hb7⟩
  have HX7 := Lib.hid (HX6.out.below hb7)
  have HN7 := Lib.hid (HN6.out.later hb7)
  have HG7 := Lib.hid (HG6.out.later hb7)
  have HC7 := Lib.hid hbr2
  have HB7 := Lib.hid (HB6.out.trans (hb7.mono HB6.out.size))
  have H57 := Lib.hid (H56.out.trans (hb7.mono H56.out.size))
  clear hb7 hbr2 HOp HX6 HN6 HG6 HB6 H56
  have hcat : ¬ 9223372036854775807 < q.size + 1 := by have := HQz.out; omega
  have hcat2 : ¬ 9223372036854775807 < q.size + ByteArray.size ⟨#[0]⟩ := hcat
  go_wp2_with fail
  refine (HOn.out w7 H57.out).mono ?_
  rintro e w8 ⟨rfl, hb8⟩
  have HX8 := Lib.hid (HX7.out.below hb8)
  have HN8 := Lib.hid (HN7.out.later hb8)
  have HG8 := Lib.hid (HG7.out.later hb8)
  have HC8 := Lib.hid (HC7.out.later hb8)
  have HB8 := Lib.hid (HB7.out.trans (hb8.mono HB7.out.size))
  have hcb := bcount_any g1 _ w8 HG8.out
  have hcc := bcount_any g2 _ w8 HC8.out
  rw [flatN_length] at hcb hcc
  have HCb := Lib.hid hcb
  have HCc := Lib.hid hcc
  clear hb8 hcb hcc HOn HX7 HN7 HG7 HC7 HB7 H57
  have gc : ((count n : Int) != (count n : Int)) = false := by simp
  go_wp2_with fail
  refine HCb.out.mono ?_
  rintro e w' ⟨rfl, rfl⟩
  clear HCb
  go_wp2_with fail
  refine HCc.out.mono ?_
  rintro e w' ⟨rfl, rfl⟩
  clear HCc
  have hpre := pre_at w8 (depth n + 1) n r w8 (Nat.lt_succ_self _) HN8.out (Below.refl _ _) (by have := HOk.out.cnt; omega)
  unfold ndV rawCells at hpre
  have HPre := Lib.hid hpre
  clear hpre
  obtain ⟨b0, b1, b2, b3, b4, b5, b6⟩ := HX8.out.cells
  go_wp2_with fail
  refine HPre.out.mono ?_
  rintro e w9 ⟨A, c, rs, rfl, ho9, hn9, hb9⟩
  obtain ⟨bl, rfl, hbl, hcl⟩ := row_nd ho9
  have HNds := Lib.hid hn9
  have HCl := Lib.hid hcl
  have HG9 := Lib.hid (HG8.out.later hb9)
  have HC9 := Lib.hid (HC8.out.later hb9)
  have HB89 := Lib.hid hb9
  have HB9 := Lib.hid (HB8.out.trans (hb9.mono HB8.out.size))
  have hcnt := HOk.out.cnt
  clear ho9 hn9 hcl hb9 HPre HB8 HX8 HG8 HC8 b0 b1 b2 b3 b4 b5 b6
  go_wp2_with fail
  go_loopw [81] (fun v wr => ∃ k : Nat, k ≤ count n ∧ v = .int .i64 k ∧ Hid (Below w9.heap.size w9 wr)) (fun v _ => count n - (intOf v).toNat)
  case atStart => exact ⟨0, Nat.zero_le _, rfl, Lib.hid (Below.refl _ _)⟩
  case round =>
    obtain ⟨k, hk, rfl, HBr⟩ := hrel
    by_cases hlt : k < count n
    · obtain ⟨x, hx⟩ : ∃ x, (preN n)[k]? = some x := ⟨_, List.getElem?_eq_getElem (by rw [preN_length]; exact hlt)⟩
      obtain ⟨rx, hrx⟩ : ∃ rx, rx = rs k := ⟨_, rfl⟩
      have hc := HCl.out k x hx
      rw [← hrx] at hc
      have ld : ∀ j v, (rawCells x rx)[j]? = some v → wr.cell? ⟨bl, k * 7 + j, none⟩ = some v := fun j v hj => (HBr.out.cell (p := ⟨bl, k * 7 + j, none⟩) hbl).trans (hc j v hj)
      have c0 : wr.cell? ⟨bl, k * 7, none⟩ = some (.int .i64 x.K) := ld 0 _ rfl
      have c1 : wr.cell? ⟨bl, k * 7 + 1, none⟩ = some (.bool x.O) := ld 1 _ rfl
      have c2 : wr.cell? ⟨bl, k * 7 + 2, none⟩ = some (.slice rx.An x.N.length rx.cn) := ld 2 _ rfl
      have c3 : wr.cell? ⟨bl, k * 7 + 3, none⟩ = some (.slice rx.Ai x.I.length rx.ci) := ld 3 _ rfl
      have c4 : wr.cell? ⟨bl, k * 7 + 4, none⟩ = some (.int .i64 x.S) := ld 4 _ rfl
      have c5 : wr.cell? ⟨bl, k * 7 + 5, none⟩ = some (.slice rx.Ae x.E.length rx.ce) := ld 5 _ rfl
      have c6 : wr.cell? ⟨bl, k * 7 + 6, none⟩ = some (.string x.T) := ld 6 _ rfl
      have i0' : (0 : Int) ≤ (k : Int) := by omega
      have i1' : (k : Int) < (count n : Int) := by omega
      have hnx : NdAt wr wr.heap.size x rx := by
        have h := HNds.out k x hx
        rw [← hrx] at h
        exact (h.later HB89.out).later HBr.out
      have hone := allB_one ((preN_in n x (List.mem_of_getElem? hx)).2.2 HOk.out.all)
      have hright := (one_right hone).2.2
      have hel := (one_facts hone).2
      obtain ⟨W13, hW13⟩ : ∃ W13, W13 = wr.alloc (.cells (rawCells x rx) 39) := ⟨_, rfl⟩
      have hb13 : Below wr.heap.size wr W13 := by rw [hW13]; exact (Below.refl _ _).alloc (Nat.le_refl _) _
      have hx13 : Box W13 wr.heap.size x rx := by rw [hW13]; exact Box.new wr x rx
      have hn13 := hnx.later hb13
      have hbg := HB9.out.trans (HBr.out.mono HB9.out.size)
      have HG13 := Lib.hid ((HG9.out.later HBr.out).later hb13)
      have HC13 := Lib.hid ((HC9.out.later HBr.out).later hb13)
      have hfx := flat_at hx
      have HX13 := Lib.hid hx13
      have HRd := Lib.hid (refread_all x.S off many rx.Ae rx.ce x.E W13 hn13.exts (by omega) hright (.inr (by omega)) ho.1 ho.2 hy.1 hy.2)
      have HB13 := Lib.hid (HBr.out.trans (hb13.mono HBr.out.size))
      have HRt := Lib.hid hright
      unfold rawCells at hW13
      have HW13 := Lib.hid hW13
      clear hx hrx hc ld hnx hb13 hx13 hn13 hW13 hone hright hel hbg
      go_upto_region 14 with fail
      rw [← HW13.out]
      clear c0 c1 c2 c3 c4 c5 c6 HW13
      obtain ⟨b0, b1, b2, b3, b4, b5, b6⟩ := HX13.out.cells
      go_wp2_with fail
      refine HRd.out.mono ?_
      rintro e w14 ⟨⟨wt, rfl, hwt⟩, hb14⟩
      have HX14 := Lib.hid (HX13.out.below hb14)
      have HG14 := Lib.hid (HG13.out.later hb14)
      have HC14 := Lib.hid (HC13.out.later hb14)
      have HB14 := Lib.hid (HB13.out.trans (hb14.mono HB13.out.size))
      have HWt := Lib.hid hwt
      have J1 : Hid (∀ w' : World, Below w14.heap.size w14 w' → Calls Tryd.prog 39 #[.pointer (some ⟨g1, 0, none⟩), .int .i64 (k : Int), .int .i64 off, .int .i64 many] w' fun e w'' => e = .returned (.string wt) ∧ Below w14.heap.size w14 w'') := Lib.hid fun w' hb => by
        have h1 := bread_yes g1 k _ (entOf k x) off many w' (HG14.out.later hb) hfx (by rw [show (entOf k x).x.S = x.S from alone_S x, show (entOf k x).x.E = x.E from alone_E x]; exact HRt.out) ho.1 ho.2 hy.1 hy.2
        rw [show (entOf k x).x.S = x.S from alone_S x, show (entOf k x).x.E = x.E from alone_E x] at h1
        exact h1.mono fun e w'' ⟨⟨t, h2, h3⟩, h4⟩ => ⟨by rw [h2, text_eq (h3.trans HWt.out.symm)], hb.trans (h4.mono hb.size)⟩
      have J2 : Hid (∀ w' : World, Below w14.heap.size w14 w' → Calls Tryd.prog 39 #[.pointer (some ⟨g2, 0, none⟩), .int .i64 (k : Int), .int .i64 off, .int .i64 many] w' fun e w'' => e = .returned (.string wt) ∧ Below w14.heap.size w14 w'') := Lib.hid fun w' hb => by
        have h1 := bread_yes g2 k _ (entOf k x) off many w' (HC14.out.later hb) hfx (by rw [show (entOf k x).x.S = x.S from alone_S x, show (entOf k x).x.E = x.E from alone_E x]; exact HRt.out) ho.1 ho.2 hy.1 hy.2
        rw [show (entOf k x).x.S = x.S from alone_S x, show (entOf k x).x.E = x.E from alone_E x] at h1
        exact h1.mono fun e w'' ⟨⟨t, h2, h3⟩, h4⟩ => ⟨by rw [h2, text_eq (h3.trans HWt.out.symm)], hb.trans (h4.mono hb.size)⟩
      have J3 : Hid (∀ w' : World, Below w14.heap.size w14 w' → Calls Tryd.prog 40 #[.pointer (some ⟨g2, 0, none⟩), .int .i64 (k : Int)] w' fun e w'' => e = .returned (.int .i64 x.K) ∧ Below w14.heap.size w14 w'') := Lib.hid fun w' hb =>
        (bkind_yes g2 k _ _ w' (HC14.out.later hb) hfx).mono fun _ _ ⟨he, hw⟩ => ⟨by rw [he, show (entOf k x).x.K = x.K from alone_K x], hb.trans (hw.mono hb.size)⟩
      have HSS : Hid (∀ w' : World, Below w14.heap.size w14 w' → (w'.cell? ⟨wr.heap.size, 0, none⟩ = some (.int .i64 x.K) ∧ Below w14.heap.size w14 w')) := Lib.hid fun w' hb => ⟨(HX14.out.below hb).cells.1, hb⟩
      have HBv : Hid (Below w14.heap.size w14 w14.drew) := Lib.hid (Below.refl _ _).drew
      have htt : (wt.toList == wt.toList) = true := by simp
      clear hwt hb14 HRd HX13 HG13 HC13 hfx b0 b1 b2 b3 b4 b5 b6
      go_upto_region 15 with fail
      refine wp_region_held_drew (S := fun w' => (w'.cell? ⟨wr.heap.size, 0, none⟩ = some (.int .i64 x.K) ∧ Below w14.heap.size w14 w')) (by kernel_rfl) (HSS.out _ HBv.out) (fun hHeld => ?_)
      refine wpAnyH_take (i := 0) (oi := ⟨some 93, _, _, _, _, _⟩) (v := ?_) rfl (by kernel_rfl) (by kernel_rfl) (by kernel_rfl) (fun _ _ _ h => h) (Or.inl ⟨by kernel_rfl, ?_⟩) (by assumption) ?_
      rotate_left 1
      focus (intro w' hSw; (try dsimp only at hSw); go_simp; (try with_reducible rfl))
      try simp only [Act.put, List.setIfInBounds_toArray, List.set_cons_zero, List.set_cons_succ]
      refine wpAnyH_take (i := 1) (oi := ⟨some 94, _, _, _, _, _⟩) (v := ?_) rfl (by kernel_rfl) (by kernel_rfl) (by kernel_rfl) (fun _ _ _ h => h) (Or.inl ⟨by kernel_rfl, ?_⟩) (by assumption) ?_
      rotate_left 1
      focus (intro w' hSw; (try dsimp only at hSw); go_simp; (try with_reducible rfl))
      try simp only [Act.put, List.setIfInBounds_toArray, List.set_cons_zero, List.set_cons_succ]
      refine wpAnyH_take (i := 2) (oi := ⟨some 95, _, _, _, _, _⟩) (v := ?_) rfl (by kernel_rfl) (by kernel_rfl) (by kernel_rfl) (fun _ _ _ h => h) (Or.inl ⟨by kernel_rfl, ?_⟩) (by assumption) ?_
      rotate_left 1
      focus (intro w' hSw; (try dsimp only at hSw); go_simp; (try with_reducible rfl))
      try simp only [Act.put, List.setIfInBounds_toArray, List.set_cons_zero, List.set_cons_succ]
      refine wpAnyH_take (i := 3) (oi := ⟨some 96, _, _, _, _, _⟩) (v := ?_) rfl (by kernel_rfl) (by kernel_rfl) (by kernel_rfl) (fun _ _ _ h => h) (Or.inl ⟨by kernel_rfl, ?_⟩) (by assumption) ?_
      rotate_left 1
      focus (intro w' hSw; (try dsimp only at hSw); go_simp; (try with_reducible rfl))
      try simp only [Act.put, List.setIfInBounds_toArray, List.set_cons_zero, List.set_cons_succ]
      refine wpAnyH_take (i := 5) (oi := ⟨some 98, _, _, _, _, _⟩) (v := ?_) rfl (by kernel_rfl) (by kernel_rfl) (by kernel_rfl) (fun _ _ _ h => h) (Or.inl ⟨by kernel_rfl, ?_⟩) (by assumption) ?_
      rotate_left 1
      focus (intro w' hSw; (try dsimp only at hSw); go_simp; (try with_reducible rfl))
      try simp only [Act.put, List.setIfInBounds_toArray, List.set_cons_zero, List.set_cons_succ]
      refine wpAnyH_ready (rs := [4]) (by kernel_rfl) (by simp) ?_
      refine AllReadyH.cons rfl (fun K hK => ?_) AllReadyH.nil
      go_simp
      go_at_call 39
      refine (J1.out _ HBv.out).mono ?_
      rintro en v1 ⟨rfl, hv1⟩
      clear hHeld
      refine hK.out _ _ (HSS.out _ hv1) (fun hHeld => ?_)
      clear hK
      refine wpAnyH_take (i := 6) (oi := ⟨some 99, _, _, _, _, _⟩) (v := ?_) rfl (by kernel_rfl) (by kernel_rfl) (by kernel_rfl) (fun _ _ _ h => h) (Or.inl ⟨by kernel_rfl, ?_⟩) (by assumption) ?_
      rotate_left 1
      focus (intro w' hSw; (try dsimp only at hSw); go_simp; (try with_reducible rfl))
      try simp only [Act.put, List.setIfInBounds_toArray, List.set_cons_zero, List.set_cons_succ]
      refine wpAnyH_take (i := 7) (oi := ⟨some 100, _, _, _, _, _⟩) (v := ?_) rfl (by kernel_rfl) (by kernel_rfl) (by kernel_rfl) (fun _ _ _ h => h) (Or.inl ⟨by kernel_rfl, ?_⟩) (by assumption) ?_
      rotate_left 1
      focus (intro w' hSw; (try dsimp only at hSw); go_simp; (try with_reducible rfl))
      try simp only [Act.put, List.setIfInBounds_toArray, List.set_cons_zero, List.set_cons_succ]
      refine wpAnyH_take (i := 8) (oi := ⟨some 101, _, _, _, _, _⟩) (v := ?_) rfl (by kernel_rfl) (by kernel_rfl) (by kernel_rfl) (fun _ _ _ h => h) (Or.inl ⟨by kernel_rfl, ?_⟩) (by assumption) ?_
      rotate_left 1
      focus (intro w' hSw; (try dsimp only at hSw); go_simp; (try with_reducible rfl))
      try simp only [Act.put, List.setIfInBounds_toArray, List.set_cons_zero, List.set_cons_succ]
      refine wpAnyH_take (i := 9) (oi := ⟨some 102, _, _, _, _, _⟩) (v := ?_) rfl (by kernel_rfl) (by kernel_rfl) (by kernel_rfl) (fun _ _ _ h => h) (Or.inl ⟨by kernel_rfl, ?_⟩) (by assumption) ?_
      rotate_left 1
      focus (intro w' hSw; (try dsimp only at hSw); go_simp; (try with_reducible rfl))
      try simp only [Act.put, List.setIfInBounds_toArray, List.set_cons_zero, List.set_cons_succ]
      refine wpAnyH_take (i := 10) (oi := ⟨some 103, _, _, _, _, _⟩) (v := ?_) rfl (by kernel_rfl) (by kernel_rfl) (by kernel_rfl) (fun _ _ _ h => h) (Or.inl ⟨by kernel_rfl, ?_⟩) (by assumption) ?_
      rotate_left 1
      focus (intro w' hSw; (try dsimp only at hSw); go_simp; (try with_reducible rfl))
      try simp only [Act.put, List.setIfInBounds_toArray, List.set_cons_zero, List.set_cons_succ]
      refine wpAnyH_take (i := 11) (oi := ⟨some 104, _, _, _, _, _⟩) (v := ?_) rfl (by kernel_rfl) (by kernel_rfl) (by kernel_rfl) (fun _ _ _ h => h) (Or.inl ⟨by kernel_rfl, ?_⟩) (by assumption) ?_
      rotate_left 1
      focus (intro w' hSw; (try dsimp only at hSw); go_simp; (try with_reducible rfl))
      try simp only [Act.put, List.setIfInBounds_toArray, List.set_cons_zero, List.set_cons_succ]
      refine wpAnyH_take (i := 13) (oi := ⟨some 106, _, _, _, _, _⟩) (v := ?_) rfl (by kernel_rfl) (by kernel_rfl) (by kernel_rfl) (fun _ _ _ h => h) (Or.inl ⟨by kernel_rfl, ?_⟩) (by assumption) ?_
      rotate_left 1
      focus (intro w' hSw; (try dsimp only at hSw); go_simp; (try with_reducible rfl))
      try simp only [Act.put, List.setIfInBounds_toArray, List.set_cons_zero, List.set_cons_succ]
      refine wpAnyH_ready (rs := [12]) (by kernel_rfl) (by simp) ?_
      refine AllReadyH.cons rfl (fun K hK => ?_) AllReadyH.nil
      go_simp
      go_at_call 39
      refine (J2.out _ hv1).mono ?_
      rintro en v2 ⟨rfl, hv2⟩
      clear hHeld
      refine hK.out _ _ (HSS.out _ hv2) (fun hHeld => ?_)
      clear hK
      refine wpAnyH_take (i := 14) (oi := ⟨some 107, _, _, _, _, _⟩) (v := ?_) rfl (by kernel_rfl) (by kernel_rfl) (by kernel_rfl) (fun _ _ _ h => h) (Or.inl ⟨by kernel_rfl, ?_⟩) (by assumption) ?_
      rotate_left 1
      focus (intro w' hSw; (try dsimp only at hSw); go_simp; (try with_reducible rfl))
      try simp only [Act.put, List.setIfInBounds_toArray, List.set_cons_zero, List.set_cons_succ]
      refine wpAnyH_take (i := 15) (oi := ⟨some 108, _, _, _, _, _⟩) (v := ?_) rfl (by kernel_rfl) (by kernel_rfl) (by kernel_rfl) (fun _ _ _ h => h) (Or.inl ⟨by kernel_rfl, ?_⟩) (by assumption) ?_
      rotate_left 1
      focus (intro w' hSw; (try dsimp only at hSw); go_simp; (try with_reducible rfl))
      try simp only [Act.put, List.setIfInBounds_toArray, List.set_cons_zero, List.set_cons_succ]
      refine wpAnyH_take (i := 16) (oi := ⟨some 109, _, _, _, _, _⟩) (v := ?_) rfl (by kernel_rfl) (by kernel_rfl) (by kernel_rfl) (fun _ _ _ h => h) (Or.inl ⟨by kernel_rfl, ?_⟩) (by assumption) ?_
      rotate_left 1
      focus (intro w' hSw; (try dsimp only at hSw); go_simp; (try with_reducible rfl))
      try simp only [Act.put, List.setIfInBounds_toArray, List.set_cons_zero, List.set_cons_succ]
      refine wpAnyH_take (i := 17) (oi := ⟨some 110, _, _, _, _, _⟩) (v := ?_) rfl (by kernel_rfl) (by kernel_rfl) (by kernel_rfl) (fun _ _ _ h => h) (Or.inl ⟨by kernel_rfl, ?_⟩) (by assumption) ?_
      rotate_left 1
      focus (intro w' hSw; (try dsimp only at hSw); go_simp; (try with_reducible rfl))
      try simp only [Act.put, List.setIfInBounds_toArray, List.set_cons_zero, List.set_cons_succ]
      refine wpAnyH_take (i := 18) (oi := ⟨some 111, _, _, _, _, _⟩) (v := ?_) rfl (by kernel_rfl) (by kernel_rfl) (by kernel_rfl) (fun _ _ _ h => h) (Or.inl ⟨by kernel_rfl, ?_⟩) (by assumption) ?_
      rotate_left 1
      focus (intro w' hSw; (try dsimp only at hSw); go_simp; (try with_reducible rfl))
      try simp only [Act.put, List.setIfInBounds_toArray, List.set_cons_zero, List.set_cons_succ]
      refine wpAnyH_take (i := 20) (oi := ⟨some 113, _, _, _, _, _⟩) (v := ?_) rfl (by kernel_rfl) (by kernel_rfl) (by kernel_rfl) (fun _ _ _ h => h) (Or.inl ⟨by kernel_rfl, ?_⟩) (by assumption) ?_
      rotate_left 1
      focus (intro w' hSw; (try dsimp only at hSw); go_simp; (try with_reducible rfl))
      try simp only [Act.put, List.setIfInBounds_toArray, List.set_cons_zero, List.set_cons_succ]
      refine wpAnyH_take (i := 21) (oi := ⟨some 114, _, _, _, _, _⟩) (v := ?_) rfl (by kernel_rfl) (by kernel_rfl) (by kernel_rfl) (fun _ _ _ h => h) (Or.inl ⟨by kernel_rfl, ?_⟩) (by assumption) ?_
      rotate_left 1
      focus (intro w' hSw; (try dsimp only at hSw); go_simp; (try with_reducible rfl))
      try simp only [Act.put, List.setIfInBounds_toArray, List.set_cons_zero, List.set_cons_succ]
      refine wpAnyH_ready (rs := [19]) (by kernel_rfl) (by simp) ?_
      refine AllReadyH.cons rfl (fun K hK => ?_) AllReadyH.nil
      go_simp
      go_at_call 40
      refine (J3.out _ hv2).mono ?_
      rintro en v3 ⟨rfl, hv3⟩
      clear hHeld
      refine hK.out _ _ (HSS.out _ hv3) (fun hHeld => ?_)
      clear hK
      refine wpAnyH_take (i := 22) (oi := ⟨some 115, _, _, _, _, _⟩) (v := ?_) rfl (by kernel_rfl) (by kernel_rfl) (by kernel_rfl) (fun _ _ _ h => h) (Or.inl ⟨by kernel_rfl, ?_⟩) (by assumption) ?_
      rotate_left 1
      focus (intro w' hSw; (try dsimp only at hSw); go_simp; (try with_reducible rfl))
      try simp only [Act.put, List.setIfInBounds_toArray, List.set_cons_zero, List.set_cons_succ]
      refine wpAnyH_take (i := 23) (oi := ⟨some 116, _, _, _, _, _⟩) (v := ?_) rfl (by kernel_rfl) (by kernel_rfl) (by kernel_rfl) (fun _ _ _ h => h) (Or.inl ⟨by kernel_rfl, ?_⟩) (by assumption) ?_
      rotate_left 1
      focus (intro w' hSw; (try dsimp only at hSw); go_simp; (try with_reducible rfl))
      try simp only [Act.put, List.setIfInBounds_toArray, List.set_cons_zero, List.set_cons_succ]
      refine wpAnyH_done (by kernel_rfl) ?_ _
      have HBe := Lib.hid (HB14.out.trans (hv3.mono HB14.out.size))
      clear hHeld hv1 hv2 hv3 J1 J2 J3 HSS HBv
      go_wp2_with fail
      go_roundw
      case rel => exact ⟨k + 1, by omega, by go_num, HBe⟩
      case measure => simp [intOf]; omega
    · obtain rfl : k = count n := by omega
      have HF := Lib.hid (HB9.out.trans (HBr.out.mono HB9.out.size))
      go_wp2_with fail
      go_ret
      exact ⟨rfl, HF.out⟩
end Go.Proofs.YtmmpceodhadipaaDoor.ima
