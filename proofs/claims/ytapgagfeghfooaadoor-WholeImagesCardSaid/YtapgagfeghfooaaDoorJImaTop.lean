/- WholeImages: true. Conditions: the node is one that was read; the library's MaxLen holds a number. -/
import Derived.Test.YtapgagfeghfooaaDoorJImaBack
import Derived.Test.YtapgagfeghfooaaDoorJImaLawC
namespace Go.Proofs.YtapgagfeghfooaaDoor.ima
set_option maxRecDepth 100000
open Go.RowKit Go.Proofs.YtapgagfeghfooaaDoor.words Go.Proofs.YtapgagfeghfooaaDoor.ext Go.Proofs.YtapgagfeghfooaaDoor.name Go.Proofs.YtapgagfeghfooaaDoor.tre

theorem at_in {w : World} {B : Nat} {n : Nd} {r : Raw} (h : NdAt w B n r) : NdIn w (· < B) n r := by
  induction h with
  | mk rs fit names exts cells items ih => exact .mk rs fit names exts cells ih
theorem preL_mem : ∀ {L : List Nd} {x : Nd}, x ∈ preL L → ∃ (i : Nat) (y : Nd), L[i]? = some y ∧ x ∈ preN y
  | [], x, h => by rw [preL_nil] at h; cases h
  | y :: L, x, h => by
    rw [preL_cons] at h
    rcases List.mem_append.1 h with h | h
    · exact ⟨0, y, rfl, h⟩
    · obtain ⟨i, z, h1, h2⟩ := preL_mem h
      exact ⟨i + 1, z, by simpa using h1, h2⟩
theorem at_pre {w : World} {B : Nat} {n : Nd} {r : Raw} (h : NdAt w B n r) : ∀ x ∈ preN n, ∃ r', NdAt w B x r' := by
  induction h with
  | @mk n r rs fit names exts cells items ih =>
    intro x hx
    rw [preN_eq] at hx
    rcases List.mem_cons.1 hx with rfl | hx
    · exact ⟨r, .mk rs fit names exts cells items⟩
    · obtain ⟨i, y, h1, h2⟩ := preL_mem hx
      exact ih i y h1 x h2
mutual
theorem strip_size : ∀ n : Nd, count (stripN n) = count n ∧ depth (stripN n) = depth n
  | .mk K O N I S E T => by
    obtain ⟨h1, h2⟩ := strip_sizeL I
    rw [stripN_eq, count_eq, depth_eq, count_eq, depth_eq]
    exact ⟨by show 1 + countL (stripL I) = 1 + countL I; rw [h1], h2⟩
theorem strip_sizeL : ∀ L : List Nd, countL (stripL L) = countL L ∧ depthL (stripL L) = depthL L
  | [] => ⟨rfl, rfl⟩
  | x :: L => by
    obtain ⟨h1, h2⟩ := strip_size x
    obtain ⟨h3, h4⟩ := strip_sizeL L
    rw [show stripL (x :: L) = stripN x :: stripL L by rw [stripL], countL_cons, countL_cons, depthL_cons, depthL_cons, h1, h2, h3, h4]
    exact ⟨rfl, rfl⟩
end
set_option maxHeartbeats 800000 in
theorem count_top (g : Nat) (L : List Ent) (w : World) (h : Brn w w.heap.size g L) :
    Calls Tryd.prog 17 #[.pointer (some ⟨g, 0, none⟩)] w fun e w' => e = .returned (.int .i64 (L.length : Int)) ∧ w = w' := by
  obtain ⟨_, A, c, cs, h2, _, _⟩ := h
  have cg : w.cell? ⟨g, 0, none⟩ = some (.slice A L.length c) := cell_of_blk h2 0
  clear h2
  go_enter Tryd.func17, Tryd.ntmps17
  go_wp2_with fail
  go_ret
  exact ⟨rfl, rfl⟩
set_option maxHeartbeats 1600000 in
theorem open_top (n : Nd) (m : Int) (w : World) (hm : w.cell? ⟨0, 0, none⟩ = some (.int .i64 m)) (h : treeB n = true) (hcc : countC n = (count n : Int)) (hc : count n ≤ 4096) (hl : (nb n).length ≤ 4194297) (hd : depth n ≤ 1000) :
    Calls Tryd.prog 13 #[.string (imgB n)] w fun e w' => (∃ g, e = .returned (.tuple #[.pointer (some ⟨g, 0, none⟩), .int .i64 0]) ∧ Brn w' w'.heap.size g (flatN 0 n)) ∧ Below w.heap.size w w' := by
  have hC := decode_img n m w hm h hc hl
  obtain ⟨q, hq⟩ : ∃ q, q = imgB n := ⟨_, rfl⟩
  rw [← hq] at hC ⊢
  have HC := Lib.hid hC
  have HM := Lib.hid hm
  clear hq hC hm
  go_enter Tryd.func13, Tryd.ntmps13
  go_wp2_with fail
  refine HC.out.mono ?_
  rintro e w1 ⟨r, rfl, hn, hb1⟩
  obtain ⟨W2, hW2⟩ : ∃ W2, W2 = w1.alloc (.cells (rawCells n r) 27) := ⟨_, rfl⟩
  have hb2 : Below w1.heap.size w1 W2 := by rw [hW2]; exact (Below.refl _ _).alloc (Nat.le_refl _) _
  have hx2 : Box W2 w1.heap.size n r := by rw [hW2]; exact Box.new w1 n r
  have hn2 := (hn.at_ fun k hk => hk.lt).later hb2
  have hb02 := hb1.trans (hb2.mono hb1.size)
  have hN := new_yes n r m W2 hn2 (below_cell HM.out hb02) hd h hcc hc
  unfold ndV rawCells at hN
  have HNew := Lib.hid hN
  have HB2 := Lib.hid hb02
  have HX2 := Lib.hid hx2
  unfold rawCells at hW2
  have HW2 := Lib.hid hW2
  clear hn hb1 hb2 hx2 hn2 hb02 hN hW2 HC
  unfold ndV rawCells
  go_upto_region 2 with fail
  rw [← HW2.out]
  clear HW2
  obtain ⟨b0, b1, b2, b3, b4, b5, b6⟩ := HX2.out.cells
  go_wp2_with fail
  refine HNew.out.mono ?_
  rintro e w3 ⟨⟨g, rfl, hbr⟩, hb3⟩
  have HF := Lib.hid (And.intro hbr (HB2.out.trans (hb3.mono HB2.out.size)))
  clear hbr hb3 HNew b0 b1 b2 b3 b4 b5 b6
  go_wp2_with fail
  go_ret2
  exact ⟨⟨g, rfl, HF.out.1⟩, HF.out.2⟩
set_option maxHeartbeats 25600000 in
theorem law_images (n : Nd) (r : Raw) (m : Int) (w : World) (hN : NdAt w w.heap.size n r) (hm : w.cell? ⟨0, 0, none⟩ = some (.int .i64 m)) :
    Calls Tryd.prog 4 #[ndV n r] w fun e w' => e = .returned (.bool true) ∧ Below w.heap.size w w' := by
  obtain ⟨W1, hW1⟩ : ∃ W1, W1 = w.alloc (.cells (rawCells n r) 27) := ⟨_, rfl⟩
  have hb1 : Below w.heap.size w W1 := by rw [hW1]; exact (Below.refl _ _).alloc (Nat.le_refl _) _
  have hx1 : Box W1 w.heap.size n r := by rw [hW1]; exact Box.new w n r
  have HX1 := Lib.hid hx1
  have HN1 := Lib.hid (hN.later hb1)
  have HM1 := Lib.hid (below_cell hm hb1)
  have HB1 := Lib.hid hb1
  have HDi := Lib.hid (dir_any none none 0 0 [] [] (fun _ => raw0) W1 (fun _ _ hx => (no_at hx).elim) (fun _ _ hx => (no_at hx).elim) (fun _ _ hx => (no_at hx).elim) (by decide) (by decide) (fun _ => ⟨rfl, rfl⟩) (fun _ => ⟨rfl, rfl⟩))
  unfold rawCells at hW1
  have HW1 := Lib.hid hW1
  have HTm := Lib.hid hN.tame
  clear hN hm hW1 hb1 hx1
  unfold ndV rawCells
  go_enter Tryd.func4, Tryd.ntmps4
  go_upto_region 1 with fail
  rw [← HW1.out]
  go_wp2_with fail
  refine HDi.out.mono ?_
  rintro e wd ⟨rd, rfl, hnd, hbd⟩
  have HE0 := encode_yes (dirN [] []) rd m wd hnd (below_cell HM1.out hbd) (by decide) tree_nil (by decide) (by decide) (by decide)
  rw [img_nil] at HE0
  have HE0 := Lib.hid HE0
  have HBd := Lib.hid hbd
  clear hbd hnd HDi
  go_wp2_with fail
  refine HE0.out.mono ?_
  rintro e w2 ⟨rfl, hb2d⟩
  have hb2 := HBd.out.trans (hb2d.mono HBd.out.size)
  have HX2 := Lib.hid (HX1.out.below hb2)
  have HN2 := Lib.hid (HN1.out.later hb2)
  have HM2 := Lib.hid (below_cell HM1.out hb2)
  have HB2 := Lib.hid (HB1.out.trans (hb2.mono HB1.out.size))
  clear hb2 hb2d HX1 HN1 HM1 HB1 HW1 HE0 HBd
  go_upto_region 4 with fail
  obtain ⟨b0, b1, b2, b3, b4, b5, b6⟩ := HX2.out.cells
  rcases hsm : smallB n with _ | _
  · have hs := small_is 0 n r w2 HN2.out (by rw [hsm]; rfl)
    unfold ndV rawCells at hs
    have HS := Lib.hid hs
    clear hs hsm
    go_wp2_with fail
    refine HS.out.mono ?_
    rintro e w3 ⟨rfl, hb3⟩
    have HB3 := Lib.hid (HB2.out.trans (hb3.mono HB2.out.size))
    clear hb3 HS
    go_wp2_with fail
    go_ret
    exact ⟨rfl, HB3.out⟩
  have hs := small_is 1 n r w2 HN2.out (by rw [hsm]; rfl)
  unfold ndV rawCells at hs
  have HS := Lib.hid hs
  have HSm := Lib.hid hsm
  clear hs hsm
  go_wp2_with fail
  refine HS.out.mono ?_
  rintro e w3 ⟨rfl, hb3⟩
  have HX3 := Lib.hid (HX2.out.below hb3)
  have HN3 := Lib.hid (HN2.out.later hb3)
  have HM3 := Lib.hid (below_cell HM2.out hb3)
  have HB3 := Lib.hid (HB2.out.trans (hb3.mono HB2.out.size))
  have hdp := smallB_depth HSm.out
  have hR := refright_node n r w3 HN3.out (by omega)
  have hts := tree_same HSm.out HTm.out
  unfold ndV rawCells at hR
  have HR := Lib.hid hR
  clear hb3 hR HS HX2 HN2 HM2 HB2 b0 b1 b2 b3 b4 b5 b6
  obtain ⟨b0, b1, b2, b3, b4, b5, b6⟩ := HX3.out.cells
  rcases htr : treeB n with _ | _
  · rw [htr] at hts
    rw [← hts] at HR
    clear hts htr
    go_wp2_with fail
    refine HR.out.mono ?_
    rintro e w4 ⟨rfl, hb4⟩
    have HB4 := Lib.hid (HB3.out.trans (hb4.mono HB3.out.size))
    clear hb4 HR
    go_wp2_with fail
    go_ret
    exact ⟨rfl, HB4.out⟩
  rw [htr] at hts
  rw [← hts] at HR
  have HOk := Lib.hid (okay_of HSm.out HTm.out htr)
  have HTr := Lib.hid htr
  have HNb := Lib.hid (smallB_nb HSm.out HOk.out.all HTm.out)
  clear hts htr
  go_wp2_with fail
  refine HR.out.mono ?_
  rintro e w4 ⟨rfl, hb4⟩
  have HX4 := Lib.hid (HX3.out.below hb4)
  have HN4 := Lib.hid (HN3.out.later hb4)
  have HM4 := Lib.hid (below_cell HM3.out hb4)
  have HB4 := Lib.hid (HB3.out.trans (hb4.mono HB3.out.size))
  have hEn := encode_yes n r m w4 HN4.out HM4.out (by omega) HTr.out HOk.out.all (by have := HOk.out.cnt; omega) (by have := HNb.out; omega)
  obtain ⟨q, hq⟩ : ∃ q, q = imgB n := ⟨_, rfl⟩
  rw [← hq] at hEn
  unfold ndV rawCells at hEn
  have HEn := Lib.hid hEn
  have HQ := Lib.hid hq
  clear hb4 hEn HR HX3 HN3 HM3 HB3 b0 b1 b2 b3 b4 b5 b6 hq
  obtain ⟨b0, b1, b2, b3, b4, b5, b6⟩ := HX4.out.cells
  go_wp2_with fail
  refine HEn.out.mono ?_
  rintro e w5 ⟨rfl, hb5⟩
  have HX5 := Lib.hid (HX4.out.below hb5)
  have HN5 := Lib.hid (HN4.out.later hb5)
  have HM5 := Lib.hid (below_cell HM4.out hb5)
  have HB5 := Lib.hid (HB4.out.trans (hb5.mono HB4.out.size))
  have hOp := open_top n m w5 HM5.out HTr.out HOk.out.cc (by have := HOk.out.cnt; omega) (by have := HNb.out; omega) (by omega)
  rw [← HQ.out] at hOp
  have HOp := Lib.hid hOp
  clear hb5 hOp HX4 HN4 HM4 HB4 b0 b1 b2 b3 b4 b5 b6 HEn
  go_wp2_with fail
  refine HOp.out.mono ?_
  rintro e w6 ⟨⟨g, rfl, hbr6⟩, hb6⟩
  have HX6 := Lib.hid (HX5.out.below hb6)
  have HN6 := Lib.hid (HN5.out.later hb6)
  have HB6 := Lib.hid (HB5.out.trans (hb6.mono HB5.out.size))
  have hpre := at_pre HN6.out
  have hBk : Calls Tryd.prog 14 #[.pointer (some ⟨g, 0, none⟩), .int .i64 0] w6 (BackOut n w6) :=
    back_in n g HOk.out.all (by have := HOk.out.cnt; omega) (fun x hx => by obtain ⟨r', h⟩ := hpre x hx; have h := h.fit; exact ⟨h.k1, h.k2, h.s1, h.s2, h.t⟩) (fun x hx i s hs => by obtain ⟨r', h⟩ := hpre x hx; exact (h.names i s hs).2) 1001 0 n w6 (by omega) (by rw [preN_eq]; rfl) hbr6
  obtain ⟨y, hy⟩ : ∃ y, y = stripN n := ⟨_, rfl⟩
  have HBk := Lib.hid hBk
  have HBr := Lib.hid hbr6
  have HY := Lib.hid hy
  clear hb6 hbr6 hpre hBk HX5 HN5 HM5 HB5 HOp hy
  go_upto_region 10 with fail
  go_wp2_with fail
  refine HBk.out.mono ?_
  rintro e w7 ⟨rx, rfl, hn7, hb7⟩
  rw [← HY.out] at hn7 ⊢
  obtain ⟨W8, hW8⟩ : ∃ W8, W8 = w7.alloc (.cells (rawCells y rx) 27) := ⟨_, rfl⟩
  have hb8 : Below w7.heap.size w7 W8 := by rw [hW8]; exact (Below.refl _ _).alloc (Nat.le_refl _) _
  have hx8 : Box W8 w7.heap.size y rx := by rw [hW8]; exact Box.new w7 y rx
  have hb68 := hb7.trans (hb8.mono hb7.size)
  have hNx : NdAt W8 W8.heap.size y rx := ((hn7.at_ (B := w7.heap.size) fun b hb => hb.2).keep hb8).more hb8.size
  have hN8 := HN6.out.later hb68
  have hX8 := HX6.out.below hb68
  have hBr8 := HBr.out.later hb68
  have HB8 := Lib.hid (HB6.out.trans (hb68.mono HB6.out.size))
  obtain ⟨c, hc⟩ : ∃ c : Int, c = (count n : Int) := ⟨_, rfl⟩
  have hsz := strip_size n
  rw [← HY.out] at hsz
  have hdy : depth y ≤ 30 := by omega
  have hcy : countC y = c := by
    rw [countC_eq (by omega), hsz.1, hc]
    have := HOk.out.cnt
    unfold wrap64
    omega
  have j1 : ∀ w' : World, Below W8.heap.size W8 w' → Calls Tryd.prog 15 #[ndV n r] w' fun e w'' => ∃ r1, e = .returned (ndV y r1) ∧ NdAt w'' w''.heap.size y r1 ∧ Below W8.heap.size W8 w'' := fun w' hb => by
    refine (strip_in w'.heap.size 1001 n r w' (by omega) (at_in (hN8.later hb)) (Nat.le_refl _)).mono ?_
    rintro e w'' ⟨r1, h1, h2, h3⟩
    rw [← HY.out] at h1 h2
    exact ⟨r1, h1, h2.at_ fun b hb => by have := h3.size; omega, hb.trans (h3.mono hb.size)⟩
  have j2 : ∀ (w' : World) (r1 : Raw), Below W8.heap.size W8 w' → NdAt w' w'.heap.size y r1 → Calls Tryd.prog 8 #[ndV y rx, ndV y r1] w' fun e w'' => e = .returned (.bool true) ∧ Below W8.heap.size W8 w'' := fun w' r1 hb h1 => by
    have h := rsame_at w' 1001 y y rx r1 w' (by omega) (hNx.later hb) h1 (Below.refl _ _)
    rw [sameB_refl] at h
    exact h.mono fun e w'' ⟨h1, h2⟩ => ⟨h1, hb.trans (h2.mono hb.size)⟩
  have j3 : ∀ w' : World, Below W8.heap.size W8 w' → Calls Tryd.prog 16 #[ndV y rx] w' fun e w'' => e = .returned (.int .i64 c) ∧ Below W8.heap.size W8 w'' := fun w' hb => by
    have h := treecount_any y rx w' (hNx.later hb) (by omega)
    rw [hcy] at h
    exact h.mono fun e w'' ⟨h1, h2⟩ => ⟨h1, hb.trans (h2.mono hb.size)⟩
  have j4 : ∀ w' : World, Below W8.heap.size W8 w' → Calls Tryd.prog 17 #[.pointer (some ⟨g, 0, none⟩)] w' fun e w'' => e = .returned (.int .i64 c) ∧ Below W8.heap.size W8 w'' := fun w' hb => by
    have h := count_top g _ w' (hBr8.later hb)
    rw [flatN_length, ← hc] at h
    exact h.mono fun e w'' ⟨h1, h2⟩ => ⟨h1, by rw [← h2]; exact hb⟩
  unfold ndV rawCells at j1 j2 j3
  have J1 := Lib.hid j1
  have J2 := Lib.hid j2
  have J3 := Lib.hid j3
  have J4 := Lib.hid j4
  obtain ⟨gn, hgn⟩ : ∃ gn, gn = w.heap.size := ⟨_, rfl⟩
  obtain ⟨gx, hgx⟩ : ∃ gx, gx = w7.heap.size := ⟨_, rfl⟩
  rw [← hgn] at hX8
  rw [← hgx] at hx8
  have HSS : Hid (∀ w' : World, Below W8.heap.size W8 w' → (w'.cell? ⟨gx, 0, none⟩ = some (.int .i64 y.K) ∧ w'.cell? ⟨gx, 1, none⟩ = some (.bool y.O) ∧ w'.cell? ⟨gx, 2, none⟩ = some (.slice rx.An y.N.length rx.cn) ∧ w'.cell? ⟨gx, 3, none⟩ = some (.slice rx.Ai y.I.length rx.ci) ∧ w'.cell? ⟨gx, 4, none⟩ = some (.int .i64 y.S) ∧ w'.cell? ⟨gx, 5, none⟩ = some (.slice rx.Ae y.E.length rx.ce) ∧ w'.cell? ⟨gx, 6, none⟩ = some (.string y.T) ∧ w'.cell? ⟨gn, 0, none⟩ = some (.int .i64 n.K) ∧ w'.cell? ⟨gn, 1, none⟩ = some (.bool n.O) ∧ w'.cell? ⟨gn, 2, none⟩ = some (.slice r.An n.N.length r.cn) ∧ w'.cell? ⟨gn, 3, none⟩ = some (.slice r.Ai n.I.length r.ci) ∧ w'.cell? ⟨gn, 4, none⟩ = some (.int .i64 n.S) ∧ w'.cell? ⟨gn, 5, none⟩ = some (.slice r.Ae n.E.length r.ce) ∧ w'.cell? ⟨gn, 6, none⟩ = some (.string n.T) ∧ Below W8.heap.size W8 w')) := Lib.hid fun w' hb => by
    obtain ⟨x0, x1, x2, x3, x4, x5, x6⟩ := (hx8.below hb).cells
    obtain ⟨y0, y1, y2, y3, y4, y5, y6⟩ := (hX8.below hb).cells
    exact ⟨x0, x1, x2, x3, x4, x5, x6, y0, y1, y2, y3, y4, y5, y6, hb⟩
  have HBv : Hid (Below W8.heap.size W8 W8.drew) := Lib.hid (Below.refl _ _).drew
  have HGN := Lib.hid hgn
  have HGX := Lib.hid hgx
  unfold rawCells at hW8
  have HW8 := Lib.hid hW8
  clear hW8 hb8 hx8 hb68 hNx hN8 hX8 hBr8 hc hsz hdy hcy j1 j2 j3 j4 hn7 hb7 HBk HBr HX6 HN6 HB6 hgn hgx
  unfold ndV rawCells
  go_upto_region 11 with fail
  rw [← HW8.out, ← HGN.out, ← HGX.out]
  clear HW8
  refine wp_region_held_drew (S := fun w' => (w'.cell? ⟨gx, 0, none⟩ = some (.int .i64 y.K) ∧ w'.cell? ⟨gx, 1, none⟩ = some (.bool y.O) ∧ w'.cell? ⟨gx, 2, none⟩ = some (.slice rx.An y.N.length rx.cn) ∧ w'.cell? ⟨gx, 3, none⟩ = some (.slice rx.Ai y.I.length rx.ci) ∧ w'.cell? ⟨gx, 4, none⟩ = some (.int .i64 y.S) ∧ w'.cell? ⟨gx, 5, none⟩ = some (.slice rx.Ae y.E.length rx.ce) ∧ w'.cell? ⟨gx, 6, none⟩ = some (.string y.T) ∧ w'.cell? ⟨gn, 0, none⟩ = some (.int .i64 n.K) ∧ w'.cell? ⟨gn, 1, none⟩ = some (.bool n.O) ∧ w'.cell? ⟨gn, 2, none⟩ = some (.slice r.An n.N.length r.cn) ∧ w'.cell? ⟨gn, 3, none⟩ = some (.slice r.Ai n.I.length r.ci) ∧ w'.cell? ⟨gn, 4, none⟩ = some (.int .i64 n.S) ∧ w'.cell? ⟨gn, 5, none⟩ = some (.slice r.Ae n.E.length r.ce) ∧ w'.cell? ⟨gn, 6, none⟩ = some (.string n.T) ∧ Below W8.heap.size W8 w')) (by kernel_rfl) (HSS.out _ HBv.out) (fun hHeld => ?_)
  refine wpAnyH_take (i := 0) (oi := ⟨some 52, _, _, _, _, _⟩) (v := ?_) rfl (by kernel_rfl) (by kernel_rfl) (by kernel_rfl) (fun _ _ _ h => h) (Or.inl ⟨by kernel_rfl, ?_⟩) (by assumption) ?_
  rotate_left 1
  focus (intro w' hSw; (try dsimp only at hSw); go_simp; (try with_reducible rfl))
  try simp only [Act.put, List.setIfInBounds_toArray, List.set_cons_zero, List.set_cons_succ]
  refine wpAnyH_take (i := 1) (oi := ⟨some 53, _, _, _, _, _⟩) (v := ?_) rfl (by kernel_rfl) (by kernel_rfl) (by kernel_rfl) (fun _ _ _ h => h) (Or.inl ⟨by kernel_rfl, ?_⟩) (by assumption) ?_
  rotate_left 1
  focus (intro w' hSw; (try dsimp only at hSw); go_simp; (try with_reducible rfl))
  try simp only [Act.put, List.setIfInBounds_toArray, List.set_cons_zero, List.set_cons_succ]
  refine wpAnyH_ready (rs := [2]) (by kernel_rfl) (by simp) ?_
  refine AllReadyH.cons rfl (fun K hK => ?_) AllReadyH.nil
  go_simp
  go_at_call 15
  refine (J1.out _ HBv.out).mono ?_
  rintro e1 v1 ⟨r1, rfl, hn1, hv1⟩
  clear hHeld
  refine hK.out _ _ (HSS.out _ hv1) (fun hHeld => ?_)
  clear hK
  refine wpAnyH_ready (rs := [3]) (by kernel_rfl) (by simp) ?_
  refine AllReadyH.cons rfl (fun K hK => ?_) AllReadyH.nil
  go_simp
  go_at_call 8
  refine (J2.out _ r1 hv1 hn1).mono ?_
  rintro e2 v2 ⟨rfl, hv2⟩
  clear hHeld
  refine hK.out _ _ (HSS.out _ hv2) (fun hHeld => ?_)
  clear hK
  refine wpAnyH_take (i := 4) (oi := ⟨some 56, _, _, _, _, _⟩) (v := ?_) rfl (by kernel_rfl) (by kernel_rfl) (by kernel_rfl) (fun _ _ _ h => h) (Or.inl ⟨by kernel_rfl, ?_⟩) (by assumption) ?_
  rotate_left 1
  focus (intro w' hSw; (try dsimp only at hSw); go_simp; (try with_reducible rfl))
  try simp only [Act.put, List.setIfInBounds_toArray, List.set_cons_zero, List.set_cons_succ]
  refine wpAnyH_take (i := 5) (oi := ⟨some 57, _, _, _, _, _⟩) (v := ?_) rfl (by kernel_rfl) (by kernel_rfl) (by kernel_rfl) (fun _ _ _ h => h) (Or.inl ⟨by kernel_rfl, ?_⟩) (by assumption) ?_
  rotate_left 1
  focus (intro w' hSw; (try dsimp only at hSw); go_simp; (try with_reducible rfl))
  try simp only [Act.put, List.setIfInBounds_toArray, List.set_cons_zero, List.set_cons_succ]
  refine wpAnyH_take (i := 7) (oi := ⟨some 59, _, _, _, _, _⟩) (v := ?_) rfl (by kernel_rfl) (by kernel_rfl) (by kernel_rfl) (fun _ _ _ h => h) (Or.inl ⟨by kernel_rfl, ?_⟩) (by assumption) ?_
  rotate_left 1
  focus (intro w' hSw; (try dsimp only at hSw); go_simp; (try with_reducible rfl))
  try simp only [Act.put, List.setIfInBounds_toArray, List.set_cons_zero, List.set_cons_succ]
  refine wpAnyH_ready (rs := [6]) (by kernel_rfl) (by simp) ?_
  refine AllReadyH.cons rfl (fun K hK => ?_) AllReadyH.nil
  go_simp
  go_at_call 16
  refine (J3.out _ hv2).mono ?_
  rintro e3 v3 ⟨rfl, hv3⟩
  clear hHeld
  refine hK.out _ _ (HSS.out _ hv3) (fun hHeld => ?_)
  clear hK
  refine wpAnyH_ready (rs := [8]) (by kernel_rfl) (by simp) ?_
  refine AllReadyH.cons rfl (fun K hK => ?_) AllReadyH.nil
  go_simp
  go_at_call 17
  refine (J4.out _ hv3).mono ?_
  rintro e4 v4 ⟨rfl, hv4⟩
  clear hHeld
  refine hK.out _ _ (HSS.out _ hv4) (fun hHeld => ?_)
  clear hK
  refine wpAnyH_take (i := 9) (oi := ⟨some 61, _, _, _, _, _⟩) (v := ?_) rfl (by kernel_rfl) (by kernel_rfl) (by kernel_rfl) (fun _ _ _ h => h) (Or.inl ⟨by kernel_rfl, ?_⟩) (by assumption) ?_
  rotate_left 1
  focus (intro w' hSw; (try dsimp only at hSw); go_simp; (try with_reducible rfl))
  try simp only [Act.put, List.setIfInBounds_toArray, List.set_cons_zero, List.set_cons_succ]
  refine wpAnyH_take (i := 10) (oi := ⟨some 62, _, _, _, _, _⟩) (v := ?_) rfl (by kernel_rfl) (by kernel_rfl) (by kernel_rfl) (fun _ _ _ h => h) (Or.inl ⟨by kernel_rfl, ?_⟩) (by assumption) ?_
  rotate_left 1
  focus (intro w' hSw; (try dsimp only at hSw); go_simp; (try with_reducible rfl))
  try simp only [Act.put, List.setIfInBounds_toArray, List.set_cons_zero, List.set_cons_succ]
  refine wpAnyH_take (i := 11) (oi := ⟨some 2, _, _, _, _, _⟩) (v := ?_) rfl (by kernel_rfl) (by kernel_rfl) (by kernel_rfl) (fun _ _ _ h => h) (Or.inl ⟨by kernel_rfl, ?_⟩) (by assumption) ?_
  rotate_left 1
  focus (intro w' hSw; (try dsimp only at hSw); go_simp; (try with_reducible rfl))
  try simp only [Act.put, List.setIfInBounds_toArray, List.set_cons_zero, List.set_cons_succ]
  refine wpAnyH_done (by kernel_rfl) ?_ _
  have HF := Lib.hid (HB8.out.trans (hv4.mono HB8.out.size))
  clear hHeld
  go_wp2_with fail
  go_ret
  exact ⟨rfl, HF.out⟩
end Go.Proofs.YtapgagfeghfooaaDoor.ima
