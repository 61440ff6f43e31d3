/- What the law BranchNodes answers: true. Conditions: the node is one that was read; the library's MaxLen holds a number. -/
import Derived.Test.YthpnmkfgodmnfaaDoorBraAll
import Derived.Test.YthpnmkfgodmnfaaDoorTreSees
namespace Go.Proofs.YthpnmkfgodmnfaaDoor.tre
set_option maxRecDepth 100000
open Go.RowKit Go.Proofs.YthpnmkfgodmnfaaDoor.words Go.Proofs.YthpnmkfgodmnfaaDoor.ext Go.Proofs.YthpnmkfgodmnfaaDoor.name

theorem alone_K (x : Nd) : (aloneN x).K = x.K := by cases x; rfl
theorem alone_O (x : Nd) : (aloneN x).O = x.O := by cases x; rfl
theorem alone_N (x : Nd) : (aloneN x).N = x.N := by cases x; rfl
theorem alone_S (x : Nd) : (aloneN x).S = x.S := by cases x; rfl
theorem alone_E (x : Nd) : (aloneN x).E = x.E := by cases x; rfl
theorem alone_T (x : Nd) : (aloneN x).T = x.T := by cases x; rfl
theorem refB_all {n : Nd} (h : refB n = true) : allB n = true := by
  unfold refB at h
  simp only [Bool.and_eq_true] at h
  exact h.1.1.2
/-- What is known of a tree that is looked at, and may be. -/
structure Okay (n : Nd) : Prop where
  dep : depth n ≤ 30
  cnt : count n ≤ 400
  cc : countC n = (count n : Int)
  all : allB n = true
theorem okay_of {n : Nd} (hs : smallB n = true) (ht : Tame n) (hr : treeB n = true) : Okay n := by
  have h1 := smallB_depth hs
  rw [tree_same hs ht] at hr
  have ha := refB_all hr
  have hc := smallB_count hs ha ht
  refine ⟨h1, hc, ?_, ha⟩
  rw [countC_eq (by omega)]
  unfold wrap64
  omega
theorem flat_at {n x : Nd} {k : Nat} (h : (preN n)[k]? = some x) : (flatN 0 n)[k]? = some (entOf k x) := by
  have := ents_at (k := 0) h
  rw [Nat.zero_add] at this
  exact this
theorem read_none (off n : Int) (h : off = 0) : readB 0 [] off n = [] := by
  unfold readB countOf
  rw [h, if_neg (by omega), show (min n ((0 : Int) - 0)).toNat = 0 by omega]
  rfl
theorem bread_zero (g : Nat) (i : Int) (L : List Ent) (w : World) (h : Brn w w.heap.size g L) (hi : i < 0 ∨ (L.length : Int) ≤ i) :
    Calls Tryd.prog 29 #[.pointer (some ⟨g, 0, none⟩), .int .i64 i, .int .i64 0, .int .i64 9] w fun e w' => e = .returned (.string ⟨#[]⟩) ∧ Below w.heap.size w w' :=
  (bread_no g i L 0 9 w h hi (by decide) (by decide) (by decide) (by decide)).mono fun _ _ ⟨⟨s, h1, h2⟩, h3⟩ => ⟨by rw [h1, text_eq (y := ⟨#[]⟩) (h2.trans (read_none 0 9 rfl))], h3⟩
theorem row_nd {w : World} {B : Nat} {n : Nd} {A : Option Addr} {c : Nat} {rs : Nat → Raw} (h : w.ownsRow B 26 7 (.slice A (count n) c) (count n) (rowCells (preN n) rs)) :
    ∃ b, A = some ⟨b, 0, none⟩ ∧ b < w.heap.size ∧ ∀ (k : Nat) (x : Nd), (preN n)[k]? = some x → ∀ j v, (rawCells x (rs k))[j]? = some v → w.cell? ⟨b, k * 7 + j, none⟩ = some v := by
  have hx : (preN n)[0]? = some n := by rw [preN_eq]; rfl
  obtain ⟨g, _, h1, _, h3, _⟩ := own_cell h (rowCells_at (rs := rs) hx 0 _ rfl)
  refine ⟨g, h1, h3, fun k x hk j v hj => ?_⟩
  obtain ⟨g', _, h1', _, _, _, h5⟩ := own_cell h (rowCells_at (rs := rs) hk j v hj)
  rw [h1] at h1'
  injection h1' with h1'
  injection h1' with h1'
  subst h1'
  exact h5

set_option maxHeartbeats 6400000 in
theorem law_nodes (n : Nd) (r : Raw) (i : Int) (m : Int) (w : World) (hN : NdAt w w.heap.size n r) (hm : w.cell? ⟨0, 0, none⟩ = some (.int .i64 m)) :
    Calls Tryd.prog 6 #[ndV n r, .int .i64 i] w fun e w' => e = .returned (.bool true) ∧ Below w.heap.size w w' := by
  obtain ⟨W1, hW1⟩ : ∃ W1, W1 = w.alloc (.cells (rawCells n r) 26) := ⟨_, rfl⟩
  have hb1 : Below w.heap.size w W1 := by rw [hW1]; exact (Below.refl _ _).alloc (Nat.le_refl _) _
  have hx1 : Box W1 w.heap.size n r := by rw [hW1]; exact Box.new w n r
  have HX1 := Lib.hid hx1
  have HN1 := Lib.hid (hN.later hb1)
  have HM1 := Lib.hid (below_cell hm hb1)
  have HB1 := Lib.hid hb1
  unfold rawCells at hW1
  have HW1 := Lib.hid hW1
  have HTm := Lib.hid hN.tame
  clear hN hm hW1 hb1 hx1
  unfold ndV rawCells
  go_enter Tryd.func6, Tryd.ntmps6
  go_upto_region 1 with fail
  rw [← HW1.out]
  go_wp2_with fail
  refine (bspeaks_any m W1 HM1.out).mono ?_
  rintro e w2 ⟨rfl, hb2⟩
  have HX2 := Lib.hid (HX1.out.below hb2)
  have HN2 := Lib.hid (HN1.out.later hb2)
  have HM2 := Lib.hid (below_cell HM1.out hb2)
  have HB2 := Lib.hid (HB1.out.trans (hb2.mono HB1.out.size))
  clear hb2 HX1 HN1 HM1 HB1 HW1
  obtain ⟨b0, b1, b2, b3, b4, b5, b6⟩ := HX2.out.cells
  rcases hsm : smallB n with _ | _
  · have hs := small_is 0 n r w2 HN2.out (by rw [hsm]; rfl)
    unfold ndV rawCells at hs
    have HS := Lib.hid hs
    clear hs hsm
    go_wp2_with fail
    refine HS.out.mono ?_
    rintro e w3 ⟨rfl, hb3⟩
    have HB3 := Lib.hid (HB2.out.trans (hb3.mono HB2.out.size))
    clear hb3 HS HB2 HX2 HN2 HM2 b0 b1 b2 b3 b4 b5 b6
    go_wp2_with fail
    go_ret
    exact ⟨rfl, HB3.out⟩
  have hs := small_is 1 n r w2 HN2.out (by rw [hsm]; rfl)
  unfold ndV rawCells at hs
  have HS := Lib.hid hs
  have Hsm := Lib.hid hsm
  clear hs hsm
  go_wp2_with fail
  refine HS.out.mono ?_
  rintro e w3 ⟨rfl, hb3⟩
  have HX3 := Lib.hid (HX2.out.below hb3)
  have HN3 := Lib.hid (HN2.out.later hb3)
  have HM3 := Lib.hid (below_cell HM2.out hb3)
  have HB3 := Lib.hid (HB2.out.trans (hb3.mono HB2.out.size))
  clear hb3 HS HB2 HX2 HN2 HM2 b0 b1 b2 b3 b4 b5 b6
  obtain ⟨b0, b1, b2, b3, b4, b5, b6⟩ := HX3.out.cells
  have hdp := smallB_depth Hsm.out
  have htr := tree_same Hsm.out HTm.out
  rcases htb : treeB n with _ | _
  · have hnew := new_no n r m w3 HN3.out HM3.out (by omega) htb
    unfold ndV rawCells at hnew
    have HNew := Lib.hid hnew
    rw [htb] at htr
    have Htr := Lib.hid htr
    clear hnew htb htr
    go_wp2_with fail
    refine HNew.out.mono ?_
    rintro e w4 ⟨rfl, hb4⟩
    have HX4 := Lib.hid (HX3.out.below hb4)
    have hrr := refright_node n r w4 (HN3.out.later hb4) (by omega)
    rw [← Htr.out] at hrr
    unfold ndV rawCells at hrr
    have HRR := Lib.hid hrr
    have HB4 := Lib.hid (HB3.out.trans (hb4.mono HB3.out.size))
    clear hb4 hrr HNew HB3 HX3 HN3 HM3 b0 b1 b2 b3 b4 b5 b6
    obtain ⟨b0, b1, b2, b3, b4, b5, b6⟩ := HX4.out.cells
    go_wp2_with fail
    refine HRR.out.mono ?_
    rintro e w5 ⟨rfl, hb5⟩
    have HB5 := Lib.hid (HB4.out.trans (hb5.mono HB4.out.size))
    clear hb5 HRR HB4 HX4 b0 b1 b2 b3 b4 b5 b6
    go_wp2_with fail
    go_ret
    exact ⟨rfl, HB5.out⟩
  have HOk := Lib.hid (okay_of Hsm.out HTm.out htb)
  have hnew := new_yes n r m w3 HN3.out HM3.out (by omega) htb HOk.out.cc (by have := HOk.out.cnt; omega)
  unfold ndV rawCells at hnew
  have HNew := Lib.hid hnew
  rw [htb] at htr
  have Htr := Lib.hid htr
  clear hnew htb htr
  go_wp2_with fail
  refine HNew.out.mono ?_
  rintro e w4 ⟨⟨g, rfl, hbr⟩, hb4⟩
  have HX4 := Lib.hid (HX3.out.below hb4)
  have HN4 := Lib.hid (HN3.out.later hb4)
  have HBr4 := Lib.hid hbr
  have hrr := refright_node n r w4 HN4.out (by omega)
  rw [← Htr.out] at hrr
  unfold ndV rawCells at hrr
  have HRR := Lib.hid hrr
  have HB4 := Lib.hid (HB3.out.trans (hb4.mono HB3.out.size))
  clear hb4 hrr hbr HNew HB3 HX3 HN3 HM3 b0 b1 b2 b3 b4 b5 b6
  obtain ⟨b0, b1, b2, b3, b4, b5, b6⟩ := HX4.out.cells
  go_wp2_with fail
  refine HRR.out.mono ?_
  rintro e w5 ⟨rfl, hb5⟩
  have HX5 := Lib.hid (HX4.out.below hb5)
  have HN5 := Lib.hid (HN4.out.later hb5)
  have HBr5 := Lib.hid (HBr4.out.later hb5)
  have HB5 := Lib.hid (HB4.out.trans (hb5.mono HB4.out.size))
  have hpre := pre_at w5 (depth n + 1) n r w5 (Nat.lt_succ_self _) HN5.out (Below.refl _ _) (by have := HOk.out.cnt; omega)
  unfold ndV rawCells at hpre
  have HPre := Lib.hid hpre
  clear hb5 hpre HRR HB4 HX4 HN4 HBr4 b0 b1 b2 b3 b4 b5 b6
  obtain ⟨b0, b1, b2, b3, b4, b5, b6⟩ := HX5.out.cells
  go_wp2_with fail
  refine HPre.out.mono ?_
  rintro e w6 ⟨A, c, rs, rfl, ho6, hn6, hb6⟩
  obtain ⟨bl, rfl, hbl, hcl⟩ := row_nd ho6
  have HNds := Lib.hid hn6
  have HCl := Lib.hid hcl
  have HBr6 := Lib.hid (HBr5.out.later hb6)
  have HB56 := Lib.hid hb6
  have HB6 := Lib.hid (HB5.out.trans (hb6.mono HB5.out.size))
  have hcnt := HOk.out.cnt
  have hcb := bcount_any g _ w6 HBr6.out
  rw [flatN_length] at hcb
  have HCb := Lib.hid hcb
  clear ho6 hn6 hcl hb6 hcb HPre HB5 HX5 HBr5 b0 b1 b2 b3 b4 b5 b6
  go_wp2_with fail
  refine HCb.out.mono ?_
  rintro e w7 ⟨rfl, rfl⟩
  clear HCb
  go_upto_region 11 with fail
  go_wp2_with fail
  go_loopw [46] (fun v46 wr => ∃ k : Nat, k ≤ count n ∧ v46 = .int .i64 k ∧ Hid (Below w6.heap.size w6 wr)) (fun v46 _ => count n - (intOf v46).toNat)
  case atStart => exact ⟨0, Nat.zero_le _, rfl, Lib.hid (Below.refl _ _)⟩
  case round =>
    obtain ⟨k, hk, rfl, HBr⟩ := hrel
    by_cases hlt : k < count n
    · obtain ⟨x, hx⟩ : ∃ x, (preN n)[k]? = some x := ⟨_, List.getElem?_eq_getElem (by rw [preN_length]; exact hlt)⟩
      obtain ⟨rx, hrx⟩ : ∃ rx, rx = rs k := ⟨_, rfl⟩
      have hc := HCl.out k x hx
      rw [← hrx] at hc
      have ld : ∀ j v, (rawCells x rx)[j]? = some v → wr.cell? ⟨bl, k * 7 + j, none⟩ = some v := fun j v hj => (HBr.out.cell (p := ⟨bl, k * 7 + j, none⟩) hbl).trans (hc j v hj)
      have c0 : wr.cell? ⟨bl, k * 7, none⟩ = some (.int .i64 x.K) := ld 0 _ rfl
      have c1 : wr.cell? ⟨bl, k * 7 + 1, none⟩ = some (.bool x.O) := ld 1 _ rfl
      have c2 : wr.cell? ⟨bl, k * 7 + 2, none⟩ = some (.slice rx.An x.N.length rx.cn) := ld 2 _ rfl
      have c3 : wr.cell? ⟨bl, k * 7 + 3, none⟩ = some (.slice rx.Ai x.I.length rx.ci) := ld 3 _ rfl
      have c4 : wr.cell? ⟨bl, k * 7 + 4, none⟩ = some (.int .i64 x.S) := ld 4 _ rfl
      have c5 : wr.cell? ⟨bl, k * 7 + 5, none⟩ = some (.slice rx.Ae x.E.length rx.ce) := ld 5 _ rfl
      have c6 : wr.cell? ⟨bl, k * 7 + 6, none⟩ = some (.string x.T) := ld 6 _ rfl
      have i0' : (0 : Int) ≤ (k : Int) := by omega
      have i1' : (k : Int) < (count n : Int) := by omega
      have hnx : NdAt wr wr.heap.size x rx := by
        have h := HNds.out k x hx
        rw [← hrx] at h
        exact (h.later HB56.out).later HBr.out
      obtain ⟨W13, hW13⟩ : ∃ W13, W13 = wr.alloc (.cells (rawCells x rx) 26) := ⟨_, rfl⟩
      have hb13 : Below wr.heap.size wr W13 := by rw [hW13]; exact (Below.refl _ _).alloc (Nat.le_refl _) _
      have hx13 : Box W13 wr.heap.size x rx := by rw [hW13]; exact Box.new wr x rx
      have hn13 := hnx.later hb13
      have HBr13 := Lib.hid ((HBr6.out.later HBr.out).later hb13)
      have hfx := flat_at hx
      have HS : Hid (∀ w' : World, Below W13.heap.size W13 w' → ((w'.cell? ⟨wr.heap.size, 0, none⟩ = some (.int .i64 x.K) ∧ w'.cell? ⟨wr.heap.size, 1, none⟩ = some (.bool x.O) ∧ w'.cell? ⟨wr.heap.size, 2, none⟩ = some (.slice rx.An x.N.length rx.cn) ∧ w'.cell? ⟨wr.heap.size, 3, none⟩ = some (.slice rx.Ai x.I.length rx.ci) ∧ w'.cell? ⟨wr.heap.size, 4, none⟩ = some (.int .i64 x.S) ∧ w'.cell? ⟨wr.heap.size, 5, none⟩ = some (.slice rx.Ae x.E.length rx.ce) ∧ w'.cell? ⟨wr.heap.size, 6, none⟩ = some (.string x.T)) ∧ Below W13.heap.size W13 w')) := Lib.hid fun w' hb => by
        obtain ⟨b0, b1, b2, b3, b4, b5, b6⟩ := (hx13.below hb).cells
        exact ⟨⟨b0, b1, b2, b3, b4, b5, b6⟩, hb⟩
      have HSd := Lib.hid (HS.out _ (Below.refl W13.heap.size W13).drew)
      have J1 : Hid (∀ w' : World, Below W13.heap.size W13 w' → Calls Tryd.prog 23 #[.pointer (some ⟨g, 0, none⟩), .int .i64 (k : Int)] w' fun e w'' => e = .returned (.int .i64 x.K) ∧ Below W13.heap.size W13 w'') := Lib.hid fun w' hb =>
        (bkind_yes g k _ _ w' (HBr13.out.later hb) hfx).mono fun _ _ ⟨he, hw⟩ => ⟨by rw [he]; show _ = Ending.returned (.int .i64 x.K); rw [← alone_K x]; rfl, hb.trans (hw.mono hb.size)⟩
      have J2 : Hid (∀ w' : World, Below W13.heap.size W13 w' → Calls Tryd.prog 24 #[.pointer (some ⟨g, 0, none⟩), .int .i64 (k : Int)] w' fun e w'' => e = .returned (.bool x.O) ∧ Below W13.heap.size W13 w'') := Lib.hid fun w' hb =>
        (bopaq_yes g k _ _ w' (HBr13.out.later hb) hfx).mono fun _ _ ⟨he, hw⟩ => ⟨by rw [he]; show _ = Ending.returned (.bool x.O); rw [← alone_O x]; rfl, hb.trans (hw.mono hb.size)⟩
      have J3 : Hid (∀ w' : World, Below W13.heap.size W13 w' → Calls Tryd.prog 25 #[.pointer (some ⟨g, 0, none⟩), .int .i64 (k : Int)] w' fun e w'' => e = .returned (.int .i64 x.S) ∧ Below W13.heap.size W13 w'') := Lib.hid fun w' hb =>
        (bsize_yes g k _ _ w' (HBr13.out.later hb) hfx).mono fun _ _ ⟨he, hw⟩ => ⟨by rw [he]; show _ = Ending.returned (.int .i64 x.S); rw [← alone_S x]; rfl, hb.trans (hw.mono hb.size)⟩
      have J4 : Hid (∀ w' : World, Below W13.heap.size W13 w' → Calls Tryd.prog 26 #[.pointer (some ⟨g, 0, none⟩), .int .i64 (k : Int)] w' fun e w'' => e = .returned (.string x.T) ∧ Below W13.heap.size W13 w'') := Lib.hid fun w' hb =>
        (btarget_yes g k _ _ w' (HBr13.out.later hb) hfx).mono fun _ _ ⟨he, hw⟩ => ⟨by rw [he]; show _ = Ending.returned (.string x.T); rw [← alone_T x]; rfl, hb.trans (hw.mono hb.size)⟩
      have J5 : Hid (∀ w' : World, Below W13.heap.size W13 w' → Calls Tryd.prog 28 #[.pointer (some ⟨g, 0, none⟩), .int .i64 (k : Int)] w' fun e w'' => (∃ A3 c3, e = .returned (.slice A3 x.N.length c3) ∧ Txts w'' w''.heap.size A3 x.N) ∧ Below W13.heap.size W13 w'') := Lib.hid fun w' hb =>
        (bnames_yes g k _ _ w' (HBr13.out.later hb) hfx).mono fun e w'' ⟨A3, c3, he, _, _, ht, hw⟩ => by
          have e1 : (entOf k x).x.N = x.N := alone_N x
          rw [e1] at he ht
          exact ⟨⟨A3, c3, he, ht⟩, hb.trans (hw.mono hb.size)⟩
      have hT13 := hn13.names
      have hlN := hn13.fit.ln
      have HT13 := Lib.hid hT13
      unfold rawCells at hW13
      have HW13 := Lib.hid hW13
      have HB13 := Lib.hid hb13
      clear hx hrx hc ld hnx hb13 hx13 hn13 hfx hT13 hW13
      go_upto_region 14 with fail
      rw [← HW13.out]
      clear c0 c1 c2 c3 c4 c5 c6 HW13
      have hoo : (x.O != x.O) = false := by simp
      have htt : (x.T.toList == x.T.toList) = true := by simp
      refine wp_region_held_drew (S := fun w' => (w'.cell? ⟨wr.heap.size, 0, none⟩ = some (.int .i64 x.K) ∧ w'.cell? ⟨wr.heap.size, 1, none⟩ = some (.bool x.O) ∧ w'.cell? ⟨wr.heap.size, 2, none⟩ = some (.slice rx.An x.N.length rx.cn) ∧ w'.cell? ⟨wr.heap.size, 3, none⟩ = some (.slice rx.Ai x.I.length rx.ci) ∧ w'.cell? ⟨wr.heap.size, 4, none⟩ = some (.int .i64 x.S) ∧ w'.cell? ⟨wr.heap.size, 5, none⟩ = some (.slice rx.Ae x.E.length rx.ce) ∧ w'.cell? ⟨wr.heap.size, 6, none⟩ = some (.string x.T)) ∧ Below W13.heap.size W13 w') (by kernel_rfl) HSd.out (fun hHeld => ?_)
      refine wpAnyH_take (i := 0) (oi := ⟨some 51, _, _, _, _, _⟩) (v := ?_) rfl (by kernel_rfl) (by kernel_rfl) (by kernel_rfl) (fun _ _ _ h => h) (Or.inl ⟨by kernel_rfl, ?_⟩) (by assumption) ?_
      rotate_left 1
      focus (intro w' hSw; (try dsimp only at hSw); go_simp; (try with_reducible rfl))
      try simp only [Act.put, List.setIfInBounds_toArray, List.set_cons_zero, List.set_cons_succ]
      refine wpAnyH_take (i := 1) (oi := ⟨some 52, _, _, _, _, _⟩) (v := ?_) rfl (by kernel_rfl) (by kernel_rfl) (by kernel_rfl) (fun _ _ _ h => h) (Or.inl ⟨by kernel_rfl, ?_⟩) (by assumption) ?_
      rotate_left 1
      focus (intro w' hSw; (try dsimp only at hSw); go_simp; (try with_reducible rfl))
      try simp only [Act.put, List.setIfInBounds_toArray, List.set_cons_zero, List.set_cons_succ]
      refine wpAnyH_take (i := 3) (oi := ⟨some 54, _, _, _, _, _⟩) (v := ?_) rfl (by kernel_rfl) (by kernel_rfl) (by kernel_rfl) (fun _ _ _ h => h) (Or.inl ⟨by kernel_rfl, ?_⟩) (by assumption) ?_
      rotate_left 1
      focus (intro w' hSw; (try dsimp only at hSw); go_simp; (try with_reducible rfl))
      try simp only [Act.put, List.setIfInBounds_toArray, List.set_cons_zero, List.set_cons_succ]
      refine wpAnyH_take (i := 4) (oi := ⟨some 55, _, _, _, _, _⟩) (v := ?_) rfl (by kernel_rfl) (by kernel_rfl) (by kernel_rfl) (fun _ _ _ h => h) (Or.inl ⟨by kernel_rfl, ?_⟩) (by assumption) ?_
      rotate_left 1
      focus (intro w' hSw; (try dsimp only at hSw); go_simp; (try with_reducible rfl))
      try simp only [Act.put, List.setIfInBounds_toArray, List.set_cons_zero, List.set_cons_succ]
      refine wpAnyH_ready (rs := [2]) (by kernel_rfl) (by simp) ?_
      refine AllReadyH.cons rfl (fun K hK => ?_) AllReadyH.nil
      go_simp
      go_at_call 23
      refine (J1.out _ (Below.refl W13.heap.size W13).drew).mono ?_
      rintro e v1 ⟨rfl, hv1⟩
      clear hHeld
      refine hK.out _ _ (HS.out _ hv1) (fun hHeld => ?_)
      clear hK
      refine wpAnyH_take (i := 5) (oi := ⟨some 56, _, _, _, _, _⟩) (v := ?_) rfl (by kernel_rfl) (by kernel_rfl) (by kernel_rfl) (fun _ _ _ h => h) (Or.inl ⟨by kernel_rfl, ?_⟩) (by assumption) ?_
      rotate_left 1
      focus (intro w' hSw; (try dsimp only at hSw); go_simp; (try with_reducible rfl))
      try simp only [Act.put, List.setIfInBounds_toArray, List.set_cons_zero, List.set_cons_succ]
      refine wpAnyH_take (i := 6) (oi := ⟨some 57, _, _, _, _, _⟩) (v := ?_) rfl (by kernel_rfl) (by kernel_rfl) (by kernel_rfl) (fun _ _ _ h => h) (Or.inl ⟨by kernel_rfl, ?_⟩) (by assumption) ?_
      rotate_left 1
      focus (intro w' hSw; (try dsimp only at hSw); go_simp; (try with_reducible rfl))
      try simp only [Act.put, List.setIfInBounds_toArray, List.set_cons_zero, List.set_cons_succ]
      refine wpAnyH_take (i := 7) (oi := ⟨some 58, _, _, _, _, _⟩) (v := ?_) rfl (by kernel_rfl) (by kernel_rfl) (by kernel_rfl) (fun _ _ _ h => h) (Or.inl ⟨by kernel_rfl, ?_⟩) (by assumption) ?_
      rotate_left 1
      focus (intro w' hSw; (try dsimp only at hSw); go_simp; (try with_reducible rfl))
      try simp only [Act.put, List.setIfInBounds_toArray, List.set_cons_zero, List.set_cons_succ]
      refine wpAnyH_take (i := 8) (oi := ⟨some 59, _, _, _, _, _⟩) (v := ?_) rfl (by kernel_rfl) (by kernel_rfl) (by kernel_rfl) (fun _ _ _ h => h) (Or.inl ⟨by kernel_rfl, ?_⟩) (by assumption) ?_
      rotate_left 1
      focus (intro w' hSw; (try dsimp only at hSw); go_simp; (try with_reducible rfl))
      try simp only [Act.put, List.setIfInBounds_toArray, List.set_cons_zero, List.set_cons_succ]
      refine wpAnyH_take (i := 10) (oi := ⟨some 61, _, _, _, _, _⟩) (v := ?_) rfl (by kernel_rfl) (by kernel_rfl) (by kernel_rfl) (fun _ _ _ h => h) (Or.inl ⟨by kernel_rfl, ?_⟩) (by assumption) ?_
      rotate_left 1
      focus (intro w' hSw; (try dsimp only at hSw); go_simp; (try with_reducible rfl))
      try simp only [Act.put, List.setIfInBounds_toArray, List.set_cons_zero, List.set_cons_succ]
      refine wpAnyH_take (i := 11) (oi := ⟨some 62, _, _, _, _, _⟩) (v := ?_) rfl (by kernel_rfl) (by kernel_rfl) (by kernel_rfl) (fun _ _ _ h => h) (Or.inl ⟨by kernel_rfl, ?_⟩) (by assumption) ?_
      rotate_left 1
      focus (intro w' hSw; (try dsimp only at hSw); go_simp; (try with_reducible rfl))
      try simp only [Act.put, List.setIfInBounds_toArray, List.set_cons_zero, List.set_cons_succ]
      refine wpAnyH_ready (rs := [9]) (by kernel_rfl) (by simp) ?_
      refine AllReadyH.cons rfl (fun K hK => ?_) AllReadyH.nil
      go_simp
      go_at_call 24
      refine (J2.out _ hv1).mono ?_
      rintro e v2 ⟨rfl, hv2⟩
      clear hHeld
      refine hK.out _ _ (HS.out _ hv2) (fun hHeld => ?_)
      clear hK
      refine wpAnyH_take (i := 12) (oi := ⟨some 63, _, _, _, _, _⟩) (v := ?_) rfl (by kernel_rfl) (by kernel_rfl) (by kernel_rfl) (fun _ _ _ h => h) (Or.inl ⟨by kernel_rfl, ?_⟩) (by assumption) ?_
      rotate_left 1
      focus (intro w' hSw; (try dsimp only at hSw); go_simp; (try with_reducible rfl))
      try simp only [Act.put, List.setIfInBounds_toArray, List.set_cons_zero, List.set_cons_succ]
      refine wpAnyH_take (i := 13) (oi := ⟨some 64, _, _, _, _, _⟩) (v := ?_) rfl (by kernel_rfl) (by kernel_rfl) (by kernel_rfl) (fun _ _ _ h => h) (Or.inl ⟨by kernel_rfl, ?_⟩) (by assumption) ?_
      rotate_left 1
      focus (intro w' hSw; (try dsimp only at hSw); go_simp; (try with_reducible rfl))
      try simp only [Act.put, List.setIfInBounds_toArray, List.set_cons_zero, List.set_cons_succ]
      refine wpAnyH_take (i := 14) (oi := ⟨some 65, _, _, _, _, _⟩) (v := ?_) rfl (by kernel_rfl) (by kernel_rfl) (by kernel_rfl) (fun _ _ _ h => h) (Or.inl ⟨by kernel_rfl, ?_⟩) (by assumption) ?_
      rotate_left 1
      focus (intro w' hSw; (try dsimp only at hSw); go_simp; (try with_reducible rfl))
      try simp only [Act.put, List.setIfInBounds_toArray, List.set_cons_zero, List.set_cons_succ]
      refine wpAnyH_take (i := 15) (oi := ⟨some 66, _, _, _, _, _⟩) (v := ?_) rfl (by kernel_rfl) (by kernel_rfl) (by kernel_rfl) (fun _ _ _ h => h) (Or.inl ⟨by kernel_rfl, ?_⟩) (by assumption) ?_
      rotate_left 1
      focus (intro w' hSw; (try dsimp only at hSw); go_simp; (try with_reducible rfl))
      try simp only [Act.put, List.setIfInBounds_toArray, List.set_cons_zero, List.set_cons_succ]
      refine wpAnyH_take (i := 16) (oi := ⟨some 67, _, _, _, _, _⟩) (v := ?_) rfl (by kernel_rfl) (by kernel_rfl) (by kernel_rfl) (fun _ _ _ h => h) (Or.inl ⟨by kernel_rfl, ?_⟩) (by assumption) ?_
      rotate_left 1
      focus (intro w' hSw; (try dsimp only at hSw); go_simp; (try with_reducible rfl))
      try simp only [Act.put, List.setIfInBounds_toArray, List.set_cons_zero, List.set_cons_succ]
      refine wpAnyH_take (i := 18) (oi := ⟨some 69, _, _, _, _, _⟩) (v := ?_) rfl (by kernel_rfl) (by kernel_rfl) (by kernel_rfl) (fun _ _ _ h => h) (Or.inl ⟨by kernel_rfl, ?_⟩) (by assumption) ?_
      rotate_left 1
      focus (intro w' hSw; (try dsimp only at hSw); go_simp; (try with_reducible rfl))
      try simp only [Act.put, List.setIfInBounds_toArray, List.set_cons_zero, List.set_cons_succ]
      refine wpAnyH_take (i := 19) (oi := ⟨some 70, _, _, _, _, _⟩) (v := ?_) rfl (by kernel_rfl) (by kernel_rfl) (by kernel_rfl) (fun _ _ _ h => h) (Or.inl ⟨by kernel_rfl, ?_⟩) (by assumption) ?_
      rotate_left 1
      focus (intro w' hSw; (try dsimp only at hSw); go_simp; (try with_reducible rfl))
      try simp only [Act.put, List.setIfInBounds_toArray, List.set_cons_zero, List.set_cons_succ]
      refine wpAnyH_ready (rs := [17]) (by kernel_rfl) (by simp) ?_
      refine AllReadyH.cons rfl (fun K hK => ?_) AllReadyH.nil
      go_simp
      go_at_call 25
      refine (J3.out _ hv2).mono ?_
      rintro e v3 ⟨rfl, hv3⟩
      clear hHeld
      refine hK.out _ _ (HS.out _ hv3) (fun hHeld => ?_)
      clear hK
      refine wpAnyH_take (i := 20) (oi := ⟨some 71, _, _, _, _, _⟩) (v := ?_) rfl (by kernel_rfl) (by kernel_rfl) (by kernel_rfl) (fun _ _ _ h => h) (Or.inl ⟨by kernel_rfl, ?_⟩) (by assumption) ?_
      rotate_left 1
      focus (intro w' hSw; (try dsimp only at hSw); go_simp; (try with_reducible rfl))
      try simp only [Act.put, List.setIfInBounds_toArray, List.set_cons_zero, List.set_cons_succ]
      refine wpAnyH_take (i := 21) (oi := ⟨some 72, _, _, _, _, _⟩) (v := ?_) rfl (by kernel_rfl) (by kernel_rfl) (by kernel_rfl) (fun _ _ _ h => h) (Or.inl ⟨by kernel_rfl, ?_⟩) (by assumption) ?_
      rotate_left 1
      focus (intro w' hSw; (try dsimp only at hSw); go_simp; (try with_reducible rfl))
      try simp only [Act.put, List.setIfInBounds_toArray, List.set_cons_zero, List.set_cons_succ]
      refine wpAnyH_take (i := 22) (oi := ⟨some 73, _, _, _, _, _⟩) (v := ?_) rfl (by kernel_rfl) (by kernel_rfl) (by kernel_rfl) (fun _ _ _ h => h) (Or.inl ⟨by kernel_rfl, ?_⟩) (by assumption) ?_
      rotate_left 1
      focus (intro w' hSw; (try dsimp only at hSw); go_simp; (try with_reducible rfl))
      try simp only [Act.put, List.setIfInBounds_toArray, List.set_cons_zero, List.set_cons_succ]
      refine wpAnyH_take (i := 23) (oi := ⟨some 74, _, _, _, _, _⟩) (v := ?_) rfl (by kernel_rfl) (by kernel_rfl) (by kernel_rfl) (fun _ _ _ h => h) (Or.inl ⟨by kernel_rfl, ?_⟩) (by assumption) ?_
      rotate_left 1
      focus (intro w' hSw; (try dsimp only at hSw); go_simp; (try with_reducible rfl))
      try simp only [Act.put, List.setIfInBounds_toArray, List.set_cons_zero, List.set_cons_succ]
      refine wpAnyH_take (i := 24) (oi := ⟨some 75, _, _, _, _, _⟩) (v := ?_) rfl (by kernel_rfl) (by kernel_rfl) (by kernel_rfl) (fun _ _ _ h => h) (Or.inl ⟨by kernel_rfl, ?_⟩) (by assumption) ?_
      rotate_left 1
      focus (intro w' hSw; (try dsimp only at hSw); go_simp; (try with_reducible rfl))
      try simp only [Act.put, List.setIfInBounds_toArray, List.set_cons_zero, List.set_cons_succ]
      refine wpAnyH_take (i := 26) (oi := ⟨some 77, _, _, _, _, _⟩) (v := ?_) rfl (by kernel_rfl) (by kernel_rfl) (by kernel_rfl) (fun _ _ _ h => h) (Or.inl ⟨by kernel_rfl, ?_⟩) (by assumption) ?_
      rotate_left 1
      focus (intro w' hSw; (try dsimp only at hSw); go_simp; (try with_reducible rfl))
      try simp only [Act.put, List.setIfInBounds_toArray, List.set_cons_zero, List.set_cons_succ]
      refine wpAnyH_take (i := 27) (oi := ⟨some 78, _, _, _, _, _⟩) (v := ?_) rfl (by kernel_rfl) (by kernel_rfl) (by kernel_rfl) (fun _ _ _ h => h) (Or.inl ⟨by kernel_rfl, ?_⟩) (by assumption) ?_
      rotate_left 1
      focus (intro w' hSw; (try dsimp only at hSw); go_simp; (try with_reducible rfl))
      try simp only [Act.put, List.setIfInBounds_toArray, List.set_cons_zero, List.set_cons_succ]
      refine wpAnyH_ready (rs := [25]) (by kernel_rfl) (by simp) ?_
      refine AllReadyH.cons rfl (fun K hK => ?_) AllReadyH.nil
      go_simp
      go_at_call 26
      refine (J4.out _ hv3).mono ?_
      rintro e v4 ⟨rfl, hv4⟩
      clear hHeld
      refine hK.out _ _ (HS.out _ hv4) (fun hHeld => ?_)
      clear hK
      refine wpAnyH_take (i := 28) (oi := ⟨some 79, _, _, _, _, _⟩) (v := ?_) rfl (by kernel_rfl) (by kernel_rfl) (by kernel_rfl) (fun _ _ _ h => h) (Or.inl ⟨by kernel_rfl, ?_⟩) (by assumption) ?_
      rotate_left 1
      focus (intro w' hSw; (try dsimp only at hSw); go_simp; (try with_reducible rfl))
      try simp only [Act.put, List.setIfInBounds_toArray, List.set_cons_zero, List.set_cons_succ]
      refine wpAnyH_take (i := 29) (oi := ⟨some 80, _, _, _, _, _⟩) (v := ?_) rfl (by kernel_rfl) (by kernel_rfl) (by kernel_rfl) (fun _ _ _ h => h) (Or.inl ⟨by kernel_rfl, ?_⟩) (by assumption) ?_
      rotate_left 1
      focus (intro w' hSw; (try dsimp only at hSw); go_simp; (try with_reducible rfl))
      try simp only [Act.put, List.setIfInBounds_toArray, List.set_cons_zero, List.set_cons_succ]
      refine wpAnyH_take (i := 30) (oi := ⟨some 81, _, _, _, _, _⟩) (v := ?_) rfl (by kernel_rfl) (by kernel_rfl) (by kernel_rfl) (fun _ _ _ h => h) (Or.inl ⟨by kernel_rfl, ?_⟩) (by assumption) ?_
      rotate_left 1
      focus (intro w' hSw; (try dsimp only at hSw); go_simp; (try with_reducible rfl))
      try simp only [Act.put, List.setIfInBounds_toArray, List.set_cons_zero, List.set_cons_succ]
      refine wpAnyH_take (i := 31) (oi := ⟨some 82, _, _, _, _, _⟩) (v := ?_) rfl (by kernel_rfl) (by kernel_rfl) (by kernel_rfl) (fun _ _ _ h => h) (Or.inl ⟨by kernel_rfl, ?_⟩) (by assumption) ?_
      rotate_left 1
      focus (intro w' hSw; (try dsimp only at hSw); go_simp; (try with_reducible rfl))
      try simp only [Act.put, List.setIfInBounds_toArray, List.set_cons_zero, List.set_cons_succ]
      refine wpAnyH_take (i := 32) (oi := ⟨some 83, _, _, _, _, _⟩) (v := ?_) rfl (by kernel_rfl) (by kernel_rfl) (by kernel_rfl) (fun _ _ _ h => h) (Or.inl ⟨by kernel_rfl, ?_⟩) (by assumption) ?_
      rotate_left 1
      focus (intro w' hSw; (try dsimp only at hSw); go_simp; (try with_reducible rfl))
      try simp only [Act.put, List.setIfInBounds_toArray, List.set_cons_zero, List.set_cons_succ]
      refine wpAnyH_take (i := 34) (oi := ⟨some 85, _, _, _, _, _⟩) (v := ?_) rfl (by kernel_rfl) (by kernel_rfl) (by kernel_rfl) (fun _ _ _ h => h) (Or.inl ⟨by kernel_rfl, ?_⟩) (by assumption) ?_
      rotate_left 1
      focus (intro w' hSw; (try dsimp only at hSw); go_simp; (try with_reducible rfl))
      try simp only [Act.put, List.setIfInBounds_toArray, List.set_cons_zero, List.set_cons_succ]
      refine wpAnyH_take (i := 35) (oi := ⟨some 86, _, _, _, _, _⟩) (v := ?_) rfl (by kernel_rfl) (by kernel_rfl) (by kernel_rfl) (fun _ _ _ h => h) (Or.inl ⟨by kernel_rfl, ?_⟩) (by assumption) ?_
      rotate_left 1
      focus (intro w' hSw; (try dsimp only at hSw); go_simp; (try with_reducible rfl))
      try simp only [Act.put, List.setIfInBounds_toArray, List.set_cons_zero, List.set_cons_succ]
      refine wpAnyH_ready (rs := [33]) (by kernel_rfl) (by simp) ?_
      refine AllReadyH.cons rfl (fun K hK => ?_) AllReadyH.nil
      go_simp
      go_at_call 28
      refine (J5.out _ hv4).mono ?_
      rintro e v5 ⟨⟨A3, c3, rfl, hT5⟩, hv5⟩
      clear hHeld
      refine hK.out _ _ (HS.out _ hv5) (fun hHeld => ?_)
      clear hK
      have J6 : Calls Tryd.prog 27 #[.slice A3 x.N.length c3, .slice rx.An x.N.length rx.cn] v5 fun e w'' => e = .returned (.bool true) ∧ Below W13.heap.size W13 w'' :=
        (refsame_txt_is true A3 rx.An c3 rx.cn x.N x.N v5 hT5 ((HT13.out.keep hv5).more hv5.size) (by omega) (decide_eq_true rfl)).mono fun _ _ ⟨he, hw⟩ => ⟨he, hv5.trans (hw.mono hv5.size)⟩
      refine wpAnyH_ready (rs := [36]) (by kernel_rfl) (by simp) ?_
      refine AllReadyH.cons rfl (fun K hK => ?_) AllReadyH.nil
      go_simp
      go_at_call 27
      refine J6.mono ?_
      rintro e v6 ⟨rfl, hv6⟩
      clear hHeld
      refine hK.out _ _ (HS.out _ hv6) (fun hHeld => ?_)
      clear hK
      refine wpAnyH_take (i := 37) (oi := ⟨some 88, _, _, _, _, _⟩) (v := ?_) rfl (by kernel_rfl) (by kernel_rfl) (by kernel_rfl) (fun _ _ _ h => h) (Or.inl ⟨by kernel_rfl, ?_⟩) (by assumption) ?_
      rotate_left 1
      focus (intro w' hSw; (try dsimp only at hSw); go_simp; (try with_reducible rfl))
      try simp only [Act.put, List.setIfInBounds_toArray, List.set_cons_zero, List.set_cons_succ]
      refine wpAnyH_take (i := 38) (oi := ⟨some 89, _, _, _, _, _⟩) (v := ?_) rfl (by kernel_rfl) (by kernel_rfl) (by kernel_rfl) (fun _ _ _ h => h) (Or.inl ⟨by kernel_rfl, ?_⟩) (by assumption) ?_
      rotate_left 1
      focus (intro w' hSw; (try dsimp only at hSw); go_simp; (try with_reducible rfl))
      try simp only [Act.put, List.setIfInBounds_toArray, List.set_cons_zero, List.set_cons_succ]
      refine wpAnyH_done (by kernel_rfl) ?_ _
      have HBe := Lib.hid (HBr.out.trans ((HB13.out.trans (hv6.mono HB13.out.size)).mono HBr.out.size))
      clear hHeld hv1 hv2 hv3 hv4 hv5 hv6 hT5 J1 J2 J3 J4 J5 J6 HS HSd HB13 HT13 HBr13
      go_wp2_with fail
      go_roundw
      case rel => exact ⟨k + 1, by omega, by go_num, HBe⟩
      case measure => simp [intOf]; omega
    · obtain rfl : k = count n := by omega
      have HBr7 := Lib.hid (HBr6.out.later HBr.out)
      have HBw := Lib.hid (HB6.out.trans (HBr.out.mono HB6.out.size))
      by_cases h0 : 0 ≤ i
      · by_cases h1 : i < (count n : Int)
        · have g0 : decide (0 ≤ i) = true := by simpa using h0
          have g1 : decide (i < (count n : Int)) = true := by simpa using h1
          go_wp2_with fail
          go_ret
          exact ⟨rfl, HBw.out⟩
        · have g0 : decide (0 ≤ i) = true := by simpa using h0
          have g1 : decide (i < (count n : Int)) = false := by simpa using h1
          have hi : i < 0 ∨ ((flatN 0 n).length : Int) ≤ i := .inr (by rw [flatN_length]; omega)
          have K1 := Lib.hid (bkind_no g i _ wr HBr7.out hi)
          clear h0
          go_wp2_with fail
          refine K1.out.mono ?_
          rintro e u1 ⟨rfl, hu1⟩
          have HBu1 := Lib.hid (HBr7.out.later hu1)
          have HW1' := Lib.hid (HBw.out.trans (hu1.mono HBw.out.size))
          clear hu1 K1
          have K2 := Lib.hid (bopaq_no g i _ u1 HBu1.out hi)
          go_wp2_with fail
          refine K2.out.mono ?_
          rintro e u2 ⟨rfl, hu2⟩
          have HBu2 := Lib.hid (HBu1.out.later hu2)
          have HW2' := Lib.hid (HW1'.out.trans (hu2.mono HW1'.out.size))
          clear hu2 K2
          have K3 := Lib.hid (bsize_no g i _ u2 HBu2.out hi)
          go_wp2_with fail
          refine K3.out.mono ?_
          rintro e u3 ⟨rfl, hu3⟩
          have HBu3 := Lib.hid (HBu2.out.later hu3)
          have HW3' := Lib.hid (HW2'.out.trans (hu3.mono HW2'.out.size))
          clear hu3 K3
          have K4 := Lib.hid (btarget_no g i _ u3 HBu3.out hi)
          go_wp2_with fail
          refine K4.out.mono ?_
          rintro e u4 ⟨rfl, hu4⟩
          have HBu4 := Lib.hid (HBu3.out.later hu4)
          have HW4' := Lib.hid (HW3'.out.trans (hu4.mono HW3'.out.size))
          clear hu4 K4
          have K5 := Lib.hid (bnames_no g i _ u4 HBu4.out hi)
          go_wp2_with fail
          refine K5.out.mono ?_
          rintro e u5 ⟨A5, c5, rfl, _, _, _, hu5⟩
          have HBu5 := Lib.hid (HBu4.out.later hu5)
          have HW5' := Lib.hid (HW4'.out.trans (hu5.mono HW4'.out.size))
          clear hu5 K5
          have K6 := Lib.hid (bread_zero g i _ u5 HBu5.out hi)
          go_wp2_with fail
          refine K6.out.mono ?_
          rintro e u6 ⟨rfl, hu6⟩
          have HW6' := Lib.hid (HW5'.out.trans (hu6.mono HW5'.out.size))
          clear hu6 K6
          go_wp2_with fail
          go_ret
          exact ⟨rfl, HW6'.out⟩
      · have g0 : decide (0 ≤ i) = false := by simpa using h0
        have hi : i < 0 ∨ ((flatN 0 n).length : Int) ≤ i := .inl (by omega)
        have K1 := Lib.hid (bkind_no g i _ wr HBr7.out hi)
        clear h0
        go_wp2_with fail
        refine K1.out.mono ?_
        rintro e u1 ⟨rfl, hu1⟩
        have HBu1 := Lib.hid (HBr7.out.later hu1)
        have HW1' := Lib.hid (HBw.out.trans (hu1.mono HBw.out.size))
        clear hu1 K1
        have K2 := Lib.hid (bopaq_no g i _ u1 HBu1.out hi)
        go_wp2_with fail
        refine K2.out.mono ?_
        rintro e u2 ⟨rfl, hu2⟩
        have HBu2 := Lib.hid (HBu1.out.later hu2)
        have HW2' := Lib.hid (HW1'.out.trans (hu2.mono HW1'.out.size))
        clear hu2 K2
        have K3 := Lib.hid (bsize_no g i _ u2 HBu2.out hi)
        go_wp2_with fail
        refine K3.out.mono ?_
        rintro e u3 ⟨rfl, hu3⟩
        have HBu3 := Lib.hid (HBu2.out.later hu3)
        have HW3' := Lib.hid (HW2'.out.trans (hu3.mono HW2'.out.size))
        clear hu3 K3
        have K4 := Lib.hid (btarget_no g i _ u3 HBu3.out hi)
        go_wp2_with fail
        refine K4.out.mono ?_
        rintro e u4 ⟨rfl, hu4⟩
        have HBu4 := Lib.hid (HBu3.out.later hu4)
        have HW4' := Lib.hid (HW3'.out.trans (hu4.mono HW3'.out.size))
        clear hu4 K4
        have K5 := Lib.hid (bnames_no g i _ u4 HBu4.out hi)
        go_wp2_with fail
        refine K5.out.mono ?_
        rintro e u5 ⟨A5, c5, rfl, _, _, _, hu5⟩
        have HBu5 := Lib.hid (HBu4.out.later hu5)
        have HW5' := Lib.hid (HW4'.out.trans (hu5.mono HW4'.out.size))
        clear hu5 K5
        have K6 := Lib.hid (bread_zero g i _ u5 HBu5.out hi)
        go_wp2_with fail
        refine K6.out.mono ?_
        rintro e u6 ⟨rfl, hu6⟩
        have HW6' := Lib.hid (HW5'.out.trans (hu6.mono HW5'.out.size))
        clear hu6 K6
        go_wp2_with fail
        go_ret
        exact ⟨rfl, HW6'.out⟩
end Go.Proofs.YthpnmkfgodmnfaaDoor.tre
