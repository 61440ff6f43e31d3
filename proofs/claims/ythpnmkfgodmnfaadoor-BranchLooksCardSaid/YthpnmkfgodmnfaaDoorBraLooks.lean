/- What the law BranchLooks answers: true. Conditions: the node is one that was read, and the text; the library's MaxLen holds a number. -/
import Derived.Test.YthpnmkfgodmnfaaDoorBraEntry
namespace Go.Proofs.YthpnmkfgodmnfaaDoor.tre
set_option maxRecDepth 100000
open Go.RowKit Go.Proofs.YthpnmkfgodmnfaaDoor.words Go.Proofs.YthpnmkfgodmnfaaDoor.ext Go.Proofs.YthpnmkfgodmnfaaDoor.name

theorem infoText : (Tryd.prog.info? 9).map (fun i => (i.zero, i.size, i.bytes)) = some (some (.string ⟨#[]⟩), 1, 16) := by kernel_rfl
def Looked (x : Nd) (k : Nat) (y : ByteArray) (w : World) (e : Ending) (w' : World) : Prop :=
  ((∃ q : Nat, x.N[q]? = some y ∧ q < x.I.length ∧ e = .returned (.tuple #[.int .i64 ((k + 1 + countL (x.I.take q) : Nat) : Int), .bool true])) ∨ (e = .returned (.tuple #[.int .i64 0, .bool false]) ∧ ∀ j : Nat, x.N[j]? ≠ some y)) ∧ Below w.heap.size w w'
theorem looked_any (g k : Nat) (n x : Nd) (y : ByteArray) (w : World) (h : Brn w w.heap.size g (flatN 0 n)) (hx : (preN n)[k]? = some x) (ho : oneB x = true) :
    Calls Tryd.prog 30 #[.pointer (some ⟨g, 0, none⟩), .int .i64 (k : Int), .string y] w (Looked x k y w) := by
  obtain ⟨h1, h2, _⟩ := one_right ho
  have hl : (entOf k x).ids.length = x.I.length := kidsL_length _ _
  have hN : (entOf k x).x.N = x.N := alone_N x
  refine (blook_yes g k _ _ y w h (flat_at hx) (by rw [hN]; exact h1) (by rw [hl, hN]; exact h2.symm)).mono fun e w' ⟨hh, hb⟩ => ⟨?_, hb⟩
  rw [hN] at hh
  rcases hh with ⟨q, id, e1, e2, e3⟩ | ⟨e1, e2⟩
  · have hq : q < x.I.length := by rw [← h2]; exact (List.getElem?_eq_some_iff.1 e1).1
    have e4 := kidsL_at (k := k + 1) hq
    rw [show (entOf k x).ids = kidsL (k + 1) x.I from rfl, e4] at e2
    obtain rfl := Option.some.inj e2
    exact .inl ⟨q, e1, hq, e3⟩
  · exact .inr ⟨e1, e2⟩

set_option maxHeartbeats 6400000 in
theorem law_looks (n : Nd) (r : Raw) (s : ByteArray) (i : Int) (m : Int) (w : World) (hN : NdAt w w.heap.size n r) (hm : w.cell? ⟨0, 0, none⟩ = some (.int .i64 m)) (hss : s.size ≤ 140737488355328) :
    Calls Tryd.prog 7 #[ndV n r, .string s, .int .i64 i] w fun e w' => e = .returned (.bool true) ∧ Below w.heap.size w w' := by
  obtain ⟨W1, hW1⟩ : ∃ W1, W1 = w.alloc (.cells (rawCells n r) 26) := ⟨_, rfl⟩
  have hb1 : Below w.heap.size w W1 := by rw [hW1]; exact (Below.refl _ _).alloc (Nat.le_refl _) _
  have hx1 : Box W1 w.heap.size n r := by rw [hW1]; exact Box.new w n r
  have HX1 := Lib.hid hx1
  have HN1 := Lib.hid (hN.later hb1)
  have HM1 := Lib.hid (below_cell hm hb1)
  have HB1 := Lib.hid hb1
  unfold rawCells at hW1
  have HW1 := Lib.hid hW1
  have HTm := Lib.hid hN.tame
  clear hN hm hW1 hb1 hx1
  unfold ndV rawCells
  go_enter Tryd.func7, Tryd.ntmps7
  go_upto_region 1 with fail
  rw [← HW1.out]
  go_wp2_with fail
  refine (bspeaks_any m W1 HM1.out).mono ?_
  rintro e w2 ⟨rfl, hb2⟩
  have HX2 := Lib.hid (HX1.out.below hb2)
  have HN2 := Lib.hid (HN1.out.later hb2)
  have HM2 := Lib.hid (below_cell HM1.out hb2)
  have HB2 := Lib.hid (HB1.out.trans (hb2.mono HB1.out.size))
  clear hb2 HX1 HN1 HM1 HB1 HW1
  obtain ⟨b0, b1, b2, b3, b4, b5, b6⟩ := HX2.out.cells
  rcases hsm : smallB n with _ | _
  · have hs := small_is 0 n r w2 HN2.out (by rw [hsm]; rfl)
    unfold ndV rawCells at hs
    have HS := Lib.hid hs
    clear hs hsm
    go_wp2_with fail
    refine HS.out.mono ?_
    rintro e w3 ⟨rfl, hb3⟩
    have HB3 := Lib.hid (HB2.out.trans (hb3.mono HB2.out.size))
    clear hb3 HS HB2 HX2 HN2 HM2 b0 b1 b2 b3 b4 b5 b6
    go_wp2_with fail
    go_ret
    exact ⟨rfl, HB3.out⟩
  have hs := small_is 1 n r w2 HN2.out (by rw [hsm]; rfl)
  unfold ndV rawCells at hs
  have HS := Lib.hid hs
  have Hsm := Lib.hid hsm
  clear hs hsm
  go_wp2_with fail
  refine HS.out.mono ?_
  rintro e w3 ⟨rfl, hb3⟩
  have HX3 := Lib.hid (HX2.out.below hb3)
  have HN3 := Lib.hid (HN2.out.later hb3)
  have HM3 := Lib.hid (below_cell HM2.out hb3)
  have HB3 := Lib.hid (HB2.out.trans (hb3.mono HB2.out.size))
  clear hb3 HS HB2 HX2 HN2 HM2 b0 b1 b2 b3 b4 b5 b6
  obtain ⟨b0, b1, b2, b3, b4, b5, b6⟩ := HX3.out.cells
  have hdp := smallB_depth Hsm.out
  have htr := tree_same Hsm.out HTm.out
  have hrr := refright_node n r w3 HN3.out (by omega)
  unfold ndV rawCells at hrr
  rcases htb : refB n with _ | _
  · rw [htb] at hrr
    have HRR := Lib.hid hrr
    clear hrr htb htr
    go_wp2_with fail
    refine HRR.out.mono ?_
    rintro e w4 ⟨rfl, hb4⟩
    have HB4 := Lib.hid (HB3.out.trans (hb4.mono HB3.out.size))
    clear hb4 HRR HB3 HX3 HN3 HM3 b0 b1 b2 b3 b4 b5 b6
    go_wp2_with fail
    go_ret
    exact ⟨rfl, HB4.out⟩
  rw [htb] at hrr htr
  have HOk := Lib.hid (okay_of Hsm.out HTm.out htr)
  have HRR := Lib.hid hrr
  have Htr := Lib.hid htr
  clear hrr htb htr
  go_wp2_with fail
  refine HRR.out.mono ?_
  rintro e w4 ⟨rfl, hb4⟩
  have HX4 := Lib.hid (HX3.out.below hb4)
  have HN4 := Lib.hid (HN3.out.later hb4)
  have HM4 := Lib.hid (below_cell HM3.out hb4)
  have HB4 := Lib.hid (HB3.out.trans (hb4.mono HB3.out.size))
  clear hb4 HRR HB3 HX3 HN3 HM3 b0 b1 b2 b3 b4 b5 b6
  by_cases h2 : 200 < s.size
  · have g2 : (200 : Int) < (s.size : Int) := by omega
    go_wp2_with fail
    go_ret
    exact ⟨rfl, HB4.out⟩
  have g2 : ¬ (200 : Int) < (s.size : Int) := by omega
  have hs2 : s.size ≤ 200 := by omega
  clear h2
  obtain ⟨b0, b1, b2, b3, b4, b5, b6⟩ := HX4.out.cells
  have hnew := new_yes n r m w4 HN4.out HM4.out (by omega) Htr.out HOk.out.cc (by have := HOk.out.cnt; omega)
  unfold ndV rawCells at hnew
  have HNew := Lib.hid hnew
  clear hnew
  go_wp2_with fail
  refine HNew.out.mono ?_
  rintro e w5 ⟨⟨g, rfl, hbr⟩, hb5⟩
  have HX5 := Lib.hid (HX4.out.below hb5)
  have HN5 := Lib.hid (HN4.out.later hb5)
  have HBr5 := Lib.hid hbr
  have HB5 := Lib.hid (HB4.out.trans (hb5.mono HB4.out.size))
  have hpre := pre_at w5 (depth n + 1) n r w5 (Nat.lt_succ_self _) HN5.out (Below.refl _ _) (by have := HOk.out.cnt; omega)
  unfold ndV rawCells at hpre
  have HPre := Lib.hid hpre
  clear hb5 hbr hpre HNew HB4 HX4 HN4 HM4 b0 b1 b2 b3 b4 b5 b6
  obtain ⟨b0, b1, b2, b3, b4, b5, b6⟩ := HX5.out.cells
  go_wp2_with fail
  refine HPre.out.mono ?_
  rintro e w6 ⟨A, c, rs, rfl, ho6, hn6, hb6⟩
  obtain ⟨bl, rfl, hbl, hcl⟩ := row_nd ho6
  have HNds := Lib.hid hn6
  have HCl := Lib.hid hcl
  have HBr6 := Lib.hid (HBr5.out.later hb6)
  have HB56 := Lib.hid hb6
  have HB6 := Lib.hid (HB5.out.trans (hb6.mono HB5.out.size))
  have hcnt := HOk.out.cnt
  obtain ⟨is, his, sz0, sz1, sz2⟩ := info_parts infoText
  clear ho6 hn6 hcl hb6 HPre HB5 HX5 HBr5 b0 b1 b2 b3 b4 b5 b6
  go_upto_region 9 with fail
  go_wp2_with fail
  go_loopw [49] (fun v49 wr => ∃ k : Nat, k ≤ count n ∧ v49 = .int .i64 k ∧ Hid (Below w6.heap.size w6 wr)) (fun v49 _ => count n - (intOf v49).toNat)
  case atStart => exact ⟨0, Nat.zero_le _, rfl, Lib.hid (Below.refl _ _)⟩
  case round =>
    obtain ⟨k, hk, rfl, HBr⟩ := hrel
    rename World => wo
    by_cases hlt : k < count n
    · obtain ⟨x, hx⟩ : ∃ x, (preN n)[k]? = some x := ⟨_, List.getElem?_eq_getElem (by rw [preN_length]; exact hlt)⟩
      obtain ⟨rx, hrx⟩ : ∃ rx, rx = rs k := ⟨_, rfl⟩
      have hc := HCl.out k x hx
      rw [← hrx] at hc
      have ld : ∀ j v, (rawCells x rx)[j]? = some v → wo.cell? ⟨bl, k * 7 + j, none⟩ = some v := fun j v hj => (HBr.out.cell (p := ⟨bl, k * 7 + j, none⟩) hbl).trans (hc j v hj)
      have c0 : wo.cell? ⟨bl, k * 7, none⟩ = some (.int .i64 x.K) := ld 0 _ rfl
      have c1 : wo.cell? ⟨bl, k * 7 + 1, none⟩ = some (.bool x.O) := ld 1 _ rfl
      have c2 : wo.cell? ⟨bl, k * 7 + 2, none⟩ = some (.slice rx.An x.N.length rx.cn) := ld 2 _ rfl
      have c3 : wo.cell? ⟨bl, k * 7 + 3, none⟩ = some (.slice rx.Ai x.I.length rx.ci) := ld 3 _ rfl
      have c4 : wo.cell? ⟨bl, k * 7 + 4, none⟩ = some (.int .i64 x.S) := ld 4 _ rfl
      have c5 : wo.cell? ⟨bl, k * 7 + 5, none⟩ = some (.slice rx.Ae x.E.length rx.ce) := ld 5 _ rfl
      have c6 : wo.cell? ⟨bl, k * 7 + 6, none⟩ = some (.string x.T) := ld 6 _ rfl
      have i0' : (0 : Int) ≤ (k : Int) := by omega
      have i1' : (k : Int) < (count n : Int) := by omega
      have hnx : NdAt wo wo.heap.size x rx := by
        have h := HNds.out k x hx
        rw [← hrx] at h
        exact (h.later HB56.out).later HBr.out
      obtain ⟨W13, hW13⟩ : ∃ W13, W13 = wo.alloc (.cells (rawCells x rx) 26) := ⟨_, rfl⟩
      have hb13 : Below wo.heap.size wo W13 := by rw [hW13]; exact (Below.refl _ _).alloc (Nat.le_refl _) _
      have hx13 : Box W13 wo.heap.size x rx := by rw [hW13]; exact Box.new wo x rx
      have hn13 := hnx.later hb13
      have HBr13 := Lib.hid ((HBr6.out.later HBr.out).later hb13)
      obtain ⟨hdx, hcx, hax⟩ := preN_in n x (List.mem_of_getElem? hx)
      have hone := allB_one (hax HOk.out.all)
      have hor := one_right hone
      have hfit := hn13.fit
      have hlN := hfit.ln
      have hcx2 := count_eq x
      have hcx3 := countL_len x.I
      have HX13 := Lib.hid hx13
      have HN13 := Lib.hid hn13
      have HB13 := Lib.hid hb13
      have HOne := Lib.hid hone
      have HOr := Lib.hid hor
      have HX := Lib.hid hx
      have hlies : Lies (W13.alloc (.cells #[] 9)) rx.An (x.N.map Value.string) := lies_txt ((hn13.later ((Below.refl _ _).alloc (Nat.le_refl _) (.cells #[] 9))).names)
      have HLi := Lib.hid hlies
      have HFz := Lib.hid hfit.zn
      have hNl : x.N.length ≤ 400 := by have := hor.2.1; omega
      unfold rawCells at hW13
      have HW13 := Lib.hid hW13
      clear hx hrx hc ld hnx hb13 hx13 hn13 hW13 hdx hcx hax hone hor hfit hlies hcx2 hcx3
      go_upto_region 12 with fail
      rw [← HW13.out]
      clear c0 c1 c2 c3 c4 c5 c6 HW13
      obtain ⟨b0, b1, b2, b3, b4, b5, b6⟩ := HX13.out.cells
      have cA2 : (W13.alloc (.cells #[] 9)).cell? ⟨wo.heap.size, 2, none⟩ = some (.slice rx.An x.N.length rx.cn) := (((Below.refl W13.heap.size W13).alloc (Nat.le_refl _) (.cells #[] 9)).cell (p := ⟨wo.heap.size, 2, none⟩) HX13.out.lt).trans b2
      go_wp2_with (at_builtin; first
        | (refine wpList_append_opt rfl (.tmp 54) (.tmp 56) 22 rfl W13.heap.size 9 is _ 1 16 Tryd.underlying22 his sz0 sz1 sz2 rfl (by omega) (.slice (some ⟨W13.heap.size, 0, none⟩) 0 0) 0 [] rfl (World.ownsRow_made W13 #[] 0 (Nat.le_refl _) (by decide) rfl) rx.An x.N.length rx.cn (x.N.map Value.string) HFz.out rfl (by simp) HLi.out (txtCells_one _) (by simp only [maxLen]; omega) (by omega) (by simp) ?_; intro v57 w57 hown57 hgrow57; rw [Nat.zero_add, List.nil_append] at hown57; obtain ⟨A57, c57, rfl, _, _⟩ := own_facts hown57; have hB57 := keep_grown (S := W13.heap.size) ((Below.refl W13.heap.size W13).alloc (Nat.le_refl _) (.cells #[] 9)) (World.ownsRow_made W13 #[] 0 (Nat.le_refl _) (by decide) rfl : (W13.alloc (.cells #[] 9)).ownsRow W13.heap.size 9 1 _ 0 []) hgrow57 (Nat.le_refl _) (Nat.le_refl _); have hs57 := hB57.size)
        | (refine wpList_append_own _ rfl (.tmp 57) (.tmp 59) 22 rfl W13.heap.size 9 is _ 1 16 Tryd.underlying22 his sz0 sz1 sz2 rfl (by omega) (.slice A57 x.N.length c57) x.N.length (x.N.map Value.string) rfl (row_later hown57 ((Below.refl _ _).alloc (Nat.le_refl _) _)) ⟨w57.heap.size, 0, none⟩ 1 1 [.string s] rfl rfl (fun i u hu => by rw [add_place, Nat.zero_add, cell_of_blk (heap_alloc_new w57 _) i, ← Array.getElem?_toList]; exact hu) (by simp [Value.oneCell']) (by simp only [maxLen]; omega) (by omega) (by simp; omega) ?_; intro v60 w60 hown60 hgrow60 hnil60; obtain ⟨A60, c60, rfl, _, _⟩ := own_facts hown60; have hB60 := keep_grown (S := W13.heap.size) (hB57.alloc hs57 (.cells #[.string s] 9)) (row_later hown57 ((Below.refl _ _).alloc (Nat.le_refl _) _)) hgrow60 (Nat.le_refl _) (Nat.le_refl _)))
      have hY : Txts w60 w60.heap.size A60 (x.N ++ [s]) := by
        have e : x.N.map Value.string ++ [.string s] = (x.N ++ [s]).map Value.string := by rw [List.map_append]; rfl
        rw [e] at hown60
        exact (own_txt hown60 fun i y hy => by
          rcases Nat.lt_or_ge i x.N.length with h | h
          · rw [List.getElem?_append_left h] at hy
            exact (HN13.out.names i y hy).2
          · rw [List.getElem?_append_right h] at hy
            have := List.mem_singleton.1 (List.mem_of_getElem? hy)
            rw [this]; omega).txts fun b hb => hb.2
      have HY := Lib.hid hY
      have HB60 := Lib.hid hB60
      have HX60 := Lib.hid (HX13.out.below hB60)
      have HN60 := Lib.hid (HN13.out.later hB60)
      have HBr60 := Lib.hid ((HBr6.out.later HBr.out).later (HB13.out.trans (hB60.mono HB13.out.size)))
      have HBw60 := Lib.hid (HBr.out.trans ((HB13.out.trans (hB60.mono HB13.out.size)).mono HBr.out.size))
      clear hY hown57 hgrow57 hB57 hs57 hown60 hgrow60 hnil60 hB60 HB60 HX13 HN13 HB13 HLi HFz cA2 b0 b1 b2 b3 b4 b5 b6
      go_loopw [62] (fun v62 wr => ∃ j : Nat, j ≤ x.N.length + 1 ∧ v62 = .int .i64 j ∧ Hid (Below w60.heap.size w60 wr)) (fun v62 _ => x.N.length + 1 - (intOf v62).toNat)
      case atStart => exact ⟨0, Nat.zero_le _, rfl, Lib.hid (Below.refl _ _)⟩
      case round =>
        obtain ⟨j, hj, rfl, HBq⟩ := hrel
        by_cases hjt : j < x.N.length + 1
        · obtain ⟨y, hy⟩ : ∃ y, (x.N ++ [s])[j]? = some y := ⟨_, List.getElem?_eq_getElem (by simp; omega)⟩
          obtain ⟨⟨b60, o60, hA, hBb, cy⟩, hysz⟩ := (HY.out.keep HBq.out) j y hy
          subst hA
          have j0 : (0 : Int) ≤ (j : Int) := by omega
          have j1 : (j : Int) < ((x.N.length + 1 : Nat) : Int) := by omega
          have j1' : (j : Int) < (x.N.length : Int) + 1 := by omega
          have hbq6 : Below w6.heap.size w6 wr := HBw60.out.trans (HBq.out.mono HBw60.out.size)
          have JL := looked_any g k n x y wr (HBr60.out.later HBq.out) HX.out HOne.out
          have HJL := Lib.hid JL
          have Hy := Lib.hid hy
          clear hy JL
          go_wp2_with fail
          refine HJL.out.mono ?_
          rintro e w15 ⟨⟨q, hq1, hq2, rfl⟩ | ⟨rfl, hno⟩, hb15⟩
          · obtain ⟨M, hM⟩ : ∃ M, M = k + 1 + countL (x.I.take q) := ⟨_, rfl⟩
            rw [← hM]
            have HMq := Lib.hid hM
            clear hM
            have hbq15 : Below w60.heap.size w60 w15 := HBq.out.trans (hb15.mono HBq.out.size)
            have HX15 := Lib.hid (HX60.out.below hbq15)
            have JF := reffind_any x rx y w15 (HN60.out.later hbq15)
            unfold ndV rawCells at JF
            have HJF := Lib.hid JF
            have HBq15 := Lib.hid hbq15
            have HQ1 := Lib.hid hq1
            have HQ2 := Lib.hid hq2
            clear JF hb15 hbq15 HJL cy hq1 hq2
            obtain ⟨b0, b1, b2, b3, b4, b5, b6⟩ := HX15.out.cells
            go_wp2_with fail
            refine HJF.out.mono ?_
            rintro e w16 ⟨⟨q', rfl, hq'⟩ | ⟨rfl, hno⟩, hb16⟩
            · obtain rfl : q' = q := HOr.out.1.one hq' HQ1.out
              have hbq16 : Below w60.heap.size w60 w16 := HBq15.out.trans (hb16.mono HBq15.out.size)
              have JE := entry_any w5 w6 w16 n x bl c k q' rs HNds.out HB56.out hbl HCl.out (HBw60.out.trans (hbq16.mono HBw60.out.size)) HX.out (Nat.le_of_lt HQ2.out) hcnt
              rw [← HMq.out] at JE
              have HJE := Lib.hid JE
              have HBq16 := Lib.hid hbq16
              have q0 : (0 : Int) ≤ (q' : Int) := by omega
              have q1 : decide ((0 : Int) ≤ (q' : Int)) = true := by simp
              clear JE hb16 hbq16 hq' HJF b0 b1 b2 b3 b4 b5 b6 HX15 HBq15 HQ1 HQ2
              go_wp2_with fail
              refine HJE.out.mono ?_
              rintro e w17 ⟨rfl, hb17⟩
              have hbq17 : Below w60.heap.size w60 w17 := HBq16.out.trans (hb17.mono HBq16.out.size)
              obtain ⟨b0, b1, b2, b3, b4, b5, b6⟩ := (HX60.out.below hbq17).cells
              have HBq17 := Lib.hid hbq17
              clear hb17 hbq17 HJE HBq16
              by_cases hjn : j < x.N.length
              · have n0 : (j : Int) < (x.N.length : Int) := by omega
                have n1 : decide ((j : Int) < (x.N.length : Int)) = true := by simpa using hjn
                go_wp2_with fail
                go_roundw
                case rel => exact ⟨j + 1, by omega, by go_num, HBq17⟩
                case measure => simp [intOf]; omega
              · have n0 : ¬ (j : Int) < (x.N.length : Int) := by omega
                have n1 : decide ((j : Int) < (x.N.length : Int)) = false := by simpa using hjn
                go_wp2_with fail
                go_roundw
                case rel => exact ⟨j + 1, by omega, by go_num, HBq17⟩
                case measure => simp [intOf]; omega
            · exact (hno q HQ1.out).elim
          · have hjn : ¬ j < x.N.length := fun h => by
              have e := Hy.out
              rw [List.getElem?_append_left h] at e
              exact hno j e
            have hbq15 : Below w60.heap.size w60 w15 := HBq.out.trans (hb15.mono HBq.out.size)
            have HX15 := Lib.hid (HX60.out.below hbq15)
            have JF := reffind_any x rx y w15 (HN60.out.later hbq15)
            unfold ndV rawCells at JF
            have HJF := Lib.hid JF
            have HBq15 := Lib.hid hbq15
            have HNo := Lib.hid hno
            clear JF hb15 hbq15 HJL cy hno
            obtain ⟨b0, b1, b2, b3, b4, b5, b6⟩ := HX15.out.cells
            go_wp2_with fail
            refine HJF.out.mono ?_
            rintro e w16 ⟨⟨q', rfl, hq'⟩ | ⟨rfl, _⟩, hb16⟩
            · exact (HNo.out q' hq').elim
            · have hbq16 : Below w60.heap.size w60 w16 := HBq15.out.trans (hb16.mono HBq15.out.size)
              have HBq16 := Lib.hid hbq16
              have n0 : ¬ (j : Int) < (x.N.length : Int) := by omega
              have n1 : decide ((j : Int) < (x.N.length : Int)) = false := by simpa using hjn
              clear b0 b1 b2 b3 b4 b5 b6 hb16 HJF HX15 HBq15
              obtain ⟨b0, b1, b2, b3, b4, b5, b6⟩ := (HX60.out.below hbq16).cells
              clear hbq16
              go_wp2_with fail
              go_roundw
              case rel => exact ⟨j + 1, by omega, by go_num, HBq16⟩
              case measure => simp [intOf]; omega
        · obtain rfl : j = x.N.length + 1 := by omega
          have HBk := Lib.hid (HBw60.out.trans (HBq.out.mono HBw60.out.size))
          clear HBq HY HX60 HN60 HBr60 HBw60
          go_wp2_with fail
          go_roundw
          case rel => exact ⟨k + 1, by omega, by go_num, HBk⟩
          case measure => simp [intOf]; omega
    · obtain rfl : k = count n := by omega
      have HBr7 := Lib.hid (HBr6.out.later HBr.out)
      have HBw := Lib.hid (HB6.out.trans (HBr.out.mono HB6.out.size))
      by_cases h0 : 0 ≤ i
      · by_cases h1 : i < (count n : Int)
        · have g0 : decide (0 ≤ i) = true := by simpa using h0
          have g1 : decide (i < (count n : Int)) = true := by simpa using h1
          obtain ⟨iN, rfl⟩ : ∃ iN : Nat, i = iN := ⟨i.toNat, by omega⟩
          obtain ⟨x, hx⟩ : ∃ x, (preN n)[iN]? = some x := ⟨_, List.getElem?_eq_getElem (by rw [preN_length]; omega)⟩
          have JL := Lib.hid (looked_any g iN n x s wo HBr7.out hx (allB_one ((preN_in n x (List.mem_of_getElem? hx)).2.2 HOk.out.all)))
          clear hx
          go_wp2_with fail
          refine JL.out.mono ?_
          rintro e u1 ⟨⟨q, _, _, rfl⟩ | ⟨rfl, _⟩, hu1⟩
          · have HBe := Lib.hid (HBw.out.trans (hu1.mono HBw.out.size))
            clear hu1
            go_wp2_with fail
            go_ret
            exact ⟨rfl, HBe.out⟩
          · have HBe := Lib.hid (HBw.out.trans (hu1.mono HBw.out.size))
            clear hu1
            go_wp2_with fail
            go_ret
            exact ⟨rfl, HBe.out⟩
        · have g0 : decide (0 ≤ i) = true := by simpa using h0
          have g1 : decide (i < (count n : Int)) = false := by simpa using h1
          have hi : i < 0 ∨ ((flatN 0 n).length : Int) ≤ i := .inr (by rw [flatN_length]; omega)
          have JL := Lib.hid (blook_no g i _ s wo HBr7.out hi)
          go_wp2_with fail
          refine JL.out.mono ?_
          rintro e u1 ⟨rfl, hu1⟩
          have HBe := Lib.hid (HBw.out.trans (hu1.mono HBw.out.size))
          clear hu1 hi
          go_wp2_with fail
          go_ret
          exact ⟨rfl, HBe.out⟩
      · have g0 : decide (0 ≤ i) = false := by simpa using h0
        have hi : i < 0 ∨ ((flatN 0 n).length : Int) ≤ i := .inl (by omega)
        have JL := Lib.hid (blook_no g i _ s wo HBr7.out hi)
        go_wp2_with fail
        refine JL.out.mono ?_
        rintro e u1 ⟨rfl, hu1⟩
        have HBe := Lib.hid (HBw.out.trans (hu1.mono HBw.out.size))
        clear hu1 hi
        go_wp2_with fail
        go_ret
        exact ⟨rfl, HBe.out⟩
end Go.Proofs.YthpnmkfgodmnfaaDoor.tre
