/- What the image's reference reads of a file. Condition: a text of a hundred thousand bytes at most. -/
import Derived.Test.YtapgagfeghfooaaDoorJImaGetFew
namespace Go.Proofs.YtapgagfeghfooaaDoor.ima
set_option maxRecDepth 100000
open Go.RowKit Go.Proofs.YtapgagfeghfooaaDoor.words Go.Proofs.YtapgagfeghfooaaDoor.ext Go.Proofs.YtapgagfeghfooaaDoor.name Go.Proofs.YtapgagfeghfooaaDoor.tre

theorem infoExt2 : (Tryd.prog.info? 58).map (fun i => (i.zero, i.size, i.bytes)) = some (some (.agg #[.int .i64 0, .string ⟨#[]⟩]), 2, 24) := by kernel_rfl
/-- The node's box, and the row of its extents so far. -/
structure FileIn (w : World) (g : Nat) (q : Int) (E : List Ex) (v : Value) (W : World) : Prop where
  m : GotM w g W
  box : W.heap[g + 2]? = some (.cells #[.int .i64 1, .bool false, .slice none 0 0, .slice none 0 0, .int .i64 q, v, .string ⟨#[]⟩] 27 (0, 0))
  own : W.ownsRow (g + 3) 58 2 v E.length (exCells E)
theorem FileIn.alloc {w W : World} {g : Nat} {q : Int} {E : List Ex} {v : Value} (h : FileIn w g q E v W) (o : Obj) : FileIn w g q E v (W.alloc o) := by
  have hb : Below W.heap.size W (W.alloc o) := (Below.refl _ _).alloc (Nat.le_refl _) o
  exact ⟨h.m.later hb, (hb.block _ (lt_of_some h.box)).trans h.box, h.own.alloc o⟩
theorem FileIn.drew {w W : World} {g : Nat} {q : Int} {E : List Ex} {v : Value} (h : FileIn w g q E v W) : FileIn w g q E v W.drew :=
  ⟨h.m.later (Below.refl _ _).drew, h.box, h.own⟩
theorem FileIn.ne {w W : World} {g : Nat} {q : Int} {E : List Ex} {v : Value} (h : FileIn w g q E v W) : ∀ b, b < g + 3 → v.ownBlock ≠ some b := fun b hb e => by
  have := (h.own.lt b e).1
  omega
/-- Behind an append the box stands as it stood. -/
theorem FileIn.stay {w W W' : World} {g : Nat} {q : Int} {E : List Ex} {v : Value} (h : FileIn w g q E v W) (hg : W.grownBy W' v.ownBlock) : W'.heap[g + 2]? = some (.cells #[.int .i64 1, .bool false, .slice none 0 0, .slice none 0 0, .int .i64 q, v, .string ⟨#[]⟩] 27 (0, 0)) :=
  (hg.block _ (lt_of_some h.box) (h.ne _ (by omega)).symm).trans h.box
theorem FileIn.put {w W W' : World} {g : Nat} {q : Int} {E : List Ex} {v v' : Value} {x : Ex} (h : FileIn w g q E v W) (hg : W.grownBy W' v.ownBlock) (ho : W'.ownsRow (g + 3) 58 2 v' (E.length + 1) (exCells E ++ [.int .i64 x.O, .string x.D])) :
    FileIn w g q (E ++ [x]) v' (W'.setCell ⟨g + 2, 5, none⟩ v') := by
  have hgs := h.m.size
  have hans : W'.heap[g]? = some (.cells got0 54 (0, 0)) := (hg.block _ (lt_of_some h.m.ans) (h.ne _ (by omega)).symm).trans h.m.ans
  have hnon : W'.heap[g + 1]? = some (.cells gotM 54 (0, 0)) := (hg.block _ (lt_of_some h.m.non) (h.ne _ (by omega)).symm).trans h.m.non
  have hbel : Below w.heap.size w W' := keep_grown h.m.below h.own hg (by omega) (Nat.le_refl _)
  have hbox := h.stay hg
  refine ⟨⟨by rw [heap_setCell_other _ _ _ _ (by show g ≠ g + 2; omega)]; exact hans, by rw [heap_setCell_other _ _ _ _ (by show g + 1 ≠ g + 2; omega)]; exact hnon, hbel.setCell (p := ⟨g + 2, 5, none⟩) (by show w.heap.size ≤ g + 2; omega) _, hgs⟩, ?_, ?_⟩
  · rw [heap_setCell_same W' (g + 2) 5 _ _ v' hbox]
    rfl
  · have h2 : W'.ownsRow (g + 3) 58 2 v' (E ++ [x]).length (exCells (E ++ [x])) := by
      rw [List.length_append]
      have : exCells (E ++ [x]) = exCells E ++ [.int .i64 x.O, .string x.D] := by unfold exCells; rw [List.flatMap_append]; rfl
      rw [this]
      exact ho
    exact own_setCell (p := ⟨g + 2, 5, none⟩) h2 (fun e => by have h3 : g + 3 ≤ g + 2 := (h2.lt _ e).1; omega) _
theorem numB4 (s : ByteArray) (p : Nat) : -1 ≤ numB s p 4 ∧ numB s p 4 < 4294967296 := by
  unfold numB
  split
  · have h := num_lt 4 ((s.data.toList.drop p).take 4) (by have hl : s.data.toList.length = s.size := rfl; rw [List.length_take, List.length_drop, hl]; omega)
    omega
  · omega
def fileR (s : ByteArray) : Option (List Ex × List UInt8) := if numB s 5 4 < 0 then none else exP (numB s 5 4).toNat (s.data.toList.drop 9)
theorem exP_no {s : ByteArray} {p k : Nat} (h : numB s (p + 4) 4 < 0 ∨ (s.size : Int) < (p : Int) + 8 + numB s (p + 4) 4) : exP (k + 1) (s.data.toList.drop p) = none := by
  have hl : s.data.toList.length = s.size := rfl
  rw [exP]
  unfold takeP textP takeP
  by_cases h4 : 4 ≤ (s.data.toList.drop p).length
  · rw [if_pos h4]
    rw [List.length_drop, hl] at h4
    by_cases h8 : p + 4 + 4 ≤ s.size
    · rw [numB_yes h8] at h
      simp only [List.drop_drop]
      rw [if_pos (by rw [List.length_drop, hl]; omega)]
      simp only
      rw [if_neg (by simp only [List.length_drop, hl]; omega)]
    · simp only [List.drop_drop]
      rw [if_neg (by rw [List.length_drop, hl]; omega)]
  · rw [if_neg h4]
theorem exP_yes {s : ByteArray} {p k z : Nat} (h1 : numB s (p + 4) 4 = (z : Int)) (h2 : p + 8 + z ≤ s.size) :
    exP (k + 1) (s.data.toList.drop p) = (exP k (s.data.toList.drop (p + 8 + z))).map fun R => (⟨numB s p 4, s.extract (p + 8) (p + 8 + z)⟩ :: R.1, R.2) := by
  have hl : s.data.toList.length = s.size := rfl
  have hz : num ((s.data.toList.drop (p + 4)).take 4) = z := by
    rw [numB_yes (by omega)] at h1
    omega
  rw [numB_yes (show p + 4 ≤ s.size by omega), exP]
  unfold takeP textP takeP
  rw [if_pos (by rw [List.length_drop, hl]; omega)]
  simp only [List.drop_drop]
  rw [if_pos (by rw [List.length_drop, hl]; omega)]
  simp only
  rw [hz, if_pos (by simp only [List.length_drop, hl]; omega)]
  have hx : mkB ((s.data.toList.drop (p + 4 + 4)).take z) = s.extract (p + 8) (p + 8 + z) := by
    have h := (cut_list s (p + 8) z h2).1
    have : mkB (s.extract (p + 8) (p + 8 + z)).data.toList = s.extract (p + 8) (p + 8 + z) := rfl
    rw [h] at this
    exact this
  simp only
  rw [hx, List.drop_drop, show p + 4 + 4 + z = p + 8 + z by omega]
  rcases exP k (s.data.toList.drop (p + 8 + z)) with _ | ⟨E, l⟩ <;> rfl
theorem ext_in {w W : World} {base : Nat} {e : TypeId} {A : Option Addr} {n c : Nat} {L : List Ex} (hn : n = L.length) (h : W.ownsRow base e 2 (.slice A n c) n (exCells L))
    (hL : ∀ x ∈ L, -9223372036854775808 ≤ x.O ∧ x.O ≤ 9223372036854775807 ∧ x.D.size ≤ 140737488355328) (hb : w.heap.size ≤ base) : ExtIn W (Fresh w W) A L := fun i x hx => by
  obtain ⟨⟨b, off, rfl, h2, h3, h4⟩, h5⟩ := Exts.of_own hn h hL i x hx
  exact ⟨⟨b, off, rfl, ⟨Nat.le_trans hb (h.lt b rfl).1, h2⟩, h3, h4⟩, h5⟩
theorem own_set8 {w : World} {base : Nat} {e : TypeId} {size n g : Nat} {v : Value} {xs : List Value} (h : w.ownsRow base e size v n xs) (hne : v.ownBlock ≠ some g) (u0 u1 u2 u3 u4 u5 u6 u7 : Value) : (set8 w g u0 u1 u2 u3 u4 u5 u6 u7).ownsRow base e size v n xs :=
  own_setCell (p := ⟨g, 7, none⟩) (own_setCell (p := ⟨g, 6, none⟩) (own_setCell (p := ⟨g, 5, none⟩) (own_setCell (p := ⟨g, 4, none⟩) (own_setCell (p := ⟨g, 3, none⟩) (own_setCell (p := ⟨g, 2, none⟩) (own_setCell (p := ⟨g, 1, none⟩) (own_setCell (p := ⟨g, 0, none⟩) h hne _) hne _) hne _) hne _) hne _) hne _) hne _) hne _
def FileOut (s : ByteArray) (q1 : Int) (R : Option (List Ex × List UInt8)) (w : World) (e : Ending) (w' : World) : Prop :=
  ((R = none ∧ e = .returned gotN) ∨ (∃ (E : List Ex) (p : Nat) (pI : Int) (r : Raw), R = some (E, s.data.toList.drop p) ∧ p ≤ s.size ∧ pI = (p : Int) ∧ e = .returned (gotV (.mk 1 false [] [] q1 E ⟨#[]⟩) r pI) ∧ NdIn w' (Fresh w w') (.mk 1 false [] [] q1 E ⟨#[]⟩) r)) ∧ Below w.heap.size w w'
set_option maxHeartbeats 12800000 in
theorem get_file (s : ByteArray) (d : Int) (w : World) (h1 : ¬ 15 < d) (h2 : 0 < s.size) (hsm : s.size ≤ 100000) (hkk : s[0].toNat = 1) (q1 qm : Int) (hq1 : numB s 1 4 = q1) (hqm : numB s 5 4 = qm) (R : Option (List Ex × List UInt8)) (hR : fileR s = R) :
    Calls Tryd.prog 23 #[.string s, .int .i64 d] w (FileOut s q1 R w) := by
  obtain ⟨iX, hiX, zX0, zX1, zX2⟩ := info_parts infoExt2
  obtain ⟨W2, hW2⟩ : ∃ W2, W2 = (w.alloc (.cells got0 54)).alloc (.cells gotM 54) := ⟨_, rfl⟩
  have hG : GotM w w.heap.size W2 := by rw [hW2]; exact GotM.start w
  have HG := Lib.hid hG
  obtain ⟨g, hg⟩ : ∃ g, g = w.heap.size := ⟨_, rfl⟩
  have hs2 : W2.heap.size = w.heap.size + 2 := by rw [hW2]; simp
  unfold got0 gotM at hW2
  have HW2 := Lib.hid hW2
  clear hG hW2
  go_enter Tryd.func23, Tryd.ntmps23
  go_upto_region 2 with fail
  rw [← HW2.out]
  rw [← hg] at HG hs2 ⊢
  clear HW2 hg
  have l1 : ¬ (s.size : Int) < 1 := by omega
  have l2 : (0 : Int) < (s.size : Int) := by omega
  have hu : (s[0].toNat : Int) < 256 := by have := s[0].toNat_lt; omega
  go_upto_region 6 with fail
  obtain ⟨W3, hW3⟩ : ∃ W3, W3 = W2.alloc (.cells #[.int .i64 1, .bool false, .slice none 0 0, .slice none 0 0, .int .i64 0, .slice none 0 0, .string ⟨#[]⟩] 27) := ⟨_, rfl⟩
  rw [← hW3]
  have hb3 : Below W2.heap.size W2 W3 := by rw [hW3]; exact (Below.refl _ _).alloc (Nat.le_refl _) _
  have hk3 : W3.heap[W2.heap.size]? = some (.cells #[.int .i64 1, .bool false, .slice none 0 0, .slice none 0 0, .int .i64 0, .slice none 0 0, .string ⟨#[]⟩] 27 (0, 0)) := by rw [hW3]; exact heap_alloc_new W2 _
  rw [hs2] at hk3
  replace HG := Lib.hid (HG.out.later hb3)
  have HK := Lib.hid hk3
  clear hW3 hb3 hk3 hs2 hu
  clear hkk
  have HN1 := Lib.hid (show Calls Tryd.prog 49 #[.string s, .int .i64 1, .int .i64 4] W3 _ from number_any s 1 4 W3 (by decide) (by decide))
  rw [hq1] at HN1
  have hb1 := numB4 s 1
  rw [hq1] at hb1
  obtain ⟨hb10, hb11⟩ := hb1
  have b0 := cell_of_blk HK.out 0
  have b1 := cell_of_blk HK.out 1
  have b2 := cell_of_blk HK.out 2
  have b3 := cell_of_blk HK.out 3
  have b4 := cell_of_blk HK.out 4
  have b5 := cell_of_blk HK.out 5
  have b6 := cell_of_blk HK.out 6
  have f4 := free_of_blk HK.out 4
  obtain ⟨W5, hW5⟩ : ∃ W5, W5 = W3.setCell ⟨g + 2, 4, none⟩ (.int .i64 q1) := ⟨_, rfl⟩
  have hF5 : FileIn w g q1 [] (.slice none 0 0) W5 := by
    have hsz := HG.out.size
    refine ⟨⟨by rw [hW5, heap_setCell_other _ _ _ _ (by show g ≠ g + 2; omega)]; exact HG.out.ans, by rw [hW5, heap_setCell_other _ _ _ _ (by show g + 1 ≠ g + 2; omega)]; exact HG.out.non, by rw [hW5]; exact HG.out.below.setCell (p := ⟨g + 2, 4, none⟩) (by show w.heap.size ≤ g + 2; omega) _, hsz⟩, ?_, World.ownsRow_nil _ _ _ _⟩
    rw [hW5, heap_setCell_same W3 (g + 2) 4 _ _ (.int .i64 q1) HK.out]
    rfl
  have HF5 := Lib.hid hF5
  have HW5 := Lib.hid hW5
  have HN5 := Lib.hid (show Calls Tryd.prog 49 #[.string s, .int .i64 5, .int .i64 4] W5 _ from number_any s 5 4 W5 (by decide) (by decide))
  rw [hqm] at HN5
  have hbm := numB4 s 5
  rw [hqm] at hbm
  obtain ⟨hbm0, hbm1⟩ := hbm
  have HQm := Lib.hid hqm
  have HR := Lib.hid hR
  clear hW5 hF5 HG HK hq1 hqm hR zX0 zX1 zX2
  obtain ⟨iX2, hiX2, zX0, zX1, zX2⟩ := info_parts infoExt2
  go_wp2_with fail
  refine HN1.out.mono ?_
  rintro e w4 ⟨rfl, rfl⟩
  go_upto_region 8 with fail
  rw [← HW5.out]
  clear HW5 HN1 b0 b1 b2 b3 b4 b5 b6 f4
  go_wp2_with fail
  refine HN5.out.mono ?_
  rintro e w6 ⟨rfl, rfl⟩
  clear HN5
  by_cases hneg : qm < 0
  · have HE := Lib.hid (show R = none by rw [← HR.out]; unfold fileR; rw [HQm.out, if_pos hneg])
    clear HR HQm
    obtain ⟨n0, n1, n2, n3, n4, n5, n6, n7⟩ := HF5.out.m.nons
    obtain ⟨a0, a1, a2, a3, a4, a5, a6, a7⟩ := HF5.out.m.anss
    have z0 := HF5.out.m.free 0
    have z1 := HF5.out.m.free 1
    have z2 := HF5.out.m.free 2
    have z3 := HF5.out.m.free 3
    have z4 := HF5.out.m.free 4
    have z5 := HF5.out.m.free 5
    have z6 := HF5.out.m.free 6
    have z7 := HF5.out.m.free 7
    have b0 := cell_of_blk HF5.out.box 0
    have b1 := cell_of_blk HF5.out.box 1
    have b2 := cell_of_blk HF5.out.box 2
    have b3 := cell_of_blk HF5.out.box 3
    have b4 := cell_of_blk HF5.out.box 4
    have b5 := cell_of_blk HF5.out.box 5
    have b6 := cell_of_blk HF5.out.box 6
    go_wp2_with fail
    obtain ⟨Wd, hWd, hbd, hkd⟩ := HF5.out.m.none
    have p0 := cell_of_blk hkd 0
    have p1 := cell_of_blk hkd 1
    have p2 := cell_of_blk hkd 2
    have p3 := cell_of_blk hkd 3
    have p4 := cell_of_blk hkd 4
    have p5 := cell_of_blk hkd 5
    have p6 := cell_of_blk hkd 6
    have p7 := cell_of_blk hkd 7
    unfold set8 at hWd
    unfold gotM at p0 p1 p2 p3 p4 p5 p6 p7
    rw [← hWd]
    exact bodyPost_ret (v := gotN) (by simp [results, Tryd.results23, go_sem, gotN, p0, p1, p2, p3, p4, p5, p6, p7]) rfl ⟨.inl ⟨HE.out, rfl⟩, hbd⟩
  · have HM := Lib.hid (show exP qm.toNat (s.data.toList.drop 9) = R by rw [← HR.out]; unfold fileR; rw [HQm.out, if_neg hneg])
    have H9 := Lib.hid (show 9 ≤ s.size by
      rcases Nat.lt_or_ge s.size 9 with h | h
      · have := HQm.out; rw [numB_no (by omega)] at this; omega
      · exact h)
    clear HR HQm
    have bb := cell_of_blk HF5.out.box 0
    clear bb
    go_wp2_with fail
    go_loopw [9, 7] (fun v9 v7 wr => ∃ (i p : Nat) (pI : Int) (E : List Ex) (v : Value), v9 = .int .i64 (i : Int) ∧ v7 = .int .i64 pI ∧ Hid (pI = (p : Int)) ∧ (i : Int) ≤ qm ∧ Hid (9 + 8 * i ≤ p ∧ p ≤ s.size) ∧ Hid (E.length = i) ∧ Hid (FileIn w g q1 E v wr) ∧ Hid (R = (exP (qm.toNat - i) (s.data.toList.drop p)).map fun Q => (E ++ Q.1, Q.2)) ∧ Hid (∀ x ∈ E, -9223372036854775808 ≤ x.O ∧ x.O ≤ 9223372036854775807 ∧ x.D.size ≤ 140737488355328)) (fun v _ _ => qm.toNat - (intOf v).toNat)
    case atStart => exact ⟨0, 9, 9, [], _, rfl, rfl, Lib.hid rfl, by omega, Lib.hid ⟨by omega, H9.out⟩, Lib.hid rfl, HF5, Lib.hid (by rw [← HM.out, Nat.sub_zero]; rcases exP qm.toNat (s.data.toList.drop 9) with _ | ⟨a, b⟩ <;> rfl), Lib.hid fun x hx => by cases hx⟩
    case round =>
      clear HF5 HM H9
      obtain ⟨i, p, pI, E, v, rfl, rfl, HP, hi, HL, HLen, HF, HX, HOk⟩ := hrel
      have hp0 : 0 ≤ pI := by have := HP.out; omega
      have hp1 : pI ≤ 100000 := by have := HP.out; have := HL.out; omega
      by_cases hlt : (i : Int) < qm
      · obtain ⟨qa, hqa⟩ : ∃ qa, numB s p 4 = qa := ⟨_, rfl⟩
        obtain ⟨qb, hqb⟩ : ∃ qb, numB s (p + 4) 4 = qb := ⟨_, rfl⟩
        have hA4 := numB4 s p
        have hB4 := numB4 s (p + 4)
        rw [hqa] at hA4
        rw [hqb] at hB4
        obtain ⟨hA40, hA41⟩ := hA4
        obtain ⟨hB40, hB41⟩ := hB4
        have HNa : Hid (Calls Tryd.prog 49 #[.string s, .int .i64 pI, .int .i64 4] wr fun e w' => e = .returned (.int .i64 qa) ∧ w' = wr) := Lib.hid (by
          have h := number_any s p 4 wr (by decide) (by have := HL.out; omega)
          rw [hqa, ← HP.out] at h
          exact h)
        have HNb : Hid (Calls Tryd.prog 49 #[.string s, .int .i64 (pI + 4), .int .i64 4] wr fun e w' => e = .returned (.int .i64 qb) ∧ w' = wr) := Lib.hid (by
          have h := number_any s (p + 4) 4 wr (by decide) (by have := HL.out; omega)
          rw [hqb, show ((p + 4 : Nat) : Int) = pI + 4 by have := HP.out; omega] at h
          exact h)
        have HQa := Lib.hid hqa
        have HQb := Lib.hid hqb
        have HK1 : Hid (qm.toNat - i = (qm.toNat - (i + 1)) + 1) := Lib.hid (by omega)
        have r0 : -9223372036854775808 ≤ pI + 4 := by omega
        have r1 : pI + 4 < 9223372036854775808 := by omega
        have r2 : -9223372036854775808 ≤ pI + 8 := by omega
        have r3 : pI + 8 < 9223372036854775808 := by omega
        have r4 : -9223372036854775808 ≤ pI + 8 + qb := by omega
        have r5 : pI + 8 + qb < 9223372036854775808 := by omega
        clear hqa hqb
        go_wp2_with fail
        refine HNa.out.mono ?_
        rintro e wa ⟨rfl, rfl⟩
        clear HNa
        go_wp2_with fail
        refine HNb.out.mono ?_
        rintro e wb ⟨rfl, rfl⟩
        clear HNb
        by_cases hn0 : qb < 0
        · have HE := Lib.hid (show R = none by rw [HX.out, HK1.out, exP_no (.inl (by rw [HQb.out]; exact hn0))]; rfl)
          obtain ⟨n0, n1, n2, n3, n4, n5, n6, n7⟩ := HF.out.m.nons
          obtain ⟨a0, a1, a2, a3, a4, a5, a6, a7⟩ := HF.out.m.anss
          have z0 := HF.out.m.free 0
          have z1 := HF.out.m.free 1
          have z2 := HF.out.m.free 2
          have z3 := HF.out.m.free 3
          have z4 := HF.out.m.free 4
          have z5 := HF.out.m.free 5
          have z6 := HF.out.m.free 6
          have z7 := HF.out.m.free 7
          have b0 := cell_of_blk HF.out.box 0
          have b1 := cell_of_blk HF.out.box 1
          have b2 := cell_of_blk HF.out.box 2
          have b3 := cell_of_blk HF.out.box 3
          have b4 := cell_of_blk HF.out.box 4
          have b5 := cell_of_blk HF.out.box 5
          have b6 := cell_of_blk HF.out.box 6
          go_wp2_with fail
          obtain ⟨Wd, hWd, hbd, hkd⟩ := HF.out.m.none
          have p0 := cell_of_blk hkd 0
          have p1 := cell_of_blk hkd 1
          have p2 := cell_of_blk hkd 2
          have p3 := cell_of_blk hkd 3
          have p4 := cell_of_blk hkd 4
          have p5 := cell_of_blk hkd 5
          have p6 := cell_of_blk hkd 6
          have p7 := cell_of_blk hkd 7
          unfold set8 at hWd
          unfold gotM at p0 p1 p2 p3 p4 p5 p6 p7
          rw [← hWd]
          exact bodyPost_ret (v := gotN) (by simp [results, Tryd.results23, go_sem, gotN, p0, p1, p2, p3, p4, p5, p6, p7]) rfl ⟨.inl ⟨HE.out, rfl⟩, hbd⟩
        · by_cases hn1 : (s.size : Int) < pI + 8 + qb
          · have HE := Lib.hid (show R = none by rw [HX.out, HK1.out, exP_no (.inr (by rw [HQb.out, ← HP.out]; exact hn1))]; rfl)
            obtain ⟨n0, n1, n2, n3, n4, n5, n6, n7⟩ := HF.out.m.nons
            obtain ⟨a0, a1, a2, a3, a4, a5, a6, a7⟩ := HF.out.m.anss
            have z0 := HF.out.m.free 0
            have z1 := HF.out.m.free 1
            have z2 := HF.out.m.free 2
            have z3 := HF.out.m.free 3
            have z4 := HF.out.m.free 4
            have z5 := HF.out.m.free 5
            have z6 := HF.out.m.free 6
            have z7 := HF.out.m.free 7
            have b0 := cell_of_blk HF.out.box 0
            have b1 := cell_of_blk HF.out.box 1
            have b2 := cell_of_blk HF.out.box 2
            have b3 := cell_of_blk HF.out.box 3
            have b4 := cell_of_blk HF.out.box 4
            have b5 := cell_of_blk HF.out.box 5
            have b6 := cell_of_blk HF.out.box 6
            go_wp2_with fail
            obtain ⟨Wd, hWd, hbd, hkd⟩ := HF.out.m.none
            have p0 := cell_of_blk hkd 0
            have p1 := cell_of_blk hkd 1
            have p2 := cell_of_blk hkd 2
            have p3 := cell_of_blk hkd 3
            have p4 := cell_of_blk hkd 4
            have p5 := cell_of_blk hkd 5
            have p6 := cell_of_blk hkd 6
            have p7 := cell_of_blk hkd 7
            unfold set8 at hWd
            unfold gotM at p0 p1 p2 p3 p4 p5 p6 p7
            rw [← hWd]
            exact bodyPost_ret (v := gotN) (by simp [results, Tryd.results23, go_sem, gotN, p0, p1, p2, p3, p4, p5, p6, p7]) rfl ⟨.inl ⟨HE.out, rfl⟩, hbd⟩
          · obtain ⟨z, hzq⟩ : ∃ z : Nat, qb = (z : Int) := ⟨qb.toNat, by omega⟩
            have hpz : p + 8 + z ≤ s.size := by have := HP.out; omega
            obtain ⟨t, ht⟩ : ∃ t, t = s.extract (p + 8) (p + 8 + z) := ⟨_, rfl⟩
            have hts : t.size ≤ 140737488355328 := by rw [ht, ByteArray.size_extract]; omega
            have hpi := HP.out
            have hsl : ∀ wx : World, (Instr.slice 9 (.string s) (some (.int .i64 (pI + 8))) (some (.int .i64 (pI + 8 + qb))) none).run Tryd.prog wx = .ok (.string t) wx := fun wx => by
              rw [run_slice_string_if (P := Tryd.prog) (w := wx) 9 s .i64 .i64 (pI + 8) (pI + 8 + qb) Tryd.underlying9, if_pos ⟨by omega, by omega⟩, if_pos ⟨by omega, by omega⟩, ht, show (pI + 8).toNat = p + 8 by omega, show (pI + 8 + qb).toNat = p + 8 + z by omega]
            have HX2 : Hid (R = (exP (qm.toNat - (i + 1)) (s.data.toList.drop (p + 8 + z))).map fun Q => ((E ++ [⟨qa, t⟩]) ++ Q.1, Q.2)) := Lib.hid (by
              rw [HX.out, HK1.out, exP_yes (by rw [HQb.out]; exact hzq) hpz, HQa.out, ← ht]
              rcases exP (qm.toNat - (i + 1)) (s.data.toList.drop (p + 8 + z)) with _ | ⟨E2, l2⟩
              · rfl
              · simp)
            have HP2 := Lib.hid (show pI + 8 + qb = ((p + 8 + z : Nat) : Int) by omega)
            have HL2 := Lib.hid (show 9 + 8 * (i + 1) ≤ p + 8 + z ∧ p + 8 + z ≤ s.size by have := HL.out; omega)
            have HOk2 : Hid (∀ x ∈ E ++ [⟨qa, t⟩], -9223372036854775808 ≤ x.O ∧ x.O ≤ 9223372036854775807 ∧ x.D.size ≤ 140737488355328) := Lib.hid fun x hx => by
              rcases List.mem_append.1 hx with hx | hx
              · exact HOk.out x hx
              · obtain rfl : x = ⟨qa, t⟩ := by simpa using hx
                exact ⟨by show -9223372036854775808 ≤ qa; omega, by show qa ≤ 9223372036854775807; omega, hts⟩
            have HLen2 := Lib.hid (show (E ++ [(⟨qa, t⟩ : Ex)]).length = i + 1 by rw [List.length_append, HLen.out]; rfl)
            have hEl : E.length ≤ 100000 := by have := HLen.out; have := HL.out; omega
            have hbz := lt_of_some HF.out.box
            have hgz : g + 3 ≤ wb.heap.size := by omega
            have b5 := cell_of_blk HF.out.box 5
            have b5o : ∀ o : Obj, (wb.alloc o).cell? ⟨g + 2, 5, none⟩ = some v := fun o => cell_of_blk (HF.out.alloc o).box 5
            have w8 : IntKind.i64.wrap (pI + 8) = pI + 8 := IntWalk.i64_in _ (by omega)
            have w9 : IntKind.i64.wrap (pI + 8 + qb) = pI + 8 + qb := IntWalk.i64_in _ (by omega)
            clear HX HOk ht hzq hpz hpi HQa HQb HK1 HP HL HLen
            go_upto_region 19 with fail
            go_region_law
              ((refine step_append_lies _ (by rfl) _ _ _ (by rfl) (g + 3) 58 iX2 _ 2 24 Tryd.underlying25 hiX2 zX0 zX1 zX2 rfl (by omega) v E.length (exCells E) (by rfl) ((HF.out.alloc _).drew.own)
                  ⟨wb.heap.size, 0, none⟩ 1 1 [.int .i64 qa, .string t] (by rfl) (by rfl) (World.news_of_block (cs := #[.int .i64 qa, .string t]) (t := 58) (fr := (0, 0)) (heap_alloc_new wb _)) (by simp [Value.oneCell'])
                  (by omega) (by simp only [maxLen]; omega) (by omega) (by simp; omega) (wb.heap.size + 1) (by simp) ?_; intro gg cap w1 hown1 hgrow hat hlt1; have hc1 := cell_of_blk ((HF.out.alloc _).drew.stay hgrow) 5; have hf1 := free_of_blk ((HF.out.alloc _).drew.stay hgrow) 5))
            all_goals
              have HFn := Lib.hid ((HF.out.alloc _).drew.put (x := ⟨qa, t⟩) hgrow hown1)
              clear hown1 hgrow hat hlt1 hc1 hf1 b5 b5o hsl w8 w9
              go_wp2_with fail
              go_roundw
              case rel => exact ⟨i + 1, p + 8 + z, pI + 8 + qb, E ++ [⟨qa, t⟩], _, by go_num, rfl, HP2, by omega, HL2, HLen2, HFn, HX2, HOk2⟩
              case measure => simp [intOf]; omega
      · obtain ⟨Ae, ce, rfl, hce, hze⟩ := own_facts HF.out.own
        have HR2 := Lib.hid (show R = some (E, s.data.toList.drop p) by rw [HX.out, show qm.toNat - i = 0 by omega]; show some (E ++ [], _) = _; rw [List.append_nil])
        have HKp := Lib.hid (show ∀ b, b < g + 3 → (Value.slice Ae E.length ce).ownBlock ≠ some b from HF.out.ne)
        have HOw := Lib.hid HF.out.own
        have hEl : E.length * 24 ≤ 140737488355328 := by have := HLen.out; have := HL.out; omega
        have hq63 : q1 ≤ 9223372036854775807 := by omega
        have hq64 : -9223372036854775808 ≤ q1 := by omega
        have HFit : Hid (Fit (.mk 1 false [] [] q1 E ⟨#[]⟩) ⟨none, 0, none, 0, Ae, ce⟩) := Lib.hid ⟨show (-9223372036854775808 : Int) ≤ 1 by decide, show (1 : Int) ≤ 9223372036854775807 by decide, hq64, hq63, show 0 ≤ 140737488355328 by decide, show 0 * 16 ≤ 140737488355328 by decide, show 0 * 112 ≤ 140737488355328 by decide, hEl, Nat.le_refl _, Nat.le_refl _, hce, fun _ => ⟨rfl, rfl⟩, fun _ => ⟨rfl, rfl⟩, hze⟩
        clear hEl hce hze
        obtain ⟨n0, n1, n2, n3, n4, n5, n6, n7⟩ := HF.out.m.nons
        obtain ⟨a0, a1, a2, a3, a4, a5, a6, a7⟩ := HF.out.m.anss
        have z0 := HF.out.m.free 0
        have z1 := HF.out.m.free 1
        have z2 := HF.out.m.free 2
        have z3 := HF.out.m.free 3
        have z4 := HF.out.m.free 4
        have z5 := HF.out.m.free 5
        have z6 := HF.out.m.free 6
        have z7 := HF.out.m.free 7
        have b0 := cell_of_blk HF.out.box 0
        have b1 := cell_of_blk HF.out.box 1
        have b2 := cell_of_blk HF.out.box 2
        have b3 := cell_of_blk HF.out.box 3
        have b4 := cell_of_blk HF.out.box 4
        have b5 := cell_of_blk HF.out.box 5
        have b6 := cell_of_blk HF.out.box 6
        go_wp2_with fail
        obtain ⟨Wd, hWd, hbd, hkd⟩ := HF.out.m.put (.int .i64 1) (.bool false) (.slice none 0 0) (.slice none 0 0) (.int .i64 q1) (.slice Ae E.length ce) (.string ⟨#[]⟩) (.int .i64 pI)
        have hod : Wd.ownsRow (g + 3) 58 2 (.slice Ae E.length ce) E.length (exCells E) := by rw [hWd]; exact own_set8 HOw.out (HKp.out g (by omega)) _ _ _ _ _ _ _ _
        have hnd : NdIn Wd (Fresh w Wd) (.mk 1 false [] [] q1 E ⟨#[]⟩) ⟨none, 0, none, 0, Ae, ce⟩ := .mk (fun _ => raw0) HFit.out (fun _ _ hx => (no_at hx).elim) (ext_in rfl hod HOk.out (by have := HF.out.m.size; omega)) (fun _ _ hx => (no_at hx).elim) (fun _ _ hx => (no_at hx).elim)
        have p0 := cell_of_blk hkd 0
        have p1 := cell_of_blk hkd 1
        have p2 := cell_of_blk hkd 2
        have p3 := cell_of_blk hkd 3
        have p4 := cell_of_blk hkd 4
        have p5 := cell_of_blk hkd 5
        have p6 := cell_of_blk hkd 6
        have p7 := cell_of_blk hkd 7
        unfold set8 at hWd
        rw [← hWd]
        exact bodyPost_ret (v := gotV (.mk 1 false [] [] q1 E ⟨#[]⟩) ⟨none, 0, none, 0, Ae, ce⟩ pI) (by simp [results, Tryd.results23, go_sem, gotV, p0, p1, p2, p3, p4, p5, p6, p7, Nd.K, Nd.O, Nd.N, Nd.I, Nd.S, Nd.E, Nd.T]) rfl ⟨.inr ⟨E, p, pI, _, HR2.out, HL.out.2, HP.out, rfl, hnd⟩, hbd⟩
end Go.Proofs.YtapgagfeghfooaaDoor.ima
