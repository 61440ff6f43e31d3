/- Two answers held against each other, by the program and by the reference. Conditions: their names were read. -/
import Derived.Test.YtkigkdiphhecaaaGreatTlSame
namespace Go.Proofs.YtkigkdiphhecaaaGreat.tal
set_option maxRecDepth 100000
open Go.RowKit Go.Proofs.YtkigkdiphhecaaaGreat.words

/-- Are two records' answers one? -/
def smB (r s : Rc) : Bool := decide (r.e = s.e ∧ r.rk = s.rk ∧ r.z = s.z ∧ r.wh = s.wh ∧ r.id = s.id ∧ r.x = s.x ∧ r.N = s.N ∧ r.fin = s.fin)
theorem int_no {a b : Int} (h : ¬ a = b) : (a == b) = false ∧ (a != b) = true := by simp [h]
theorem int_yes {a b : Int} (h : a = b) : (a == b) = true ∧ (a != b) = false := by simp [h]
theorem str_no {a b : ByteArray} (h : ¬ a = b) : (a.toList == b.toList) = false ∧ (a.toList != b.toList) = true := by rw [bne, to_list]; simp [h]
theorem str_yes {a b : ByteArray} (h : a = b) : (a.toList == b.toList) = true ∧ (a.toList != b.toList) = false := by rw [bne, to_list]; simp [h]
theorem bool_no {a b : Bool} (h : ¬ a = b) : (a == b) = false ∧ (a != b) = true := by simp [h]
theorem bool_yes {a b : Bool} (h : a = b) : (a == b) = true ∧ (a != b) = false := by simp [h]
set_option maxHeartbeats 12800000 in
theorem same_any (r s : Rc) (w : World) (hr : Txs w r.A r.N) (hs : Txs w s.A s.N) (hl : r.N.length ≤ 9223372036854775807) (hl' : s.N.length ≤ 9223372036854775807) :
    Calls Tryz.prog 9 #[.agg #[.int .i64 r.e, .int .i64 r.rk, .int .i64 r.z, .int .i64 r.wh, .int .i64 r.id, .string r.x, .slice r.A r.N.length r.c, .bool r.fin], .agg #[.int .i64 s.e, .int .i64 s.rk, .int .i64 s.z, .int .i64 s.wh, .int .i64 s.id, .string s.x, .slice s.A s.N.length s.c, .bool s.fin]] w fun en w' => en = .returned (.bool (smB r s)) ∧ Below w.heap.size w w' := by
  obtain ⟨g1, W1, hW1, eg1, hxa, hxb, hb1, lg1⟩ := two_boxes w (.cells #[.int .i64 r.e, .int .i64 r.rk, .int .i64 r.z, .int .i64 r.wh, .int .i64 r.id, .string r.x, .slice r.A r.N.length r.c, .bool r.fin] 26) (.cells #[.int .i64 s.e, .int .i64 s.rk, .int .i64 s.z, .int .i64 s.wh, .int .i64 s.id, .string s.x, .slice s.A s.N.length s.c, .bool s.fin] 26)
  obtain ⟨n1, hn1⟩ : ∃ n1, n1 = r.N.length := ⟨_, rfl⟩
  obtain ⟨n2, hn2⟩ : ∃ n2, n2 = s.N.length := ⟨_, rfl⟩
  rw [← hn1, ← hn2] at hW1
  rw [← hn1] at hxa
  rw [← hn2] at hxb
  have a0 := cell_of_blk hxa 0
  have b0 := cell_of_blk hxb 0
  have a1 := cell_of_blk hxa 1
  have b1 := cell_of_blk hxb 1
  have a2 := cell_of_blk hxa 2
  have b2 := cell_of_blk hxb 2
  have a3 := cell_of_blk hxa 3
  have b3 := cell_of_blk hxb 3
  have a4 := cell_of_blk hxa 4
  have b4 := cell_of_blk hxb 4
  have a5 := cell_of_blk hxa 5
  have b5 := cell_of_blk hxb 5
  have a6 := cell_of_blk hxa 6
  have b6 := cell_of_blk hxb 6
  have a7 := cell_of_blk hxa 7
  have b7 := cell_of_blk hxb 7
  have HQ := Lib.hid (equal_any r.A r.c r.N s.A s.c s.N W1 (hr.later hb1) (hs.later hb1) hl hl')
  have HB := Lib.hid hb1
  have HW := Lib.hid hW1
  have HE := Lib.hid eg1
  clear hxa hxb hb1 hW1 eg1 lg1 hr hs
  rw [← hn1, ← hn2]
  rw [← hn1, ← hn2] at HQ
  rw [← hn1] at hl
  rw [← hn2] at hl'
  have HN1 := Lib.hid hn1
  have HN2 := Lib.hid hn2
  clear hn1 hn2
  go_enter Tryz.func9, Tryz.ntmps9
  go_upto_region 1 with fail
  rw [HW.out]
  simp only [HE.out]
  clear HW HE
  by_cases he : r.e = s.e
  rotate_left 1
  · obtain ⟨u1, u2⟩ := int_no he
    have HF : Hid (smB r s = false) := Lib.hid (by unfold smB; simp only [decide_eq_false_iff_not]; exact fun h => he h.1)
    have u3 := he
    clear he
    go_wp2_with fail
    go_ret
    exact ⟨by rw [HF.out]; rfl, HB.out⟩
  obtain ⟨pe, qe⟩ := int_yes he
  have He := Lib.hid he
  clear he
  by_cases hrk : r.rk = s.rk
  rotate_left 1
  · obtain ⟨u1, u2⟩ := int_no hrk
    have HF : Hid (smB r s = false) := Lib.hid (by unfold smB; simp only [decide_eq_false_iff_not]; exact fun h => hrk h.2.1)
    have u3 := hrk
    clear hrk
    go_wp2_with fail
    go_ret
    exact ⟨by rw [HF.out]; rfl, HB.out⟩
  obtain ⟨prk, qrk⟩ := int_yes hrk
  have Hrk := Lib.hid hrk
  clear hrk
  by_cases hz : r.z = s.z
  rotate_left 1
  · obtain ⟨u1, u2⟩ := int_no hz
    have HF : Hid (smB r s = false) := Lib.hid (by unfold smB; simp only [decide_eq_false_iff_not]; exact fun h => hz h.2.2.1)
    have u3 := hz
    clear hz
    go_wp2_with fail
    go_ret
    exact ⟨by rw [HF.out]; rfl, HB.out⟩
  obtain ⟨pz, qz⟩ := int_yes hz
  have Hz := Lib.hid hz
  clear hz
  by_cases hwh : r.wh = s.wh
  rotate_left 1
  · obtain ⟨u1, u2⟩ := int_no hwh
    have HF : Hid (smB r s = false) := Lib.hid (by unfold smB; simp only [decide_eq_false_iff_not]; exact fun h => hwh h.2.2.2.1)
    have u3 := hwh
    clear hwh
    go_wp2_with fail
    go_ret
    exact ⟨by rw [HF.out]; rfl, HB.out⟩
  obtain ⟨pwh, qwh⟩ := int_yes hwh
  have Hwh := Lib.hid hwh
  clear hwh
  by_cases hid : r.id = s.id
  rotate_left 1
  · obtain ⟨u1, u2⟩ := int_no hid
    have HF : Hid (smB r s = false) := Lib.hid (by unfold smB; simp only [decide_eq_false_iff_not]; exact fun h => hid h.2.2.2.2.1)
    have u3 := hid
    clear hid
    go_wp2_with fail
    go_ret
    exact ⟨by rw [HF.out]; rfl, HB.out⟩
  obtain ⟨pid, qid⟩ := int_yes hid
  have Hqid := Lib.hid hid
  clear hid
  by_cases hx : r.x = s.x
  rotate_left 1
  · obtain ⟨u1, u2⟩ := str_no hx
    have HF : Hid (smB r s = false) := Lib.hid (by unfold smB; simp only [decide_eq_false_iff_not]; exact fun h => hx h.2.2.2.2.2.1)
    have u3 := hx
    clear hx
    go_wp2_with fail
    go_ret
    exact ⟨by rw [HF.out]; rfl, HB.out⟩
  obtain ⟨px, qx⟩ := str_yes hx
  have Hx := Lib.hid hx
  clear hx
  have HF : Hid (smB r s = (decide (r.N = s.N) && decide (r.fin = s.fin))) := Lib.hid (by
    unfold smB
    rw [Bool.eq_iff_iff]
    simp only [decide_eq_true_eq, Bool.and_eq_true]
    exact ⟨fun h => h.2.2.2.2.2.2, fun h => ⟨He.out, Hrk.out, Hz.out, Hwh.out, Hqid.out, Hx.out, h.1, h.2⟩⟩)
  by_cases hN : r.N = s.N
  · have hNt : decide (r.N = s.N) = true := by simp [hN]
    rw [hNt] at HQ HF
    clear hN hNt
    by_cases hfin : r.fin = s.fin
    · obtain ⟨u1, u2⟩ := bool_yes hfin
      have hft : decide (r.fin = s.fin) = true := by simp [hfin]
      rw [hft] at HF
      have HFn := Lib.hid hfin
      clear hfin hft
      go_wp2_with fail
      refine HQ.out.mono ?_
      rintro en w2 ⟨rfl, hb2⟩
      have HB2 := Lib.hid (HB.out.trans (hb2.mono HB.out.size))
      have d7 := (hb2.cell (p := ⟨w.heap.size, 7, none⟩) (World.block_lt_of_cell? W1 _ a7)).trans a7
      have e7 := (hb2.cell (p := ⟨g1, 7, none⟩) (World.block_lt_of_cell? W1 _ b7)).trans b7
      clear hb2 HQ
      go_wp2_with fail
      go_ret
      exact ⟨by rw [HF.out, HFn.out]; simp, HB2.out⟩
    · obtain ⟨u1, u2⟩ := bool_no hfin
      have hft : decide (r.fin = s.fin) = false := by simp [hfin]
      rw [hft] at HF
      clear hfin hft
      go_wp2_with fail
      refine HQ.out.mono ?_
      rintro en w2 ⟨rfl, hb2⟩
      have HB2 := Lib.hid (HB.out.trans (hb2.mono HB.out.size))
      have d7 := (hb2.cell (p := ⟨w.heap.size, 7, none⟩) (World.block_lt_of_cell? W1 _ a7)).trans a7
      have e7 := (hb2.cell (p := ⟨g1, 7, none⟩) (World.block_lt_of_cell? W1 _ b7)).trans b7
      clear hb2 HQ
      go_wp2_with fail
      go_ret
      exact ⟨by rw [HF.out]; simp, HB2.out⟩
  · have hNt : decide (r.N = s.N) = false := by simp [hN]
    rw [hNt] at HQ HF
    clear hN hNt
    go_wp2_with fail
    refine HQ.out.mono ?_
    rintro en w2 ⟨rfl, hb2⟩
    have HB2 := Lib.hid (HB.out.trans (hb2.mono HB.out.size))
    clear hb2 HQ
    go_wp2_with fail
    go_ret
    exact ⟨by rw [HF.out]; simp, HB2.out⟩
set_option maxHeartbeats 12800000 in
theorem ref_any (r s : Rc) (w : World) (hr : Txs w r.A r.N) (hs : Txs w s.A s.N) (hl : r.N.length ≤ 9223372036854775807)  :
    Calls Tryz.prog 10 #[.agg #[.int .i64 r.e, .int .i64 r.rk, .int .i64 r.z, .int .i64 r.wh, .int .i64 r.id, .string r.x, .slice r.A r.N.length r.c, .bool r.fin], .agg #[.int .i64 s.e, .int .i64 s.rk, .int .i64 s.z, .int .i64 s.wh, .int .i64 s.id, .string s.x, .slice s.A s.N.length s.c, .bool s.fin]] w fun en w' => en = .returned (.bool (smB r s)) ∧ Below w.heap.size w w' := by
  obtain ⟨g1, W1, hW1, eg1, hxa, hxb, hb1, lg1⟩ := two_boxes w (.cells #[.int .i64 r.e, .int .i64 r.rk, .int .i64 r.z, .int .i64 r.wh, .int .i64 r.id, .string r.x, .slice r.A r.N.length r.c, .bool r.fin] 26) (.cells #[.int .i64 s.e, .int .i64 s.rk, .int .i64 s.z, .int .i64 s.wh, .int .i64 s.id, .string s.x, .slice s.A s.N.length s.c, .bool s.fin] 26)
  obtain ⟨n1, hn1⟩ : ∃ n1, n1 = r.N.length := ⟨_, rfl⟩
  obtain ⟨n2, hn2⟩ : ∃ n2, n2 = s.N.length := ⟨_, rfl⟩
  rw [← hn1, ← hn2] at hW1
  rw [← hn1] at hxa
  rw [← hn2] at hxb
  have a0 := cell_of_blk hxa 0
  have b0 := cell_of_blk hxb 0
  have a1 := cell_of_blk hxa 1
  have b1 := cell_of_blk hxb 1
  have a2 := cell_of_blk hxa 2
  have b2 := cell_of_blk hxb 2
  have a3 := cell_of_blk hxa 3
  have b3 := cell_of_blk hxb 3
  have a4 := cell_of_blk hxa 4
  have b4 := cell_of_blk hxb 4
  have a5 := cell_of_blk hxa 5
  have b5 := cell_of_blk hxb 5
  have a6 := cell_of_blk hxa 6
  have b6 := cell_of_blk hxb 6
  have a7 := cell_of_blk hxa 7
  have b7 := cell_of_blk hxb 7
  have K1 := Lib.hid (hr.later hb1)
  have K2 := Lib.hid (hs.later hb1)
  have HB := Lib.hid hb1
  have HW := Lib.hid hW1
  have HE := Lib.hid eg1
  clear hxa hxb hb1 hW1 eg1 lg1 hr hs
  rw [← hn1, ← hn2]
  rw [← hn1] at hl
  have HN1 := Lib.hid hn1
  have HN2 := Lib.hid hn2
  clear hn1 hn2
  go_enter Tryz.func10, Tryz.ntmps10
  go_upto_region 1 with fail
  rw [HW.out]
  simp only [HE.out]
  clear HW HE
  by_cases he : r.e = s.e
  rotate_left 1
  · obtain ⟨u1, u2⟩ := int_no he
    have HF : Hid (smB r s = false) := Lib.hid (by unfold smB; simp only [decide_eq_false_iff_not]; exact fun h => he h.1)
    have u3 := he
    clear he
    go_wp2_with fail
    go_ret
    exact ⟨by rw [HF.out]; rfl, HB.out⟩
  obtain ⟨pe, qe⟩ := int_yes he
  have He := Lib.hid he
  clear he
  by_cases hrk : r.rk = s.rk
  rotate_left 1
  · obtain ⟨u1, u2⟩ := int_no hrk
    have HF : Hid (smB r s = false) := Lib.hid (by unfold smB; simp only [decide_eq_false_iff_not]; exact fun h => hrk h.2.1)
    have u3 := hrk
    clear hrk
    go_wp2_with fail
    go_ret
    exact ⟨by rw [HF.out]; rfl, HB.out⟩
  obtain ⟨prk, qrk⟩ := int_yes hrk
  have Hrk := Lib.hid hrk
  clear hrk
  by_cases hz : r.z = s.z
  rotate_left 1
  · obtain ⟨u1, u2⟩ := int_no hz
    have HF : Hid (smB r s = false) := Lib.hid (by unfold smB; simp only [decide_eq_false_iff_not]; exact fun h => hz h.2.2.1)
    have u3 := hz
    clear hz
    go_wp2_with fail
    go_ret
    exact ⟨by rw [HF.out]; rfl, HB.out⟩
  obtain ⟨pz, qz⟩ := int_yes hz
  have Hz := Lib.hid hz
  clear hz
  by_cases hwh : r.wh = s.wh
  rotate_left 1
  · obtain ⟨u1, u2⟩ := int_no hwh
    have HF : Hid (smB r s = false) := Lib.hid (by unfold smB; simp only [decide_eq_false_iff_not]; exact fun h => hwh h.2.2.2.1)
    have u3 := hwh
    clear hwh
    go_wp2_with fail
    go_ret
    exact ⟨by rw [HF.out]; rfl, HB.out⟩
  obtain ⟨pwh, qwh⟩ := int_yes hwh
  have Hwh := Lib.hid hwh
  clear hwh
  by_cases hid : r.id = s.id
  rotate_left 1
  · obtain ⟨u1, u2⟩ := int_no hid
    have HF : Hid (smB r s = false) := Lib.hid (by unfold smB; simp only [decide_eq_false_iff_not]; exact fun h => hid h.2.2.2.2.1)
    have u3 := hid
    clear hid
    go_wp2_with fail
    go_ret
    exact ⟨by rw [HF.out]; rfl, HB.out⟩
  obtain ⟨pid, qid⟩ := int_yes hid
  have Hqid := Lib.hid hid
  clear hid
  by_cases hx : r.x = s.x
  rotate_left 1
  · obtain ⟨u1, u2⟩ := str_no hx
    have HF : Hid (smB r s = false) := Lib.hid (by unfold smB; simp only [decide_eq_false_iff_not]; exact fun h => hx h.2.2.2.2.2.1)
    have u3 := hx
    clear hx
    go_wp2_with fail
    go_ret
    exact ⟨by rw [HF.out]; rfl, HB.out⟩
  obtain ⟨px, qx⟩ := str_yes hx
  have Hx := Lib.hid hx
  clear hx
  by_cases hfin : r.fin = s.fin
  rotate_left 1
  · obtain ⟨u1, u2⟩ := bool_no hfin
    have HF : Hid (smB r s = false) := Lib.hid (by unfold smB; simp only [decide_eq_false_iff_not]; exact fun h => hfin h.2.2.2.2.2.2.2)
    have u3 := hfin
    clear hfin
    go_wp2_with fail
    go_ret
    exact ⟨by rw [HF.out]; rfl, HB.out⟩
  obtain ⟨pfin, qfin⟩ := bool_yes hfin
  have Hfin := Lib.hid hfin
  clear hfin
  have HF : Hid (smB r s = decide (r.N = s.N)) := Lib.hid (by
    unfold smB
    rw [Bool.eq_iff_iff]
    simp only [decide_eq_true_eq]
    exact ⟨fun h => h.2.2.2.2.2.2.1, fun h => ⟨He.out, Hrk.out, Hz.out, Hwh.out, Hqid.out, Hx.out, h, Hfin.out⟩⟩)
  by_cases hn : (n1 : Int) = (n2 : Int)
  rotate_left 1
  · obtain ⟨u1, u2⟩ := int_no hn
    have HG : Hid (decide (r.N = s.N) = false) := Lib.hid (by
      simp only [decide_eq_false_iff_not]
      intro h
      apply hn
      rw [HN1.out, HN2.out, h])
    have HNn := Lib.hid hn
    clear hn
    go_wp2_with fail
    go_ret
    exact ⟨by rw [HF.out, HG.out]; rfl, HB.out⟩
  obtain ⟨u1, u2⟩ := int_yes hn
  have HNe : Hid (r.N.length = s.N.length) := Lib.hid (by rw [← HN1.out, ← HN2.out]; omega)
  have HNn := Lib.hid hn
  clear hn
  go_wp2_with fail
  go_loopw [5] (fun v wr => ∃ k : Nat, k ≤ n1 ∧ v = .int .i64 (k : Int) ∧ Hid (∀ j, j < k → r.N[j]? = s.N[j]?) ∧ ∃ nd, wr = W1.drewN nd) (fun v _ => n1 - (intOf v).toNat)
  case atStart => exact ⟨0, Nat.zero_le _, rfl, Lib.hid fun j h => absurd h (Nat.not_lt_zero _), 0, rfl⟩
  case round =>
    obtain ⟨k, hk, rfl, HE, nd, rfl⟩ := hrel
    by_cases hlt : k < n1
    · obtain ⟨x, hx⟩ : ∃ x, r.N[k]? = some x := ⟨_, List.getElem?_eq_getElem (by rw [← HN1.out]; exact hlt)⟩
      obtain ⟨y, hy⟩ : ∃ y, s.N[k]? = some y := ⟨_, List.getElem?_eq_getElem (by rw [← HNe.out, ← HN1.out]; exact hlt)⟩
      obtain ⟨b1, o1, eA, _, d1⟩ := K1.out k x hx
      obtain ⟨b2, o2, eB, _, d2⟩ := K2.out k y hy
      rw [eA] at a6
      rw [eB] at b6
      have i0 : (0 : Int) ≤ (k : Int) := by omega
      have i1 : (k : Int) < (n1 : Int) := by omega
      have i2 : (k : Int) < (n2 : Int) := by rw [← HNn.out]; omega
      have i3 : k < n2 := by omega
      have HEA := Lib.hid eA
      have HEB := Lib.hid eB
      clear eA eB
      by_cases hxy : x = y
      · subst hxy
        have hxx : (x.toList != x.toList) = false := by simp
        have HE' : Hid (∀ j, j < k + 1 → r.N[j]? = s.N[j]?) := Lib.hid fun j hj => by
          rcases Nat.lt_or_ge j k with h | h
          · exact HE.out j h
          · obtain rfl : j = k := by omega
            rw [hx, hy]
        clear hx hy
        go_wp2_with fail
        go_quiet (fail)
        go_wp2
        go_roundw
        case rel => exact ⟨k + 1, by omega, by go_num, HE', _, rfl⟩
        case measure => simp [intOf]; omega
      · obtain ⟨v1, v2⟩ := str_no hxy
        have v3 : ¬ x.toList = y.toList := by
          have := v1
          simpa using this
        have HG : Hid (decide (r.N = s.N) = false) := Lib.hid (by
          simp only [decide_eq_false_iff_not]
          intro h
          rw [h, hy] at hx
          exact hxy (Option.some.inj hx).symm)
        clear hx hy
        go_wp2_with fail
        go_quiet (fail)
        go_wp2
        go_ret
        exact ⟨by rw [HF.out, HG.out]; rfl, HB.out.trans ⟨rfl, rfl, rfl, Nat.le_refl _, fun _ _ => rfl⟩⟩
    · have HG : Hid (decide (r.N = s.N) = true) := Lib.hid (by
        simp only [decide_eq_true_eq]
        exact eq_of_each HNe.out (by rw [← HN1.out]; omega) HE.out)
      go_wp2
      go_ret
      exact ⟨by rw [HF.out, HG.out]; rfl, HB.out.trans ⟨rfl, rfl, rfl, Nat.le_refl _, fun _ _ => rfl⟩⟩
end Go.Proofs.YtkigkdiphhecaaaGreat.tal
