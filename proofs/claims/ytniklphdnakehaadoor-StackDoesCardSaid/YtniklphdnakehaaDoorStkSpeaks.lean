/- That stack speaks: two branches, of which one is removed. Condition: the library's MaxLen holds a number. Rows of directories without entries. No condition. -/
import Derived.Test.YtniklphdnakehaaDoorStkOf
namespace Go.Proofs.YtniklphdnakehaaDoor.stk
set_option maxRecDepth 100000
open Go.RowKit Go.Proofs.YtniklphdnakehaaDoor.words Go.Proofs.YtniklphdnakehaaDoor.ext Go.Proofs.YtniklphdnakehaaDoor.name Go.Proofs.YtniklphdnakehaaDoor.tre

theorem StkOk.later {w w' : World} {A : Option Addr} {c : Nat} {L : List (Nat × Int)} {T : List Nd} (h : StkOk w A c L T) (hb : Below w.heap.size w w') : StkOk w' A c L T :=
  ⟨h.slc.later hb, h.len, fun j x hx => by
    obtain ⟨q1, t, q2, q3⟩ := h.brs j x hx
    exact ⟨q1, t, q2, q3.later hb⟩⟩
def e0N : Nd := dirN [] []
def e1N : Nd := dirN [ab] [whiteN]
theorem eN_fine : ∀ t ∈ [e0N, e1N], depth t ≤ 1000 ∧ (treeB t = true → countC t = (count t : Int) ∧ count t ≤ 4096) := fun t ht => by
  simp only [List.mem_cons, List.mem_nil_iff, or_false] at ht
  rcases ht with rfl | rfl
  · exact ⟨by decide +kernel, fun _ => ⟨by decide +kernel, by decide +kernel⟩⟩
  · exact ⟨by decide +kernel, fun _ => ⟨by decide +kernel, by decide +kernel⟩⟩
theorem eN_right : ∀ t ∈ [e0N, e1N], treeB t = true := fun t ht => by
  simp only [List.mem_cons, List.mem_nil_iff, or_false] at ht
  rcases ht with rfl | rfl <;> decide +kernel
def e0V (r : Raw) : Value := .agg #[.int .i64 2, .bool false, .slice r.An 0 r.cn, .slice r.Ai 0 r.ci, .int .i64 0, .slice r.Ae 0 r.ce, .string ⟨#[]⟩]
theorem e0_v (r : Raw) : ndV e0N r = e0V r := rfl
theorem e1_v (r : Raw) : ndV e1N r = dcV r := rfl
theorem empty_any (w : World) : Calls Tryd.prog 29 #[.slice none 0 0, .slice none 0 0] w (Built e0N w) :=
  dir_any none none 0 0 [] [] (fun _ => raw0) w (fun i x hx => by simp at hx) (fun j u hj => by simp [rowCells] at hj) (fun i x hx => by simp at hx) (by decide) (by decide) (fun _ => ⟨rfl, rfl⟩) (fun _ => ⟨rfl, rfl⟩)
/-- Two nodes in a row. -/
theorem trees_two {w W : World} {x y : Nd} {rx ry : Raw} (hW : W = w.alloc (.cells ((rawCells x rx).toList ++ (rawCells y ry).toList).toArray 27)) (hx : NdAt w w.heap.size x rx) (hy : NdAt w w.heap.size y ry) :
    Trees W W.heap.size (some ⟨w.heap.size, 0, none⟩) [x, y] (fun i => if i = 0 then rx else ry) := by
  have hb : Below w.heap.size w W := by rw [hW]; exact (Below.refl _ _).alloc (Nat.le_refl _) _
  have hk : W.heap[w.heap.size]? = some (.cells ((rawCells x rx).toList ++ (rawCells y ry).toList).toArray 27 (0, 0)) := by rw [hW]; exact heap_alloc_new w _
  have l7 : ∀ (n : Nd) (r : Raw), (rawCells n r).toList.length = 7 := fun n r => rfl
  intro i z hz
  rcases i with _ | _ | i
  · obtain rfl : x = z := by simpa using hz
    refine ⟨⟨_, 0, rfl, lt_of_some hk, fun j v hj => ?_⟩, hx.later hb⟩
    have hj7 : j < 7 := by
      have := (List.getElem?_eq_some_iff.1 (by rw [← Array.getElem?_toList] at hj; exact hj)).1
      rwa [show (rawCells x (if 0 = 0 then rx else ry)).toList.length = 7 from rfl] at this
    rw [cell_of_blk hk, ← Array.getElem?_toList, show 0 + 0 * 7 + j = j by omega, List.getElem?_append_left (by rw [l7]; exact hj7), Array.getElem?_toList]
    exact hj
  · obtain rfl : y = z := by simpa using hz
    refine ⟨⟨_, 0, rfl, lt_of_some hk, fun j v hj => ?_⟩, hy.later hb⟩
    rw [cell_of_blk hk, ← Array.getElem?_toList, show 0 + (0 + 1) * 7 + j = 7 + j by omega, List.getElem?_append_right (by rw [l7]; omega), l7, Nat.add_sub_cancel_left, Array.getElem?_toList]
    exact hj
  · simp at hz
theorem two_rows {w : World} {A : Option Addr} {c : Nat} {L : List (Nat × Int)} (h : StkOk w A c L [e0N, e1N]) : ∃ g0 g1, L = [(g0, 1), (g1, 0)] ∧ Brn w w.heap.size g0 (flatN 0 e1N) ∧ Brn w w.heap.size g1 (flatN 0 e0N) := by
  have hl : L.length = 2 := h.len
  match L, hl with
  | [(g0, i0), (g1, i1)], _ =>
    obtain ⟨q1, t1, q2, q3⟩ := h.brs 0 (g0, i0) rfl
    obtain ⟨p1, t2, p2, p3⟩ := h.brs 1 (g1, i1) rfl
    have e1 : i0 = 1 := q1
    have e2 : i1 = 0 := p1
    have e3 : t1 = e1N := (Option.some.inj (show some e1N = some t1 from q2)).symm
    have e4 : t2 = e0N := (Option.some.inj (show some e0N = some t2 from p2)).symm
    subst e1 e2 e3 e4
    exact ⟨g0, g1, rfl, q3, p3⟩
theorem e1_two : count e1N = 2 := by decide +kernel
set_option maxHeartbeats 12800000 in
theorem sspeaks_any (m : Int) (w : World) (hm : w.cell? ⟨0, 0, none⟩ = some (.int .i64 m)) : Calls Tryd.prog 27 #[] w fun e w' => e = .returned (.bool true) ∧ Below w.heap.size w w' := by
  have HM := Lib.hid hm
  clear hm
  go_enter Tryd.func27, Tryd.ntmps27
  go_wp2_with fail
  refine ((empty_any w).mono fun _ _ h => h.as e0_v).mono ?_
  rintro e w1 ⟨r1, rfl, hn1, hb1⟩
  obtain ⟨W2, hW2⟩ : ∃ W2, W2 = w1.alloc (.cells #[.string ab] 9) := ⟨_, rfl⟩
  have hb2 : Below w1.heap.size w1 W2 := by rw [hW2]; exact (Below.refl _ _).alloc (Nat.le_refl _) _
  have HT2 : Hid (Txts W2 W2.heap.size (some ⟨w1.heap.size, 0, none⟩) [ab]) := by rw [hW2]; exact Lib.hid (txts_one w1 ab (by decide))
  have hW2' : W2 = w1.alloc (.cells #[.string ⟨#[97]⟩] 9) := hW2
  have HW2 := Lib.hid hW2'
  have HN1 := Lib.hid (hn1.later hb2)
  have HB2 := Lib.hid (hb1.trans (hb2.mono hb1.size))
  clear hn1 hb1 hb2 hW2 hW2'
  unfold e0V
  go_wp2_with fail
  rw [← HW2.out]
  refine ((white_any W2).mono fun _ _ h => h.as wh_v).mono ?_
  rintro e w3 ⟨r3, rfl, hn3, hb3⟩
  obtain ⟨W4, hW4⟩ : ∃ W4, W4 = w3.alloc (.cells (rawCells whiteN r3) 27) := ⟨_, rfl⟩
  have hb4 : Below w3.heap.size w3 W4 := by rw [hW4]; exact (Below.refl _ _).alloc (Nat.le_refl _) _
  have hb24 : Below W2.heap.size W2 W4 := hb3.trans (hb4.mono hb3.size)
  have HP4 := Lib.hid (one_dir ab whiteN r3 w1.heap.size w3 W4 hW4 ((HT2.out.keep hb24).more hb24.size) hn3)
  have hW4' : W4 = w3.alloc (.cells #[.int .i64 4, .bool false, .slice r3.An 0 r3.cn, .slice r3.Ai 0 r3.ci, .int .i64 0, .slice r3.Ae 0 r3.ce, .string ⟨#[]⟩] 27) := hW4
  have HW4 := Lib.hid hW4'
  have HN4 := Lib.hid (HN1.out.later hb24)
  have HB4 := Lib.hid (HB2.out.trans (hb24.mono HB2.out.size))
  clear hn3 hb3 hb4 hb24 hW4 hW4' HT2 HN1 HB2 HW2
  unfold whV
  go_wp2_with fail
  rw [← HW4.out]
  refine (HP4.out.mono fun _ _ h => h.as e1_v).mono ?_
  rintro e w5 ⟨r5, rfl, hn5, hb5⟩
  obtain ⟨W6, hW6⟩ : ∃ W6, W6 = w5.alloc (.cells ((rawCells e0N r1).toList ++ (rawCells e1N r5).toList).toArray 27) := ⟨_, rfl⟩
  have hb6 : Below w5.heap.size w5 W6 := by rw [hW6]; exact (Below.refl _ _).alloc (Nat.le_refl _) _
  have hb46 : Below W4.heap.size W4 W6 := hb5.trans (hb6.mono hb5.size)
  have HB6 := Lib.hid (HB4.out.trans (hb46.mono HB4.out.size))
  have hT6 := trees_two hW6 (HN4.out.later hb5) hn5
  have HC := Lib.hid (show Calls Tryd.prog 32 #[.slice (some ⟨w5.heap.size, 0, none⟩) 2 2] W6 (OfOut [e0N, e1N] W6) from of_any _ 2 [e0N, e1N] _ m W6 hT6 (below_cell HM.out HB6.out) eN_fine (by decide))
  have hW6' : W6 = w5.alloc (.cells #[.int .i64 2, .bool false, .slice r1.An 0 r1.cn, .slice r1.Ai 0 r1.ci, .int .i64 0, .slice r1.Ae 0 r1.ce, .string ⟨#[]⟩, .int .i64 2, .bool false, .slice r5.An 1 r5.cn, .slice r5.Ai 1 r5.ci, .int .i64 0, .slice r5.Ae 0 r5.ce, .string ⟨#[]⟩] 27) := hW6
  have HW6 := Lib.hid hW6'
  clear hn5 hb5 hb6 hb46 hT6 hW6 hW6' HP4 HN4 HB4 HW4
  unfold dcV
  go_wp2_with fail
  rw [← HW6.out]
  refine HC.out.mono ?_
  rintro e w7 hof
  rcases hof with ⟨A, c, L, rfl, hok, _, _, hb7⟩ | ⟨er, _, hbad, _⟩
  · obtain ⟨g0, g1, rfl, hg0, hg1⟩ := two_rows hok
    obtain ⟨W8, hW8⟩ : ∃ W8, W8 = w7.alloc (.cells #[.slice A 2 c, .int .i64 2] 54) := ⟨_, rfl⟩
    have hb8 : Below w7.heap.size w7 W8 := by rw [hW8]; exact (Below.refl _ _).alloc (Nat.le_refl _) _
    have hk8 : W8.heap[w7.heap.size]? = some (.cells #[.slice A 2 c, .int .i64 2] 54 (0, 0)) := by rw [hW8]; exact heap_alloc_new w7 _
    have HOk := Lib.hid (hok.later hb8)
    have HG0 := Lib.hid (hg0.later hb8)
    have HB8 := Lib.hid ((HB6.out.trans (hb7.mono HB6.out.size)).trans (hb8.mono (HB6.out.trans (hb7.mono HB6.out.size)).size))
    have HK8 := Lib.hid hk8
    have HW8 := Lib.hid hW8
    have s0 : W8.cell? ⟨w7.heap.size, 0, none⟩ = some (.slice A 2 c) := cell_of_blk hk8 0
    have s1 : W8.cell? ⟨w7.heap.size, 1, none⟩ = some (.int .i64 2) := cell_of_blk hk8 1
    have t : ([e0N, e1N] : List Nd).length = 2 := rfl
    clear hok hg0 hg1 hb7 hb8 hk8 hW8 HC HW6 HB6 t
    unfold stkV
    go_upto_region 2 with fail
    rw [← HW8.out]
    clear HW8
    have HC := Lib.hid (show Calls Tryd.prog 33 #[.agg #[.slice A 2 c, .int .i64 2]] W8 fun e w' => e = .returned (.int .i64 2) ∧ Below W8.heap.size W8 w' from slen_any A 2 c 2 W8)
    go_wp2_with fail
    refine HC.out.mono ?_
    rintro e v1 ⟨rfl, hb⟩
    replace HOk := Lib.hid (HOk.out.later hb)
    replace HG0 := Lib.hid (HG0.out.later hb)
    replace HB8 := Lib.hid (HB8.out.trans (hb.mono HB8.out.size))
    replace HK8 := Lib.hid ((hb.block _ (lt_of_some HK8.out)).trans HK8.out)
    clear HC hb s0 s1
    have s0 := cell_of_blk HK8.out 0
    have s1 := cell_of_blk HK8.out 1
    have HC := Lib.hid (show Calls Tryd.prog 35 #[.agg #[.slice A 2 c, .int .i64 2], .int .i64 0] v1 fun e w' => e = .returned (.int .i64 1) ∧ Below v1.heap.size v1 w' from sid_yes A 2 c 0 2 _ _ v1 HOk.out.slc.rows rfl rfl)
    go_wp2_with fail
    refine HC.out.mono ?_
    rintro e v2 ⟨rfl, hb⟩
    replace HOk := Lib.hid (HOk.out.later hb)
    replace HG0 := Lib.hid (HG0.out.later hb)
    replace HB8 := Lib.hid (HB8.out.trans (hb.mono HB8.out.size))
    replace HK8 := Lib.hid ((hb.block _ (lt_of_some HK8.out)).trans HK8.out)
    clear HC hb s0 s1
    have s0 := cell_of_blk HK8.out 0
    have s1 := cell_of_blk HK8.out 1
    have HC := Lib.hid (show Calls Tryd.prog 34 #[.agg #[.slice A 2 c, .int .i64 2], .int .i64 0] v2 fun e w' => e = .returned (.pointer (some ⟨g0, 0, none⟩)) ∧ Below v2.heap.size v2 w' from sat_yes A 2 c 0 2 _ _ v2 HOk.out.slc.rows rfl rfl)
    go_wp2_with fail
    refine HC.out.mono ?_
    rintro e v3 ⟨rfl, hb⟩
    replace HOk := Lib.hid (HOk.out.later hb)
    replace HG0 := Lib.hid (HG0.out.later hb)
    replace HB8 := Lib.hid (HB8.out.trans (hb.mono HB8.out.size))
    replace HK8 := Lib.hid ((hb.block _ (lt_of_some HK8.out)).trans HK8.out)
    clear HC hb s0 s1
    have s0 := cell_of_blk HK8.out 0
    have s1 := cell_of_blk HK8.out 1
    have HC := Lib.hid (show Calls Tryd.prog 34 #[.agg #[.slice A 2 c, .int .i64 2], .int .i64 0] v3 fun e w' => e = .returned (.pointer (some ⟨g0, 0, none⟩)) ∧ Below v3.heap.size v3 w' from sat_yes A 2 c 0 2 _ _ v3 HOk.out.slc.rows rfl rfl)
    go_wp2_with fail
    refine HC.out.mono ?_
    rintro e v4 ⟨rfl, hb⟩
    replace HOk := Lib.hid (HOk.out.later hb)
    replace HG0 := Lib.hid (HG0.out.later hb)
    replace HB8 := Lib.hid (HB8.out.trans (hb.mono HB8.out.size))
    replace HK8 := Lib.hid ((hb.block _ (lt_of_some HK8.out)).trans HK8.out)
    clear HC hb s0 s1
    have s0 := cell_of_blk HK8.out 0
    have s1 := cell_of_blk HK8.out 1
    have HC := Lib.hid (show Calls Tryd.prog 22 #[.pointer (some ⟨g0, 0, none⟩)] v4 fun e w' => e = .returned (.int .i64 2) ∧ v4 = w' from (bcount_any g0 _ v4 HG0.out).mono fun e w' ⟨h1, h2⟩ => ⟨by rw [h1, flatN_length, e1_two]; rfl, h2⟩)
    go_wp2_with fail
    refine HC.out.mono ?_
    rintro e w' ⟨rfl, rfl⟩
    clear HC
    have HC := Lib.hid (show Calls Tryd.prog 28 #[.agg #[.slice A 2 c, .int .i64 2], .int .i64 1] v4 (RemoveOut A c 2 [(g0, 1), (g1, 0)] 1 v4) from remove_any A c 2 1 [(g0, 1), (g1, 0)] v4 HOk.out.slc (by simp))
    go_wp2_with fail
    refine HC.out.mono ?_
    rintro e v6 hrm
    rcases hrm with ⟨i, x, hx, hxi, A3, c3, rfl, ho3, hb⟩ | ⟨hno, _, _⟩
    · obtain rfl : i = 0 := by
        rcases i with _ | _ | i
        · rfl
        · obtain rfl : (g1, (0 : Int)) = x := by simpa using hx
          simp at hxi
        · simp at hx
      obtain ⟨W9, hW9⟩ : ∃ W9, W9 = v6.alloc (.cells #[.slice A3 1 c3, .int .i64 2] 54) := ⟨_, rfl⟩
      have hb9 : Below v6.heap.size v6 W9 := by rw [hW9]; exact (Below.refl _ _).alloc (Nat.le_refl _) _
      have hk9 : W9.heap[v6.heap.size]? = some (.cells #[.slice A3 1 c3, .int .i64 2] 54 (0, 0)) := by rw [hW9]; exact heap_alloc_new v6 _
      have hb69 := hb.trans (hb9.mono hb.size)
      have hs3 : Slc v6 v6.heap.size A3 c3 [(g1, 0)] := ho3.slc.2.2
      have HS3 := Lib.hid (hs3.later hb9)
      have HK9 := Lib.hid hk9
      have HW9 := Lib.hid hW9
      replace HOk := Lib.hid (HOk.out.later hb69)
      replace HB8 := Lib.hid (HB8.out.trans (hb69.mono HB8.out.size))
      replace HK8 := Lib.hid ((hb69.block _ (lt_of_some HK8.out)).trans HK8.out)
      clear hx hxi ho3 hb hb9 hk9 hb69 hs3 hW9 HC s0 s1 HG0
      unfold stkV
      go_upto_region 5 with fail
      rw [← HW9.out]
      clear HW9
      have s0 := cell_of_blk HK8.out 0
      have s1 := cell_of_blk HK8.out 1
      have t0 := cell_of_blk HK9.out 0
      have t1 := cell_of_blk HK9.out 1
      have HC := Lib.hid (show Calls Tryd.prog 28 #[.agg #[.slice A3 1 c3, .int .i64 2], .int .i64 1] W9 (RemoveOut A3 c3 2 [(g1, 0)] 1 W9) from remove_any A3 c3 2 1 [(g1, 0)] W9 HS3.out (by simp))
      go_wp2_with fail
      refine HC.out.mono ?_
      rintro e v10 hrm
      rcases hrm with ⟨i, x, hx, hxi, _⟩ | ⟨_, rfl, hb⟩
      · exfalso
        rcases i with _ | i
        · obtain rfl : (g1, (0 : Int)) = x := by simpa using hx
          simp at hxi
        · simp at hx
      · obtain ⟨W11, hW11⟩ : ∃ W11, W11 = v10.alloc (.cells #[.slice A3 1 c3, .int .i64 2] 54) := ⟨_, rfl⟩
        have hb11 : Below v10.heap.size v10 W11 := by rw [hW11]; exact (Below.refl _ _).alloc (Nat.le_refl _) _
        have hb911 := hb.trans (hb11.mono hb.size)
        replace HOk := Lib.hid (HOk.out.later hb911)
        replace HS3 := Lib.hid (HS3.out.later hb911)
        replace HB8 := Lib.hid (HB8.out.trans (hb911.mono HB8.out.size))
        replace HK8 := Lib.hid ((hb911.block _ (lt_of_some HK8.out)).trans HK8.out)
        replace HK9 := Lib.hid ((hb911.block _ (lt_of_some HK9.out)).trans HK9.out)
        have HW11 := Lib.hid hW11
        clear hb hb11 hb911 hW11 HC s0 s1 t0 t1
        unfold stkV
        go_upto_region 6 with fail
        rw [← HW11.out]
        clear HW11
        have s0 := cell_of_blk HK8.out 0
        have s1 := cell_of_blk HK8.out 1
        have t0 := cell_of_blk HK9.out 0
        have t1 := cell_of_blk HK9.out 1
        have HC := Lib.hid (show Calls Tryd.prog 33 #[.agg #[.slice A3 1 c3, .int .i64 2]] W11 fun e w' => e = .returned (.int .i64 1) ∧ Below W11.heap.size W11 w' from slen_any A3 1 c3 2 W11)
        go_wp2_with fail
        refine HC.out.mono ?_
        rintro e v12 ⟨rfl, hb⟩
        replace HOk := Lib.hid (HOk.out.later hb)
        replace HS3 := Lib.hid (HS3.out.later hb)
        replace HB8 := Lib.hid (HB8.out.trans (hb.mono HB8.out.size))
        replace HK8 := Lib.hid ((hb.block _ (lt_of_some HK8.out)).trans HK8.out)
        replace HK9 := Lib.hid ((hb.block _ (lt_of_some HK9.out)).trans HK9.out)
        clear HC hb s0 s1 t0 t1
        have s0 := cell_of_blk HK8.out 0
        have s1 := cell_of_blk HK8.out 1
        have t0 := cell_of_blk HK9.out 0
        have t1 := cell_of_blk HK9.out 1
        have HC := Lib.hid (show Calls Tryd.prog 35 #[.agg #[.slice A3 1 c3, .int .i64 2], .int .i64 0] v12 fun e w' => e = .returned (.int .i64 0) ∧ Below v12.heap.size v12 w' from sid_yes A3 1 c3 0 2 _ _ v12 HS3.out.rows rfl rfl)
        go_wp2_with fail
        refine HC.out.mono ?_
        rintro e v13 ⟨rfl, hb⟩
        replace HOk := Lib.hid (HOk.out.later hb)
        replace HS3 := Lib.hid (HS3.out.later hb)
        replace HB8 := Lib.hid (HB8.out.trans (hb.mono HB8.out.size))
        replace HK8 := Lib.hid ((hb.block _ (lt_of_some HK8.out)).trans HK8.out)
        replace HK9 := Lib.hid ((hb.block _ (lt_of_some HK9.out)).trans HK9.out)
        clear HC hb s0 s1 t0 t1
        have s0 := cell_of_blk HK8.out 0
        have s1 := cell_of_blk HK8.out 1
        have t0 := cell_of_blk HK9.out 0
        have t1 := cell_of_blk HK9.out 1
        have HC := Lib.hid (show Calls Tryd.prog 33 #[.agg #[.slice A 2 c, .int .i64 2]] v13 fun e w' => e = .returned (.int .i64 2) ∧ Below v13.heap.size v13 w' from slen_any A 2 c 2 v13)
        go_wp2_with fail
        refine HC.out.mono ?_
        rintro e v14 ⟨rfl, hb⟩
        replace HOk := Lib.hid (HOk.out.later hb)
        replace HS3 := Lib.hid (HS3.out.later hb)
        replace HB8 := Lib.hid (HB8.out.trans (hb.mono HB8.out.size))
        replace HK8 := Lib.hid ((hb.block _ (lt_of_some HK8.out)).trans HK8.out)
        replace HK9 := Lib.hid ((hb.block _ (lt_of_some HK9.out)).trans HK9.out)
        clear HC hb s0 s1 t0 t1
        have s0 := cell_of_blk HK8.out 0
        have s1 := cell_of_blk HK8.out 1
        have t0 := cell_of_blk HK9.out 0
        have t1 := cell_of_blk HK9.out 1
        go_wp2_with fail
        go_ret
        exact ⟨rfl, HB8.out⟩
    · exact absurd rfl (hno (g0, 1) (List.mem_cons_self ..))
  · exfalso
    rcases hbad with ⟨_, t, ht, hf⟩ | ⟨_, hlt⟩
    · rw [eN_right t ht] at hf; cases hf
    · exact absurd hlt (by decide)
end Go.Proofs.YtniklphdnakehaaDoor.stk

namespace Go.Proofs.YtniklphdnakehaaDoor.stk
set_option maxRecDepth 100000
open Go.RowKit Go.Proofs.YtniklphdnakehaaDoor.words Go.Proofs.YtniklphdnakehaaDoor.ext Go.Proofs.YtniklphdnakehaaDoor.name Go.Proofs.YtniklphdnakehaaDoor.tre

theorem e0_at {w w' : World} {B B' : Nat} {r : Raw} (h : NdAt w B e0N r) : NdAt w' B' e0N r :=
  .mk (fun _ => raw0) h.fit (fun _ _ hx => (no_at hx).elim) (fun _ _ hx => (no_at hx).elim) (fun _ _ hx => (no_at hx).elim) (fun _ _ hx => (no_at hx).elim)
theorem rowCells_upd : ∀ (L : List Nd) (rs rs' : Nat → Raw), (∀ i, i < L.length → rs i = rs' i) → rowCells L rs = rowCells L rs'
  | [], _, _, _ => rfl
  | x :: L, rs, rs', h => by
    rw [rowCells, rowCells, h 0 (by simp), rowCells_upd L (fun i => rs (i + 1)) (fun i => rs' (i + 1)) fun i hi => h (i + 1) (by simpa using hi)]
/-- So many directories, in a row of the call's own. -/
def InD (W : World) (k : Nat) (v : Value) (wr : World) : Prop :=
  ∃ rs : Nat → Raw, wr.ownsRow W.heap.size 27 7 v k (rowCells (List.replicate k e0N) rs) ∧ (∀ i, i < k → NdAt wr wr.heap.size e0N (rs i)) ∧ Below W.heap.size W wr
theorem InD.later {W : World} {k : Nat} {v : Value} {wr w' : World} (h : InD W k v wr) (hb : Below wr.heap.size wr w') : InD W k v w' := by
  obtain ⟨rs, h1, h2, h3⟩ := h
  refine ⟨rs, ⟨h1.1, ?_⟩, fun i hi => e0_at (h2 i hi), h3.trans (hb.mono h3.size)⟩
  rcases h1.2 with h0 | ⟨g, cap, cur, q1, q2, q3, q4⟩
  · exact .inl h0
  · exact .inr ⟨g, cap, cur, q1, q2, (hb.block _ (lt_of_some q3)).trans q3, q4⟩
theorem InD.size {W : World} {k : Nat} {v : Value} {wr : World} (h : InD W k v wr) : W.heap.size ≤ wr.heap.size := by
  obtain ⟨_, _, _, h3⟩ := h
  exact h3.size
theorem InD.slice {W : World} {k : Nat} {v : Value} {wr : World} (h : InD W k v wr) : ∃ A c, v = .slice A k c := by
  obtain ⟨rs, h1, _⟩ := h
  obtain ⟨A, c, e, _⟩ := own_facts h1
  exact ⟨A, c, e⟩
theorem InD.next {W Y w5 : World} {k : Nat} {v v5 : Value} {r1 : Raw} {rs : Nat → Raw} (ho : Y.ownsRow W.heap.size 27 7 v k (rowCells (List.replicate k e0N) rs)) (hx : ∀ i, i < k → NdAt Y Y.heap.size e0N (rs i)) (hb : Below W.heap.size W Y)
    (hn : NdAt Y Y.heap.size e0N r1) (ho5 : w5.ownsRow W.heap.size 27 7 v5 (k + 1) (rowCells (List.replicate k e0N) rs ++ (rawCells e0N r1).toList)) (hg : Y.grownBy w5 v.ownBlock) : InD W (k + 1) v5 w5 := by
  refine ⟨fun i => if i < k then rs i else r1, ?_, fun i hi => ?_, keep_grown hb ho hg (Nat.le_refl _) (Nat.le_refl _)⟩
  · have e : rowCells (List.replicate (k + 1) e0N) (fun i => if i < k then rs i else r1) = rowCells (List.replicate k e0N) rs ++ (rawCells e0N r1).toList := by
      rw [List.replicate_succ', rowCells_app, rowCells_upd (List.replicate k e0N) _ rs fun i hi => if_pos (by simpa using hi)]
      congr 1
      rw [rowCells, rowCells, List.append_nil, List.length_replicate]
      simp
    rw [e]
    exact ho5
  · by_cases h : i < k
    · simp only [if_pos h]
      exact e0_at (hx i h)
    · simp only [if_neg h]
      exact e0_at hn
theorem InD.trees {W : World} {k : Nat} {A : Option Addr} {c : Nat} {wr : World} (h : InD W k (.slice A k c) wr) : ∃ rs, Trees wr wr.heap.size A (List.replicate k e0N) rs := by
  obtain ⟨rs, h1, h2, _⟩ := h
  refine ⟨rs, fun i x hx => ?_⟩
  obtain ⟨hi, rfl⟩ := List.getElem?_eq_some_iff.1 hx
  have hik : i < k := by simpa using hi
  refine ⟨?_, by rw [List.getElem_replicate]; exact h2 i hik⟩
  have key : ∀ (j : Nat) (v : Value), (rawCells ((List.replicate k e0N)[i]) (rs i))[j]? = some v → ∃ g, A = some ⟨g, 0, none⟩ ∧ g < wr.heap.size ∧ wr.cell? ⟨g, i * 7 + j, none⟩ = some v := fun j v hj => by
    obtain ⟨g, cur, e1, _, e3, _, e5⟩ := own_cell h1 (rowCells_at hx j v hj)
    exact ⟨g, e1, e3, e5⟩
  obtain ⟨g, e1, e2, _⟩ := key 0 _ rfl
  refine ⟨g, 0, e1, e2, fun j v hj => ?_⟩
  obtain ⟨g', e1', _, e3'⟩ := key j v hj
  rw [e1] at e1'
  injection e1' with e1'
  injection e1' with e1'
  subst e1'
  rw [Nat.zero_add]
  exact e3'
theorem rep_fine (k : Nat) : ∀ t ∈ List.replicate k e0N, depth t ≤ 1000 ∧ (treeB t = true → countC t = (count t : Int) ∧ count t ≤ 4096) := fun t ht => by
  obtain rfl := List.eq_of_mem_replicate ht
  exact eN_fine e0N (List.mem_cons_self ..)
theorem rep_right (k : Nat) : ∀ t ∈ List.replicate k e0N, treeB t = true := fun t ht => by
  obtain rfl := List.eq_of_mem_replicate ht
  exact eN_right e0N (List.mem_cons_self ..)
end Go.Proofs.YtniklphdnakehaaDoor.stk
