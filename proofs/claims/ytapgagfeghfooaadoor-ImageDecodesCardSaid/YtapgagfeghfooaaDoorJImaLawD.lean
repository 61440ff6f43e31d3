/- ImageDecodes: true. Conditions: the text was read; the library's MaxLen holds a number. -/
import Derived.Test.YtapgagfeghfooaaDoorJImaGetAll
import Derived.Test.YtapgagfeghfooaaDoorJImaLawC
namespace Go.Proofs.YtapgagfeghfooaaDoor.ima
set_option maxRecDepth 100000
open Go.RowKit Go.Proofs.YtapgagfeghfooaaDoor.words Go.Proofs.YtapgagfeghfooaaDoor.ext Go.Proofs.YtapgagfeghfooaaDoor.name Go.Proofs.YtapgagfeghfooaaDoor.tre

theorem pre_iff (s : ByteArray) : Lib.hasPrefix s.data.toList magic.data.toList = true ↔ ¬ (s.size < 7 ∨ s.extract 0 7 ≠ magic) := by
  have hl : s.data.toList.length = s.size := rfl
  have hm7 : magic.data.toList.length = 7 := rfl
  have hx := extract_list s 7
  constructor
  · intro h
    have hp := List.isPrefixOf_iff_prefix.1 h
    have h7 := hp.length_le
    rw [hm7, hl] at h7
    have ht : s.data.toList.take 7 = magic.data.toList := by
      have := List.prefix_iff_eq_take.1 hp
      rw [hm7] at this
      exact this.symm
    intro hc
    rcases hc with hc | hc
    · omega
    · exact hc (ByteArray.ext (Array.ext' (by rw [hx, ht])))
  · intro h
    have he : s.extract 0 7 = magic := Classical.byContradiction fun hc => h (.inr hc)
    refine List.isPrefixOf_iff_prefix.2 (List.prefix_iff_eq_take.2 ?_)
    rw [hm7, ← hx, he]
theorem trim_len (s : ByteArray) : (Lib.trimPrefix s.data.toList magic.data.toList).length ≤ s.size := by
  have hl : s.data.toList.length = s.size := rfl
  unfold Lib.trimPrefix
  split
  · rw [List.length_drop, hl]; omega
  · rw [hl]; exact Nat.le_refl _
theorem decB_refD {s : ByteArray} (hs : s.size ≤ 3000) : decB s = refD s := by
  have hl : s.data.toList.length = s.size := rfl
  unfold decB refD
  by_cases h : Lib.hasPrefix s.data.toList magic.data.toList = true
  · rw [if_pos ⟨h, by omega⟩, if_neg ((pre_iff s).1 h)]
    have ht : Lib.trimPrefix s.data.toList magic.data.toList = s.data.toList.drop 7 := by
      unfold Lib.trimPrefix
      rw [if_pos h]
      rfl
    rw [ht]
    exact decL_getL (by rw [List.length_drop, hl]; omega)
  · rw [if_neg (fun hc => h hc.1), if_pos (Classical.byContradiction fun hc => h ((pre_iff s).2 hc))]
theorem dec_facts {s : ByteArray} {n : Nd} (hs : s.size ≤ 3000) (h : decB s = some n) : imgB n = s ∧ treeB n = true ∧ allB n = true ∧ count n ≤ 4096 ∧ (nb n).length ≤ 4194297 ∧ depth n ≤ 1000 := by
  have hl : s.data.toList.length = s.size := rfl
  unfold decB at h
  split at h
  · rename_i hp
    obtain ⟨h1, h2⟩ := decL_inv h
    have ht : Lib.trimPrefix s.data.toList magic.data.toList = s.data.toList.drop 7 := by
      unfold Lib.trimPrefix
      rw [if_pos hp.1]
      rfl
    have hz := congrArg List.length h1
    rw [ht, List.length_drop, hl] at hz
    have ha := (treeB_all h2).2.1
    have hc := count_nb n ha
    refine ⟨?_, h2, ha, by omega, by omega, ?_⟩
    · refine ByteArray.ext (Array.ext' ?_)
      rw [imgB_list, ← h1, ht]
      have hpre := List.isPrefixOf_iff_prefix.1 hp.1
      have htk := List.prefix_iff_eq_take.1 hpre
      rw [show magic.data.toList.length = 7 from rfl] at htk
      rw [htk]
      exact List.take_append_drop 7 _
    · have := (treeB_all h2).2.2
      omega
  · cases h
theorem nd0_at (w : World) : NdAt w w.heap.size nd0 raw0 :=
  (bare_in w (fun b => b < w.heap.size) 0 ⟨#[]⟩ ⟨show (-9223372036854775808 : Int) ≤ 0 by decide, show (0 : Int) ≤ 9223372036854775807 by decide, show (-9223372036854775808 : Int) ≤ 0 by decide, show (0 : Int) ≤ 9223372036854775807 by decide, show 0 ≤ 140737488355328 by decide, show 0 * 16 ≤ 140737488355328 by decide, show 0 * 112 ≤ 140737488355328 by decide, show 0 * 24 ≤ 140737488355328 by decide, Nat.le_refl _, Nat.le_refl _, Nat.le_refl _, fun _ => ⟨rfl, rfl⟩, fun _ => ⟨rfl, rfl⟩, fun _ => ⟨rfl, rfl⟩⟩).at_ fun b hb => hb
set_option maxHeartbeats 6400000 in
theorem law_decodes (s : ByteArray) (m : Int) (w : World) (hm : w.cell? ⟨0, 0, none⟩ = some (.int .i64 m)) (hss : s.size ≤ 140737488355328) :
    Calls Tryd.prog 3 #[.string s] w fun e w' => e = .returned (.bool true) ∧ Below w.heap.size w w' := by
  have HM := Lib.hid hm
  have HSP := Lib.hid (ispeaks_any m w hm)
  clear hm
  go_enter Tryd.func3, Tryd.ntmps3
  go_wp2_with fail
  refine HSP.out.mono ?_
  rintro e w1 ⟨rfl, hb1⟩
  have HM1 := Lib.hid (below_cell HM.out hb1)
  have HB1 := Lib.hid hb1
  clear hb1 HSP
  by_cases hlong : 3000 < s.size
  · have g1 : (3000 : Int) < (s.size : Int) := by omega
    go_wp2_with fail
    go_ret
    exact ⟨rfl, HB1.out⟩
  have g1 : ¬ (3000 : Int) < (s.size : Int) := by omega
  have HEQ := Lib.hid (decB_refD (s := s) (by omega))
  have HDC := Lib.hid (decode_any s m w1 HM1.out hss fun n c hn => by
    obtain ⟨h1, h2⟩ := nodeP_inv 4097 _ _ _ _ _ hn
    have h3 := trim_len s
    rw [h1, List.length_append] at h3
    simp at h3
    omega)
  go_wp2_with fail
  refine HDC.out.mono ?_
  rintro e w2 ⟨(⟨n, r, hd, rfl, hnd⟩ | ⟨hd, rfl⟩), hb2⟩
  · obtain ⟨him, htr, hall, hct, hnb, hdp⟩ := dec_facts (by omega) hd
    have hn2 := hnd.at_ (B := w2.heap.size) fun b hb => hb.lt
    obtain ⟨W3, hW3⟩ : ∃ W3, W3 = w2.alloc (.cells #[.int .i64 n.K, .bool n.O, .slice r.An n.N.length r.cn, .slice r.Ai n.I.length r.ci, .int .i64 n.S, .slice r.Ae n.E.length r.ce, .string n.T] 27) := ⟨_, rfl⟩
    have hb3 : Below w2.heap.size w2 W3 := by rw [hW3]; exact (Below.refl _ _).alloc (Nat.le_refl _) _
    have hk3 : W3.heap[w2.heap.size]? = some (.cells #[.int .i64 n.K, .bool n.O, .slice r.An n.N.length r.cn, .slice r.Ai n.I.length r.ci, .int .i64 n.S, .slice r.Ae n.E.length r.ce, .string n.T] 27 (0, 0)) := by rw [hW3]; exact heap_alloc_new w2 _
    have HN3 := Lib.hid (hn2.later hb3)
    have HM3 := Lib.hid (below_cell (below_cell HM1.out hb2) hb3)
    have HB3 := Lib.hid (HB1.out.trans ((hb2.trans (hb3.mono hb2.size)).mono HB1.out.size))
    have HK3 := Lib.hid hk3
    have HW3 := Lib.hid hW3
    have HD := Lib.hid hd
    have HIM := Lib.hid him
    have HTR := Lib.hid htr
    have HAL := Lib.hid hall
    have HRD := Lib.hid (refdecode_any s W3 (by omega))
    unfold ndV rawCells
    clear hb2 hb3 hk3 hW3 hd hnd hn2 him htr hall HDC HM1 HB1
    go_upto_region 6 with fail
    rw [← HW3.out]
    go_wp2_with fail
    refine HRD.out.mono ?_
    rintro e w4 ⟨(⟨n', r', hd', rfl, hnd'⟩ | ⟨hd', rfl⟩), hb4⟩
    · have hnn : n = n' := by
        have := HD.out.symm.trans (HEQ.out.trans hd')
        injection this
      subst hnn
      have hn4 := hnd'.at_ (B := w4.heap.size) fun b hb => hb.2
      obtain ⟨W5, hW5⟩ : ∃ W5, W5 = w4.alloc (.cells #[.int .i64 n.K, .bool n.O, .slice r'.An n.N.length r'.cn, .slice r'.Ai n.I.length r'.ci, .int .i64 n.S, .slice r'.Ae n.E.length r'.ce, .string n.T] 27) := ⟨_, rfl⟩
      have hb5 : Below w4.heap.size w4 W5 := by rw [hW5]; exact (Below.refl _ _).alloc (Nat.le_refl _) _
      have hk5 : W5.heap[w4.heap.size]? = some (.cells #[.int .i64 n.K, .bool n.O, .slice r'.An n.N.length r'.cn, .slice r'.Ai n.I.length r'.ci, .int .i64 n.S, .slice r'.Ae n.E.length r'.ce, .string n.T] 27 (0, 0)) := by rw [hW5]; exact heap_alloc_new w4 _
      have hk35 := (hb5.block _ (Nat.lt_of_lt_of_le (lt_of_some HK3.out) hb4.size)).trans ((hb4.block _ (lt_of_some HK3.out)).trans HK3.out)
      have hN5 := (HN3.out.later hb4).later hb5
      have hM5 := below_cell (below_cell HM3.out hb4) hb5
      have HB5 := Lib.hid (HB3.out.trans ((hb4.trans (hb5.mono hb4.size)).mono HB3.out.size))
      have hen := encode_yes n r m W5 hN5 hM5 hdp HTR.out HAL.out hct hnb
      rw [HIM.out] at hen
      unfold ndV rawCells at hen
      have HEN := Lib.hid hen
      have HN5 := Lib.hid hN5
      have HN5' := Lib.hid (hn4.later hb5)
      have HK35 := Lib.hid hk35
      have HK5 := Lib.hid hk5
      have x0 := cell_of_blk hk35 0
      have x1 := cell_of_blk hk35 1
      have x2 := cell_of_blk hk35 2
      have x3 := cell_of_blk hk35 3
      have x4 := cell_of_blk hk35 4
      have x5 := cell_of_blk hk35 5
      have x6 := cell_of_blk hk35 6
      have y0 := cell_of_blk hk5 0
      have y1 := cell_of_blk hk5 1
      have y2 := cell_of_blk hk5 2
      have y3 := cell_of_blk hk5 3
      have y4 := cell_of_blk hk5 4
      have y5 := cell_of_blk hk5 5
      have y6 := cell_of_blk hk5 6
      have HW5 := Lib.hid hW5
      unfold ndV rawCells
      clear hb4 hb5 hk5 hk35 hN5 hM5 hen hn4 hW5 hnd' hd' HRD
      go_upto_region 7 with fail
      rw [← HW5.out]
      go_wp2_with fail
      refine HEN.out.mono ?_
      rintro e w6 ⟨rfl, hb6⟩
      have hk36 := (hb6.block _ (lt_of_some HK35.out)).trans HK35.out
      have hk56 := (hb6.block _ (lt_of_some HK5.out)).trans HK5.out
      have hsm := rsame_at w6 (depth n + 1) n n r r' w6 (Nat.lt_succ_self _) (HN5.out.later hb6) (HN5'.out.later hb6) (Below.refl _ _)
      rw [sameB_refl] at hsm
      unfold ndV rawCells at hsm
      have HSM := Lib.hid hsm
      have HB6 := Lib.hid (HB5.out.trans (hb6.mono HB5.out.size))
      clear x0 x1 x2 x3 x4 x5 x6 y0 y1 y2 y3 y4 y5 y6 hsm HEN
      have x0 := cell_of_blk hk36 0
      have x1 := cell_of_blk hk36 1
      have x2 := cell_of_blk hk36 2
      have x3 := cell_of_blk hk36 3
      have x4 := cell_of_blk hk36 4
      have x5 := cell_of_blk hk36 5
      have x6 := cell_of_blk hk36 6
      have y0 := cell_of_blk hk56 0
      have y1 := cell_of_blk hk56 1
      have y2 := cell_of_blk hk56 2
      have y3 := cell_of_blk hk56 3
      have y4 := cell_of_blk hk56 4
      have y5 := cell_of_blk hk56 5
      have y6 := cell_of_blk hk56 6
      have gs : (s.toList == s.toList) = true := by simp
      clear hk36 hk56 hb6
      go_wp2_with fail
      refine HSM.out.mono ?_
      rintro e w7 ⟨rfl, hb7⟩
      have HB7 := Lib.hid (HB6.out.trans (hb7.mono HB6.out.size))
      clear hb7 HSM
      go_wp2_with fail
      go_ret
      exact ⟨rfl, HB7.out⟩
    · exfalso
      have := HD.out.symm.trans (HEQ.out.trans hd')
      cases this
  · have HD := Lib.hid (HEQ.out.symm.trans hd)
    obtain ⟨W3, hW3⟩ : ∃ W3, W3 = w2.alloc (.cells #[.int .i64 0, .bool false, .slice none 0 0, .slice none 0 0, .int .i64 0, .slice none 0 0, .string ⟨#[]⟩] 27) := ⟨_, rfl⟩
    have hb3 : Below w2.heap.size w2 W3 := by rw [hW3]; exact (Below.refl _ _).alloc (Nat.le_refl _) _
    have hk3 : W3.heap[w2.heap.size]? = some (.cells #[.int .i64 0, .bool false, .slice none 0 0, .slice none 0 0, .int .i64 0, .slice none 0 0, .string ⟨#[]⟩] 27 (0, 0)) := by rw [hW3]; exact heap_alloc_new w2 _
    have HB3 := Lib.hid (HB1.out.trans ((hb2.trans (hb3.mono hb2.size)).mono HB1.out.size))
    have HK3 := Lib.hid hk3
    have HW3 := Lib.hid hW3
    have HRD := Lib.hid (refdecode_any s W3 (by omega))
    unfold ndV rawCells nd0 raw0
    simp only [Nd.K, Nd.O, Nd.N, Nd.I, Nd.S, Nd.E, Nd.T, List.length_nil]
    clear hb2 hb3 hk3 hW3 hd HDC HM1 HB1
    go_upto_region 6 with fail
    rw [← HW3.out]
    go_wp2_with fail
    refine HRD.out.mono ?_
    rintro e w4 ⟨(⟨n', r', hd', rfl, hnd'⟩ | ⟨hd', rfl⟩), hb4⟩
    · exfalso
      rw [HD.out] at hd'
      cases hd'
    · obtain ⟨W5, hW5⟩ : ∃ W5, W5 = w4.alloc (.cells #[.int .i64 0, .bool false, .slice none 0 0, .slice none 0 0, .int .i64 0, .slice none 0 0, .string ⟨#[]⟩] 27) := ⟨_, rfl⟩
      have hb5 : Below w4.heap.size w4 W5 := by rw [hW5]; exact (Below.refl _ _).alloc (Nat.le_refl _) _
      have hk5 : W5.heap[w4.heap.size]? = some (.cells #[.int .i64 0, .bool false, .slice none 0 0, .slice none 0 0, .int .i64 0, .slice none 0 0, .string ⟨#[]⟩] 27 (0, 0)) := by rw [hW5]; exact heap_alloc_new w4 _
      have hk35 := (hb5.block _ (Nat.lt_of_lt_of_le (lt_of_some HK3.out) hb4.size)).trans ((hb4.block _ (lt_of_some HK3.out)).trans HK3.out)
      have HB5 := Lib.hid (HB3.out.trans ((hb4.trans (hb5.mono hb4.size)).mono HB3.out.size))
      have hsm := rsame_at W5 (depth nd0 + 1) nd0 nd0 raw0 raw0 W5 (Nat.lt_succ_self _) (nd0_at W5) (nd0_at W5) (Below.refl _ _)
      rw [sameB_refl] at hsm
      unfold ndV rawCells nd0 raw0 at hsm
      simp only [Nd.K, Nd.O, Nd.N, Nd.I, Nd.S, Nd.E, Nd.T, List.length_nil] at hsm
      have HSM := Lib.hid hsm
      have x0 := cell_of_blk hk35 0
      have x1 := cell_of_blk hk35 1
      have x2 := cell_of_blk hk35 2
      have x3 := cell_of_blk hk35 3
      have x4 := cell_of_blk hk35 4
      have x5 := cell_of_blk hk35 5
      have x6 := cell_of_blk hk35 6
      have HW5 := Lib.hid hW5
      unfold ndV rawCells nd0 raw0
      simp only [Nd.K, Nd.O, Nd.N, Nd.I, Nd.S, Nd.E, Nd.T, List.length_nil]
      clear hb4 hb5 hk5 hk35 hW5 hd' HRD hsm
      go_upto_region 7 with fail
      rw [← HW5.out]
      go_wp2_with fail
      refine HSM.out.mono ?_
      rintro e w7 ⟨rfl, hb7⟩
      have HB7 := Lib.hid (HB5.out.trans (hb7.mono HB5.out.size))
      clear hb7 HSM
      go_wp2_with fail
      go_ret
      exact ⟨rfl, HB7.out⟩
end Go.Proofs.YtapgagfeghfooaaDoor.ima
