/- An image that is cut, or has more behind it, is none. Conditions: the node was read; the library's MaxLen holds a number. -/
import Derived.Test.YtdihhlidjacmiaaDoorImaSpeaks
import Derived.Test.YtdihhlidjacmiaaDoorTreSees
namespace Go.Proofs.YtdihhlidjacmiaaDoor.ima
set_option maxRecDepth 100000
open Go.RowKit Go.Proofs.YtdihhlidjacmiaaDoor.words Go.Proofs.YtdihhlidjacmiaaDoor.ext Go.Proofs.YtdihhlidjacmiaaDoor.name Go.Proofs.YtdihhlidjacmiaaDoor.tre

theorem extract_list (s : ByteArray) (k : Nat) : (s.extract 0 k).data.toList = s.data.toList.take k := by
  rw [ByteArray.data_extract, Array.toList_extract]
  simp
theorem decode_none {s : ByteArray} {m : Int} {w : World} (hm : w.cell? ⟨0, 0, none⟩ = some (.int .i64 m)) (hs : s.size ≤ 140737488355328)
    (hd : ∀ n c, nodeP 4097 0 (Lib.trimPrefix s.data.toList magic.data.toList) = some (n, [], c) → depth n ≤ 1000) (hn : decB s = none) :
    Calls Tryd.prog 17 #[.string s] w fun e w' => e = .returned (.tuple #[ndV nd0 raw0, .int .i64 1]) ∧ Below w.heap.size w w' := by
  refine (decode_any s m w hm hs hd).mono ?_
  rintro e w' ⟨⟨n, r, h, _⟩ | ⟨_, he⟩, hb⟩
  · rw [hn] at h
    cases h
  · exact ⟨he, hb⟩
theorem decL_no {l : List UInt8} (h : ∀ m c, nodeP 4097 0 l ≠ some (m, [], c)) : decL l = none := by
  rcases hd : nodeP 4097 0 l with _ | ⟨n, l', c⟩
  · exact decL_none1 hd
  · rcases l' with _ | ⟨x, l'⟩
    · exact absurd hd (h n c)
    · exact decL_none2 hd (by simp)
/-- Of an image that is cut. -/
theorem cut_none {n : Nd} {k : Nat} (h : treeB n = true) (hc : count n ≤ 4096) (hk : k < (imgB n).size) :
    decB ((imgB n).extract 0 k) = none ∧ ∀ x c, nodeP 4097 0 (Lib.trimPrefix ((imgB n).extract 0 k).data.toList magic.data.toList) = some (x, [], c) → depth x ≤ 1000 := by
  have hl : ((imgB n).extract 0 k).data.toList = (magic.data.toList ++ nb n).take k := by rw [extract_list, imgB_list]
  have hz := imgB_size n
  have hm7 : magic.data.toList.length = 7 := rfl
  rcases Nat.lt_or_ge k 7 with h7 | h7
  · have hp : Lib.hasPrefix ((imgB n).extract 0 k).data.toList magic.data.toList = false := by
      rcases hp : Lib.hasPrefix ((imgB n).extract 0 k).data.toList magic.data.toList with _ | _
      · rfl
      · have := (List.isPrefixOf_iff_prefix.1 hp).length_le
        rw [hl, List.length_take, hm7] at this
        omega
    refine ⟨by unfold decB; rw [hp, if_neg (fun h => by cases h.1)], fun x c hx => ?_⟩
    have h1 := nodeP_inv 4097 _ _ _ _ _ hx
    have h2 : (Lib.trimPrefix ((imgB n).extract 0 k).data.toList magic.data.toList).length < 7 := by
      unfold Lib.trimPrefix
      rw [hp]
      show (((imgB n).extract 0 k).data.toList).length < 7
      rw [hl, List.length_take]
      omega
    rw [h1.1, List.length_append] at h2
    have := h1.2
    omega
  · have e : (magic.data.toList ++ nb n).take k = magic.data.toList ++ (nb n).take (k - 7) := by
      rw [List.take_append, hm7, List.take_of_length_le (by rw [hm7]; exact h7)]
    have ht : Lib.trimPrefix ((imgB n).extract 0 k).data.toList magic.data.toList = (nb n).take (k - 7) := by rw [hl, e, trimPrefix_app]
    have hcut := decL_cut h hc (List.take_append_drop (k - 7) (nb n)) (by
      intro h0
      have := congrArg List.length h0
      rw [List.length_drop] at this
      simp at this
      omega)
    refine ⟨?_, fun x c hx => ?_⟩
    · unfold decB
      rw [ht]
      split
      · exact decL_no hcut
      · rfl
    · rw [ht] at hx
      exact absurd hx (hcut x c)
/-- Of an image with more behind it. -/
theorem more_none {n : Nd} {r : ByteArray} (h : treeB n = true) (hc : count n ≤ 4096) (hr : r.size ≠ 0) :
    decB (imgB n ++ r) = none ∧ ∀ x c, nodeP 4097 0 (Lib.trimPrefix (imgB n ++ r).data.toList magic.data.toList) = some (x, [], c) → depth x ≤ 1000 := by
  have ht : Lib.trimPrefix (imgB n ++ r).data.toList magic.data.toList = nb n ++ r.data.toList := by
    rw [ByteArray.data_append, Array.toList_append, imgB_list, List.append_assoc, trimPrefix_app]
  have hm := decL_more (n := n) (r := r.data.toList) h hc (by
    intro h0
    have := congrArg List.length h0
    rw [ext.size_list] at this
    exact hr this)
  refine ⟨?_, fun x c hx => ?_⟩
  · unfold decB
    rw [ht]
    split
    · exact decL_no hm
    · rfl
  · rw [ht] at hx
    exact absurd hx (hm x c)
theorem not_empty {q : ByteArray} (h : 0 < q.size) : q.toList.isEmpty = false := by
  rw [List.isEmpty_eq_false_iff]
  intro e
  have : q.toList.length = 0 := by rw [e]; rfl
  rw [ext.to_list, ext.size_list] at this
  omega
theorem imgB_pos (n : Nd) : 0 < (imgB n).size := by rw [imgB_size]; omega
set_option maxHeartbeats 6400000 in
theorem law_cuts (n : Nd) (r : Raw) (at_ : Nat) (more : ByteArray) (m : Int) (w : World) (hN : NdAt w w.heap.size n r) (hm : w.cell? ⟨0, 0, none⟩ = some (.int .i64 m)) (hat : at_ < 65536) (hmz : more.size ≤ 140737488355328) :
    Calls Tryd.prog 5 #[ndV n r, .int .u16 (at_ : Int), .string more] w fun e w' => e = .returned (.bool true) ∧ Below w.heap.size w w' := by
  obtain ⟨W1, hW1⟩ : ∃ W1, W1 = w.alloc (.cells (rawCells n r) 26) := ⟨_, rfl⟩
  have hb1 : Below w.heap.size w W1 := by rw [hW1]; exact (Below.refl _ _).alloc (Nat.le_refl _) _
  have hx1 : Box W1 w.heap.size n r := by rw [hW1]; exact Box.new w n r
  have HX1 := Lib.hid hx1
  have HN1 := Lib.hid (hN.later hb1)
  have HM1 := Lib.hid (below_cell hm hb1)
  have HB1 := Lib.hid hb1
  unfold rawCells at hW1
  have HW1 := Lib.hid hW1
  have HTm := Lib.hid hN.tame
  clear hN hm hW1 hb1 hx1
  unfold ndV rawCells
  go_enter Tryd.func5, Tryd.ntmps5
  go_upto_region 1 with fail
  rw [← HW1.out]
  go_wp2_with fail
  refine (ispeaks_any m W1 HM1.out).mono ?_
  rintro e w2 ⟨rfl, hb2⟩
  have HX2 := Lib.hid (HX1.out.below hb2)
  have HN2 := Lib.hid (HN1.out.later hb2)
  have HM2 := Lib.hid (below_cell HM1.out hb2)
  have HB2 := Lib.hid (HB1.out.trans (hb2.mono HB1.out.size))
  clear hb2 HX1 HN1 HM1 HB1 HW1
  obtain ⟨b0, b1, b2, b3, b4, b5, b6⟩ := HX2.out.cells
  rcases hsm : smallB n with _ | _
  · have hs := small_is 0 n r w2 HN2.out (by rw [hsm]; rfl)
    unfold ndV rawCells at hs
    have HS := Lib.hid hs
    clear hs hsm
    go_wp2_with fail
    refine HS.out.mono ?_
    rintro e w3 ⟨rfl, hb3⟩
    have HB3 := Lib.hid (HB2.out.trans (hb3.mono HB2.out.size))
    clear hb3 HS HB2 HX2 HN2 HM2 b0 b1 b2 b3 b4 b5 b6
    go_wp2_with fail
    go_ret
    exact ⟨rfl, HB3.out⟩
  have hs := small_is 1 n r w2 HN2.out (by rw [hsm]; rfl)
  unfold ndV rawCells at hs
  have HS := Lib.hid hs
  have hdp : depth n ≤ 1000 := Nat.le_trans (smallB_depth hsm) (by decide)
  have HSame := Lib.hid (tree_same hsm HTm.out)
  have HSm := Lib.hid hsm
  clear hs hsm
  go_wp2_with fail
  refine HS.out.mono ?_
  rintro e w3 ⟨rfl, hb3⟩
  have HX3 := Lib.hid (HX2.out.below hb3)
  have HN3 := Lib.hid (HN2.out.later hb3)
  have HM3 := Lib.hid (below_cell HM2.out hb3)
  have HB3 := Lib.hid (HB2.out.trans (hb3.mono HB2.out.size))
  clear hb3 HX2 HN2 HM2 HB2 HS b0 b1 b2 b3 b4 b5 b6
  obtain ⟨b0, b1, b2, b3, b4, b5, b6⟩ := HX3.out.cells
  have hrr := refright_node n r w3 HN3.out hdp
  unfold ndV rawCells at hrr
  rcases hrf : refB n with _ | _
  · rw [hrf] at hrr
    have HR := Lib.hid hrr
    clear hrr hrf
    go_wp2_with fail
    refine HR.out.mono ?_
    rintro e w4 ⟨rfl, hb4⟩
    have HB4 := Lib.hid (HB3.out.trans (hb4.mono HB3.out.size))
    clear hb4 HX3 HN3 HM3 HB3 HR b0 b1 b2 b3 b4 b5 b6
    go_wp2_with fail
    go_ret
    exact ⟨rfl, HB4.out⟩
  rw [hrf] at hrr
  have HR := Lib.hid hrr
  have hall := refB_all hrf
  have hct := smallB_count HSm.out hall HTm.out
  have hnb := smallB_nb HSm.out hall HTm.out
  have htr : treeB n = true := by rw [HSame.out, hrf]
  have HTr := Lib.hid htr
  have HAll := Lib.hid hall
  clear hrr hrf htr hall
  by_cases hlong : 100 < more.size
  · have g1 : (100 : Int) < (more.size : Int) := by omega
    go_wp2_with fail
    refine HR.out.mono ?_
    rintro e w4 ⟨rfl, hb4⟩
    have HB4 := Lib.hid (HB3.out.trans (hb4.mono HB3.out.size))
    clear hb4 HX3 HN3 HM3 HB3 HR b0 b1 b2 b3 b4 b5 b6
    go_wp2_with fail
    go_ret
    exact ⟨rfl, HB4.out⟩
  have g1 : ¬ (100 : Int) < (more.size : Int) := by omega
  go_wp2_with fail
  refine HR.out.mono ?_
  rintro e w4 ⟨rfl, hb4⟩
  have HX4 := Lib.hid (HX3.out.below hb4)
  have HN4 := Lib.hid (HN3.out.later hb4)
  have HM4 := Lib.hid (below_cell HM3.out hb4)
  have HB4 := Lib.hid (HB3.out.trans (hb4.mono HB3.out.size))
  have he := encode_yes n r m w4 HN4.out HM4.out hdp HTr.out HAll.out (by omega) (by omega)
  obtain ⟨q, hq⟩ : ∃ q, q = imgB n := ⟨_, rfl⟩
  have hq1 : 0 < q.size := by rw [hq]; exact imgB_pos n
  have hq2 : q.size ≤ 40007 := by rw [hq, imgB_size]; omega
  rw [← hq] at he
  unfold ndV rawCells at he
  have HE := Lib.hid he
  have HQ := Lib.hid hq
  have hne : q.toList.isEmpty = false := not_empty hq1
  clear hb4 HX3 HN3 HM3 HB3 HR he hq b0 b1 b2 b3 b4 b5 b6
  obtain ⟨b0, b1, b2, b3, b4, b5, b6⟩ := HX4.out.cells
  go_wp2_with fail
  refine HE.out.mono ?_
  rintro e w5 ⟨rfl, hb5⟩
  have HM5 := Lib.hid (below_cell HM4.out hb5)
  have HB5 := Lib.hid (HB4.out.trans (hb5.mono HB4.out.size))
  clear hb5 HX4 HN4 HM4 HB4 HE b0 b1 b2 b3 b4 b5 b6
  have hkq : at_ % q.size < q.size := Nat.mod_lt _ hq1
  have hcut := cut_none (k := at_ % q.size) HTr.out (by omega) (by rw [← HQ.out]; exact hkq)
  rw [← HQ.out] at hcut
  have hez : (q.extract 0 (at_ % q.size)).size ≤ 140737488355328 := by rw [ByteArray.size_extract]; omega
  have HC1 := Lib.hid (decode_none HM5.out hez hcut.2 hcut.1)
  obtain ⟨k, hk⟩ : ∃ k, k = at_ % q.size := ⟨_, rfl⟩
  have hkq2 : k < q.size := by rw [hk]; exact hkq
  clear hcut hez
  go_wp2_with fail
  refine HC1.out.mono ?_
  rintro e w6 ⟨rfl, hb6⟩
  clear hk hkq2 hkq
  obtain ⟨W7, hW7⟩ : ∃ W7, W7 = w6.alloc (.cells (rawCells nd0 raw0) 26) := ⟨_, rfl⟩
  have ha7 : Below w6.heap.size w6 W7 := by rw [hW7]; exact (Below.refl _ _).alloc (Nat.le_refl _) _
  have hB6 := HB5.out.trans (hb6.mono HB5.out.size)
  have hB7 := hB6.trans (ha7.mono hB6.size)
  have HM7 := Lib.hid (below_cell (below_cell HM5.out hb6) ha7)
  have HB7 := Lib.hid hB7
  have hW7' : W7 = w6.alloc (.cells #[.int .i64 0, .bool false, .slice none 0 0, .slice none 0 0, .int .i64 0, .slice none 0 0, .string ⟨#[]⟩] 26) := hW7
  have HW7 := Lib.hid hW7'
  rw [show ndV nd0 raw0 = .agg #[.int .i64 0, .bool false, .slice none 0 0, .slice none 0 0, .int .i64 0, .slice none 0 0, .string ⟨#[]⟩] from rfl]
  clear hb6 ha7 hB6 hB7 hW7 hW7' HC1 HB5 HM5
  have hcat : ¬ 9223372036854775807 < q.size + more.size := by omega
  by_cases hm0 : more.size = 0
  · have hmore : more = ⟨#[]⟩ := size_nil hm0
    subst hmore
    have hqq : q ++ (⟨#[]⟩ : ByteArray) = q := by
      apply ByteArray.ext
      rw [ByteArray.data_append]
      exact Array.append_empty
    have hd := decode_img n m W7 HM7.out HTr.out (by omega) (by omega)
    rw [← HQ.out] at hd
    have HD := Lib.hid hd
    have HQQ := Lib.hid hqq
    clear hd hqq
    go_upto_region 9 with fail
    rw [← HW7.out]
    go_wp2_with fail
    rw [HQQ.out]
    refine HD.out.mono ?_
    rintro e w8 ⟨r8, rfl, hn8, hb8⟩
    have HB8 := Lib.hid (HB7.out.trans (hb8.mono HB7.out.size))
    have HB9 := Lib.hid (HB8.out.alloc HB8.out.size (.cells (rawCells n r8) 26))
    clear hb8 hn8 HD HB7 HM7 HW7
    unfold rawCells at HB9
    unfold ndV rawCells
    go_wp2_with fail
    go_ret
    exact ⟨rfl, HB9.out⟩
  · have hmn := more_none (r := more) HTr.out (by omega) hm0
    rw [← HQ.out] at hmn
    have HD := Lib.hid (decode_none HM7.out (by rw [ByteArray.size_append]; omega) hmn.2 hmn.1)
    have hme : more.toList.isEmpty = false := not_empty (by omega)
    clear hmn hm0
    go_upto_region 9 with fail
    rw [← HW7.out]
    go_wp2_with fail
    refine HD.out.mono ?_
    rintro e w8 ⟨rfl, hb8⟩
    have HB8 := Lib.hid (HB7.out.trans (hb8.mono HB7.out.size))
    have HB9 := Lib.hid (HB8.out.alloc HB8.out.size (.cells (rawCells nd0 raw0) 26))
    rw [show ndV nd0 raw0 = .agg #[.int .i64 0, .bool false, .slice none 0 0, .slice none 0 0, .int .i64 0, .slice none 0 0, .string ⟨#[]⟩] from rfl]
    clear hb8 HD HB7 HM7 HW7
    go_wp2_with fail
    go_ret
    exact ⟨rfl, HB9.out⟩
end Go.Proofs.YtdihhlidjacmiaaDoor.ima
