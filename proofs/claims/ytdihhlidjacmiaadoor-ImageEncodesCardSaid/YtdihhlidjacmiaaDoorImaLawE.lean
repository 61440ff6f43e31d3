/- The image of any tree is the document's, or it has none; and it is read as that tree. Conditions: the node was read; the library's MaxLen holds a number. -/
import Derived.Test.YtdihhlidjacmiaaDoorImaSpeaks
import Derived.Test.YtdihhlidjacmiaaDoorTreSees
namespace Go.Proofs.YtdihhlidjacmiaaDoor.ima
set_option maxRecDepth 100000
open Go.RowKit Go.Proofs.YtdihhlidjacmiaaDoor.words Go.Proofs.YtdihhlidjacmiaaDoor.ext Go.Proofs.YtdihhlidjacmiaaDoor.name Go.Proofs.YtdihhlidjacmiaaDoor.tre

set_option maxHeartbeats 6400000 in
theorem law_encodes (n : Nd) (r : Raw) (m : Int) (w : World) (hN : NdAt w w.heap.size n r) (hm : w.cell? ⟨0, 0, none⟩ = some (.int .i64 m)) :
    Calls Tryd.prog 3 #[ndV n r] w fun e w' => e = .returned (.bool true) ∧ Below w.heap.size w w' := by
  obtain ⟨W1, hW1⟩ : ∃ W1, W1 = w.alloc (.cells (rawCells n r) 26) := ⟨_, rfl⟩
  have hb1 : Below w.heap.size w W1 := by rw [hW1]; exact (Below.refl _ _).alloc (Nat.le_refl _) _
  have hx1 : Box W1 w.heap.size n r := by rw [hW1]; exact Box.new w n r
  have HX1 := Lib.hid hx1
  have HN1 := Lib.hid (hN.later hb1)
  have HM1 := Lib.hid (below_cell hm hb1)
  have HB1 := Lib.hid hb1
  unfold rawCells at hW1
  have HW1 := Lib.hid hW1
  have HTm := Lib.hid hN.tame
  clear hN hm hW1 hb1 hx1
  unfold ndV rawCells
  go_enter Tryd.func3, Tryd.ntmps3
  go_upto_region 1 with fail
  rw [← HW1.out]
  go_wp2_with fail
  refine (ispeaks_any m W1 HM1.out).mono ?_
  rintro e w2 ⟨rfl, hb2⟩
  have HX2 := Lib.hid (HX1.out.below hb2)
  have HN2 := Lib.hid (HN1.out.later hb2)
  have HM2 := Lib.hid (below_cell HM1.out hb2)
  have HB2 := Lib.hid (HB1.out.trans (hb2.mono HB1.out.size))
  clear hb2 HX1 HN1 HM1 HB1 HW1
  obtain ⟨b0, b1, b2, b3, b4, b5, b6⟩ := HX2.out.cells
  rcases hsm : smallB n with _ | _
  · have hs := small_is 0 n r w2 HN2.out (by rw [hsm]; rfl)
    unfold ndV rawCells at hs
    have HS := Lib.hid hs
    clear hs hsm
    go_wp2_with fail
    refine HS.out.mono ?_
    rintro e w3 ⟨rfl, hb3⟩
    have HB3 := Lib.hid (HB2.out.trans (hb3.mono HB2.out.size))
    clear hb3 HS HB2 HX2 HN2 HM2 b0 b1 b2 b3 b4 b5 b6
    go_wp2_with fail
    go_ret
    exact ⟨rfl, HB3.out⟩
  have hs := small_is 1 n r w2 HN2.out (by rw [hsm]; rfl)
  unfold ndV rawCells at hs
  have HS := Lib.hid hs
  have hdp : depth n ≤ 1000 := Nat.le_trans (smallB_depth hsm) (by decide)
  have hsame := tree_same hsm HTm.out
  have HSm := Lib.hid hsm
  clear hs hsm
  go_wp2_with fail
  refine HS.out.mono ?_
  rintro e w3 ⟨rfl, hb3⟩
  have HX3 := Lib.hid (HX2.out.below hb3)
  have HN3 := Lib.hid (HN2.out.later hb3)
  have HM3 := Lib.hid (below_cell HM2.out hb3)
  have HB3 := Lib.hid (HB2.out.trans (hb3.mono HB2.out.size))
  clear hb3 HX2 HN2 HM2 HB2 HS b0 b1 b2 b3 b4 b5 b6
  obtain ⟨b0, b1, b2, b3, b4, b5, b6⟩ := HX3.out.cells
  rcases hrf : refB n with _ | _
  · rw [hrf] at hsame
    have he := encode_no n r m w3 HN3.out HM3.out hdp hsame
    unfold ndV rawCells at he
    have HE := Lib.hid he
    have HRf := Lib.hid hrf
    clear he hsame hrf
    go_wp2_with fail
    refine HE.out.mono ?_
    rintro e w4 ⟨rfl, hb4⟩
    have HX4 := Lib.hid (HX3.out.below hb4)
    have hf := refencode_no n r w4 (HN3.out.later hb4) hdp HRf.out
    unfold ndV rawCells at hf
    have HF := Lib.hid hf
    have HB4 := Lib.hid (HB3.out.trans (hb4.mono HB3.out.size))
    clear hb4 HX3 HN3 HM3 HB3 HE hf b0 b1 b2 b3 b4 b5 b6
    obtain ⟨b0, b1, b2, b3, b4, b5, b6⟩ := HX4.out.cells
    go_wp2_with fail
    refine HF.out.mono ?_
    rintro e w5 ⟨rfl, hb5⟩
    have HB5 := Lib.hid (HB4.out.trans (hb5.mono HB4.out.size))
    clear hb5 HB4 HX4 HF b0 b1 b2 b3 b4 b5 b6
    go_wp2_with fail
    go_ret
    exact ⟨rfl, HB5.out⟩
  rw [hrf] at hsame
  have hall := refB_all hrf
  have hct := smallB_count HSm.out hall HTm.out
  have hnb := smallB_nb HSm.out hall HTm.out
  have he := encode_yes n r m w3 HN3.out HM3.out hdp hsame hall (by omega) (by omega)
  obtain ⟨q, hq⟩ : ∃ q, q = imgB n := ⟨_, rfl⟩
  rw [← hq] at he
  unfold ndV rawCells at he
  have HE := Lib.hid he
  have HRf := Lib.hid hrf
  have HTr := Lib.hid hsame
  have HQ := Lib.hid hq
  clear he hsame hrf hall hq
  go_wp2_with fail
  refine HE.out.mono ?_
  rintro e w4 ⟨rfl, hb4⟩
  have HX4 := Lib.hid (HX3.out.below hb4)
  have HN4 := Lib.hid (HN3.out.later hb4)
  have HM4 := Lib.hid (below_cell HM3.out hb4)
  have hf := refencode_yes n r w4 HN4.out hdp HRf.out (by omega) (by omega)
  rw [← HQ.out] at hf
  unfold ndV rawCells at hf
  have HF := Lib.hid hf
  have HB4 := Lib.hid (HB3.out.trans (hb4.mono HB3.out.size))
  clear hb4 HX3 HN3 HM3 HB3 HE hf b0 b1 b2 b3 b4 b5 b6
  obtain ⟨b0, b1, b2, b3, b4, b5, b6⟩ := HX4.out.cells
  go_wp2_with fail
  refine HF.out.mono ?_
  rintro e w5 ⟨rfl, hb5⟩
  have HX5 := Lib.hid (HX4.out.below hb5)
  have HN5 := Lib.hid (HN4.out.later hb5)
  have HB5 := Lib.hid (HB4.out.trans (hb5.mono HB4.out.size))
  have hc := decode_img n m w5 (below_cell HM4.out hb5) HTr.out (by omega) (by omega)
  rw [← HQ.out] at hc
  have HC := Lib.hid hc
  clear hb5 HB4 HX4 HN4 HM4 HF hc b0 b1 b2 b3 b4 b5 b6
  obtain ⟨b0, b1, b2, b3, b4, b5, b6⟩ := HX5.out.cells
  go_wp2_with fail
  refine HC.out.mono ?_
  rintro e w6 ⟨r6, rfl, hn6, hb6⟩
  have hB6 := HB5.out.trans (hb6.mono HB5.out.size)
  obtain ⟨W7, hW7⟩ : ∃ W7, W7 = w6.alloc (.cells (rawCells n r6) 26) := ⟨_, rfl⟩
  have ha7 : Below w6.heap.size w6 W7 := by rw [hW7]; exact (Below.refl _ _).alloc (Nat.le_refl _) _
  have hb7 : Below w.heap.size w W7 := hB6.trans (ha7.mono hB6.size)
  have hx7 : Box W7 w6.heap.size n r6 := by rw [hW7]; exact Box.new w6 _ _
  have hX7 : Box W7 w.heap.size n r := (HX5.out.below hb6).below ha7
  have hs := rsame_at W7 (depth n + 1) n n r6 r W7 (Nat.lt_succ_self _) ((hn6.at_ fun k hk => hk.lt).later ha7) ((HN5.out.later hb6).later ha7) (Below.refl _ _)
  rw [sameB_refl] at hs
  unfold ndV rawCells at hs
  have HS := Lib.hid hs
  unfold rawCells at hW7
  have HW7 := Lib.hid hW7
  have HB7 := Lib.hid hb7
  clear b0 b1 b2 b3 b4 b5 b6
  obtain ⟨b0, b1, b2, b3, b4, b5, b6⟩ := hX7.cells
  obtain ⟨d0, d1, d2, d3, d4, d5, d6⟩ := hx7.cells
  clear hn6 hb6 hB6 hW7 ha7 hb7 hx7 hX7 hs HC HB5 HX5 HN5
  unfold ndV rawCells
  go_upto_region 10 with fail
  rw [← HW7.out]
  go_wp2_with fail
  refine HS.out.mono ?_
  rintro e w8 ⟨rfl, hb8⟩
  have HB8 := Lib.hid (HB7.out.trans (hb8.mono HB7.out.size))
  clear hb8 HS HB7 HW7 b0 b1 b2 b3 b4 b5 b6 d0 d1 d2 d3 d4 d5 d6
  go_wp2_with fail
  go_ret
  exact ⟨rfl, HB8.out⟩
end Go.Proofs.YtdihhlidjacmiaaDoor.ima
