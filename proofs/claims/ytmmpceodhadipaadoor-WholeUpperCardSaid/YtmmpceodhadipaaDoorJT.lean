/- The law WholeUpper: a branch without entries upon all changes nothing but how many are above; an opaque one hides all; without it all is as it was. Conditions: the trees and the names lie in memory; the library's MaxLen holds a number. -/
import Derived.Test.YtmmpceodhadipaaDoorJS
import Derived.Deep.CutRange
namespace Go.Proofs.YtmmpceodhadipaaDoor.seen
set_option maxRecDepth 100000
open Go.RowKit Go.Proofs.YtmmpceodhadipaaDoor.words Go.Proofs.YtmmpceodhadipaaDoor.ext Go.Proofs.YtmmpceodhadipaaDoor.name Go.Proofs.YtmmpceodhadipaaDoor.tre Go.Proofs.YtmmpceodhadipaaDoor.stk

/-- The laws' Stack, whatever comes of it. -/
theorem stack_free {A : Option Addr} {c N1 : Nat} {T : List Nd} {rs : Nat → Raw} {m : Int} {w : World} (hl : T.length = N1) (hT : Trees w w.heap.size A T rs) (hm : w.cell? ⟨0, 0, none⟩ = some (.int .i64 m)) :
    Calls Tryd.prog 13 #[.slice A N1 c] w fun e w' => (∃ A' c' n b, e = .returned (.tuple #[.agg #[.slice A' n c', .int .i64 (n : Int)], .bool b]) ∧ (mayB T = true → n = N1 ∧ b = true ∧ ∃ L, StkOk w' A' c' L T)) ∧ Below w.heap.size w w' := by
  subst hl
  refine (stack_any A c T rs m w hT hm).mono ?_
  rintro e w' ⟨hst, hb⟩
  refine ⟨?_, hb⟩
  rcases hst with ⟨_, A', c', L, rfl, hok⟩ | ⟨hno, rfl⟩
  · exact ⟨A', c', T.length, true, rfl, fun _ => ⟨rfl, rfl, L, hok⟩⟩
  · exact ⟨none, 0, 0, false, rfl, fun h => by rw [hno] at h; cases h⟩
def oV (r : Raw) : Value := .agg #[.int .i64 2, .bool true, .slice r.An 0 r.cn, .slice r.Ai 0 r.ci, .int .i64 0, .slice r.Ae 0 r.ce, .string ⟨#[]⟩]
theorem o_any (r : Raw) (w : World) : Calls Tryd.prog 22 #[.agg #[.int .i64 2, .bool false, .slice r.An 0 r.cn, .slice r.Ai 0 r.ci, .int .i64 0, .slice r.Ae 0 r.ce, .string ⟨#[]⟩]] w fun e w' => e = .returned (oV r) ∧ Below w.heap.size w w' := opaque_any e0N r w
set_option maxHeartbeats 102400000 in
theorem law_up (A : Option Addr) (c : Nat) (T : List Nd) (rs : Nat → Raw) (An : Option Addr) (cn : Nat) (N : List ByteArray) (m : Int) (w : World) (hT : Trees w w.heap.size A T rs) (hm : w.cell? ⟨0, 0, none⟩ = some (.int .i64 m)) (hN : Txts w w.heap.size An N) (hlen : T.length * 112 ≤ 140737488351232) (hz : A = none → T.length = 0 ∧ c = 0) :
    Calls Tryd.prog 5 #[.slice A T.length c, .slice An N.length cn] w fun e w' => e = .returned (.bool true) ∧ Below w.heap.size w w' := by
  have HT := Lib.hid hT
  have HM := Lib.hid hm
  have HN := Lib.hid hN
  have HZ := Lib.hid hz
  clear hT hm hN hz
  have hi0 : (Tryd.prog.info? 39).map (fun i => (i.zero, i.size, i.bytes)) = some (some (.agg #[.int .i64 0, .bool false, .slice none 0 0, .slice none 0 0, .int .i64 0, .slice none 0 0, .string ⟨#[]⟩]), 7, 112) := by kernel_rfl
  obtain ⟨iS, hiS, zS0, zS1, zS2⟩ := info_parts hi0
  obtain ⟨N1, hN1⟩ : ∃ N1, N1 = T.length + 1 := ⟨_, rfl⟩
  have HN1 := Lib.hid hN1
  clear hi0 hN1
  go_enter Tryd.func5, Tryd.ntmps5
  go_wp2_with fail
  refine (onestack_any m w HM.out).mono ?_
  rintro e w1 ⟨rfl, hb1⟩
  have HB1 := Lib.hid hb1
  have HC := Lib.hid (may_any A c T rs w1 (HT.out.later hb1))
  clear hb1
  go_wp2_with fail
  refine HC.out.mono ?_
  rintro e w2 ⟨rfl, hb2⟩
  have HB2 := Lib.hid (HB1.out.trans (hb2.mono HB1.out.size))
  clear hb2 HC HB1
  rcases hmay : mayB T with _ | _
  · rw [mayI_no hmay]
    go_wp2_with fail
    go_ret
    exact ⟨rfl, HB2.out⟩
  rw [mayI_yes hmay]
  have HMay := Lib.hid hmay
  have hT8 := mayB_len hmay
  clear hmay
  by_cases hn20 : 20 < N.length
  · have g : (20 : Int) < (N.length : Int) := by omega
    go_wp2_with fail
    go_ret
    exact ⟨rfl, HB2.out⟩
  have g : ¬ (20 : Int) < (N.length : Int) := by omega
  have HC := Lib.hid (stack_any A c T rs m w2 (HT.out.later HB2.out) (below_cell HM.out HB2.out))
  go_wp2_with fail
  refine HC.out.mono ?_
  rintro e w3 ⟨hst, hb3⟩
  rcases hst with ⟨_, A5, c5, L5, rfl, hok5⟩ | ⟨hno, _⟩
  rotate_left 1
  · rw [HMay.out] at hno
    cases hno
  obtain ⟨W5, hW5⟩ : ∃ W5, W5 = w3.alloc (.cells #[.slice A5 T.length c5, .int .i64 (T.length : Int)] 28) := ⟨_, rfl⟩
  have hb5 : Below w3.heap.size w3 W5 := by rw [hW5]; exact (Below.refl _ _).alloc (Nat.le_refl _) _
  have HK5 := Lib.hid (show W5.heap[w3.heap.size]? = some (.cells #[.slice A5 T.length c5, .int .i64 (T.length : Int)] 28 (0, 0)) by rw [hW5]; exact heap_alloc_new w3 _)
  have HS5 := Lib.hid (StkOk.stkM (hok5.later hb5))
  have HL5 := Lib.hid hok5.len
  have HB5 := Lib.hid (HB2.out.trans ((hb3.trans (hb5.mono hb3.size)).mono HB2.out.size))
  have HW5 := Lib.hid hW5
  have HT5 := Lib.hid (HT.out.later HB5.out)
  have HM5 := Lib.hid (below_cell HM.out HB5.out)
  clear hb3 hb5 hok5 hW5 HC
  go_upto_region 6 with fail
  rw [← HW5.out]
  clear HW5
  obtain ⟨Wet, hWet⟩ : ∃ Wet, Wet = World.alloc W5 (.cells #[] 39) := ⟨_, rfl⟩
  have hxWet : Below W5.heap.size W5 Wet := by rw [hWet]; exact (Below.refl _ _).alloc (Nat.le_refl _) _
  have HOWet : Hid (World.ownsRow Wet W5.heap.size 39 7 (.slice (some ⟨W5.heap.size, 0, none⟩) 0 0) 0 []) := Lib.hid (by rw [hWet]; exact World.ownsRow_made W5 #[] 0 (Nat.le_refl _) (by decide) rfl)
  have HBWet := Lib.hid hxWet
  have HWWet := Lib.hid hWet.symm
  clear hWet hxWet
  go_upto_region 7 with (first
      | (at_builtin; rw [HWWet.out]; refine wpList_append_opt rfl (.tmp 39) (.tmp 40) 22 rfl W5.heap.size 39 iS _ 7 112 Tryd.underlying22 hiS zS0 zS1 zS2 rfl (by omega) (.slice (some ⟨W5.heap.size, 0, none⟩) 0 0) 0 [] rfl HOWet.out A T.length c (rowCells T rs) HZ.out rfl (rowCells_length T rs) (trees_lies (HT5.out.later HBWet.out)) (rowCells_one T rs) (by simp only [maxLen]; omega) (by omega) HBWet.out.size ?_; intro vr w6t hown hgrow; rw [Nat.zero_add, List.nil_append] at hown; obtain ⟨Ar, cr, rfl, _, _⟩ := own_facts hown; have HBw6t := Lib.hid (keep_grown HBWet.out HOWet.out hgrow (Nat.le_refl _) (Nat.le_refl _)); have HOw6t := Lib.hid hown; clear hown hgrow)
      | ((go_at_call 21; refine ((empty_any w6t).mono fun _ _ h => h.as e0_v).mono ?_); rintro e w7t ⟨r7, rfl, hn8, hb7⟩; have HBw7t := Lib.hid (HBw6t.out.trans (hb7.mono HBw6t.out.size)); have HOw7t := Lib.hid (ownL HOw6t.out hb7); clear hb7; obtain ⟨W8t, hW8t⟩ : ∃ W8t, W8t = World.alloc w7t (.cells (rawCells e0N r7) 39) := ⟨_, rfl⟩; have hxW8t : Below (World.heap w7t).size w7t W8t := (by rw [hW8t]; exact (Below.refl _ _).alloc (Nat.le_refl _) _); have HLW8t : Hid (Lies W8t (some ⟨(World.heap w7t).size, 0, none⟩) (rawCells e0N r7).toList) := Lib.hid (by rw [hW8t]; exact node_news w7t e0N r7); have HOW8t := Lib.hid (ownL HOw7t.out hxW8t); have HBW8t := Lib.hid (HBw7t.out.trans (hxW8t.mono HBw7t.out.size)); have HN8 := Lib.hid (hn8.later hxW8t); have HWW8t : Hid (World.alloc w7t (.cells #[.int .i64 2, .bool false, .slice r7.An 0 r7.cn, .slice r7.Ai 0 r7.ci, .int .i64 0, .slice r7.Ae 0 r7.ce, .string ⟨#[]⟩] 39) = W8t) := Lib.hid hW8t.symm; clear hW8t hxW8t hn8; unfold e0V)
      | (at_builtin; rw [HWW8t.out]; refine wpList_append_opt rfl (.tmp 41) (.tmp 43) 22 rfl W5.heap.size 39 iS _ 7 112 Tryd.underlying22 hiS zS0 zS1 zS2 rfl (by omega) (.slice Ar T.length cr) T.length (rowCells T rs) rfl HOW8t.out (some ⟨(World.heap w7t).size, 0, none⟩) 1 1 (rawCells e0N r7).toList (fun h => by cases h) rfl rfl HLW8t.out (one_cells e0N r7) (by simp only [maxLen]; omega) (by omega) HBW8t.out.size ?_; intro vr2 w9t hown hgrow; obtain ⟨Aq, cq, rfl, _, _⟩ := own_facts hown; have HBw9t := Lib.hid (keep_grown HBW8t.out HOW8t.out hgrow (Nat.le_refl _) (Nat.le_refl _)); have hn9 : NdAt w9t w9t.heap.size e0N r7 := e0_at HN8.out; have HCw9t := Lib.hid (stack_free (c := cq) (N1 := N1) (m := m) (by rw [HN1.out, List.length_append, List.length_singleton]) (own_more rfl hown (fun i x hx => ((HT5.out.later HBw9t.out) i x hx).2) hn9) (below_cell HM5.out HBw9t.out)); clear hown hgrow hn9; rw [← HN1.out])
      | ((go_at_call 13; refine HCw9t.out.mono ?_); rintro e w10t ⟨⟨At, ct, nt, bt, rfl, hstt⟩, hb10⟩; obtain ⟨W11, hW11⟩ : ∃ W11, W11 = World.alloc w10t (.cells #[.slice At nt ct, .int .i64 (nt : Int)] 28) := ⟨_, rfl⟩; have hxW11 : Below (World.heap w10t).size w10t W11 := (by rw [hW11]; exact (Below.refl _ _).alloc (Nat.le_refl _) _); have HKW11 := Lib.hid (show W11.heap[(World.heap w10t).size]? = some (.cells #[.slice At nt ct, .int .i64 (nt : Int)] 28 (0, 0)) by rw [hW11]; exact heap_alloc_new w10t _); have hb911 := hb10.trans (hxW11.mono hb10.size); have HBzW11 := Lib.hid (HBw9t.out.trans (hb911.mono HBw9t.out.size)); have HStt : Hid (mayB (T ++ [e0N]) = true → nt = N1 ∧ bt = true ∧ ∃ L, StkOk W11 At ct L (T ++ [e0N])) := Lib.hid (fun h => by obtain ⟨h1, h2, L, h3⟩ := hstt h; exact ⟨h1, h2, L, h3.later hxW11⟩); have HWzW11 := Lib.hid hW11; clear hstt hb10 hxW11 hb911 hW11))
  rw [← HWzW11.out]
  clear HWzW11
  obtain ⟨Weu, hWeu⟩ : ∃ Weu, Weu = World.alloc W11 (.cells #[] 39) := ⟨_, rfl⟩
  have hxWeu : Below W11.heap.size W11 Weu := by rw [hWeu]; exact (Below.refl _ _).alloc (Nat.le_refl _) _
  have HOWeu : Hid (World.ownsRow Weu W11.heap.size 39 7 (.slice (some ⟨W11.heap.size, 0, none⟩) 0 0) 0 []) := Lib.hid (by rw [hWeu]; exact World.ownsRow_made W11 #[] 0 (Nat.le_refl _) (by decide) rfl)
  have HBWeu := Lib.hid hxWeu
  have HWWeu := Lib.hid hWeu.symm
  clear hWeu hxWeu
  go_upto_region 8 with (first
      | (at_builtin; rw [HWWeu.out]; refine wpList_append_opt rfl (.tmp 49) (.tmp 50) 22 rfl W11.heap.size 39 iS _ 7 112 Tryd.underlying22 hiS zS0 zS1 zS2 rfl (by omega) (.slice (some ⟨W11.heap.size, 0, none⟩) 0 0) 0 [] rfl HOWeu.out A T.length c (rowCells T rs) HZ.out rfl (rowCells_length T rs) (trees_lies (HT5.out.later (HBzW11.out.trans (HBWeu.out.mono HBzW11.out.size)))) (rowCells_one T rs) (by simp only [maxLen]; omega) (by omega) HBWeu.out.size ?_; intro vr w6u hown hgrow; rw [Nat.zero_add, List.nil_append] at hown; obtain ⟨Ar, cr, rfl, _, _⟩ := own_facts hown; have HBw6u := Lib.hid (keep_grown HBWeu.out HOWeu.out hgrow (Nat.le_refl _) (Nat.le_refl _)); have HOw6u := Lib.hid hown; clear hown hgrow)
      | ((go_at_call 21; refine ((empty_any w6u).mono fun _ _ h => h.as e0_v).mono ?_); rintro e w7u ⟨r7, rfl, hn7, hb7⟩; have HN7 := Lib.hid hn7; have HBw7u := Lib.hid (HBw6u.out.trans (hb7.mono HBw6u.out.size)); have HOw7u := Lib.hid (ownL HOw6u.out hb7); clear hn7 hb7; unfold e0V)
      | ((go_at_call 22; refine (o_any r7 w7u).mono ?_); rintro e w7bu ⟨rfl, hb8⟩; have HBw7bu := Lib.hid (HBw7u.out.trans (hb8.mono HBw7u.out.size)); have HOw7bu := Lib.hid (ownL HOw7u.out hb8); have hn8 : NdAt w7bu w7bu.heap.size oN r7 := o_at HN7.out; clear hb8; obtain ⟨W8u, hW8u⟩ : ∃ W8u, W8u = World.alloc w7bu (.cells (rawCells oN r7) 39) := ⟨_, rfl⟩; have hxW8u : Below (World.heap w7bu).size w7bu W8u := (by rw [hW8u]; exact (Below.refl _ _).alloc (Nat.le_refl _) _); have HLW8u : Hid (Lies W8u (some ⟨(World.heap w7bu).size, 0, none⟩) (rawCells oN r7).toList) := Lib.hid (by rw [hW8u]; exact node_news w7bu oN r7); have HOW8u := Lib.hid (ownL HOw7bu.out hxW8u); have HBW8u := Lib.hid (HBw7bu.out.trans (hxW8u.mono HBw7bu.out.size)); have HN8 := Lib.hid (hn8.later hxW8u); have HWW8u : Hid (World.alloc w7bu (.cells #[.int .i64 2, .bool true, .slice r7.An 0 r7.cn, .slice r7.Ai 0 r7.ci, .int .i64 0, .slice r7.Ae 0 r7.ce, .string ⟨#[]⟩] 39) = W8u) := Lib.hid hW8u.symm; clear hW8u hxW8u hn8; unfold oV)
      | (at_builtin; rw [HWW8u.out]; refine wpList_append_opt rfl (.tmp 51) (.tmp 54) 22 rfl W11.heap.size 39 iS _ 7 112 Tryd.underlying22 hiS zS0 zS1 zS2 rfl (by omega) (.slice Ar T.length cr) T.length (rowCells T rs) rfl HOW8u.out (some ⟨(World.heap w7bu).size, 0, none⟩) 1 1 (rawCells oN r7).toList (fun h => by cases h) rfl rfl HLW8u.out (one_cells oN r7) (by simp only [maxLen]; omega) (by omega) HBW8u.out.size ?_; intro vr2 w9u hown hgrow; obtain ⟨Aq, cq, rfl, _, _⟩ := own_facts hown; have HBw9u := Lib.hid (keep_grown HBW8u.out HOW8u.out hgrow (Nat.le_refl _) (Nat.le_refl _)); have hn9 : NdAt w9u w9u.heap.size oN r7 := o_at HN7.out; have HCw9u := Lib.hid (stack_free (c := cq) (N1 := N1) (m := m) (by rw [HN1.out, List.length_append, List.length_singleton]) (own_more rfl hown (fun i x hx => ((HT5.out.later (HBzW11.out.trans (HBw9u.out.mono HBzW11.out.size))) i x hx).2) hn9) (below_cell HM5.out (HBzW11.out.trans (HBw9u.out.mono HBzW11.out.size)))); clear hown hgrow hn9; rw [← HN1.out])
      | ((go_at_call 13; refine HCw9u.out.mono ?_); rintro e w10u ⟨⟨Au, cu, nu, bu, rfl, hstu⟩, hb10⟩; obtain ⟨W12, hW12⟩ : ∃ W12, W12 = World.alloc w10u (.cells #[.slice Au nu cu, .int .i64 (nu : Int)] 28) := ⟨_, rfl⟩; have hxW12 : Below (World.heap w10u).size w10u W12 := (by rw [hW12]; exact (Below.refl _ _).alloc (Nat.le_refl _) _); have HKW12 := Lib.hid (show W12.heap[(World.heap w10u).size]? = some (.cells #[.slice Au nu cu, .int .i64 (nu : Int)] 28 (0, 0)) by rw [hW12]; exact heap_alloc_new w10u _); have hb911 := hb10.trans (hxW12.mono hb10.size); have HBzW12 := Lib.hid (HBw9u.out.trans (hb911.mono HBw9u.out.size)); have HStu : Hid (mayB (T ++ [oN]) = true → nu = N1 ∧ bu = true ∧ ∃ L, StkOk W12 Au cu L (T ++ [oN])) := Lib.hid (fun h => by obtain ⟨h1, h2, L, h3⟩ := hstu h; exact ⟨h1, h2, L, h3.later hxW12⟩); have HWzW12 := Lib.hid hW12; clear hstu hb10 hxW12 hb911 hW12))
  rw [← HWzW12.out]
  clear HWzW12
  have HB12 := Lib.hid (HBzW11.out.trans (HBzW12.out.mono HBzW11.out.size))
  have HBA := Lib.hid (HB5.out.trans (HB12.out.mono HB5.out.size))
  by_cases h8 : T.length = 8
  · have g8 : ((T.length : Int) == 8) = true := by rw [h8]; rfl
    go_wp2_with fail
    go_ret
    exact ⟨rfl, HBA.out⟩
  have g8 : ((T.length : Int) == 8) = false := by rw [beq_eq_false_iff_ne]; omega
  have hmt := mayB_more HMay.out (by omega) e0_fine
  have hmu := mayB_more HMay.out (by omega) o_fine
  obtain ⟨e1, rfl, Lt, hokt⟩ := HStt.out hmt
  obtain rfl := e1.symm
  obtain ⟨e1, rfl, Lu, hoku⟩ := HStu.out hmu
  obtain rfl := e1.symm
  have HSt := Lib.hid (hokt.later HBzW12.out)
  have HSu := Lib.hid hoku
  have HKt := Lib.hid ((HBzW12.out.block _ (lt_of_some HKW11.out)).trans HKW11.out)
  have HK1 := Lib.hid ((HB12.out.block _ (lt_of_some HK5.out)).trans HK5.out)
  have HS1 := Lib.hid (HS5.out.later HB12.out)
  have HLt : Hid (Lt.length = N1) := Lib.hid (by rw [HSt.out.len, List.length_append, List.length_singleton, HN1.out])
  have HLu : Hid (Lu.length = N1) := Lib.hid (by rw [HSu.out.len, List.length_append, List.length_singleton, HN1.out])
  have hC := remove_any At ct (N1 : Int) (T.length : Int) Lt W12 HSt.out.slc (by rw [HLt.out, HN1.out]; omega)
  rw [HLt.out] at hC
  unfold stkV at hC
  have HC := Lib.hid hC
  have t0 := cell_of_blk HKt.out 0
  have t1 := cell_of_blk HKt.out 1
  clear hC hokt hoku hmt hmu HStt HStu
  go_wp2_with fail
  refine HC.out.mono ?_
  rintro e w13 hrm
  rcases hrm with ⟨i, x, hx, hxi, A13, c13, rfl, ho13, hb13⟩ | ⟨hno, _, _⟩
  rotate_left 1
  · obtain ⟨x, hx, hxi⟩ := top_there HSt.out
    exact absurd hxi (hno x hx)
  obtain rfl := top_id HSt.out hx hxi
  have hdr : Lt.take 0 ++ Lt.drop (0 + 1) = Lt.drop 1 := rfl
  have hdl : (Lt.drop 1).length = T.length := by rw [List.length_drop, HLt.out, HN1.out]; omega
  have hS := rest_stk HSt.out hb13 (by rw [hdr] at ho13; exact ho13.slc.2.2)
  rw [hdr, hdl]
  unfold stkV
  obtain ⟨W14, hW14⟩ : ∃ W14, W14 = w13.alloc (.cells #[.slice A13 T.length c13, .int .i64 (N1 : Int)] 28) := ⟨_, rfl⟩
  have hx14 : Below w13.heap.size w13 W14 := by rw [hW14]; exact (Below.refl _ _).alloc (Nat.le_refl _) _
  have hb14 := hb13.trans (hx14.mono hb13.size)
  have HK4 := Lib.hid (show W14.heap[w13.heap.size]? = some (.cells #[.slice A13 T.length c13, .int .i64 (N1 : Int)] 28 (0, 0)) by rw [hW14]; exact heap_alloc_new w13 _)
  have HS4 := Lib.hid (hS.later hx14)
  have HL4 := Lib.hid hdl
  have hs2 := (StkOk.stkM HSt.out).later hb14
  have hs3 := (StkOk.stkM HSu.out).later hb14
  rw [List.reverse_append] at hs2 hs3
  have HS2 : Hid (StkM W14 At Lt (tabs (e0N :: T.reverse))) := Lib.hid hs2
  have HS3 : Hid (StkM W14 Au Lu (tabs (oN :: T.reverse))) := Lib.hid hs3
  have HS1' := Lib.hid (HS1.out.later hb14)
  have HK1' := Lib.hid ((hb14.block _ (lt_of_some HK1.out)).trans HK1.out)
  have HK2 := Lib.hid ((hb14.block _ (lt_of_some HKt.out)).trans HKt.out)
  have HK3 := Lib.hid ((hb14.block _ (lt_of_some HKW12.out)).trans HKW12.out)
  have HB14 := Lib.hid (HBA.out.trans (hb14.mono HBA.out.size))
  have HW14 := Lib.hid hW14
  have hfR := (fine_of HT.out HMay.out).rev
  have hfE : Fine (e0N :: T.reverse) := ⟨fun t ht => by rcases List.mem_cons.1 ht with rfl | ht; decide +kernel; exact hfR.all t ht, fun t ht => by rcases List.mem_cons.1 ht with rfl | ht; rfl; exact hfR.dirs t ht, fun t ht => by rcases List.mem_cons.1 ht with rfl | ht; decide +kernel; exact hfR.deep t ht⟩
  have hfO : Fine (oN :: T.reverse) := ⟨fun t ht => by rcases List.mem_cons.1 ht with rfl | ht; decide +kernel; exact hfR.all t ht, fun t ht => by rcases List.mem_cons.1 ht with rfl | ht; rfl; exact hfR.dirs t ht, fun t ht => by rcases List.mem_cons.1 ht with rfl | ht; decide +kernel; exact hfR.deep t ht⟩
  have HFR := Lib.hid hfR
  have HFE := Lib.hid hfE
  have HFO := Lib.hid hfO
  clear hx hxi hdr hdl ho13 hb13 hS hx14 hb14 hs2 hs3 hW14 hfR hfE hfO t0 t1 HC HS1 HK1 HKt
  go_upto_region 11 with fail
  rw [← HW14.out]
  clear HW14
  have HLn1 : Hid (∀ w' : World, Below W14.heap.size W14 w' → Calls Tryd.prog 24 #[.agg #[.slice A13 T.length c13, .int .i64 (N1 : Int)]] w' fun e w'' => e = .returned (.int .i64 (T.length : Int)) ∧ Below W14.heap.size W14 w'') := Lib.hid fun w' hb => (slen_any A13 T.length c13 (N1 : Int) w').mono fun e w'' ⟨h1, h2⟩ => ⟨h1, hb.trans (h2.mono hb.size)⟩
  have HLn2 : Hid (∀ w' : World, Below W14.heap.size W14 w' → Calls Tryd.prog 24 #[.agg #[.slice A5 T.length c5, .int .i64 (T.length : Int)]] w' fun e w'' => e = .returned (.int .i64 (T.length : Int)) ∧ Below W14.heap.size W14 w'') := Lib.hid fun w' hb => (slen_any A5 T.length c5 (T.length : Int) w').mono fun e w'' ⟨h1, h2⟩ => ⟨h1, hb.trans (h2.mono hb.size)⟩
  have HSS : Hid (∀ w' : World, Below W14.heap.size W14 w' → (w'.cell? ⟨w13.heap.size, 0, none⟩ = some (.slice A13 T.length c13) ∧ w'.cell? ⟨w13.heap.size, 1, none⟩ = some (.int .i64 (N1 : Int)) ∧ w'.cell? ⟨w3.heap.size, 0, none⟩ = some (.slice A5 T.length c5) ∧ w'.cell? ⟨w3.heap.size, 1, none⟩ = some (.int .i64 (T.length : Int)) ∧ Below W14.heap.size W14 w')) := Lib.hid fun w' hb' => by
    have e2 := (hb'.block _ (lt_of_some HK4.out)).trans HK4.out
    have e3 := (hb'.block _ (lt_of_some HK1'.out)).trans HK1'.out
    exact ⟨cell_of_blk e2 0, cell_of_blk e2 1, cell_of_blk e3 0, cell_of_blk e3 1, hb'⟩
  have HBv : Hid (Below W14.heap.size W14 W14.drew) := Lib.hid (Below.refl _ _).drew
  have gt : ((T.length : Int) != (T.length : Int)) = false := by simp
  refine wp_region_held_drew (S := fun w' => (w'.cell? ⟨w13.heap.size, 0, none⟩ = some (.slice A13 T.length c13) ∧ w'.cell? ⟨w13.heap.size, 1, none⟩ = some (.int .i64 (N1 : Int)) ∧ w'.cell? ⟨w3.heap.size, 0, none⟩ = some (.slice A5 T.length c5) ∧ w'.cell? ⟨w3.heap.size, 1, none⟩ = some (.int .i64 (T.length : Int)) ∧ Below W14.heap.size W14 w')) (by kernel_rfl) (HSS.out _ HBv.out) (fun hHeld => ?_)
  refine wpAnyH_take (i := 0) (oi := ⟨some 69, _, _, _, _, _⟩) (v := ?_) rfl (by kernel_rfl) (by kernel_rfl) (by kernel_rfl) (fun _ _ _ h => h) (Or.inl ⟨by kernel_rfl, ?_⟩) (by assumption) ?_
  rotate_left 1
  focus (intro w' hSw; (try dsimp only at hSw); go_simp; (try with_reducible rfl))
  try simp only [Act.put, List.setIfInBounds_toArray, List.set_cons_zero, List.set_cons_succ]
  refine wpAnyH_take (i := 1) (oi := ⟨some 70, _, _, _, _, _⟩) (v := ?_) rfl (by kernel_rfl) (by kernel_rfl) (by kernel_rfl) (fun _ _ _ h => h) (Or.inl ⟨by kernel_rfl, ?_⟩) (by assumption) ?_
  rotate_left 1
  focus (intro w' hSw; (try dsimp only at hSw); go_simp; (try with_reducible rfl))
  try simp only [Act.put, List.setIfInBounds_toArray, List.set_cons_zero, List.set_cons_succ]
  refine wpAnyH_take (i := 2) (oi := ⟨some 71, _, _, _, _, _⟩) (v := ?_) rfl (by kernel_rfl) (by kernel_rfl) (by kernel_rfl) (fun _ _ _ h => h) (Or.inl ⟨by kernel_rfl, ?_⟩) (by assumption) ?_
  rotate_left 1
  focus (intro w' hSw; (try dsimp only at hSw); go_simp; (try with_reducible rfl))
  try simp only [Act.put, List.setIfInBounds_toArray, List.set_cons_zero, List.set_cons_succ]
  refine wpAnyH_take (i := 3) (oi := ⟨some 72, _, _, _, _, _⟩) (v := ?_) rfl (by kernel_rfl) (by kernel_rfl) (by kernel_rfl) (fun _ _ _ h => h) (Or.inl ⟨by kernel_rfl, ?_⟩) (by assumption) ?_
  rotate_left 1
  focus (intro w' hSw; (try dsimp only at hSw); go_simp; (try with_reducible rfl))
  try simp only [Act.put, List.setIfInBounds_toArray, List.set_cons_zero, List.set_cons_succ]
  refine wpAnyH_take (i := 4) (oi := ⟨some 73, _, _, _, _, _⟩) (v := ?_) rfl (by kernel_rfl) (by kernel_rfl) (by kernel_rfl) (fun _ _ _ h => h) (Or.inl ⟨by kernel_rfl, ?_⟩) (by assumption) ?_
  rotate_left 1
  focus (intro w' hSw; (try dsimp only at hSw); go_simp; (try with_reducible rfl))
  try simp only [Act.put, List.setIfInBounds_toArray, List.set_cons_zero, List.set_cons_succ]
  refine wpAnyH_take (i := 5) (oi := ⟨some 74, _, _, _, _, _⟩) (v := ?_) rfl (by kernel_rfl) (by kernel_rfl) (by kernel_rfl) (fun _ _ _ h => h) (Or.inl ⟨by kernel_rfl, ?_⟩) (by assumption) ?_
  rotate_left 1
  focus (intro w' hSw; (try dsimp only at hSw); go_simp; (try with_reducible rfl))
  try simp only [Act.put, List.setIfInBounds_toArray, List.set_cons_zero, List.set_cons_succ]
  refine wpAnyH_take (i := 6) (oi := ⟨some 75, _, _, _, _, _⟩) (v := ?_) rfl (by kernel_rfl) (by kernel_rfl) (by kernel_rfl) (fun _ _ _ h => h) (Or.inl ⟨by kernel_rfl, ?_⟩) (by assumption) ?_
  rotate_left 1
  focus (intro w' hSw; (try dsimp only at hSw); go_simp; (try with_reducible rfl))
  try simp only [Act.put, List.setIfInBounds_toArray, List.set_cons_zero, List.set_cons_succ]
  refine wpAnyH_take (i := 7) (oi := ⟨some 76, _, _, _, _, _⟩) (v := ?_) rfl (by kernel_rfl) (by kernel_rfl) (by kernel_rfl) (fun _ _ _ h => h) (Or.inl ⟨by kernel_rfl, ?_⟩) (by assumption) ?_
  rotate_left 1
  focus (intro w' hSw; (try dsimp only at hSw); go_simp; (try with_reducible rfl))
  try simp only [Act.put, List.setIfInBounds_toArray, List.set_cons_zero, List.set_cons_succ]
  refine wpAnyH_take (i := 8) (oi := ⟨some 77, _, _, _, _, _⟩) (v := ?_) rfl (by kernel_rfl) (by kernel_rfl) (by kernel_rfl) (fun _ _ _ h => h) (Or.inl ⟨by kernel_rfl, ?_⟩) (by assumption) ?_
  rotate_left 1
  focus (intro w' hSw; (try dsimp only at hSw); go_simp; (try with_reducible rfl))
  try simp only [Act.put, List.setIfInBounds_toArray, List.set_cons_zero, List.set_cons_succ]
  refine wpAnyH_take (i := 9) (oi := ⟨some 78, _, _, _, _, _⟩) (v := ?_) rfl (by kernel_rfl) (by kernel_rfl) (by kernel_rfl) (fun _ _ _ h => h) (Or.inl ⟨by kernel_rfl, ?_⟩) (by assumption) ?_
  rotate_left 1
  focus (intro w' hSw; (try dsimp only at hSw); go_simp; (try with_reducible rfl))
  try simp only [Act.put, List.setIfInBounds_toArray, List.set_cons_zero, List.set_cons_succ]
  refine wpAnyH_take (i := 10) (oi := ⟨some 79, _, _, _, _, _⟩) (v := ?_) rfl (by kernel_rfl) (by kernel_rfl) (by kernel_rfl) (fun _ _ _ h => h) (Or.inl ⟨by kernel_rfl, ?_⟩) (by assumption) ?_
  rotate_left 1
  focus (intro w' hSw; (try dsimp only at hSw); go_simp; (try with_reducible rfl))
  try simp only [Act.put, List.setIfInBounds_toArray, List.set_cons_zero, List.set_cons_succ]
  refine wpAnyH_take (i := 11) (oi := ⟨some 80, _, _, _, _, _⟩) (v := ?_) rfl (by kernel_rfl) (by kernel_rfl) (by kernel_rfl) (fun _ _ _ h => h) (Or.inl ⟨by kernel_rfl, ?_⟩) (by assumption) ?_
  rotate_left 1
  focus (intro w' hSw; (try dsimp only at hSw); go_simp; (try with_reducible rfl))
  try simp only [Act.put, List.setIfInBounds_toArray, List.set_cons_zero, List.set_cons_succ]
  refine wpAnyH_take (i := 12) (oi := ⟨some 81, _, _, _, _, _⟩) (v := ?_) rfl (by kernel_rfl) (by kernel_rfl) (by kernel_rfl) (fun _ _ _ h => h) (Or.inl ⟨by kernel_rfl, ?_⟩) (by assumption) ?_
  rotate_left 1
  focus (intro w' hSw; (try dsimp only at hSw); go_simp; (try with_reducible rfl))
  try simp only [Act.put, List.setIfInBounds_toArray, List.set_cons_zero, List.set_cons_succ]
  refine wpAnyH_take (i := 13) (oi := ⟨some 82, _, _, _, _, _⟩) (v := ?_) rfl (by kernel_rfl) (by kernel_rfl) (by kernel_rfl) (fun _ _ _ h => h) (Or.inl ⟨by kernel_rfl, ?_⟩) (by assumption) ?_
  rotate_left 1
  focus (intro w' hSw; (try dsimp only at hSw); go_simp; (try with_reducible rfl))
  try simp only [Act.put, List.setIfInBounds_toArray, List.set_cons_zero, List.set_cons_succ]
  refine wpAnyH_take (i := 14) (oi := ⟨some 83, _, _, _, _, _⟩) (v := ?_) rfl (by kernel_rfl) (by kernel_rfl) (by kernel_rfl) (fun _ _ _ h => h) (Or.inl ⟨by kernel_rfl, ?_⟩) (by assumption) ?_
  rotate_left 1
  focus (intro w' hSw; (try dsimp only at hSw); go_simp; (try with_reducible rfl))
  try simp only [Act.put, List.setIfInBounds_toArray, List.set_cons_zero, List.set_cons_succ]
  refine wpAnyH_take (i := 15) (oi := ⟨some 84, _, _, _, _, _⟩) (v := ?_) rfl (by kernel_rfl) (by kernel_rfl) (by kernel_rfl) (fun _ _ _ h => h) (Or.inl ⟨by kernel_rfl, ?_⟩) (by assumption) ?_
  rotate_left 1
  focus (intro w' hSw; (try dsimp only at hSw); go_simp; (try with_reducible rfl))
  try simp only [Act.put, List.setIfInBounds_toArray, List.set_cons_zero, List.set_cons_succ]
  refine wpAnyH_take (i := 17) (oi := ⟨some 86, _, _, _, _, _⟩) (v := ?_) rfl (by kernel_rfl) (by kernel_rfl) (by kernel_rfl) (fun _ _ _ h => h) (Or.inl ⟨by kernel_rfl, ?_⟩) (by assumption) ?_
  rotate_left 1
  focus (intro w' hSw; (try dsimp only at hSw); go_simp; (try with_reducible rfl))
  try simp only [Act.put, List.setIfInBounds_toArray, List.set_cons_zero, List.set_cons_succ]
  refine wpAnyH_ready (rs := [16]) (by kernel_rfl) (by simp) ?_
  refine AllReadyH.cons rfl (fun K hK => ?_) AllReadyH.nil
  go_simp
  go_at_call 24
  refine (HLn1.out _ HBv.out).mono ?_
  rintro en v1 ⟨rfl, hv1⟩
  clear hHeld
  refine hK.out _ _ (HSS.out _ hv1) (fun hHeld => ?_)
  clear hK
  refine wpAnyH_ready (rs := [18]) (by kernel_rfl) (by simp) ?_
  refine AllReadyH.cons rfl (fun K hK => ?_) AllReadyH.nil
  go_simp
  go_at_call 24
  refine (HLn2.out _ hv1).mono ?_
  rintro en v2 ⟨rfl, hv2⟩
  clear hHeld
  refine hK.out _ _ (HSS.out _ hv2) (fun hHeld => ?_)
  clear hK
  refine wpAnyH_take (i := 19) (oi := ⟨some 88, _, _, _, _, _⟩) (v := ?_) rfl (by kernel_rfl) (by kernel_rfl) (by kernel_rfl) (fun _ _ _ h => h) (Or.inl ⟨by kernel_rfl, ?_⟩) (by assumption) ?_
  rotate_left 1
  focus (intro w' hSw; (try dsimp only at hSw); go_simp; (try with_reducible rfl))
  try simp only [Act.put, List.setIfInBounds_toArray, List.set_cons_zero, List.set_cons_succ]
  refine wpAnyH_take (i := 20) (oi := ⟨some 89, _, _, _, _, _⟩) (v := ?_) rfl (by kernel_rfl) (by kernel_rfl) (by kernel_rfl) (fun _ _ _ h => h) (Or.inl ⟨by kernel_rfl, ?_⟩) (by assumption) ?_
  rotate_left 1
  focus (intro w' hSw; (try dsimp only at hSw); go_simp; (try with_reducible rfl))
  try simp only [Act.put, List.setIfInBounds_toArray, List.set_cons_zero, List.set_cons_succ]
  refine wpAnyH_done (by kernel_rfl) ?_ _
  have HBs := Lib.hid hv2
  clear hHeld hv1 hv2 HLn1 HLn2 HSS HBv gt
  go_wp2_with fail
  go_loopw [92] (fun v wr => ∃ i : Nat, v = .int .i64 (i : Int) ∧ i ≤ N.length ∧ Hid (Below W14.heap.size W14 wr)) (fun v _ => N.length - (intOf v).toNat)
  case atStart => exact ⟨0, rfl, Nat.zero_le _, HBs⟩
  case round =>
    clear HBs
    obtain ⟨i, rfl, hi, HB⟩ := hrel
    by_cases hlt : i < N.length
    · obtain ⟨s, hs⟩ : ∃ s, N[i]? = some s := ⟨_, List.getElem?_eq_getElem hlt⟩
      have hbw := HB14.out.trans (HB.out.mono HB14.out.size)
      obtain ⟨⟨bn, on, hAn, hbn, cn0⟩, hsz⟩ := (HN.out.keep hbw) i s hs
      subst hAn
      have HBw := Lib.hid hbw
      have i0 : (0 : Int) ≤ (i : Int) := by omega
      have i1 : (i : Int) < (N.length : Int) := by omega
      clear hs hsz hbn hbw
      by_cases hs100 : 100 < s.size
      · have g1 : (100 : Int) < (s.size : Int) := by omega
        go_wp2_with fail
        go_ret
        exact ⟨rfl, HBw.out⟩
      have g1 : ¬ (100 : Int) < (s.size : Int) := by omega
      rename World => x0
      have HX0 := HB
      have HSq_1 := Lib.hid (HS1'.out.later HX0.out)
      have HKq_1 := Lib.hid ((HX0.out.block _ (lt_of_some HK1'.out)).trans HK1'.out)
      have J1_1 : Hid (∀ w' : World, Below x0.heap.size x0 w' → Calls Tryd.prog 15 #[.agg #[.slice A5 T.length c5, .int .i64 (T.length : Int)]] w' fun e w'' => (∃ Ap cp, e = .returned (.slice Ap (rootP (tabs (T.reverse))).length cp) ∧ Plc w'' w''.heap.size Ap (rootP (tabs (T.reverse)))) ∧ Below w'.heap.size w' w'') := Lib.hid fun w' hb => by
        have h1 := rooted_any (R := T.reverse) HFR.out A5 c5 (T.length : Int) L5 w' (HSq_1.out.later hb) (by rw [HL5.out]; have := HN1.out; omega)
        rw [HL5.out] at h1
        exact h1
      have J2_1 : Hid (∀ (w' : World) (Ap : Option Addr) (cp : Nat), Below x0.heap.size x0 w' → Plc w' w'.heap.size Ap (rootP (tabs (T.reverse))) → Calls Tryd.prog 19 #[.agg #[.slice A5 T.length c5, .int .i64 (T.length : Int)], .slice Ap (rootP (tabs (T.reverse))).length cp, .string s] w' fun e w'' => (∃ k l i Af nf cf b, Hits (T.reverse) s k l i nf b ∧ e = .returned (.tuple #[.agg #[.int .i64 k, .int .i64 l, .int .i64 i, .slice Af nf cf], .bool b])) ∧ Below w'.heap.size w' w'') := Lib.hid fun w' Ap cp hb hp => by
        have h1 := looked_root (R := T.reverse) HFR.out A5 c5 (T.length : Int) L5 Ap cp s w' (HSq_1.out.later hb) (by rw [HL5.out]; have := HN1.out; omega) hp
        rw [HL5.out] at h1
        exact h1
      have HSS_1 : Hid (∀ w' : World, Below x0.heap.size x0 w' → ((w'.cell? ⟨w3.heap.size, 0, none⟩ = some (.slice A5 T.length c5) ∧ w'.cell? ⟨w3.heap.size, 1, none⟩ = some (.int .i64 (T.length : Int)) ∧ Below x0.heap.size x0 w'))) := Lib.hid fun w' hb' => by
        have e2 := (hb'.block _ (lt_of_some HKq_1.out)).trans HKq_1.out
        exact ⟨cell_of_blk e2 0, cell_of_blk e2 1, hb'⟩
      go_upto_region 18 with fail
      go_cut [15, 16] from 99 to 106 (fun v vb wx => ∃ (gf : Nat) (k l i : Int) (Af : Option Addr) (nf cf : Nat) (b : Bool), v = .pointer (some ⟨gf, 0, none⟩) ∧ vb = .bool b ∧ Hid (Hits (T.reverse) s k l i nf b) ∧ Hid (wx.heap[gf]? = some (.cells #[.int .i64 k, .int .i64 l, .int .i64 i, .slice Af nf cf] 44 (0, 0))) ∧ Hid (Below x0.heap.size x0 wx))
      case first =>
        obtain ⟨V, hV⟩ : ∃ V, V = World.drew x0 := ⟨_, rfl⟩
        have HBV := Lib.hid (show Below x0.heap.size x0 V by rw [hV]; exact (Below.refl _ _).drew)
        refine wp_region_held_drew (S := fun w' => (w'.cell? ⟨w3.heap.size, 0, none⟩ = some (.slice A5 T.length c5) ∧ w'.cell? ⟨w3.heap.size, 1, none⟩ = some (.int .i64 (T.length : Int)) ∧ Below x0.heap.size x0 w')) (by kernel_rfl) (by rw [← hV]; exact HSS_1.out _ HBV.out) (fun hHeld => ?_)
        rw [← hV] at hHeld ⊢
        clear hV
        refine wpAnyH_take (i := 0) (oi := ⟨some 100, _, _, _, _, _⟩) (v := ?_) rfl (by kernel_rfl) (by kernel_rfl) (by kernel_rfl) (fun _ _ _ h => h) (Or.inl ⟨by kernel_rfl, ?_⟩) (by assumption) ?_
        rotate_left 1
        focus (intro w' hSw; (try dsimp only at hSw); go_simp; (try with_reducible rfl))
        try simp only [Act.put, List.setIfInBounds_toArray, List.set_cons_zero, List.set_cons_succ]
        refine wpAnyH_take (i := 1) (oi := ⟨some 101, _, _, _, _, _⟩) (v := ?_) rfl (by kernel_rfl) (by kernel_rfl) (by kernel_rfl) (fun _ _ _ h => h) (Or.inl ⟨by kernel_rfl, ?_⟩) (by assumption) ?_
        rotate_left 1
        focus (intro w' hSw; (try dsimp only at hSw); go_simp; (try with_reducible rfl))
        try simp only [Act.put, List.setIfInBounds_toArray, List.set_cons_zero, List.set_cons_succ]
        refine wpAnyH_take (i := 3) (oi := ⟨some 103, _, _, _, _, _⟩) (v := ?_) rfl (by kernel_rfl) (by kernel_rfl) (by kernel_rfl) (fun _ _ _ h => h) (Or.inl ⟨by kernel_rfl, ?_⟩) (by assumption) ?_
        rotate_left 1
        focus (intro w' hSw; (try dsimp only at hSw); go_simp; (try with_reducible rfl))
        try simp only [Act.put, List.setIfInBounds_toArray, List.set_cons_zero, List.set_cons_succ]
        refine wpAnyH_ready (rs := [2, 8]) (by kernel_rfl) (by simp) ?_
        refine AllReadyH.cons rfl (fun K hK => ?_) (AllReadyH.cons rfl (fun K hK => ?_) AllReadyH.nil)
        · skip
          go_simp
          go_at_call 15
          refine (J1_1.out _ HBV.out).mono ?_
          rintro en v1 ⟨⟨Ap, cp, rfl, hp⟩, hv1⟩
          have HBv1 := Lib.hid (HBV.out.trans (hv1.mono (HBV.out).size))
          have HPv1 := Lib.hid hp
          clear hv1 hp
          clear hHeld
          refine hK.out _ _ (HSS_1.out _ HBv1.out) (fun hHeld => ?_)
          clear hK
          try simp only [Act.put, List.setIfInBounds_toArray, List.set_cons_zero, List.set_cons_succ]
          refine wpAnyH_ready (rs := [4, 8]) (by kernel_rfl) (by simp) ?_
          refine AllReadyH.cons rfl (fun K hK => ?_) (AllReadyH.cons rfl (fun K hK => ?_) AllReadyH.nil)
          · skip
            go_simp
            go_at_call 19
            refine (J2_1.out _ Ap cp HBv1.out HPv1.out).mono ?_
            rintro en v2 ⟨⟨k, l, i, Af, nf, cf, b, hh, rfl⟩, hv2⟩
            have HBv2 := Lib.hid (HBv1.out.trans (hv2.mono (HBv1.out).size))
            have HH := Lib.hid hh
            clear hv2 hh
            clear hHeld
            refine hK.out _ _ (HSS_1.out _ HBv2.out) (fun hHeld => ?_)
            clear hK
            try simp only [Act.put, List.setIfInBounds_toArray, List.set_cons_zero, List.set_cons_succ]
            refine wpAnyH_take (i := 5) (oi := ⟨some 99, _, _, _, _, _⟩) (v := ?_) rfl (by kernel_rfl) (by kernel_rfl) (by kernel_rfl) (fun _ _ _ h => h) (Or.inl ⟨by kernel_rfl, ?_⟩) (by assumption) ?_
            rotate_left 1
            focus (intro w' hSw; (try dsimp only at hSw); go_simp; (try with_reducible rfl))
            try simp only [Act.put, List.setIfInBounds_toArray, List.set_cons_zero, List.set_cons_succ]
            refine wpAnyH_take (i := 6) (oi := ⟨some 105, _, _, _, _, _⟩) (v := ?_) rfl (by kernel_rfl) (by kernel_rfl) (by kernel_rfl) (fun _ _ _ h => h) (Or.inl ⟨by kernel_rfl, ?_⟩) (by assumption) ?_
            rotate_left 1
            focus (intro w' hSw; (try dsimp only at hSw); go_simp; (try with_reducible rfl))
            try simp only [Act.put, List.setIfInBounds_toArray, List.set_cons_zero, List.set_cons_succ]
            refine wpAnyH_take (i := 7) (oi := ⟨some 106, _, _, _, _, _⟩) (v := ?_) rfl (by kernel_rfl) (by kernel_rfl) (by kernel_rfl) (fun _ _ _ h => h) (Or.inl ⟨by kernel_rfl, ?_⟩) (by assumption) ?_
            rotate_left 1
            focus (intro w' hSw; (try dsimp only at hSw); go_simp; (try with_reducible rfl))
            try simp only [Act.put, List.setIfInBounds_toArray, List.set_cons_zero, List.set_cons_succ]
            refine wpAnyH_ready (rs := [8]) (by kernel_rfl) (by simp) ?_
            refine AllReadyH.cons rfl (fun K hK => ?_) AllReadyH.nil
            obtain ⟨v3, hv3⟩ : ∃ v3, v3 = World.alloc v2 (.cells #[.int .i64 0, .int .i64 0, .int .i64 0, .slice none 0 0] 44) := ⟨_, rfl⟩
            have hxv3 : Below (World.heap v2).size v2 v3 := by rw [hv3]; exact (Below.refl _ _).alloc (Nat.le_refl _) _
            have HBv3 := Lib.hid (HBv2.out.trans (hxv3.mono (HBv2.out).size))
            have HGv3 := Lib.hid (show v3.heap[(World.heap v2).size]? = some (.cells #[.int .i64 0, .int .i64 0, .int .i64 0, .slice none 0 0] 44 (0, 0)) by rw [hv3]; exact heap_alloc_new v2 _)
            go_simp
            rw [← hv3]
            clear hv3 hxv3
            clear hHeld
            refine hK.out _ _ (HSS_1.out _ HBv3.out) (fun hHeld => ?_)
            clear hK
            try simp only [Act.put, List.setIfInBounds_toArray, List.set_cons_zero, List.set_cons_succ]
            refine wpAnyH_ready (rs := [9]) (by kernel_rfl) (by simp) ?_
            refine AllReadyH.cons rfl (fun K hK => ?_) AllReadyH.nil
            have c0 := cell_of_blk HGv3.out 0
            have c1 := cell_of_blk HGv3.out 1
            have c2 := cell_of_blk HGv3.out 2
            have c3 := cell_of_blk HGv3.out 3
            have z0 := free_of_blk HGv3.out 0
            have z1 := free_of_blk HGv3.out 1
            have z2 := free_of_blk HGv3.out 2
            have z3 := free_of_blk HGv3.out 3
            obtain ⟨v4, hv4⟩ : ∃ v4, v4 = (((World.setCell v3 ⟨(World.heap v2).size, 0, none⟩ (.int .i64 k)).setCell ⟨(World.heap v2).size, 1, none⟩ (.int .i64 l)).setCell ⟨(World.heap v2).size, 2, none⟩ (.int .i64 i)).setCell ⟨(World.heap v2).size, 3, none⟩ (.slice Af nf cf) := ⟨_, rfl⟩
            have hyv4 := over4 (u0 := .int .i64 k) (u1 := .int .i64 l) (u2 := .int .i64 i) (u3 := .slice Af nf cf) HGv3.out
            rw [← hv4] at hyv4
            have HGv4 := Lib.hid hyv4
            have hle : x0.heap.size ≤ (World.heap v2).size := HBv2.out.size
            have HBv4 : Hid (Below x0.heap.size x0 v4) := Lib.hid (by rw [hv4]; exact (((HBv3.out.setCell (p := ⟨(World.heap v2).size, 0, none⟩) hle _).setCell (p := ⟨(World.heap v2).size, 1, none⟩) hle _).setCell (p := ⟨(World.heap v2).size, 2, none⟩) hle _).setCell (p := ⟨(World.heap v2).size, 3, none⟩) hle _)
            go_simp
            rw [← hv4]
            clear hv4 hyv4 hle c0 c1 c2 c3 z0 z1 z2 z3
            clear hHeld
            refine hK.out _ _ (HSS_1.out _ HBv4.out) (fun hHeld => ?_)
            clear hK
            try simp only [Act.put, List.setIfInBounds_toArray, List.set_cons_zero, List.set_cons_succ]
            refine wpAnyH_take (i := 10) (oi := ⟨some 16, _, _, _, _, _⟩) (v := ?_) rfl (by kernel_rfl) (by kernel_rfl) (by kernel_rfl) (fun _ _ _ h => h) (Or.inl ⟨by kernel_rfl, ?_⟩) (by assumption) ?_
            rotate_left 1
            focus (intro w' hSw; (try dsimp only at hSw); go_simp; (try with_reducible rfl))
            try simp only [Act.put, List.setIfInBounds_toArray, List.set_cons_zero, List.set_cons_succ]
            refine wpAnyH_done (by kernel_rfl) ?_ _
            clear hHeld
            go_wp2_with fail
            go_meet
            case rel => exact ⟨_, k, l, i, Af, nf, cf, b, rfl, rfl, HH, HGv4, HBv4⟩
          · skip
            obtain ⟨v2, hv2⟩ : ∃ v2, v2 = World.alloc v1 (.cells #[.int .i64 0, .int .i64 0, .int .i64 0, .slice none 0 0] 44) := ⟨_, rfl⟩
            have hxv2 : Below (World.heap v1).size v1 v2 := by rw [hv2]; exact (Below.refl _ _).alloc (Nat.le_refl _) _
            have HBv2 := Lib.hid (HBv1.out.trans (hxv2.mono (HBv1.out).size))
            have HGv2 := Lib.hid (show v2.heap[(World.heap v1).size]? = some (.cells #[.int .i64 0, .int .i64 0, .int .i64 0, .slice none 0 0] 44 (0, 0)) by rw [hv2]; exact heap_alloc_new v1 _)
            have HPv2 := Lib.hid ((HPv1.out.keep hxv2).more hxv2.size)
            go_simp
            rw [← hv2]
            clear hv2 hxv2
            clear hHeld
            refine hK.out _ _ (HSS_1.out _ HBv2.out) (fun hHeld => ?_)
            clear hK
            try simp only [Act.put, List.setIfInBounds_toArray, List.set_cons_zero, List.set_cons_succ]
            refine wpAnyH_ready (rs := [4]) (by kernel_rfl) (by simp) ?_
            refine AllReadyH.cons rfl (fun K hK => ?_) AllReadyH.nil
            go_simp
            go_at_call 19
            refine (J2_1.out _ Ap cp HBv2.out HPv2.out).mono ?_
            rintro en v3 ⟨⟨k, l, i, Af, nf, cf, b, hh, rfl⟩, hv3⟩
            have HBv3 := Lib.hid (HBv2.out.trans (hv3.mono (HBv2.out).size))
            have HH := Lib.hid hh
            have HGv3 := Lib.hid ((hv3.block _ (lt_of_some HGv2.out)).trans HGv2.out)
            clear hv3 hh
            clear hHeld
            refine hK.out _ _ (HSS_1.out _ HBv3.out) (fun hHeld => ?_)
            clear hK
            try simp only [Act.put, List.setIfInBounds_toArray, List.set_cons_zero, List.set_cons_succ]
            refine wpAnyH_take (i := 5) (oi := ⟨some 99, _, _, _, _, _⟩) (v := ?_) rfl (by kernel_rfl) (by kernel_rfl) (by kernel_rfl) (fun _ _ _ h => h) (Or.inl ⟨by kernel_rfl, ?_⟩) (by assumption) ?_
            rotate_left 1
            focus (intro w' hSw; (try dsimp only at hSw); go_simp; (try with_reducible rfl))
            try simp only [Act.put, List.setIfInBounds_toArray, List.set_cons_zero, List.set_cons_succ]
            refine wpAnyH_take (i := 6) (oi := ⟨some 105, _, _, _, _, _⟩) (v := ?_) rfl (by kernel_rfl) (by kernel_rfl) (by kernel_rfl) (fun _ _ _ h => h) (Or.inl ⟨by kernel_rfl, ?_⟩) (by assumption) ?_
            rotate_left 1
            focus (intro w' hSw; (try dsimp only at hSw); go_simp; (try with_reducible rfl))
            try simp only [Act.put, List.setIfInBounds_toArray, List.set_cons_zero, List.set_cons_succ]
            refine wpAnyH_take (i := 7) (oi := ⟨some 106, _, _, _, _, _⟩) (v := ?_) rfl (by kernel_rfl) (by kernel_rfl) (by kernel_rfl) (fun _ _ _ h => h) (Or.inl ⟨by kernel_rfl, ?_⟩) (by assumption) ?_
            rotate_left 1
            focus (intro w' hSw; (try dsimp only at hSw); go_simp; (try with_reducible rfl))
            try simp only [Act.put, List.setIfInBounds_toArray, List.set_cons_zero, List.set_cons_succ]
            refine wpAnyH_ready (rs := [9]) (by kernel_rfl) (by simp) ?_
            refine AllReadyH.cons rfl (fun K hK => ?_) AllReadyH.nil
            have c0 := cell_of_blk HGv3.out 0
            have c1 := cell_of_blk HGv3.out 1
            have c2 := cell_of_blk HGv3.out 2
            have c3 := cell_of_blk HGv3.out 3
            have z0 := free_of_blk HGv3.out 0
            have z1 := free_of_blk HGv3.out 1
            have z2 := free_of_blk HGv3.out 2
            have z3 := free_of_blk HGv3.out 3
            obtain ⟨v4, hv4⟩ : ∃ v4, v4 = (((World.setCell v3 ⟨(World.heap v1).size, 0, none⟩ (.int .i64 k)).setCell ⟨(World.heap v1).size, 1, none⟩ (.int .i64 l)).setCell ⟨(World.heap v1).size, 2, none⟩ (.int .i64 i)).setCell ⟨(World.heap v1).size, 3, none⟩ (.slice Af nf cf) := ⟨_, rfl⟩
            have hyv4 := over4 (u0 := .int .i64 k) (u1 := .int .i64 l) (u2 := .int .i64 i) (u3 := .slice Af nf cf) HGv3.out
            rw [← hv4] at hyv4
            have HGv4 := Lib.hid hyv4
            have hle : x0.heap.size ≤ (World.heap v1).size := HBv1.out.size
            have HBv4 : Hid (Below x0.heap.size x0 v4) := Lib.hid (by rw [hv4]; exact (((HBv3.out.setCell (p := ⟨(World.heap v1).size, 0, none⟩) hle _).setCell (p := ⟨(World.heap v1).size, 1, none⟩) hle _).setCell (p := ⟨(World.heap v1).size, 2, none⟩) hle _).setCell (p := ⟨(World.heap v1).size, 3, none⟩) hle _)
            go_simp
            rw [← hv4]
            clear hv4 hyv4 hle c0 c1 c2 c3 z0 z1 z2 z3
            clear hHeld
            refine hK.out _ _ (HSS_1.out _ HBv4.out) (fun hHeld => ?_)
            clear hK
            try simp only [Act.put, List.setIfInBounds_toArray, List.set_cons_zero, List.set_cons_succ]
            refine wpAnyH_take (i := 10) (oi := ⟨some 16, _, _, _, _, _⟩) (v := ?_) rfl (by kernel_rfl) (by kernel_rfl) (by kernel_rfl) (fun _ _ _ h => h) (Or.inl ⟨by kernel_rfl, ?_⟩) (by assumption) ?_
            rotate_left 1
            focus (intro w' hSw; (try dsimp only at hSw); go_simp; (try with_reducible rfl))
            try simp only [Act.put, List.setIfInBounds_toArray, List.set_cons_zero, List.set_cons_succ]
            refine wpAnyH_done (by kernel_rfl) ?_ _
            clear hHeld
            go_wp2_with fail
            go_meet
            case rel => exact ⟨_, k, l, i, Af, nf, cf, b, rfl, rfl, HH, HGv4, HBv4⟩
        · skip
          obtain ⟨v1, hv1⟩ : ∃ v1, v1 = World.alloc V (.cells #[.int .i64 0, .int .i64 0, .int .i64 0, .slice none 0 0] 44) := ⟨_, rfl⟩
          have hxv1 : Below (World.heap V).size V v1 := by rw [hv1]; exact (Below.refl _ _).alloc (Nat.le_refl _) _
          have HBv1 := Lib.hid (HBV.out.trans (hxv1.mono (HBV.out).size))
          have HGv1 := Lib.hid (show v1.heap[(World.heap V).size]? = some (.cells #[.int .i64 0, .int .i64 0, .int .i64 0, .slice none 0 0] 44 (0, 0)) by rw [hv1]; exact heap_alloc_new V _)
          go_simp
          rw [← hv1]
          clear hv1 hxv1
          clear hHeld
          refine hK.out _ _ (HSS_1.out _ HBv1.out) (fun hHeld => ?_)
          clear hK
          try simp only [Act.put, List.setIfInBounds_toArray, List.set_cons_zero, List.set_cons_succ]
          refine wpAnyH_ready (rs := [2]) (by kernel_rfl) (by simp) ?_
          refine AllReadyH.cons rfl (fun K hK => ?_) AllReadyH.nil
          go_simp
          go_at_call 15
          refine (J1_1.out _ HBv1.out).mono ?_
          rintro en v2 ⟨⟨Ap, cp, rfl, hp⟩, hv2⟩
          have HBv2 := Lib.hid (HBv1.out.trans (hv2.mono (HBv1.out).size))
          have HPv2 := Lib.hid hp
          have HGv2 := Lib.hid ((hv2.block _ (lt_of_some HGv1.out)).trans HGv1.out)
          clear hv2 hp
          clear hHeld
          refine hK.out _ _ (HSS_1.out _ HBv2.out) (fun hHeld => ?_)
          clear hK
          try simp only [Act.put, List.setIfInBounds_toArray, List.set_cons_zero, List.set_cons_succ]
          refine wpAnyH_ready (rs := [4]) (by kernel_rfl) (by simp) ?_
          refine AllReadyH.cons rfl (fun K hK => ?_) AllReadyH.nil
          go_simp
          go_at_call 19
          refine (J2_1.out _ Ap cp HBv2.out HPv2.out).mono ?_
          rintro en v3 ⟨⟨k, l, i, Af, nf, cf, b, hh, rfl⟩, hv3⟩
          have HBv3 := Lib.hid (HBv2.out.trans (hv3.mono (HBv2.out).size))
          have HH := Lib.hid hh
          have HGv3 := Lib.hid ((hv3.block _ (lt_of_some HGv2.out)).trans HGv2.out)
          clear hv3 hh
          clear hHeld
          refine hK.out _ _ (HSS_1.out _ HBv3.out) (fun hHeld => ?_)
          clear hK
          try simp only [Act.put, List.setIfInBounds_toArray, List.set_cons_zero, List.set_cons_succ]
          refine wpAnyH_take (i := 5) (oi := ⟨some 99, _, _, _, _, _⟩) (v := ?_) rfl (by kernel_rfl) (by kernel_rfl) (by kernel_rfl) (fun _ _ _ h => h) (Or.inl ⟨by kernel_rfl, ?_⟩) (by assumption) ?_
          rotate_left 1
          focus (intro w' hSw; (try dsimp only at hSw); go_simp; (try with_reducible rfl))
          try simp only [Act.put, List.setIfInBounds_toArray, List.set_cons_zero, List.set_cons_succ]
          refine wpAnyH_take (i := 6) (oi := ⟨some 105, _, _, _, _, _⟩) (v := ?_) rfl (by kernel_rfl) (by kernel_rfl) (by kernel_rfl) (fun _ _ _ h => h) (Or.inl ⟨by kernel_rfl, ?_⟩) (by assumption) ?_
          rotate_left 1
          focus (intro w' hSw; (try dsimp only at hSw); go_simp; (try with_reducible rfl))
          try simp only [Act.put, List.setIfInBounds_toArray, List.set_cons_zero, List.set_cons_succ]
          refine wpAnyH_take (i := 7) (oi := ⟨some 106, _, _, _, _, _⟩) (v := ?_) rfl (by kernel_rfl) (by kernel_rfl) (by kernel_rfl) (fun _ _ _ h => h) (Or.inl ⟨by kernel_rfl, ?_⟩) (by assumption) ?_
          rotate_left 1
          focus (intro w' hSw; (try dsimp only at hSw); go_simp; (try with_reducible rfl))
          try simp only [Act.put, List.setIfInBounds_toArray, List.set_cons_zero, List.set_cons_succ]
          refine wpAnyH_ready (rs := [9]) (by kernel_rfl) (by simp) ?_
          refine AllReadyH.cons rfl (fun K hK => ?_) AllReadyH.nil
          have c0 := cell_of_blk HGv3.out 0
          have c1 := cell_of_blk HGv3.out 1
          have c2 := cell_of_blk HGv3.out 2
          have c3 := cell_of_blk HGv3.out 3
          have z0 := free_of_blk HGv3.out 0
          have z1 := free_of_blk HGv3.out 1
          have z2 := free_of_blk HGv3.out 2
          have z3 := free_of_blk HGv3.out 3
          obtain ⟨v4, hv4⟩ : ∃ v4, v4 = (((World.setCell v3 ⟨(World.heap V).size, 0, none⟩ (.int .i64 k)).setCell ⟨(World.heap V).size, 1, none⟩ (.int .i64 l)).setCell ⟨(World.heap V).size, 2, none⟩ (.int .i64 i)).setCell ⟨(World.heap V).size, 3, none⟩ (.slice Af nf cf) := ⟨_, rfl⟩
          have hyv4 := over4 (u0 := .int .i64 k) (u1 := .int .i64 l) (u2 := .int .i64 i) (u3 := .slice Af nf cf) HGv3.out
          rw [← hv4] at hyv4
          have HGv4 := Lib.hid hyv4
          have hle : x0.heap.size ≤ (World.heap V).size := HBV.out.size
          have HBv4 : Hid (Below x0.heap.size x0 v4) := Lib.hid (by rw [hv4]; exact (((HBv3.out.setCell (p := ⟨(World.heap V).size, 0, none⟩) hle _).setCell (p := ⟨(World.heap V).size, 1, none⟩) hle _).setCell (p := ⟨(World.heap V).size, 2, none⟩) hle _).setCell (p := ⟨(World.heap V).size, 3, none⟩) hle _)
          go_simp
          rw [← hv4]
          clear hv4 hyv4 hle c0 c1 c2 c3 z0 z1 z2 z3
          clear hHeld
          refine hK.out _ _ (HSS_1.out _ HBv4.out) (fun hHeld => ?_)
          clear hK
          try simp only [Act.put, List.setIfInBounds_toArray, List.set_cons_zero, List.set_cons_succ]
          refine wpAnyH_take (i := 10) (oi := ⟨some 16, _, _, _, _, _⟩) (v := ?_) rfl (by kernel_rfl) (by kernel_rfl) (by kernel_rfl) (fun _ _ _ h => h) (Or.inl ⟨by kernel_rfl, ?_⟩) (by assumption) ?_
          rotate_left 1
          focus (intro w' hSw; (try dsimp only at hSw); go_simp; (try with_reducible rfl))
          try simp only [Act.put, List.setIfInBounds_toArray, List.set_cons_zero, List.set_cons_succ]
          refine wpAnyH_done (by kernel_rfl) ?_ _
          clear hHeld
          go_wp2_with fail
          go_meet
          case rel => exact ⟨_, k, l, i, Af, nf, cf, b, rfl, rfl, HH, HGv4, HBv4⟩
      case rest =>
      rename World => x1
      obtain ⟨g1, k1, l1, i1, Af1, nf1, cf1, b1, rfl, rfl, HH1, HG1, HXb1⟩ := hcut
      have HX1 := Lib.hid (HX0.out.trans (HXb1.out.mono HX0.out.size))
      clear J1_1 J2_1 HSS_1 HSq_1 HKq_1 HXb1
      have HSq_2 := Lib.hid (HS2.out.later HX1.out)
      have HKq_2 := Lib.hid ((HX1.out.block _ (lt_of_some HK2.out)).trans HK2.out)
      have J1_2 : Hid (∀ w' : World, Below x1.heap.size x1 w' → Calls Tryd.prog 15 #[.agg #[.slice At N1 ct, .int .i64 (N1 : Int)]] w' fun e w'' => (∃ Ap cp, e = .returned (.slice Ap (rootP (tabs (e0N :: T.reverse))).length cp) ∧ Plc w'' w''.heap.size Ap (rootP (tabs (e0N :: T.reverse)))) ∧ Below w'.heap.size w' w'') := Lib.hid fun w' hb => by
        have h1 := rooted_any (R := e0N :: T.reverse) HFE.out At ct (N1 : Int) Lt w' (HSq_2.out.later hb) (by rw [HLt.out]; have := HN1.out; omega)
        rw [HLt.out] at h1
        exact h1
      have J2_2 : Hid (∀ (w' : World) (Ap : Option Addr) (cp : Nat), Below x1.heap.size x1 w' → Plc w' w'.heap.size Ap (rootP (tabs (e0N :: T.reverse))) → Calls Tryd.prog 19 #[.agg #[.slice At N1 ct, .int .i64 (N1 : Int)], .slice Ap (rootP (tabs (e0N :: T.reverse))).length cp, .string s] w' fun e w'' => (∃ k l i Af nf cf b, Hits (e0N :: T.reverse) s k l i nf b ∧ e = .returned (.tuple #[.agg #[.int .i64 k, .int .i64 l, .int .i64 i, .slice Af nf cf], .bool b])) ∧ Below w'.heap.size w' w'') := Lib.hid fun w' Ap cp hb hp => by
        have h1 := looked_root (R := e0N :: T.reverse) HFE.out At ct (N1 : Int) Lt Ap cp s w' (HSq_2.out.later hb) (by rw [HLt.out]; have := HN1.out; omega) hp
        rw [HLt.out] at h1
        exact h1
      have HSS_2 : Hid (∀ w' : World, Below x1.heap.size x1 w' → ((w'.cell? ⟨w10t.heap.size, 0, none⟩ = some (.slice At N1 ct) ∧ w'.cell? ⟨w10t.heap.size, 1, none⟩ = some (.int .i64 (N1 : Int)) ∧ Below x1.heap.size x1 w'))) := Lib.hid fun w' hb' => by
        have e2 := (hb'.block _ (lt_of_some HKq_2.out)).trans HKq_2.out
        exact ⟨cell_of_blk e2 0, cell_of_blk e2 1, hb'⟩
      go_upto_region 19 with fail
      go_cut [17, 18] from 107 to 114 (fun v vb wx => ∃ (gf : Nat) (k l i : Int) (Af : Option Addr) (nf cf : Nat) (b : Bool), v = .pointer (some ⟨gf, 0, none⟩) ∧ vb = .bool b ∧ Hid (Hits (e0N :: T.reverse) s k l i nf b) ∧ Hid (wx.heap[gf]? = some (.cells #[.int .i64 k, .int .i64 l, .int .i64 i, .slice Af nf cf] 44 (0, 0))) ∧ Hid (Below x1.heap.size x1 wx))
      case first =>
        obtain ⟨V, hV⟩ : ∃ V, V = World.drew x1 := ⟨_, rfl⟩
        have HBV := Lib.hid (show Below x1.heap.size x1 V by rw [hV]; exact (Below.refl _ _).drew)
        refine wp_region_held_drew (S := fun w' => (w'.cell? ⟨w10t.heap.size, 0, none⟩ = some (.slice At N1 ct) ∧ w'.cell? ⟨w10t.heap.size, 1, none⟩ = some (.int .i64 (N1 : Int)) ∧ Below x1.heap.size x1 w')) (by kernel_rfl) (by rw [← hV]; exact HSS_2.out _ HBV.out) (fun hHeld => ?_)
        rw [← hV] at hHeld ⊢
        clear hV
        refine wpAnyH_take (i := 0) (oi := ⟨some 108, _, _, _, _, _⟩) (v := ?_) rfl (by kernel_rfl) (by kernel_rfl) (by kernel_rfl) (fun _ _ _ h => h) (Or.inl ⟨by kernel_rfl, ?_⟩) (by assumption) ?_
        rotate_left 1
        focus (intro w' hSw; (try dsimp only at hSw); go_simp; (try with_reducible rfl))
        try simp only [Act.put, List.setIfInBounds_toArray, List.set_cons_zero, List.set_cons_succ]
        refine wpAnyH_take (i := 1) (oi := ⟨some 109, _, _, _, _, _⟩) (v := ?_) rfl (by kernel_rfl) (by kernel_rfl) (by kernel_rfl) (fun _ _ _ h => h) (Or.inl ⟨by kernel_rfl, ?_⟩) (by assumption) ?_
        rotate_left 1
        focus (intro w' hSw; (try dsimp only at hSw); go_simp; (try with_reducible rfl))
        try simp only [Act.put, List.setIfInBounds_toArray, List.set_cons_zero, List.set_cons_succ]
        refine wpAnyH_take (i := 3) (oi := ⟨some 111, _, _, _, _, _⟩) (v := ?_) rfl (by kernel_rfl) (by kernel_rfl) (by kernel_rfl) (fun _ _ _ h => h) (Or.inl ⟨by kernel_rfl, ?_⟩) (by assumption) ?_
        rotate_left 1
        focus (intro w' hSw; (try dsimp only at hSw); go_simp; (try with_reducible rfl))
        try simp only [Act.put, List.setIfInBounds_toArray, List.set_cons_zero, List.set_cons_succ]
        refine wpAnyH_ready (rs := [2, 8]) (by kernel_rfl) (by simp) ?_
        refine AllReadyH.cons rfl (fun K hK => ?_) (AllReadyH.cons rfl (fun K hK => ?_) AllReadyH.nil)
        · skip
          go_simp
          go_at_call 15
          refine (J1_2.out _ HBV.out).mono ?_
          rintro en v1 ⟨⟨Ap, cp, rfl, hp⟩, hv1⟩
          have HBv1 := Lib.hid (HBV.out.trans (hv1.mono (HBV.out).size))
          have HPv1 := Lib.hid hp
          clear hv1 hp
          clear hHeld
          refine hK.out _ _ (HSS_2.out _ HBv1.out) (fun hHeld => ?_)
          clear hK
          try simp only [Act.put, List.setIfInBounds_toArray, List.set_cons_zero, List.set_cons_succ]
          refine wpAnyH_ready (rs := [4, 8]) (by kernel_rfl) (by simp) ?_
          refine AllReadyH.cons rfl (fun K hK => ?_) (AllReadyH.cons rfl (fun K hK => ?_) AllReadyH.nil)
          · skip
            go_simp
            go_at_call 19
            refine (J2_2.out _ Ap cp HBv1.out HPv1.out).mono ?_
            rintro en v2 ⟨⟨k, l, i, Af, nf, cf, b, hh, rfl⟩, hv2⟩
            have HBv2 := Lib.hid (HBv1.out.trans (hv2.mono (HBv1.out).size))
            have HH := Lib.hid hh
            clear hv2 hh
            clear hHeld
            refine hK.out _ _ (HSS_2.out _ HBv2.out) (fun hHeld => ?_)
            clear hK
            try simp only [Act.put, List.setIfInBounds_toArray, List.set_cons_zero, List.set_cons_succ]
            refine wpAnyH_take (i := 5) (oi := ⟨some 107, _, _, _, _, _⟩) (v := ?_) rfl (by kernel_rfl) (by kernel_rfl) (by kernel_rfl) (fun _ _ _ h => h) (Or.inl ⟨by kernel_rfl, ?_⟩) (by assumption) ?_
            rotate_left 1
            focus (intro w' hSw; (try dsimp only at hSw); go_simp; (try with_reducible rfl))
            try simp only [Act.put, List.setIfInBounds_toArray, List.set_cons_zero, List.set_cons_succ]
            refine wpAnyH_take (i := 6) (oi := ⟨some 113, _, _, _, _, _⟩) (v := ?_) rfl (by kernel_rfl) (by kernel_rfl) (by kernel_rfl) (fun _ _ _ h => h) (Or.inl ⟨by kernel_rfl, ?_⟩) (by assumption) ?_
            rotate_left 1
            focus (intro w' hSw; (try dsimp only at hSw); go_simp; (try with_reducible rfl))
            try simp only [Act.put, List.setIfInBounds_toArray, List.set_cons_zero, List.set_cons_succ]
            refine wpAnyH_take (i := 7) (oi := ⟨some 114, _, _, _, _, _⟩) (v := ?_) rfl (by kernel_rfl) (by kernel_rfl) (by kernel_rfl) (fun _ _ _ h => h) (Or.inl ⟨by kernel_rfl, ?_⟩) (by assumption) ?_
            rotate_left 1
            focus (intro w' hSw; (try dsimp only at hSw); go_simp; (try with_reducible rfl))
            try simp only [Act.put, List.setIfInBounds_toArray, List.set_cons_zero, List.set_cons_succ]
            refine wpAnyH_ready (rs := [8]) (by kernel_rfl) (by simp) ?_
            refine AllReadyH.cons rfl (fun K hK => ?_) AllReadyH.nil
            obtain ⟨v3, hv3⟩ : ∃ v3, v3 = World.alloc v2 (.cells #[.int .i64 0, .int .i64 0, .int .i64 0, .slice none 0 0] 44) := ⟨_, rfl⟩
            have hxv3 : Below (World.heap v2).size v2 v3 := by rw [hv3]; exact (Below.refl _ _).alloc (Nat.le_refl _) _
            have HBv3 := Lib.hid (HBv2.out.trans (hxv3.mono (HBv2.out).size))
            have HGv3 := Lib.hid (show v3.heap[(World.heap v2).size]? = some (.cells #[.int .i64 0, .int .i64 0, .int .i64 0, .slice none 0 0] 44 (0, 0)) by rw [hv3]; exact heap_alloc_new v2 _)
            go_simp
            rw [← hv3]
            clear hv3 hxv3
            clear hHeld
            refine hK.out _ _ (HSS_2.out _ HBv3.out) (fun hHeld => ?_)
            clear hK
            try simp only [Act.put, List.setIfInBounds_toArray, List.set_cons_zero, List.set_cons_succ]
            refine wpAnyH_ready (rs := [9]) (by kernel_rfl) (by simp) ?_
            refine AllReadyH.cons rfl (fun K hK => ?_) AllReadyH.nil
            have c0 := cell_of_blk HGv3.out 0
            have c1 := cell_of_blk HGv3.out 1
            have c2 := cell_of_blk HGv3.out 2
            have c3 := cell_of_blk HGv3.out 3
            have z0 := free_of_blk HGv3.out 0
            have z1 := free_of_blk HGv3.out 1
            have z2 := free_of_blk HGv3.out 2
            have z3 := free_of_blk HGv3.out 3
            obtain ⟨v4, hv4⟩ : ∃ v4, v4 = (((World.setCell v3 ⟨(World.heap v2).size, 0, none⟩ (.int .i64 k)).setCell ⟨(World.heap v2).size, 1, none⟩ (.int .i64 l)).setCell ⟨(World.heap v2).size, 2, none⟩ (.int .i64 i)).setCell ⟨(World.heap v2).size, 3, none⟩ (.slice Af nf cf) := ⟨_, rfl⟩
            have hyv4 := over4 (u0 := .int .i64 k) (u1 := .int .i64 l) (u2 := .int .i64 i) (u3 := .slice Af nf cf) HGv3.out
            rw [← hv4] at hyv4
            have HGv4 := Lib.hid hyv4
            have hle : x1.heap.size ≤ (World.heap v2).size := HBv2.out.size
            have HBv4 : Hid (Below x1.heap.size x1 v4) := Lib.hid (by rw [hv4]; exact (((HBv3.out.setCell (p := ⟨(World.heap v2).size, 0, none⟩) hle _).setCell (p := ⟨(World.heap v2).size, 1, none⟩) hle _).setCell (p := ⟨(World.heap v2).size, 2, none⟩) hle _).setCell (p := ⟨(World.heap v2).size, 3, none⟩) hle _)
            go_simp
            rw [← hv4]
            clear hv4 hyv4 hle c0 c1 c2 c3 z0 z1 z2 z3
            clear hHeld
            refine hK.out _ _ (HSS_2.out _ HBv4.out) (fun hHeld => ?_)
            clear hK
            try simp only [Act.put, List.setIfInBounds_toArray, List.set_cons_zero, List.set_cons_succ]
            refine wpAnyH_take (i := 10) (oi := ⟨some 18, _, _, _, _, _⟩) (v := ?_) rfl (by kernel_rfl) (by kernel_rfl) (by kernel_rfl) (fun _ _ _ h => h) (Or.inl ⟨by kernel_rfl, ?_⟩) (by assumption) ?_
            rotate_left 1
            focus (intro w' hSw; (try dsimp only at hSw); go_simp; (try with_reducible rfl))
            try simp only [Act.put, List.setIfInBounds_toArray, List.set_cons_zero, List.set_cons_succ]
            refine wpAnyH_done (by kernel_rfl) ?_ _
            clear hHeld
            go_wp2_with fail
            go_meet
            case rel => exact ⟨_, k, l, i, Af, nf, cf, b, rfl, rfl, HH, HGv4, HBv4⟩
          · skip
            obtain ⟨v2, hv2⟩ : ∃ v2, v2 = World.alloc v1 (.cells #[.int .i64 0, .int .i64 0, .int .i64 0, .slice none 0 0] 44) := ⟨_, rfl⟩
            have hxv2 : Below (World.heap v1).size v1 v2 := by rw [hv2]; exact (Below.refl _ _).alloc (Nat.le_refl _) _
            have HBv2 := Lib.hid (HBv1.out.trans (hxv2.mono (HBv1.out).size))
            have HGv2 := Lib.hid (show v2.heap[(World.heap v1).size]? = some (.cells #[.int .i64 0, .int .i64 0, .int .i64 0, .slice none 0 0] 44 (0, 0)) by rw [hv2]; exact heap_alloc_new v1 _)
            have HPv2 := Lib.hid ((HPv1.out.keep hxv2).more hxv2.size)
            go_simp
            rw [← hv2]
            clear hv2 hxv2
            clear hHeld
            refine hK.out _ _ (HSS_2.out _ HBv2.out) (fun hHeld => ?_)
            clear hK
            try simp only [Act.put, List.setIfInBounds_toArray, List.set_cons_zero, List.set_cons_succ]
            refine wpAnyH_ready (rs := [4]) (by kernel_rfl) (by simp) ?_
            refine AllReadyH.cons rfl (fun K hK => ?_) AllReadyH.nil
            go_simp
            go_at_call 19
            refine (J2_2.out _ Ap cp HBv2.out HPv2.out).mono ?_
            rintro en v3 ⟨⟨k, l, i, Af, nf, cf, b, hh, rfl⟩, hv3⟩
            have HBv3 := Lib.hid (HBv2.out.trans (hv3.mono (HBv2.out).size))
            have HH := Lib.hid hh
            have HGv3 := Lib.hid ((hv3.block _ (lt_of_some HGv2.out)).trans HGv2.out)
            clear hv3 hh
            clear hHeld
            refine hK.out _ _ (HSS_2.out _ HBv3.out) (fun hHeld => ?_)
            clear hK
            try simp only [Act.put, List.setIfInBounds_toArray, List.set_cons_zero, List.set_cons_succ]
            refine wpAnyH_take (i := 5) (oi := ⟨some 107, _, _, _, _, _⟩) (v := ?_) rfl (by kernel_rfl) (by kernel_rfl) (by kernel_rfl) (fun _ _ _ h => h) (Or.inl ⟨by kernel_rfl, ?_⟩) (by assumption) ?_
            rotate_left 1
            focus (intro w' hSw; (try dsimp only at hSw); go_simp; (try with_reducible rfl))
            try simp only [Act.put, List.setIfInBounds_toArray, List.set_cons_zero, List.set_cons_succ]
            refine wpAnyH_take (i := 6) (oi := ⟨some 113, _, _, _, _, _⟩) (v := ?_) rfl (by kernel_rfl) (by kernel_rfl) (by kernel_rfl) (fun _ _ _ h => h) (Or.inl ⟨by kernel_rfl, ?_⟩) (by assumption) ?_
            rotate_left 1
            focus (intro w' hSw; (try dsimp only at hSw); go_simp; (try with_reducible rfl))
            try simp only [Act.put, List.setIfInBounds_toArray, List.set_cons_zero, List.set_cons_succ]
            refine wpAnyH_take (i := 7) (oi := ⟨some 114, _, _, _, _, _⟩) (v := ?_) rfl (by kernel_rfl) (by kernel_rfl) (by kernel_rfl) (fun _ _ _ h => h) (Or.inl ⟨by kernel_rfl, ?_⟩) (by assumption) ?_
            rotate_left 1
            focus (intro w' hSw; (try dsimp only at hSw); go_simp; (try with_reducible rfl))
            try simp only [Act.put, List.setIfInBounds_toArray, List.set_cons_zero, List.set_cons_succ]
            refine wpAnyH_ready (rs := [9]) (by kernel_rfl) (by simp) ?_
            refine AllReadyH.cons rfl (fun K hK => ?_) AllReadyH.nil
            have c0 := cell_of_blk HGv3.out 0
            have c1 := cell_of_blk HGv3.out 1
            have c2 := cell_of_blk HGv3.out 2
            have c3 := cell_of_blk HGv3.out 3
            have z0 := free_of_blk HGv3.out 0
            have z1 := free_of_blk HGv3.out 1
            have z2 := free_of_blk HGv3.out 2
            have z3 := free_of_blk HGv3.out 3
            obtain ⟨v4, hv4⟩ : ∃ v4, v4 = (((World.setCell v3 ⟨(World.heap v1).size, 0, none⟩ (.int .i64 k)).setCell ⟨(World.heap v1).size, 1, none⟩ (.int .i64 l)).setCell ⟨(World.heap v1).size, 2, none⟩ (.int .i64 i)).setCell ⟨(World.heap v1).size, 3, none⟩ (.slice Af nf cf) := ⟨_, rfl⟩
            have hyv4 := over4 (u0 := .int .i64 k) (u1 := .int .i64 l) (u2 := .int .i64 i) (u3 := .slice Af nf cf) HGv3.out
            rw [← hv4] at hyv4
            have HGv4 := Lib.hid hyv4
            have hle : x1.heap.size ≤ (World.heap v1).size := HBv1.out.size
            have HBv4 : Hid (Below x1.heap.size x1 v4) := Lib.hid (by rw [hv4]; exact (((HBv3.out.setCell (p := ⟨(World.heap v1).size, 0, none⟩) hle _).setCell (p := ⟨(World.heap v1).size, 1, none⟩) hle _).setCell (p := ⟨(World.heap v1).size, 2, none⟩) hle _).setCell (p := ⟨(World.heap v1).size, 3, none⟩) hle _)
            go_simp
            rw [← hv4]
            clear hv4 hyv4 hle c0 c1 c2 c3 z0 z1 z2 z3
            clear hHeld
            refine hK.out _ _ (HSS_2.out _ HBv4.out) (fun hHeld => ?_)
            clear hK
            try simp only [Act.put, List.setIfInBounds_toArray, List.set_cons_zero, List.set_cons_succ]
            refine wpAnyH_take (i := 10) (oi := ⟨some 18, _, _, _, _, _⟩) (v := ?_) rfl (by kernel_rfl) (by kernel_rfl) (by kernel_rfl) (fun _ _ _ h => h) (Or.inl ⟨by kernel_rfl, ?_⟩) (by assumption) ?_
            rotate_left 1
            focus (intro w' hSw; (try dsimp only at hSw); go_simp; (try with_reducible rfl))
            try simp only [Act.put, List.setIfInBounds_toArray, List.set_cons_zero, List.set_cons_succ]
            refine wpAnyH_done (by kernel_rfl) ?_ _
            clear hHeld
            go_wp2_with fail
            go_meet
            case rel => exact ⟨_, k, l, i, Af, nf, cf, b, rfl, rfl, HH, HGv4, HBv4⟩
        · skip
          obtain ⟨v1, hv1⟩ : ∃ v1, v1 = World.alloc V (.cells #[.int .i64 0, .int .i64 0, .int .i64 0, .slice none 0 0] 44) := ⟨_, rfl⟩
          have hxv1 : Below (World.heap V).size V v1 := by rw [hv1]; exact (Below.refl _ _).alloc (Nat.le_refl _) _
          have HBv1 := Lib.hid (HBV.out.trans (hxv1.mono (HBV.out).size))
          have HGv1 := Lib.hid (show v1.heap[(World.heap V).size]? = some (.cells #[.int .i64 0, .int .i64 0, .int .i64 0, .slice none 0 0] 44 (0, 0)) by rw [hv1]; exact heap_alloc_new V _)
          go_simp
          rw [← hv1]
          clear hv1 hxv1
          clear hHeld
          refine hK.out _ _ (HSS_2.out _ HBv1.out) (fun hHeld => ?_)
          clear hK
          try simp only [Act.put, List.setIfInBounds_toArray, List.set_cons_zero, List.set_cons_succ]
          refine wpAnyH_ready (rs := [2]) (by kernel_rfl) (by simp) ?_
          refine AllReadyH.cons rfl (fun K hK => ?_) AllReadyH.nil
          go_simp
          go_at_call 15
          refine (J1_2.out _ HBv1.out).mono ?_
          rintro en v2 ⟨⟨Ap, cp, rfl, hp⟩, hv2⟩
          have HBv2 := Lib.hid (HBv1.out.trans (hv2.mono (HBv1.out).size))
          have HPv2 := Lib.hid hp
          have HGv2 := Lib.hid ((hv2.block _ (lt_of_some HGv1.out)).trans HGv1.out)
          clear hv2 hp
          clear hHeld
          refine hK.out _ _ (HSS_2.out _ HBv2.out) (fun hHeld => ?_)
          clear hK
          try simp only [Act.put, List.setIfInBounds_toArray, List.set_cons_zero, List.set_cons_succ]
          refine wpAnyH_ready (rs := [4]) (by kernel_rfl) (by simp) ?_
          refine AllReadyH.cons rfl (fun K hK => ?_) AllReadyH.nil
          go_simp
          go_at_call 19
          refine (J2_2.out _ Ap cp HBv2.out HPv2.out).mono ?_
          rintro en v3 ⟨⟨k, l, i, Af, nf, cf, b, hh, rfl⟩, hv3⟩
          have HBv3 := Lib.hid (HBv2.out.trans (hv3.mono (HBv2.out).size))
          have HH := Lib.hid hh
          have HGv3 := Lib.hid ((hv3.block _ (lt_of_some HGv2.out)).trans HGv2.out)
          clear hv3 hh
          clear hHeld
          refine hK.out _ _ (HSS_2.out _ HBv3.out) (fun hHeld => ?_)
          clear hK
          try simp only [Act.put, List.setIfInBounds_toArray, List.set_cons_zero, List.set_cons_succ]
          refine wpAnyH_take (i := 5) (oi := ⟨some 107, _, _, _, _, _⟩) (v := ?_) rfl (by kernel_rfl) (by kernel_rfl) (by kernel_rfl) (fun _ _ _ h => h) (Or.inl ⟨by kernel_rfl, ?_⟩) (by assumption) ?_
          rotate_left 1
          focus (intro w' hSw; (try dsimp only at hSw); go_simp; (try with_reducible rfl))
          try simp only [Act.put, List.setIfInBounds_toArray, List.set_cons_zero, List.set_cons_succ]
          refine wpAnyH_take (i := 6) (oi := ⟨some 113, _, _, _, _, _⟩) (v := ?_) rfl (by kernel_rfl) (by kernel_rfl) (by kernel_rfl) (fun _ _ _ h => h) (Or.inl ⟨by kernel_rfl, ?_⟩) (by assumption) ?_
          rotate_left 1
          focus (intro w' hSw; (try dsimp only at hSw); go_simp; (try with_reducible rfl))
          try simp only [Act.put, List.setIfInBounds_toArray, List.set_cons_zero, List.set_cons_succ]
          refine wpAnyH_take (i := 7) (oi := ⟨some 114, _, _, _, _, _⟩) (v := ?_) rfl (by kernel_rfl) (by kernel_rfl) (by kernel_rfl) (fun _ _ _ h => h) (Or.inl ⟨by kernel_rfl, ?_⟩) (by assumption) ?_
          rotate_left 1
          focus (intro w' hSw; (try dsimp only at hSw); go_simp; (try with_reducible rfl))
          try simp only [Act.put, List.setIfInBounds_toArray, List.set_cons_zero, List.set_cons_succ]
          refine wpAnyH_ready (rs := [9]) (by kernel_rfl) (by simp) ?_
          refine AllReadyH.cons rfl (fun K hK => ?_) AllReadyH.nil
          have c0 := cell_of_blk HGv3.out 0
          have c1 := cell_of_blk HGv3.out 1
          have c2 := cell_of_blk HGv3.out 2
          have c3 := cell_of_blk HGv3.out 3
          have z0 := free_of_blk HGv3.out 0
          have z1 := free_of_blk HGv3.out 1
          have z2 := free_of_blk HGv3.out 2
          have z3 := free_of_blk HGv3.out 3
          obtain ⟨v4, hv4⟩ : ∃ v4, v4 = (((World.setCell v3 ⟨(World.heap V).size, 0, none⟩ (.int .i64 k)).setCell ⟨(World.heap V).size, 1, none⟩ (.int .i64 l)).setCell ⟨(World.heap V).size, 2, none⟩ (.int .i64 i)).setCell ⟨(World.heap V).size, 3, none⟩ (.slice Af nf cf) := ⟨_, rfl⟩
          have hyv4 := over4 (u0 := .int .i64 k) (u1 := .int .i64 l) (u2 := .int .i64 i) (u3 := .slice Af nf cf) HGv3.out
          rw [← hv4] at hyv4
          have HGv4 := Lib.hid hyv4
          have hle : x1.heap.size ≤ (World.heap V).size := HBV.out.size
          have HBv4 : Hid (Below x1.heap.size x1 v4) := Lib.hid (by rw [hv4]; exact (((HBv3.out.setCell (p := ⟨(World.heap V).size, 0, none⟩) hle _).setCell (p := ⟨(World.heap V).size, 1, none⟩) hle _).setCell (p := ⟨(World.heap V).size, 2, none⟩) hle _).setCell (p := ⟨(World.heap V).size, 3, none⟩) hle _)
          go_simp
          rw [← hv4]
          clear hv4 hyv4 hle c0 c1 c2 c3 z0 z1 z2 z3
          clear hHeld
          refine hK.out _ _ (HSS_2.out _ HBv4.out) (fun hHeld => ?_)
          clear hK
          try simp only [Act.put, List.setIfInBounds_toArray, List.set_cons_zero, List.set_cons_succ]
          refine wpAnyH_take (i := 10) (oi := ⟨some 18, _, _, _, _, _⟩) (v := ?_) rfl (by kernel_rfl) (by kernel_rfl) (by kernel_rfl) (fun _ _ _ h => h) (Or.inl ⟨by kernel_rfl, ?_⟩) (by assumption) ?_
          rotate_left 1
          focus (intro w' hSw; (try dsimp only at hSw); go_simp; (try with_reducible rfl))
          try simp only [Act.put, List.setIfInBounds_toArray, List.set_cons_zero, List.set_cons_succ]
          refine wpAnyH_done (by kernel_rfl) ?_ _
          clear hHeld
          go_wp2_with fail
          go_meet
          case rel => exact ⟨_, k, l, i, Af, nf, cf, b, rfl, rfl, HH, HGv4, HBv4⟩
      case rest =>
      rename World => x2
      obtain ⟨g2, k2, l2, i2, Af2, nf2, cf2, b2, rfl, rfl, HH2, HG2, HXb2⟩ := hcut
      have HX2 := Lib.hid (HX1.out.trans (HXb2.out.mono HX1.out.size))
      replace HG1 := Lib.hid ((HXb2.out.block _ (lt_of_some HG1.out)).trans HG1.out)
      clear J1_2 J2_2 HSS_2 HSq_2 HKq_2 HXb2
      have HSq_3 := Lib.hid (HS3.out.later HX2.out)
      have HKq_3 := Lib.hid ((HX2.out.block _ (lt_of_some HK3.out)).trans HK3.out)
      have J1_3 : Hid (∀ w' : World, Below x2.heap.size x2 w' → Calls Tryd.prog 15 #[.agg #[.slice Au N1 cu, .int .i64 (N1 : Int)]] w' fun e w'' => (∃ Ap cp, e = .returned (.slice Ap (rootP (tabs (oN :: T.reverse))).length cp) ∧ Plc w'' w''.heap.size Ap (rootP (tabs (oN :: T.reverse)))) ∧ Below w'.heap.size w' w'') := Lib.hid fun w' hb => by
        have h1 := rooted_any (R := oN :: T.reverse) HFO.out Au cu (N1 : Int) Lu w' (HSq_3.out.later hb) (by rw [HLu.out]; have := HN1.out; omega)
        rw [HLu.out] at h1
        exact h1
      have J2_3 : Hid (∀ (w' : World) (Ap : Option Addr) (cp : Nat), Below x2.heap.size x2 w' → Plc w' w'.heap.size Ap (rootP (tabs (oN :: T.reverse))) → Calls Tryd.prog 19 #[.agg #[.slice Au N1 cu, .int .i64 (N1 : Int)], .slice Ap (rootP (tabs (oN :: T.reverse))).length cp, .string s] w' fun e w'' => (∃ k l i Af nf cf b, Hits (oN :: T.reverse) s k l i nf b ∧ e = .returned (.tuple #[.agg #[.int .i64 k, .int .i64 l, .int .i64 i, .slice Af nf cf], .bool b])) ∧ Below w'.heap.size w' w'') := Lib.hid fun w' Ap cp hb hp => by
        have h1 := looked_root (R := oN :: T.reverse) HFO.out Au cu (N1 : Int) Lu Ap cp s w' (HSq_3.out.later hb) (by rw [HLu.out]; have := HN1.out; omega) hp
        rw [HLu.out] at h1
        exact h1
      have HSS_3 : Hid (∀ w' : World, Below x2.heap.size x2 w' → ((w'.cell? ⟨w10u.heap.size, 0, none⟩ = some (.slice Au N1 cu) ∧ w'.cell? ⟨w10u.heap.size, 1, none⟩ = some (.int .i64 (N1 : Int)) ∧ Below x2.heap.size x2 w'))) := Lib.hid fun w' hb' => by
        have e2 := (hb'.block _ (lt_of_some HKq_3.out)).trans HKq_3.out
        exact ⟨cell_of_blk e2 0, cell_of_blk e2 1, hb'⟩
      go_upto_region 20 with fail
      go_cut [19, 20] from 115 to 122 (fun v vb wx => ∃ (gf : Nat) (k l i : Int) (Af : Option Addr) (nf cf : Nat) (b : Bool), v = .pointer (some ⟨gf, 0, none⟩) ∧ vb = .bool b ∧ Hid (Hits (oN :: T.reverse) s k l i nf b) ∧ Hid (wx.heap[gf]? = some (.cells #[.int .i64 k, .int .i64 l, .int .i64 i, .slice Af nf cf] 44 (0, 0))) ∧ Hid (Below x2.heap.size x2 wx))
      case first =>
        obtain ⟨V, hV⟩ : ∃ V, V = World.drew x2 := ⟨_, rfl⟩
        have HBV := Lib.hid (show Below x2.heap.size x2 V by rw [hV]; exact (Below.refl _ _).drew)
        refine wp_region_held_drew (S := fun w' => (w'.cell? ⟨w10u.heap.size, 0, none⟩ = some (.slice Au N1 cu) ∧ w'.cell? ⟨w10u.heap.size, 1, none⟩ = some (.int .i64 (N1 : Int)) ∧ Below x2.heap.size x2 w')) (by kernel_rfl) (by rw [← hV]; exact HSS_3.out _ HBV.out) (fun hHeld => ?_)
        rw [← hV] at hHeld ⊢
        clear hV
        refine wpAnyH_take (i := 0) (oi := ⟨some 116, _, _, _, _, _⟩) (v := ?_) rfl (by kernel_rfl) (by kernel_rfl) (by kernel_rfl) (fun _ _ _ h => h) (Or.inl ⟨by kernel_rfl, ?_⟩) (by assumption) ?_
        rotate_left 1
        focus (intro w' hSw; (try dsimp only at hSw); go_simp; (try with_reducible rfl))
        try simp only [Act.put, List.setIfInBounds_toArray, List.set_cons_zero, List.set_cons_succ]
        refine wpAnyH_take (i := 1) (oi := ⟨some 117, _, _, _, _, _⟩) (v := ?_) rfl (by kernel_rfl) (by kernel_rfl) (by kernel_rfl) (fun _ _ _ h => h) (Or.inl ⟨by kernel_rfl, ?_⟩) (by assumption) ?_
        rotate_left 1
        focus (intro w' hSw; (try dsimp only at hSw); go_simp; (try with_reducible rfl))
        try simp only [Act.put, List.setIfInBounds_toArray, List.set_cons_zero, List.set_cons_succ]
        refine wpAnyH_take (i := 3) (oi := ⟨some 119, _, _, _, _, _⟩) (v := ?_) rfl (by kernel_rfl) (by kernel_rfl) (by kernel_rfl) (fun _ _ _ h => h) (Or.inl ⟨by kernel_rfl, ?_⟩) (by assumption) ?_
        rotate_left 1
        focus (intro w' hSw; (try dsimp only at hSw); go_simp; (try with_reducible rfl))
        try simp only [Act.put, List.setIfInBounds_toArray, List.set_cons_zero, List.set_cons_succ]
        refine wpAnyH_ready (rs := [2, 8]) (by kernel_rfl) (by simp) ?_
        refine AllReadyH.cons rfl (fun K hK => ?_) (AllReadyH.cons rfl (fun K hK => ?_) AllReadyH.nil)
        · skip
          go_simp
          go_at_call 15
          refine (J1_3.out _ HBV.out).mono ?_
          rintro en v1 ⟨⟨Ap, cp, rfl, hp⟩, hv1⟩
          have HBv1 := Lib.hid (HBV.out.trans (hv1.mono (HBV.out).size))
          have HPv1 := Lib.hid hp
          clear hv1 hp
          clear hHeld
          refine hK.out _ _ (HSS_3.out _ HBv1.out) (fun hHeld => ?_)
          clear hK
          try simp only [Act.put, List.setIfInBounds_toArray, List.set_cons_zero, List.set_cons_succ]
          refine wpAnyH_ready (rs := [4, 8]) (by kernel_rfl) (by simp) ?_
          refine AllReadyH.cons rfl (fun K hK => ?_) (AllReadyH.cons rfl (fun K hK => ?_) AllReadyH.nil)
          · skip
            go_simp
            go_at_call 19
            refine (J2_3.out _ Ap cp HBv1.out HPv1.out).mono ?_
            rintro en v2 ⟨⟨k, l, i, Af, nf, cf, b, hh, rfl⟩, hv2⟩
            have HBv2 := Lib.hid (HBv1.out.trans (hv2.mono (HBv1.out).size))
            have HH := Lib.hid hh
            clear hv2 hh
            clear hHeld
            refine hK.out _ _ (HSS_3.out _ HBv2.out) (fun hHeld => ?_)
            clear hK
            try simp only [Act.put, List.setIfInBounds_toArray, List.set_cons_zero, List.set_cons_succ]
            refine wpAnyH_take (i := 5) (oi := ⟨some 115, _, _, _, _, _⟩) (v := ?_) rfl (by kernel_rfl) (by kernel_rfl) (by kernel_rfl) (fun _ _ _ h => h) (Or.inl ⟨by kernel_rfl, ?_⟩) (by assumption) ?_
            rotate_left 1
            focus (intro w' hSw; (try dsimp only at hSw); go_simp; (try with_reducible rfl))
            try simp only [Act.put, List.setIfInBounds_toArray, List.set_cons_zero, List.set_cons_succ]
            refine wpAnyH_take (i := 6) (oi := ⟨some 121, _, _, _, _, _⟩) (v := ?_) rfl (by kernel_rfl) (by kernel_rfl) (by kernel_rfl) (fun _ _ _ h => h) (Or.inl ⟨by kernel_rfl, ?_⟩) (by assumption) ?_
            rotate_left 1
            focus (intro w' hSw; (try dsimp only at hSw); go_simp; (try with_reducible rfl))
            try simp only [Act.put, List.setIfInBounds_toArray, List.set_cons_zero, List.set_cons_succ]
            refine wpAnyH_take (i := 7) (oi := ⟨some 122, _, _, _, _, _⟩) (v := ?_) rfl (by kernel_rfl) (by kernel_rfl) (by kernel_rfl) (fun _ _ _ h => h) (Or.inl ⟨by kernel_rfl, ?_⟩) (by assumption) ?_
            rotate_left 1
            focus (intro w' hSw; (try dsimp only at hSw); go_simp; (try with_reducible rfl))
            try simp only [Act.put, List.setIfInBounds_toArray, List.set_cons_zero, List.set_cons_succ]
            refine wpAnyH_ready (rs := [8]) (by kernel_rfl) (by simp) ?_
            refine AllReadyH.cons rfl (fun K hK => ?_) AllReadyH.nil
            obtain ⟨v3, hv3⟩ : ∃ v3, v3 = World.alloc v2 (.cells #[.int .i64 0, .int .i64 0, .int .i64 0, .slice none 0 0] 44) := ⟨_, rfl⟩
            have hxv3 : Below (World.heap v2).size v2 v3 := by rw [hv3]; exact (Below.refl _ _).alloc (Nat.le_refl _) _
            have HBv3 := Lib.hid (HBv2.out.trans (hxv3.mono (HBv2.out).size))
            have HGv3 := Lib.hid (show v3.heap[(World.heap v2).size]? = some (.cells #[.int .i64 0, .int .i64 0, .int .i64 0, .slice none 0 0] 44 (0, 0)) by rw [hv3]; exact heap_alloc_new v2 _)
            go_simp
            rw [← hv3]
            clear hv3 hxv3
            clear hHeld
            refine hK.out _ _ (HSS_3.out _ HBv3.out) (fun hHeld => ?_)
            clear hK
            try simp only [Act.put, List.setIfInBounds_toArray, List.set_cons_zero, List.set_cons_succ]
            refine wpAnyH_ready (rs := [9]) (by kernel_rfl) (by simp) ?_
            refine AllReadyH.cons rfl (fun K hK => ?_) AllReadyH.nil
            have c0 := cell_of_blk HGv3.out 0
            have c1 := cell_of_blk HGv3.out 1
            have c2 := cell_of_blk HGv3.out 2
            have c3 := cell_of_blk HGv3.out 3
            have z0 := free_of_blk HGv3.out 0
            have z1 := free_of_blk HGv3.out 1
            have z2 := free_of_blk HGv3.out 2
            have z3 := free_of_blk HGv3.out 3
            obtain ⟨v4, hv4⟩ : ∃ v4, v4 = (((World.setCell v3 ⟨(World.heap v2).size, 0, none⟩ (.int .i64 k)).setCell ⟨(World.heap v2).size, 1, none⟩ (.int .i64 l)).setCell ⟨(World.heap v2).size, 2, none⟩ (.int .i64 i)).setCell ⟨(World.heap v2).size, 3, none⟩ (.slice Af nf cf) := ⟨_, rfl⟩
            have hyv4 := over4 (u0 := .int .i64 k) (u1 := .int .i64 l) (u2 := .int .i64 i) (u3 := .slice Af nf cf) HGv3.out
            rw [← hv4] at hyv4
            have HGv4 := Lib.hid hyv4
            have hle : x2.heap.size ≤ (World.heap v2).size := HBv2.out.size
            have HBv4 : Hid (Below x2.heap.size x2 v4) := Lib.hid (by rw [hv4]; exact (((HBv3.out.setCell (p := ⟨(World.heap v2).size, 0, none⟩) hle _).setCell (p := ⟨(World.heap v2).size, 1, none⟩) hle _).setCell (p := ⟨(World.heap v2).size, 2, none⟩) hle _).setCell (p := ⟨(World.heap v2).size, 3, none⟩) hle _)
            go_simp
            rw [← hv4]
            clear hv4 hyv4 hle c0 c1 c2 c3 z0 z1 z2 z3
            clear hHeld
            refine hK.out _ _ (HSS_3.out _ HBv4.out) (fun hHeld => ?_)
            clear hK
            try simp only [Act.put, List.setIfInBounds_toArray, List.set_cons_zero, List.set_cons_succ]
            refine wpAnyH_take (i := 10) (oi := ⟨some 20, _, _, _, _, _⟩) (v := ?_) rfl (by kernel_rfl) (by kernel_rfl) (by kernel_rfl) (fun _ _ _ h => h) (Or.inl ⟨by kernel_rfl, ?_⟩) (by assumption) ?_
            rotate_left 1
            focus (intro w' hSw; (try dsimp only at hSw); go_simp; (try with_reducible rfl))
            try simp only [Act.put, List.setIfInBounds_toArray, List.set_cons_zero, List.set_cons_succ]
            refine wpAnyH_done (by kernel_rfl) ?_ _
            clear hHeld
            go_wp2_with fail
            go_meet
            case rel => exact ⟨_, k, l, i, Af, nf, cf, b, rfl, rfl, HH, HGv4, HBv4⟩
          · skip
            obtain ⟨v2, hv2⟩ : ∃ v2, v2 = World.alloc v1 (.cells #[.int .i64 0, .int .i64 0, .int .i64 0, .slice none 0 0] 44) := ⟨_, rfl⟩
            have hxv2 : Below (World.heap v1).size v1 v2 := by rw [hv2]; exact (Below.refl _ _).alloc (Nat.le_refl _) _
            have HBv2 := Lib.hid (HBv1.out.trans (hxv2.mono (HBv1.out).size))
            have HGv2 := Lib.hid (show v2.heap[(World.heap v1).size]? = some (.cells #[.int .i64 0, .int .i64 0, .int .i64 0, .slice none 0 0] 44 (0, 0)) by rw [hv2]; exact heap_alloc_new v1 _)
            have HPv2 := Lib.hid ((HPv1.out.keep hxv2).more hxv2.size)
            go_simp
            rw [← hv2]
            clear hv2 hxv2
            clear hHeld
            refine hK.out _ _ (HSS_3.out _ HBv2.out) (fun hHeld => ?_)
            clear hK
            try simp only [Act.put, List.setIfInBounds_toArray, List.set_cons_zero, List.set_cons_succ]
            refine wpAnyH_ready (rs := [4]) (by kernel_rfl) (by simp) ?_
            refine AllReadyH.cons rfl (fun K hK => ?_) AllReadyH.nil
            go_simp
            go_at_call 19
            refine (J2_3.out _ Ap cp HBv2.out HPv2.out).mono ?_
            rintro en v3 ⟨⟨k, l, i, Af, nf, cf, b, hh, rfl⟩, hv3⟩
            have HBv3 := Lib.hid (HBv2.out.trans (hv3.mono (HBv2.out).size))
            have HH := Lib.hid hh
            have HGv3 := Lib.hid ((hv3.block _ (lt_of_some HGv2.out)).trans HGv2.out)
            clear hv3 hh
            clear hHeld
            refine hK.out _ _ (HSS_3.out _ HBv3.out) (fun hHeld => ?_)
            clear hK
            try simp only [Act.put, List.setIfInBounds_toArray, List.set_cons_zero, List.set_cons_succ]
            refine wpAnyH_take (i := 5) (oi := ⟨some 115, _, _, _, _, _⟩) (v := ?_) rfl (by kernel_rfl) (by kernel_rfl) (by kernel_rfl) (fun _ _ _ h => h) (Or.inl ⟨by kernel_rfl, ?_⟩) (by assumption) ?_
            rotate_left 1
            focus (intro w' hSw; (try dsimp only at hSw); go_simp; (try with_reducible rfl))
            try simp only [Act.put, List.setIfInBounds_toArray, List.set_cons_zero, List.set_cons_succ]
            refine wpAnyH_take (i := 6) (oi := ⟨some 121, _, _, _, _, _⟩) (v := ?_) rfl (by kernel_rfl) (by kernel_rfl) (by kernel_rfl) (fun _ _ _ h => h) (Or.inl ⟨by kernel_rfl, ?_⟩) (by assumption) ?_
            rotate_left 1
            focus (intro w' hSw; (try dsimp only at hSw); go_simp; (try with_reducible rfl))
            try simp only [Act.put, List.setIfInBounds_toArray, List.set_cons_zero, List.set_cons_succ]
            refine wpAnyH_take (i := 7) (oi := ⟨some 122, _, _, _, _, _⟩) (v := ?_) rfl (by kernel_rfl) (by kernel_rfl) (by kernel_rfl) (fun _ _ _ h => h) (Or.inl ⟨by kernel_rfl, ?_⟩) (by assumption) ?_
            rotate_left 1
            focus (intro w' hSw; (try dsimp only at hSw); go_simp; (try with_reducible rfl))
            try simp only [Act.put, List.setIfInBounds_toArray, List.set_cons_zero, List.set_cons_succ]
            refine wpAnyH_ready (rs := [9]) (by kernel_rfl) (by simp) ?_
            refine AllReadyH.cons rfl (fun K hK => ?_) AllReadyH.nil
            have c0 := cell_of_blk HGv3.out 0
            have c1 := cell_of_blk HGv3.out 1
            have c2 := cell_of_blk HGv3.out 2
            have c3 := cell_of_blk HGv3.out 3
            have z0 := free_of_blk HGv3.out 0
            have z1 := free_of_blk HGv3.out 1
            have z2 := free_of_blk HGv3.out 2
            have z3 := free_of_blk HGv3.out 3
            obtain ⟨v4, hv4⟩ : ∃ v4, v4 = (((World.setCell v3 ⟨(World.heap v1).size, 0, none⟩ (.int .i64 k)).setCell ⟨(World.heap v1).size, 1, none⟩ (.int .i64 l)).setCell ⟨(World.heap v1).size, 2, none⟩ (.int .i64 i)).setCell ⟨(World.heap v1).size, 3, none⟩ (.slice Af nf cf) := ⟨_, rfl⟩
            have hyv4 := over4 (u0 := .int .i64 k) (u1 := .int .i64 l) (u2 := .int .i64 i) (u3 := .slice Af nf cf) HGv3.out
            rw [← hv4] at hyv4
            have HGv4 := Lib.hid hyv4
            have hle : x2.heap.size ≤ (World.heap v1).size := HBv1.out.size
            have HBv4 : Hid (Below x2.heap.size x2 v4) := Lib.hid (by rw [hv4]; exact (((HBv3.out.setCell (p := ⟨(World.heap v1).size, 0, none⟩) hle _).setCell (p := ⟨(World.heap v1).size, 1, none⟩) hle _).setCell (p := ⟨(World.heap v1).size, 2, none⟩) hle _).setCell (p := ⟨(World.heap v1).size, 3, none⟩) hle _)
            go_simp
            rw [← hv4]
            clear hv4 hyv4 hle c0 c1 c2 c3 z0 z1 z2 z3
            clear hHeld
            refine hK.out _ _ (HSS_3.out _ HBv4.out) (fun hHeld => ?_)
            clear hK
            try simp only [Act.put, List.setIfInBounds_toArray, List.set_cons_zero, List.set_cons_succ]
            refine wpAnyH_take (i := 10) (oi := ⟨some 20, _, _, _, _, _⟩) (v := ?_) rfl (by kernel_rfl) (by kernel_rfl) (by kernel_rfl) (fun _ _ _ h => h) (Or.inl ⟨by kernel_rfl, ?_⟩) (by assumption) ?_
            rotate_left 1
            focus (intro w' hSw; (try dsimp only at hSw); go_simp; (try with_reducible rfl))
            try simp only [Act.put, List.setIfInBounds_toArray, List.set_cons_zero, List.set_cons_succ]
            refine wpAnyH_done (by kernel_rfl) ?_ _
            clear hHeld
            go_wp2_with fail
            go_meet
            case rel => exact ⟨_, k, l, i, Af, nf, cf, b, rfl, rfl, HH, HGv4, HBv4⟩
        · skip
          obtain ⟨v1, hv1⟩ : ∃ v1, v1 = World.alloc V (.cells #[.int .i64 0, .int .i64 0, .int .i64 0, .slice none 0 0] 44) := ⟨_, rfl⟩
          have hxv1 : Below (World.heap V).size V v1 := by rw [hv1]; exact (Below.refl _ _).alloc (Nat.le_refl _) _
          have HBv1 := Lib.hid (HBV.out.trans (hxv1.mono (HBV.out).size))
          have HGv1 := Lib.hid (show v1.heap[(World.heap V).size]? = some (.cells #[.int .i64 0, .int .i64 0, .int .i64 0, .slice none 0 0] 44 (0, 0)) by rw [hv1]; exact heap_alloc_new V _)
          go_simp
          rw [← hv1]
          clear hv1 hxv1
          clear hHeld
          refine hK.out _ _ (HSS_3.out _ HBv1.out) (fun hHeld => ?_)
          clear hK
          try simp only [Act.put, List.setIfInBounds_toArray, List.set_cons_zero, List.set_cons_succ]
          refine wpAnyH_ready (rs := [2]) (by kernel_rfl) (by simp) ?_
          refine AllReadyH.cons rfl (fun K hK => ?_) AllReadyH.nil
          go_simp
          go_at_call 15
          refine (J1_3.out _ HBv1.out).mono ?_
          rintro en v2 ⟨⟨Ap, cp, rfl, hp⟩, hv2⟩
          have HBv2 := Lib.hid (HBv1.out.trans (hv2.mono (HBv1.out).size))
          have HPv2 := Lib.hid hp
          have HGv2 := Lib.hid ((hv2.block _ (lt_of_some HGv1.out)).trans HGv1.out)
          clear hv2 hp
          clear hHeld
          refine hK.out _ _ (HSS_3.out _ HBv2.out) (fun hHeld => ?_)
          clear hK
          try simp only [Act.put, List.setIfInBounds_toArray, List.set_cons_zero, List.set_cons_succ]
          refine wpAnyH_ready (rs := [4]) (by kernel_rfl) (by simp) ?_
          refine AllReadyH.cons rfl (fun K hK => ?_) AllReadyH.nil
          go_simp
          go_at_call 19
          refine (J2_3.out _ Ap cp HBv2.out HPv2.out).mono ?_
          rintro en v3 ⟨⟨k, l, i, Af, nf, cf, b, hh, rfl⟩, hv3⟩
          have HBv3 := Lib.hid (HBv2.out.trans (hv3.mono (HBv2.out).size))
          have HH := Lib.hid hh
          have HGv3 := Lib.hid ((hv3.block _ (lt_of_some HGv2.out)).trans HGv2.out)
          clear hv3 hh
          clear hHeld
          refine hK.out _ _ (HSS_3.out _ HBv3.out) (fun hHeld => ?_)
          clear hK
          try simp only [Act.put, List.setIfInBounds_toArray, List.set_cons_zero, List.set_cons_succ]
          refine wpAnyH_take (i := 5) (oi := ⟨some 115, _, _, _, _, _⟩) (v := ?_) rfl (by kernel_rfl) (by kernel_rfl) (by kernel_rfl) (fun _ _ _ h => h) (Or.inl ⟨by kernel_rfl, ?_⟩) (by assumption) ?_
          rotate_left 1
          focus (intro w' hSw; (try dsimp only at hSw); go_simp; (try with_reducible rfl))
          try simp only [Act.put, List.setIfInBounds_toArray, List.set_cons_zero, List.set_cons_succ]
          refine wpAnyH_take (i := 6) (oi := ⟨some 121, _, _, _, _, _⟩) (v := ?_) rfl (by kernel_rfl) (by kernel_rfl) (by kernel_rfl) (fun _ _ _ h => h) (Or.inl ⟨by kernel_rfl, ?_⟩) (by assumption) ?_
          rotate_left 1
          focus (intro w' hSw; (try dsimp only at hSw); go_simp; (try with_reducible rfl))
          try simp only [Act.put, List.setIfInBounds_toArray, List.set_cons_zero, List.set_cons_succ]
          refine wpAnyH_take (i := 7) (oi := ⟨some 122, _, _, _, _, _⟩) (v := ?_) rfl (by kernel_rfl) (by kernel_rfl) (by kernel_rfl) (fun _ _ _ h => h) (Or.inl ⟨by kernel_rfl, ?_⟩) (by assumption) ?_
          rotate_left 1
          focus (intro w' hSw; (try dsimp only at hSw); go_simp; (try with_reducible rfl))
          try simp only [Act.put, List.setIfInBounds_toArray, List.set_cons_zero, List.set_cons_succ]
          refine wpAnyH_ready (rs := [9]) (by kernel_rfl) (by simp) ?_
          refine AllReadyH.cons rfl (fun K hK => ?_) AllReadyH.nil
          have c0 := cell_of_blk HGv3.out 0
          have c1 := cell_of_blk HGv3.out 1
          have c2 := cell_of_blk HGv3.out 2
          have c3 := cell_of_blk HGv3.out 3
          have z0 := free_of_blk HGv3.out 0
          have z1 := free_of_blk HGv3.out 1
          have z2 := free_of_blk HGv3.out 2
          have z3 := free_of_blk HGv3.out 3
          obtain ⟨v4, hv4⟩ : ∃ v4, v4 = (((World.setCell v3 ⟨(World.heap V).size, 0, none⟩ (.int .i64 k)).setCell ⟨(World.heap V).size, 1, none⟩ (.int .i64 l)).setCell ⟨(World.heap V).size, 2, none⟩ (.int .i64 i)).setCell ⟨(World.heap V).size, 3, none⟩ (.slice Af nf cf) := ⟨_, rfl⟩
          have hyv4 := over4 (u0 := .int .i64 k) (u1 := .int .i64 l) (u2 := .int .i64 i) (u3 := .slice Af nf cf) HGv3.out
          rw [← hv4] at hyv4
          have HGv4 := Lib.hid hyv4
          have hle : x2.heap.size ≤ (World.heap V).size := HBV.out.size
          have HBv4 : Hid (Below x2.heap.size x2 v4) := Lib.hid (by rw [hv4]; exact (((HBv3.out.setCell (p := ⟨(World.heap V).size, 0, none⟩) hle _).setCell (p := ⟨(World.heap V).size, 1, none⟩) hle _).setCell (p := ⟨(World.heap V).size, 2, none⟩) hle _).setCell (p := ⟨(World.heap V).size, 3, none⟩) hle _)
          go_simp
          rw [← hv4]
          clear hv4 hyv4 hle c0 c1 c2 c3 z0 z1 z2 z3
          clear hHeld
          refine hK.out _ _ (HSS_3.out _ HBv4.out) (fun hHeld => ?_)
          clear hK
          try simp only [Act.put, List.setIfInBounds_toArray, List.set_cons_zero, List.set_cons_succ]
          refine wpAnyH_take (i := 10) (oi := ⟨some 20, _, _, _, _, _⟩) (v := ?_) rfl (by kernel_rfl) (by kernel_rfl) (by kernel_rfl) (fun _ _ _ h => h) (Or.inl ⟨by kernel_rfl, ?_⟩) (by assumption) ?_
          rotate_left 1
          focus (intro w' hSw; (try dsimp only at hSw); go_simp; (try with_reducible rfl))
          try simp only [Act.put, List.setIfInBounds_toArray, List.set_cons_zero, List.set_cons_succ]
          refine wpAnyH_done (by kernel_rfl) ?_ _
          clear hHeld
          go_wp2_with fail
          go_meet
          case rel => exact ⟨_, k, l, i, Af, nf, cf, b, rfl, rfl, HH, HGv4, HBv4⟩
      case rest =>
      rename World => x3
      obtain ⟨g3, k3, l3, i3, Af3, nf3, cf3, b3, rfl, rfl, HH3, HG3, HXb3⟩ := hcut
      have HX3 := Lib.hid (HX2.out.trans (HXb3.out.mono HX2.out.size))
      replace HG1 := Lib.hid ((HXb3.out.block _ (lt_of_some HG1.out)).trans HG1.out)
      replace HG2 := Lib.hid ((HXb3.out.block _ (lt_of_some HG2.out)).trans HG2.out)
      clear J1_3 J2_3 HSS_3 HSq_3 HKq_3 HXb3
      have HSq_4 := Lib.hid (HS4.out.later HX3.out)
      have HKq_4 := Lib.hid ((HX3.out.block _ (lt_of_some HK4.out)).trans HK4.out)
      have J1_4 : Hid (∀ w' : World, Below x3.heap.size x3 w' → Calls Tryd.prog 15 #[.agg #[.slice A13 T.length c13, .int .i64 (N1 : Int)]] w' fun e w'' => (∃ Ap cp, e = .returned (.slice Ap (rootP (tabs (T.reverse))).length cp) ∧ Plc w'' w''.heap.size Ap (rootP (tabs (T.reverse)))) ∧ Below w'.heap.size w' w'') := Lib.hid fun w' hb => by
        have h1 := rooted_any (R := T.reverse) HFR.out A13 c13 (N1 : Int) (Lt.drop 1) w' (HSq_4.out.later hb) (by rw [HL4.out]; have := HN1.out; omega)
        rw [HL4.out] at h1
        exact h1
      have J2_4 : Hid (∀ (w' : World) (Ap : Option Addr) (cp : Nat), Below x3.heap.size x3 w' → Plc w' w'.heap.size Ap (rootP (tabs (T.reverse))) → Calls Tryd.prog 19 #[.agg #[.slice A13 T.length c13, .int .i64 (N1 : Int)], .slice Ap (rootP (tabs (T.reverse))).length cp, .string s] w' fun e w'' => (∃ k l i Af nf cf b, Hits (T.reverse) s k l i nf b ∧ e = .returned (.tuple #[.agg #[.int .i64 k, .int .i64 l, .int .i64 i, .slice Af nf cf], .bool b])) ∧ Below w'.heap.size w' w'') := Lib.hid fun w' Ap cp hb hp => by
        have h1 := looked_root (R := T.reverse) HFR.out A13 c13 (N1 : Int) (Lt.drop 1) Ap cp s w' (HSq_4.out.later hb) (by rw [HL4.out]; have := HN1.out; omega) hp
        rw [HL4.out] at h1
        exact h1
      have HSS_4 : Hid (∀ w' : World, Below x3.heap.size x3 w' → ((w'.cell? ⟨w13.heap.size, 0, none⟩ = some (.slice A13 T.length c13) ∧ w'.cell? ⟨w13.heap.size, 1, none⟩ = some (.int .i64 (N1 : Int)) ∧ Below x3.heap.size x3 w'))) := Lib.hid fun w' hb' => by
        have e2 := (hb'.block _ (lt_of_some HKq_4.out)).trans HKq_4.out
        exact ⟨cell_of_blk e2 0, cell_of_blk e2 1, hb'⟩
      go_upto_region 21 with fail
      go_cut [21, 22] from 123 to 130 (fun v vb wx => ∃ (gf : Nat) (k l i : Int) (Af : Option Addr) (nf cf : Nat) (b : Bool), v = .pointer (some ⟨gf, 0, none⟩) ∧ vb = .bool b ∧ Hid (Hits (T.reverse) s k l i nf b) ∧ Hid (wx.heap[gf]? = some (.cells #[.int .i64 k, .int .i64 l, .int .i64 i, .slice Af nf cf] 44 (0, 0))) ∧ Hid (Below x3.heap.size x3 wx))
      case first =>
        obtain ⟨V, hV⟩ : ∃ V, V = World.drew x3 := ⟨_, rfl⟩
        have HBV := Lib.hid (show Below x3.heap.size x3 V by rw [hV]; exact (Below.refl _ _).drew)
        refine wp_region_held_drew (S := fun w' => (w'.cell? ⟨w13.heap.size, 0, none⟩ = some (.slice A13 T.length c13) ∧ w'.cell? ⟨w13.heap.size, 1, none⟩ = some (.int .i64 (N1 : Int)) ∧ Below x3.heap.size x3 w')) (by kernel_rfl) (by rw [← hV]; exact HSS_4.out _ HBV.out) (fun hHeld => ?_)
        rw [← hV] at hHeld ⊢
        clear hV
        refine wpAnyH_take (i := 0) (oi := ⟨some 124, _, _, _, _, _⟩) (v := ?_) rfl (by kernel_rfl) (by kernel_rfl) (by kernel_rfl) (fun _ _ _ h => h) (Or.inl ⟨by kernel_rfl, ?_⟩) (by assumption) ?_
        rotate_left 1
        focus (intro w' hSw; (try dsimp only at hSw); go_simp; (try with_reducible rfl))
        try simp only [Act.put, List.setIfInBounds_toArray, List.set_cons_zero, List.set_cons_succ]
        refine wpAnyH_take (i := 1) (oi := ⟨some 125, _, _, _, _, _⟩) (v := ?_) rfl (by kernel_rfl) (by kernel_rfl) (by kernel_rfl) (fun _ _ _ h => h) (Or.inl ⟨by kernel_rfl, ?_⟩) (by assumption) ?_
        rotate_left 1
        focus (intro w' hSw; (try dsimp only at hSw); go_simp; (try with_reducible rfl))
        try simp only [Act.put, List.setIfInBounds_toArray, List.set_cons_zero, List.set_cons_succ]
        refine wpAnyH_take (i := 3) (oi := ⟨some 127, _, _, _, _, _⟩) (v := ?_) rfl (by kernel_rfl) (by kernel_rfl) (by kernel_rfl) (fun _ _ _ h => h) (Or.inl ⟨by kernel_rfl, ?_⟩) (by assumption) ?_
        rotate_left 1
        focus (intro w' hSw; (try dsimp only at hSw); go_simp; (try with_reducible rfl))
        try simp only [Act.put, List.setIfInBounds_toArray, List.set_cons_zero, List.set_cons_succ]
        refine wpAnyH_ready (rs := [2, 8]) (by kernel_rfl) (by simp) ?_
        refine AllReadyH.cons rfl (fun K hK => ?_) (AllReadyH.cons rfl (fun K hK => ?_) AllReadyH.nil)
        · skip
          go_simp
          go_at_call 15
          refine (J1_4.out _ HBV.out).mono ?_
          rintro en v1 ⟨⟨Ap, cp, rfl, hp⟩, hv1⟩
          have HBv1 := Lib.hid (HBV.out.trans (hv1.mono (HBV.out).size))
          have HPv1 := Lib.hid hp
          clear hv1 hp
          clear hHeld
          refine hK.out _ _ (HSS_4.out _ HBv1.out) (fun hHeld => ?_)
          clear hK
          try simp only [Act.put, List.setIfInBounds_toArray, List.set_cons_zero, List.set_cons_succ]
          refine wpAnyH_ready (rs := [4, 8]) (by kernel_rfl) (by simp) ?_
          refine AllReadyH.cons rfl (fun K hK => ?_) (AllReadyH.cons rfl (fun K hK => ?_) AllReadyH.nil)
          · skip
            go_simp
            go_at_call 19
            refine (J2_4.out _ Ap cp HBv1.out HPv1.out).mono ?_
            rintro en v2 ⟨⟨k, l, i, Af, nf, cf, b, hh, rfl⟩, hv2⟩
            have HBv2 := Lib.hid (HBv1.out.trans (hv2.mono (HBv1.out).size))
            have HH := Lib.hid hh
            clear hv2 hh
            clear hHeld
            refine hK.out _ _ (HSS_4.out _ HBv2.out) (fun hHeld => ?_)
            clear hK
            try simp only [Act.put, List.setIfInBounds_toArray, List.set_cons_zero, List.set_cons_succ]
            refine wpAnyH_take (i := 5) (oi := ⟨some 123, _, _, _, _, _⟩) (v := ?_) rfl (by kernel_rfl) (by kernel_rfl) (by kernel_rfl) (fun _ _ _ h => h) (Or.inl ⟨by kernel_rfl, ?_⟩) (by assumption) ?_
            rotate_left 1
            focus (intro w' hSw; (try dsimp only at hSw); go_simp; (try with_reducible rfl))
            try simp only [Act.put, List.setIfInBounds_toArray, List.set_cons_zero, List.set_cons_succ]
            refine wpAnyH_take (i := 6) (oi := ⟨some 129, _, _, _, _, _⟩) (v := ?_) rfl (by kernel_rfl) (by kernel_rfl) (by kernel_rfl) (fun _ _ _ h => h) (Or.inl ⟨by kernel_rfl, ?_⟩) (by assumption) ?_
            rotate_left 1
            focus (intro w' hSw; (try dsimp only at hSw); go_simp; (try with_reducible rfl))
            try simp only [Act.put, List.setIfInBounds_toArray, List.set_cons_zero, List.set_cons_succ]
            refine wpAnyH_take (i := 7) (oi := ⟨some 130, _, _, _, _, _⟩) (v := ?_) rfl (by kernel_rfl) (by kernel_rfl) (by kernel_rfl) (fun _ _ _ h => h) (Or.inl ⟨by kernel_rfl, ?_⟩) (by assumption) ?_
            rotate_left 1
            focus (intro w' hSw; (try dsimp only at hSw); go_simp; (try with_reducible rfl))
            try simp only [Act.put, List.setIfInBounds_toArray, List.set_cons_zero, List.set_cons_succ]
            refine wpAnyH_ready (rs := [8]) (by kernel_rfl) (by simp) ?_
            refine AllReadyH.cons rfl (fun K hK => ?_) AllReadyH.nil
            obtain ⟨v3, hv3⟩ : ∃ v3, v3 = World.alloc v2 (.cells #[.int .i64 0, .int .i64 0, .int .i64 0, .slice none 0 0] 44) := ⟨_, rfl⟩
            have hxv3 : Below (World.heap v2).size v2 v3 := by rw [hv3]; exact (Below.refl _ _).alloc (Nat.le_refl _) _
            have HBv3 := Lib.hid (HBv2.out.trans (hxv3.mono (HBv2.out).size))
            have HGv3 := Lib.hid (show v3.heap[(World.heap v2).size]? = some (.cells #[.int .i64 0, .int .i64 0, .int .i64 0, .slice none 0 0] 44 (0, 0)) by rw [hv3]; exact heap_alloc_new v2 _)
            go_simp
            rw [← hv3]
            clear hv3 hxv3
            clear hHeld
            refine hK.out _ _ (HSS_4.out _ HBv3.out) (fun hHeld => ?_)
            clear hK
            try simp only [Act.put, List.setIfInBounds_toArray, List.set_cons_zero, List.set_cons_succ]
            refine wpAnyH_ready (rs := [9]) (by kernel_rfl) (by simp) ?_
            refine AllReadyH.cons rfl (fun K hK => ?_) AllReadyH.nil
            have c0 := cell_of_blk HGv3.out 0
            have c1 := cell_of_blk HGv3.out 1
            have c2 := cell_of_blk HGv3.out 2
            have c3 := cell_of_blk HGv3.out 3
            have z0 := free_of_blk HGv3.out 0
            have z1 := free_of_blk HGv3.out 1
            have z2 := free_of_blk HGv3.out 2
            have z3 := free_of_blk HGv3.out 3
            obtain ⟨v4, hv4⟩ : ∃ v4, v4 = (((World.setCell v3 ⟨(World.heap v2).size, 0, none⟩ (.int .i64 k)).setCell ⟨(World.heap v2).size, 1, none⟩ (.int .i64 l)).setCell ⟨(World.heap v2).size, 2, none⟩ (.int .i64 i)).setCell ⟨(World.heap v2).size, 3, none⟩ (.slice Af nf cf) := ⟨_, rfl⟩
            have hyv4 := over4 (u0 := .int .i64 k) (u1 := .int .i64 l) (u2 := .int .i64 i) (u3 := .slice Af nf cf) HGv3.out
            rw [← hv4] at hyv4
            have HGv4 := Lib.hid hyv4
            have hle : x3.heap.size ≤ (World.heap v2).size := HBv2.out.size
            have HBv4 : Hid (Below x3.heap.size x3 v4) := Lib.hid (by rw [hv4]; exact (((HBv3.out.setCell (p := ⟨(World.heap v2).size, 0, none⟩) hle _).setCell (p := ⟨(World.heap v2).size, 1, none⟩) hle _).setCell (p := ⟨(World.heap v2).size, 2, none⟩) hle _).setCell (p := ⟨(World.heap v2).size, 3, none⟩) hle _)
            go_simp
            rw [← hv4]
            clear hv4 hyv4 hle c0 c1 c2 c3 z0 z1 z2 z3
            clear hHeld
            refine hK.out _ _ (HSS_4.out _ HBv4.out) (fun hHeld => ?_)
            clear hK
            try simp only [Act.put, List.setIfInBounds_toArray, List.set_cons_zero, List.set_cons_succ]
            refine wpAnyH_take (i := 10) (oi := ⟨some 22, _, _, _, _, _⟩) (v := ?_) rfl (by kernel_rfl) (by kernel_rfl) (by kernel_rfl) (fun _ _ _ h => h) (Or.inl ⟨by kernel_rfl, ?_⟩) (by assumption) ?_
            rotate_left 1
            focus (intro w' hSw; (try dsimp only at hSw); go_simp; (try with_reducible rfl))
            try simp only [Act.put, List.setIfInBounds_toArray, List.set_cons_zero, List.set_cons_succ]
            refine wpAnyH_done (by kernel_rfl) ?_ _
            clear hHeld
            go_wp2_with fail
            go_meet
            case rel => exact ⟨_, k, l, i, Af, nf, cf, b, rfl, rfl, HH, HGv4, HBv4⟩
          · skip
            obtain ⟨v2, hv2⟩ : ∃ v2, v2 = World.alloc v1 (.cells #[.int .i64 0, .int .i64 0, .int .i64 0, .slice none 0 0] 44) := ⟨_, rfl⟩
            have hxv2 : Below (World.heap v1).size v1 v2 := by rw [hv2]; exact (Below.refl _ _).alloc (Nat.le_refl _) _
            have HBv2 := Lib.hid (HBv1.out.trans (hxv2.mono (HBv1.out).size))
            have HGv2 := Lib.hid (show v2.heap[(World.heap v1).size]? = some (.cells #[.int .i64 0, .int .i64 0, .int .i64 0, .slice none 0 0] 44 (0, 0)) by rw [hv2]; exact heap_alloc_new v1 _)
            have HPv2 := Lib.hid ((HPv1.out.keep hxv2).more hxv2.size)
            go_simp
            rw [← hv2]
            clear hv2 hxv2
            clear hHeld
            refine hK.out _ _ (HSS_4.out _ HBv2.out) (fun hHeld => ?_)
            clear hK
            try simp only [Act.put, List.setIfInBounds_toArray, List.set_cons_zero, List.set_cons_succ]
            refine wpAnyH_ready (rs := [4]) (by kernel_rfl) (by simp) ?_
            refine AllReadyH.cons rfl (fun K hK => ?_) AllReadyH.nil
            go_simp
            go_at_call 19
            refine (J2_4.out _ Ap cp HBv2.out HPv2.out).mono ?_
            rintro en v3 ⟨⟨k, l, i, Af, nf, cf, b, hh, rfl⟩, hv3⟩
            have HBv3 := Lib.hid (HBv2.out.trans (hv3.mono (HBv2.out).size))
            have HH := Lib.hid hh
            have HGv3 := Lib.hid ((hv3.block _ (lt_of_some HGv2.out)).trans HGv2.out)
            clear hv3 hh
            clear hHeld
            refine hK.out _ _ (HSS_4.out _ HBv3.out) (fun hHeld => ?_)
            clear hK
            try simp only [Act.put, List.setIfInBounds_toArray, List.set_cons_zero, List.set_cons_succ]
            refine wpAnyH_take (i := 5) (oi := ⟨some 123, _, _, _, _, _⟩) (v := ?_) rfl (by kernel_rfl) (by kernel_rfl) (by kernel_rfl) (fun _ _ _ h => h) (Or.inl ⟨by kernel_rfl, ?_⟩) (by assumption) ?_
            rotate_left 1
            focus (intro w' hSw; (try dsimp only at hSw); go_simp; (try with_reducible rfl))
            try simp only [Act.put, List.setIfInBounds_toArray, List.set_cons_zero, List.set_cons_succ]
            refine wpAnyH_take (i := 6) (oi := ⟨some 129, _, _, _, _, _⟩) (v := ?_) rfl (by kernel_rfl) (by kernel_rfl) (by kernel_rfl) (fun _ _ _ h => h) (Or.inl ⟨by kernel_rfl, ?_⟩) (by assumption) ?_
            rotate_left 1
            focus (intro w' hSw; (try dsimp only at hSw); go_simp; (try with_reducible rfl))
            try simp only [Act.put, List.setIfInBounds_toArray, List.set_cons_zero, List.set_cons_succ]
            refine wpAnyH_take (i := 7) (oi := ⟨some 130, _, _, _, _, _⟩) (v := ?_) rfl (by kernel_rfl) (by kernel_rfl) (by kernel_rfl) (fun _ _ _ h => h) (Or.inl ⟨by kernel_rfl, ?_⟩) (by assumption) ?_
            rotate_left 1
            focus (intro w' hSw; (try dsimp only at hSw); go_simp; (try with_reducible rfl))
            try simp only [Act.put, List.setIfInBounds_toArray, List.set_cons_zero, List.set_cons_succ]
            refine wpAnyH_ready (rs := [9]) (by kernel_rfl) (by simp) ?_
            refine AllReadyH.cons rfl (fun K hK => ?_) AllReadyH.nil
            have c0 := cell_of_blk HGv3.out 0
            have c1 := cell_of_blk HGv3.out 1
            have c2 := cell_of_blk HGv3.out 2
            have c3 := cell_of_blk HGv3.out 3
            have z0 := free_of_blk HGv3.out 0
            have z1 := free_of_blk HGv3.out 1
            have z2 := free_of_blk HGv3.out 2
            have z3 := free_of_blk HGv3.out 3
            obtain ⟨v4, hv4⟩ : ∃ v4, v4 = (((World.setCell v3 ⟨(World.heap v1).size, 0, none⟩ (.int .i64 k)).setCell ⟨(World.heap v1).size, 1, none⟩ (.int .i64 l)).setCell ⟨(World.heap v1).size, 2, none⟩ (.int .i64 i)).setCell ⟨(World.heap v1).size, 3, none⟩ (.slice Af nf cf) := ⟨_, rfl⟩
            have hyv4 := over4 (u0 := .int .i64 k) (u1 := .int .i64 l) (u2 := .int .i64 i) (u3 := .slice Af nf cf) HGv3.out
            rw [← hv4] at hyv4
            have HGv4 := Lib.hid hyv4
            have hle : x3.heap.size ≤ (World.heap v1).size := HBv1.out.size
            have HBv4 : Hid (Below x3.heap.size x3 v4) := Lib.hid (by rw [hv4]; exact (((HBv3.out.setCell (p := ⟨(World.heap v1).size, 0, none⟩) hle _).setCell (p := ⟨(World.heap v1).size, 1, none⟩) hle _).setCell (p := ⟨(World.heap v1).size, 2, none⟩) hle _).setCell (p := ⟨(World.heap v1).size, 3, none⟩) hle _)
            go_simp
            rw [← hv4]
            clear hv4 hyv4 hle c0 c1 c2 c3 z0 z1 z2 z3
            clear hHeld
            refine hK.out _ _ (HSS_4.out _ HBv4.out) (fun hHeld => ?_)
            clear hK
            try simp only [Act.put, List.setIfInBounds_toArray, List.set_cons_zero, List.set_cons_succ]
            refine wpAnyH_take (i := 10) (oi := ⟨some 22, _, _, _, _, _⟩) (v := ?_) rfl (by kernel_rfl) (by kernel_rfl) (by kernel_rfl) (fun _ _ _ h => h) (Or.inl ⟨by kernel_rfl, ?_⟩) (by assumption) ?_
            rotate_left 1
            focus (intro w' hSw; (try dsimp only at hSw); go_simp; (try with_reducible rfl))
            try simp only [Act.put, List.setIfInBounds_toArray, List.set_cons_zero, List.set_cons_succ]
            refine wpAnyH_done (by kernel_rfl) ?_ _
            clear hHeld
            go_wp2_with fail
            go_meet
            case rel => exact ⟨_, k, l, i, Af, nf, cf, b, rfl, rfl, HH, HGv4, HBv4⟩
        · skip
          obtain ⟨v1, hv1⟩ : ∃ v1, v1 = World.alloc V (.cells #[.int .i64 0, .int .i64 0, .int .i64 0, .slice none 0 0] 44) := ⟨_, rfl⟩
          have hxv1 : Below (World.heap V).size V v1 := by rw [hv1]; exact (Below.refl _ _).alloc (Nat.le_refl _) _
          have HBv1 := Lib.hid (HBV.out.trans (hxv1.mono (HBV.out).size))
          have HGv1 := Lib.hid (show v1.heap[(World.heap V).size]? = some (.cells #[.int .i64 0, .int .i64 0, .int .i64 0, .slice none 0 0] 44 (0, 0)) by rw [hv1]; exact heap_alloc_new V _)
          go_simp
          rw [← hv1]
          clear hv1 hxv1
          clear hHeld
          refine hK.out _ _ (HSS_4.out _ HBv1.out) (fun hHeld => ?_)
          clear hK
          try simp only [Act.put, List.setIfInBounds_toArray, List.set_cons_zero, List.set_cons_succ]
          refine wpAnyH_ready (rs := [2]) (by kernel_rfl) (by simp) ?_
          refine AllReadyH.cons rfl (fun K hK => ?_) AllReadyH.nil
          go_simp
          go_at_call 15
          refine (J1_4.out _ HBv1.out).mono ?_
          rintro en v2 ⟨⟨Ap, cp, rfl, hp⟩, hv2⟩
          have HBv2 := Lib.hid (HBv1.out.trans (hv2.mono (HBv1.out).size))
          have HPv2 := Lib.hid hp
          have HGv2 := Lib.hid ((hv2.block _ (lt_of_some HGv1.out)).trans HGv1.out)
          clear hv2 hp
          clear hHeld
          refine hK.out _ _ (HSS_4.out _ HBv2.out) (fun hHeld => ?_)
          clear hK
          try simp only [Act.put, List.setIfInBounds_toArray, List.set_cons_zero, List.set_cons_succ]
          refine wpAnyH_ready (rs := [4]) (by kernel_rfl) (by simp) ?_
          refine AllReadyH.cons rfl (fun K hK => ?_) AllReadyH.nil
          go_simp
          go_at_call 19
          refine (J2_4.out _ Ap cp HBv2.out HPv2.out).mono ?_
          rintro en v3 ⟨⟨k, l, i, Af, nf, cf, b, hh, rfl⟩, hv3⟩
          have HBv3 := Lib.hid (HBv2.out.trans (hv3.mono (HBv2.out).size))
          have HH := Lib.hid hh
          have HGv3 := Lib.hid ((hv3.block _ (lt_of_some HGv2.out)).trans HGv2.out)
          clear hv3 hh
          clear hHeld
          refine hK.out _ _ (HSS_4.out _ HBv3.out) (fun hHeld => ?_)
          clear hK
          try simp only [Act.put, List.setIfInBounds_toArray, List.set_cons_zero, List.set_cons_succ]
          refine wpAnyH_take (i := 5) (oi := ⟨some 123, _, _, _, _, _⟩) (v := ?_) rfl (by kernel_rfl) (by kernel_rfl) (by kernel_rfl) (fun _ _ _ h => h) (Or.inl ⟨by kernel_rfl, ?_⟩) (by assumption) ?_
          rotate_left 1
          focus (intro w' hSw; (try dsimp only at hSw); go_simp; (try with_reducible rfl))
          try simp only [Act.put, List.setIfInBounds_toArray, List.set_cons_zero, List.set_cons_succ]
          refine wpAnyH_take (i := 6) (oi := ⟨some 129, _, _, _, _, _⟩) (v := ?_) rfl (by kernel_rfl) (by kernel_rfl) (by kernel_rfl) (fun _ _ _ h => h) (Or.inl ⟨by kernel_rfl, ?_⟩) (by assumption) ?_
          rotate_left 1
          focus (intro w' hSw; (try dsimp only at hSw); go_simp; (try with_reducible rfl))
          try simp only [Act.put, List.setIfInBounds_toArray, List.set_cons_zero, List.set_cons_succ]
          refine wpAnyH_take (i := 7) (oi := ⟨some 130, _, _, _, _, _⟩) (v := ?_) rfl (by kernel_rfl) (by kernel_rfl) (by kernel_rfl) (fun _ _ _ h => h) (Or.inl ⟨by kernel_rfl, ?_⟩) (by assumption) ?_
          rotate_left 1
          focus (intro w' hSw; (try dsimp only at hSw); go_simp; (try with_reducible rfl))
          try simp only [Act.put, List.setIfInBounds_toArray, List.set_cons_zero, List.set_cons_succ]
          refine wpAnyH_ready (rs := [9]) (by kernel_rfl) (by simp) ?_
          refine AllReadyH.cons rfl (fun K hK => ?_) AllReadyH.nil
          have c0 := cell_of_blk HGv3.out 0
          have c1 := cell_of_blk HGv3.out 1
          have c2 := cell_of_blk HGv3.out 2
          have c3 := cell_of_blk HGv3.out 3
          have z0 := free_of_blk HGv3.out 0
          have z1 := free_of_blk HGv3.out 1
          have z2 := free_of_blk HGv3.out 2
          have z3 := free_of_blk HGv3.out 3
          obtain ⟨v4, hv4⟩ : ∃ v4, v4 = (((World.setCell v3 ⟨(World.heap V).size, 0, none⟩ (.int .i64 k)).setCell ⟨(World.heap V).size, 1, none⟩ (.int .i64 l)).setCell ⟨(World.heap V).size, 2, none⟩ (.int .i64 i)).setCell ⟨(World.heap V).size, 3, none⟩ (.slice Af nf cf) := ⟨_, rfl⟩
          have hyv4 := over4 (u0 := .int .i64 k) (u1 := .int .i64 l) (u2 := .int .i64 i) (u3 := .slice Af nf cf) HGv3.out
          rw [← hv4] at hyv4
          have HGv4 := Lib.hid hyv4
          have hle : x3.heap.size ≤ (World.heap V).size := HBV.out.size
          have HBv4 : Hid (Below x3.heap.size x3 v4) := Lib.hid (by rw [hv4]; exact (((HBv3.out.setCell (p := ⟨(World.heap V).size, 0, none⟩) hle _).setCell (p := ⟨(World.heap V).size, 1, none⟩) hle _).setCell (p := ⟨(World.heap V).size, 2, none⟩) hle _).setCell (p := ⟨(World.heap V).size, 3, none⟩) hle _)
          go_simp
          rw [← hv4]
          clear hv4 hyv4 hle c0 c1 c2 c3 z0 z1 z2 z3
          clear hHeld
          refine hK.out _ _ (HSS_4.out _ HBv4.out) (fun hHeld => ?_)
          clear hK
          try simp only [Act.put, List.setIfInBounds_toArray, List.set_cons_zero, List.set_cons_succ]
          refine wpAnyH_take (i := 10) (oi := ⟨some 22, _, _, _, _, _⟩) (v := ?_) rfl (by kernel_rfl) (by kernel_rfl) (by kernel_rfl) (fun _ _ _ h => h) (Or.inl ⟨by kernel_rfl, ?_⟩) (by assumption) ?_
          rotate_left 1
          focus (intro w' hSw; (try dsimp only at hSw); go_simp; (try with_reducible rfl))
          try simp only [Act.put, List.setIfInBounds_toArray, List.set_cons_zero, List.set_cons_succ]
          refine wpAnyH_done (by kernel_rfl) ?_ _
          clear hHeld
          go_wp2_with fail
          go_meet
          case rel => exact ⟨_, k, l, i, Af, nf, cf, b, rfl, rfl, HH, HGv4, HBv4⟩
      case rest =>
      rename World => x4
      obtain ⟨g4, k4, l4, i4, Af4, nf4, cf4, b4, rfl, rfl, HH4, HG4, HXb4⟩ := hcut
      have HX4 := Lib.hid (HX3.out.trans (HXb4.out.mono HX3.out.size))
      replace HG1 := Lib.hid ((HXb4.out.block _ (lt_of_some HG1.out)).trans HG1.out)
      replace HG2 := Lib.hid ((HXb4.out.block _ (lt_of_some HG2.out)).trans HG2.out)
      replace HG3 := Lib.hid ((HXb4.out.block _ (lt_of_some HG3.out)).trans HG3.out)
      clear J1_4 J2_4 HSS_4 HSq_4 HKq_4 HXb4
      have hbd := hits_bound HH1.out
      rw [List.length_reverse] at hbd
      obtain ⟨_, tN⟩ := hit_none HFR.out (e0_none s) HH2.out HH1.out
      obtain ⟨e1, e2, e3, hb⟩ := tN rfl
      obtain rfl := e1.symm
      obtain rfl := e2.symm
      obtain rfl := e3.symm
      obtain ⟨tO, _⟩ := hit_none HFR.out (o_none s) HH3.out HH1.out
      obtain rfl := tO rfl
      obtain ⟨e1, e2, e3, e4, e5⟩ := Hits.uniq HFR.out HH4.out HH1.out
      obtain rfl := e1.symm
      obtain rfl := e2.symm
      obtain rfl := e3.symm
      obtain rfl := e4.symm
      obtain rfl := e5.symm
      have f0 := cell_of_blk HG1.out 0
      have f1 : x4.cell? ⟨g1, 0 + 1, none⟩ = _ := cell_of_blk HG1.out 1
      have f2 : x4.cell? ⟨g1, 0 + 1 + 1, none⟩ = _ := cell_of_blk HG1.out 2
      have q0 := cell_of_blk HG2.out 0
      have q1 : x4.cell? ⟨g2, 0 + 1, none⟩ = _ := cell_of_blk HG2.out 1
      have q2 : x4.cell? ⟨g2, 0 + 1 + 1, none⟩ = _ := cell_of_blk HG2.out 2
      have r0 := cell_of_blk HG4.out 0
      have r1 : x4.cell? ⟨g4, 0 + 1, none⟩ = _ := cell_of_blk HG4.out 1
      have r2 : x4.cell? ⟨g4, 0 + 1 + 1, none⟩ = _ := cell_of_blk HG4.out 2
      have HXe := Lib.hid HX4.out
      have gk : (k1 != k1) = false := by simp
      clear tN tO HH3 HG3
      rcases b1 with _ | _
      · clear hb
        go_wp2_with fail
        go_roundw
        case rel => exact ⟨i + 1, by go_num, by omega, HXe⟩
        case measure => simp [intOf]; omega
      · obtain ⟨e1, e2⟩ := hb rfl
        subst e1
        obtain rfl := e2.symm
        have gw : IntKind.i64.wrap (l1 + 1) = l1 + 1 := by rw [IntWalk.i64_in _ (by omega)]
        have gl : (l1 + 1 != l1 + 1) = false := by simp
        have gi : (i1 != i1) = false := by simp
        clear hb
        go_wp2_with fail
        go_roundw
        case rel => exact ⟨i + 1, by go_num, by omega, HXe⟩
        case measure => simp [intOf]; omega
    · obtain rfl : i = N.length := by omega
      have HF := Lib.hid (HB14.out.trans (HB.out.mono HB14.out.size))
      go_wp2_with fail
      go_ret
      exact ⟨rfl, HF.out⟩
end Go.Proofs.YtmmpceodhadipaaDoor.seen
