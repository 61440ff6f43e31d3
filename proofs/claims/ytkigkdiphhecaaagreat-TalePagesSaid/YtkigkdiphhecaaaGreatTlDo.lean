/- What a State's Do answers to a Close of a cursor that there isn't, and to a Remove of a branch that there isn't. Conditions: the State lies in memory. -/
import Derived.Test.YtkigkdiphhecaaaGreatTlSpc
import Derived.Test.YtkigkdiphhecaaaGreatHeldT
namespace Go.Proofs.YtkigkdiphhecaaaGreat.tal
set_option maxRecDepth 100000
open Go.RowKit Go.Proofs.YtkigkdiphhecaaaGreat.words

set_option maxHeartbeats 6400000 in
theorem do_rem {B s t m : Nat} {A : Option Addr} {c : Nat} {L : List (Nat × Int)} {ad ep r n : Int} {C : cur.Cs} {w : World} (p : ByteArray) (o N id : Int) (img : ByteArray) (h : Sp B s t m A c L ad ep r n C w) (hbad : badB 9 o N = false)
    (HIn : ∀ w', Sp B s t m A c L ad ep r n C w' → Calls Tryz.prog 55 #[.pointer (some ⟨s, 0, none⟩), .int .i64 id] w' (SO B s t m (resP 2 0 none 0 0 false) A c L ad ep r n C w')) :
    Calls Tryz.prog 48 #[.pointer (some ⟨s, 0, none⟩), opV 9 p o N id img] w (SO B s t m (resP 2 0 none 0 0 false) A c L ad ep r n C w) := by
  obtain ⟨g1, W1, hW1, eg1, hxo, hxr, hb1, lg1⟩ := two_boxes w (.cells #[.int .i64 9, .string p, .int .i64 o, .int .i64 N, .int .i64 id, .string img] 30) (.cells #[.int .i64 0, .int .i64 0, .int .i64 0, .int .i64 0, .int .i64 0, .string ⟨#[]⟩, .slice none 0 0, .bool false] 26)
  have HO := Lib.hid hxo
  have HR := Lib.hid (show W1.heap[g1]? = some zx8 from hxr)
  have HP1 := Lib.hid (h.later hb1)
  have HB1 := Lib.hid hb1
  have HG1 := Lib.hid (show w.heap.size < g1 by omega)
  have HLt := Lib.hid h.lt
  have HW1 := Lib.hid hW1
  have HEG := Lib.hid eg1
  have HCk := Lib.hid (show Calls Tryz.prog 50 #[.agg #[.int .i64 9, .string p, .int .i64 o, .int .i64 N, .int .i64 id, .string img]] W1 fun e w'' => e = .returned (.int .i64 0) ∧ Below W1.heap.size W1 w'' from (chk_any 9 p o N id img W1).mono fun e w'' ⟨h1, h2⟩ => ⟨by rw [h1]; unfold chkI; rw [hbad]; rfl, h2⟩)
  have HI := Lib.hid HIn
  clear hW1 eg1 hxo hxr hb1 lg1 h hbad HIn
  unfold opV
  have c0 := cell_of_blk HO.out 0
  have c1 := cell_of_blk HO.out 1
  have c2 := cell_of_blk HO.out 2
  have c3 := cell_of_blk HO.out 3
  have c4 := cell_of_blk HO.out 4
  have c5 := cell_of_blk HO.out 5
  go_enter Tryz.func48, Tryz.ntmps48
  go_upto_region 1 with fail
  rw [HW1.out]
  simp only [HEG.out]
  clear HW1 HEG
  go_wp2_with fail
  refine HCk.out.mono ?_
  rintro e w3 ⟨rfl, hb3⟩
  have HBc := Lib.hid (HB1.out.trans (hb3.mono HB1.out.size))
  have HXr := Lib.hid ((hb3.block _ (lt_of_some HR.out)).trans HR.out)
  have eo := (hb3.block _ (lt_of_some HO.out)).trans HO.out
  have HIc := Lib.hid (HI.out w3 (HP1.out.later hb3))
  clear c0 c1 c2 c3 c4 c5
  have c0 := cell_of_blk eo 0
  have c4 := cell_of_blk eo 4
  clear hb3 eo HCk HI
  unfold resP at HIc
  go_wp2_with fail
  refine HIc.out.mono ?_
  rintro e v2 ⟨rfl, hsp, htn⟩
  have htw : lru.Tn (Bs s t m) w v2 := (lru.Tn.of_below HBc.out _).trans htn
  have hxq : v2.heap[g1]? = some zx8 := (htn.block g1 (lt_of_some HXr.out) (fun hj => by
    have hg := HG1.out
    rcases hj with hj | hj | hj
    · have := HLt.out.1; omega
    · have := HLt.out.2.1; omega
    · have := HLt.out.2.2; omega)).trans HXr.out
  have HPut := Lib.hid (putS (rb := g1) hsp htw HLt.out (Nat.le_of_lt HG1.out) hxq 2 0 none 0 0 false)
  have y0 := cell_of_blk hxq 0
  have z0 := free_of_blk hxq 0
  have y1 := cell_of_blk hxq 1
  have z1 := free_of_blk hxq 1
  have y2 := cell_of_blk hxq 2
  have z2 := free_of_blk hxq 2
  have y3 := cell_of_blk hxq 3
  have z3 := free_of_blk hxq 3
  have y4 := cell_of_blk hxq 4
  have z4 := free_of_blk hxq 4
  have y5 := cell_of_blk hxq 5
  have z5 := free_of_blk hxq 5
  have y6 := cell_of_blk hxq 6
  have z6 := free_of_blk hxq 6
  have y7 := cell_of_blk hxq 7
  have z7 := free_of_blk hxq 7
  clear hxq hsp htn htw HIc c0 c4
  go_wp2_with fail
  obtain ⟨p0, p1, p2, p3, p4, p5, p6, p7, HE, hbP⟩ := HPut.out _ rfl
  unfold set8 at p0 p1 p2 p3 p4 p5 p6 p7 HE hbP
  exact bodyPost_ret (v := resP 2 0 none 0 0 false) (by unfold resP; simp [results, Tryz.results48, go_sem, p0, p1, p2, p3, p4, p5, p6, p7]) rfl HE
set_option maxHeartbeats 6400000 in
theorem do_close {B s t m : Nat} {A : Option Addr} {c : Nat} {L : List (Nat × Int)} {ad ep r n : Int} {C : cur.Cs} {w : World} (p : ByteArray) (o N id : Int) (img : ByteArray) (h : Sp B s t m A c L ad ep r n C w) (hbad : badB 7 o N = false) (hx : mpi.Fits id) (hno : cur.valC C id = none) :
    Calls Tryz.prog 48 #[.pointer (some ⟨s, 0, none⟩), opV 7 p o N id img] w fun e w' => e = .returned (resP 9 0 none 0 0 false) ∧ Below w.heap.size w w' := by
  obtain ⟨g1, W1, hW1, eg1, hxo, hxr, hb1, lg1⟩ := two_boxes w (.cells #[.int .i64 7, .string p, .int .i64 o, .int .i64 N, .int .i64 id, .string img] 30) (.cells #[.int .i64 0, .int .i64 0, .int .i64 0, .int .i64 0, .int .i64 0, .string ⟨#[]⟩, .slice none 0 0, .bool false] 26)
  have HO := Lib.hid hxo
  have HR := Lib.hid (show W1.heap[g1]? = some zx8 from hxr)
  have HP1 := Lib.hid (h.later hb1)
  have HB1 := Lib.hid hb1
  have HG1 := Lib.hid (show w.heap.size < g1 by omega)
  have HLt := Lib.hid h.lt
  have HW1 := Lib.hid hW1
  have HEG := Lib.hid eg1
  have HCk := Lib.hid (show Calls Tryz.prog 50 #[.agg #[.int .i64 7, .string p, .int .i64 o, .int .i64 N, .int .i64 id, .string img]] W1 fun e w'' => e = .returned (.int .i64 0) ∧ Below W1.heap.size W1 w'' from (chk_any 7 p o N id img W1).mono fun e w'' ⟨h1, h2⟩ => ⟨by rw [h1]; unfold chkI; rw [hbad]; rfl, h2⟩)
  have HCl : Hid (∀ w', Sp B s t m A c L ad ep r n C w' → Calls Tryz.prog 53 #[.pointer (some ⟨t, 0, none⟩), .int .i64 id] w' (cur.GoneC w' 9)) := Lib.hid fun w' h' => cur.close_no (h := h'.tb) (hx := hx) (hno := hno)
  clear hW1 eg1 hxo hxr hb1 lg1 h hbad
  unfold opV
  have c0 := cell_of_blk HO.out 0
  have c1 := cell_of_blk HO.out 1
  have c2 := cell_of_blk HO.out 2
  have c3 := cell_of_blk HO.out 3
  have c4 := cell_of_blk HO.out 4
  have c5 := cell_of_blk HO.out 5
  go_enter Tryz.func48, Tryz.ntmps48
  go_upto_region 1 with fail
  rw [HW1.out]
  simp only [HEG.out]
  clear HW1 HEG
  go_wp2_with fail
  refine HCk.out.mono ?_
  rintro e w3 ⟨rfl, hb3⟩
  have HBc := Lib.hid (HB1.out.trans (hb3.mono HB1.out.size))
  have HXr := Lib.hid ((hb3.block _ (lt_of_some HR.out)).trans HR.out)
  have eo := (hb3.block _ (lt_of_some HO.out)).trans HO.out
  have HPc := Lib.hid (HP1.out.later hb3)
  have HEo := Lib.hid eo
  have HCE : Hid (∀ w' : World, (Sp B s t m A c L ad ep r n C w' ∧ Below w3.heap.size w3 w') → w'.cell? ⟨s, 3, none⟩ = some (.pointer (some ⟨t, 0, none⟩)) ∧ w'.cell? ⟨w.heap.size, 4, none⟩ = some (.int .i64 id) ∧ True) := Lib.hid fun w' ⟨h1, h2⟩ => ⟨cell_of_blk h1.blk 3, cell_of_blk ((h2.block _ (lt_of_some HEo.out)).trans HEo.out) 4, trivial⟩
  clear c0 c1 c2 c3 c4 c5
  have c0 := cell_of_blk eo 0
  clear hb3 eo HCk
  go_upto_region 10 with fail
  refine held.wpT_start (S := (fun w' => Sp B s t m A c L ad ep r n C w' ∧ Below w3.heap.size w3 w')) (T := fun k => k == 8) (by kernel_rfl) ?_
  refine held.wpT_take (i := 0) (oi := ⟨some 27, _, _, _, _, _⟩) (v := ?_) rfl (by kernel_rfl) (by kernel_rfl) (by kernel_rfl) (fun _ _ _ h => h) (Or.inl ⟨by kernel_rfl, ?_⟩) ?_
  rotate_left 1
  focus (intro w' hSw; go_simp; (try with_reducible rfl))
  try simp only [Act.put, List.setIfInBounds_toArray, List.set_cons_zero, List.set_cons_succ]
  refine held.wpT_take (i := 1) (oi := ⟨some 28, _, _, _, _, _⟩) (v := ?_) rfl (by kernel_rfl) (by kernel_rfl) (by kernel_rfl) (fun _ _ _ h => h) (Or.inl ⟨by kernel_rfl, ?_⟩) ?_
  rotate_left 1
  focus (intro w' hSw; go_simp; (try with_reducible rfl))
  try simp only [Act.put, List.setIfInBounds_toArray, List.set_cons_zero, List.set_cons_succ]
  refine held.wpT_take (i := 2) (oi := ⟨some 29, _, _, _, _, _⟩) (v := ?_) rfl (by kernel_rfl) (by kernel_rfl) (by kernel_rfl) (fun _ _ _ h => h) (Or.inl ⟨by kernel_rfl, ?_⟩) ?_
  rotate_left 1
  focus (intro w' hSw; go_simp; (try with_reducible rfl))
  try simp only [Act.put, List.setIfInBounds_toArray, List.set_cons_zero, List.set_cons_succ]
  refine held.wpT_load (i := 3) (oi := ⟨some 30, _, _, _, _, _⟩) (v := ?_) rfl (by kernel_rfl) (by kernel_rfl) (by kernel_rfl) (fun _ _ _ h => h) (by kernel_rfl) (Or.inl ⟨by kernel_rfl, ?_⟩) (⟨HPc.out.later (Below.refl _ _).drew, (Below.refl _ _).drew⟩) ?_
  rotate_left 1
  focus (intro w' hSw; obtain ⟨q0, q1, q2⟩ := HCE.out w' hSw; clear hSw; go_simp; (try with_reducible rfl))
  try simp only [Act.put, List.setIfInBounds_toArray, List.set_cons_zero, List.set_cons_succ]
  refine held.wpT_take (i := 4) (oi := ⟨some 31, _, _, _, _, _⟩) (v := ?_) rfl (by kernel_rfl) (by kernel_rfl) (by kernel_rfl) (fun _ _ _ h => h) (Or.inl ⟨by kernel_rfl, ?_⟩) ?_
  rotate_left 1
  focus (intro w' hSw; go_simp; (try with_reducible rfl))
  try simp only [Act.put, List.setIfInBounds_toArray, List.set_cons_zero, List.set_cons_succ]
  refine held.wpT_load (i := 5) (oi := ⟨some 32, _, _, _, _, _⟩) (v := ?_) rfl (by kernel_rfl) (by kernel_rfl) (by kernel_rfl) (fun _ _ _ h => h) (by kernel_rfl) (Or.inl ⟨by kernel_rfl, ?_⟩) (⟨HPc.out.later (Below.refl _ _).drew, (Below.refl _ _).drew⟩) ?_
  rotate_left 1
  focus (intro w' hSw; obtain ⟨q0, q1, q2⟩ := HCE.out w' hSw; clear hSw; go_simp; (try with_reducible rfl))
  try simp only [Act.put, List.setIfInBounds_toArray, List.set_cons_zero, List.set_cons_succ]
  refine held.wpT_one (i := 6) (by kernel_rfl) rfl (fun Kc hK => ?_)
  go_simp
  go_at_call 53
  refine (HCl.out w3.drew (HPc.out.later (Below.refl _ _).drew)).mono ?_
  rintro en v1 ⟨rfl, hv1⟩
  refine hK.out _ _ (fun _ _ => ⟨(HPc.out.later (Below.refl _ _).drew).later hv1, (Below.refl w3.heap.size w3).drew.trans (hv1.mono (Below.refl w3.heap.size w3).drew.size)⟩) ?_
  clear hK
  try simp only [Act.put, List.setIfInBounds_toArray, List.set_cons_zero, List.set_cons_succ]
  refine held.wpT_take (i := 7) (oi := ⟨some 34, _, _, _, _, _⟩) (v := ?_) rfl (by kernel_rfl) (by kernel_rfl) (by kernel_rfl) (fun _ _ _ h => h) (Or.inl ⟨by kernel_rfl, ?_⟩) ?_
  rotate_left 1
  focus (intro w' hSw; go_simp; (try with_reducible rfl))
  try simp only [Act.put, List.setIfInBounds_toArray, List.set_cons_zero, List.set_cons_succ]
  have hbv : Below w3.heap.size w3 v1 := (Below.refl w3.heap.size w3).drew.trans (hv1.mono (Below.refl w3.heap.size w3).drew.size)
  have er := (hbv.block _ (lt_of_some HXr.out)).trans HXr.out
  have HPut := Lib.hid (put8 (rb := g1) (Nat.le_of_lt HG1.out) er (HBc.out.trans (hbv.mono HBc.out.size)) 9 0 0 0 ⟨#[]⟩)
  have y0 := cell_of_blk er 0
  have z0 := free_of_blk er 0
  have y1 := cell_of_blk er 1
  have z1 := free_of_blk er 1
  have y2 := cell_of_blk er 2
  have z2 := free_of_blk er 2
  have y3 := cell_of_blk er 3
  have z3 := free_of_blk er 3
  have y4 := cell_of_blk er 4
  have z4 := free_of_blk er 4
  have y5 := cell_of_blk er 5
  have z5 := free_of_blk er 5
  have y6 := cell_of_blk er 6
  have z6 := free_of_blk er 6
  have y7 := cell_of_blk er 7
  have z7 := free_of_blk er 7
  clear er
  obtain ⟨W9, hW9⟩ : ∃ W9, W9 = set8 v1 g1 (.int .i64 9) (.int .i64 0) (.int .i64 0) (.int .i64 0) (.int .i64 0) (.string ⟨#[]⟩) (.slice none 0 0) (.bool false) := ⟨_, rfl⟩
  obtain ⟨p0, p1, p2, p3, p4, p5, p6, p7, HE⟩ := HPut.out _ hW9
  have HE := Lib.hid HE
  unfold set8 at hW9
  have HW9 := Lib.hid hW9
  clear hW9 HPut
  refine held.wpT_one (i := 8) (by kernel_rfl) rfl (fun Kc hK => ?_)
  go_simp
  rw [← HW9.out]
  refine hK.out _ _ (fun h => absurd h (by decide)) ?_
  clear hK HW9 y0 z0 y1 z1 y2 z2 y3 z3 y4 z4 y5 z5 y6 z6 y7 z7
  try simp only [Act.put, List.setIfInBounds_toArray, List.set_cons_zero, List.set_cons_succ]
  refine held.wpT_done (by kernel_rfl) ?_ _
  go_wp2_with fail
  exact bodyPost_ret (v := resP 9 0 none 0 0 false) (by unfold resP; simp [results, Tryz.results48, go_sem, p0, p1, p2, p3, p4, p5, p6, p7]) rfl ⟨rfl, HE.out⟩
/-! A Remove where there is no branch -/
theorem idx_none (bl : Nat) (w : World) : Calls Tryz.prog 78 #[.slice none 0 0, .func (.func 79) #[] #[.pointer (some ⟨bl, 0, none⟩)]] w fun e w' => e = .returned (.int .i64 (-1)) ∧ w' = w := by
  go_enter Tryz.func78, Tryz.ntmps78
  go_wp2_with fail
  go_loopw [8] (fun v wr => v = .int .i64 0 ∧ wr = w) (fun _ _ => 0)
  case atStart => exact ⟨rfl, rfl⟩
  case round =>
    obtain ⟨rfl, rfl⟩ := hrel
    go_wp2_with fail
    go_ret
    exact ⟨rfl, rfl⟩
theorem over2 {w : World} {g : Nat} {T : TypeId} {c0 c1 u0 u1 : Value} (h : w.heap[g]? = some (.cells #[c0, c1] T (0, 0))) : ((w.setCell ⟨g, 0, none⟩ u0).setCell ⟨g, 1, none⟩ u1).heap[g]? = some (.cells #[u0, u1] T (0, 0)) := by
  simp [World.setCell, Array.getElem?_modify, h]
set_option maxHeartbeats 3200000 in
theorem srem_none (ad id : Int) (w : World) : Calls Tryz.prog 64 #[stkV none 0 0 ad, .int .i64 id] w fun e w' => e = .returned (.tuple #[stkV none 0 0 ad, .int .i64 2]) ∧ Below w.heap.size w w' := by
  obtain ⟨g1, g2, W1, hW1, eg1, eg2, hs1, hi1, hr1, hb1, lg1, lg2⟩ := three_boxes w (.cells #[.slice none 0 0, .int .i64 ad] 42) (.cells #[.int .i64 id] 3) (.cells #[.slice none 0 0, .int .i64 0] 42)
  have s0 := cell_of_blk hs1 0
  have s1 := cell_of_blk hs1 1
  have r0 := cell_of_blk hr1 0
  have r1 := cell_of_blk hr1 1
  have f0 := free_of_blk hr1 0
  have f1 := free_of_blk hr1 1
  obtain ⟨W3, hW3⟩ : ∃ W3, W3 = (W1.setCell ⟨g2, 0, none⟩ (.slice none 0 0)).setCell ⟨g2, 1, none⟩ (.int .i64 ad) := ⟨_, rfl⟩
  have h3 := over2 (u0 := .slice none 0 0) (u1 := .int .i64 ad) hr1
  rw [← hW3] at h3
  have p0 := cell_of_blk h3 0
  have p1 := cell_of_blk h3 1
  have HB3 : Hid (Below w.heap.size w W3) := Lib.hid (by rw [hW3]; exact (hb1.setCell (p := ⟨g2, 0, none⟩) lg2 _).setCell (p := ⟨g2, 1, none⟩) lg2 _)
  have HI := Lib.hid (idx_none g1 W1)
  have HW1 := Lib.hid hW1
  have HE1 := Lib.hid eg1
  have HE2 := Lib.hid eg2
  have HW3 := Lib.hid hW3
  clear hW1 hs1 hi1 hr1 hb1 lg1 lg2 eg1 eg2 hW3 h3
  unfold stkV
  go_enter Tryz.func64, Tryz.ntmps64
  go_upto_region 1 with fail
  rw [HW1.out]
  simp only [HE1.out, HE2.out]
  clear HW1 HE1 HE2
  go_wp2_with fail
  refine HI.out.mono ?_
  rintro e w2 ⟨rfl, rfl⟩
  go_wp2_with fail
  rw [← HW3.out]
  exact bodyPost_ret (v := .tuple #[.agg #[.slice none 0 0, .int .i64 ad], .int .i64 2]) (by simp [results, Tryz.results64, go_sem, p0, p1]) rfl ⟨rfl, HB3.out⟩
end Go.Proofs.YtkigkdiphhecaaaGreat.tal
