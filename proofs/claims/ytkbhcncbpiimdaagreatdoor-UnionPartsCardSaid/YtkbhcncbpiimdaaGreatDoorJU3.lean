/- What union's Do answers. Conditions: the stack lies in memory, its trees may be, its numbers fall; the library's MaxLen holds a number. -/
import Derived.Test.YtkbhcncbpiimdaaGreatDoorJU2
import Derived.Deep.CutRange
import Derived.Deep.RegionHeld3
namespace Go.Proofs.YtkbhcncbpiimdaaGreatDoor.uni
set_option maxRecDepth 100000
open Go.RowKit Go.Proofs.YtkbhcncbpiimdaaGreatDoor.words Go.Proofs.YtkbhcncbpiimdaaGreatDoor.ext Go.Proofs.YtkbhcncbpiimdaaGreatDoor.name Go.Proofs.YtkbhcncbpiimdaaGreatDoor.tre Go.Proofs.YtkbhcncbpiimdaaGreatDoor.stk Go.Proofs.YtkbhcncbpiimdaaGreatDoor.seen Go.Proofs.YtkbhcncbpiimdaaGreatDoor.wlk

set_option maxHeartbeats 1600000 in
theorem do_no (A : Option Addr) (n c : Nat) (ad : Int) (k : Int) (p : ByteArray) (o m id : Int) (img : ByteArray) (w : World) (hi : isB k = false) :
    Calls Tryz.prog 16 #[stkV A n c ad, opV k p o m id img] w fun e w' => e = .returned (resV 1 0 0 0 ⟨#[]⟩) ∧ Below w.heap.size w w' := by
  obtain ⟨g1, g2, W1, hW1, eg1, eg2, hxs, hxo, hxr, hb1, lg1, lg2⟩ := three_boxes w (.cells #[.slice A n c, .int .i64 ad] 27) (.cells #[.int .i64 k, .string p, .int .i64 o, .int .i64 m, .int .i64 id, .string img] 47) (.cells #[.int .i64 0, .int .i64 0, .int .i64 0, .int .i64 0, .int .i64 0, .string ⟨#[]⟩, .slice none 0 0, .bool false] 44)
  have HXs := Lib.hid hxs
  have HXo := Lib.hid hxo
  have HXr := Lib.hid hxr
  have HB1 := Lib.hid hb1
  have HW1 := Lib.hid hW1
  have HEg1 := Lib.hid eg1
  have HLg1 := Lib.hid lg1
  have HEg2 := Lib.hid eg2
  have HLg2 := Lib.hid lg2
  clear hW1 hb1 hxs hxo hxr eg1 eg2 lg1 lg2
  have HI := Lib.hid (is_any k W1)
  rw [hi] at HI
  clear hi
  unfold stkV opV
  have eo := HXo.out
  have xo0 := cell_of_blk eo 0
  clear eo
  go_enter Tryz.func16, Tryz.ntmps16
  go_upto_region 1 with fail
  rw [HW1.out]
  simp only [HEg1.out, HEg2.out]
  clear HW1 HEg1 HEg2
  go_wp2_with fail
  refine HI.out.mono ?_
  rintro e w2 ⟨rfl, rfl⟩
  clear HI
  have er := HXr.out
  have HPut := Lib.hid (put8 (rb := g2) HLg2.out er HB1.out 1 0 0 0 ⟨#[]⟩)
  have y0 := cell_of_blk er 0
  have z0 := free_of_blk er 0
  have y1 := cell_of_blk er 1
  have z1 := free_of_blk er 1
  have y2 := cell_of_blk er 2
  have z2 := free_of_blk er 2
  have y3 := cell_of_blk er 3
  have z3 := free_of_blk er 3
  have y4 := cell_of_blk er 4
  have z4 := free_of_blk er 4
  have y5 := cell_of_blk er 5
  have z5 := free_of_blk er 5
  have y6 := cell_of_blk er 6
  have z6 := free_of_blk er 6
  have y7 := cell_of_blk er 7
  have z7 := free_of_blk er 7
  clear er
  go_wp2_with fail
  obtain ⟨p0, p1, p2, p3, p4, p5, p6, p7, HE⟩ := HPut.out _ rfl
  unfold set8 at p0 p1 p2 p3 p4 p5 p6 p7 HE
  exact bodyPost_ret (v := resV 1 0 0 0 ⟨#[]⟩) (by unfold resV; simp [results, Tryz.results16, go_sem, p0, p1, p2, p3, p4, p5, p6, p7]) rfl ⟨rfl, HE⟩
set_option maxHeartbeats 1600000 in
theorem do_bad (A : Option Addr) (n c : Nat) (ad : Int) (k : Int) (p : ByteArray) (o m id : Int) (img : ByteArray) (w : World) (hi : isB k = true) (hb : badB k o m = true) :
    Calls Tryz.prog 16 #[stkV A n c ad, opV k p o m id img] w fun e w' => e = .returned (resV 1 0 0 0 ⟨#[]⟩) ∧ Below w.heap.size w w' := by
  obtain ⟨g1, g2, W1, hW1, eg1, eg2, hxs, hxo, hxr, hb1, lg1, lg2⟩ := three_boxes w (.cells #[.slice A n c, .int .i64 ad] 27) (.cells #[.int .i64 k, .string p, .int .i64 o, .int .i64 m, .int .i64 id, .string img] 47) (.cells #[.int .i64 0, .int .i64 0, .int .i64 0, .int .i64 0, .int .i64 0, .string ⟨#[]⟩, .slice none 0 0, .bool false] 44)
  have HXs := Lib.hid hxs
  have HXo := Lib.hid hxo
  have HXr := Lib.hid hxr
  have HB1 := Lib.hid hb1
  have HW1 := Lib.hid hW1
  have HEg1 := Lib.hid eg1
  have HLg1 := Lib.hid lg1
  have HEg2 := Lib.hid eg2
  have HLg2 := Lib.hid lg2
  clear hW1 hb1 hxs hxo hxr eg1 eg2 lg1 lg2
  have HI := Lib.hid (is_any k W1)
  rw [hi] at HI
  have HC := Lib.hid (chk_any k p o m id img W1)
  have HV : Hid (chkI k o m = 1) := Lib.hid (by unfold chkI; rw [if_pos hb])
  clear hi hb
  unfold stkV opV at *
  have eo := HXo.out
  have xo0 := cell_of_blk eo 0
  have xo1 := cell_of_blk eo 1
  have xo2 := cell_of_blk eo 2
  have xo3 := cell_of_blk eo 3
  have xo4 := cell_of_blk eo 4
  have xo5 := cell_of_blk eo 5
  clear eo
  go_enter Tryz.func16, Tryz.ntmps16
  go_upto_region 1 with fail
  rw [HW1.out]
  simp only [HEg1.out, HEg2.out]
  clear HW1 HEg1 HEg2
  go_wp2_with fail
  refine HI.out.mono ?_
  rintro e w2 ⟨rfl, rfl⟩
  clear HI
  go_wp2_with fail
  refine HC.out.mono ?_
  rintro e w3 ⟨rfl, hb3⟩
  rw [HV.out]
  have HB3 := Lib.hid hb3
  clear hb3 HC xo0 xo1 xo2 xo3 xo4 xo5
  have er := (HB3.out.block _ (lt_of_some HXr.out)).trans HXr.out
  have HPut := Lib.hid (put8 (rb := g2) HLg2.out er (HB1.out.trans (HB3.out.mono HB1.out.size)) 1 0 0 0 ⟨#[]⟩)
  have y0 := cell_of_blk er 0
  have z0 := free_of_blk er 0
  have y1 := cell_of_blk er 1
  have z1 := free_of_blk er 1
  have y2 := cell_of_blk er 2
  have z2 := free_of_blk er 2
  have y3 := cell_of_blk er 3
  have z3 := free_of_blk er 3
  have y4 := cell_of_blk er 4
  have z4 := free_of_blk er 4
  have y5 := cell_of_blk er 5
  have z5 := free_of_blk er 5
  have y6 := cell_of_blk er 6
  have z6 := free_of_blk er 6
  have y7 := cell_of_blk er 7
  have z7 := free_of_blk er 7
  clear er
  go_wp2_with fail
  obtain ⟨p0, p1, p2, p3, p4, p5, p6, p7, HE⟩ := HPut.out _ rfl
  unfold set8 at p0 p1 p2 p3 p4 p5 p6 p7 HE
  exact bodyPost_ret (v := resV 1 0 0 0 ⟨#[]⟩) (by unfold resV; simp [results, Tryz.results16, go_sem, p0, p1, p2, p3, p4, p5, p6, p7]) rfl ⟨rfl, HE⟩
/-- What a walk has answered. -/
def WkA (R : List Nd) (O : AtO) (S : ByteArray) (K l i : Int) (nq : Nat) (er : Int) : Prop :=
  (∃ j : Int, O = .err j ∧ j ≠ 0 ∧ er = j) ∨ (er = 0 ∧ ∃ (t : Tg) (ns : List ByteArray) (E : List Nd), O = .ok ns E ∧ S = t.S ∧ K = t.K ∧ l = t.l ∧ i = t.i ∧ nq = t.Q.length ∧ Hold R t E ∧ Spt R ns t ∧ Along (D0 R) ns E ∧ (ns ≠ [] → E ≠ []))
theorem walked_a {R : List Nd} {O : AtO} {w w' : World} {e : Ending} (H : WalkedTo R O w e w') : ∃ (S : ByteArray) (K l i : Int) (Aq : Option Addr) (nq cq : Nat) (er : Int), e = .returned (.tuple #[.agg #[.string S, .int .i64 K, .int .i64 l, .int .i64 i, .slice Aq nq cq], .int .i64 er]) ∧ WkA R O S K l i nq er := by
  obtain ⟨⟨j, h1, h2, _, _, rfl⟩ | ⟨t, Aq, cq, ns, E, h1, rfl, _, _, _, h2, _, _, _, h3, h4, h5⟩, _⟩ := H
  · exact ⟨_, _, _, _, _, _, _, _, rfl, .inl ⟨j, h1, h2, rfl⟩⟩
  · exact ⟨_, _, _, _, _, _, _, _, rfl, .inr ⟨rfl, t, ns, E, h1, rfl, rfl, rfl, rfl, rfl, h2, h5, h3, h4⟩⟩
set_option maxHeartbeats 12800000 in
theorem do_yes {R : List Nd} (hg : ∀ t ∈ R, allB t = true) (hK : ∀ t ∈ R, t.K = 2) (hk : ∀ d ∈ R, depth d < 100) (hR : R.length ≤ 64) (A : Option Addr) (c : Nat) (ad : Int) (L : List (Nat × Int)) (mx : Int) (k : Int) (p : ByteArray) (o m id : Int) (img : ByteArray) (w : World) (hst : StkM w A L (tabs R)) (hL : Falls L)
    (hmx : w.cell? ⟨0, 0, none⟩ = some (.int .i64 mx)) (hp : p.size ≤ 1000000) (ho1 : -9223372036854775808 ≤ o) (ho2 : o ≤ 9223372036854775807) (hm1 : -9223372036854775808 ≤ m) (hm2 : m ≤ 9223372036854775807) {O : AtO} (hO : Goes R (folB k) p O) {l : Int} (hl : ∀ ns E, O = .ok ns E → LevI R ns l) (hi : isB k = true) (hb : badB k o m = false) :
    Calls Tryz.prog 16 #[stkV A L.length c ad, opV k p o m id img] w fun e w' => Res (ansM (R.length : Int) l O k o m) e ∧ Below w.heap.size w w' := by
  obtain ⟨g1, g2, W1, hW1, eg1, eg2, hxs, hxo, hxr, hb1, lg1, lg2⟩ := three_boxes w (.cells #[.slice A L.length c, .int .i64 ad] 27) (.cells #[.int .i64 k, .string p, .int .i64 o, .int .i64 m, .int .i64 id, .string img] 47) (.cells #[.int .i64 0, .int .i64 0, .int .i64 0, .int .i64 0, .int .i64 0, .string ⟨#[]⟩, .slice none 0 0, .bool false] 44)
  have HXs := Lib.hid hxs
  have HXo := Lib.hid hxo
  have HXr := Lib.hid hxr
  have HB1 := Lib.hid hb1
  have HW1 := Lib.hid hW1
  have HEg1 := Lib.hid eg1
  have HLg1 := Lib.hid lg1
  have HEg2 := Lib.hid eg2
  have HLg2 := Lib.hid lg2
  clear hW1 hb1 hxs hxo hxr eg1 eg2 lg1 lg2
  have HI := Lib.hid (is_any k W1)
  rw [hi] at HI
  have HC := Lib.hid (chk_any k p o m id img W1)
  have HV : Hid (chkI k o m = 0) := Lib.hid (by unfold chkI; rw [hb]; rfl)
  have HAn : Hid (ansM (R.length : Int) l O k o m = ansO (R.length : Int) l O k o m) := Lib.hid (by unfold ansM; rw [if_neg (by rw [hi, hb]; simp)])
  have HSt := Lib.hid (hst.later HB1.out)
  have HM := Lib.hid (below_cell hmx HB1.out)
  have HH := Lib.hid (And.intro hg (And.intro hK (And.intro hk (And.intro hR (And.intro hL (And.intro hp (And.intro ho1 (And.intro ho2 (And.intro hm1 (And.intro hm2 (And.intro hO (And.intro hl hi))))))))))))
  clear hi hb hst hmx hg hK hk hR hL hp ho1 ho2 hm1 hm2 hO hl
  unfold stkV opV at *
  have eo := HXo.out
  have xo0 := cell_of_blk eo 0
  have xo1 := cell_of_blk eo 1
  have xo2 := cell_of_blk eo 2
  have xo3 := cell_of_blk eo 3
  have xo4 := cell_of_blk eo 4
  have xo5 := cell_of_blk eo 5
  clear eo
  go_enter Tryz.func16, Tryz.ntmps16
  go_upto_region 1 with fail
  rw [HW1.out]
  simp only [HEg1.out, HEg2.out]
  clear HW1 HEg1 HEg2
  go_wp2_with fail
  refine HI.out.mono ?_
  rintro e w2 ⟨rfl, rfl⟩
  clear HI
  go_wp2_with fail
  refine HC.out.mono ?_
  rintro e W3 ⟨rfl, hb3⟩
  rw [HV.out]
  have HB3 := Lib.hid hb3
  clear hb3 HC xo0 xo1 xo2 xo3 xo4 xo5
  have HSS : Hid (∀ w' : World, Below W3.heap.size W3 w' → (w'.cell? ⟨w.heap.size, 0, none⟩ = some (.slice A L.length c) ∧ w'.cell? ⟨w.heap.size, 1, none⟩ = some (.int .i64 ad) ∧ w'.cell? ⟨g1, 0, none⟩ = some (.int .i64 k) ∧ w'.cell? ⟨g1, 1, none⟩ = some (.string p) ∧ Below W3.heap.size W3 w')) := Lib.hid fun w' hb' => by
    have hb := HB3.out.trans (hb'.mono HB3.out.size)
    have e1 := (hb.block _ (lt_of_some HXs.out)).trans HXs.out
    have e2 := (hb.block _ (lt_of_some HXo.out)).trans HXo.out
    exact ⟨cell_of_blk e1 0, cell_of_blk e1 1, cell_of_blk e2 0, cell_of_blk e2 1, hb'⟩
  have HWk : Hid (∀ w' : World, Below W3.heap.size W3 w' → Calls Tryz.prog 20 #[.agg #[.slice A L.length c, .int .i64 ad], .string p, .bool (folB k)] w' fun e w'' => (∃ (St : ByteArray) (Kt lt it : Int) (At : Option Addr) (nt ct : Nat) (er : Int), e = .returned (.tuple #[.agg #[.string St, .int .i64 Kt, .int .i64 lt, .int .i64 it, .slice At nt ct], .int .i64 er]) ∧ WkA R O St Kt lt it nt er) ∧ Below w'.heap.size w' w'') := Lib.hid fun w' hb' => by
    have hb := HB3.out.trans (hb'.mono HB3.out.size)
    obtain ⟨hg, hK, hk, hR, hL, hp, ho1, ho2, hm1, hm2, hO, hl, hi⟩ := HH.out
    exact (walk_any hg hK hk hR A c ad L mx p (folB k) O hO w' (HSt.out.later hb) (below_cell HM.out hb) hp).mono fun e w'' H => ⟨walked_a H, H.2⟩
  go_upto_region 6 with fail
  go_cut [6, 7] from 19 to 29 (fun v vb wx => ∃ (gf : Nat) (St : ByteArray) (Kt lt it : Int) (At : Option Addr) (nt ct : Nat) (er : Int), v = .pointer (some ⟨gf, 0, none⟩) ∧ vb = .int .i64 er ∧ Hid (WkA R O St Kt lt it nt er) ∧ Hid (wx.heap[gf]? = some (.cells #[.string St, .int .i64 Kt, .int .i64 lt, .int .i64 it, .slice At nt ct] 58 (0, 0))) ∧ Hid (Below W3.heap.size W3 wx))
  case first =>
    obtain ⟨V, hV⟩ : ∃ V, V = World.drew W3 := ⟨_, rfl⟩
    have HBV := Lib.hid (show Below W3.heap.size W3 V by rw [hV]; exact (Below.refl _ _).drew)
    refine wp_region_held_drew (S := fun w' => (w'.cell? ⟨w.heap.size, 0, none⟩ = some (.slice A L.length c) ∧ w'.cell? ⟨w.heap.size, 1, none⟩ = some (.int .i64 ad) ∧ w'.cell? ⟨g1, 0, none⟩ = some (.int .i64 k) ∧ w'.cell? ⟨g1, 1, none⟩ = some (.string p) ∧ Below W3.heap.size W3 w')) (by kernel_rfl) (by rw [← hV]; exact HSS.out _ HBV.out) (fun hHeld => ?_)
    rw [← hV] at hHeld ⊢
    clear hV
    refine wpAnyH_take (i := 0) (oi := ⟨some 20, _, _, _, _, _⟩) (v := ?_) rfl (by kernel_rfl) (by kernel_rfl) (by kernel_rfl) (fun _ _ _ h => h) (Or.inl ⟨by kernel_rfl, ?_⟩) (by assumption) ?_
    rotate_left 1
    focus (intro w' hSw; (try dsimp only at hSw); go_simp; (try with_reducible rfl))
    try simp only [Act.put, List.setIfInBounds_toArray, List.set_cons_zero, List.set_cons_succ]
    refine wpAnyH_take (i := 1) (oi := ⟨some 21, _, _, _, _, _⟩) (v := ?_) rfl (by kernel_rfl) (by kernel_rfl) (by kernel_rfl) (fun _ _ _ h => h) (Or.inl ⟨by kernel_rfl, ?_⟩) (by assumption) ?_
    rotate_left 1
    focus (intro w' hSw; (try dsimp only at hSw); go_simp; (try with_reducible rfl))
    try simp only [Act.put, List.setIfInBounds_toArray, List.set_cons_zero, List.set_cons_succ]
    refine wpAnyH_take (i := 2) (oi := ⟨some 22, _, _, _, _, _⟩) (v := ?_) rfl (by kernel_rfl) (by kernel_rfl) (by kernel_rfl) (fun _ _ _ h => h) (Or.inl ⟨by kernel_rfl, ?_⟩) (by assumption) ?_
    rotate_left 1
    focus (intro w' hSw; (try dsimp only at hSw); go_simp; (try with_reducible rfl))
    try simp only [Act.put, List.setIfInBounds_toArray, List.set_cons_zero, List.set_cons_succ]
    refine wpAnyH_take (i := 3) (oi := ⟨some 23, _, _, _, _, _⟩) (v := ?_) rfl (by kernel_rfl) (by kernel_rfl) (by kernel_rfl) (fun _ _ _ h => h) (Or.inl ⟨by kernel_rfl, ?_⟩) (by assumption) ?_
    rotate_left 1
    focus (intro w' hSw; (try dsimp only at hSw); go_simp; (try with_reducible rfl))
    try simp only [Act.put, List.setIfInBounds_toArray, List.set_cons_zero, List.set_cons_succ]
    refine wpAnyH_take (i := 4) (oi := ⟨some 24, _, _, _, _, _⟩) (v := ?_) rfl (by kernel_rfl) (by kernel_rfl) (by kernel_rfl) (fun _ _ _ h => h) (Or.inl ⟨by kernel_rfl, ?_⟩) (by assumption) ?_
    rotate_left 1
    focus (intro w' hSw; (try dsimp only at hSw); go_simp; (try with_reducible rfl))
    try simp only [Act.put, List.setIfInBounds_toArray, List.set_cons_zero, List.set_cons_succ]
    refine wpAnyH_ready (rs := [5, 10]) (by kernel_rfl) (by simp) ?_
    refine AllReadyH.cons rfl (fun K hK => ?_) (AllReadyH.cons rfl (fun K hK => ?_) AllReadyH.nil)
    · skip
      go_simp
      go_at_call 18
      refine (fol_any k _).mono ?_
      rintro en vf ⟨rfl, hvf⟩
      have hvf := hvf.symm
      subst hvf
      clear hHeld
      refine hK.out _ _ (HSS.out _ HBV.out) (fun hHeld => ?_)
      clear hK
      try simp only [Act.put, List.setIfInBounds_toArray, List.set_cons_zero, List.set_cons_succ]
      refine wpAnyH_ready (rs := [6, 10]) (by kernel_rfl) (by simp) ?_
      refine AllReadyH.cons rfl (fun K hK => ?_) (AllReadyH.cons rfl (fun K hK => ?_) AllReadyH.nil)
      · skip
        go_simp
        go_at_call 20
        refine (HWk.out _ HBV.out).mono ?_
        rintro en v2 ⟨⟨St, Kt, lt, it, At, nt, ct, er, rfl, hh⟩, hv2⟩
        have HBv2 := Lib.hid (HBV.out.trans (hv2.mono (HBV.out).size))
        have HA := Lib.hid hh
        clear hv2 hh
        clear hHeld
        refine hK.out _ _ (HSS.out _ HBv2.out) (fun hHeld => ?_)
        clear hK
        try simp only [Act.put, List.setIfInBounds_toArray, List.set_cons_zero, List.set_cons_succ]
        refine wpAnyH_take (i := 7) (oi := ⟨some 19, _, _, _, _, _⟩) (v := ?_) rfl (by kernel_rfl) (by kernel_rfl) (by kernel_rfl) (fun _ _ _ h => h) (Or.inl ⟨by kernel_rfl, ?_⟩) (by assumption) ?_
        rotate_left 1
        focus (intro w' hSw; (try dsimp only at hSw); go_simp; (try with_reducible rfl))
        try simp only [Act.put, List.setIfInBounds_toArray, List.set_cons_zero, List.set_cons_succ]
        refine wpAnyH_take (i := 8) (oi := ⟨some 27, _, _, _, _, _⟩) (v := ?_) rfl (by kernel_rfl) (by kernel_rfl) (by kernel_rfl) (fun _ _ _ h => h) (Or.inl ⟨by kernel_rfl, ?_⟩) (by assumption) ?_
        rotate_left 1
        focus (intro w' hSw; (try dsimp only at hSw); go_simp; (try with_reducible rfl))
        try simp only [Act.put, List.setIfInBounds_toArray, List.set_cons_zero, List.set_cons_succ]
        refine wpAnyH_take (i := 9) (oi := ⟨some 28, _, _, _, _, _⟩) (v := ?_) rfl (by kernel_rfl) (by kernel_rfl) (by kernel_rfl) (fun _ _ _ h => h) (Or.inl ⟨by kernel_rfl, ?_⟩) (by assumption) ?_
        rotate_left 1
        focus (intro w' hSw; (try dsimp only at hSw); go_simp; (try with_reducible rfl))
        try simp only [Act.put, List.setIfInBounds_toArray, List.set_cons_zero, List.set_cons_succ]
        refine wpAnyH_ready (rs := [10]) (by kernel_rfl) (by simp) ?_
        refine AllReadyH.cons rfl (fun K hK => ?_) AllReadyH.nil
        obtain ⟨v3, hv3⟩ : ∃ v3, v3 = World.alloc v2 (.cells #[.string ⟨#[]⟩, .int .i64 0, .int .i64 0, .int .i64 0, .slice none 0 0] 58) := ⟨_, rfl⟩
        have hxv3 : Below (World.heap v2).size v2 v3 := by rw [hv3]; exact (Below.refl _ _).alloc (Nat.le_refl _) _
        have HBv3 := Lib.hid (HBv2.out.trans (hxv3.mono (HBv2.out).size))
        have HGv3 := Lib.hid (show v3.heap[(World.heap v2).size]? = some (.cells #[.string ⟨#[]⟩, .int .i64 0, .int .i64 0, .int .i64 0, .slice none 0 0] 58 (0, 0)) by rw [hv3]; exact heap_alloc_new v2 _)
        go_simp
        rw [← hv3]
        clear hv3 hxv3
        clear hHeld
        refine hK.out _ _ (HSS.out _ HBv3.out) (fun hHeld => ?_)
        clear hK
        try simp only [Act.put, List.setIfInBounds_toArray, List.set_cons_zero, List.set_cons_succ]
        refine wpAnyH_ready (rs := [11]) (by kernel_rfl) (by simp) ?_
        refine AllReadyH.cons rfl (fun K hK => ?_) AllReadyH.nil
        have hz := HGv3.out
        have c0z := cell_of_blk hz 0
        have z0 := free_of_blk hz 0
        have c1z := cell_of_blk hz 1
        have z1 := free_of_blk hz 1
        have c2z := cell_of_blk hz 2
        have z2 := free_of_blk hz 2
        have c3z := cell_of_blk hz 3
        have z3 := free_of_blk hz 3
        have c4z := cell_of_blk hz 4
        have z4 := free_of_blk hz 4
        obtain ⟨v4, hv4⟩ : ∃ v4, v4 = set5 v3 ((World.heap v2).size) (.string St) (.int .i64 Kt) (.int .i64 lt) (.int .i64 it) (.slice At nt ct) := ⟨_, rfl⟩
        have hyv4 := over5 (u0 := .string St) (u1 := .int .i64 Kt) (u2 := .int .i64 lt) (u3 := .int .i64 it) (u4 := .slice At nt ct) hz
        have hle : W3.heap.size ≤ (World.heap v2).size := HBv2.out.size
        have hbz := below5 HBv3.out hle (.string St) (.int .i64 Kt) (.int .i64 lt) (.int .i64 it) (.slice At nt ct)
        rw [← hv4] at hyv4 hbz
        unfold set5 at hv4
        have HGv4 := Lib.hid hyv4
        have HBv4 := Lib.hid hbz
        go_simp
        rw [← hv4]
        clear hv4 hyv4 hbz hle hz c0z z0 c1z z1 c2z z2 c3z z3 c4z z4
        clear hHeld
        refine hK.out _ _ (HSS.out _ HBv4.out) (fun hHeld => ?_)
        clear hK
        try simp only [Act.put, List.setIfInBounds_toArray, List.set_cons_zero, List.set_cons_succ]
        refine wpAnyH_take (i := 12) (oi := ⟨some 7, _, _, _, _, _⟩) (v := ?_) rfl (by kernel_rfl) (by kernel_rfl) (by kernel_rfl) (fun _ _ _ h => h) (Or.inl ⟨by kernel_rfl, ?_⟩) (by assumption) ?_
        rotate_left 1
        focus (intro w' hSw; (try dsimp only at hSw); go_simp; (try with_reducible rfl))
        try simp only [Act.put, List.setIfInBounds_toArray, List.set_cons_zero, List.set_cons_succ]
        refine wpAnyH_done (by kernel_rfl) ?_ _
        clear hHeld
        go_wp2_with fail
        go_meet
        case rel => exact ⟨_, St, Kt, lt, it, At, nt, ct, er, rfl, rfl, HA, HGv4, HBv4⟩
      · skip
        obtain ⟨v2, hv2⟩ : ∃ v2, v2 = World.alloc V (.cells #[.string ⟨#[]⟩, .int .i64 0, .int .i64 0, .int .i64 0, .slice none 0 0] 58) := ⟨_, rfl⟩
        have hxv2 : Below (World.heap V).size V v2 := by rw [hv2]; exact (Below.refl _ _).alloc (Nat.le_refl _) _
        have HBv2 := Lib.hid (HBV.out.trans (hxv2.mono (HBV.out).size))
        have HGv2 := Lib.hid (show v2.heap[(World.heap V).size]? = some (.cells #[.string ⟨#[]⟩, .int .i64 0, .int .i64 0, .int .i64 0, .slice none 0 0] 58 (0, 0)) by rw [hv2]; exact heap_alloc_new V _)
        go_simp
        rw [← hv2]
        clear hv2 hxv2
        clear hHeld
        refine hK.out _ _ (HSS.out _ HBv2.out) (fun hHeld => ?_)
        clear hK
        try simp only [Act.put, List.setIfInBounds_toArray, List.set_cons_zero, List.set_cons_succ]
        refine wpAnyH_ready (rs := [6]) (by kernel_rfl) (by simp) ?_
        refine AllReadyH.cons rfl (fun K hK => ?_) AllReadyH.nil
        go_simp
        go_at_call 20
        refine (HWk.out _ HBv2.out).mono ?_
        rintro en v3 ⟨⟨St, Kt, lt, it, At, nt, ct, er, rfl, hh⟩, hv3⟩
        have HBv3 := Lib.hid (HBv2.out.trans (hv3.mono (HBv2.out).size))
        have HA := Lib.hid hh
        have HGv3 := Lib.hid ((hv3.block _ (lt_of_some HGv2.out)).trans HGv2.out)
        clear hv3 hh
        clear hHeld
        refine hK.out _ _ (HSS.out _ HBv3.out) (fun hHeld => ?_)
        clear hK
        try simp only [Act.put, List.setIfInBounds_toArray, List.set_cons_zero, List.set_cons_succ]
        refine wpAnyH_take (i := 7) (oi := ⟨some 19, _, _, _, _, _⟩) (v := ?_) rfl (by kernel_rfl) (by kernel_rfl) (by kernel_rfl) (fun _ _ _ h => h) (Or.inl ⟨by kernel_rfl, ?_⟩) (by assumption) ?_
        rotate_left 1
        focus (intro w' hSw; (try dsimp only at hSw); go_simp; (try with_reducible rfl))
        try simp only [Act.put, List.setIfInBounds_toArray, List.set_cons_zero, List.set_cons_succ]
        refine wpAnyH_take (i := 8) (oi := ⟨some 27, _, _, _, _, _⟩) (v := ?_) rfl (by kernel_rfl) (by kernel_rfl) (by kernel_rfl) (fun _ _ _ h => h) (Or.inl ⟨by kernel_rfl, ?_⟩) (by assumption) ?_
        rotate_left 1
        focus (intro w' hSw; (try dsimp only at hSw); go_simp; (try with_reducible rfl))
        try simp only [Act.put, List.setIfInBounds_toArray, List.set_cons_zero, List.set_cons_succ]
        refine wpAnyH_take (i := 9) (oi := ⟨some 28, _, _, _, _, _⟩) (v := ?_) rfl (by kernel_rfl) (by kernel_rfl) (by kernel_rfl) (fun _ _ _ h => h) (Or.inl ⟨by kernel_rfl, ?_⟩) (by assumption) ?_
        rotate_left 1
        focus (intro w' hSw; (try dsimp only at hSw); go_simp; (try with_reducible rfl))
        try simp only [Act.put, List.setIfInBounds_toArray, List.set_cons_zero, List.set_cons_succ]
        refine wpAnyH_ready (rs := [11]) (by kernel_rfl) (by simp) ?_
        refine AllReadyH.cons rfl (fun K hK => ?_) AllReadyH.nil
        have hz := HGv3.out
        have c0z := cell_of_blk hz 0
        have z0 := free_of_blk hz 0
        have c1z := cell_of_blk hz 1
        have z1 := free_of_blk hz 1
        have c2z := cell_of_blk hz 2
        have z2 := free_of_blk hz 2
        have c3z := cell_of_blk hz 3
        have z3 := free_of_blk hz 3
        have c4z := cell_of_blk hz 4
        have z4 := free_of_blk hz 4
        obtain ⟨v4, hv4⟩ : ∃ v4, v4 = set5 v3 ((World.heap V).size) (.string St) (.int .i64 Kt) (.int .i64 lt) (.int .i64 it) (.slice At nt ct) := ⟨_, rfl⟩
        have hyv4 := over5 (u0 := .string St) (u1 := .int .i64 Kt) (u2 := .int .i64 lt) (u3 := .int .i64 it) (u4 := .slice At nt ct) hz
        have hle : W3.heap.size ≤ (World.heap V).size := HBV.out.size
        have hbz := below5 HBv3.out hle (.string St) (.int .i64 Kt) (.int .i64 lt) (.int .i64 it) (.slice At nt ct)
        rw [← hv4] at hyv4 hbz
        unfold set5 at hv4
        have HGv4 := Lib.hid hyv4
        have HBv4 := Lib.hid hbz
        go_simp
        rw [← hv4]
        clear hv4 hyv4 hbz hle hz c0z z0 c1z z1 c2z z2 c3z z3 c4z z4
        clear hHeld
        refine hK.out _ _ (HSS.out _ HBv4.out) (fun hHeld => ?_)
        clear hK
        try simp only [Act.put, List.setIfInBounds_toArray, List.set_cons_zero, List.set_cons_succ]
        refine wpAnyH_take (i := 12) (oi := ⟨some 7, _, _, _, _, _⟩) (v := ?_) rfl (by kernel_rfl) (by kernel_rfl) (by kernel_rfl) (fun _ _ _ h => h) (Or.inl ⟨by kernel_rfl, ?_⟩) (by assumption) ?_
        rotate_left 1
        focus (intro w' hSw; (try dsimp only at hSw); go_simp; (try with_reducible rfl))
        try simp only [Act.put, List.setIfInBounds_toArray, List.set_cons_zero, List.set_cons_succ]
        refine wpAnyH_done (by kernel_rfl) ?_ _
        clear hHeld
        go_wp2_with fail
        go_meet
        case rel => exact ⟨_, St, Kt, lt, it, At, nt, ct, er, rfl, rfl, HA, HGv4, HBv4⟩
    · skip
      obtain ⟨v1, hv1⟩ : ∃ v1, v1 = World.alloc V (.cells #[.string ⟨#[]⟩, .int .i64 0, .int .i64 0, .int .i64 0, .slice none 0 0] 58) := ⟨_, rfl⟩
      have hxv1 : Below (World.heap V).size V v1 := by rw [hv1]; exact (Below.refl _ _).alloc (Nat.le_refl _) _
      have HBv1 := Lib.hid (HBV.out.trans (hxv1.mono (HBV.out).size))
      have HGv1 := Lib.hid (show v1.heap[(World.heap V).size]? = some (.cells #[.string ⟨#[]⟩, .int .i64 0, .int .i64 0, .int .i64 0, .slice none 0 0] 58 (0, 0)) by rw [hv1]; exact heap_alloc_new V _)
      go_simp
      rw [← hv1]
      clear hv1 hxv1
      clear hHeld
      refine hK.out _ _ (HSS.out _ HBv1.out) (fun hHeld => ?_)
      clear hK
      try simp only [Act.put, List.setIfInBounds_toArray, List.set_cons_zero, List.set_cons_succ]
      refine wpAnyH_ready (rs := [5]) (by kernel_rfl) (by simp) ?_
      refine AllReadyH.cons rfl (fun K hK => ?_) AllReadyH.nil
      go_simp
      go_at_call 18
      refine (fol_any k _).mono ?_
      rintro en vf ⟨rfl, hvf⟩
      have hvf := hvf.symm
      subst hvf
      clear hHeld
      refine hK.out _ _ (HSS.out _ HBv1.out) (fun hHeld => ?_)
      clear hK
      try simp only [Act.put, List.setIfInBounds_toArray, List.set_cons_zero, List.set_cons_succ]
      refine wpAnyH_ready (rs := [6]) (by kernel_rfl) (by simp) ?_
      refine AllReadyH.cons rfl (fun K hK => ?_) AllReadyH.nil
      go_simp
      go_at_call 20
      refine (HWk.out _ HBv1.out).mono ?_
      rintro en v3 ⟨⟨St, Kt, lt, it, At, nt, ct, er, rfl, hh⟩, hv3⟩
      have HBv3 := Lib.hid (HBv1.out.trans (hv3.mono (HBv1.out).size))
      have HA := Lib.hid hh
      have HGv3 := Lib.hid ((hv3.block _ (lt_of_some HGv1.out)).trans HGv1.out)
      clear hv3 hh
      clear hHeld
      refine hK.out _ _ (HSS.out _ HBv3.out) (fun hHeld => ?_)
      clear hK
      try simp only [Act.put, List.setIfInBounds_toArray, List.set_cons_zero, List.set_cons_succ]
      refine wpAnyH_take (i := 7) (oi := ⟨some 19, _, _, _, _, _⟩) (v := ?_) rfl (by kernel_rfl) (by kernel_rfl) (by kernel_rfl) (fun _ _ _ h => h) (Or.inl ⟨by kernel_rfl, ?_⟩) (by assumption) ?_
      rotate_left 1
      focus (intro w' hSw; (try dsimp only at hSw); go_simp; (try with_reducible rfl))
      try simp only [Act.put, List.setIfInBounds_toArray, List.set_cons_zero, List.set_cons_succ]
      refine wpAnyH_take (i := 8) (oi := ⟨some 27, _, _, _, _, _⟩) (v := ?_) rfl (by kernel_rfl) (by kernel_rfl) (by kernel_rfl) (fun _ _ _ h => h) (Or.inl ⟨by kernel_rfl, ?_⟩) (by assumption) ?_
      rotate_left 1
      focus (intro w' hSw; (try dsimp only at hSw); go_simp; (try with_reducible rfl))
      try simp only [Act.put, List.setIfInBounds_toArray, List.set_cons_zero, List.set_cons_succ]
      refine wpAnyH_take (i := 9) (oi := ⟨some 28, _, _, _, _, _⟩) (v := ?_) rfl (by kernel_rfl) (by kernel_rfl) (by kernel_rfl) (fun _ _ _ h => h) (Or.inl ⟨by kernel_rfl, ?_⟩) (by assumption) ?_
      rotate_left 1
      focus (intro w' hSw; (try dsimp only at hSw); go_simp; (try with_reducible rfl))
      try simp only [Act.put, List.setIfInBounds_toArray, List.set_cons_zero, List.set_cons_succ]
      refine wpAnyH_ready (rs := [11]) (by kernel_rfl) (by simp) ?_
      refine AllReadyH.cons rfl (fun K hK => ?_) AllReadyH.nil
      have hz := HGv3.out
      have c0z := cell_of_blk hz 0
      have z0 := free_of_blk hz 0
      have c1z := cell_of_blk hz 1
      have z1 := free_of_blk hz 1
      have c2z := cell_of_blk hz 2
      have z2 := free_of_blk hz 2
      have c3z := cell_of_blk hz 3
      have z3 := free_of_blk hz 3
      have c4z := cell_of_blk hz 4
      have z4 := free_of_blk hz 4
      obtain ⟨v4, hv4⟩ : ∃ v4, v4 = set5 v3 ((World.heap V).size) (.string St) (.int .i64 Kt) (.int .i64 lt) (.int .i64 it) (.slice At nt ct) := ⟨_, rfl⟩
      have hyv4 := over5 (u0 := .string St) (u1 := .int .i64 Kt) (u2 := .int .i64 lt) (u3 := .int .i64 it) (u4 := .slice At nt ct) hz
      have hle : W3.heap.size ≤ (World.heap V).size := HBV.out.size
      have hbz := below5 HBv3.out hle (.string St) (.int .i64 Kt) (.int .i64 lt) (.int .i64 it) (.slice At nt ct)
      rw [← hv4] at hyv4 hbz
      unfold set5 at hv4
      have HGv4 := Lib.hid hyv4
      have HBv4 := Lib.hid hbz
      go_simp
      rw [← hv4]
      clear hv4 hyv4 hbz hle hz c0z z0 c1z z1 c2z z2 c3z z3 c4z z4
      clear hHeld
      refine hK.out _ _ (HSS.out _ HBv4.out) (fun hHeld => ?_)
      clear hK
      try simp only [Act.put, List.setIfInBounds_toArray, List.set_cons_zero, List.set_cons_succ]
      refine wpAnyH_take (i := 12) (oi := ⟨some 7, _, _, _, _, _⟩) (v := ?_) rfl (by kernel_rfl) (by kernel_rfl) (by kernel_rfl) (fun _ _ _ h => h) (Or.inl ⟨by kernel_rfl, ?_⟩) (by assumption) ?_
      rotate_left 1
      focus (intro w' hSw; (try dsimp only at hSw); go_simp; (try with_reducible rfl))
      try simp only [Act.put, List.setIfInBounds_toArray, List.set_cons_zero, List.set_cons_succ]
      refine wpAnyH_done (by kernel_rfl) ?_ _
      clear hHeld
      go_wp2_with fail
      go_meet
      case rel => exact ⟨_, St, Kt, lt, it, At, nt, ct, er, rfl, rfl, HA, HGv4, HBv4⟩
  case rest =>
    obtain ⟨gf, St, Kt, lt, it, At, nt, ct, er, rfl, rfl, HWa, HGf, HB4⟩ := hcut
    rename World => W5
    have HB5 := Lib.hid (HB3.out.trans (HB4.out.mono HB3.out.size))
    clear HWk HSS
    rcases HWa.out with ⟨j, hO, hj, rfl⟩ | ⟨rfl, t, ns, E, hO, rfl, rfl, rfl, rfl, rfl, hH, hS, hA, hne⟩
    · have gj : (er != 0) = true := by rw [bne_iff_ne]; exact hj
      have HRs : Hid (Res (ansM (R.length : Int) l O k o m) (.returned (resV er 0 0 0 ⟨#[]⟩))) := Lib.hid (by rw [HAn.out, hO]; exact ⟨_, rfl, rfl⟩)
      clear hO hj HWa HAn
      have eq8 := (HB5.out.block _ (lt_of_some HXr.out)).trans HXr.out
      have HPut := Lib.hid (put8 (rb := g2) HLg2.out eq8 (HB1.out.trans (HB5.out.mono HB1.out.size)) er 0 0 0 ⟨#[]⟩)
      have y0 := cell_of_blk eq8 0
      have z0 := free_of_blk eq8 0
      have y1 := cell_of_blk eq8 1
      have z1 := free_of_blk eq8 1
      have y2 := cell_of_blk eq8 2
      have z2 := free_of_blk eq8 2
      have y3 := cell_of_blk eq8 3
      have z3 := free_of_blk eq8 3
      have y4 := cell_of_blk eq8 4
      have z4 := free_of_blk eq8 4
      have y5 := cell_of_blk eq8 5
      have z5 := free_of_blk eq8 5
      have y6 := cell_of_blk eq8 6
      have z6 := free_of_blk eq8 6
      have y7 := cell_of_blk eq8 7
      have z7 := free_of_blk eq8 7
      clear eq8
      go_wp2_with fail
      obtain ⟨p0, p1, p2, p3, p4, p5, p6, p7, HE⟩ := HPut.out _ rfl
      unfold set8 at p0 p1 p2 p3 p4 p5 p6 p7 HE
      exact bodyPost_ret (v := resV er 0 0 0 ⟨#[]⟩) (by unfold resV; simp [results, Tryz.results16, go_sem, p0, p1, p2, p3, p4, p5, p6, p7]) rfl ⟨HRs.out, HE⟩
    · have HFn : Hid (Calls Tryz.prog 22 #[.agg #[.slice A L.length c, .int .i64 ad], .agg #[.int .i64 k, .string p, .int .i64 o, .int .i64 m, .int .i64 id, .string img], .agg #[.string t.S, .int .i64 t.K, .int .i64 t.l, .int .i64 t.i, .slice At t.Q.length ct]] W5 fun e w' => Res (ansM (R.length : Int) l O k o m) e ∧ Below W5.heap.size W5 w') := Lib.hid (by
        obtain ⟨hg, hK, hk, hR, hL, hp, ho1, ho2, hm1, hm2, hO', hl, hi⟩ := HH.out
        rw [HAn.out, hO]
        exact fin_of hg hK A c ad L (HSt.out.later HB5.out) hL hH hS hA hne (hl ns E hO) hi p id img ho1 ho2 hm1 hm2 At ct)
      have es := (HB5.out.block _ (lt_of_some HXs.out)).trans HXs.out
      have eo := (HB5.out.block _ (lt_of_some HXo.out)).trans HXo.out
      have xs0 := cell_of_blk es 0
      have xs1 := cell_of_blk es 1
      have xo0 := cell_of_blk eo 0
      have xo1 := cell_of_blk eo 1
      have xo2 := cell_of_blk eo 2
      have xo3 := cell_of_blk eo 3
      have xo4 := cell_of_blk eo 4
      have xo5 := cell_of_blk eo 5
      have xt0 := cell_of_blk HGf.out 0
      have xt1 := cell_of_blk HGf.out 1
      have xt2 := cell_of_blk HGf.out 2
      have xt3 := cell_of_blk HGf.out 3
      have xt4 := cell_of_blk HGf.out 4
      clear es eo hO hH hS hA hne HWa HAn
      go_wp2_with fail
      refine HFn.out.mono ?_
      rintro e w6 ⟨⟨x, rfl, hx⟩, hb6⟩
      have HB6 := Lib.hid (HB5.out.trans (hb6.mono HB5.out.size))
      obtain ⟨⟨ae, ak, az, aw, ax⟩, ha⟩ : ∃ a, a = ansM (R.length : Int) l O k o m := ⟨_, rfl⟩
      rw [← ha] at hx ⊢
      have HXq := Lib.hid hx
      have HAe := Lib.hid ha
      clear hx ha hb6 HFn xs0 xs1 xo0 xo1 xo2 xo3 xo4 xo5 xt0 xt1 xt2 xt3 xt4
      unfold resV
      dsimp only
      have er := (HB6.out.block _ (lt_of_some HXr.out)).trans HXr.out
      have HPut := Lib.hid (put8 (rb := g2) HLg2.out er (HB1.out.trans (HB6.out.mono HB1.out.size)) ae ak az aw x)
      have y0 := cell_of_blk er 0
      have z0 := free_of_blk er 0
      have y1 := cell_of_blk er 1
      have z1 := free_of_blk er 1
      have y2 := cell_of_blk er 2
      have z2 := free_of_blk er 2
      have y3 := cell_of_blk er 3
      have z3 := free_of_blk er 3
      have y4 := cell_of_blk er 4
      have z4 := free_of_blk er 4
      have y5 := cell_of_blk er 5
      have z5 := free_of_blk er 5
      have y6 := cell_of_blk er 6
      have z6 := free_of_blk er 6
      have y7 := cell_of_blk er 7
      have z7 := free_of_blk er 7
      clear er
      go_wp2_with fail
      obtain ⟨p0, p1, p2, p3, p4, p5, p6, p7, HE⟩ := HPut.out _ rfl
      unfold set8 at p0 p1 p2 p3 p4 p5 p6 p7 HE
      exact bodyPost_ret (v := resV ae ak az aw x) (by unfold resV; simp [results, Tryz.results16, go_sem, p0, p1, p2, p3, p4, p5, p6, p7]) rfl ⟨by rw [← HAe.out]; exact ⟨x, rfl, HXq.out⟩, HE⟩
end Go.Proofs.YtkbhcncbpiimdaaGreatDoor.uni
