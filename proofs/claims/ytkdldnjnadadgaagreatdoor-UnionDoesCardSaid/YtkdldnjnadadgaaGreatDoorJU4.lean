/- In which tree a path's names stand: what the reference answers. Conditions: the trees, the names lie in memory; the trees may be. -/
import Derived.Test.YtkdldnjnadadgaaGreatDoorJU2
import Derived.Test.YtkdldnjnadadgaaGreatDoorJU1
import Derived.Deep.CutRange
import Derived.Deep.RegionHeld3
namespace Go.Proofs.YtkdldnjnadadgaaGreatDoor.uni
set_option maxRecDepth 100000
open Go.RowKit Go.Proofs.YtkdldnjnadadgaaGreatDoor.words Go.Proofs.YtkdldnjnadadgaaGreatDoor.ext Go.Proofs.YtkdldnjnadadgaaGreatDoor.name Go.Proofs.YtkdldnjnadadgaaGreatDoor.tre Go.Proofs.YtkdldnjnadadgaaGreatDoor.stk Go.Proofs.YtkdldnjnadadgaaGreatDoor.seen Go.Proofs.YtkdldnjnadadgaaGreatDoor.wlk

theorem reach_split {d : Nd} {b : List ByteArray} : ∀ {a : List ByteArray} {n : Nd}, Reach n (a ++ b) d → ∃ m, Reach n a m ∧ Reach m b d
  | [], n, h => ⟨n, rfl, h⟩
  | p :: a, n, ⟨h1, x, h2, h3⟩ => by
    obtain ⟨m, g1, g2⟩ := reach_split (n := x) h3
    exact ⟨m, ⟨h1, x, h2, g1⟩, g2⟩
theorem reach_all : ∀ {ns : List ByteArray} {n d : Nd}, allB n = true → Reach n ns d → allB d = true
  | [], n, d, hn, h => by
    have e : d = n := h
    rw [e]; exact hn
  | p :: ns, n, d, hn, ⟨_, x, h2, h3⟩ => reach_all (has_all hn h2) h3
/-- Going down along names: what stands in the box. -/
def Down (w : World) (g : Nat) (t : Nd) (ns : List ByteArray) (i : Nat) (b : Bool) (wi : World) : Prop :=
  ∃ (d : Nd) (r : Raw), Box wi g d r ∧ NdAt w w.heap.size d r ∧ (b = true → Reach t (ns.take i) d) ∧ (b = false → ∀ d', ¬ Reach t ns d') ∧ Below w.heap.size w wi
/-- Where Find has found a name. -/
def FndAt (N : List ByteArray) (p : ByteArray) (at_ : Int) : Prop := (∃ i : Nat, at_ = (i : Int) ∧ N[i]? = some p) ∨ (at_ = -1 ∧ ∀ j : Nat, N[j]? ≠ some p)
theorem not_down {t d : Nd} {ns : List ByteArray} {i : Nat} {p : ByteArray} (ht : allB t = true) (hp : ns[i]? = some p) (h : Reach t (ns.take i) d) (hno : d.K ≠ 2 ∨ ∀ j : Nat, d.N[j]? ≠ some p) : ∀ d', ¬ Reach t ns d' := fun d' hr => by
  obtain ⟨hil, hpe⟩ := List.getElem?_eq_some_iff.1 hp
  have e : ns = ns.take i ++ p :: ns.drop (i + 1) := by
    rw [← hpe, ← List.drop_eq_getElem_cons hil, List.take_append_drop]
  rw [e] at hr
  obtain ⟨m, h1, h2, x, h3, _⟩ := reach_split (n := t) hr
  obtain rfl := reach_uniq ht h h1
  rcases hno with h4 | h4
  · exact h4 h2
  · rcases h3 with ⟨j, y, g1, _, _⟩ | ⟨g1, _⟩
    · exact h4 j g1
    · cases g1
theorem down_next {t d y : Nd} {ns : List ByteArray} {i j : Nat} {p : ByteArray} (hp : ns[i]? = some p) (h : Reach t (ns.take i) d) (hk : d.K = 2) (hj : d.N[j]? = some p) (hy : d.I[j]? = some y) : Reach t (ns.take (i + 1)) y := by
  obtain ⟨hil, hpe⟩ := List.getElem?_eq_some_iff.1 hp
  rw [List.take_succ_eq_append_getElem hil, hpe]
  exact h.snoc hk (.inl ⟨j, y, hj, hy, rfl⟩)
set_option maxHeartbeats 12800000 in
theorem level_any {R : List Nd} (hg : ∀ t ∈ R, allB t = true) (hR : R.length ≤ 64) (A : Option Addr) (c : Nat) (rs : Nat → Raw) (An : Option Addr) (cn : Nat) (ns : List ByteArray) (w : World) (hT : Trees w w.heap.size A R rs) (hN : heap.Row w w.heap.size An ns) (hn : ns.length ≤ 100000) :
    Calls Tryz.prog 85 #[.slice A R.length c, .slice An ns.length cn] w fun e w' => (∃ z : Int, e = .returned (.int .i64 z) ∧ LevI R ns z) ∧ Below w.heap.size w w' := by
  have HT := Lib.hid hT
  have HN := Lib.hid hN
  have HG := Lib.hid hg
  have H0 : Hid (∀ (q : Nat) t d, q < 0 → R[q]? = some t → ¬ Reach t ns d) := Lib.hid fun q t d h => by omega
  clear hT hN hg
  go_enter Tryz.func85, Tryz.ntmps85
  go_wp2_with fail
  go_loopw [5] (fun v wr => ∃ j : Nat, j ≤ R.length ∧ v = .int .i64 (j : Int) ∧ Hid (∀ (q : Nat) t d, q < j → R[q]? = some t → ¬ Reach t ns d) ∧ Hid (Below w.heap.size w wr)) (fun v _ => R.length - (intOf v).toNat)
  case atStart => exact ⟨0, Nat.zero_le _, rfl, H0, Lib.hid (Below.refl _ _)⟩
  case round =>
    clear H0
    obtain ⟨j, hj, rfl, HQ, HB⟩ := hrel
    by_cases hlt : j < R.length
    · obtain ⟨t, ht⟩ : ∃ t, R[j]? = some t := ⟨_, List.getElem?_eq_getElem hlt⟩
      obtain ⟨⟨b, off, hA, hb, hc⟩, hNt⟩ := HT.out j t ht
      subst hA
      obtain ⟨rt, hrt⟩ : ∃ rt, rt = rs j := ⟨_, rfl⟩
      rw [← hrt] at hc hNt
      clear hrt
      have i0 : (0 : Int) ≤ (j : Int) := by omega
      have i1 : (j : Int) < (R.length : Int) := by omega
      have kc : ∀ (q : Nat) (v : Value), (rawCells t rt)[q]? = some v → wr.cell? ⟨b, off + j * 7 + q, none⟩ = some v := fun q v hv => (HB.out.cell (p := ⟨b, off + j * 7 + q, none⟩) hb).trans (hc q v hv)
      have q0 : wr.cell? ⟨b, off + j * 7, none⟩ = some (.int .i64 t.K) := kc 0 _ rfl
      have q1 : wr.cell? ⟨b, off + j * 7 + 1, none⟩ = some (.bool t.O) := kc 1 _ rfl
      have q2 : wr.cell? ⟨b, off + j * 7 + 2, none⟩ = some (.slice rt.An t.N.length rt.cn) := kc 2 _ rfl
      have q3 : wr.cell? ⟨b, off + j * 7 + 3, none⟩ = some (.slice rt.Ai t.I.length rt.ci) := kc 3 _ rfl
      have q4 : wr.cell? ⟨b, off + j * 7 + 4, none⟩ = some (.int .i64 t.S) := kc 4 _ rfl
      have q5 : wr.cell? ⟨b, off + j * 7 + 5, none⟩ = some (.slice rt.Ae t.E.length rt.ce) := kc 5 _ rfl
      have q6 : wr.cell? ⟨b, off + j * 7 + 6, none⟩ = some (.string t.T) := kc 6 _ rfl
      obtain ⟨g, hgg⟩ : ∃ g, g = wr.heap.size := ⟨_, rfl⟩
      obtain ⟨W2, hW2⟩ : ∃ W2, W2 = wr.alloc (.cells #[.int .i64 t.K, .bool t.O, .slice rt.An t.N.length rt.cn, .slice rt.Ai t.I.length rt.ci, .int .i64 t.S, .slice rt.Ae t.E.length rt.ce, .string t.T] 125) := ⟨_, rfl⟩
      have hb2 : Below wr.heap.size wr W2 := by rw [hW2]; exact (Below.refl _ _).alloc (Nat.le_refl _) _
      have hbx : Box W2 g t rt := by rw [hW2, hgg]; exact Box.new wr t rt
      have HGl : Hid (w.heap.size ≤ g) := Lib.hid (by rw [hgg]; exact HB.out.size)
      have HDn : Hid (Down w g t ns 0 true W2) := Lib.hid ⟨t, rt, hbx, hNt, fun _ => rfl, fun h => (by cases h), HB.out.trans (hb2.mono HB.out.size)⟩
      have HTt := Lib.hid ht
      have HWe := Lib.hid hW2.symm
      have HGe := Lib.hid hgg.symm
      have HAt := Lib.hid (HG.out t (List.mem_of_getElem? ht))
      clear hc hNt kc hW2 hb2 hbx hgg ht hb HB
      go_upto_region 6 with fail
      rw [HWe.out]
      simp only [HGe.out]
      clear HWe HGe q0 q1 q2 q3 q4 q5 q6 i0 i1
      go_wp2_with fail
      go_loopw [7, 8] (fun v7 v8 wi => ∃ (i : Nat) (b : Bool), i ≤ ns.length ∧ v8 = .int .i64 (i : Int) ∧ v7 = .bool b ∧ Hid (Down w g t ns i b wi)) (fun _ v _ => ns.length - (intOf v).toNat)
      case atStart => exact ⟨0, true, Nat.zero_le _, rfl, rfl, HDn⟩
      case round =>
        clear HDn
        obtain ⟨i, b, hi, rfl, rfl, HD⟩ := hrel
        rcases b with _ | _
        · have HQ2 : Hid (∀ (q : Nat) t d, q < j + 1 → R[q]? = some t → ¬ Reach t ns d) := Lib.hid fun q t' d hq ht' => by
            rcases Nat.lt_succ_iff_lt_or_eq.1 hq with h | rfl
            · exact HQ.out q t' d h ht'
            · rw [HTt.out] at ht'
              injection ht' with ht'
              subst ht'
              obtain ⟨_, _, _, _, _, h, _⟩ := HD.out
              exact h rfl d
          have HB2 : Hid (Below w.heap.size w wr) := Lib.hid (by obtain ⟨_, _, _, _, _, _, h⟩ := HD.out; exact h)
          clear HD HQ
          by_cases hil : (i : Int) < (ns.length : Int)
          · go_wp2_with fail
            go_roundw
            case rel => exact ⟨j + 1, hlt, by push_cast; rfl, HQ2, HB2⟩
            case measure => simp [intOf]; omega
          · go_wp2_with fail
            go_roundw
            case rel => exact ⟨j + 1, hlt, by push_cast; rfl, HQ2, HB2⟩
            case measure => simp [intOf]; omega
        · by_cases hil : i < ns.length
          · obtain ⟨d, r, hbx, hNd, hre, _, hbw⟩ := HD.out
            obtain ⟨p, hp⟩ : ∃ p, ns[i]? = some p := ⟨_, List.getElem?_eq_getElem hil⟩
            obtain ⟨bn, on, hAn, hbn, hcn⟩ := HN.out i p hp
            subst hAn
            have j0 : (0 : Int) ≤ (i : Int) := by omega
            have j1 : (i : Int) < (ns.length : Int) := by omega
            have hSS : ∀ w' : World, Below wr.heap.size wr w' → (w'.cell? ⟨g, 0, none⟩ = some (.int .i64 d.K) ∧ w'.cell? ⟨g, 1, none⟩ = some (.bool d.O) ∧ w'.cell? ⟨g, 2, none⟩ = some (.slice r.An d.N.length r.cn) ∧ w'.cell? ⟨g, 3, none⟩ = some (.slice r.Ai d.I.length r.ci) ∧ w'.cell? ⟨g, 4, none⟩ = some (.int .i64 d.S) ∧ w'.cell? ⟨g, 5, none⟩ = some (.slice r.Ae d.E.length r.ce) ∧ w'.cell? ⟨g, 6, none⟩ = some (.string d.T) ∧ w'.cell? ⟨bn, on + i, none⟩ = some (.string p) ∧ Below wr.heap.size wr w') := fun w' hb => by
              obtain ⟨c0, c1, c2, c3, c4, c5, c6⟩ := (hbx.below hb).cells
              exact ⟨c0, c1, c2, c3, c4, c5, c6, ((hbw.trans (hb.mono hbw.size)).cell (p := ⟨bn, on + i, none⟩) hbn).trans hcn, hb⟩
            have HSS := Lib.hid hSS
            have HFd : Hid (∀ w' : World, Below wr.heap.size wr w' → Calls Tryz.prog 143 #[.agg #[.int .i64 d.K, .bool d.O, .slice r.An d.N.length r.cn, .slice r.Ai d.I.length r.ci, .int .i64 d.S, .slice r.Ae d.E.length r.ce, .string d.T], .string p] w' fun e w'' => (∃ at_ : Int, e = .returned (.int .i64 at_) ∧ FndAt d.N p at_) ∧ Below wr.heap.size wr w'') := Lib.hid fun w' hb => by
              have hbb := hbw.trans (hb.mono hbw.size)
              have h1 := reffind_any d r p w' ((hNd.keep hbb).more hbb.size)
              unfold ndV rawCells at h1
              refine h1.mono fun e w'' ⟨h2, h3⟩ => ⟨?_, hb.trans (h3.mono hb.size)⟩
              rcases h2 with ⟨q, rfl, hq⟩ | ⟨rfl, hq⟩
              · exact ⟨_, rfl, .inl ⟨q, rfl, hq⟩⟩
              · exact ⟨_, rfl, .inr ⟨rfl, hq⟩⟩
            have HBv : Hid (Below wr.heap.size wr wr.drew) := Lib.hid (Below.refl _ _).drew
            have HP := Lib.hid hp
            have HRe := Lib.hid (hre rfl)
            have HNd := Lib.hid hNd
            have HBx := Lib.hid hbx
            have HBw := Lib.hid hbw
            clear hSS hbx hNd hre hbw hp hbn hcn HD
            go_upto_region 9 with fail
            refine wp_region_held_drew (S := fun w' => (w'.cell? ⟨g, 0, none⟩ = some (.int .i64 d.K) ∧ w'.cell? ⟨g, 1, none⟩ = some (.bool d.O) ∧ w'.cell? ⟨g, 2, none⟩ = some (.slice r.An d.N.length r.cn) ∧ w'.cell? ⟨g, 3, none⟩ = some (.slice r.Ai d.I.length r.ci) ∧ w'.cell? ⟨g, 4, none⟩ = some (.int .i64 d.S) ∧ w'.cell? ⟨g, 5, none⟩ = some (.slice r.Ae d.E.length r.ce) ∧ w'.cell? ⟨g, 6, none⟩ = some (.string d.T) ∧ w'.cell? ⟨bn, on + i, none⟩ = some (.string p) ∧ Below wr.heap.size wr w')) (by kernel_rfl) (HSS.out _ HBv.out) (fun hHeld => ?_)
            refine wpAnyH_take (i := 0) (oi := ⟨some 29, _, _, _, _, _⟩) (v := ?_) rfl (by kernel_rfl) (by kernel_rfl) (by kernel_rfl) (fun _ _ _ h => h) (Or.inl ⟨by kernel_rfl, ?_⟩) (by assumption) ?_
            rotate_left 1
            focus (intro w' hSw; (try dsimp only at hSw); go_simp; (try with_reducible rfl))
            try simp only [Act.put, List.setIfInBounds_toArray, List.set_cons_zero, List.set_cons_succ]
            refine wpAnyH_take (i := 1) (oi := ⟨some 30, _, _, _, _, _⟩) (v := ?_) rfl (by kernel_rfl) (by kernel_rfl) (by kernel_rfl) (fun _ _ _ h => h) (Or.inl ⟨by kernel_rfl, ?_⟩) (by assumption) ?_
            rotate_left 1
            focus (intro w' hSw; (try dsimp only at hSw); go_simp; (try with_reducible rfl))
            try simp only [Act.put, List.setIfInBounds_toArray, List.set_cons_zero, List.set_cons_succ]
            refine wpAnyH_take (i := 2) (oi := ⟨some 31, _, _, _, _, _⟩) (v := ?_) rfl (by kernel_rfl) (by kernel_rfl) (by kernel_rfl) (fun _ _ _ h => h) (Or.inl ⟨by kernel_rfl, ?_⟩) (by assumption) ?_
            rotate_left 1
            focus (intro w' hSw; (try dsimp only at hSw); go_simp; (try with_reducible rfl))
            try simp only [Act.put, List.setIfInBounds_toArray, List.set_cons_zero, List.set_cons_succ]
            refine wpAnyH_take (i := 3) (oi := ⟨some 32, _, _, _, _, _⟩) (v := ?_) rfl (by kernel_rfl) (by kernel_rfl) (by kernel_rfl) (fun _ _ _ h => h) (Or.inl ⟨by kernel_rfl, ?_⟩) (by assumption) ?_
            rotate_left 1
            focus (intro w' hSw; (try dsimp only at hSw); go_simp; (try with_reducible rfl))
            try simp only [Act.put, List.setIfInBounds_toArray, List.set_cons_zero, List.set_cons_succ]
            refine wpAnyH_take (i := 4) (oi := ⟨some 33, _, _, _, _, _⟩) (v := ?_) rfl (by kernel_rfl) (by kernel_rfl) (by kernel_rfl) (fun _ _ _ h => h) (Or.inl ⟨by kernel_rfl, ?_⟩) (by assumption) ?_
            rotate_left 1
            focus (intro w' hSw; (try dsimp only at hSw); go_simp; (try with_reducible rfl))
            try simp only [Act.put, List.setIfInBounds_toArray, List.set_cons_zero, List.set_cons_succ]
            refine wpAnyH_ready (rs := [5]) (by kernel_rfl) (by simp) ?_
            refine AllReadyH.cons rfl (fun K hK => ?_) AllReadyH.nil
            go_simp
            go_at_call 143
            refine (HFd.out _ HBv.out).mono ?_
            rintro en w2 ⟨⟨at_, rfl, hfa⟩, hv2⟩
            clear hHeld
            refine hK.out _ _ (HSS.out _ hv2) (fun hHeld => ?_)
            clear hK
            refine wpAnyH_take (i := 6) (oi := ⟨some 9, _, _, _, _, _⟩) (v := ?_) rfl (by kernel_rfl) (by kernel_rfl) (by kernel_rfl) (fun _ _ _ h => h) (Or.inl ⟨by kernel_rfl, ?_⟩) (by assumption) ?_
            rotate_left 1
            focus (intro w' hSw; (try dsimp only at hSw); go_simp; (try with_reducible rfl))
            try simp only [Act.put, List.setIfInBounds_toArray, List.set_cons_zero, List.set_cons_succ]
            refine wpAnyH_done (by kernel_rfl) ?_ _
            have hB2 := HBw.out.trans (hv2.mono HBw.out.size)
            have HB2 := Lib.hid hB2
            have hbx2 := HBx.out.below hv2
            obtain ⟨c0, c1, c2, c3, c4, c5, c6⟩ := hbx2.cells
            have HX2 := Lib.hid hbx2
            have HFa := Lib.hid hfa
            clear hHeld hv2 hB2 hbx2 hfa HFd HSS HBv j0 j1
            by_cases hK : d.K = 2
            · have gK : (d.K == 2) = true := by rw [hK]; rfl
              rcases HFa.out with ⟨q, rfl, hq⟩ | ⟨rfl, hq⟩
              · have hln := (one_right (allB_one (reach_all HAt.out HRe.out))).2.1
                obtain ⟨y, hy⟩ : ∃ y, d.I[q]? = some y := ⟨_, List.getElem?_eq_getElem (by rw [← hln]; exact (List.getElem?_eq_some_iff.1 hq).1)⟩
                have hql := (List.getElem?_eq_some_iff.1 hy).1
                obtain ⟨ry, hNy, b2, off2, hAi, _, y0, y1, y2, y3, y4, y5, y6⟩ := HNd.out.entry hy HB2.out
                have j0 : (0 : Int) ≤ (q : Int) := by omega
                have j1 : (q : Int) < (d.I.length : Int) := by omega
                rw [hAi] at c3
                have HNx : Hid (Down w g t ns (i + 1) true (w2.setCells g 0 (rawCells y ry).toList)) := Lib.hid ⟨y, ry, HX2.out.over, hNy, fun _ => down_next HP.out HRe.out hK hq hy, fun h => (by cases h), below_setCells HGl.out _ 0 w2 HB2.out⟩
                have zz := HX2.out
                unfold Box rawCells at zz
                have z0 := free_of_blk zz 0
                have z1 := free_of_blk zz 1
                have z2 := free_of_blk zz 2
                have z3 := free_of_blk zz 3
                have z4 := free_of_blk zz 4
                have z5 := free_of_blk zz 5
                have z6 := free_of_blk zz 6
                clear zz hln hy hNy hAi hq HFa hK HX2 HBx HNd hql
                go_wp2_with fail
                go_roundw
                case rel => exact ⟨i + 1, true, hil, by push_cast; rfl, rfl, HNx⟩
                case measure => simp [intOf]; omega
              · have HNx : Hid (Down w g t ns (i + 1) false w2) := Lib.hid ⟨d, r, HX2.out, HNd.out, fun h => (by cases h), fun _ => not_down HAt.out HP.out HRe.out (.inr hq), HB2.out⟩
                clear hq HFa hK HX2 HBx HNd
                go_wp2_with fail
                go_roundw
                case rel => exact ⟨i + 1, false, hil, by push_cast; rfl, rfl, HNx⟩
                case measure => simp [intOf]; omega
            · have gK : (d.K == 2) = false := by rw [beq_eq_false_iff_ne]; exact hK
              have HNx : Hid (Down w g t ns (i + 1) false w2) := Lib.hid ⟨d, r, HX2.out, HNd.out, fun h => (by cases h), fun _ => not_down HAt.out HP.out HRe.out (.inl hK), HB2.out⟩
              clear HFa hK HX2 HBx HNd
              go_wp2_with fail
              go_roundw
              case rel => exact ⟨i + 1, false, hil, by push_cast; rfl, rfl, HNx⟩
              case measure => simp [intOf]; omega
          · obtain rfl : i = ns.length := by omega
            have HF : Hid ((∃ z : Int, Ending.returned (.int .i64 (j : Int)) = .returned (.int .i64 z) ∧ LevI R ns z) ∧ Below w.heap.size w wr) := Lib.hid (by
              obtain ⟨d, _, _, _, h, _, hbw⟩ := HD.out
              have h := h rfl
              rw [List.take_length] at h
              exact ⟨⟨_, rfl, .inl ⟨j, rfl, ⟨t, d, HTt.out, h⟩, fun q hq t' d' => HQ.out q t' d' hq⟩⟩, hbw⟩)
            clear HD HQ
            go_wp2_with fail
            go_ret
            exact HF.out
    · obtain rfl : j = R.length := by omega
      have HF : Hid ((∃ z : Int, Ending.returned (.int .i64 (-1)) = .returned (.int .i64 z) ∧ LevI R ns z) ∧ Below w.heap.size w wr) := Lib.hid ⟨⟨-1, rfl, .inr ⟨rfl, fun q t d ht => HQ.out q t d (List.getElem?_eq_some_iff.1 ht).1 ht⟩⟩, HB.out⟩
      clear HQ HB
      go_wp2_with fail
      go_ret
      exact HF.out
end Go.Proofs.YtkdldnjnadadgaaGreatDoor.uni
