/- The law of stack.Of: of any trees the stack, or why there is none; so many directories make one, or too many. Conditions: the trees lie in memory; the library's MaxLen holds a number. -/
import Derived.Test.YtniklphdnakehaaDoorStkSpeaks
namespace Go.Proofs.YtniklphdnakehaaDoor.stk
set_option maxRecDepth 100000
open Go.RowKit Go.Proofs.YtniklphdnakehaaDoor.words Go.Proofs.YtniklphdnakehaaDoor.ext Go.Proofs.YtniklphdnakehaaDoor.name Go.Proofs.YtniklphdnakehaaDoor.tre

def wantI (T : List Nd) : Int := if T.all treeB = true then 0 else 1
theorem wantI_next {T : List Nd} {k : Nat} {t : Nd} (ht : T[k]? = some t) : wantI (T.take (k + 1)) = if treeB t = true then wantI (T.take k) else 1 := by
  obtain ⟨hk, rfl⟩ := List.getElem?_eq_some_iff.1 ht
  unfold wantI
  rw [List.take_succ_eq_append_getElem hk, List.all_append]
  rcases h : treeB T[k] with _ | _ <;> simp [h]
theorem wantI_yes {T : List Nd} (h : ∀ t ∈ T, treeB t = true) : wantI T = 0 := by
  unfold wantI
  rw [if_pos (List.all_eq_true.2 h)]
theorem wantI_no {T : List Nd} (h : ∃ t ∈ T, treeB t = false) : wantI T = 1 := by
  unfold wantI
  rw [if_neg]
  intro hc
  obtain ⟨t, ht, hf⟩ := h
  rw [List.all_eq_true.1 hc t ht] at hf
  cases hf
set_option maxHeartbeats 25600000 in
theorem law_of (A : Option Addr) (c : Nat) (T : List Nd) (rs : Nat → Raw) (x : Int) (m : Int) (w : World) (hT : Trees w w.heap.size A T rs) (hm : w.cell? ⟨0, 0, none⟩ = some (.int .i64 m)) (hx0 : 0 ≤ x) (hx1 : x ≤ 255) (hlm : T.length ≤ 140737488355328) :
    Calls Tryd.prog 6 #[.slice A T.length c, .int .u8 x] w fun e w' => e = .returned (.bool true) ∧ Below w.heap.size w w' := by
  have HT := Lib.hid hT
  have HM := Lib.hid hm
  clear hT hm
  go_enter Tryd.func6, Tryd.ntmps6
  go_wp2_with fail
  refine (sspeaks_any m w HM.out).mono ?_
  rintro e w1 ⟨rfl, hb1⟩
  have HB1 := Lib.hid hb1
  clear hb1
  by_cases hn : 20 < T.length
  · have g : (20 : Int) < (T.length : Int) := by omega
    go_wp2_with fail
    go_ret
    exact ⟨rfl, HB1.out⟩
  · have g : ¬ (20 : Int) < (T.length : Int) := by omega
    go_wp2_with fail
    go_loopw [23, 5] (fun v v5 wr => ∃ k : Nat, v = .int .i64 (k : Int) ∧ k ≤ T.length ∧ v5 = .int .i64 (wantI (T.take k)) ∧ Hid (∀ t ∈ T.take k, smallB t = true) ∧ Hid (Below w.heap.size w wr)) (fun v _ _ => T.length - (intOf v).toNat)
    case atStart => exact ⟨0, rfl, Nat.zero_le _, by simp [wantI], Lib.hid (fun t ht => by simp at ht), HB1⟩
    case round =>
      obtain ⟨k, rfl, hk, rfl, HSm, HB⟩ := hrel
      by_cases hlt : k < T.length
      · obtain ⟨t, ht⟩ : ∃ t, T[k]? = some t := ⟨_, List.getElem?_eq_getElem hlt⟩
        obtain ⟨⟨b, off, hA, hb, hcl⟩, hN⟩ := (HT.out.keep HB.out) k t ht
        obtain ⟨rx, hrx⟩ : ∃ rx, rx = rs k := ⟨_, rfl⟩
        rw [← hrx] at hcl hN
        subst hA
        have c0 : wr.cell? ⟨b, off + k * 7, none⟩ = some (.int .i64 t.K) := hcl 0 _ rfl
        have c1' : wr.cell? ⟨b, off + k * 7 + 1, none⟩ = some (.bool t.O) := hcl 1 _ rfl
        have c2 : wr.cell? ⟨b, off + k * 7 + 2, none⟩ = some (.slice rx.An t.N.length rx.cn) := hcl 2 _ rfl
        have c3 : wr.cell? ⟨b, off + k * 7 + 3, none⟩ = some (.slice rx.Ai t.I.length rx.ci) := hcl 3 _ rfl
        have c4 : wr.cell? ⟨b, off + k * 7 + 4, none⟩ = some (.int .i64 t.S) := hcl 4 _ rfl
        have c5 : wr.cell? ⟨b, off + k * 7 + 5, none⟩ = some (.slice rx.Ae t.E.length rx.ce) := hcl 5 _ rfl
        have c6 : wr.cell? ⟨b, off + k * 7 + 6, none⟩ = some (.string t.T) := hcl 6 _ rfl
        have i0 : (0 : Int) ≤ (k : Int) := by omega
        have i1 : (k : Int) < (T.length : Int) := by omega
        obtain ⟨W2, hW2⟩ : ∃ W2, W2 = wr.alloc (.cells (rawCells t rx) 27) := ⟨_, rfl⟩
        have hb2 : Below wr.heap.size wr W2 := by rw [hW2]; exact (Below.refl _ _).alloc (Nat.le_refl _) _
        have hx2 : Box W2 wr.heap.size t rx := by rw [hW2]; exact Box.new wr t rx
        have HN2 := Lib.hid ((hN.more HB.out.size).later hb2)
        have HX2 := Lib.hid hx2
        have HB2 := Lib.hid (HB.out.trans (hb2.mono HB.out.size))
        have HTm := Lib.hid hN.tame
        have Ht := Lib.hid ht
        have HWn := Lib.hid (wantI_next ht)
        unfold rawCells at hW2
        have HW2 := Lib.hid hW2
        clear hcl hN hb2 hx2 ht hW2 hrx
        go_upto_region 9 with fail
        rw [← HW2.out]
        clear c0 c1' c2 c3 c4 c5 c6
        obtain ⟨b0, b1, b2, b3, b4, b5, b6⟩ := HX2.out.cells
        rcases hsm : smallB t with _ | _
        · have hs := small_is 0 t rx W2 HN2.out (by rw [hsm]; rfl)
          unfold ndV rawCells at hs
          have HS := Lib.hid hs
          clear hs hsm
          go_wp2_with fail
          refine HS.out.mono ?_
          rintro e w3 ⟨rfl, hb3⟩
          have HB3 := Lib.hid (HB2.out.trans (hb3.mono HB2.out.size))
          clear hb3 HS
          go_wp2_with fail
          go_ret
          exact ⟨rfl, HB3.out⟩
        · have hs := small_is 1 t rx W2 HN2.out (by rw [hsm]; rfl)
          unfold ndV rawCells at hs
          have HS := Lib.hid hs
          have Hsm := Lib.hid hsm
          clear hs hsm
          go_wp2_with fail
          refine HS.out.mono ?_
          rintro e w3 ⟨rfl, hb3⟩
          have HX3 := Lib.hid (HX2.out.below hb3)
          have hdp := smallB_depth Hsm.out
          have hR := refright_node t rx w3 (HN2.out.later hb3) (by omega)
          rw [← tree_same Hsm.out HTm.out] at hR
          unfold ndV rawCells at hR
          have HB3 := Lib.hid (HB2.out.trans (hb3.mono HB2.out.size))
          have HSm' : Hid (∀ s ∈ T.take (k + 1), smallB s = true) := Lib.hid fun s hs => by
            obtain ⟨hk', htt⟩ := List.getElem?_eq_some_iff.1 Ht.out
            rw [List.take_succ_eq_append_getElem hk', htt] at hs
            rcases List.mem_append.1 hs with hs | hs
            · exact HSm.out s hs
            · obtain rfl : s = t := by simpa using hs
              exact Hsm.out
          clear b0 b1 b2 b3 b4 b5 b6
          obtain ⟨b0, b1, b2, b3, b4, b5, b6⟩ := HX3.out.cells
          have HR := Lib.hid hR
          clear hb3 hR HS
          rcases htr : treeB t with _ | _
          · rw [htr] at HR HWn
            have HWn' := Lib.hid (show wantI (T.take (k + 1)) = 1 by rw [HWn.out]; rfl)
            clear htr
            go_wp2_with fail
            refine HR.out.mono ?_
            rintro e w4 ⟨rfl, hb4⟩
            have HB4 := Lib.hid (HB3.out.trans (hb4.mono HB3.out.size))
            clear hb4 HR
            go_wp2_with fail
            go_roundw
            case rel => exact ⟨k + 1, by go_num, by omega, by rw [HWn'.out], HSm', HB4⟩
            case measure => simp [intOf]; omega
          · rw [htr] at HR HWn
            have HWn' := Lib.hid (show wantI (T.take (k + 1)) = wantI (T.take k) by rw [HWn.out]; rfl)
            clear htr
            go_wp2_with fail
            refine HR.out.mono ?_
            rintro e w4 ⟨rfl, hb4⟩
            have HB4 := Lib.hid (HB3.out.trans (hb4.mono HB3.out.size))
            clear hb4 HR
            go_wp2_with fail
            go_roundw
            case rel => exact ⟨k + 1, by go_num, by omega, by rw [HWn'.out], HSm', HB4⟩
            case measure => simp [intOf]; omega
      · obtain rfl : k = T.length := by omega
        rename World => wo
        have hsm := HSm.out
        rw [List.take_length] at hsm
        have hTo := HT.out.later HB.out
        have hok : ∀ t ∈ T, treeB t = true → Okay t := fun t ht hr => by
          obtain ⟨i, hi⟩ := List.mem_iff_getElem?.1 ht
          exact okay_of (hsm t ht) (HT.out i t hi).2.tame hr
        have hC := of_any A c T rs m wo hTo (below_cell HM.out HB.out) (fun t ht => ⟨by have := smallB_depth (hsm t ht); omega, fun hr => ⟨(hok t ht hr).cc, by have := (hok t ht hr).cnt; omega⟩⟩) (by omega)
        have HC := Lib.hid hC
        have HTo := Lib.hid hTo
        have HOk := Lib.hid hok
        have HDp := Lib.hid (fun t ht => smallB_depth (hsm t ht))
        rw [show T.take T.length = T from List.take_length ..]
        clear hsm hTo hok hC HSm
        go_wp2_with fail
        refine HC.out.mono ?_
        rintro e w2 hof
        rcases hof with ⟨A2, c2, L, rfl, hk2, hall, h64, hb2⟩ | ⟨er, rfl, hbad, hb2⟩
        · have hw := wantI_yes hall
          rw [hw]
          clear hw
          obtain ⟨W3, hW3⟩ : ∃ W3, W3 = w2.alloc (.cells #[.slice A2 T.length c2, .int .i64 (T.length : Int)] 54) := ⟨_, rfl⟩
          have hb3 : Below w2.heap.size w2 W3 := by rw [hW3]; exact (Below.refl _ _).alloc (Nat.le_refl _) _
          have hk3 : W3.heap[w2.heap.size]? = some (.cells #[.slice A2 T.length c2, .int .i64 (T.length : Int)] 54 (0, 0)) := by rw [hW3]; exact heap_alloc_new w2 _
          have HB3 := Lib.hid ((HB.out.trans (hb2.mono HB.out.size)).trans (hb3.mono (HB.out.trans (hb2.mono HB.out.size)).size))
          have HK3 := Lib.hid hk3
          have HW3 := Lib.hid hW3
          have HOs := Lib.hid (hk2.later hb3)
          have HTo3 := Lib.hid (HTo.out.later (hb2.trans (hb3.mono hb2.size)))
          have gne : ((T.length : Int) != (T.length : Int)) = false := by simp
          have s0 : W3.cell? ⟨w2.heap.size, 0, none⟩ = some (.slice A2 T.length c2) := cell_of_blk hk3 0
          have s1 : W3.cell? ⟨w2.heap.size, 1, none⟩ = some (.int .i64 (T.length : Int)) := cell_of_blk hk3 1
          have HC1 := Lib.hid (show Calls Tryd.prog 33 #[.agg #[.slice A2 T.length c2, .int .i64 (T.length : Int)]] W3 fun e w' => e = .returned (.int .i64 (T.length : Int)) ∧ Below W3.heap.size W3 w' from slen_any A2 T.length c2 (T.length : Int) W3)
          clear hb2 hb3 hk3 hW3 hk2 HC HB
          unfold stkV
          go_upto_region 15 with fail
          rw [← HW3.out]
          go_wp2_with fail
          refine HC1.out.mono ?_
          rintro e w4 ⟨rfl, hb4⟩
          have s0 : w4.cell? ⟨w2.heap.size, 0, none⟩ = some (.slice A2 T.length c2) := cell_of_blk ((hb4.block _ (lt_of_some HK3.out)).trans HK3.out) 0
          have s1 : w4.cell? ⟨w2.heap.size, 1, none⟩ = some (.int .i64 (T.length : Int)) := cell_of_blk ((hb4.block _ (lt_of_some HK3.out)).trans HK3.out) 1
          have HB4 := Lib.hid hb4
          have HC2 := Lib.hid (show Calls Tryd.prog 33 #[.agg #[.slice A2 T.length c2, .int .i64 (T.length : Int)]] w4 fun e w' => e = .returned (.int .i64 (T.length : Int)) ∧ Below w4.heap.size w4 w' from slen_any A2 T.length c2 (T.length : Int) w4)
          clear hb4 HC1 HW3
          go_wp2_with fail
          refine HC2.out.mono ?_
          rintro e w5 ⟨rfl, hb5⟩
          have HB5 := Lib.hid (HB4.out.trans (hb5.mono HB4.out.size))
          clear hb5 HC2 HB4 s0 s1 gne
          go_wp2_with fail
          go_loopw [64] (fun v wr => ∃ k : Nat, v = .int .i64 (k : Int) ∧ k ≤ T.length ∧ Hid (Below W3.heap.size W3 wr)) (fun v _ => T.length - (intOf v).toNat)
          case atStart => exact ⟨0, rfl, Nat.zero_le _, HB5⟩
          case round =>
            obtain ⟨k, rfl, hk, HBr⟩ := hrel
            by_cases hlt2 : k < T.length
            · obtain ⟨x0, hx0'⟩ : ∃ x0, L[k]? = some x0 := ⟨_, List.getElem?_eq_getElem (by rw [HOs.out.len]; exact hlt2)⟩
              obtain ⟨q1, t, q2, q3⟩ := HOs.out.brs k x0 hx0'
              obtain ⟨j, hj⟩ : ∃ j, j = T.length - 1 - k := ⟨_, rfl⟩
              rw [← hj] at q2
              have hjn : j < T.length := by omega
              have hx2 : x0.2 = (j : Int) := by omega
              have s0 : wr.cell? ⟨w2.heap.size, 0, none⟩ = some (.slice A2 T.length c2) := cell_of_blk ((HBr.out.block _ (lt_of_some HK3.out)).trans HK3.out) 0
              have s1 : wr.cell? ⟨w2.heap.size, 1, none⟩ = some (.int .i64 (T.length : Int)) := cell_of_blk ((HBr.out.block _ (lt_of_some HK3.out)).trans HK3.out) 1
              have HA := Lib.hid (show Calls Tryd.prog 34 #[.agg #[.slice A2 T.length c2, .int .i64 (T.length : Int)], .int .i64 (k : Int)] wr fun e w' => e = .returned (.pointer (some ⟨x0.1, 0, none⟩)) ∧ Below wr.heap.size wr w' from sat_yes A2 T.length c2 k (T.length : Int) L x0 wr (HOs.out.later HBr.out).slc.rows HOs.out.len hx0')
              have HX := Lib.hid hx0'
              have HQ2 := Lib.hid q2
              have HQ3 := Lib.hid q3
              have HX2 := Lib.hid hx2
              have HJ := Lib.hid hj
              clear hx0' q1 q2 q3 hx2 hj
              go_wp2_with fail
              refine HA.out.mono ?_
              rintro e w6 ⟨rfl, hb6⟩
              have HB6 := Lib.hid (HBr.out.trans (hb6.mono HBr.out.size))
              obtain ⟨⟨b, off, hAe, hbl, hcl⟩, hN⟩ := (HTo3.out.later HB6.out) j t HQ2.out
              obtain ⟨rx, hrx⟩ : ∃ rx, rx = rs j := ⟨_, rfl⟩
              rw [← hrx] at hcl hN
              subst hAe
              have hok := HOk.out t (List.mem_of_getElem? HQ2.out) (hall t (List.mem_of_getElem? HQ2.out))
              have hcnt : wrap64 (count t : Int) = (count t : Int) := by have := hok.cnt; unfold wrap64; omega
              have hk6 := (HB6.out.block _ (lt_of_some HK3.out)).trans HK3.out
              have HSS : Hid (∀ w' : World, Below w6.heap.size w6 w' → (w'.cell? ⟨w2.heap.size, 0, none⟩ = some (.slice A2 T.length c2) ∧ w'.cell? ⟨w2.heap.size, 1, none⟩ = some (.int .i64 (T.length : Int)) ∧
                  w'.cell? ⟨b, off + j * 7, none⟩ = some (.int .i64 t.K) ∧ w'.cell? ⟨b, off + j * 7 + 1, none⟩ = some (.bool t.O) ∧ w'.cell? ⟨b, off + j * 7 + 2, none⟩ = some (.slice rx.An t.N.length rx.cn) ∧ w'.cell? ⟨b, off + j * 7 + 3, none⟩ = some (.slice rx.Ai t.I.length rx.ci) ∧
                  w'.cell? ⟨b, off + j * 7 + 4, none⟩ = some (.int .i64 t.S) ∧ w'.cell? ⟨b, off + j * 7 + 5, none⟩ = some (.slice rx.Ae t.E.length rx.ce) ∧ w'.cell? ⟨b, off + j * 7 + 6, none⟩ = some (.string t.T) ∧ Below w6.heap.size w6 w')) := Lib.hid fun w' hb' => by
                have e := (hb'.block _ (lt_of_some hk6)).trans hk6
                have f : ∀ (i : Nat) (v : Value), (rawCells t rx)[i]? = some v → w'.cell? ⟨b, off + j * 7 + i, none⟩ = some v := fun i v hv => (hb'.cell (p := ⟨b, off + j * 7 + i, none⟩) hbl).trans (hcl i v hv)
                exact ⟨cell_of_blk e 0, cell_of_blk e 1, f 0 _ rfl, f 1 _ rfl, f 2 _ rfl, f 3 _ rfl, f 4 _ rfl, f 5 _ rfl, f 6 _ rfl, hb'⟩
              have hS6 := (HOs.out.later HB6.out)
              have HID := Lib.hid (fun (w' : World) (hb' : Below w6.heap.size w6 w') => show Calls Tryd.prog 35 #[.agg #[.slice A2 T.length c2, .int .i64 (T.length : Int)], .int .i64 (k : Int)] w' fun e w'' => e = .returned (.int .i64 (j : Int)) ∧ Below w6.heap.size w6 w'' from (sid_yes A2 T.length c2 k (T.length : Int) L x0 w' (hS6.later hb').slc.rows HOs.out.len HX.out).mono fun e w'' ⟨h1, h2⟩ => ⟨by rw [h1, HX2.out], hb'.trans (h2.mono hb'.size)⟩)
              have hbr6 := HQ3.out.later HB6.out
              have HCo := Lib.hid (fun (w' : World) (hb' : Below w6.heap.size w6 w') => show Calls Tryd.prog 22 #[.pointer (some ⟨x0.1, 0, none⟩)] w' fun e w'' => e = .returned (.int .i64 (count t : Int)) ∧ w' = w'' from (bcount_any x0.1 _ w' (hbr6.later hb')).mono fun e w'' ⟨h1, h2⟩ => ⟨by rw [h1, flatN_length], h2⟩)
              have hRC : ∀ (w' : World), Below w6.heap.size w6 w' → Calls Tryd.prog 36 #[ndV t rx] w' fun e w'' => e = .returned (.int .i64 (count t : Int)) ∧ Below w6.heap.size w6 w'' := fun w' hb' => (refcount_at w' (depth t + 1) t rx w' (Nat.lt_succ_self _) (hN.later hb') (Below.refl _ _)).mono fun e w'' ⟨h1, h2⟩ => ⟨by rw [h1, hcnt], hb'.trans (h2.mono hb'.size)⟩
              unfold ndV rawCells at hRC
              have HRC := Lib.hid hRC
              have HB60 := Lib.hid (Below.refl w6.heap.size w6).drew
              have j0 : (0 : Int) ≤ (j : Int) := by omega
              have j1 : (j : Int) < (T.length : Int) := by omega
              have j2 : ((j : Int)).toNat = j := by omega
              have e1 : IntKind.i64.wrap ((T.length : Int) - 1) = ((T.length - 1 : Nat) : Int) := by rw [IntWalk.i64_in _ (by omega)]; omega
              have e2 : IntKind.i64.wrap (((T.length - 1 : Nat) : Int) - (k : Int)) = (j : Int) := by have := HJ.out; rw [IntWalk.i64_in _ (by omega)]; omega
              have g1 : ((j : Int) != (j : Int)) = false := by simp
              have g2 : ((count t : Int) != (count t : Int)) = false := by simp
              clear hb6 hcl hN hrx hok hcnt hk6 hS6 hbr6 hRC HA s0 s1
              go_upto_region 21 with fail
              go_region_held3 (fun w' => (w'.cell? ⟨w2.heap.size, 0, none⟩ = some (.slice A2 T.length c2) ∧ w'.cell? ⟨w2.heap.size, 1, none⟩ = some (.int .i64 (T.length : Int)) ∧
                  w'.cell? ⟨b, off + j * 7, none⟩ = some (.int .i64 t.K) ∧ w'.cell? ⟨b, off + j * 7 + 1, none⟩ = some (.bool t.O) ∧ w'.cell? ⟨b, off + j * 7 + 2, none⟩ = some (.slice rx.An t.N.length rx.cn) ∧ w'.cell? ⟨b, off + j * 7 + 3, none⟩ = some (.slice rx.Ai t.I.length rx.ci) ∧
                  w'.cell? ⟨b, off + j * 7 + 4, none⟩ = some (.int .i64 t.S) ∧ w'.cell? ⟨b, off + j * 7 + 5, none⟩ = some (.slice rx.Ae t.E.length rx.ce) ∧ w'.cell? ⟨b, off + j * 7 + 6, none⟩ = some (.string t.T) ∧ Below w6.heap.size w6 w'))
                (first | exact HSS.out _ (by assumption) | exact HSS.out _ HB60.out)
                (first | ((go_at_call 35; with_reducible refine (HID.out _ (by first | assumption | exact HB60.out)).mono ?_); rintro e w' ⟨rfl, hb'⟩) | ((go_at_call 22; with_reducible refine (HCo.out _ (by first | assumption | exact HB60.out)).mono ?_); rintro e w' ⟨rfl, rfl⟩) | ((go_at_call 36; with_reducible refine (HRC.out _ (by first | assumption | exact HB60.out)).mono ?_); rintro e w' ⟨rfl, hb'⟩))
              all_goals
                have HF := Lib.hid (HB6.out.trans (hb'.mono HB6.out.size))
                clear hb'
                go_wp2_with fail
                go_roundw
                case rel => exact ⟨k + 1, by go_num, by omega, HF⟩
                case measure => simp [intOf]; omega
            · obtain rfl : k = T.length := by omega
              have HBw := Lib.hid (HB3.out.trans (HBr.out.mono HB3.out.size))
              obtain ⟨wS, hwS⟩ : ∃ wS, wS = wr := ⟨_, rfl⟩
              rw [← hwS] at HBw ⊢
              clear hwS HBr
              obtain ⟨nn, hnn⟩ : ∃ nn : Nat, (nn : Int) = 55 + x % 20 := ⟨(55 + x % 20).toNat, Int.toNat_of_nonneg (by omega)⟩
              have hn55 : nn ≤ 74 := by omega
              go_upto_region 25 with fail
              rw [← hnn]
              clear hnn
              go_upto_region 26 with fail
              go_wp2_with fail
              have hi0 : (Tryd.prog.info? 27).map (fun i => (i.zero, i.size, i.bytes)) = some (some (.agg #[.int .i64 0, .bool false, .slice none 0 0, .slice none 0 0, .int .i64 0, .slice none 0 0, .string ⟨#[]⟩]), 7, 112) := by kernel_rfl
              obtain ⟨i0, hi, hz0, hz1, hz2⟩ := info_parts hi0
              clear hi0
              have HD0 : Hid (InD wS 0 (.slice none 0 0) wS) := Lib.hid ⟨fun _ => raw0, World.ownsRow_nil _ _ _ _, fun i h => absurd h (Nat.not_lt_zero _), Below.refl _ _⟩
              go_loopw [103, 13] (fun v v13 wr => ∃ k : Nat, v = .int .i64 (k : Int) ∧ k ≤ nn ∧ Hid (InD wS k v13 wr)) (fun v _ _ => nn - (intOf v).toNat)
              case atStart => exact ⟨0, rfl, Nat.zero_le _, HD0⟩
              case round =>
                obtain ⟨k, rfl, hk, HI⟩ := hrel
                by_cases hlt3 : k < nn
                · have k0 : (k : Int) < (nn : Int) := by omega
                  have HE := Lib.hid (show Calls Tryd.prog 29 #[.slice none 0 0, .slice none 0 0] wr (As e0N e0V wr) from (empty_any wr).mono fun _ _ h => h.as e0_v)
                  go_wp2_with fail
                  refine HE.out.mono ?_
                  rintro e y1 ⟨r1, rfl, hn1, hby⟩
                  obtain ⟨Y2, hY2⟩ : ∃ Y2, Y2 = y1.alloc (.cells (rawCells e0N r1) 27) := ⟨_, rfl⟩
                  have hby2 : Below y1.heap.size y1 Y2 := by rw [hY2]; exact (Below.refl _ _).alloc (Nat.le_refl _) _
                  have hbr2 : Below wr.heap.size wr Y2 := hby.trans (hby2.mono hby.size)
                  have HI2 := Lib.hid (HI.out.later hbr2)
                  have HNy := Lib.hid (hn1.later hby2)
                  have hky : Y2.heap[y1.heap.size]? = some (.cells (rawCells e0N r1) 27 (0, 0)) := by rw [hY2]; exact heap_alloc_new y1 _
                  have hnews : Hid (∀ (i : Nat) (u : Value), (rawCells e0N r1).toList[i]? = some u → Y2.cell? ((⟨y1.heap.size, 0, none⟩ : Addr).add i) = some u) := Lib.hid fun i u hu => by
                    rw [add_place, Nat.zero_add, cell_of_blk hky i, ← Array.getElem?_toList]
                    exact hu
                  have hone : Hid (∀ u ∈ (rawCells e0N r1).toList, u.oneCell' = true) := Lib.hid (by
                    have := rowCells_one [e0N] (fun _ => r1)
                    rw [rowCells, rowCells, List.append_nil] at this
                    exact this)
                  have HZ := Lib.hid (show wS.heap.size ≤ Y2.heap.size from Nat.le_trans HI.out.size hbr2.size)
                  have hY2' : Y2 = y1.alloc (.cells #[.int .i64 2, .bool false, .slice r1.An 0 r1.cn, .slice r1.Ai 0 r1.ci, .int .i64 0, .slice r1.Ae 0 r1.ce, .string ⟨#[]⟩] 27) := hY2
                  have HY2 := Lib.hid hY2'
                  obtain ⟨A8, c8, h8⟩ := HI.out.slice
                  subst h8
                  obtain ⟨rs8, ho8, hx8, hb8⟩ := HI2.out
                  have HO8 := Lib.hid ho8
                  have HX8 := Lib.hid hx8
                  have HB8 := Lib.hid hb8
                  clear hn1 hby hY2 hby2 hbr2 hky hY2' ho8 hx8 hb8
                  unfold e0V
                  have HYe : Hid (y1.alloc (.cells #[.int .i64 2, .bool false, .slice r1.An 0 r1.cn, .slice r1.Ai 0 r1.ci, .int .i64 0, .slice r1.Ae 0 r1.ce, .string ⟨#[]⟩] 27) = Y2) := Lib.hid HY2.out.symm
                  go_wp2_with (at_builtin; rw [HYe.out]; refine wpList_append_own _ rfl (.tmp 105) (.tmp 107) 24 rfl wS.heap.size 27 i0 _ 7 112 Tryd.underlying24 hi hz0 hz1 hz2 rfl (by omega) (.slice A8 k c8) k (rowCells (List.replicate k e0N) rs8) rfl HO8.out ⟨y1.heap.size, 0, none⟩ 1 1 (rawCells e0N r1).toList rfl rfl hnews.out hone.out (by simp only [maxLen]; omega) (by omega) HZ.out ?_; intro v5 w5 hown5 hgrow5 hnil5)
                  have HN := Lib.hid (InD.next HO8.out HX8.out HB8.out HNy.out hown5 hgrow5)
                  clear hown5 hgrow5 hnil5
                  go_roundw
                  case rel => exact ⟨k + 1, by go_num, by omega, HN⟩
                  case measure => simp [intOf]; omega
                · obtain rfl : k = nn := by omega
                  rename World => wd
                  obtain ⟨A8, c8, h8⟩ := HI.out.slice
                  subst h8
                  obtain ⟨rs8, ht8⟩ := HI.out.trees
                  have hbd : Below w.heap.size w wd := by
                    obtain ⟨_, _, _, hb8⟩ := HI.out
                    exact HBw.out.trans (hb8.mono HBw.out.size)
                  have hC := of_any A8 c8 (List.replicate k e0N) rs8 m wd ht8 (below_cell HM.out hbd) (rep_fine k) (by rw [List.length_replicate]; omega)
                  rw [List.length_replicate] at hC
                  have HC := Lib.hid hC
                  have HBd := Lib.hid hbd
                  clear ht8 hbd hC HI
                  go_wp2_with fail
                  refine HC.out.mono ?_
                  rintro e y2 hof
                  rcases hof with ⟨A9, c9, L9, rfl, _, _, h64', hby⟩ | ⟨er', rfl, hbad', hby⟩
                  · rw [List.length_replicate] at h64' ⊢
                    obtain ⟨Y3, hY3⟩ : ∃ Y3, Y3 = y2.alloc (.cells #[.slice A9 k c9, .int .i64 (k : Int)] 54) := ⟨_, rfl⟩
                    have hby3 : Below y2.heap.size y2 Y3 := by rw [hY3]; exact (Below.refl _ _).alloc (Nat.le_refl _) _
                    have hky : Y3.heap[y2.heap.size]? = some (.cells #[.slice A9 k c9, .int .i64 (k : Int)] 54 (0, 0)) := by rw [hY3]; exact heap_alloc_new y2 _
                    have z0 : Y3.cell? ⟨y2.heap.size, 0, none⟩ = some (.slice A9 k c9) := cell_of_blk hky 0
                    have z1 : Y3.cell? ⟨y2.heap.size, 1, none⟩ = some (.int .i64 (k : Int)) := cell_of_blk hky 1
                    have HBy := Lib.hid ((HBd.out.trans (hby.mono HBd.out.size)).trans (hby3.mono (HBd.out.trans (hby.mono HBd.out.size)).size))
                    have HCy := Lib.hid (show Calls Tryd.prog 33 #[.agg #[.slice A9 k c9, .int .i64 (k : Int)]] Y3 fun e w' => e = .returned (.int .i64 (k : Int)) ∧ Below Y3.heap.size Y3 w' from slen_any A9 k c9 (k : Int) Y3)
                    have HY3 := Lib.hid hY3
                    have l1 : (k : Int) ≤ 64 := by omega
                    have l2 : decide (k ≤ 64) = true := by simpa using h64'
                    have l3 : ((k : Int) == (k : Int)) = true := by simp
                    clear hby hby3 hky hY3 HC
                    unfold stkV
                    go_upto_region 31 with fail
                    rw [← HY3.out]
                    go_wp2_with fail
                    refine HCy.out.mono ?_
                    rintro e y4 ⟨rfl, hb4⟩
                    have HBz := Lib.hid (HBy.out.trans (hb4.mono HBy.out.size))
                    clear hb4 HCy HY3 HBy
                    go_wp2_with fail
                    go_ret
                    exact ⟨rfl, HBz.out⟩
                  · have her : er' = 6 ∧ 64 < k := by
                      rcases hbad' with ⟨_, t, ht, hf⟩ | ⟨h1, h2⟩
                      · rw [rep_right k t ht] at hf; cases hf
                      · rw [List.length_replicate] at h2
                        exact ⟨h1, h2⟩
                    obtain ⟨rfl, h64'⟩ := her
                    obtain ⟨Y3, hY3⟩ : ∃ Y3, Y3 = y2.alloc (.cells #[.slice none 0 0, .int .i64 0] 54) := ⟨_, rfl⟩
                    have hby3 : Below y2.heap.size y2 Y3 := by rw [hY3]; exact (Below.refl _ _).alloc (Nat.le_refl _) _
                    have hky : Y3.heap[y2.heap.size]? = some (.cells #[.slice none 0 0, .int .i64 0] 54 (0, 0)) := by rw [hY3]; exact heap_alloc_new y2 _
                    have z0 : Y3.cell? ⟨y2.heap.size, 0, none⟩ = some (.slice none 0 0) := cell_of_blk hky 0
                    have z1 : Y3.cell? ⟨y2.heap.size, 1, none⟩ = some (.int .i64 0) := cell_of_blk hky 1
                    have HBy := Lib.hid ((HBd.out.trans (hby.mono HBd.out.size)).trans (hby3.mono (HBd.out.trans (hby.mono HBd.out.size)).size))
                    have HCy := Lib.hid (show Calls Tryd.prog 33 #[.agg #[.slice none 0 0, .int .i64 0]] Y3 fun e w' => e = .returned (.int .i64 0) ∧ Below Y3.heap.size Y3 w' from slen_any none 0 0 0 Y3)
                    have HY3 := Lib.hid hY3
                    have l1 : ¬ (k : Int) ≤ 64 := by omega
                    have l2 : decide (k ≤ 64) = false := by simp; omega
                    clear hby hby3 hky hY3 HC hbad'
                    unfold stkV
                    go_upto_region 31 with fail
                    rw [← HY3.out]
                    go_wp2_with fail
                    refine HCy.out.mono ?_
                    rintro e y4 ⟨rfl, hb4⟩
                    have HBz := Lib.hid (HBy.out.trans (hb4.mono HBy.out.size))
                    clear hb4 HCy HY3 HBy
                    go_wp2_with fail
                    go_ret
                    exact ⟨ret_bool (by rw [decide_eq_false (show ¬ (k : Int) ≤ 64 by omega)]; rfl), HBz.out⟩
        · have hw : wantI T = 1 ∧ er = 1 := by
            rcases hbad with ⟨h1, h2⟩ | ⟨_, h2⟩
            · exact ⟨wantI_no h2, h1⟩
            · omega
          obtain ⟨hw, rfl⟩ := hw
          rw [hw]
          clear hw hbad
          obtain ⟨W3, hW3⟩ : ∃ W3, W3 = w2.alloc (.cells #[.slice none 0 0, .int .i64 0] 54) := ⟨_, rfl⟩
          have hb3 : Below w2.heap.size w2 W3 := by rw [hW3]; exact (Below.refl _ _).alloc (Nat.le_refl _) _
          have hk3 : W3.heap[w2.heap.size]? = some (.cells #[.slice none 0 0, .int .i64 0] 54 (0, 0)) := by rw [hW3]; exact heap_alloc_new w2 _
          have HB3 := Lib.hid ((HB.out.trans (hb2.mono HB.out.size)).trans (hb3.mono (HB.out.trans (hb2.mono HB.out.size)).size))
          have HK3 := Lib.hid hk3
          have HW3 := Lib.hid hW3
          have s0 : W3.cell? ⟨w2.heap.size, 0, none⟩ = some (.slice none 0 0) := cell_of_blk hk3 0
          have s1 : W3.cell? ⟨w2.heap.size, 1, none⟩ = some (.int .i64 0) := cell_of_blk hk3 1
          have HC1 := Lib.hid (show Calls Tryd.prog 33 #[.agg #[.slice none 0 0, .int .i64 0]] W3 fun e w' => e = .returned (.int .i64 0) ∧ Below W3.heap.size W3 w' from slen_any none 0 0 0 W3)
          clear hb2 hb3 hk3 hW3 HC HB
          unfold stkV
          go_upto_region 15 with fail
          rw [← HW3.out]
          go_wp2_with fail
          refine HC1.out.mono ?_
          rintro e w4 ⟨rfl, hb4⟩
          have s0 : w4.cell? ⟨w2.heap.size, 0, none⟩ = some (.slice none 0 0) := cell_of_blk ((hb4.block _ (lt_of_some HK3.out)).trans HK3.out) 0
          have s1 : w4.cell? ⟨w2.heap.size, 1, none⟩ = some (.int .i64 0) := cell_of_blk ((hb4.block _ (lt_of_some HK3.out)).trans HK3.out) 1
          have HB4 := Lib.hid hb4
          have HC2 := Lib.hid (show Calls Tryd.prog 33 #[.agg #[.slice none 0 0, .int .i64 0]] w4 fun e w' => e = .returned (.int .i64 0) ∧ Below w4.heap.size w4 w' from slen_any none 0 0 0 w4)
          clear hb4 HC1 HW3
          go_wp2_with fail
          refine HC2.out.mono ?_
          rintro e w5 ⟨rfl, hb5⟩
          have HB5 := Lib.hid (HB4.out.trans (hb5.mono HB4.out.size))
          clear hb5 HC2 HB4 s0 s1
          go_wp2_with fail
          go_loopw [64] (fun v wr => v = .int .i64 0 ∧ Hid (Below W3.heap.size W3 wr)) (fun _ _ => 0)
          case atStart => exact ⟨rfl, HB5⟩
          case round =>
            obtain ⟨rfl, HBr⟩ := hrel
            have HBw := Lib.hid (HB3.out.trans (HBr.out.mono HB3.out.size))
            obtain ⟨wS, hwS⟩ : ∃ wS, wS = wr := ⟨_, rfl⟩
            rw [← hwS] at HBw ⊢
            clear hwS HBr
            obtain ⟨nn, hnn⟩ : ∃ nn : Nat, (nn : Int) = 55 + x % 20 := ⟨(55 + x % 20).toNat, Int.toNat_of_nonneg (by omega)⟩
            have hn55 : nn ≤ 74 := by omega
            go_upto_region 25 with fail
            rw [← hnn]
            clear hnn
            go_upto_region 26 with fail
            go_wp2_with fail
            have hi0 : (Tryd.prog.info? 27).map (fun i => (i.zero, i.size, i.bytes)) = some (some (.agg #[.int .i64 0, .bool false, .slice none 0 0, .slice none 0 0, .int .i64 0, .slice none 0 0, .string ⟨#[]⟩]), 7, 112) := by kernel_rfl
            obtain ⟨i0, hi, hz0, hz1, hz2⟩ := info_parts hi0
            clear hi0
            have HD0 : Hid (InD wS 0 (.slice none 0 0) wS) := Lib.hid ⟨fun _ => raw0, World.ownsRow_nil _ _ _ _, fun i h => absurd h (Nat.not_lt_zero _), Below.refl _ _⟩
            go_loopw [103, 13] (fun v v13 wr => ∃ k : Nat, v = .int .i64 (k : Int) ∧ k ≤ nn ∧ Hid (InD wS k v13 wr)) (fun v _ _ => nn - (intOf v).toNat)
            case atStart => exact ⟨0, rfl, Nat.zero_le _, HD0⟩
            case round =>
              obtain ⟨k, rfl, hk, HI⟩ := hrel
              by_cases hlt3 : k < nn
              · have k0 : (k : Int) < (nn : Int) := by omega
                have HE := Lib.hid (show Calls Tryd.prog 29 #[.slice none 0 0, .slice none 0 0] wr (As e0N e0V wr) from (empty_any wr).mono fun _ _ h => h.as e0_v)
                go_wp2_with fail
                refine HE.out.mono ?_
                rintro e y1 ⟨r1, rfl, hn1, hby⟩
                obtain ⟨Y2, hY2⟩ : ∃ Y2, Y2 = y1.alloc (.cells (rawCells e0N r1) 27) := ⟨_, rfl⟩
                have hby2 : Below y1.heap.size y1 Y2 := by rw [hY2]; exact (Below.refl _ _).alloc (Nat.le_refl _) _
                have hbr2 : Below wr.heap.size wr Y2 := hby.trans (hby2.mono hby.size)
                have HI2 := Lib.hid (HI.out.later hbr2)
                have HNy := Lib.hid (hn1.later hby2)
                have hky : Y2.heap[y1.heap.size]? = some (.cells (rawCells e0N r1) 27 (0, 0)) := by rw [hY2]; exact heap_alloc_new y1 _
                have hnews : Hid (∀ (i : Nat) (u : Value), (rawCells e0N r1).toList[i]? = some u → Y2.cell? ((⟨y1.heap.size, 0, none⟩ : Addr).add i) = some u) := Lib.hid fun i u hu => by
                  rw [add_place, Nat.zero_add, cell_of_blk hky i, ← Array.getElem?_toList]
                  exact hu
                have hone : Hid (∀ u ∈ (rawCells e0N r1).toList, u.oneCell' = true) := Lib.hid (by
                  have := rowCells_one [e0N] (fun _ => r1)
                  rw [rowCells, rowCells, List.append_nil] at this
                  exact this)
                have HZ := Lib.hid (show wS.heap.size ≤ Y2.heap.size from Nat.le_trans HI.out.size hbr2.size)
                have hY2' : Y2 = y1.alloc (.cells #[.int .i64 2, .bool false, .slice r1.An 0 r1.cn, .slice r1.Ai 0 r1.ci, .int .i64 0, .slice r1.Ae 0 r1.ce, .string ⟨#[]⟩] 27) := hY2
                have HY2 := Lib.hid hY2'
                obtain ⟨A8, c8, h8⟩ := HI.out.slice
                subst h8
                obtain ⟨rs8, ho8, hx8, hb8⟩ := HI2.out
                have HO8 := Lib.hid ho8
                have HX8 := Lib.hid hx8
                have HB8 := Lib.hid hb8
                clear hn1 hby hY2 hby2 hbr2 hky hY2' ho8 hx8 hb8
                unfold e0V
                have HYe : Hid (y1.alloc (.cells #[.int .i64 2, .bool false, .slice r1.An 0 r1.cn, .slice r1.Ai 0 r1.ci, .int .i64 0, .slice r1.Ae 0 r1.ce, .string ⟨#[]⟩] 27) = Y2) := Lib.hid HY2.out.symm
                go_wp2_with (at_builtin; rw [HYe.out]; refine wpList_append_own _ rfl (.tmp 105) (.tmp 107) 24 rfl wS.heap.size 27 i0 _ 7 112 Tryd.underlying24 hi hz0 hz1 hz2 rfl (by omega) (.slice A8 k c8) k (rowCells (List.replicate k e0N) rs8) rfl HO8.out ⟨y1.heap.size, 0, none⟩ 1 1 (rawCells e0N r1).toList rfl rfl hnews.out hone.out (by simp only [maxLen]; omega) (by omega) HZ.out ?_; intro v5 w5 hown5 hgrow5 hnil5)
                have HN := Lib.hid (InD.next HO8.out HX8.out HB8.out HNy.out hown5 hgrow5)
                clear hown5 hgrow5 hnil5
                go_roundw
                case rel => exact ⟨k + 1, by go_num, by omega, HN⟩
                case measure => simp [intOf]; omega
              · obtain rfl : k = nn := by omega
                rename World => wd
                obtain ⟨A8, c8, h8⟩ := HI.out.slice
                subst h8
                obtain ⟨rs8, ht8⟩ := HI.out.trees
                have hbd : Below w.heap.size w wd := by
                  obtain ⟨_, _, _, hb8⟩ := HI.out
                  exact HBw.out.trans (hb8.mono HBw.out.size)
                have hC := of_any A8 c8 (List.replicate k e0N) rs8 m wd ht8 (below_cell HM.out hbd) (rep_fine k) (by rw [List.length_replicate]; omega)
                rw [List.length_replicate] at hC
                have HC := Lib.hid hC
                have HBd := Lib.hid hbd
                clear ht8 hbd hC HI
                go_wp2_with fail
                refine HC.out.mono ?_
                rintro e y2 hof
                rcases hof with ⟨A9, c9, L9, rfl, _, _, h64', hby⟩ | ⟨er', rfl, hbad', hby⟩
                · rw [List.length_replicate] at h64' ⊢
                  obtain ⟨Y3, hY3⟩ : ∃ Y3, Y3 = y2.alloc (.cells #[.slice A9 k c9, .int .i64 (k : Int)] 54) := ⟨_, rfl⟩
                  have hby3 : Below y2.heap.size y2 Y3 := by rw [hY3]; exact (Below.refl _ _).alloc (Nat.le_refl _) _
                  have hky : Y3.heap[y2.heap.size]? = some (.cells #[.slice A9 k c9, .int .i64 (k : Int)] 54 (0, 0)) := by rw [hY3]; exact heap_alloc_new y2 _
                  have z0 : Y3.cell? ⟨y2.heap.size, 0, none⟩ = some (.slice A9 k c9) := cell_of_blk hky 0
                  have z1 : Y3.cell? ⟨y2.heap.size, 1, none⟩ = some (.int .i64 (k : Int)) := cell_of_blk hky 1
                  have HBy := Lib.hid ((HBd.out.trans (hby.mono HBd.out.size)).trans (hby3.mono (HBd.out.trans (hby.mono HBd.out.size)).size))
                  have HCy := Lib.hid (show Calls Tryd.prog 33 #[.agg #[.slice A9 k c9, .int .i64 (k : Int)]] Y3 fun e w' => e = .returned (.int .i64 (k : Int)) ∧ Below Y3.heap.size Y3 w' from slen_any A9 k c9 (k : Int) Y3)
                  have HY3 := Lib.hid hY3
                  have l1 : (k : Int) ≤ 64 := by omega
                  have l2 : decide (k ≤ 64) = true := by simpa using h64'
                  have l3 : ((k : Int) == (k : Int)) = true := by simp
                  clear hby hby3 hky hY3 HC
                  unfold stkV
                  go_upto_region 31 with fail
                  rw [← HY3.out]
                  go_wp2_with fail
                  refine HCy.out.mono ?_
                  rintro e y4 ⟨rfl, hb4⟩
                  have HBz := Lib.hid (HBy.out.trans (hb4.mono HBy.out.size))
                  clear hb4 HCy HY3 HBy
                  go_wp2_with fail
                  go_ret
                  exact ⟨rfl, HBz.out⟩
                · have her : er' = 6 ∧ 64 < k := by
                    rcases hbad' with ⟨_, t, ht, hf⟩ | ⟨h1, h2⟩
                    · rw [rep_right k t ht] at hf; cases hf
                    · rw [List.length_replicate] at h2
                      exact ⟨h1, h2⟩
                  obtain ⟨rfl, h64'⟩ := her
                  obtain ⟨Y3, hY3⟩ : ∃ Y3, Y3 = y2.alloc (.cells #[.slice none 0 0, .int .i64 0] 54) := ⟨_, rfl⟩
                  have hby3 : Below y2.heap.size y2 Y3 := by rw [hY3]; exact (Below.refl _ _).alloc (Nat.le_refl _) _
                  have hky : Y3.heap[y2.heap.size]? = some (.cells #[.slice none 0 0, .int .i64 0] 54 (0, 0)) := by rw [hY3]; exact heap_alloc_new y2 _
                  have z0 : Y3.cell? ⟨y2.heap.size, 0, none⟩ = some (.slice none 0 0) := cell_of_blk hky 0
                  have z1 : Y3.cell? ⟨y2.heap.size, 1, none⟩ = some (.int .i64 0) := cell_of_blk hky 1
                  have HBy := Lib.hid ((HBd.out.trans (hby.mono HBd.out.size)).trans (hby3.mono (HBd.out.trans (hby.mono HBd.out.size)).size))
                  have HCy := Lib.hid (show Calls Tryd.prog 33 #[.agg #[.slice none 0 0, .int .i64 0]] Y3 fun e w' => e = .returned (.int .i64 0) ∧ Below Y3.heap.size Y3 w' from slen_any none 0 0 0 Y3)
                  have HY3 := Lib.hid hY3
                  have l1 : ¬ (k : Int) ≤ 64 := by omega
                  have l2 : decide (k ≤ 64) = false := by simp; omega
                  clear hby hby3 hky hY3 HC hbad'
                  unfold stkV
                  go_upto_region 31 with fail
                  rw [← HY3.out]
                  go_wp2_with fail
                  refine HCy.out.mono ?_
                  rintro e y4 ⟨rfl, hb4⟩
                  have HBz := Lib.hid (HBy.out.trans (hb4.mono HBy.out.size))
                  clear hb4 HCy HY3 HBy
                  go_wp2_with fail
                  go_ret
                  exact ⟨ret_bool (by rw [decide_eq_false (show ¬ (k : Int) ≤ 64 by omega)]; rfl), HBz.out⟩
end Go.Proofs.YtniklphdnakehaaDoor.stk
