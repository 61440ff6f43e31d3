/- CursorDoes: true. Condition: what is asked lies in memory. (Written by wip/gen/gencdo.py.) -/
import Derived.Test.YthmehalkijbpdaaCdoMath
import Derived.Deep.CutBlock
import Derived.Deep.CutRange
namespace Go.Proofs.Ythmehalkijbpdaa.cdo
set_option maxRecDepth 100000
open Go.RowKit Go.Maps Go.Proofs.Ythmehalkijbpdaa.words Go.Proofs.Ythmehalkijbpdaa.lru Go.Proofs.Ythmehalkijbpdaa.mpi Go.Proofs.Ythmehalkijbpdaa.cur

set_option maxHeartbeats 25600000 in
theorem law_does (room : Int) (A : Option Addr) (c : Nat) (T : List Act18) (w0 : World) (_hr : pln.big room) (hT : Act18s w0 w0.heap.size A T) (hsz : ∀ y ∈ T, y.fine) (hlen : T.length ≤ 9223372036854775807) :
    Calls Try.prog 5 #[.int .i64 room, .slice A T.length c] w0 fun e w' => e = .returned (.bool true) ∧ Below w0.heap.size w0 w' := by
  have HT := Lib.hid hT
  have HSZ := Lib.hid hsz
  have HC0 := Lib.hid (cspeaks_any w0)
  obtain ⟨r, hr⟩ : ∃ r : Int, r = min (max room 1) 1024 := ⟨_, rfl⟩
  have HR1 : Hid (1 ≤ r ∧ r ≤ 1024) := Lib.hid (by omega)
  have HNW := Lib.hid (fun w => new_cst room r w hr)
  have HMM := Lib.hid (show ∃ mm : Int, max room 1 = mm ∧ min mm 1024 = r from ⟨_, rfl, hr.symm⟩)
  have hmm := @run_makeMap Try.prog
  clear hT hsz _hr hr
  go_enter Try.func5, Try.ntmps5
  go_wp2_with fail
  refine HC0.out.mono ?_
  rintro e w ⟨rfl, hb1⟩
  have HB1 := Lib.hid hb1
  clear hb1 HC0
  by_cases h300 : T.length ≤ 300
  rotate_left
  · have g300 : (300 : Int) < (T.length : Int) := by omega
    have g301 : 300 < T.length := by omega
    go_wp2_with fail
    go_ret
    exact ⟨rfl, HB1.out⟩
  have g300 : ¬ (300 : Int) < (T.length : Int) := by omega
  have g301 : ¬ 300 < T.length := by omega
  go_wp2_with fail
  refine (HNW.out w).mono ?_
  rintro e w1 ⟨t, m, rfl, h1⟩
  obtain ⟨W2, hW2⟩ : ∃ W2, W2 = w1.alloc (.map #[] 0) := ⟨_, rfl⟩
  obtain ⟨mo, hmo⟩ : ∃ mo, mo = w1.heap.size := ⟨_, rfl⟩
  have hI : InC w t m mo 0 W2 r 0 [] := by
    have hb2 : Below w1.heap.size w1 W2 := by rw [hW2]; exact (Below.refl _ _).alloc (Nat.le_refl _) _
    have h2 := h1.later hb2
    refine ⟨h2, by rw [hW2, hmo]; exact MapL.made w1 Try.prog 3, by rw [hmo]; exact h1.2.size, ?_, ?_, (fun x hx => by cases hx), (by have := HR1.out; rw [List.length_nil]; omega), HR1.out.2, Nat.le_refl _⟩
    · have := (h1.1.lt t (.inl rfl)).2; omega
    · have := (h1.1.lt m (.inr rfl)).2; omega
  have HI0 := Lib.hid hI
  have HW2 := Lib.hid hW2
  have HMO := Lib.hid hmo.symm
  obtain ⟨mm, hm1, hm2⟩ := HMM.out
  clear h1 HNW hI hW2 hmo
  go_upto_region 9 with fail
  rw [← HW2.out, HMO.out]
  clear hm1 hm2 hmm HW2
  go_wp2_with fail
  go_loopw [35, 7] (fun v v7 wr => ∃ (j n : Nat) (L : Cs), v = .int .i64 (j : Int) ∧ v7 = .int .i64 (n : Int) ∧ j ≤ T.length ∧ Hid (InC w t m mo j wr r n L)) (fun v _ _ => T.length - (intOf v).toNat)
  case atStart => exact ⟨0, 0, [], rfl, rfl, Nat.zero_le _, HI0⟩
  case round =>
    clear HI0
    obtain ⟨j, n, L, rfl, rfl, hj, HI⟩ := hrel
    have j0 : (0 : Int) ≤ (j : Int) := by omega
    by_cases hjl : j < T.length
    rotate_left
    · have hjl2 : ¬ (j : Int) < (T.length : Int) := by omega
      obtain ⟨D, ho, hf, _, _⟩ := HI.out.mp
      have HF := Lib.hid hf
      have HO := Lib.hid ho
      have HST := Lib.hid HI.out.st
      obtain ⟨ri, hri⟩ : ∃ ri, ri = wr.heap.size := ⟨_, rfl⟩
      have HTM : Hid (t ≠ ri ∧ m ≠ ri ∧ w.heap.size ≤ ri) := Lib.hid (by have := HI.out.lts; have := HI.out.st.2.size; omega)
      have HRI := Lib.hid hri.symm
      obtain ⟨ln, hln⟩ : ∃ ln, ln = (cR L).length := ⟨_, rfl⟩
      rw [← hln] at HO
      clear ho hf HI hri hln
      go_wp2_with (at_range; refine wpList_range_own _ rfl _ 43 rfl 3 48 (int_keyed Try.underlying3) Try.underlying43 heldR mo ln D rfl HO.out ?_; intro wg hrg hgg hsg; rw [HRI.out] at hrg; rw [HRI.out])
      have HG := Lib.hid hrg
      have HSG : Hid (CSt w t m wg r (n : Int) L) := Lib.hid (HST.out.later ⟨hgg.os, hgg.tape, hgg.output, hgg.size, fun k hk => hgg.block k hk (by simp)⟩)
      clear hrg hgg hsg HO HST
      go_loopw [159] (fun _ wr => ∃ (left : Lit → Bool) (cnt : Nat), Hid (wr.ranges Try.prog 3 heldR mo ri ln D left cnt) ∧ Hid (CSt w t m wr r (n : Int) L)) (fun _ wr => wr.rangeLeft mo ri)
      case atStart => exact ⟨_, _, HG, HSG⟩
      case round =>
        clear HG HSG
        obtain ⟨left, cnt, HG, HSG⟩ := hrel
        go_wp2_with (at_next; refine wpList_next_ranges _ rfl _ rfl 3 (int_keyed Try.underlying3) heldR (Value.int .i64) (fun v : Value => v) (fun key kl hkey => by obtain ⟨x, rfl, _⟩ := Maps.keyOf_int_inv Try.underlying3 hkey; exact ⟨x, rfl⟩) (fun v _ _ => ⟨v, rfl⟩) mo ri ln _ _ _ rfl HG.out ?_ ?_)
        · intro hc0 hl0
          clear hc0 hl0 HG
          have HBE := Lib.hid (HB1.out.trans (HSG.out.2.mono HB1.out.size))
          clear HSG
          go_wp2_with fail
          go_ret
          exact ⟨rfl, HBE.out⟩
        · intro x v kl y ys w7 cnt7 hkey hlx hv hat hrg7 hlt7 hg7 hs7 hen
          obtain ⟨x', ex, ekl, hwx⟩ := Maps.keyOf_int_inv Try.underlying3 hkey
          cases ex
          subst ekl
          have hyv : y = .held v := (congrArg Prod.fst (Option.some.inj hv)).symm
          have hval : ∃ cu, valC L x = some cu ∧ v = curV cu := by
            have h1 := hat .nil
            rw [hyv] at h1
            have h2 := HF.out x .nil
            unfold keyI at h2
            rw [h1, cR_val] at h2
            rcases hc : valC L x with _ | cu
            · rw [hc] at h2; cases h2
            · rw [hc] at h2
              exact ⟨cu, rfl, DataW.held.inj h2⟩
          obtain ⟨⟨x1, x2, x3⟩, hvc, rfl⟩ := hval
          unfold curV at hen
          have hst7 : CSt w t m w7 r (n : Int) L := by
            have ht : Tn (fun k => k = ri) _ w7 := ⟨hg7.os, hg7.tape, hg7.output, hg7.size, fun k hk hn => hg7.block k hk fun e => hn (by injection e)⟩
            exact ⟨HSG.out.1.tn ht (fun k hk e => by rcases hk with rfl | rfl; exact HTM.out.1 e; exact HTM.out.2.1 e), HSG.out.2.trans (ht.below (fun k e => by rw [e]; exact HTM.out.2.2) HSG.out.2.size)⟩
          obtain ⟨W8, hW8⟩ : ∃ W8, W8 = w7.alloc (.cells #[.int .i64 x1, .string x2, .int .i64 x3] 48) := ⟨_, rfl⟩
          have hb8 : Below w7.heap.size w7 W8 := by rw [hW8]; exact (Below.refl _ _).alloc (Nat.le_refl _) _
          have hk8 : W8.heap[w7.heap.size]? = some (.cells #[.int .i64 x1, .string x2, .int .i64 x3] 48 (0, 0)) := by rw [hW8]; exact heap_alloc_new w7 _
          have hst8 := hst7.later hb8
          have hgt := get_any w.heap.size t m r n L x W8 hst8.1 hwx
          rw [show gotC L x = ⟨x1, x2, x3⟩ from by unfold gotC; rw [hvc]; rfl, show gotE L x = 0 from by unfold gotE; rw [hvc]; rfl] at hgt
          have HP := Lib.hid hgt
          have HST8 := Lib.hid hst8
          have hrg8 : W8.ranges Try.prog 3 heldR mo ri ln D (fun z => left z && !z.sameKey (.int .i64 x)) cnt7 := by rw [hW8]; exact hrg7.alloc _
          have HG8 := Lib.hid hrg8
          have HLT := Lib.hid hlt7
          have HK8 := Lib.hid hk8
          have HW8 := Lib.hid hW8
          have hne : ∀ W : World, (binOp .neq 48 (.agg #[.int .i64 x1, .string x2, .int .i64 x3]) (.agg #[.int .i64 x1, .string x2, .int .i64 x3])).run Try.prog W = .ok (.bool false) W := fun W => neq_cur x1 x2 x3 W
          obtain ⟨q8, hq8⟩ : ∃ q8, q8 = w7.heap.size := ⟨_, rfl⟩
          rw [← hq8] at HK8
          have HQ8 := Lib.hid hq8.symm
          clear hkey hlx hv hat hrg7 hlt7 hg7 hs7 hyv hvc hst7 hb8 hk8 hst8 hgt hrg8 hwx hq8 hW8
          unfold curV
          go_upto_region 45 with fail
          rw [← HW8.out]
          try rw [HQ8.out]
          go_wp2_with fail
          refine HP.out.mono ?_
          rintro e w9 ⟨rfl, hb9⟩
          obtain ⟨W10, hW10⟩ : ∃ W10, W10 = w9.alloc (.cells #[.int .i64 x1, .string x2, .int .i64 x3] 48) := ⟨_, rfl⟩
          have hb10 : Below w9.heap.size w9 W10 := by rw [hW10]; exact (Below.refl _ _).alloc (Nat.le_refl _) _
          have hk10 : W10.heap[w9.heap.size]? = some (.cells #[.int .i64 x1, .string x2, .int .i64 x3] 48 (0, 0)) := by rw [hW10]; exact heap_alloc_new w9 _
          have hbc := hb9.trans (hb10.mono hb9.size)
          have hk8' := (hbc.block _ (lt_of_some HK8.out)).trans HK8.out
          have e0 := cell_of_blk hk10 0
          have e1 := cell_of_blk hk10 1
          have e2 := cell_of_blk hk10 2
          have f0 := cell_of_blk hk8' 0
          have f1 := cell_of_blk hk8' 1
          have f2 := cell_of_blk hk8' 2
          have HS10 := Lib.hid (HST8.out.later hbc)
          have HG10 : Hid (W10.ranges Try.prog 3 heldR mo ri ln D (fun z => left z && !z.sameKey (.int .i64 x)) cnt7) := Lib.hid (HG8.out.kept (row := none) ⟨hbc.os, hbc.tape, hbc.output, hbc.size, fun k hk _ => hbc.block k hk⟩ (by simp) (by simp))
          have HW10 := Lib.hid hW10
          clear hb9 hb10 hk10 hbc hk8' hW10 HP hen
          go_upto_region 46 with fail
          rw [← HW10.out]
          go_wp2_with fail
          go_roundw
          case rel => exact ⟨_, cnt7, HG10, HS10⟩
          case measure => rw [HG10.out.left_eq, HG.out.left_eq]; exact HLT.out

    have j1 : (j : Int) < (T.length : Int) := by omega
    have hj300 : j ≤ 300 := by omega
    obtain ⟨⟨kd, id, nn, dr⟩, hp⟩ : ∃ p, T[j]? = some p := ⟨_, List.getElem?_eq_getElem hjl⟩
    have hfine := HSZ.out _ (List.mem_of_getElem? hp)
    obtain ⟨hf1, hf2, hf3, hf4⟩ := hfine
    have hf2' : -9223372036854775808 ≤ id ∧ id ≤ 9223372036854775807 := hf2
    have hf3' : nn ≤ 65535 := hf3
    obtain ⟨ab, off, hA, hab, t0, t1, t2, t3⟩ := ((HT.out.keep HB1.out).keep (HI.out.st.2.mono HB1.out.size)) j _ hp
    subst hA
    obtain ⟨W3, hW3⟩ : ∃ W3, W3 = wr.alloc (.cells #[.int .u8 (kd : Int), .int .i64 id, .int .u16 (nn : Int), .string dr] 46) := ⟨_, rfl⟩
    have hb3 : Below wr.heap.size wr W3 := by rw [hW3]; exact (Below.refl _ _).alloc (Nat.le_refl _) _
    have hk3 : W3.heap[wr.heap.size]? = some (.cells #[.int .u8 (kd : Int), .int .i64 id, .int .u16 (nn : Int), .string dr] 46 (0, 0)) := by rw [hW3]; exact heap_alloc_new wr _
    obtain ⟨x1, x2, x3, hcu⟩ : ∃ x1 x2 x3, gotC L id = ⟨x1, x2, x3⟩ := ⟨_, _, _, rfl⟩
    obtain ⟨W4, hW4⟩ : ∃ W4, W4 = W3.alloc (.cells #[.int .i64 x1, .string x2, .int .i64 x3] 48) := ⟨_, rfl⟩
    have hb4 : Below W3.heap.size W3 W4 := by rw [hW4]; exact (Below.refl _ _).alloc (Nat.le_refl _) _
    have hkc : W4.heap[W3.heap.size]? = some (.cells #[.int .i64 x1, .string x2, .int .i64 x3] 48 (0, 0)) := by rw [hW4]; exact heap_alloc_new W3 _
    have hka := (hb4.block _ (lt_of_some hk3)).trans hk3
    obtain ⟨qa, hqa⟩ : ∃ qa, qa = wr.heap.size := ⟨_, rfl⟩
    obtain ⟨qc, hqc⟩ : ∃ qc, qc = W3.heap.size := ⟨_, rfl⟩
    rw [← hqa] at hk3 hka
    rw [← hqc] at hkc
    have hqc2 : wr.heap.size + 1 = qc := by rw [hqc, hW3]; simp
    have HQA := Lib.hid hqa.symm
    have HQC := Lib.hid hqc2
    have HQC3 := Lib.hid hqc.symm
    have hI3 := HI.out.later hb3
    have HI4 := Lib.hid (hI3.later hb4)
    have HLO : Hid (w.heap.size ≤ qa ∧ w.heap.size ≤ qc) := Lib.hid (by have := HI.out.st.2.size; omega)
    have hFX : Fits id := fits_of hf2'.1 hf2'.2
    have hlk := hI3.mp.look_ok Try.underlying3 Try.underlying43 (zeroCur W3) hFX
    rw [cR_val] at hlk
    obtain ⟨xn, hxn⟩ : ∃ xn : Int, xn = (nn : Int) := ⟨_, rfl⟩
    have hnw : IntKind.i64.wrap (nn : Int) = xn := by rw [hxn]; exact IntWalk.i64_in _ (by omega)
    have HFX := Lib.hid hFX
    have HKA := Lib.hid hka
    have HKC := Lib.hid hkc
    have HCU := Lib.hid hcu
    have y1 := cell_of_blk hk3 1
    have z0 := cell_of_blk hka 0
    have z1 := cell_of_blk hka 1
    have z2 := cell_of_blk hka 2
    have z3 := cell_of_blk hka 3
    have s0 := cell_of_blk hkc 0
    have s1 := cell_of_blk hkc 1
    have s2 := cell_of_blk hkc 2
    have HW3 := Lib.hid hW3
    have HW4 := Lib.hid hW4
    obtain ⟨mk, hm, hm3⟩ : ∃ mk : Int, mk = (kd : Int) % 4 ∧ (mk = 0 ∨ mk = 1 ∨ mk = 2 ∨ mk = 3) := ⟨_, rfl, by omega⟩
    have hmt : Int.tmod (kd : Int) 4 = mk := by rw [hm, Int.tmod_eq_emod_of_nonneg (by omega)]
    have hme : (kd : Int) % 4 = mk := hm.symm
    have HNJ : Hid (n ≤ j) := Lib.hid HI.out.nj
    clear hm hW3 hb3 hk3 hp hf1 hf2 hf3 hf4 hf2' hf3' HI hI3 hb4 hkc hka hqa hqc hqc2 hW4 hFX hcu hxn
    rcases hv : valC L id with _ | cc
    · have hce : (⟨x1, x2, x3⟩ : Cu) = c0 := by rw [← HCU.out]; unfold gotC; rw [hv]; rfl
      have HV := Lib.hid hv
      rw [hv] at hlk
      replace hlk : (Instr.lookup 43 (.map (some mo)) (.int .i64 id) true).run Try.prog W3 = .ok (.tuple #[curV ⟨x1, x2, x3⟩, .bool false]) W3 := by rw [hce]; exact hlk
      unfold curV at hlk
      clear hv hce
      go_upto_region 12 with fail
      rw [← HW3.out]
      try rw [HQA.out]
      clear t0 t1 t2 t3
      go_upto_region 13 with fail
      rw [← HW4.out]
      try rw [HQC3.out]
      try rw [HQC.out]
      clear y1 hlk
      go_upto_block 2 with fail
      clear hmt hme
      go_cut [7, 14, 15, 16, 17] from 50 to 137 (fun v7 _ _ _ _ wx => Cut w t m mo (j + 1) r v7 wx)
      case first =>
        rcases hm3 with rfl | rfl | rfl | rfl
        · as_aux_lemma =>
            by_cases hfull : r ≤ (L.length : Int)
            · have HP := Lib.hid (cur.open_full w.heap.size t m r n L W4 xn dr HI4.out.st.1 hfull)
              have hge : decide (r ≤ (L.length : Int)) = true := by simpa using hfull
              go_wp2_with fail
              refine HP.out.mono ?_
              rintro e w5 ⟨rfl, kx, hkx⟩
              have hb5 : Below W4.heap.size W4 w5 := by rw [hkx]; exact cur.below_drewN W4 kx
              have hI5 := HI4.out.later hb5
              have hlen : ∀ ty, (Builtin.len_ #[43] ty #[.map (some mo)]).run Try.prog w5 = .ok (.int .i64 (L.length : Int)) w5 := fun ty => by
                have := hI5.mp.len Try.underlying43 ty
                rwa [cR_len] at this
              have HE : Hid (InC w t m mo (j + 1) w5 r n L) := Lib.hid (hI5.le (Nat.le_succ _))
              clear hb5 hkx hI5 HP
              clear z0 z1 z2 z3 s0 s1 s2
              go_wp2_with fail
              go_meet
              case rel => exact ⟨n, _, rfl, HE⟩
            have HP := Lib.hid (cur.open_yes w.heap.size t m r n L W4 xn dr HI4.out.st.1 (by omega) (by have := HI4.out.less; omega) (by omega) (by have := HNJ.out; omega) (fresh_none HI4.out))
            have hge : decide (r ≤ (L.length : Int)) = false := by simp; omega
            have HFULL := Lib.hid hfull
            obtain ⟨n1, hn1⟩ : ∃ n1 : Int, n1 = (n : Int) + 1 := ⟨_, rfl⟩
            have hnw1 : IntKind.i64.wrap ((n : Int) + 1) = n1 := by rw [hn1]; exact IntWalk.i64_in _ (by have := HNJ.out; omega)
            have HN1 := Lib.hid hn1
            unfold OpenIn at HP
            rw [← hn1] at HP
            clear hn1 hfull
            go_wp2_with fail
            refine HP.out.mono ?_
            rintro e w5 ⟨rfl, hk⟩
            have HK := Lib.hid hk
            have HKA5 : Hid (w5.heap[qa]? = some (.cells #[.int .u8 (kd : Int), .int .i64 id, .int .u16 (nn : Int), .string dr] 46 (0, 0))) := Lib.hid (HI4.out.box hk HKA.out (by decide))
            have HKC5 : Hid (w5.heap[qc]? = some (.cells #[.int .i64 x1, .string x2, .int .i64 x3] 48 (0, 0))) := Lib.hid (HI4.out.box hk HKC.out (by decide))
            have a0 := cell_of_blk HKA5.out 0
            have a1 := cell_of_blk HKA5.out 1
            have a2 := cell_of_blk HKA5.out 2
            have a3 := cell_of_blk HKA5.out 3
            have u0 := cell_of_blk HKC5.out 0
            have u1 := cell_of_blk HKC5.out 1
            have u2 := cell_of_blk HKC5.out 2
            have hmk := HI4.out.map_kept hk
            have hlen : ∀ ty, (Builtin.len_ #[43] ty #[.map (some mo)]).run Try.prog w5 = .ok (.int .i64 (L.length : Int)) w5 := fun ty => by
              have := hmk.len Try.underlying43 ty
              rwa [cR_len] at this
            have HMK := Lib.hid hmk
            have HFN : Hid (Fits n1) := Lib.hid (fits_of (by have := HN1.out; omega) (by have := HN1.out; have := HNJ.out; omega))
            have HNO : Hid (valP (cR L) n1 = none) := Lib.hid (by rw [cR_val, HN1.out, fresh_none HI4.out]; rfl)
            have HLL : Hid ((cR L).length < maxLen) := Lib.hid (by rw [cR_len]; have := HI4.out.less; simp only [maxLen]; omega)
            clear hk hmk HP
            clear z0 z1 z2 z3 s0 s1 s2
            go_wp2_with (at_mapUpdate; refine wpList_new rfl _ _ _ 43 rfl 3 48 Try.underlying3 Try.underlying43 mo (cR L) rfl HMK.out HLL.out n1 (curV ⟨xn, dr, 0⟩) rfl rfl HFN.out HNO.out ?_; intro w6 hm6 ht6; have HE : Hid (InC w t m mo (j + 1) w6 r (n + 1) (L ++ [((n : Int) + 1, ⟨xn, dr, 0⟩)])) := Lib.hid (HI4.out.fin (by have h := HK.out; rw [HN1.out] at h; push_cast; exact h) (by rw [cR_snoc, ← HN1.out]; exact hm6) ht6 (ks_open HI4.out _) (by have := HFULL.out; rw [List.length_append]; simp; omega) (by have := HNJ.out; omega)); clear hm6 ht6)
            go_meet
            case rel => exact ⟨n + 1, _, by rw [HN1.out]; push_cast; rfl, HE⟩

        · as_aux_lemma =>
            have HP := Lib.hid (cur.move_no w.heap.size t m r n L id W4 xn HI4.out.st.1 HFX.out HV.out)
            go_wp2_with fail
            refine HP.out.mono ?_
            rintro e w5 ⟨rfl, hb5⟩
            have HE : Hid (InC w t m mo (j + 1) w5 r n L) := Lib.hid ((HI4.out.later hb5).le (Nat.le_succ _))
            clear hb5 HP
            clear z0 z1 z2 z3 s0 s1 s2
            go_wp2_with fail
            go_meet
            case rel => exact ⟨n, _, rfl, HE⟩

        · as_aux_lemma =>
            have HP := Lib.hid (cur.close_no w.heap.size t m r n L id W4 HI4.out.st.1 HFX.out HV.out)
            go_wp2_with fail
            refine HP.out.mono ?_
            rintro e w5 ⟨rfl, hb5⟩
            have HK : Hid (CSt w t m w5 r (n : Int) (delC L id)) := Lib.hid (by rw [del_sameC HV.out]; exact HI4.out.st.later hb5)
            have HKA5 : Hid (w5.heap[qa]? = some (.cells #[.int .u8 (kd : Int), .int .i64 id, .int .u16 (nn : Int), .string dr] 46 (0, 0))) := Lib.hid ((hb5.block _ (lt_of_some HKA.out)).trans HKA.out)
            have HKC5 : Hid (w5.heap[qc]? = some (.cells #[.int .i64 x1, .string x2, .int .i64 x3] 48 (0, 0))) := Lib.hid ((hb5.block _ (lt_of_some HKC.out)).trans HKC.out)
            have a0 := cell_of_blk HKA5.out 0
            have a1 := cell_of_blk HKA5.out 1
            have a2 := cell_of_blk HKA5.out 2
            have a3 := cell_of_blk HKA5.out 3
            have u0 := cell_of_blk HKC5.out 0
            have u1 := cell_of_blk HKC5.out 1
            have u2 := cell_of_blk HKC5.out 2
            have hmk := (HI4.out.later hb5).mp
            have hk := hb5
            clear hb5
            have HMK := Lib.hid hmk
            clear hk hmk HP
            clear z0 z1 z2 z3 s0 s1 s2
            go_wp2_with (at_delete; refine wpList_drop rfl _ _ 43 3 rfl 48 Try.underlying3 Try.underlying43 0 (.map (some mo)) (cR L) rfl (.inr ⟨mo, rfl, Nat.zero_le _, HMK.out⟩) id rfl HFX.out ?_; intro w6 hm6 ht6; have HM6 := Lib.hid hm6; have HT6 := Lib.hid ht6; clear hm6 ht6)
            have hm6 : MapL w6 Try.prog 3 mo (cR (delC L id)) := by
              rcases HM6.out with ⟨h, _⟩ | ⟨b, h, _, hm⟩
              · cases h
              · injection h with h
                injection h with h
                subst h
                rw [cR_del]
                exact hm
            have ht6 : Tn (fun k => k = mo) w5 w6 := HT6.out.mono fun k hk => by
              unfold At at hk
              injection hk with hk
              injection hk with hk
              exact hk.symm
            have HE : Hid (InC w t m mo (j + 1) w6 r n (delC L id)) := Lib.hid (HI4.out.fin2 HK.out hm6 ht6 (del_ks HI4.out id) (by have := del_lenC L id; have := HI4.out.rl; omega) (by have := HNJ.out; omega))
            clear hm6 ht6 HM6 HT6
            go_meet
            case rel => exact ⟨n, _, rfl, HE⟩

        · as_aux_lemma =>
            have hg := get_any w.heap.size t m r n L id W4 HI4.out.st.1 HFX.out
            rw [HCU.out, show gotE L id = 9 from by unfold gotE; rw [HV.out]; rfl] at hg
            have HP := Lib.hid hg
            clear hg
            have hne : ∀ W : World, (binOp .neq 48 (.agg #[.int .i64 x1, .string x2, .int .i64 x3]) (.agg #[.int .i64 x1, .string x2, .int .i64 x3])).run Try.prog W = .ok (.bool false) W := fun W => neq_cur x1 x2 x3 W
            go_wp2_with fail
            refine HP.out.mono ?_
            rintro e w5 ⟨rfl, hb5⟩
            obtain ⟨W6, hW6⟩ : ∃ W6, W6 = w5.alloc (.cells #[.int .i64 x1, .string x2, .int .i64 x3] 48) := ⟨_, rfl⟩
            have hb6 : Below w5.heap.size w5 W6 := by rw [hW6]; exact (Below.refl _ _).alloc (Nat.le_refl _) _
            have hk6 : W6.heap[w5.heap.size]? = some (.cells #[.int .i64 x1, .string x2, .int .i64 x3] 48 (0, 0)) := by rw [hW6]; exact heap_alloc_new w5 _
            have b0 := cell_of_blk hk6 0
            have b1 := cell_of_blk hk6 1
            have b2 := cell_of_blk hk6 2
            have hbc := hb5.trans (hb6.mono hb5.size)
            have hkc6 := (hbc.block _ (lt_of_some HKC.out)).trans HKC.out
            have d0 := cell_of_blk hkc6 0
            have d1 := cell_of_blk hkc6 1
            have d2 := cell_of_blk hkc6 2
            have HE : Hid (InC w t m mo (j + 1) W6 r n L) := Lib.hid ((HI4.out.later hbc).le (Nat.le_succ _))
            have HW6 := Lib.hid hW6
            clear hb5 hb6 hk6 hbc hkc6 hW6 HP
            clear z0 z1 z2 z3 s0 s1 s2
            go_upto_region 18 with fail
            rw [← HW6.out]
            go_wp2_with fail
            go_meet
            case rel => exact ⟨n, _, rfl, HE⟩

      case rest =>
        as_aux_lemma =>
          obtain ⟨n9, L9, rfl, HIC⟩ := hcut
          have hlen : ∀ ty, (Builtin.len_ #[43] ty #[.map (some mo)]).run Try.prog wc = .ok (.int .i64 (L9.length : Int)) wc := fun ty => by
            have := HIC.out.mp.len Try.underlying43 ty
            rwa [cR_len] at this
          have HL1 := Lib.hid (HIC.out.st.len rfl)
          have HR9 := Lib.hid HIC.out.st.room
          have hgt : ¬ r < (L9.length : Int) := by have := HIC.out.rl; omega
          have hgd : decide (r < (L9.length : Int)) = false := by simpa using HIC.out.rl
          go_wp2_with fail
          refine HL1.out.mono ?_
          rintro e wx ⟨rfl, e1⟩
          subst e1
          go_wp2_with fail
          refine HL1.out.mono ?_
          rintro e wx ⟨rfl, e1⟩
          subst e1
          go_wp2_with fail
          refine HR9.out.mono ?_
          rintro e wx ⟨rfl, e1⟩
          subst e1
          go_wp2_with fail
          refine HR9.out.mono ?_
          rintro e wx ⟨rfl, e1⟩
          subst e1
          go_wp2_with fail
          go_roundw
          case rel => exact ⟨j + 1, n9, L9, by go_num, rfl, by omega, HIC⟩
          case measure => simp [intOf]; omega


    · have hce : cc = ⟨x1, x2, x3⟩ := by have h := HCU.out; unfold gotC at h; rw [hv] at h; exact h
      rw [hce] at hv
      have HV := Lib.hid hv
      rw [hv] at hlk
      replace hlk : (Instr.lookup 43 (.map (some mo)) (.int .i64 id) true).run Try.prog W3 = .ok (.tuple #[.agg #[.int .i64 x1, .string x2, .int .i64 x3], .bool true]) W3 := hlk
      clear hv hce
      go_upto_region 12 with fail
      rw [← HW3.out]
      try rw [HQA.out]
      clear t0 t1 t2 t3
      go_upto_region 13 with fail
      rw [← HW4.out]
      try rw [HQC3.out]
      try rw [HQC.out]
      clear y1 hlk
      go_upto_block 2 with fail
      clear hmt hme
      go_cut [7, 14, 15, 16, 17] from 50 to 137 (fun v7 _ _ _ _ wx => Cut w t m mo (j + 1) r v7 wx)
      case first =>
        rcases hm3 with rfl | rfl | rfl | rfl
        · as_aux_lemma =>
            by_cases hfull : r ≤ (L.length : Int)
            · have HP := Lib.hid (cur.open_full w.heap.size t m r n L W4 xn dr HI4.out.st.1 hfull)
              have hge : decide (r ≤ (L.length : Int)) = true := by simpa using hfull
              go_wp2_with fail
              refine HP.out.mono ?_
              rintro e w5 ⟨rfl, kx, hkx⟩
              have hb5 : Below W4.heap.size W4 w5 := by rw [hkx]; exact cur.below_drewN W4 kx
              have hI5 := HI4.out.later hb5
              have hlen : ∀ ty, (Builtin.len_ #[43] ty #[.map (some mo)]).run Try.prog w5 = .ok (.int .i64 (L.length : Int)) w5 := fun ty => by
                have := hI5.mp.len Try.underlying43 ty
                rwa [cR_len] at this
              have HE : Hid (InC w t m mo (j + 1) w5 r n L) := Lib.hid (hI5.le (Nat.le_succ _))
              clear hb5 hkx hI5 HP
              clear z0 z1 z2 z3 s0 s1 s2
              go_wp2_with fail
              go_meet
              case rel => exact ⟨n, _, rfl, HE⟩
            have HP := Lib.hid (cur.open_yes w.heap.size t m r n L W4 xn dr HI4.out.st.1 (by omega) (by have := HI4.out.less; omega) (by omega) (by have := HNJ.out; omega) (fresh_none HI4.out))
            have hge : decide (r ≤ (L.length : Int)) = false := by simp; omega
            have HFULL := Lib.hid hfull
            obtain ⟨n1, hn1⟩ : ∃ n1 : Int, n1 = (n : Int) + 1 := ⟨_, rfl⟩
            have hnw1 : IntKind.i64.wrap ((n : Int) + 1) = n1 := by rw [hn1]; exact IntWalk.i64_in _ (by have := HNJ.out; omega)
            have HN1 := Lib.hid hn1
            unfold OpenIn at HP
            rw [← hn1] at HP
            clear hn1 hfull
            go_wp2_with fail
            refine HP.out.mono ?_
            rintro e w5 ⟨rfl, hk⟩
            have HK := Lib.hid hk
            have HKA5 : Hid (w5.heap[qa]? = some (.cells #[.int .u8 (kd : Int), .int .i64 id, .int .u16 (nn : Int), .string dr] 46 (0, 0))) := Lib.hid (HI4.out.box hk HKA.out (by decide))
            have HKC5 : Hid (w5.heap[qc]? = some (.cells #[.int .i64 x1, .string x2, .int .i64 x3] 48 (0, 0))) := Lib.hid (HI4.out.box hk HKC.out (by decide))
            have a0 := cell_of_blk HKA5.out 0
            have a1 := cell_of_blk HKA5.out 1
            have a2 := cell_of_blk HKA5.out 2
            have a3 := cell_of_blk HKA5.out 3
            have u0 := cell_of_blk HKC5.out 0
            have u1 := cell_of_blk HKC5.out 1
            have u2 := cell_of_blk HKC5.out 2
            have hmk := HI4.out.map_kept hk
            have hlen : ∀ ty, (Builtin.len_ #[43] ty #[.map (some mo)]).run Try.prog w5 = .ok (.int .i64 (L.length : Int)) w5 := fun ty => by
              have := hmk.len Try.underlying43 ty
              rwa [cR_len] at this
            have HMK := Lib.hid hmk
            have HFN : Hid (Fits n1) := Lib.hid (fits_of (by have := HN1.out; omega) (by have := HN1.out; have := HNJ.out; omega))
            have HNO : Hid (valP (cR L) n1 = none) := Lib.hid (by rw [cR_val, HN1.out, fresh_none HI4.out]; rfl)
            have HLL : Hid ((cR L).length < maxLen) := Lib.hid (by rw [cR_len]; have := HI4.out.less; simp only [maxLen]; omega)
            clear hk hmk HP
            clear z0 z1 z2 z3 s0 s1 s2
            go_wp2_with (at_mapUpdate; refine wpList_new rfl _ _ _ 43 rfl 3 48 Try.underlying3 Try.underlying43 mo (cR L) rfl HMK.out HLL.out n1 (curV ⟨xn, dr, 0⟩) rfl rfl HFN.out HNO.out ?_; intro w6 hm6 ht6; have HE : Hid (InC w t m mo (j + 1) w6 r (n + 1) (L ++ [((n : Int) + 1, ⟨xn, dr, 0⟩)])) := Lib.hid (HI4.out.fin (by have h := HK.out; rw [HN1.out] at h; push_cast; exact h) (by rw [cR_snoc, ← HN1.out]; exact hm6) ht6 (ks_open HI4.out _) (by have := HFULL.out; rw [List.length_append]; simp; omega) (by have := HNJ.out; omega)); clear hm6 ht6)
            go_meet
            case rel => exact ⟨n + 1, _, by rw [HN1.out]; push_cast; rfl, HE⟩

        · as_aux_lemma =>
            obtain ⟨a', ha'⟩ : ∃ a' : Int, IntKind.i64.wrap (x3 + xn) = a' := ⟨_, rfl⟩
            have HP := Lib.hid (cur.move_yes w.heap.size t m r n L id W4 xn a' ⟨x1, x2, x3⟩ HI4.out.st.1 HFX.out HV.out ha' (by have := HI4.out.less; omega))
            go_wp2_with fail
            refine HP.out.mono ?_
            rintro e w5 ⟨rfl, hk⟩
            have HK := Lib.hid hk
            have HKA5 : Hid (w5.heap[qa]? = some (.cells #[.int .u8 (kd : Int), .int .i64 id, .int .u16 (nn : Int), .string dr] 46 (0, 0))) := Lib.hid (HI4.out.box hk HKA.out (by decide))
            have HKC5 : Hid (w5.heap[qc]? = some (.cells #[.int .i64 x1, .string x2, .int .i64 x3] 48 (0, 0))) := Lib.hid (HI4.out.box hk HKC.out (by decide))
            have a0 := cell_of_blk HKA5.out 0
            have a1 := cell_of_blk HKA5.out 1
            have a2 := cell_of_blk HKA5.out 2
            have a3 := cell_of_blk HKA5.out 3
            have u0 := cell_of_blk HKC5.out 0
            have u1 := cell_of_blk HKC5.out 1
            have u2 := cell_of_blk HKC5.out 2
            have fu2 := free_of_blk HKC5.out 2
            have hmk := HI4.out.map_kept hk
            obtain ⟨W6, hW6⟩ : ∃ W6, W6 = w5.setCell ⟨qc, 2, none⟩ (.int .i64 a') := ⟨_, rfl⟩
            have ht6 : Tn (fun k => k = qc) w5 W6 := by rw [hW6]; exact (Tn.refl (fun k => k = qc) w5).setCell (p := ⟨qc, 2, none⟩) (.inr rfl) _
            have hk6 : W6.heap[qc]? = some (.cells #[.int .i64 x1, .string x2, .int .i64 a'] 48 (0, 0)) := by rw [hW6]; exact heap_setCell_same w5 _ 2 _ _ _ HKC5.out
            have hka6 : W6.heap[qa]? = some (.cells #[.int .u8 (kd : Int), .int .i64 id, .int .u16 (nn : Int), .string dr] 46 (0, 0)) := (ht6.block qa (lt_of_some HKA5.out) (fun e => by have h := HKA5.out; rw [e, HKC5.out] at h; injection h with h; injection h with _ h; exact absurd h (by decide))).trans HKA5.out
            have hmk6 := hmk.of_block (ht6.block mo hmk.lt (fun e => hmk.not _ _ _ (e ▸ HKC5.out)))
            have HST6 := Lib.hid (cst_over (HI4.out.st.kept hk) HKC5.out (by decide) HLO.out.2 ht6)
            have HMK6 := Lib.hid hmk6
            have b0 := cell_of_blk hk6 0
            have b1 := cell_of_blk hk6 1
            have b2 := cell_of_blk hk6 2
            have d1 := cell_of_blk hka6 1
            have HW6 := Lib.hid hW6
            have HYS : Hid ((valP (cR L) id).isSome = true) := Lib.hid (by rw [cR_val, HV.out]; rfl)
            have HLL : Hid ((cR L).length < maxLen) := Lib.hid (by rw [cR_len]; have := HI4.out.less; simp only [maxLen]; omega)
            clear hk hmk HP hW6 ht6 hk6 hka6 hmk6
            clear z0 z1 z2 z3 s0 s1 s2
            go_upto_region 34 with fail
            rw [← HW6.out]
            clear a0 a1 a2 a3 u0 u1 u2 fu2
            go_wp2_with (at_mapUpdate; refine wpList_old rfl _ _ _ 43 rfl 3 48 Try.underlying3 Try.underlying43 mo (cR L) rfl HMK6.out HLL.out id (curV ⟨x1, x2, a'⟩) rfl rfl HFX.out HYS.out ?_; intro w7 hm7 ht7; have HE : Hid (InC w t m mo (j + 1) w7 r n (setC L id ⟨x1, x2, a'⟩)) := Lib.hid (HI4.out.fin2 HST6.out (by rw [cR_set]; exact hm7) ht7 (by rw [keys_set]; exact HI4.out.ks) (by rw [set_lenC]; exact HI4.out.rl) (by have := HNJ.out; omega)); clear hm7 ht7)
            go_meet
            case rel => exact ⟨n, _, rfl, HE⟩

        · as_aux_lemma =>
            have HP := Lib.hid (cur.close_yes w.heap.size t m r n L id W4 ⟨x1, x2, x3⟩ HI4.out.st.1 HFX.out HV.out)
            go_wp2_with fail
            refine HP.out.mono ?_
            rintro e w5 ⟨rfl, hk⟩
            have HK := Lib.hid (HI4.out.st.kept hk)
            have HKA5 : Hid (w5.heap[qa]? = some (.cells #[.int .u8 (kd : Int), .int .i64 id, .int .u16 (nn : Int), .string dr] 46 (0, 0))) := Lib.hid (HI4.out.box hk HKA.out (by decide))
            have HKC5 : Hid (w5.heap[qc]? = some (.cells #[.int .i64 x1, .string x2, .int .i64 x3] 48 (0, 0))) := Lib.hid (HI4.out.box hk HKC.out (by decide))
            have a0 := cell_of_blk HKA5.out 0
            have a1 := cell_of_blk HKA5.out 1
            have a2 := cell_of_blk HKA5.out 2
            have a3 := cell_of_blk HKA5.out 3
            have u0 := cell_of_blk HKC5.out 0
            have u1 := cell_of_blk HKC5.out 1
            have u2 := cell_of_blk HKC5.out 2
            have hmk := HI4.out.map_kept hk
            have HMK := Lib.hid hmk
            clear hk hmk HP
            clear z0 z1 z2 z3 s0 s1 s2
            go_wp2_with (at_delete; refine wpList_drop rfl _ _ 43 3 rfl 48 Try.underlying3 Try.underlying43 0 (.map (some mo)) (cR L) rfl (.inr ⟨mo, rfl, Nat.zero_le _, HMK.out⟩) id rfl HFX.out ?_; intro w6 hm6 ht6; have HM6 := Lib.hid hm6; have HT6 := Lib.hid ht6; clear hm6 ht6)
            have hm6 : MapL w6 Try.prog 3 mo (cR (delC L id)) := by
              rcases HM6.out with ⟨h, _⟩ | ⟨b, h, _, hm⟩
              · cases h
              · injection h with h
                injection h with h
                subst h
                rw [cR_del]
                exact hm
            have ht6 : Tn (fun k => k = mo) w5 w6 := HT6.out.mono fun k hk => by
              unfold At at hk
              injection hk with hk
              injection hk with hk
              exact hk.symm
            have HE : Hid (InC w t m mo (j + 1) w6 r n (delC L id)) := Lib.hid (HI4.out.fin2 HK.out hm6 ht6 (del_ks HI4.out id) (by have := del_lenC L id; have := HI4.out.rl; omega) (by have := HNJ.out; omega))
            clear hm6 ht6 HM6 HT6
            go_meet
            case rel => exact ⟨n, _, rfl, HE⟩

        · as_aux_lemma =>
            have hg := get_any w.heap.size t m r n L id W4 HI4.out.st.1 HFX.out
            rw [HCU.out, show gotE L id = 0 from by unfold gotE; rw [HV.out]; rfl] at hg
            have HP := Lib.hid hg
            clear hg
            have hne : ∀ W : World, (binOp .neq 48 (.agg #[.int .i64 x1, .string x2, .int .i64 x3]) (.agg #[.int .i64 x1, .string x2, .int .i64 x3])).run Try.prog W = .ok (.bool false) W := fun W => neq_cur x1 x2 x3 W
            go_wp2_with fail
            refine HP.out.mono ?_
            rintro e w5 ⟨rfl, hb5⟩
            obtain ⟨W6, hW6⟩ : ∃ W6, W6 = w5.alloc (.cells #[.int .i64 x1, .string x2, .int .i64 x3] 48) := ⟨_, rfl⟩
            have hb6 : Below w5.heap.size w5 W6 := by rw [hW6]; exact (Below.refl _ _).alloc (Nat.le_refl _) _
            have hk6 : W6.heap[w5.heap.size]? = some (.cells #[.int .i64 x1, .string x2, .int .i64 x3] 48 (0, 0)) := by rw [hW6]; exact heap_alloc_new w5 _
            have b0 := cell_of_blk hk6 0
            have b1 := cell_of_blk hk6 1
            have b2 := cell_of_blk hk6 2
            have hbc := hb5.trans (hb6.mono hb5.size)
            have hkc6 := (hbc.block _ (lt_of_some HKC.out)).trans HKC.out
            have d0 := cell_of_blk hkc6 0
            have d1 := cell_of_blk hkc6 1
            have d2 := cell_of_blk hkc6 2
            have HE : Hid (InC w t m mo (j + 1) W6 r n L) := Lib.hid ((HI4.out.later hbc).le (Nat.le_succ _))
            have HW6 := Lib.hid hW6
            clear hb5 hb6 hk6 hbc hkc6 hW6 HP
            clear z0 z1 z2 z3 s0 s1 s2
            go_upto_region 18 with fail
            rw [← HW6.out]
            go_wp2_with fail
            go_meet
            case rel => exact ⟨n, _, rfl, HE⟩

      case rest =>
        as_aux_lemma =>
          obtain ⟨n9, L9, rfl, HIC⟩ := hcut
          have hlen : ∀ ty, (Builtin.len_ #[43] ty #[.map (some mo)]).run Try.prog wc = .ok (.int .i64 (L9.length : Int)) wc := fun ty => by
            have := HIC.out.mp.len Try.underlying43 ty
            rwa [cR_len] at this
          have HL1 := Lib.hid (HIC.out.st.len rfl)
          have HR9 := Lib.hid HIC.out.st.room
          have hgt : ¬ r < (L9.length : Int) := by have := HIC.out.rl; omega
          have hgd : decide (r < (L9.length : Int)) = false := by simpa using HIC.out.rl
          go_wp2_with fail
          refine HL1.out.mono ?_
          rintro e wx ⟨rfl, e1⟩
          subst e1
          go_wp2_with fail
          refine HL1.out.mono ?_
          rintro e wx ⟨rfl, e1⟩
          subst e1
          go_wp2_with fail
          refine HR9.out.mono ?_
          rintro e wx ⟨rfl, e1⟩
          subst e1
          go_wp2_with fail
          refine HR9.out.mono ?_
          rintro e wx ⟨rfl, e1⟩
          subst e1
          go_wp2_with fail
          go_roundw
          case rel => exact ⟨j + 1, n9, L9, by go_num, rfl, by omega, HIC⟩
          case measure => simp [intOf]; omega



end Go.Proofs.Ythmehalkijbpdaa.cdo
