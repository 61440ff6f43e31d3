/- MergeOdd's law returns true: a page from anywhere, of any size. Condition: the names lie in memory; the library's MaxLen holds a number. -/
import Derived.Test.YtmmpceodhadipaaDoorJY4
import Derived.BigQuiet
namespace Go.Proofs.YtmmpceodhadipaaDoor.mrg
set_option maxRecDepth 100000
open Go.RowKit Go.Proofs.YtmmpceodhadipaaDoor.words Go.Proofs.YtmmpceodhadipaaDoor.ext Go.Proofs.YtmmpceodhadipaaDoor.name Go.Proofs.YtmmpceodhadipaaDoor.tre Go.Proofs.YtmmpceodhadipaaDoor.stk Go.Proofs.YtmmpceodhadipaaDoor.seen

def en (N : List ByteArray) : List (ByteArray × Int) := N.map fun s => (s, 0)
theorem en_len {N : List ByteArray} : (en N).length = N.length := List.length_map ..
theorem en_at {N : List ByteArray} {i : Nat} {s : ByteArray} (h : N[i]? = some s) : (en N)[i]? = some (s, 0) := by unfold en; rw [List.getElem?_map, h]; rfl
theorem en_next {N : List ByteArray} {k : Nat} {s : ByteArray} (h : N[k]? = some s) : (en (N.take (k + 1))).flatMap enC = (en (N.take k)).flatMap enC ++ [.string s, .int .i64 0] := by
  obtain ⟨hk, hs⟩ := List.getElem?_eq_some_iff.1 h
  rw [List.take_succ_eq_append_getElem hk, hs]
  unfold en
  rw [List.map_append, List.flatMap_append]
  rfl
theorem en_neq (s : ByteArray) (r : Int) (W : World) : Sem.run Tryd.prog (binOp .neq 79 (.agg #[.string s, .int .i64 r]) (.agg #[.string s, .int .i64 r])) W = .ok (.bool false) W := by
  rw [run_neq_struct]
  have hs : Tryd.prog.underlying 9 = some .string := Tryd.underlying9
  have hi : Tryd.prog.underlying 3 = some (.int .i64) := Tryd.underlying3
  rw [run_equalIn_agg W 9999 79 _ _ (by kernel_rfl) (by kernel_rfl)]
  simp [hs, hi, go_sem]
theorem page_en (A : Option Addr) (c : Nat) (N : List ByteArray) (f m : Int) (a n : Nat) (b : Bool) (w : World) (hE : Lies w A ((en N).flatMap enC)) (hz : A = none → c = 0) (hl : N.length ≤ 1000000) (hc : N.length ≤ c)
    (ha : (a : Int) = min (max f 0) (N.length : Int)) (hn : (n : Int) = min (max m 0) ((N.length - a : Nat) : Int)) (hb : (n == N.length - a) = b) :
    Calls Tryd.prog 45 #[.slice A N.length c, .int .i64 f, .int .i64 m] w fun e w' => ∃ A' c', e = .returned (.tuple #[.slice A' n c', .bool b]) ∧ w'.ownsRow w.heap.size 79 2 (.slice A' n c') n ((((en N).drop a).take n).flatMap enC) ∧ Below w.heap.size w w' := by
  have h := page_any A c (en N) f m a n w hE hz (by rw [en_len]; exact hl) (by rw [en_len]; exact hc) (by rw [en_len]; exact ha) (by rw [en_len]; exact hn)
  rw [en_len] at h
  refine h.mono ?_
  rintro e w' ⟨A', c', rfl, ho, hb'⟩
  exact ⟨A', c', by rw [en_len, hb], ho, hb'⟩
set_option maxHeartbeats 12800000 in
theorem law_odd (A : Option Addr) (c : Nat) (N : List ByteArray) (f m mx : Int) (w : World) (hT : Txts w w.heap.size A N) (hm : w.cell? ⟨0, 0, none⟩ = some (.int .i64 mx)) :
    Calls Tryd.prog 10 #[.slice A N.length c, .int .i64 f, .int .i64 m] w fun e w' => e = .returned (.bool true) ∧ Below w.heap.size w w' := by
  have HT := Lib.hid hT
  have HS := Lib.hid (mrg.speaks_any mx w hm)
  obtain ⟨iE, hiE, zE0, zE1, zE2⟩ := info_parts infoEntry
  clear hT hm
  go_enter Tryd.func10, Tryd.ntmps10
  go_wp2_with fail
  refine HS.out.mono ?_
  rintro e w1 ⟨rfl, hb1⟩
  replace HT := Lib.hid ((HT.out.keep hb1).more hb1.size)
  have HB1 := Lib.hid hb1
  clear hb1 HS
  by_cases hn : 100 < N.length
  · have g : (100 : Int) < (N.length : Int) := by omega
    go_wp2_with fail
    go_ret
    exact ⟨rfl, HB1.out⟩
  · have g : ¬ (100 : Int) < (N.length : Int) := by omega
    go_wp2_with fail
    go_loopw [23, 7] (fun v v7 wr => ∃ k : Nat, v = .int .i64 (k : Int) ∧ k ≤ N.length ∧ Hid (wr.ownsRow w1.heap.size 79 2 v7 k ((en (N.take k)).flatMap enC)) ∧ Hid (Below w1.heap.size w1 wr)) (fun v _ _ => N.length - (intOf v).toNat)
    case atStart => exact ⟨0, rfl, Nat.zero_le _, Lib.hid (World.ownsRow_nil _ _ _ _), Lib.hid (Below.refl _ _)⟩
    case round =>
      obtain ⟨k, rfl, hk, HO, HB⟩ := hrel
      obtain ⟨Ar, cr, rfl, hcr, hzr⟩ := own_facts HO.out
      by_cases hlt : k < N.length
      · obtain ⟨s, hs⟩ : ∃ s, N[k]? = some s := ⟨_, List.getElem?_eq_getElem hlt⟩
        obtain ⟨⟨b, off, hA, hb, x0⟩, _⟩ := HT.out.keep HB.out k s hs
        subst hA
        have i0 : (0 : Int) ≤ (k : Int) := by omega
        have i1 : (k : Int) < (N.length : Int) := by omega
        obtain ⟨Wc, hWc⟩ : ∃ Wc, Wc = wr.alloc (.cells #[.string s, .int .i64 0] 79) := ⟨_, rfl⟩
        have hbc : Below wr.heap.size wr Wc := by rw [hWc]; exact (Below.refl _ _).alloc (Nat.le_refl _) _
        have HNc : Hid (∀ (i : Nat) (u : Value), ([.string s, .int .i64 0] : List Value)[i]? = some u → Wc.cell? ((⟨wr.heap.size, 0, none⟩ : Addr).add i) = some u) := Lib.hid fun i u hi => by rw [hWc, new_cell]; simpa using hi
        have HOc := Lib.hid (ownL HO.out hbc)
        have HBc := Lib.hid (HB.out.trans (hbc.mono HB.out.size))
        have HTk := Lib.hid (en_next hs)
        have HWc := Lib.hid hWc.symm
        clear hs hb hWc hbc HO HB hzr
        go_wp2_with (at_builtin; rw [HWc.out]; refine wpList_append_own _ rfl (.tmp 27) (.tmp 30) 77 rfl w1.heap.size 79 iE _ 2 24 Tryd.underlying77 hiE zE0 zE1 zE2 rfl (by omega) (.slice Ar k cr) k ((en (N.take k)).flatMap enC) rfl HOc.out ⟨wr.heap.size, 0, none⟩ 1 1 [.string s, .int .i64 0] rfl rfl HNc.out (by simp [Value.oneCell']) (by simp only [maxLen]; omega) (by omega) HBc.out.size ?_; intro v7' wq hownq hgrowq hnilq)
        have HBq := Lib.hid (keep_grown HBc.out HOc.out hgrowq (Nat.le_refl _) (Nat.le_refl _))
        have HOq : Hid (wq.ownsRow w1.heap.size 79 2 v7' (k + 1) ((en (N.take (k + 1))).flatMap enC)) := Lib.hid (by rw [HTk.out]; exact hownq)
        clear hownq hgrowq hnilq x0
        go_roundw
        case rel => exact ⟨k + 1, by go_num, by omega, HOq, HBq⟩
        case measure => simp [intOf]; omega
      · obtain rfl : k = N.length := by omega
        have HO2 : Hid (wr.ownsRow w1.heap.size 79 2 (.slice Ar N.length cr) N.length ((en N).flatMap enC)) := Lib.hid (by have h := HO.out; rwa [List.take_length] at h)
        have HL := Lib.hid (lies_own HO2.out)
        have HBr := Lib.hid (HB1.out.trans (HB.out.mono HB1.out.size))
        have HZ : Hid (Ar = none → cr = 0) := Lib.hid fun e => (hzr e).2
        have HCr := Lib.hid hcr
        clear HO HB HO2 hzr hcr
        obtain ⟨ln, hln⟩ : ∃ ln, ln = N.length := ⟨_, rfl⟩
        obtain ⟨al, hal⟩ : ∃ al : Nat, (al : Int) = min (max f 0) (ln : Int) := ⟨(min (max f 0) (ln : Int)).toNat, by omega⟩
        obtain ⟨n, hnn⟩ : ∃ n : Nat, (n : Int) = min (max m 0) ((ln - al : Nat) : Int) := ⟨(min (max m 0) ((ln - al : Nat) : Int)).toNat, by omega⟩
        have ha1 : al ≤ ln := by omega
        have hn1 : n ≤ ln - al := by omega
        have hl1 : ln ≤ 100 := by omega
        have hmn : min (max f 0) (ln : Int) = (al : Int) := hal.symm
        have r0 : -9223372036854775808 ≤ (ln : Int) - (al : Int) := by omega
        have r1 : (ln : Int) - (al : Int) < 9223372036854775808 := by omega
        have HP : ∀ b, (n == N.length - al) = b → Hid _ := fun b hb => Lib.hid (page_en Ar cr N f m al n b wr HL.out HZ.out (by omega) HCr.out (by rw [← hln]; exact hal) (by rw [← hln]; exact hnn) hb)
        rw [← hln] at HP
        rw [← hln]
        by_cases hmm : m < (ln : Int) - (al : Int)
        · have hmx : max m 0 = (n : Int) := by omega
          by_cases hb : n = ln - al
          · skip
            have HC := HP true (by rw [hb]; simp)
            have q1 : ((n : Int) != (al : Int) + (n : Int) - (al : Int)) = false := by rw [bne_eq_false_iff_eq]; omega
            have q2 : ((al : Int) + (n : Int) == (ln : Int)) = true := by rw [beq_iff_eq]; omega
            have r2 : -9223372036854775808 ≤ (al : Int) + (n : Int) := by omega
            have r3 : (al : Int) + (n : Int) < 9223372036854775808 := by omega
            have r4 : -9223372036854775808 ≤ (al : Int) + (n : Int) - (al : Int) := by omega
            have r5 : (al : Int) + (n : Int) - (al : Int) < 9223372036854775808 := by omega
            have HN1 := Lib.hid hn1
            have HA1 := Lib.hid ha1
            have HLn := Lib.hid hln
            clear HP hal hnn hln ha1 hn1 hb
            go_wp2_with fail
            refine HC.out.mono ?_
            rintro e w3 ⟨Ap, cp, rfl, hop, hb3⟩
            have HLp := Lib.hid (lies_own hop)
            have HL3 := Lib.hid (Below.lies HL.out hb3)
            have HB3 := Lib.hid (HBr.out.trans (hb3.mono HBr.out.size))
            clear hop hb3 HC
            go_wp2_with fail
            go_loopw [73] (fun v wo => ∃ k : Nat, v = .int .i64 (k : Int) ∧ k ≤ n ∧ Hid (Below w3.heap.size w3 wo)) (fun v _ => n - (intOf v).toNat)
            case atStart => exact ⟨0, rfl, Nat.zero_le _, Lib.hid (Below.refl _ _)⟩
            case round =>
              rename World => wo
              obtain ⟨i, rfl, hi, HBo⟩ := hrel
              by_cases hlt : i < n
              · obtain ⟨s, hs⟩ : ∃ s, N[al + i]? = some s := ⟨_, List.getElem?_eq_getElem (by have := HN1.out; have := HLn.out; omega)⟩
                have hx := en_at hs
                have hxp : (((en N).drop al).take n)[i]? = some (s, 0) := by rw [List.getElem?_take_of_lt hlt, List.getElem?_drop]; exact hx
                obtain ⟨bl, ol, hA1, hb1, x0, x1⟩ := lies_en (Below.lies HL3.out HBo.out) hx
                obtain ⟨bp, op, hA2, hb2, y0, y1⟩ := lies_en (Below.lies HLp.out HBo.out) hxp
                subst hA1 hA2
                have i0 : (0 : Int) ≤ (i : Int) := by omega
                have i1 : (i : Int) < (n : Int) := by omega
                have j0 : (0 : Int) ≤ (al : Int) + (i : Int) := by omega
                have j1 : (al : Int) + (i : Int) < (ln : Int) := by have := HN1.out; omega
                have j2 : ((al : Int) + (i : Int)).toNat = al + i := by omega
                have j3 : (al : Int) + (i : Int) < 9223372036854775808 := by omega
                have j4 : -9223372036854775808 ≤ (al : Int) + (i : Int) := by omega
                obtain ⟨W1, hW1⟩ : ∃ W1, W1 = wo.alloc (.cells #[.string s, .int .i64 0] 79) := ⟨_, rfl⟩
                have hw1 : Below wo.heap.size wo W1 := by rw [hW1]; exact (Below.refl _ _).alloc (Nat.le_refl _) _
                have hbk : W1.heap[wo.heap.size]? = some (.cells #[.string s, .int .i64 0] 79 (0, 0)) := by rw [hW1]; exact heap_alloc_new wo _
                have e0 := cell_of_blk hbk 0
                have e1 := cell_of_blk hbk 1
                have s0 : W1.cell? ⟨bl, ol + (al + i) * 2, none⟩ = some (.string s) := (hw1.cell (p := ⟨bl, ol + (al + i) * 2, none⟩) hb1).trans x0
                have s1 : W1.cell? ⟨bl, ol + (al + i) * 2 + 1, none⟩ = some (.int .i64 0) := (hw1.cell (p := ⟨bl, ol + (al + i) * 2 + 1, none⟩) hb1).trans x1
                have hneq := en_neq s 0
                have HW1 := Lib.hid hW1
                have HBW := Lib.hid (HBo.out.trans (hw1.mono HBo.out.size))
                clear hs hx hxp hb1 hb2 hw1 hbk hW1 x0 x1 HBo
                go_upto_region 21 with fail
                rw [← HW1.out]
                clear HW1 y0 y1
                go_quiet (fail)
                go_wp2_with fail
                go_roundw
                case rel => exact ⟨i + 1, by go_num, by omega, Lib.hid (below_drewN HBW.out _)⟩
                case measure => simp [intOf]; omega
              · obtain rfl : i = n := by omega
                have HE := Lib.hid (HB3.out.trans (HBo.out.mono HB3.out.size))
                clear HBo
                go_wp2_with fail
                go_ret
                exact ⟨rfl, HE.out⟩
          · skip
            have HC := HP false (by rw [beq_eq_false_iff_ne]; exact hb)
            have q1 : ((n : Int) != (al : Int) + (n : Int) - (al : Int)) = false := by rw [bne_eq_false_iff_eq]; omega
            have q2 : ((al : Int) + (n : Int) == (ln : Int)) = false := by rw [beq_eq_false_iff_ne]; omega
            have r2 : -9223372036854775808 ≤ (al : Int) + (n : Int) := by omega
            have r3 : (al : Int) + (n : Int) < 9223372036854775808 := by omega
            have r4 : -9223372036854775808 ≤ (al : Int) + (n : Int) - (al : Int) := by omega
            have r5 : (al : Int) + (n : Int) - (al : Int) < 9223372036854775808 := by omega
            have HN1 := Lib.hid hn1
            have HA1 := Lib.hid ha1
            have HLn := Lib.hid hln
            clear HP hal hnn hln ha1 hn1 hb
            go_wp2_with fail
            refine HC.out.mono ?_
            rintro e w3 ⟨Ap, cp, rfl, hop, hb3⟩
            have HLp := Lib.hid (lies_own hop)
            have HL3 := Lib.hid (Below.lies HL.out hb3)
            have HB3 := Lib.hid (HBr.out.trans (hb3.mono HBr.out.size))
            clear hop hb3 HC
            go_wp2_with fail
            go_loopw [73] (fun v wo => ∃ k : Nat, v = .int .i64 (k : Int) ∧ k ≤ n ∧ Hid (Below w3.heap.size w3 wo)) (fun v _ => n - (intOf v).toNat)
            case atStart => exact ⟨0, rfl, Nat.zero_le _, Lib.hid (Below.refl _ _)⟩
            case round =>
              rename World => wo
              obtain ⟨i, rfl, hi, HBo⟩ := hrel
              by_cases hlt : i < n
              · obtain ⟨s, hs⟩ : ∃ s, N[al + i]? = some s := ⟨_, List.getElem?_eq_getElem (by have := HN1.out; have := HLn.out; omega)⟩
                have hx := en_at hs
                have hxp : (((en N).drop al).take n)[i]? = some (s, 0) := by rw [List.getElem?_take_of_lt hlt, List.getElem?_drop]; exact hx
                obtain ⟨bl, ol, hA1, hb1, x0, x1⟩ := lies_en (Below.lies HL3.out HBo.out) hx
                obtain ⟨bp, op, hA2, hb2, y0, y1⟩ := lies_en (Below.lies HLp.out HBo.out) hxp
                subst hA1 hA2
                have i0 : (0 : Int) ≤ (i : Int) := by omega
                have i1 : (i : Int) < (n : Int) := by omega
                have j0 : (0 : Int) ≤ (al : Int) + (i : Int) := by omega
                have j1 : (al : Int) + (i : Int) < (ln : Int) := by have := HN1.out; omega
                have j2 : ((al : Int) + (i : Int)).toNat = al + i := by omega
                have j3 : (al : Int) + (i : Int) < 9223372036854775808 := by omega
                have j4 : -9223372036854775808 ≤ (al : Int) + (i : Int) := by omega
                obtain ⟨W1, hW1⟩ : ∃ W1, W1 = wo.alloc (.cells #[.string s, .int .i64 0] 79) := ⟨_, rfl⟩
                have hw1 : Below wo.heap.size wo W1 := by rw [hW1]; exact (Below.refl _ _).alloc (Nat.le_refl _) _
                have hbk : W1.heap[wo.heap.size]? = some (.cells #[.string s, .int .i64 0] 79 (0, 0)) := by rw [hW1]; exact heap_alloc_new wo _
                have e0 := cell_of_blk hbk 0
                have e1 := cell_of_blk hbk 1
                have s0 : W1.cell? ⟨bl, ol + (al + i) * 2, none⟩ = some (.string s) := (hw1.cell (p := ⟨bl, ol + (al + i) * 2, none⟩) hb1).trans x0
                have s1 : W1.cell? ⟨bl, ol + (al + i) * 2 + 1, none⟩ = some (.int .i64 0) := (hw1.cell (p := ⟨bl, ol + (al + i) * 2 + 1, none⟩) hb1).trans x1
                have hneq := en_neq s 0
                have HW1 := Lib.hid hW1
                have HBW := Lib.hid (HBo.out.trans (hw1.mono HBo.out.size))
                clear hs hx hxp hb1 hb2 hw1 hbk hW1 x0 x1 HBo
                go_upto_region 21 with fail
                rw [← HW1.out]
                clear HW1 y0 y1
                go_quiet (fail)
                go_wp2_with fail
                go_roundw
                case rel => exact ⟨i + 1, by go_num, by omega, Lib.hid (below_drewN HBW.out _)⟩
                case measure => simp [intOf]; omega
              · obtain rfl : i = n := by omega
                have HE := Lib.hid (HB3.out.trans (HBo.out.mono HB3.out.size))
                clear HBo
                go_wp2_with fail
                go_ret
                exact ⟨rfl, HE.out⟩
        · skip
          have hb : n = ln - al := by omega
          have HC := HP true (by rw [hb]; simp)
          have q1 : ((n : Int) != (ln : Int) - (al : Int)) = false := by rw [bne_eq_false_iff_eq]; omega
          have HN1 := Lib.hid hn1
          have HA1 := Lib.hid ha1
          have HLn := Lib.hid hln
          clear HP hal hnn hln ha1 hn1 hb
          go_wp2_with fail
          refine HC.out.mono ?_
          rintro e w3 ⟨Ap, cp, rfl, hop, hb3⟩
          have HLp := Lib.hid (lies_own hop)
          have HL3 := Lib.hid (Below.lies HL.out hb3)
          have HB3 := Lib.hid (HBr.out.trans (hb3.mono HBr.out.size))
          clear hop hb3 HC
          go_wp2_with fail
          go_loopw [73] (fun v wo => ∃ k : Nat, v = .int .i64 (k : Int) ∧ k ≤ n ∧ Hid (Below w3.heap.size w3 wo)) (fun v _ => n - (intOf v).toNat)
          case atStart => exact ⟨0, rfl, Nat.zero_le _, Lib.hid (Below.refl _ _)⟩
          case round =>
            rename World => wo
            obtain ⟨i, rfl, hi, HBo⟩ := hrel
            by_cases hlt : i < n
            · obtain ⟨s, hs⟩ : ∃ s, N[al + i]? = some s := ⟨_, List.getElem?_eq_getElem (by have := HN1.out; have := HLn.out; omega)⟩
              have hx := en_at hs
              have hxp : (((en N).drop al).take n)[i]? = some (s, 0) := by rw [List.getElem?_take_of_lt hlt, List.getElem?_drop]; exact hx
              obtain ⟨bl, ol, hA1, hb1, x0, x1⟩ := lies_en (Below.lies HL3.out HBo.out) hx
              obtain ⟨bp, op, hA2, hb2, y0, y1⟩ := lies_en (Below.lies HLp.out HBo.out) hxp
              subst hA1 hA2
              have i0 : (0 : Int) ≤ (i : Int) := by omega
              have i1 : (i : Int) < (n : Int) := by omega
              have j0 : (0 : Int) ≤ (al : Int) + (i : Int) := by omega
              have j1 : (al : Int) + (i : Int) < (ln : Int) := by have := HN1.out; omega
              have j2 : ((al : Int) + (i : Int)).toNat = al + i := by omega
              have j3 : (al : Int) + (i : Int) < 9223372036854775808 := by omega
              have j4 : -9223372036854775808 ≤ (al : Int) + (i : Int) := by omega
              obtain ⟨W1, hW1⟩ : ∃ W1, W1 = wo.alloc (.cells #[.string s, .int .i64 0] 79) := ⟨_, rfl⟩
              have hw1 : Below wo.heap.size wo W1 := by rw [hW1]; exact (Below.refl _ _).alloc (Nat.le_refl _) _
              have hbk : W1.heap[wo.heap.size]? = some (.cells #[.string s, .int .i64 0] 79 (0, 0)) := by rw [hW1]; exact heap_alloc_new wo _
              have e0 := cell_of_blk hbk 0
              have e1 := cell_of_blk hbk 1
              have s0 : W1.cell? ⟨bl, ol + (al + i) * 2, none⟩ = some (.string s) := (hw1.cell (p := ⟨bl, ol + (al + i) * 2, none⟩) hb1).trans x0
              have s1 : W1.cell? ⟨bl, ol + (al + i) * 2 + 1, none⟩ = some (.int .i64 0) := (hw1.cell (p := ⟨bl, ol + (al + i) * 2 + 1, none⟩) hb1).trans x1
              have hneq := en_neq s 0
              have HW1 := Lib.hid hW1
              have HBW := Lib.hid (HBo.out.trans (hw1.mono HBo.out.size))
              clear hs hx hxp hb1 hb2 hw1 hbk hW1 x0 x1 HBo
              go_upto_region 21 with fail
              rw [← HW1.out]
              clear HW1 y0 y1
              go_quiet (fail)
              go_wp2_with fail
              go_roundw
              case rel => exact ⟨i + 1, by go_num, by omega, Lib.hid (below_drewN HBW.out _)⟩
              case measure => simp [intOf]; omega
            · obtain rfl : i = n := by omega
              have HE := Lib.hid (HB3.out.trans (HBo.out.mono HB3.out.size))
              clear HBo
              go_wp2_with fail
              go_ret
              exact ⟨rfl, HE.out⟩
end Go.Proofs.YtmmpceodhadipaaDoor.mrg
