/- The law of layer 9: whatever rows come in, what is merged, and the first one of each name, are the reference's. Condition: the rows lie in memory. -/
import Derived.Test.YtdibdbadoigfoaaHeapSpeaks
import Derived.Laws.StructEq
namespace Go.Proofs.Ytdibdbadoigfoaa.heap
set_option maxRecDepth 100000
open Go.RowKit Go.Proofs.Ytdibdbadoigfoaa.words
open scoped List

theorem Itms.more {w : World} {B B' : Nat} {A : Option Addr} {out : List It} (h : Itms w B A out) (hB : B ≤ B') : Itms w B' A out := fun i x hx => by
  obtain ⟨b, off, h1, h2, h3⟩ := h i x hx
  exact ⟨b, off, h1, Nat.lt_of_lt_of_le h2 hB, h3⟩
theorem Itms.later {w w' : World} {A : Option Addr} {out : List It} (h : Itms w w.heap.size A out) (hb : Below w.heap.size w w') : Itms w' w'.heap.size A out := (h.keep hb).more hb.size
theorem Rws.later {w w' : World} {A : Option Addr} {L : List (List ByteArray)} (h : Rws w w.heap.size A L) (hb : Below w.heap.size w w') : Rws w' w'.heap.size A L := fun i l hl => by
  obtain ⟨b, off, Ai, ci, h1, h2, h3, h4, h5⟩ := h i l hl
  exact ⟨b, off, Ai, ci, h1, Nat.lt_of_lt_of_le h2 hb.size, (hb.cell (p := ⟨b, off + i, none⟩) h2).trans h3, (h4.keep hb).more hb.size, h5⟩
theorem tot_le {L : List (List ByteArray)} {m : Nat} (h : ∀ l ∈ L, l.length ≤ m) : tot L ≤ L.length * m := by
  unfold tot allF
  have : ∀ (L : List (List ByteArray)) (i : Nat), (∀ l ∈ L, l.length ≤ m) → (remF (fun _ => 0) i L).length ≤ L.length * m := by
    intro L
    induction L with
    | nil => intro i _; exact Nat.zero_le _
    | cons l L ih =>
      intro i h
      rw [remF, List.length_append, List.length_map, List.drop_zero, List.length_cons, Nat.succ_mul]
      have h1 := ih (i + 1) fun l hl => h l (List.mem_cons_of_mem _ hl)
      have h2 := h l (List.mem_cons_self ..)
      omega
  exact this L 0 h
theorem it_neq (s : ByteArray) (r : Int) (W : World) : Sem.run Try.prog (binOp .neq 32 (.agg #[.string s, .int .i64 r]) (.agg #[.string s, .int .i64 r])) W = .ok (.bool false) W := by
  rw [run_neq_struct]
  have hs : Try.prog.underlying 9 = some .string := Try.underlying9
  have hi : Try.prog.underlying 3 = some (.int .i64) := Try.underlying3
  rw [run_equalIn_agg W 9999 32 _ _ (by kernel_rfl) (by kernel_rfl)]
  simp [hs, hi, go_sem]
/-- How the rows are, as far as they were looked at. -/
def Fine (L : List (List ByteArray)) (k : Nat) : Prop := ∀ j l, j < k → L[j]? = some l → l.length ≤ 60 ∧ Ris l
theorem Fine.next {L : List (List ByteArray)} {k : Nat} {l : List ByteArray} (h : Fine L k) (hl : L[k]? = some l) (h1 : l.length ≤ 60) (h2 : Ris l) : Fine L (k + 1) := fun j l' hj hl' => by
  rcases Nat.lt_or_ge j k with hlt | hge
  · exact h j l' hlt hl'
  · obtain rfl : j = k := by omega
    rw [hl] at hl'
    rw [← Option.some.inj hl']
    exact ⟨h1, h2⟩
theorem Fine.all {L : List (List ByteArray)} (h : Fine L L.length) : (∀ l ∈ L, Ris l) ∧ ∀ l ∈ L, l.length ≤ 60 := by
  refine ⟨fun l hl => ?_, fun l hl => ?_⟩ <;>
  · obtain ⟨j, hj⟩ := List.mem_iff_getElem?.1 hl
    have := h j l (List.getElem?_eq_some_iff.1 hj).1 hj
    first | exact this.2 | exact this.1
set_option maxHeartbeats 12800000 in
theorem merges_walk (A : Option Addr) (c : Nat) (L : List (List ByteArray)) (w : World) (hL : Rws w w.heap.size A L) (hsm : ∀ l ∈ L, Sml l ∧ l.length ≤ 4611686018427387904) (hlm : L.length ≤ 4611686018427387904) :
    Calls Try.prog 3 #[.slice A L.length c] w fun e w' => e = .returned (.bool true) ∧ Below w.heap.size w w' := by
  have HL := Lib.hid hL
  have HSm := Lib.hid hsm
  clear hL hsm
  go_enter Try.func3, Try.ntmps3
  go_wp2_with fail
  refine (speaks_any _).mono ?_
  rintro e w1 ⟨rfl, hb1⟩
  have HB1 := Lib.hid hb1
  clear hb1
  by_cases hn : 70 < L.length
  · have g : (70 : Int) < (L.length : Int) := by omega
    go_wp2_with fail
    go_ret
    exact ⟨rfl, HB1.out⟩
  · have g : ¬ (70 : Int) < (L.length : Int) := by omega
    go_wp2_with fail
    go_loopw [18] (fun v wr => ∃ k : Nat, v = .int .i64 (k : Int) ∧ k ≤ L.length ∧ Hid (Fine L k) ∧ Hid (Below w.heap.size w wr)) (fun v _ => L.length - (intOf v).toNat)
    case atStart => exact ⟨0, rfl, Nat.zero_le _, Lib.hid (fun _ _ h => absurd h (Nat.not_lt_zero _)), HB1⟩
    case round =>
      obtain ⟨k, rfl, hk, HFi, HB⟩ := hrel
      by_cases hlt : k < L.length
      · obtain ⟨l, hl⟩ : ∃ l, L[k]? = some l := ⟨_, List.getElem?_eq_getElem hlt⟩
        obtain ⟨bb, off, Ai, ci, hA, hB, c0, hrow, hci, hcm⟩ := HL.out k l hl
        subst hA
        have cw : wr.cell? ⟨bb, off + k, none⟩ = some (.slice Ai l.length ci) := (HB.out.cell (p := ⟨bb, off + k, none⟩) hB).trans c0
        have i0 : (0 : Int) ≤ (k : Int) := by omega
        have i1 : (k : Int) < (L.length : Int) := by omega
        have hsl := HSm.out l (List.mem_of_getElem? hl)
        by_cases h60 : 60 < l.length
        · have g2 : (60 : Int) < (l.length : Int) := by omega
          have g3 : decide (60 < l.length) = true := by simpa using h60
          go_wp2_with fail
          go_ret
          exact ⟨rfl, HB.out⟩
        · have g2 : ¬ (60 : Int) < (l.length : Int) := by omega
          have g3 : decide (60 < l.length) = false := by simpa using h60
          have HC := Lib.hid (rises_any Ai ci l wr ((hrow.keep HB.out).more HB.out.size) hsl.1 hsl.2)
          have Hl := Lib.hid hl
          clear hl hrow hsl
          go_wp2_with fail
          refine HC.out.mono ?_
          rintro e w2 ⟨⟨r, rfl, hr⟩, nq, hw2⟩
          have HB2 : Hid (Below w.heap.size w w2) := by rw [← hw2]; exact Lib.hid (below_drewN HB.out nq)
          clear hw2
          rcases r with _ | _
          · clear hr
            go_wp2_with fail
            go_ret
            exact ⟨rfl, HB2.out⟩
          · have HN := Lib.hid (HFi.out.next Hl.out (by omega) (hr.1 rfl))
            clear hr
            go_wp2_with fail
            go_roundw
            case rel => exact ⟨k + 1, by go_num, by omega, HN, HB2⟩
            case measure => simp [intOf]; omega
      · obtain rfl : k = L.length := by omega
        rename World => wo
        obtain ⟨hr, h60⟩ := HFi.out.all
        have htot : tot L ≤ 1000000000 := Nat.le_trans (tot_le h60) (by have := Nat.mul_le_mul_right 60 (show L.length ≤ 70 by omega); omega)
        have HC1 := Lib.hid (merge_any A c L wo (HL.out.later HB.out) hr (by omega) htot)
        have HR := Lib.hid (And.intro hr h60)
        have HTo := Lib.hid htot
        clear hr h60 htot HFi
        go_wp2_with fail
        refine HC1.out.mono ?_
        rintro e w2 ⟨v1, out, rfl, hown1, hm1, hb2⟩
        have HB2 := Lib.hid (HB.out.trans (hb2.mono HB.out.size))
        have HC2 := Lib.hid (refmerge_any A c L w2 (HL.out.later HB2.out) HR.out.1 (fun l hl => (HSm.out l hl).1) (by omega) HTo.out (fun l hl => Nat.le_trans (HR.out.2 l hl) (by omega)))
        obtain ⟨A1, l1, c1, rfl⟩ := own_slice hown1
        have hl1 : l1 = out.length := own_len hown1
        subst hl1
        have HI1 := Lib.hid (own_itms hown1)
        have HM1 := Lib.hid hm1
        clear hown1 hm1 hb2 HC1
        go_wp2_with fail
        refine HC2.out.mono ?_
        rintro e w3 ⟨v2, out2, rfl, hown2, hm2, hb3⟩
        obtain rfl : out2 = out := hm2.eq HM1.out
        obtain ⟨A2, l2, c2, rfl⟩ := own_slice hown2
        have hl2 : l2 = out2.length := own_len hown2
        subst hl2
        have hol : out2.length ≤ 1000000000 := by have := hm2.1.length_eq; have := HTo.out; unfold tot at this; omega
        have HI2 := Lib.hid (own_itms hown2)
        have HI13 := Lib.hid (HI1.out.later hb3)
        have HB3 := Lib.hid (HB2.out.trans (hb3.mono HB2.out.size))
        have HC3 := Lib.hid (first_any A1 c1 out2 w3 HI13.out hol)
        have gne : ((out2.length : Int) != (out2.length : Int)) = false := by simp
        clear hown2 hm2 hb3 HC2 HI1 HM1 HB2
        go_wp2_with fail
        refine HC3.out.mono ?_
        rintro e w4 ⟨v3, rfl, hown3, hb4⟩
        obtain ⟨A3, l3, c3, rfl⟩ := own_slice hown3
        have hl3 : l3 = (firsts out2).length := own_len hown3
        subst hl3
        have HI3 := Lib.hid (own_itms hown3)
        have HI14 := Lib.hid (HI13.out.later hb4)
        have HI24 := Lib.hid (HI2.out.later hb4)
        have HB4 := Lib.hid (HB3.out.trans (hb4.mono HB3.out.size))
        have hfl := firsts_le out2
        clear hown3 hb4 HC3 HI13 HI2 HB3 gne
        go_wp2_with fail
        go_loopw [44, 7] (fun v v7 wr => ∃ i kk : Nat, v = .int .i64 (i : Int) ∧ i ≤ out2.length ∧ v7 = .int .i64 (kk : Int) ∧ Hid (kk = (firsts (out2.take i)).length) ∧ Hid (Below w4.heap.size w4 wr)) (fun v _ _ => out2.length - (intOf v).toNat)
        case atStart => exact ⟨0, 0, rfl, Nat.zero_le _, rfl, Lib.hid rfl, Lib.hid (Below.refl _ _)⟩
        case round =>
          obtain ⟨i, kk, rfl, hi, rfl, HK, HBr⟩ := hrel
          by_cases hlt2 : i < out2.length
          · obtain ⟨x, hx⟩ : ∃ x, out2[i]? = some x := ⟨_, List.getElem?_eq_getElem hlt2⟩
            obtain ⟨b1, o1, hA1, hb1, p0, p1⟩ := HI14.out i x hx
            obtain ⟨b2, o2, hA2, hb2, r0, r1⟩ := HI24.out i x hx
            subst hA1 hA2
            have p0' : wr.cell? ⟨b1, o1 + i * 2, none⟩ = some (.string x.1) := (HBr.out.cell (p := ⟨b1, o1 + i * 2, none⟩) hb1).trans p0
            have p1' : wr.cell? ⟨b1, o1 + i * 2 + 1, none⟩ = some (.int .i64 (x.2 : Int)) := (HBr.out.cell (p := ⟨b1, o1 + i * 2 + 1, none⟩) hb1).trans p1
            have i0 : (0 : Int) ≤ (i : Int) := by omega
            have i1 : (i : Int) < (out2.length : Int) := by omega
            have i2 : ((i : Int)).toNat = i := by omega
            obtain ⟨W1, hW1⟩ : ∃ W1, W1 = wr.alloc (.cells #[.string x.1, .int .i64 (x.2 : Int)] 32) := ⟨_, rfl⟩
            have hw1 : Below wr.heap.size wr W1 := by rw [hW1]; exact (Below.refl _ _).alloc (Nat.le_refl _) _
            have hbk : W1.heap[wr.heap.size]? = some (.cells #[.string x.1, .int .i64 (x.2 : Int)] 32 (0, 0)) := by rw [hW1]; exact heap_alloc_new wr _
            have hbW : Below w4.heap.size w4 W1 := HBr.out.trans (hw1.mono HBr.out.size)
            have e0 : W1.cell? ⟨wr.heap.size, 0, none⟩ = some (.string x.1) := cell_of_blk hbk 0
            have e1 : W1.cell? ⟨wr.heap.size, 1, none⟩ = some (.int .i64 (x.2 : Int)) := cell_of_blk hbk 1
            have s0 : W1.cell? ⟨b2, o2 + i * 2, none⟩ = some (.string x.1) := (hbW.cell (p := ⟨b2, o2 + i * 2, none⟩) hb2).trans r0
            have s1 : W1.cell? ⟨b2, o2 + i * 2 + 1, none⟩ = some (.int .i64 (x.2 : Int)) := (hbW.cell (p := ⟨b2, o2 + i * 2 + 1, none⟩) hb2).trans r1
            have hneq := it_neq x.1 (x.2 : Int)
            have HX := Lib.hid hx
            have HT := Lib.hid (firsts_next hx)
            have HW1 := Lib.hid hW1
            have HBW := Lib.hid hbW
            clear hx hw1 hbk hbW hW1 p0 p1 r0 r1
            go_upto_region 18 with fail
            rw [← HW1.out]
            go_quiet (fail)
            go_upto_region 20 with fail
            rcases hnb : newB out2 i with _ | _
            · have HN := Lib.hid (show kk = (firsts (out2.take (i + 1))).length by rw [HT.out, if_neg (by rw [hnb]; simp)]; exact HK.out)
              rcases i with _ | j
              · cases hnb
              · obtain ⟨y, hy⟩ : ∃ y, out2[j]? = some y := ⟨_, List.getElem?_eq_getElem (by omega)⟩
                obtain ⟨b2', o2', hA2', hb2', r0, _⟩ := HI24.out j y hy
                injection hA2' with hA2'
                injection hA2' with q1 q2
                subst q1 q2
                have g0 : W1.cell? ⟨b2, o2 + j * 2, none⟩ = some (.string y.1) := (HBW.out.cell (p := ⟨b2, o2 + j * 2, none⟩) hb2').trans r0
                have j0 : (0 : Int) ≤ (j : Int) := by omega
                have j1 : (j : Int) < (out2.length : Int) := by omega
                have j2 : ((j : Int) + 1 == 0) = false := by rw [beq_eq_false_iff_ne]; omega
                rw [newB_at hy HX.out] at hnb
                have hne : (y.1.toList == x.1.toList) = true := by simpa using hnb
                have hne2 : (y.1.toList != x.1.toList) = false := by rw [bne, hne]; rfl
                have hne3 := eq_of_beq hne
                clear hnb hy r0
                go_quiet (fail)
                go_wp2_with fail
                go_roundw
                case rel => exact ⟨j + 1 + 1, kk, by go_num, by omega, rfl, HN, Lib.hid (by first | exact below_drewN HBW.out _ | exact below_drewN (below_drewN HBW.out _) _)⟩
                case measure => simp [intOf]; omega
            · have hT : firsts (out2.take (i + 1)) = firsts (out2.take i) ++ [x] := by rw [HT.out, if_pos hnb]
              have HN := Lib.hid (show kk + 1 = (firsts (out2.take (i + 1))).length by rw [hT, List.length_append, ← HK.out]; rfl)
              have hkx : (firsts out2)[kk]? = some x := by
                obtain ⟨r, hr⟩ := firsts_pre out2 (i + 1)
                rw [hr, hT, List.append_assoc, List.getElem?_append_right (by rw [HK.out]; exact Nat.le_refl _), HK.out, Nat.sub_self]
                rfl
              have hkl := (List.getElem?_eq_some_iff.1 hkx).1
              obtain ⟨b3, o3, hA3, hb3, t0, t1⟩ := HI3.out kk x hkx
              subst hA3
              have u0 : W1.cell? ⟨b3, o3 + kk * 2, none⟩ = some (.string x.1) := (HBW.out.cell (p := ⟨b3, o3 + kk * 2, none⟩) hb3).trans t0
              have u1 : W1.cell? ⟨b3, o3 + kk * 2 + 1, none⟩ = some (.int .i64 (x.2 : Int)) := (HBW.out.cell (p := ⟨b3, o3 + kk * 2 + 1, none⟩) hb3).trans t1
              have k0 : (0 : Int) ≤ (kk : Int) := by omega
              have k1 : (kk : Int) < ((firsts out2).length : Int) := by omega
              have k2 : ((kk : Int)).toNat = kk := by omega
              have k3 : decide ((firsts out2).length ≤ kk) = false := by simpa using hkl
              have k4 : ¬ ((firsts out2).length : Int) ≤ (kk : Int) := by omega
              clear hT hkx hkl t0 t1
              rcases i with _ | j
              · clear hnb
                go_quiet (fail)
                go_wp2_with fail
                go_quiet (fail)
                go_wp2_with fail
                go_roundw
                case rel => exact ⟨0 + 1, kk + 1, by go_num, by omega, by go_num, HN, Lib.hid (by first | exact below_drewN HBW.out _ | exact below_drewN (below_drewN HBW.out _) _ | exact below_drewN (below_drewN (below_drewN HBW.out _) _) _)⟩
                case measure => simp [intOf]; omega
              · obtain ⟨y, hy⟩ : ∃ y, out2[j]? = some y := ⟨_, List.getElem?_eq_getElem (by omega)⟩
                obtain ⟨b2', o2', hA2', hb2', r0, _⟩ := HI24.out j y hy
                injection hA2' with hA2'
                injection hA2' with q1 q2
                subst q1 q2
                have g0 : W1.cell? ⟨b2, o2 + j * 2, none⟩ = some (.string y.1) := (HBW.out.cell (p := ⟨b2, o2 + j * 2, none⟩) hb2').trans r0
                have j0 : (0 : Int) ≤ (j : Int) := by omega
                have j1 : (j : Int) < (out2.length : Int) := by omega
                have j2 : ((j : Int) + 1 == 0) = false := by rw [beq_eq_false_iff_ne]; omega
                rw [newB_at hy HX.out] at hnb
                have hne : (y.1.toList == x.1.toList) = false := by simpa using hnb
                have hne2 : (y.1.toList != x.1.toList) = true := by rw [bne, hne]; rfl
                clear hnb hy r0
                go_quiet (fail)
                go_wp2_with fail
                go_quiet (fail)
                go_wp2_with fail
                go_roundw
                case rel => exact ⟨j + 1 + 1, kk + 1, by go_num, by omega, by go_num, HN, Lib.hid (by first | exact below_drewN HBW.out _ | exact below_drewN (below_drewN HBW.out _) _ | exact below_drewN (below_drewN (below_drewN HBW.out _) _) _)⟩
                case measure => simp [intOf]; omega
          · obtain rfl : i = out2.length := by omega
            have hfe := HK.out
            rw [List.take_length] at hfe
            have HE : Hid (Below w.heap.size w wr) := Lib.hid (HB4.out.trans (HBr.out.mono HB4.out.size))
            subst hfe
            go_wp2_with fail
            go_ret
            exact ⟨by simp, HE.out⟩
end Go.Proofs.Ytdibdbadoigfoaa.heap
