/- What script.Print answers. Conditions: the script lies in memory; sizes; what the listed variables hold. -/
import Derived.Test.YtfbgnafnpeeonaaDoorScrCount
import Derived.Test.YtfbgnafnpeeonaaDoorCalHex
import Derived.Test.YtfbgnafnpeeonaaDoorCalText
namespace Go.Proofs.YtfbgnafnpeeonaaDoor.scr
set_option maxRecDepth 100000
open Go.RowKit Go.Proofs.YtfbgnafnpeeonaaDoor.words Go.Proofs.YtfbgnafnpeeonaaDoor.cal

theorem cnt_pick (l : List UInt8) (ns : List Int) (h : ns ≠ []) : cntL l ns = l ++ 32 :: joinC 32 (ns.map Lib.itoa) := by
  unfold cntL
  rw [join_pk ns h]
theorem cnt_room (s : Sc) : cntL roomW [s.sh, s.rm, s.cu] = roomL s := cnt_pick roomW _ (by simp)
theorem print_pk2 {s : Sc} (h : s.pk ≠ []) : printM s = textT (p2 s s.cl.length) ++ (pickL s.pk ++ [10]) := by
  unfold printM linesM p2
  rw [if_neg h]
  have e : roomL s :: (s.im.map imageL ++ s.cl.flatMap clientL ++ [pickL s.pk]) = (roomL s :: (s.im.map imageL ++ (s.cl.take s.cl.length).flatMap clientL)) ++ [pickL s.pk] := by
    rw [List.take_length]
    rfl
  rw [e, textT_app, textT_one]
theorem told_le {s : Sc} {a : List (List UInt8)} (h : ∃ b, linesM s = a ++ b) (hL : (printM s).length ≤ 1000000000) : (textT a).length ≤ 4000000000 := by
  obtain ⟨b, hb⟩ := h
  have := print_le hb
  omega
theorem wrt_later {B b : Nat} {l : List UInt8} {w w' : World} (h : Wrt B b l w) (hb : Below w.heap.size w w') : Wrt B b l w' := by
  rcases h with ⟨hB, v, hk, ho, hn⟩ | h
  · exact .inl ⟨hB, v, (hb.block _ (lt_of_some hk)).trans hk, own_later ho hb, hn⟩
  · exact .inr (bld_later h hb)
set_option maxHeartbeats 12800000 in
theorem print_any (m : Int) (n : Nat) (S : ScB) (Ai Ac Ap : Option Addr) (ci cc cp : Nat) (w : World) (hS : Scr w S Ai Ac Ap) (hn : n ≤ 1000000) (hF : FB n S) (hI : ∀ x ∈ S.im, x.size ≤ 1000000) (hK : S.pk.length ≤ 1000000) (hL : (printM S.m).length ≤ 1000000000) (hE : Env m w) :
    Calls Tryd.prog 9 #[scV S (.slice Ai S.im.length ci) (.slice Ac S.cl.length cc) (.slice Ap S.pk.length cp)] w (StrOut (printM S.m) w) := by
  obtain ⟨W1, hW1⟩ : ∃ W1, W1 = w.alloc (.cells #[.int .i64 S.sh, .int .i64 S.rm, .int .i64 S.cu, .slice Ai S.im.length ci, .slice Ac S.cl.length cc, .slice Ap S.pk.length cp] 28) := ⟨_, rfl⟩
  obtain ⟨hb1, x1⟩ := sc_at hW1
  obtain ⟨g, hg⟩ : ∃ g, g = w.heap.size := ⟨_, rfl⟩
  obtain ⟨b0, hb0⟩ : ∃ b0, b0 = W1.heap.size := ⟨_, rfl⟩
  rw [← hg] at x1
  obtain ⟨W2, hW2⟩ : ∃ W2, W2 = W1.alloc (.cells #[.pointer none, .slice none 0 0] 51) := ⟨_, rfl⟩
  have hb2 : Below b0 W1 W2 := by rw [hW2, hb0]; exact (Below.refl _ _).alloc (Nat.le_refl _) _
  have hw0 : Wrt b0 b0 [] W2 := by rw [hW2, hb0]; exact fresh_wrt W1
  obtain ⟨W3, hW3⟩ : ∃ W3, W3 = W2.alloc (.cells #[.int .i64 S.sh, .int .i64 S.rm, .int .i64 S.cu] 3) := ⟨_, rfl⟩
  obtain ⟨g3, hg3⟩ : ∃ g3, g3 = W2.heap.size := ⟨_, rfl⟩
  have hk3 : W3.heap[g3]? = some (.cells #[.int .i64 S.sh, .int .i64 S.rm, .int .i64 S.cu] 3 (0, 0)) := by rw [hW3, hg3]; exact heap_alloc_new W2 _
  have hb3 : Below W2.heap.size W2 W3 := by rw [hW3]; exact (Below.refl _ _).alloc (Nat.le_refl _) _
  have hlt3 : g3 < W3.heap.size := lt_of_some hk3
  have hE3 : Env m W3 := hE.later (hb1.trans ((show Below w.heap.size W1 W2 by rw [hW2]; exact (Below.refl _ _).alloc hb1.size _).trans (hb3.mono (by rw [hW2]; simp; have := hb1.size; omega))))
  have HX := Lib.hid x1
  have HS := Lib.hid (hS.later hb1)
  have HB1 := Lib.hid hb1
  have HB2 := Lib.hid hb2
  have HFb := Lib.hid hF
  have HIm := Lib.hid (And.intro hI hK)
  have HW1 := Lib.hid hW1
  have HW2 := Lib.hid hW2
  have HW3 := Lib.hid hW3
  have HG := Lib.hid hg
  have HG3 := Lib.hid hg3
  have HG0 := Lib.hid hb0
  have HG1 : Hid (b0 = g + 1) := Lib.hid (by rw [hb0, hg, hW1]; simp)
  have HBt3 := Lib.hid hb3
  have HE0 := Lib.hid hE
  obtain ⟨s, hs⟩ : ∃ s, s = S.m := ⟨_, rfl⟩
  have hLs : (printM s).length ≤ 1000000000 := by rw [hs]; exact hL
  have HSm := Lib.hid hs
  have HLs := Lib.hid hLs
  have HWr := Lib.hid hw0
  have HC := Lib.hid (counted_any m ⟨#[114, 111, 111, 109]⟩ (some ⟨g3, 0, none⟩) [S.sh, S.rm, S.cu] 3 W3 (by decide) (fun i x hx => ⟨g3, 0, rfl, hlt3, by
    rw [Lib.cell_of_heap hk3, Nat.zero_add]
    rcases i with _ | _ | _ | i
    · obtain rfl : S.sh = x := by simpa using hx
      rfl
    · obtain rfl : S.rm = x := by simpa using hx
      rfl
    · obtain rfl : S.cu = x := by simpa using hx
      rfl
    · simp at hx⟩) (fun n hn => by
    simp at hn
    rcases hn with rfl | rfl | rfl
    · exact hF.sh
    · exact hF.rm
    · exact hF.cu) (by simp) hE3)
  have xr := (hb2.block _ (by rw [hb0]; exact lt_of_some x1)).trans x1
  have y0 := cell_of_blk xr 0
  have y1 := cell_of_blk xr 1
  have y2 := cell_of_blk xr 2
  have HN := Lib.hid hn
  clear hW1 hW2 hW3 hb1 hb2 hb3 x1 hg hg3 hb0 hS hF hI hK hL hs hE hE3 hw0 hk3 hlt3 xr hLs hn
  unfold scV
  go_enter Tryd.func9, Tryd.ntmps9
  go_upto_region 2 with fail
  rw [← HW1.out]
  simp only [← HG.out]
  simp only [← HG1.out]
  simp only [← HW2.out]
  clear HW1 HW2
  go_wp2_with fail
  simp only [← HG3.out]
  rw [← HW3.out]
  refine HC.out.mono ?_
  rintro e w4 ⟨⟨r, rfl, hr⟩, hb4⟩
  have hr0 : r.data.toList = roomL s := by rw [hr, HSm.out]; exact cnt_room S.m
  have hrz : r.size ≤ 4000000000 := by
    rw [← size_list, hr0]
    have h1 := HLs.out
    unfold printM linesM textT at h1
    simp at h1
    omega
  have hb24 : Below W2.heap.size W2 w4 := HBt3.out.trans (hb4.mono HBt3.out.size)
  have hw4 : Wrt b0 b0 [] w4 := wrt_later HWr.out hb24
  have hb14 : Below b0 W1 w4 := HB2.out.trans (hb24.mono (by rw [HG0.out]; exact HB2.out.size))
  have HB4 := Lib.hid hb14
  have HPt := Lib.hid (put_any b0 b0 [] r w4 hw4 (by simp) hrz (by rw [HG0.out]; exact hb14.size))
  have HR0 := Lib.hid hr0
  clear hr hr0 hrz hb4 hb24 hw4 hb14 HC HW3 HG3 HBt3 HWr y0 y1 y2
  go_wp2_with fail
  refine HPt.out.mono ?_
  rintro e w5 ⟨rfl, hw5, hb5⟩
  have HT0 : Hid (Bld b0 b0 (textT (p1 s 0)) w5) := Lib.hid (by
    rw [HR0.out] at hw5
    unfold p1
    simp only [List.take_zero, List.map_nil, textT_one]
    exact hw5)
  have HB3 := Lib.hid (HB4.out.trans hb5)
  have xr := (HB3.out.block g (by have := HG1.out; omega)).trans HX.out
  have y1 := cell_of_blk xr 3
  clear hw5 hb5 xr HPt HB4 HR0
  go_wp2_with fail
  go_loopw [25] (fun v25 wr => ∃ (i : Nat), v25 = .int .i64 (i : Int) ∧ i ≤ S.im.length ∧ Hid (Bld b0 b0 (textT (p1 s i)) wr) ∧ Hid (Below b0 W1 wr)) (fun v25 _ => S.im.length - (intOf v25).toNat)
  case atStart => exact ⟨0, rfl, Nat.zero_le _, HT0, HB3⟩
  case round =>
    obtain ⟨i, rfl, hi, HT, HB⟩ := hrel
    clear HT0 HB3 y1
    obtain ⟨wq, hwq⟩ : ∃ wq, wq = wr := ⟨_, rfl⟩
    subst hwq
    have hIn : S.im.length ≤ 1000000 := by have := HFb.out.li; have := HN.out; omega
    by_cases hlt : i < S.im.length
    · obtain ⟨x, hx⟩ : ∃ x, S.im[i]? = some x := ⟨_, List.getElem?_eq_getElem hlt⟩
      obtain ⟨b, off, rfl, h2, h3⟩ := (HS.out.later (HG0.out ▸ HB.out)).im i x hx
      have hxz := HIm.out.1 x (List.mem_of_getElem? hx)
      have hsx : s.im[i]? = some x.data.toList := by rw [HSm.out]; show (S.im.map _)[i]? = _; rw [List.getElem?_map, hx]; rfl
      have HM := Lib.hid (p1_more hsx)
      have HH := Lib.hid (hex_any x wq (by omega))
      have HZ := Lib.hid hxz
      have i0 : (0 : Int) ≤ (i : Int) := by omega
      have i1 : (i : Int) < (S.im.length : Int) := by omega
      clear hx hsx h2 hxz
      go_wp2_with fail
      refine HH.out.mono ?_
      rintro e w6 ⟨⟨r, rfl, hr⟩, hb6⟩
      have hrz : r.size ≤ 2000001 := by
        rw [← size_list, hr]
        have := hexL_len x.data.toList
        rw [size_list] at this
        have := HZ.out
        omega
      obtain ⟨q, hq⟩ : ∃ q : ByteArray, q = ⟨#[105, 109, 97, 103, 101, 32]⟩ ++ r := ⟨_, rfl⟩
      have hqd : q.data.toList = imageL x.data.toList := by rw [hq, app_data, hr]; simp [imageL, imageW]
      have hqz : q.size ≤ 2000007 := by
        have e6 : (⟨#[105, 109, 97, 103, 101, 32]⟩ : ByteArray).size = 6 := rfl
        rw [hq, ByteArray.size_append, e6]
        omega
      have hb06 : Below b0 W1 w6 := HB.out.trans (hb6.mono (by rw [HG0.out]; exact HB.out.size))
      have HPt := Lib.hid (put_any b0 b0 _ q w6 (.inr (bld_later HT.out hb6)) (told_le (p1_rest s i) HLs.out) (by omega) (by rw [HG0.out]; exact hb06.size))
      have HQ := Lib.hid (And.intro hq.symm hqd)
      have HB6 := Lib.hid hb06
      have hrz2 : ¬ 9223372036854775807 < 6 + r.size := by omega
      clear hr hrz hq hqd hqz hb06 hb6 HH
      go_wp2_with fail
      rw [HQ.out.1]
      refine HPt.out.mono ?_
      rintro e w7 ⟨rfl, hw7, hb7⟩
      have HT2 : Hid (Bld b0 b0 (textT (p1 s (i + 1))) w7) := Lib.hid (by
        rw [HM.out, textT_app, textT_one, ← HQ.out.2]
        exact hw7)
      have HB7 := Lib.hid (HB6.out.trans hb7)
      clear hw7 hb7 HPt
      go_wp2_with fail
      go_roundw
      case rel => exact ⟨i + 1, by go_num, by omega, HT2, HB7⟩
      case measure => simp [intOf]; omega
    · obtain rfl : i = S.im.length := by omega
      have HT2 : Hid (Bld b0 b0 (textT (p2 s 0)) wq) := Lib.hid (by rw [← p1_all, HSm.out]; have h1 := HT.out; rw [HSm.out] at h1; simpa [ScB.m] using h1)
      have xr := (HB.out.block g (by have := HG1.out; omega)).trans HX.out
      have y4 := cell_of_blk xr 4
      clear HT xr
      have HB3 := HB
      have i1 : ¬ ((S.im.length : Nat) : Int) < (S.im.length : Int) := by omega
      go_wp2_with fail
      clear hIn hi hlt HB i1
      go_loopw [37] (fun v37 wr => ∃ (i : Nat), v37 = .int .i64 (i : Int) ∧ i ≤ S.cl.length ∧ Hid (Bld b0 b0 (textT (p2 s i)) wr) ∧ Hid (Below b0 W1 wr)) (fun v37 _ => S.cl.length - (intOf v37).toNat)
      case atStart => exact ⟨0, rfl, Nat.zero_le _, HT2, HB3⟩
      case round =>
        obtain ⟨i, rfl, hi, HT, HB⟩ := hrel
        clear HT2 HB3 y4
        obtain ⟨wp, hwp⟩ : ∃ wp, wp = wr := ⟨_, rfl⟩
        subst hwp
        have hIn : S.cl.length ≤ 1000000 := by have := HFb.out.lc; have := HN.out; omega
        by_cases hlt : i < S.cl.length
        · obtain ⟨l, hl⟩ : ∃ l, S.cl[i]? = some l := ⟨_, List.getElem?_eq_getElem hlt⟩
          have hlm : l ∈ S.cl := List.mem_of_getElem? hl
          obtain ⟨b, off, A2, c2, rfl, h2, h3', h4⟩ := HS.out.cl i l hl
          have h3 := (HB.out.cell (p := ⟨b, off + i, none⟩) (by rw [HG0.out]; exact h2)).trans h3'
          have hln : l.length ≤ 1000000 := by have := HFb.out.lo l hlm; have := HN.out; omega
          obtain ⟨lm, hlm2⟩ : ∃ lm, lm = l.map OpB.m := ⟨_, rfl⟩
          have hsl : s.cl[i]? = some lm := by rw [HSm.out, hlm2]; show (S.cl.map _)[i]? = _; rw [List.getElem?_map, hl]; rfl
          have HLm := Lib.hid (And.intro hlm2 (And.intro hsl hlm))
          have i0 : (0 : Int) ≤ (i : Int) := by omega
          have i1 : (i : Int) < (S.cl.length : Int) := by omega
          have HPt := Lib.hid (put_any b0 b0 _ ⟨#[99, 108, 105, 101, 110, 116]⟩ wp (.inr HT.out) (told_le (p2_rest s i) HLs.out) (by decide) (by rw [HG0.out]; exact HB.out.size))
          have H4 := Lib.hid h4
          clear hl hlm hlm2 hsl h4 h2 h3'
          go_wp2_with fail
          refine HPt.out.mono ?_
          rintro e w5 ⟨rfl, hw5, hb5⟩
          have HT3 : Hid (Bld b0 b0 (textT (p3 s i lm 0)) w5) := Lib.hid (by
            have e0 : p3 s i lm 0 = p2 s i ++ [clientW] := by unfold p3; simp
            rw [e0, textT_app, textT_one]
            exact hw5)
          have HB5 := Lib.hid (HB.out.trans hb5)
          have HBp : Hid (Below b0 wp w5) := Lib.hid hb5
          clear hw5 hb5 HPt
          go_wp2_with fail
          go_loopw [44] (fun v44 wr => ∃ (j : Nat), v44 = .int .i64 (j : Int) ∧ j ≤ l.length ∧ Hid (Bld b0 b0 (textT (p3 s i lm j)) wr) ∧ Hid (Below b0 W1 wr)) (fun v44 _ => l.length - (intOf v44).toNat)
          case atStart => exact ⟨0, rfl, Nat.zero_le _, HT3, HB5⟩
          case round =>
            obtain ⟨j, rfl, hj, HTj, HBj⟩ := hrel
            clear h3
            by_cases hlj : j < l.length
            · obtain ⟨o, ho⟩ : ∃ o, l[j]? = some o := ⟨_, List.getElem?_eq_getElem hlj⟩
              obtain ⟨b2, off2, rfl, h6, h7⟩ := H4.out j o ho
              have k : ∀ (q : Nat) (u : Value), o.c[q]? = some u → wr.cell? ⟨b2, off2 + j * 6 + q, none⟩ = some u := fun q u hu => (HBj.out.cell (p := ⟨b2, off2 + j * 6 + q, none⟩) (by rw [HG0.out]; exact h6)).trans (h7 q u hu)
              have u0 := k 0 _ rfl
              have u1 := k 1 _ rfl
              have u2 := k 2 _ rfl
              have u3 := k 3 _ rfl
              have u4 := k 4 _ rfl
              have u5 := k 5 _ rfl
              rw [Nat.add_zero] at u0
              have j0 : (0 : Int) ≤ (j : Int) := by omega
              have j1 : (j : Int) < (l.length : Int) := by omega
              have HM : Hid (p3 s i lm (j + 1) = p3 s i lm j ++ [textM o.m]) := Lib.hid (p3_more (by rw [HLm.out.1, List.getElem?_map, ho]; rfl))
              have hfit := HFb.out.op l HLm.out.2.2 o (List.mem_of_getElem? ho)
              obtain ⟨W6, hW6⟩ : ∃ W6, W6 = wr.alloc (.cells #[.int .i64 o.K, .string o.P, .int .i64 o.O, .int .i64 o.N, .int .i64 o.I, .string o.G] 45) := ⟨_, rfl⟩
              obtain ⟨g6, hg6⟩ : ∃ g6, g6 = wr.heap.size := ⟨_, rfl⟩
              have hk6 : W6.heap[g6]? = some (.cells #[.int .i64 o.K, .string o.P, .int .i64 o.O, .int .i64 o.N, .int .i64 o.I, .string o.G] 45 (0, 0)) := by rw [hW6, hg6]; exact heap_alloc_new wr _
              have hb6 : Below wr.heap.size wr W6 := by rw [hW6]; exact (Below.refl _ _).alloc (Nat.le_refl _) _
              have hb06 : Below b0 W1 W6 := HBj.out.trans (hb6.mono (by rw [HG0.out]; exact HBj.out.size))
              have HOn := Lib.hid (text_any m o.K o.P o.O o.N o.I o.G W6 (HE0.out.later (HB1.out.trans (hb06.mono (by rw [HG0.out]; exact HB1.out.size)))) hfit)
              have HBl6 := Lib.hid (bld_later HTj.out hb6)
              have HB6 := Lib.hid hb06
              have HK6 := Lib.hid hk6
              have HW6 := Lib.hid hW6
              have HG6 := Lib.hid hg6
              have HFt := Lib.hid hfit
              clear ho h6 h7 k hW6 hg6 hk6 hb6 hb06 hfit
              unfold opV at HOn
              go_upto_region 15 with fail
              rw [← HW6.out]
              simp only [← HG6.out]
              have v0 := cell_of_blk HK6.out 0
              have v1 := cell_of_blk HK6.out 1
              have v2 := cell_of_blk HK6.out 2
              have v3 := cell_of_blk HK6.out 3
              have v4 := cell_of_blk HK6.out 4
              have v5 := cell_of_blk HK6.out 5
              clear HW6 u0 u1 u2 u3 u4 u5
              go_wp2_with fail
              refine HOn.out.mono ?_
              rintro e w7 ⟨⟨r, rfl, hr⟩, hb7⟩
              have hrz : r.size ≤ 1000000000 := by
                rw [← size_list, hr]
                exact text_len HFt.out
              have hb07 : Below b0 W1 w7 := HB6.out.trans (hb7.mono (by rw [HG0.out]; exact HB6.out.size))
              have HPt := Lib.hid (put_any b0 b0 _ r w7 (.inr (bld_later HBl6.out hb7)) (told_le (p3_rest HLm.out.2.1 j) HLs.out) (by omega) (by rw [HG0.out]; exact hb07.size))
              have HRr := Lib.hid hr
              have HB7 := Lib.hid hb07
              clear hr hrz hb7 hb07 HOn v0 v1 v2 v3 v4 v5
              go_wp2_with fail
              refine HPt.out.mono ?_
              rintro e w8 ⟨rfl, hw8, hb8⟩
              have HT4 : Hid (Bld b0 b0 (textT (p3 s i lm (j + 1))) w8) := Lib.hid (by
                rw [HRr.out] at hw8
                rw [HM.out, textT_app, textT_one]
                exact hw8)
              have HB8 := Lib.hid (HB7.out.trans hb8)
              clear hw8 hb8 HPt
              go_wp2_with fail
              go_roundw
              case rel => exact ⟨j + 1, by go_num, by omega, HT4, HB8⟩
              case measure => simp [intOf]; omega
            · obtain rfl : j = l.length := by omega
              have HT4 : Hid (Bld b0 b0 (textT (p2 s (i + 1))) wr) := Lib.hid (by
                have h1 := HTj.out
                have h2 : p3 s i lm l.length = p2 s (i + 1) := by rw [← p3_all HLm.out.2.1, HLm.out.1, List.length_map]
                rw [h2] at h1
                exact h1)
              have j1 : ¬ ((l.length : Nat) : Int) < (l.length : Int) := by omega
              go_wp2_with fail
              go_roundw
              case rel => exact ⟨i + 1, by go_num, by omega, HT4, HBj⟩
              case measure => simp [intOf]; omega
        · obtain rfl : i = S.cl.length := by omega
          have hscl : s.cl.length = S.cl.length := by rw [HSm.out]; simp [ScB.m]
          have hbld : Bld b0 b0 (textT (p2 s s.cl.length)) wp := by rw [hscl]; exact HT.out
          have xr := (HB.out.block g (by have := HG1.out; omega)).trans HX.out
          have y5 := cell_of_blk xr 5
          have i1 : ¬ ((S.cl.length : Nat) : Int) < (S.cl.length : Int) := by omega
          have hBw : b0 ≤ wp.heap.size := by rw [HG0.out]; exact HB.out.size
          clear HT xr hscl
          by_cases hpk : S.pk = []
          · have hs0 : s.pk = [] := by rw [HSm.out]; exact hpk
            rw [← print_nil hs0] at hbld
            have HSt := Lib.hid (bld_string _ _ _ wp hbld hBw)
            have hl0 : S.pk.length = 0 := by rw [hpk]; rfl
            rw [hl0] at y5
            clear hs0 hpk hbld hBw
            go_wp2_with fail
            refine HSt.out.mono ?_
            rintro e w5 ⟨rfl, hb5⟩
            have HF : Hid (Below w.heap.size w w5) := Lib.hid (HB1.out.trans ((HB.out.trans hb5).mono (by rw [HG0.out]; exact HB1.out.size)))
            obtain ⟨r, hr⟩ : ∃ r : ByteArray, r = ⟨(printM s).toArray⟩ := ⟨_, rfl⟩
            rw [← hr]
            have HRr := Lib.hid hr
            clear hr hb5 HSt
            go_wp2_with fail
            go_ret
            exact ⟨⟨r, rfl, by rw [HRr.out, data_mk, HSm.out]⟩, HF.out⟩
          · have hs0 : s.pk ≠ [] := by rw [HSm.out]; exact hpk
            have hl1 : 0 < S.pk.length := List.length_pos_iff.2 hpk
            have hl2 : (0 : Int) < (S.pk.length : Int) := by omega
            have HPk := Lib.hid (And.intro hs0 hpk)
            have HCt := Lib.hid (counted_any m ⟨#[112, 105, 99, 107]⟩ Ap S.pk cp wp (by decide) (HS.out.later (HG0.out ▸ HB.out)).pk HFb.out.pk HIm.out.2 (HE0.out.later (HB1.out.trans (HB.out.mono (by rw [HG0.out]; exact HB1.out.size)))))
            have HBd := Lib.hid hbld
            clear hs0 hpk hbld hBw
            go_wp2_with fail
            refine HCt.out.mono ?_
            rintro e w5 ⟨⟨r, rfl, hr⟩, hb5⟩
            have hr0 : r.data.toList = pickL s.pk := by
              rw [hr]
              have h1 := cnt_pick pickW S.pk HPk.out.2
              rw [HSm.out]
              exact h1
            have hrz : r.size ≤ 4000000000 := by
              rw [← size_list, hr0]
              have h1 := HLs.out
              rw [print_pk2 HPk.out.1] at h1
              simp at h1
              omega
            have hb05 : Below b0 W1 w5 := HB.out.trans (hb5.mono (by rw [HG0.out]; exact HB.out.size))
            have HPt := Lib.hid (put_any b0 b0 _ r w5 (.inr (bld_later HBd.out hb5)) (told_le (p2_rest s s.cl.length) HLs.out) hrz (by rw [HG0.out]; exact hb05.size))
            have HR0 := Lib.hid hr0
            have HB5 := Lib.hid hb05
            clear hr hr0 hrz hb5 hb05 HCt
            go_wp2_with fail
            refine HPt.out.mono ?_
            rintro e w6 ⟨rfl, hw6, hb6⟩
            have HB6 := Lib.hid (HB5.out.trans hb6)
            have hw7 : Bld b0 b0 (printM s) w6 := by
              rw [print_pk2 HPk.out.1, ← HR0.out]
              exact hw6
            have HSt := Lib.hid (bld_string _ _ _ w6 hw7 (by rw [HG0.out]; exact HB6.out.size))
            clear hw6 hw7 hb6 HPt
            go_wp2_with fail
            refine HSt.out.mono ?_
            rintro e w7 ⟨rfl, hb7⟩
            have HF : Hid (Below w.heap.size w w7) := Lib.hid (HB1.out.trans ((HB6.out.trans hb7).mono (by rw [HG0.out]; exact HB1.out.size)))
            obtain ⟨r2, hr2⟩ : ∃ r2 : ByteArray, r2 = ⟨(printM s).toArray⟩ := ⟨_, rfl⟩
            rw [← hr2]
            have HRr := Lib.hid hr2
            clear hr2 hb7 HSt
            go_wp2_with fail
            go_ret
            exact ⟨⟨r2, rfl, by rw [HRr.out, data_mk, HSm.out]⟩, HF.out⟩
end Go.Proofs.YtfbgnafnpeeonaaDoor.scr
