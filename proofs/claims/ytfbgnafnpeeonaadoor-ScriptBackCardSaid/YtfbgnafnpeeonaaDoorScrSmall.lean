/- How big a script is, as the law asks. Conditions: the script lies in memory; what Go's own limits say. -/
import Derived.Test.YtfbgnafnpeeonaaDoorScrMay
namespace Go.Proofs.YtfbgnafnpeeonaaDoor.scr
set_option maxRecDepth 100000
open Go.RowKit Go.Proofs.YtfbgnafnpeeonaaDoor.words Go.Proofs.YtfbgnafnpeeonaaDoor.cal

def FewO (o : OpB) : Prop := o.P.size ≤ 1100 ∧ o.G.size ≤ 2000 ∧ o.N ≤ 3000
set_option maxHeartbeats 6400000 in
theorem few_any (l : List OpB) (n : Int) (A2 : Option Addr) (c2 : Nat) (w : World) (hR : ∀ (j : Nat) o, l[j]? = some o → ∃ b2 off2, A2 = some ⟨b2, off2, none⟩ ∧ b2 < w.heap.size ∧ ∀ (k : Nat) u, o.c[k]? = some u → w.cell? ⟨b2, off2 + j * 6 + k, none⟩ = some u)
    (hl : l.length ≤ 140737488355328) (hz : ∀ o ∈ l, o.P.size ≤ 140737488355328 ∧ o.G.size ≤ 140737488355328) :
    Calls Tryd.prog 15 #[.slice A2 l.length c2, .int .i64 n] w fun e w' => (e = .returned (.int .i64 0) ∨ (e = .returned (.int .i64 1) ∧ (l.length : Int) ≤ n ∧ ∀ o ∈ l, FewO o)) ∧ Below w.heap.size w w' := by
  by_cases hn : n < (l.length : Int)
  · go_enter Tryd.func15, Tryd.ntmps15
    go_wp2_with fail
    go_ret
    exact ⟨.inl rfl, Below.refl _ _⟩
  have HR := Lib.hid hR
  have HZ := Lib.hid hz
  have HL := Lib.hid hl
  have HN := Lib.hid hn
  clear hR hz hl
  go_enter Tryd.func15, Tryd.ntmps15
  go_wp2_with fail
  clear hn
  go_loopw [13] (fun v wr => ∃ k : Nat, k ≤ l.length ∧ v = .int .i64 (k : Int) ∧ Hid (∀ o ∈ l.take k, FewO o) ∧ Hid (Below w.heap.size w wr)) (fun v _ => l.length - (intOf v).toNat)
  case atStart => exact ⟨0, Nat.zero_le _, rfl, Lib.hid (fun o h => by simp at h), Lib.hid (Below.refl _ _)⟩
  case round =>
    obtain ⟨j, hj, rfl, HT, HB⟩ := hrel
    have hlz := HL.out
    by_cases hlj : j < l.length
    · obtain ⟨o, ho⟩ : ∃ o, l[j]? = some o := ⟨_, List.getElem?_eq_getElem hlj⟩
      obtain ⟨b2, off2, rfl, h6, h7⟩ := HR.out j o ho
      have k : ∀ (q : Nat) (u : Value), o.c[q]? = some u → wr.cell? ⟨b2, off2 + j * 6 + q, none⟩ = some u := fun q u hu => (HB.out.cell (p := ⟨b2, off2 + j * 6 + q, none⟩) h6).trans (h7 q u hu)
      have u0 := k 0 _ rfl
      have u1 := k 1 _ rfl
      have u2 := k 2 _ rfl
      have u3 := k 3 _ rfl
      have u4 := k 4 _ rfl
      have u5 := k 5 _ rfl
      rw [Nat.add_zero] at u0
      have j0 : (0 : Int) ≤ (j : Int) := by omega
      have j1 : (j : Int) < (l.length : Int) := by omega
      have hzo := HZ.out o (List.mem_of_getElem? ho)
      have p1 := hzo.1
      have p2 := hzo.2
      obtain ⟨W6, hW6⟩ : ∃ W6, W6 = wr.alloc (.cells #[.int .i64 o.K, .string o.P, .int .i64 o.O, .int .i64 o.N, .int .i64 o.I, .string o.G] 45) := ⟨_, rfl⟩
      obtain ⟨g6, hg6⟩ : ∃ g6, g6 = wr.heap.size := ⟨_, rfl⟩
      have hk6 : W6.heap[g6]? = some (.cells #[.int .i64 o.K, .string o.P, .int .i64 o.O, .int .i64 o.N, .int .i64 o.I, .string o.G] 45 (0, 0)) := by rw [hW6, hg6]; exact heap_alloc_new wr _
      have hb6 : Below wr.heap.size wr W6 := by rw [hW6]; exact (Below.refl _ _).alloc (Nat.le_refl _) _
      have HB6 := Lib.hid (HB.out.trans (hb6.mono HB.out.size))
      have HK6 := Lib.hid hk6
      have HW6 := Lib.hid hW6
      have HG6 := Lib.hid hg6
      have HO := Lib.hid ho
      clear ho h6 h7 k hW6 hg6 hk6 hb6 hzo
      go_upto_region 6 with fail
      rw [← HW6.out]
      simp only [← HG6.out]
      have v0 := cell_of_blk HK6.out 0
      have v1 := cell_of_blk HK6.out 1
      have v2 := cell_of_blk HK6.out 2
      have v3 := cell_of_blk HK6.out 3
      have v4 := cell_of_blk HK6.out 4
      have v5 := cell_of_blk HK6.out 5
      clear HW6 u0 u1 u2 u3 u4 u5
      by_cases q1 : (1100 : Int) < (o.P.size : Int)
      · go_wp2_with fail
        go_ret
        exact ⟨.inl rfl, HB6.out⟩
      by_cases q2 : (2000 : Int) < (o.G.size : Int)
      · go_wp2_with fail
        go_ret
        exact ⟨.inl rfl, HB6.out⟩
      by_cases q3 : (3000 : Int) < o.N
      · go_wp2_with fail
        go_ret
        exact ⟨.inl rfl, HB6.out⟩
      have HT2 : Hid (∀ x ∈ l.take (j + 1), FewO x) := Lib.hid (fun x hx => by
        rw [List.take_add_one, HO.out] at hx
        rcases List.mem_append.1 hx with hx | hx
        · exact HT.out x hx
        · obtain rfl : x = o := by simpa using hx
          exact ⟨by omega, by omega, by omega⟩)
      go_wp2_with fail
      go_roundw
      case rel => exact ⟨j + 1, by omega, by go_num, HT2, HB6⟩
      case measure => simp [intOf]; omega
    · obtain rfl : j = l.length := by omega
      have j1 : ¬ ((l.length : Nat) : Int) < (l.length : Int) := by omega
      have HT2 : Hid (∀ o ∈ l, FewO o) := Lib.hid (by have h1 := HT.out; rw [List.take_length] at h1; exact h1)
      go_wp2_with fail
      go_ret
      exact ⟨.inr ⟨rfl, by have := HN.out; omega, HT2.out⟩, HB.out⟩
structure Small (S : ScB) : Prop where
  li : S.im.length ≤ 20
  lc : S.cl.length ≤ 70
  lp : S.pk.length ≤ 500
  zi : ∀ x ∈ S.im, x.size ≤ 3000
  lo : ∀ l ∈ S.cl, l.length ≤ 100
  fo : ∀ l ∈ S.cl, ∀ o ∈ l, FewO o
  sm : (S.cl.map List.length).sum ≤ 100
set_option maxHeartbeats 12800000 in
theorem small_any (S : ScB) (Ai Ac Ap : Option Addr) (ci cc cp : Nat) (w : World) (hS : Scr w S Ai Ac Ap) (hli : S.im.length ≤ 140737488355328) (hlc : S.cl.length ≤ 140737488355328)
    (hzi : ∀ x ∈ S.im, x.size ≤ 140737488355328) (hlo : ∀ l ∈ S.cl, l.length ≤ 140737488355328) (hzo : ∀ l ∈ S.cl, ∀ o ∈ l, o.P.size ≤ 140737488355328 ∧ o.G.size ≤ 140737488355328) :
    Calls Tryd.prog 6 #[scV S (.slice Ai S.im.length ci) (.slice Ac S.cl.length cc) (.slice Ap S.pk.length cp)] w fun e w' => (e = .returned (.bool false) ∨ (e = .returned (.bool true) ∧ Small S)) ∧ Below w.heap.size w w' := by
  obtain ⟨W1, hW1⟩ : ∃ W1, W1 = w.alloc (.cells #[.int .i64 S.sh, .int .i64 S.rm, .int .i64 S.cu, .slice Ai S.im.length ci, .slice Ac S.cl.length cc, .slice Ap S.pk.length cp] 28) := ⟨_, rfl⟩
  obtain ⟨hb1, x1⟩ := sc_at hW1
  obtain ⟨g, hg⟩ : ∃ g, g = w.heap.size := ⟨_, rfl⟩
  rw [← hg] at x1
  have HX := Lib.hid x1
  have HS := Lib.hid (hS.later hb1)
  have HB1 := Lib.hid hb1
  have HW1 := Lib.hid hW1
  have HG := Lib.hid hg
  have HZi := Lib.hid hzi
  have HLo := Lib.hid hlo
  have HZo := Lib.hid hzo
  have y3 := cell_of_blk x1 3
  have y4 := cell_of_blk x1 4
  have y5 := cell_of_blk x1 5
  clear hW1 hb1 x1 hg hS hzi hlo hzo
  unfold scV
  go_enter Tryd.func6, Tryd.ntmps6
  go_upto_region 1 with fail
  rw [← HW1.out]
  simp only [← HG.out]
  clear HW1
  by_cases q1 : (20 : Int) < (S.im.length : Int)
  · go_wp2_with fail
    go_ret
    exact ⟨.inl rfl, HB1.out⟩
  by_cases q2 : (70 : Int) < (S.cl.length : Int)
  · go_wp2_with fail
    go_ret
    exact ⟨.inl rfl, HB1.out⟩
  by_cases q3 : (500 : Int) < (S.pk.length : Int)
  · go_wp2_with fail
    go_ret
    exact ⟨.inl rfl, HB1.out⟩
  have HQ := Lib.hid (And.intro q1 (And.intro q2 q3))
  go_wp2_with fail
  clear q3 y5
  have hSt0 : Hid (Below W1.heap.size W1 W1) := Lib.hid (Below.refl _ _)
  go_loopw [27] (fun v27 wr => ∃ (i : Nat), v27 = .int .i64 (i : Int) ∧ i ≤ S.im.length ∧ Hid (∀ x ∈ S.im.take i, x.size ≤ 3000) ∧ Hid (Below W1.heap.size W1 wr)) (fun v27 _ => S.im.length - (intOf v27).toNat)
  case atStart => exact ⟨0, rfl, Nat.zero_le _, Lib.hid (fun x h => by simp at h), Lib.hid (Below.refl _ _)⟩
  case round =>
    obtain ⟨i, rfl, hi, HT, HB⟩ := hrel
    clear y3 y4 hSt0
    obtain ⟨wq, hwq⟩ : ∃ wq, wq = wr := ⟨_, rfl⟩
    subst hwq
    by_cases hlt : i < S.im.length
    · obtain ⟨x, hx⟩ : ∃ x, S.im[i]? = some x := ⟨_, List.getElem?_eq_getElem hlt⟩
      obtain ⟨b, off, rfl, h2, h3⟩ := (HS.out.later HB.out).im i x hx
      have hxz := HZi.out x (List.mem_of_getElem? hx)
      have HXi := Lib.hid hx
      have i0 : (0 : Int) ≤ (i : Int) := by omega
      have i1 : (i : Int) < (S.im.length : Int) := by omega
      clear hx h2
      by_cases q : (3000 : Int) < (x.size : Int)
      · go_wp2_with fail
        go_ret
        exact ⟨.inl rfl, HB1.out.trans (HB.out.mono HB1.out.size)⟩
      have HT2 : Hid (∀ y ∈ S.im.take (i + 1), y.size ≤ 3000) := Lib.hid (fun y hy => by
        rw [List.take_add_one, HXi.out] at hy
        rcases List.mem_append.1 hy with hy | hy
        · exact HT.out y hy
        · obtain rfl : y = x := by simpa using hy
          omega)
      go_wp2_with fail
      go_roundw
      case rel => exact ⟨i + 1, by go_num, by omega, HT2, HB⟩
      case measure => simp [intOf]; omega
    · obtain rfl : i = S.im.length := by omega
      have HI2 : Hid (∀ x ∈ S.im, x.size ≤ 3000) := Lib.hid (by have h1 := HT.out; rw [List.take_length] at h1; exact h1)
      have xr := (HB.out.block _ (lt_of_some HX.out)).trans HX.out
      have y4 := cell_of_blk xr 4
      have HB3 := HB
      have i1 : ¬ ((S.im.length : Nat) : Int) < (S.im.length : Int) := by omega
      clear HT xr
      go_wp2_with fail
      clear hi hlt HB i1
      go_loopw [3, 38] (fun v3 v38 wr => ∃ (i N : Nat), v3 = .int .i64 (N : Int) ∧ v38 = .int .i64 (i : Int) ∧ i ≤ S.cl.length ∧ N ≤ 100 ∧ N = ((S.cl.take i).map List.length).sum ∧ Hid (∀ l ∈ S.cl.take i, l.length ≤ 100 ∧ ∀ o ∈ l, FewO o) ∧ Hid (Below W1.heap.size W1 wr)) (fun _ v38 _ => S.cl.length - (intOf v38).toNat)
      case atStart => exact ⟨0, 0, rfl, rfl, Nat.zero_le _, Nat.zero_le _, by simp, Lib.hid (fun x h => by simp at h), HB3⟩
      case round =>
        obtain ⟨i, N, rfl, rfl, hi, hN, hNs, HT, HB⟩ := hrel
        clear y4 HB3
        obtain ⟨wp, hwp⟩ : ∃ wp, wp = wr := ⟨_, rfl⟩
        subst hwp
        by_cases hlt : i < S.cl.length
        · obtain ⟨l, hl⟩ : ∃ l, S.cl[i]? = some l := ⟨_, List.getElem?_eq_getElem hlt⟩
          have hlm : l ∈ S.cl := List.mem_of_getElem? hl
          obtain ⟨b, off, A2, c2, rfl, h2, h3, h4⟩ := (HS.out.later HB.out).cl i l hl
          have hln := HLo.out l hlm
          have HF := Lib.hid (few_any l 100 A2 c2 wp h4 hln (HZo.out l hlm))
          have HNs : Hid (N + l.length = ((S.cl.take (i + 1)).map List.length).sum) := Lib.hid (by
            rw [List.take_add_one, hl, hNs]
            simp)
          have HLi := Lib.hid hl
          have i0 : (0 : Int) ≤ (i : Int) := by omega
          have i1 : (i : Int) < (S.cl.length : Int) := by omega
          have g1 : ¬ 9223372036854775807 < (N : Int) + (l.length : Int) := by omega
          have g2 : ¬ (N : Int) + (l.length : Int) < -9223372036854775808 := by omega
          clear hl hlm h4 h2 hNs
          by_cases q : (100 : Int) < (N : Int) + (l.length : Int)
          · go_wp2_with fail
            go_ret
            exact ⟨.inl rfl, HB1.out.trans (HB.out.mono HB1.out.size)⟩
          go_wp2_with fail
          refine HF.out.mono ?_
          rintro e w5 ⟨(rfl | ⟨rfl, hl1, hl2⟩), hb5⟩
          · have HB5 := Lib.hid (HB.out.trans (hb5.mono HB.out.size))
            clear hb5
            go_wp2_with fail
            go_ret
            exact ⟨.inl rfl, HB1.out.trans (HB5.out.mono HB1.out.size)⟩
          · have HB5 := Lib.hid (HB.out.trans (hb5.mono HB.out.size))
            have HT2 : Hid (∀ x ∈ S.cl.take (i + 1), x.length ≤ 100 ∧ ∀ o ∈ x, FewO o) := Lib.hid (fun x hx => by
              rw [List.take_add_one, HLi.out] at hx
              rcases List.mem_append.1 hx with hx | hx
              · exact HT.out x hx
              · obtain rfl : x = l := by simpa using hx
                exact ⟨by omega, hl2⟩)
            clear hb5 hl2
            go_wp2_with fail
            go_roundw
            case rel => exact ⟨i + 1, N + l.length, by go_num, by go_num, by omega, by omega, HNs.out, HT2, HB5⟩
            case measure => simp [intOf]; omega
        · obtain rfl : i = S.cl.length := by omega
          have i1 : ¬ ((S.cl.length : Nat) : Int) < (S.cl.length : Int) := by omega
          have HFin : Hid (Small S) := Lib.hid (by
            have h1 := HT.out
            rw [List.take_length] at h1
            rw [List.take_length] at hNs
            have h2 := HQ.out
            exact ⟨by omega, by omega, by omega, HI2.out, fun l hl => (h1 l hl).1, fun l hl => (h1 l hl).2, by omega⟩)
          clear hNs
          go_wp2_with fail
          go_ret
          exact ⟨.inr ⟨rfl, HFin.out⟩, HB1.out.trans (HB.out.mono HB1.out.size)⟩
end Go.Proofs.YtfbgnafnpeeonaaDoor.scr
