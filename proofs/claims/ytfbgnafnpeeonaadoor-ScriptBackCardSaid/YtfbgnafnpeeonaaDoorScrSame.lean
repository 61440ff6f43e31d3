/- Two scripts that are one are the same. Condition: both lie in memory. -/
import Derived.Test.YtfbgnafnpeeonaaDoorScrMay
import Derived.BigQuiet
namespace Go.Proofs.YtfbgnafnpeeonaaDoor.scr
set_option maxRecDepth 100000
open Go.RowKit Go.Proofs.YtfbgnafnpeeonaaDoor.words Go.Proofs.YtfbgnafnpeeonaaDoor.cal

set_option maxHeartbeats 12800000 in
theorem same_any (S : ScB) (Ai Ac Ap Bi Bc Bp : Option Addr) (ci cc cp di dc dp : Nat) (w : World) (hS : Scr w S Ai Ac Ap) (hT : Scr w S Bi Bc Bp) (hi : S.im.length ≤ 1000000) (hc : S.cl.length ≤ 1000000) (hno : ∀ l ∈ S.cl, l.length ≤ 1000000) (hk : S.pk.length ≤ 1000000) :
    Calls Tryd.prog 12 #[scV S (.slice Ai S.im.length ci) (.slice Ac S.cl.length cc) (.slice Ap S.pk.length cp), scV S (.slice Bi S.im.length di) (.slice Bc S.cl.length dc) (.slice Bp S.pk.length dp)] w (AnsB true w) := by
  obtain ⟨W1, hW1⟩ : ∃ W1, W1 = (w.alloc (.cells #[.int .i64 S.sh, .int .i64 S.rm, .int .i64 S.cu, .slice Ai S.im.length ci, .slice Ac S.cl.length cc, .slice Ap S.pk.length cp] 28)).alloc (.cells #[.int .i64 S.sh, .int .i64 S.rm, .int .i64 S.cu, .slice Bi S.im.length di, .slice Bc S.cl.length dc, .slice Bp S.pk.length dp] 28) := ⟨_, rfl⟩
  have hs1 : (w.alloc (.cells #[.int .i64 S.sh, .int .i64 S.rm, .int .i64 S.cu, .slice Ai S.im.length ci, .slice Ac S.cl.length cc, .slice Ap S.pk.length cp] 28)).heap.size = w.heap.size + 1 := by simp
  have hb1 : Below w.heap.size w W1 := by rw [hW1]; exact ((Below.refl _ _).alloc (Nat.le_refl _) _).alloc (by rw [hs1]; omega) _
  obtain ⟨g, hg⟩ : ∃ g, g = w.heap.size := ⟨_, rfl⟩
  obtain ⟨g', hg'⟩ : ∃ g', g' = w.heap.size + 1 := ⟨_, rfl⟩
  have x1 : W1.heap[g]? = some (.cells #[.int .i64 S.sh, .int .i64 S.rm, .int .i64 S.cu, .slice Ai S.im.length ci, .slice Ac S.cl.length cc, .slice Ap S.pk.length cp] 28 (0, 0)) := by
    rw [hW1, hg]
    exact (Below.heap_alloc _ _ _ (by rw [hs1]; omega)).trans (heap_alloc_new w _)
  have x2 : W1.heap[g']? = some (.cells #[.int .i64 S.sh, .int .i64 S.rm, .int .i64 S.cu, .slice Bi S.im.length di, .slice Bc S.cl.length dc, .slice Bp S.pk.length dp] 28 (0, 0)) := by rw [hW1, hg', ← hs1]; exact heap_alloc_new _ _
  have HX := Lib.hid x1
  have HY := Lib.hid x2
  have HS := Lib.hid (hS.later hb1)
  have HT := Lib.hid (hT.later hb1)
  have HB1 := Lib.hid hb1
  have HN := Lib.hid (And.intro hi (And.intro hc (And.intro hno hk)))
  have HW1 := Lib.hid hW1
  have HG := Lib.hid (And.intro hg hg')
  have y0 := cell_of_blk x1 0
  have y1 := cell_of_blk x1 1
  have y2 := cell_of_blk x1 2
  have y3 := cell_of_blk x1 3
  have y4 := cell_of_blk x1 4
  have y5 := cell_of_blk x1 5
  have z0 := cell_of_blk x2 0
  have z1 := cell_of_blk x2 1
  have z2 := cell_of_blk x2 2
  have z3 := cell_of_blk x2 3
  have z4 := cell_of_blk x2 4
  have z5 := cell_of_blk x2 5
  have t1 : ((S.im.length : Int) != (S.im.length : Int)) = false := bne_self_eq_false _
  have t2 : ((S.cl.length : Int) != (S.cl.length : Int)) = false := bne_self_eq_false _
  have t3 : ((S.pk.length : Int) != (S.pk.length : Int)) = false := bne_self_eq_false _
  clear hW1 hs1 hb1 x1 x2 hg hg' hS hT hi hc hno hk
  unfold scV
  go_enter Tryd.func12, Tryd.ntmps12
  go_upto_region 1 with fail
  rw [← HW1.out]
  simp only [← HG.out.2]
  simp only [← HG.out.1]
  clear HW1
  go_wp2_with fail
  clear y0 y1 y2 y3 y4 y5 z0 z1 z2 z3 z4 z5
  go_loopw [5, 44] (fun v5 v44 wr => ∃ (i : Nat), v44 = .int .i64 (i : Int) ∧ i ≤ S.im.length ∧ Hid (Below W1.heap.size W1 wr)) (fun _ v _ => S.im.length - (intOf v).toNat)
  case atStart => exact ⟨0, rfl, Nat.zero_le _, Lib.hid (Below.refl _ _)⟩
  case round =>
    obtain ⟨i, rfl, hi, HB⟩ := hrel
    obtain ⟨wp, hwp⟩ : ∃ wp, wp = wr := ⟨_, rfl⟩
    subst hwp
    have xr := (HB.out.block _ (lt_of_some HX.out)).trans HX.out
    have xs := (HB.out.block _ (lt_of_some HY.out)).trans HY.out
    have hin := HN.out.1
    by_cases hlt : i < S.im.length
    · obtain ⟨x, hx⟩ : ∃ x, S.im[i]? = some x := ⟨_, List.getElem?_eq_getElem hlt⟩
      obtain ⟨b, off, rfl, h2, h3⟩ := (HS.out.later HB.out).im i x hx
      obtain ⟨b', off', rfl, h4, h5⟩ := (HT.out.later HB.out).im i x hx
      have y3 := cell_of_blk xr 3
      have z3 := cell_of_blk xs 3
      have i0 : (0 : Int) ≤ (i : Int) := by omega
      have i1 : (i : Int) < (S.im.length : Int) := by omega
      have q1 : (x.toList != x.toList) = false := bne_self_eq_false _
      clear hx h2 h4 xr xs
      go_upto_region 6 with fail
      go_quiet (fail)
      go_wp2_with fail
      go_roundw
      case rel => exact ⟨i + 1, by go_num, by omega, Lib.hid (HB.out.trans ((⟨rfl, rfl, rfl, Nat.le_refl _, fun _ _ => rfl⟩ : Below wp.heap.size wp (wp.drewN _)).mono HB.out.size))⟩
      case measure => simp [intOf]; omega
    · obtain rfl : i = S.im.length := by omega
      have y5 := cell_of_blk xr 5
      clear xr xs
      go_wp2_with fail
      have HBa := HB
      clear HB y5 hin hi hlt
      go_loopw [6, 62] (fun v6 v62 wr => ∃ (i : Nat), v62 = .int .i64 (i : Int) ∧ i ≤ S.pk.length ∧ Hid (Below W1.heap.size W1 wr)) (fun _ v _ => S.pk.length - (intOf v).toNat)
      case atStart => exact ⟨0, rfl, Nat.zero_le _, HBa⟩
      case round =>
        obtain ⟨i, rfl, hi, HB⟩ := hrel
        clear HBa
        obtain ⟨wq, hwq⟩ : ∃ wq, wq = wr := ⟨_, rfl⟩
        subst hwq
        have xr := (HB.out.block _ (lt_of_some HX.out)).trans HX.out
        have xs := (HB.out.block _ (lt_of_some HY.out)).trans HY.out
        have hin := HN.out.2.2.2
        by_cases hlt : i < S.pk.length
        · obtain ⟨x, hx⟩ : ∃ x, S.pk[i]? = some x := ⟨_, List.getElem?_eq_getElem hlt⟩
          obtain ⟨b, off, rfl, h2, h3⟩ := (HS.out.later HB.out).pk i x hx
          obtain ⟨b', off', rfl, h4, h5⟩ := (HT.out.later HB.out).pk i x hx
          have y5 := cell_of_blk xr 5
          have z5 := cell_of_blk xs 5
          have i0 : (0 : Int) ≤ (i : Int) := by omega
          have i1 : (i : Int) < (S.pk.length : Int) := by omega
          have q1 : (x != x) = false := bne_self_eq_false _
          clear hx h2 h4 xr xs
          go_upto_region 12 with fail
          go_quiet (fail)
          go_wp2_with fail
          go_roundw
          case rel => exact ⟨i + 1, by go_num, by omega, Lib.hid (HB.out.trans ((⟨rfl, rfl, rfl, Nat.le_refl _, fun _ _ => rfl⟩ : Below wq.heap.size wq (wq.drewN _)).mono HB.out.size))⟩
          case measure => simp [intOf]; omega
        · obtain rfl : i = S.pk.length := by omega
          have y4 := cell_of_blk xr 4
          clear xr xs
          go_wp2_with fail
          have HBa := HB
          clear HB y4 hin hi hlt
          go_loopw [7, 80] (fun v7 v80 wr => ∃ (i : Nat), v80 = .int .i64 (i : Int) ∧ i ≤ S.cl.length ∧ Hid (Below W1.heap.size W1 wr)) (fun _ v _ => S.cl.length - (intOf v).toNat)
          case atStart => exact ⟨0, rfl, Nat.zero_le _, HBa⟩
          case round =>
            obtain ⟨i, rfl, hi, HB⟩ := hrel
            clear HBa
            obtain ⟨wo, hwo⟩ : ∃ wo, wo = wr := ⟨_, rfl⟩
            subst hwo
            have xr := (HB.out.block _ (lt_of_some HX.out)).trans HX.out
            have xs := (HB.out.block _ (lt_of_some HY.out)).trans HY.out
            have hin := HN.out.2.1
            by_cases hlt : i < S.cl.length
            · obtain ⟨l, hl⟩ : ∃ l, S.cl[i]? = some l := ⟨_, List.getElem?_eq_getElem hlt⟩
              obtain ⟨b, off, A2, c2, rfl, h2, h3, h4⟩ := (HS.out.later HB.out).cl i l hl
              obtain ⟨b', off', B2, d2, rfl, h2', h3', h4'⟩ := (HT.out.later HB.out).cl i l hl
              have y4 := cell_of_blk xr 4
              have z4 := cell_of_blk xs 4
              have hln := HN.out.2.2.1 l (List.mem_of_getElem? hl)
              have i0 : (0 : Int) ≤ (i : Int) := by omega
              have i1 : (i : Int) < (S.cl.length : Int) := by omega
              have q1 : ((l.length : Int) != (l.length : Int)) = false := bne_self_eq_false _
              have H4 := Lib.hid (And.intro h4 h4')
              have HC := Lib.hid (And.intro h2 (And.intro h3 (And.intro h2' h3')))
              clear hl h2 h2' h4 h4' xr xs
              go_upto_region 18 with fail
              go_quiet (fail)
              obtain ⟨W2, hW2⟩ : ∃ W2, W2 = wo.drewN nq := ⟨_, rfl⟩
              have HB2 : Hid (Below wo.heap.size wo W2) := Lib.hid (by rw [hW2]; exact ⟨rfl, rfl, rfl, Nat.le_refl _, fun _ _ => rfl⟩)
              rw [← hW2]
              have HB3 := Lib.hid (HB.out.trans (HB2.out.mono HB.out.size))
              have xr := (HB3.out.block _ (lt_of_some HX.out)).trans HX.out
              clear y4 z4 h3 h3' hW2
              have y4 := cell_of_blk xr 4
              have h3 := (HB2.out.cell (p := ⟨b, off + i, none⟩) HC.out.1).trans HC.out.2.1
              clear xr
              go_wp2_with fail
              clear y4 h3
              go_loopw [8, 102] (fun v8 v102 wr => ∃ (j : Nat), v102 = .int .i64 (j : Int) ∧ j ≤ l.length ∧ Hid (Below wo.heap.size wo wr)) (fun _ v _ => l.length - (intOf v).toNat)
              case atStart => exact ⟨0, rfl, Nat.zero_le _, HB2⟩
              case round =>
                obtain ⟨j, rfl, hj, HBj⟩ := hrel
                have HBB := Lib.hid (HB.out.trans (HBj.out.mono HB.out.size))
                by_cases hlj : j < l.length
                · obtain ⟨o, ho⟩ : ∃ o, l[j]? = some o := ⟨_, List.getElem?_eq_getElem hlj⟩
                  obtain ⟨b2, off2, rfl, h6, h7⟩ := H4.out.1 j o ho
                  obtain ⟨b3, off3, rfl, h8, h9⟩ := H4.out.2 j o ho
                  have k : ∀ (q : Nat) (u : Value), o.c[q]? = some u → wr.cell? ⟨b2, off2 + j * 6 + q, none⟩ = some u := fun q u hu => (HBj.out.cell (p := ⟨b2, off2 + j * 6 + q, none⟩) h6).trans (h7 q u hu)
                  have k' : ∀ (q : Nat) (u : Value), o.c[q]? = some u → wr.cell? ⟨b3, off3 + j * 6 + q, none⟩ = some u := fun q u hu => (HBj.out.cell (p := ⟨b3, off3 + j * 6 + q, none⟩) h8).trans (h9 q u hu)
                  have u0 := k 0 _ rfl
                  have u1 := k 1 _ rfl
                  have u2 := k 2 _ rfl
                  have u3 := k 3 _ rfl
                  have u4 := k 4 _ rfl
                  have u5 := k 5 _ rfl
                  have r0 := k' 0 _ rfl
                  have r1 := k' 1 _ rfl
                  have r2 := k' 2 _ rfl
                  have r3 := k' 3 _ rfl
                  have r4 := k' 4 _ rfl
                  have r5 := k' 5 _ rfl
                  rw [Nat.add_zero] at u0 r0
                  have xr := (HBB.out.block _ (lt_of_some HX.out)).trans HX.out
                  have xs := (HBB.out.block _ (lt_of_some HY.out)).trans HY.out
                  have y4 := cell_of_blk xr 4
                  have z4 := cell_of_blk xs 4
                  have h3 := (HBj.out.cell (p := ⟨b, off + i, none⟩) HC.out.1).trans HC.out.2.1
                  have h3' := (HBj.out.cell (p := ⟨b', off' + i, none⟩) HC.out.2.2.1).trans HC.out.2.2.2
                  have j0 : (0 : Int) ≤ (j : Int) := by omega
                  have j1 : (j : Int) < (l.length : Int) := by omega
                  clear ho h6 h7 h8 h9 k k' xr xs
                  go_upto_region 23 with fail
                  go_quiet (fail)
                  go_wp2_with fail
                  go_roundw
                  case rel => exact ⟨j + 1, by go_num, by omega, Lib.hid (HBj.out.trans ((⟨rfl, rfl, rfl, Nat.le_refl _, fun _ _ => rfl⟩ : Below wr.heap.size wr (wr.drewN _)).mono HBj.out.size))⟩
                  case measure => simp [intOf]; omega
                · obtain rfl : j = l.length := by omega
                  go_wp2_with fail
                  go_roundw
                  case rel => exact ⟨i + 1, by go_num, by omega, HBB⟩
                  case measure => simp [intOf]; omega
            · obtain rfl : i = S.cl.length := by omega
              have HFin : Hid (AnsB true w (.returned (.bool true)) wo) := Lib.hid ⟨rfl, HB1.out.trans (HB.out.mono HB1.out.size)⟩
              clear xr xs
              go_wp2_with fail
              go_ret
              exact HFin.out
end Go.Proofs.YtfbgnafnpeeonaaDoor.scr
