/- GateDoes: true. Condition: what is asked lies in memory. (Written by wip/gen/gengdo.py.) -/
import Derived.Test.YthmehalkijbpdaaGdoMath
import Derived.Deep.CutBlock
import Derived.Deep.CutRange
import Derived.Deep.RegionHeld3
namespace Go.Proofs.Ythmehalkijbpdaa.gdo
set_option maxRecDepth 100000
open Go.RowKit Go.Proofs.Ythmehalkijbpdaa.words Go.Proofs.Ythmehalkijbpdaa.lru Go.Proofs.Ythmehalkijbpdaa.mpi Go.Proofs.Ythmehalkijbpdaa.gat

set_option maxHeartbeats 25600000 in
theorem law_does (A : Option Addr) (c : Nat) (T : List Act17) (w0 : World) (hT : Act17s w0 w0.heap.size A T) (hsz : ∀ y ∈ T, y.fine) (hlen : T.length ≤ 9223372036854775807) :
    Calls Try.prog 3 #[.slice A T.length c] w0 fun e w' => e = .returned (.bool true) ∧ Below w0.heap.size w0 w' := by
  have HT := Lib.hid hT
  have HSZ := Lib.hid hsz
  have HC0 := Lib.hid (speaks_any w0)
  clear hT hsz
  go_enter Try.func3, Try.ntmps3
  go_wp2_with fail
  refine HC0.out.mono ?_
  rintro e w ⟨rfl, hb1⟩
  have HB1 := Lib.hid hb1
  clear hb1 HC0
  by_cases h300 : T.length ≤ 300
  rotate_left
  · have g300 : (300 : Int) < (T.length : Int) := by omega
    have g301 : 300 < T.length := by omega
    go_wp2_with fail
    go_ret
    exact ⟨rfl, HB1.out⟩
  have g300 : ¬ (300 : Int) < (T.length : Int) := by omega
  have g301 : ¬ 300 < T.length := by omega
  obtain ⟨W1, hW1⟩ : ∃ W1, W1 = w.alloc (.cells #[.map none, .int .i64 0, .bool false, .map none, .int .i64 0] 27) := ⟨_, rfl⟩
  obtain ⟨W2, hW2⟩ : ∃ W2, W2 = W1.alloc (.cells #[.slice none 0 0, .slice none 0 0, .slice none 0 0] 30) := ⟨_, rfl⟩
  obtain ⟨g, hg⟩ : ∃ g, g = w.heap.size := ⟨_, rfl⟩
  obtain ⟨b, hb⟩ : ∃ b, b = w.heap.size + 1 := ⟨_, rfl⟩
  have hI : InG w g b 0 W2 (.map none) (.map none) (.slice none 0 0) (.slice none 0 0) (.slice none 0 0) [] none [] 0 := by
    have hb1 : Below w.heap.size w W1 := by rw [hW1]; exact (Below.refl _ _).alloc (Nat.le_refl _) _
    have hz : W1.heap.size = w.heap.size + 1 := by rw [hW1]; simp
    have hb2 : Below W1.heap.size W1 W2 := by rw [hW2]; exact (Below.refl _ _).alloc (Nat.le_refl _) _
    have hg1 := Gt.new w w.heap.size (Nat.le_refl _)
    rw [← hW1] at hg1
    rw [hg, hb]
    refine ⟨hg1.later hb2, ⟨World.ownsRow_nil _ _ _ _, World.ownsRow_nil _ _ _ _, World.ownsRow_nil _ _ _ _⟩, ?_, Nat.le_succ _, hb1.trans (hb2.mono hb1.size), (fun h => by cases h), Int.le_refl _, Int.le_refl _, Nat.le_refl _⟩
    rw [← hz, hW2]
    exact heap_alloc_new W1 _
  have HI0 := Lib.hid hI
  have HW1 := Lib.hid hW1
  have HW2 := Lib.hid hW2
  have HG := Lib.hid hg.symm
  have HBB := Lib.hid hb.symm
  clear hI hW1 hW2 hg hb
  go_upto_region 7 with fail
  rw [← HW1.out, ← HW2.out, HBB.out, HG.out]
  clear HW1 HW2
  go_wp2_with fail
  go_loopw [17] (fun v wr => ∃ (j : Nat) (v1 v2 a1 a2 a3 : Value) (R : List Int) (o : Option Int) (W : List Int) (q : Int), v = .int .i64 (j : Int) ∧ j ≤ T.length ∧ Hid (InG w g b j wr v1 v2 a1 a2 a3 R o W q)) (fun v _ => T.length - (intOf v).toNat)
  case atStart => exact ⟨0, _, _, _, _, _, _, _, _, _, rfl, Nat.zero_le _, HI0⟩
  case round =>
    clear HI0
    obtain ⟨j, v1, v2, a1, a2, a3, R, o, W, q, rfl, hj, HI⟩ := hrel
    have j0 : (0 : Int) ≤ (j : Int) := by omega
    by_cases hjl : j < T.length
    rotate_left
    · have hjl2 : ¬ (j : Int) < (T.length : Int) := by omega
      go_wp2_with fail
      go_ret
      exact ⟨rfl, HB1.out.trans (HI.out.below.mono HB1.out.size)⟩
    have j1 : (j : Int) < (T.length : Int) := by omega
    have hj300 : j ≤ 300 := by omega
    obtain ⟨⟨kd, id⟩, hp⟩ : ∃ p, T[j]? = some p := ⟨_, List.getElem?_eq_getElem hjl⟩
    have hfine := HSZ.out _ (List.mem_of_getElem? hp)
    obtain ⟨hf1, hf2⟩ := hfine
    obtain ⟨ab, off, hA, hab, t0, t1⟩ := ((HT.out.keep HB1.out).keep (HI.out.below.mono HB1.out.size)) j _ hp
    subst hA
    obtain ⟨W3, hW3⟩ : ∃ W3, W3 = wr.alloc (.cells #[.int .u8 (kd : Int), .int .u8 (id : Int)] 32) := ⟨_, rfl⟩
    have hb3 : Below wr.heap.size wr W3 := by rw [hW3]; exact (Below.refl _ _).alloc (Nat.le_refl _) _
    have hk3 : W3.heap[wr.heap.size]? = some (.cells #[.int .u8 (kd : Int), .int .u8 (id : Int)] 32 (0, 0)) := by rw [hW3]; exact heap_alloc_new wr _
    have y0 := cell_of_blk hk3 0
    have y1 := cell_of_blk hk3 1
    have HI3 := Lib.hid (HI.out.later hb3)
    obtain ⟨x, hx⟩ : ∃ x : Int, x = (id : Int) := ⟨_, rfl⟩
    have hid0 : 0 ≤ x ∧ x ≤ 255 := by have : id ≤ 255 := hf2; omega
    have hidw : IntKind.i64.wrap (id : Int) = x := by rw [hx]; exact IntWalk.i64_in _ (by omega)
    have HFX : Hid (Fits x) := Lib.hid (fit_small hid0.1 (by omega))
    have HW3 := Lib.hid hW3
    clear hW3 hb3 hk3 hp hf1 hf2 hid0 hx HI
    go_upto_region 10 with fail
    rw [← HW3.out]
    clear t0 t1
    have hR9 : R.length ≤ 900 := by have := HI3.out.rl; omega
    have hW9 : W.length ≤ 900 := by have := HI3.out.ql; have := HI3.out.q0; omega
    have hq6 : q + (W.length : Int) ≤ 1000000 := by have := HI3.out.ql; omega
    have hS3 := HI3.out.below.size
    have hSS : w.heap.size ≤ W3.heap.size := hS3
    obtain ⟨m, hm, hm3⟩ : ∃ m : Int, m = (kd : Int) % 3 ∧ (m = 0 ∨ m = 1 ∨ m = 2) := ⟨_, rfl, by omega⟩
    have hmt : Int.tmod (kd : Int) 3 = m := by rw [hm, Int.tmod_eq_emod_of_nonneg (by omega)]
    have hme : (kd : Int) % 3 = m := hm.symm
    clear hm
    go_upto_block 2 with fail
    clear hmt hme hidw y0 y1
    go_cut [7, 8] from 18 to 98 (fun v7 v8 wx => Cut w g b (j + 1) v7 v8 wx)
    case first =>
      rcases hm3 with rfl | rfl | rfl
      · as_aux_lemma =>
          by_cases hin : inB R o x = true
          · have HP1 := Lib.hid (read_no w.heap.size g v1 v2 R o W q x W3 HI3.out.gt HFX.out (.inl hin))
            go_wp2_with fail
            refine HP1.out.mono ?_
            rintro e w2 ⟨rfl, e1⟩
            have hl : gat.Left W3 w.heap.size g v1 v2 R o W q w2 := e1 ▸ gat.Left.same HI3.out.gt
            clear e1
            obtain ⟨u1, u2, hM⟩ := HI3.out.mid hl
            have p0 := cell_of_blk hM.bx 0
            have p1 := cell_of_blk hM.bx 1
            have p2 := cell_of_blk hM.bx 2
            have HM := Lib.hid hM
            have hS2 := hM.below.size
            clear hl hM
            have HP2 := Lib.hid (refread_no _ _ _ _ R o W x w2 HM.out.rf (by omega) (.inl hin))
            go_wp2_with fail
            refine HP2.out.mono ?_
            rintro e w3 ⟨c1, c2, c3, rfl, hr3, hb3⟩
            obtain ⟨D1, m1, e1, D2, m2, e2, D3, m3, e3, rfl, rfl, rfl⟩ := slicesN hr3
            have hbx3 := HM.out.bx.later hb3
            have z0 := cell_of_blk hbx3 0
            have z1 := cell_of_blk hbx3 1
            have z2 := cell_of_blk hbx3 2
            have fz0 := free_of_blk hbx3 0
            have fz1 := free_of_blk hbx3 1
            have fz2 := free_of_blk hbx3 2
            obtain ⟨W4, hW4⟩ : ∃ W4, W4 = ((w3.setCell ⟨b, 0, none⟩ (.slice D1 m1 e1)).setCell ⟨b, 1, none⟩ (.slice D2 m2 e2)).setCell ⟨b, 2, none⟩ (.slice D3 m3 e3) := ⟨_, rfl⟩
            have HE : Hid (InG w g b (j + 1) W4 u1 u2 (.slice D1 m1 e1) (.slice D2 m2 e2) (.slice D3 m3 e3) R o W q) := Lib.hid (HM.out.fin hr3 hb3 hW4 HI3.out.alone HI3.out.q0 (by have := HI3.out.ql; omega) (by have := HI3.out.rl; omega))
            clear hr3 hb3 hbx3 p0 p1 p2 HP1 HP2 HM
            go_wp2_with fail
            rw [← hW4]
            go_meet
            case rel => exact ⟨false, _, _, _, _, _, _, _, _, _, rfl, rfl, HE⟩
          rcases o with _ | z
          rotate_left
          · have HP1 := Lib.hid (read_no w.heap.size g v1 v2 R (some z) W q x W3 HI3.out.gt HFX.out (.inr (.inl rfl)))
            go_wp2_with fail
            refine HP1.out.mono ?_
            rintro e w2 ⟨rfl, e1⟩
            have hl : gat.Left W3 w.heap.size g v1 v2 R (some z) W q w2 := e1 ▸ gat.Left.same HI3.out.gt
            clear e1
            obtain ⟨u1, u2, hM⟩ := HI3.out.mid hl
            have p0 := cell_of_blk hM.bx 0
            have p1 := cell_of_blk hM.bx 1
            have p2 := cell_of_blk hM.bx 2
            have HM := Lib.hid hM
            have hS2 := hM.below.size
            clear hl hM
            have HP2 := Lib.hid (refread_no _ _ _ _ R (some z) W x w2 HM.out.rf (by omega) (.inr (.inl rfl)))
            go_wp2_with fail
            refine HP2.out.mono ?_
            rintro e w3 ⟨c1, c2, c3, rfl, hr3, hb3⟩
            obtain ⟨D1, m1, e1, D2, m2, e2, D3, m3, e3, rfl, rfl, rfl⟩ := slicesN hr3
            have hbx3 := HM.out.bx.later hb3
            have z0 := cell_of_blk hbx3 0
            have z1 := cell_of_blk hbx3 1
            have z2 := cell_of_blk hbx3 2
            have fz0 := free_of_blk hbx3 0
            have fz1 := free_of_blk hbx3 1
            have fz2 := free_of_blk hbx3 2
            obtain ⟨W4, hW4⟩ : ∃ W4, W4 = ((w3.setCell ⟨b, 0, none⟩ (.slice D1 m1 e1)).setCell ⟨b, 1, none⟩ (.slice D2 m2 e2)).setCell ⟨b, 2, none⟩ (.slice D3 m3 e3) := ⟨_, rfl⟩
            have HE : Hid (InG w g b (j + 1) W4 u1 u2 (.slice D1 m1 e1) (.slice D2 m2 e2) (.slice D3 m3 e3) R (some z) W q) := Lib.hid (HM.out.fin hr3 hb3 hW4 HI3.out.alone HI3.out.q0 (by have := HI3.out.ql; omega) (by have := HI3.out.rl; omega))
            clear hr3 hb3 hbx3 p0 p1 p2 HP1 HP2 HM
            go_wp2_with fail
            rw [← hW4]
            go_meet
            case rel => exact ⟨false, _, _, _, _, _, _, _, _, _, rfl, rfl, HE⟩
          rcases W with _ | ⟨z, W⟩
          rotate_left
          · have HP1 := Lib.hid (read_no w.heap.size g v1 v2 R none (z :: W) q x W3 HI3.out.gt HFX.out (.inr (.inr (by simp))))
            go_wp2_with fail
            refine HP1.out.mono ?_
            rintro e w2 ⟨rfl, e1⟩
            have hl : gat.Left W3 w.heap.size g v1 v2 R none (z :: W) q w2 := e1 ▸ gat.Left.same HI3.out.gt
            clear e1
            obtain ⟨u1, u2, hM⟩ := HI3.out.mid hl
            have p0 := cell_of_blk hM.bx 0
            have p1 := cell_of_blk hM.bx 1
            have p2 := cell_of_blk hM.bx 2
            have HM := Lib.hid hM
            have hS2 := hM.below.size
            clear hl hM
            have HP2 := Lib.hid (refread_no _ _ _ _ R none (z :: W) x w2 HM.out.rf (by omega) (.inr (.inr (by simp))))
            go_wp2_with fail
            refine HP2.out.mono ?_
            rintro e w3 ⟨c1, c2, c3, rfl, hr3, hb3⟩
            obtain ⟨D1, m1, e1, D2, m2, e2, D3, m3, e3, rfl, rfl, rfl⟩ := slicesN hr3
            have hbx3 := HM.out.bx.later hb3
            have z0 := cell_of_blk hbx3 0
            have z1 := cell_of_blk hbx3 1
            have z2 := cell_of_blk hbx3 2
            have fz0 := free_of_blk hbx3 0
            have fz1 := free_of_blk hbx3 1
            have fz2 := free_of_blk hbx3 2
            obtain ⟨W4, hW4⟩ : ∃ W4, W4 = ((w3.setCell ⟨b, 0, none⟩ (.slice D1 m1 e1)).setCell ⟨b, 1, none⟩ (.slice D2 m2 e2)).setCell ⟨b, 2, none⟩ (.slice D3 m3 e3) := ⟨_, rfl⟩
            have HE : Hid (InG w g b (j + 1) W4 u1 u2 (.slice D1 m1 e1) (.slice D2 m2 e2) (.slice D3 m3 e3) R none (z :: W) q) := Lib.hid (HM.out.fin hr3 hb3 hW4 HI3.out.alone HI3.out.q0 (by have := HI3.out.ql; omega) (by have := HI3.out.rl; omega))
            clear hr3 hb3 hbx3 p0 p1 p2 HP1 HP2 HM
            go_wp2_with fail
            rw [← hW4]
            go_meet
            case rel => exact ⟨false, _, _, _, _, _, _, _, _, _, rfl, rfl, HE⟩
          have hin : inB R none x = false := by simpa using hin
          have HP1 := Lib.hid (read_yes w.heap.size g v1 v2 R q x W3 HI3.out.gt HFX.out (in_none hin) (by omega) hSS)
          go_wp2_with fail
          refine HP1.out.mono ?_
          rintro e w2 ⟨rfl, hl⟩
          obtain ⟨u1, u2, hM⟩ := HI3.out.mid hl
          have p0 := cell_of_blk hM.bx 0
          have p1 := cell_of_blk hM.bx 1
          have p2 := cell_of_blk hM.bx 2
          have HM := Lib.hid hM
          have hS2 := hM.below.size
          clear hl hM
          have HP2 := Lib.hid (refread_yes _ _ _ _ R x w2 HM.out.rf hR9 hin hS2)
          go_wp2_with fail
          refine HP2.out.mono ?_
          rintro e w3 ⟨c1, c2, c3, rfl, hr3, hb3⟩
          obtain ⟨D1, m1, e1, D2, m2, e2, D3, m3, e3, rfl, rfl, rfl⟩ := slicesN hr3
          have hbx3 := HM.out.bx.later hb3
          have z0 := cell_of_blk hbx3 0
          have z1 := cell_of_blk hbx3 1
          have z2 := cell_of_blk hbx3 2
          have fz0 := free_of_blk hbx3 0
          have fz1 := free_of_blk hbx3 1
          have fz2 := free_of_blk hbx3 2
          obtain ⟨W4, hW4⟩ : ∃ W4, W4 = ((w3.setCell ⟨b, 0, none⟩ (.slice D1 m1 e1)).setCell ⟨b, 1, none⟩ (.slice D2 m2 e2)).setCell ⟨b, 2, none⟩ (.slice D3 m3 e3) := ⟨_, rfl⟩
          have HE : Hid (InG w g b (j + 1) W4 u1 u2 (.slice D1 m1 e1) (.slice D2 m2 e2) (.slice D3 m3 e3) (R ++ [x]) none [] q) := Lib.hid (HM.out.fin hr3 hb3 hW4 (fun h => by cases h) HI3.out.q0 (by have := HI3.out.ql; omega) (by have := HI3.out.rl; rw [List.length_append]; simp; omega))
          clear hr3 hb3 hbx3 p0 p1 p2 HP1 HP2 HM
          go_wp2_with fail
          rw [← hW4]
          go_meet
          case rel => exact ⟨true, _, _, _, _, _, _, _, _, _, rfl, rfl, HE⟩

      · as_aux_lemma =>
          by_cases hin : inB R o x = true
          · have HP1 := Lib.hid (write_in w.heap.size g v1 v2 R o W q x W3 HI3.out.gt HFX.out hin)
            go_wp2_with fail
            refine HP1.out.mono ?_
            rintro e w2 ⟨rfl, e1⟩
            have hl : gat.Left W3 w.heap.size g v1 v2 R o W q w2 := e1 ▸ gat.Left.same HI3.out.gt
            clear e1
            obtain ⟨u1, u2, hM⟩ := HI3.out.mid hl
            have p0 := cell_of_blk hM.bx 0
            have p1 := cell_of_blk hM.bx 1
            have p2 := cell_of_blk hM.bx 2
            have HM := Lib.hid hM
            have hS2 := hM.below.size
            clear hl hM
            have HP2 := Lib.hid (refwrite_no _ _ _ _ R o W x w2 HM.out.rf hR9 hW9 hin hS2)
            go_wp2_with fail
            refine HP2.out.mono ?_
            rintro e w3 ⟨c1, c2, c3, rfl, hr3, hb3⟩
            obtain ⟨D1, m1, e1, D2, m2, e2, D3, m3, e3, rfl, rfl, rfl⟩ := slicesN hr3
            have hbx3 := HM.out.bx.later hb3
            have z0 := cell_of_blk hbx3 0
            have z1 := cell_of_blk hbx3 1
            have z2 := cell_of_blk hbx3 2
            have fz0 := free_of_blk hbx3 0
            have fz1 := free_of_blk hbx3 1
            have fz2 := free_of_blk hbx3 2
            obtain ⟨W4, hW4⟩ : ∃ W4, W4 = ((w3.setCell ⟨b, 0, none⟩ (.slice D1 m1 e1)).setCell ⟨b, 1, none⟩ (.slice D2 m2 e2)).setCell ⟨b, 2, none⟩ (.slice D3 m3 e3) := ⟨_, rfl⟩
            have HE : Hid (InG w g b (j + 1) W4 u1 u2 (.slice D1 m1 e1) (.slice D2 m2 e2) (.slice D3 m3 e3) R o W q) := Lib.hid (HM.out.fin hr3 hb3 hW4 HI3.out.alone HI3.out.q0 (by have := HI3.out.ql; omega) (by have := HI3.out.rl; omega))
            clear hr3 hb3 hbx3 p0 p1 p2 HP1 HP2 HM
            go_wp2_with fail
            rw [← hW4]
            go_meet
            case rel => exact ⟨false, _, _, _, _, _, _, _, _, _, rfl, rfl, HE⟩
          have hin : inB R o x = false := by simpa using hin
          by_cases hgo : (addW W x).head? = some x ∧ o = none ∧ R = []
          · obtain ⟨hh, rfl, rfl⟩ := hgo
            obtain ⟨Wn, hWn⟩ : ∃ Wn, addW W x = x :: Wn := by
              rcases hc : addW W x with _ | ⟨z, Wn⟩
              · rw [hc] at hh; cases hh
              · rw [hc, List.head?_cons] at hh
                injection hh with hh
                exact ⟨Wn, by rw [hh]⟩
            have hnd : x ∉ Wn := by
              have := addW_nd (x := x) HI3.out.gt.ndW
              rw [hWn] at this
              exact (List.nodup_cons.1 this).1
            clear hh
            rcases hhas : hasB W x with _ | _
            · have hadd : addW W x = W ++ [x] := addW_no hhas
              have HP1 := Lib.hid (write_go w.heap.size g v1 v2 W q x W3 Wn HI3.out.gt HFX.out hWn HI3.out.q0 hq6 hSS)
              go_wp2_with fail
              refine HP1.out.mono ?_
              rintro e w2 ⟨rfl, hl⟩
              obtain ⟨u1, u2, hM⟩ := HI3.out.mid hl
              have p0 := cell_of_blk hM.bx 0
              have p1 := cell_of_blk hM.bx 1
              have p2 := cell_of_blk hM.bx 2
              have HM := Lib.hid hM
              have hS2 := hM.below.size
              clear hl hM
              have HP2 := Lib.hid (refwrite_go_new _ _ _ _ [] none W x w2 Wn HM.out.rf rfl rfl hW9 hhas (by rw [← hadd]; exact hWn) hnd hS2)
              go_wp2_with fail
              refine HP2.out.mono ?_
              rintro e w3 ⟨c1, c2, c3, rfl, hr3, hb3⟩
              obtain ⟨D1, m1, e1, D2, m2, e2, D3, m3, e3, rfl, rfl, rfl⟩ := slicesN hr3
              have hbx3 := HM.out.bx.later hb3
              have z0 := cell_of_blk hbx3 0
              have z1 := cell_of_blk hbx3 1
              have z2 := cell_of_blk hbx3 2
              have fz0 := free_of_blk hbx3 0
              have fz1 := free_of_blk hbx3 1
              have fz2 := free_of_blk hbx3 2
              obtain ⟨W4, hW4⟩ : ∃ W4, W4 = ((w3.setCell ⟨b, 0, none⟩ (.slice D1 m1 e1)).setCell ⟨b, 1, none⟩ (.slice D2 m2 e2)).setCell ⟨b, 2, none⟩ (.slice D3 m3 e3) := ⟨_, rfl⟩
              have HE : Hid (InG w g b (j + 1) W4 u1 u2 (.slice D1 m1 e1) (.slice D2 m2 e2) (.slice D3 m3 e3) [] (some x) Wn (q + 1)) := Lib.hid (HM.out.fin hr3 hb3 hW4 (fun _ => rfl) (by have := HI3.out.q0; omega) (by have := HI3.out.ql; have h1 := addW_le W x; rw [hWn, List.length_cons] at h1; omega) (Nat.zero_le _))
              clear hr3 hb3 hbx3 p0 p1 p2 HP1 HP2 HM
              go_wp2_with fail
              rw [← hW4]
              go_meet
              case rel => exact ⟨true, _, _, _, _, _, _, _, _, _, rfl, rfl, HE⟩

            · have hadd : addW W x = W := addW_yes hhas
              have HP1 := Lib.hid (write_go w.heap.size g v1 v2 W q x W3 Wn HI3.out.gt HFX.out hWn HI3.out.q0 hq6 hSS)
              go_wp2_with fail
              refine HP1.out.mono ?_
              rintro e w2 ⟨rfl, hl⟩
              obtain ⟨u1, u2, hM⟩ := HI3.out.mid hl
              have p0 := cell_of_blk hM.bx 0
              have p1 := cell_of_blk hM.bx 1
              have p2 := cell_of_blk hM.bx 2
              have HM := Lib.hid hM
              have hS2 := hM.below.size
              clear hl hM
              have HP2 := Lib.hid (refwrite_go_has _ _ _ _ [] none W x w2 Wn HM.out.rf rfl rfl hW9 hhas (by rw [← hadd]; exact hWn) hnd hS2)
              go_wp2_with fail
              refine HP2.out.mono ?_
              rintro e w3 ⟨c1, c2, c3, rfl, hr3, hb3⟩
              obtain ⟨D1, m1, e1, D2, m2, e2, D3, m3, e3, rfl, rfl, rfl⟩ := slicesN hr3
              have hbx3 := HM.out.bx.later hb3
              have z0 := cell_of_blk hbx3 0
              have z1 := cell_of_blk hbx3 1
              have z2 := cell_of_blk hbx3 2
              have fz0 := free_of_blk hbx3 0
              have fz1 := free_of_blk hbx3 1
              have fz2 := free_of_blk hbx3 2
              obtain ⟨W4, hW4⟩ : ∃ W4, W4 = ((w3.setCell ⟨b, 0, none⟩ (.slice D1 m1 e1)).setCell ⟨b, 1, none⟩ (.slice D2 m2 e2)).setCell ⟨b, 2, none⟩ (.slice D3 m3 e3) := ⟨_, rfl⟩
              have HE : Hid (InG w g b (j + 1) W4 u1 u2 (.slice D1 m1 e1) (.slice D2 m2 e2) (.slice D3 m3 e3) [] (some x) Wn (q + 1)) := Lib.hid (HM.out.fin hr3 hb3 hW4 (fun _ => rfl) (by have := HI3.out.q0; omega) (by have := HI3.out.ql; have h1 := addW_le W x; rw [hWn, List.length_cons] at h1; omega) (Nat.zero_le _))
              clear hr3 hb3 hbx3 p0 p1 p2 HP1 HP2 HM
              go_wp2_with fail
              rw [← hW4]
              go_meet
              case rel => exact ⟨true, _, _, _, _, _, _, _, _, _, rfl, rfl, HE⟩

          · have hno : (addW W x).head? ≠ some x ∨ o.isSome = true ∨ R ≠ [] := by
              by_cases h1 : (addW W x).head? = some x
              · rcases ho : o with _ | z
                · by_cases h3 : R = []
                  · exact absurd ⟨h1, ho, h3⟩ hgo
                  · exact .inr (.inr h3)
                · exact .inr (.inl rfl)
              · exact .inl h1
            clear hgo
            rcases hhas : hasB W x with _ | _
            · have hadd : addW W x = W ++ [x] := addW_no hhas
              have HP1 := Lib.hid (write_wait w.heap.size g v1 v2 R o W q x W3 HI3.out.gt HFX.out hin hno HI3.out.q0 hq6 hSS)
              go_wp2_with fail
              refine HP1.out.mono ?_
              rintro e w2 ⟨rfl, hl⟩
              obtain ⟨u1, u2, hM⟩ := HI3.out.mid hl
              have p0 := cell_of_blk hM.bx 0
              have p1 := cell_of_blk hM.bx 1
              have p2 := cell_of_blk hM.bx 2
              have HM := Lib.hid hM
              have hS2 := hM.below.size
              clear hl hM
              have HP2 := Lib.hid ((by have h := refwrite_wait_new _ _ _ _ R o W x w2 HM.out.rf hR9 hW9 hin hhas (by rw [← hadd]; exact hno) hS2; rw [← hadd] at h; exact h))
              go_wp2_with fail
              refine HP2.out.mono ?_
              rintro e w3 ⟨c1, c2, c3, rfl, hr3, hb3⟩
              obtain ⟨D1, m1, e1, D2, m2, e2, D3, m3, e3, rfl, rfl, rfl⟩ := slicesN hr3
              have hbx3 := HM.out.bx.later hb3
              have z0 := cell_of_blk hbx3 0
              have z1 := cell_of_blk hbx3 1
              have z2 := cell_of_blk hbx3 2
              have fz0 := free_of_blk hbx3 0
              have fz1 := free_of_blk hbx3 1
              have fz2 := free_of_blk hbx3 2
              obtain ⟨W4, hW4⟩ : ∃ W4, W4 = ((w3.setCell ⟨b, 0, none⟩ (.slice D1 m1 e1)).setCell ⟨b, 1, none⟩ (.slice D2 m2 e2)).setCell ⟨b, 2, none⟩ (.slice D3 m3 e3) := ⟨_, rfl⟩
              have HE : Hid (InG w g b (j + 1) W4 u1 u2 (.slice D1 m1 e1) (.slice D2 m2 e2) (.slice D3 m3 e3) R o (addW W x) q) := Lib.hid (HM.out.fin hr3 hb3 hW4 HI3.out.alone HI3.out.q0 (by have := HI3.out.ql; have := addW_le W x; omega) (by have := HI3.out.rl; omega))
              clear hr3 hb3 hbx3 p0 p1 p2 HP1 HP2 HM
              go_wp2_with fail
              rw [← hW4]
              go_meet
              case rel => exact ⟨false, _, _, _, _, _, _, _, _, _, rfl, rfl, HE⟩

            · have hadd : addW W x = W := addW_yes hhas
              have HP1 := Lib.hid (write_wait w.heap.size g v1 v2 R o W q x W3 HI3.out.gt HFX.out hin hno HI3.out.q0 hq6 hSS)
              go_wp2_with fail
              refine HP1.out.mono ?_
              rintro e w2 ⟨rfl, hl⟩
              obtain ⟨u1, u2, hM⟩ := HI3.out.mid hl
              have p0 := cell_of_blk hM.bx 0
              have p1 := cell_of_blk hM.bx 1
              have p2 := cell_of_blk hM.bx 2
              have HM := Lib.hid hM
              have hS2 := hM.below.size
              clear hl hM
              have HP2 := Lib.hid ((by have h := refwrite_wait_has _ _ _ _ R o W x w2 HM.out.rf hR9 hW9 hin hhas (by rw [← hadd]; exact hno) hS2; rw [← hadd] at h; exact h))
              go_wp2_with fail
              refine HP2.out.mono ?_
              rintro e w3 ⟨c1, c2, c3, rfl, hr3, hb3⟩
              obtain ⟨D1, m1, e1, D2, m2, e2, D3, m3, e3, rfl, rfl, rfl⟩ := slicesN hr3
              have hbx3 := HM.out.bx.later hb3
              have z0 := cell_of_blk hbx3 0
              have z1 := cell_of_blk hbx3 1
              have z2 := cell_of_blk hbx3 2
              have fz0 := free_of_blk hbx3 0
              have fz1 := free_of_blk hbx3 1
              have fz2 := free_of_blk hbx3 2
              obtain ⟨W4, hW4⟩ : ∃ W4, W4 = ((w3.setCell ⟨b, 0, none⟩ (.slice D1 m1 e1)).setCell ⟨b, 1, none⟩ (.slice D2 m2 e2)).setCell ⟨b, 2, none⟩ (.slice D3 m3 e3) := ⟨_, rfl⟩
              have HE : Hid (InG w g b (j + 1) W4 u1 u2 (.slice D1 m1 e1) (.slice D2 m2 e2) (.slice D3 m3 e3) R o (addW W x) q) := Lib.hid (HM.out.fin hr3 hb3 hW4 HI3.out.alone HI3.out.q0 (by have := HI3.out.ql; have := addW_le W x; omega) (by have := HI3.out.rl; omega))
              clear hr3 hb3 hbx3 p0 p1 p2 HP1 HP2 HM
              go_wp2_with fail
              rw [← hW4]
              go_meet
              case rel => exact ⟨false, _, _, _, _, _, _, _, _, _, rfl, rfl, HE⟩

      · as_aux_lemma =>
          by_cases hin : inB R o x = true
          · have HP1 := Lib.hid (leave_yes w.heap.size g v1 v2 R o W q x W3 HI3.out.gt HFX.out hin)
            go_wp2_with fail
            refine HP1.out.mono ?_
            rintro e w2 ⟨rfl, hl⟩
            obtain ⟨u1, u2, hM⟩ := HI3.out.mid hl
            have p0 := cell_of_blk hM.bx 0
            have p1 := cell_of_blk hM.bx 1
            have p2 := cell_of_blk hM.bx 2
            have HM := Lib.hid hM
            have hS2 := hM.below.size
            clear hl hM
            have HP2 := Lib.hid (refleave_yes _ _ _ _ R o W x w2 HM.out.rf hR9 hW9 hin HI3.out.alone hS2)
            go_wp2_with fail
            refine HP2.out.mono ?_
            rintro e w3 ⟨c1, c2, c3, rfl, hr3, hb3⟩
            obtain ⟨D1, m1, e1, D2, m2, e2, D3, m3, e3, rfl, rfl, rfl⟩ := slicesN hr3
            have hbx3 := HM.out.bx.later hb3
            have z0 := cell_of_blk hbx3 0
            have z1 := cell_of_blk hbx3 1
            have z2 := cell_of_blk hbx3 2
            have fz0 := free_of_blk hbx3 0
            have fz1 := free_of_blk hbx3 1
            have fz2 := free_of_blk hbx3 2
            obtain ⟨W4, hW4⟩ : ∃ W4, W4 = ((w3.setCell ⟨b, 0, none⟩ (.slice D1 m1 e1)).setCell ⟨b, 1, none⟩ (.slice D2 m2 e2)).setCell ⟨b, 2, none⟩ (.slice D3 m3 e3) := ⟨_, rfl⟩
            have HE : Hid (InG w g b (j + 1) W4 u1 u2 (.slice D1 m1 e1) (.slice D2 m2 e2) (.slice D3 m3 e3) (less R x) none W q) := Lib.hid (HM.out.fin hr3 hb3 hW4 (fun h => by cases h) HI3.out.q0 (by have := HI3.out.ql; omega) (by have := HI3.out.rl; have := less_le R x; omega))
            clear hr3 hb3 hbx3 p0 p1 p2 HP1 HP2 HM
            go_wp2_with fail
            rw [← hW4]
            go_meet
            case rel => exact ⟨true, _, _, _, _, _, _, _, _, _, rfl, rfl, HE⟩
          have hin : inB R o x = false := by simpa using hin
          have HP1 := Lib.hid (leave_no w.heap.size g v1 v2 R o W q x W3 HI3.out.gt HFX.out hin)
          go_wp2_with fail
          refine HP1.out.mono ?_
          rintro e w2 ⟨rfl, e1⟩
          have hl : gat.Left W3 w.heap.size g v1 v2 R o W q w2 := e1 ▸ gat.Left.same HI3.out.gt
          clear e1
          obtain ⟨u1, u2, hM⟩ := HI3.out.mid hl
          have p0 := cell_of_blk hM.bx 0
          have p1 := cell_of_blk hM.bx 1
          have p2 := cell_of_blk hM.bx 2
          have HM := Lib.hid hM
          have hS2 := hM.below.size
          clear hl hM
          have HP2 := Lib.hid (refleave_no _ _ _ _ R o W x w2 HM.out.rf hR9 hW9 hin hS2)
          go_wp2_with fail
          refine HP2.out.mono ?_
          rintro e w3 ⟨c1, c2, c3, rfl, hr3, hb3⟩
          obtain ⟨D1, m1, e1, D2, m2, e2, D3, m3, e3, rfl, rfl, rfl⟩ := slicesN hr3
          have hbx3 := HM.out.bx.later hb3
          have z0 := cell_of_blk hbx3 0
          have z1 := cell_of_blk hbx3 1
          have z2 := cell_of_blk hbx3 2
          have fz0 := free_of_blk hbx3 0
          have fz1 := free_of_blk hbx3 1
          have fz2 := free_of_blk hbx3 2
          obtain ⟨W4, hW4⟩ : ∃ W4, W4 = ((w3.setCell ⟨b, 0, none⟩ (.slice D1 m1 e1)).setCell ⟨b, 1, none⟩ (.slice D2 m2 e2)).setCell ⟨b, 2, none⟩ (.slice D3 m3 e3) := ⟨_, rfl⟩
          have HE : Hid (InG w g b (j + 1) W4 u1 u2 (.slice D1 m1 e1) (.slice D2 m2 e2) (.slice D3 m3 e3) R o W q) := Lib.hid (HM.out.fin hr3 hb3 hW4 HI3.out.alone HI3.out.q0 (by have := HI3.out.ql; omega) (by have := HI3.out.rl; omega))
          clear hr3 hb3 hbx3 p0 p1 p2 HP1 HP2 HM
          go_wp2_with fail
          rw [← hW4]
          go_meet
          case rel => exact ⟨false, _, _, _, _, _, _, _, _, _, rfl, rfl, HE⟩
    case rest =>
      obtain ⟨d, s1, s2, b1, b2, b3, R9, o9, W9, q9, rfl, rfl, HIC⟩ := hcut
      rcases o9 with _ | z
      · as_aux_lemma =>
          have hal := HIC.out.alone
          obtain ⟨A1, c1, A2, c2, A3, c3, rfl, rfl, rfl⟩ := HIC.out.rf.slices
          rw [show ((none : Option Int).toList.length) = 0 from rfl] at HIC
          obtain ⟨n1, hn1⟩ : ∃ n, n = R9.length := ⟨_, rfl⟩
          rw [← hn1] at HIC
          obtain ⟨n3, hn3⟩ : ∃ n, n = W9.length := ⟨_, rfl⟩
          rw [← hn3] at HIC
          have q0 := cell_of_blk HIC.out.bx 0
          have q1 := cell_of_blk HIC.out.bx 1
          have q2 := cell_of_blk HIC.out.bx 2
          have HSTART : Hid ((fun u => u.cell? ⟨b, 0, none⟩ = some (.slice A1 n1 c1) ∧ u.cell? ⟨b, 1, none⟩ = some (.slice A2 0 c2) ∧ u.cell? ⟨b, 2, none⟩ = some (.slice A3 n3 c3) ∧ Below wc.heap.size wc u) wc.drew) := Lib.hid ⟨q0, q1, q2, ⟨rfl, rfl, rfl, Nat.le_refl _, fun _ _ => rfl⟩⟩
          have HL9 : Hid (R9.length ≤ 1000) := Lib.hid (by have := HIC.out.rl; omega)
          have HRD : Hid (∀ u, (u.cell? ⟨b, 0, none⟩ = some (.slice A1 n1 c1) ∧ u.cell? ⟨b, 1, none⟩ = some (.slice A2 0 c2) ∧ u.cell? ⟨b, 2, none⟩ = some (.slice A3 n3 c3) ∧ Below wc.heap.size wc u) → Calls Try.prog 15 #[.pointer (some ⟨g, 0, none⟩)] u fun e w' => e = .returned (.int .i64 (n1 : Int)) ∧ (fun u => u.cell? ⟨b, 0, none⟩ = some (.slice A1 n1 c1) ∧ u.cell? ⟨b, 1, none⟩ = some (.slice A2 0 c2) ∧ u.cell? ⟨b, 2, none⟩ = some (.slice A3 n3 c3) ∧ Below wc.heap.size wc u) w') := Lib.hid fun u hu => (readers_any w.heap.size g s1 s2 R9 none W9 q9 u (HIC.out.gt.later hu.2.2.2)).mono fun e w' hh => ⟨hh.1.trans (by rw [hn1]), hh.2 ▸ hu⟩
          have HWR : Hid (∀ u, (u.cell? ⟨b, 0, none⟩ = some (.slice A1 n1 c1) ∧ u.cell? ⟨b, 1, none⟩ = some (.slice A2 0 c2) ∧ u.cell? ⟨b, 2, none⟩ = some (.slice A3 n3 c3) ∧ Below wc.heap.size wc u) → Calls Try.prog 16 #[.pointer (some ⟨g, 0, none⟩)] u fun e w' => e = .returned (.int .i64 0) ∧ (fun u => u.cell? ⟨b, 0, none⟩ = some (.slice A1 n1 c1) ∧ u.cell? ⟨b, 1, none⟩ = some (.slice A2 0 c2) ∧ u.cell? ⟨b, 2, none⟩ = some (.slice A3 n3 c3) ∧ Below wc.heap.size wc u) w') := Lib.hid fun u hu => (writers_any w.heap.size g s1 s2 R9 none W9 q9 u (HIC.out.gt.later hu.2.2.2)).mono fun e w' hh => ⟨hh.1.trans rfl, hh.2 ▸ hu⟩
          have HWT : Hid (∀ u, (u.cell? ⟨b, 0, none⟩ = some (.slice A1 n1 c1) ∧ u.cell? ⟨b, 1, none⟩ = some (.slice A2 0 c2) ∧ u.cell? ⟨b, 2, none⟩ = some (.slice A3 n3 c3) ∧ Below wc.heap.size wc u) → Calls Try.prog 17 #[.pointer (some ⟨g, 0, none⟩)] u fun e w' => e = .returned (.int .i64 (n3 : Int)) ∧ (fun u => u.cell? ⟨b, 0, none⟩ = some (.slice A1 n1 c1) ∧ u.cell? ⟨b, 1, none⟩ = some (.slice A2 0 c2) ∧ u.cell? ⟨b, 2, none⟩ = some (.slice A3 n3 c3) ∧ Below wc.heap.size wc u) w') := Lib.hid fun u hu => (waiting_any w.heap.size g s1 s2 R9 none W9 q9 u (HIC.out.gt.later hu.2.2.2)).mono fun e w' hh => ⟨hh.1.trans (by rw [hn3]), hh.2 ▸ hu⟩
          obtain ⟨db, hdb⟩ : ∃ db, db = inB R9 none x := ⟨_, rfl⟩
          have HIN : Hid (∀ u, (u.cell? ⟨b, 0, none⟩ = some (.slice A1 n1 c1) ∧ u.cell? ⟨b, 1, none⟩ = some (.slice A2 0 c2) ∧ u.cell? ⟨b, 2, none⟩ = some (.slice A3 n3 c3) ∧ Below wc.heap.size wc u) → Calls Try.prog 18 #[.pointer (some ⟨g, 0, none⟩), .int .i64 x] u fun e w' => e = .returned (.bool db) ∧ (fun u => u.cell? ⟨b, 0, none⟩ = some (.slice A1 n1 c1) ∧ u.cell? ⟨b, 1, none⟩ = some (.slice A2 0 c2) ∧ u.cell? ⟨b, 2, none⟩ = some (.slice A3 n3 c3) ∧ Below wc.heap.size wc u) w') := Lib.hid fun u hu => (in_any w.heap.size g s1 s2 R9 none W9 q9 x u (HIC.out.gt.later hu.2.2.2) HFX.out).mono fun e w' hh => ⟨hh.1.trans (by rw [hdb]), hh.2 ▸ hu⟩
          have HBLT : Hid (b < wc.heap.size) := Lib.hid (lt_of_some HIC.out.bx)
          have HRI : Hid (∀ u, (u.cell? ⟨b, 0, none⟩ = some (.slice A1 n1 c1) ∧ u.cell? ⟨b, 1, none⟩ = some (.slice A2 0 c2) ∧ u.cell? ⟨b, 2, none⟩ = some (.slice A3 n3 c3) ∧ Below wc.heap.size wc u) → Calls Try.prog 19 #[.agg #[.slice A1 n1 c1, .slice A2 0 c2, .slice A3 n3 c3], .int .i64 x] u fun e w' => e = .returned (.bool db) ∧ (fun u => u.cell? ⟨b, 0, none⟩ = some (.slice A1 n1 c1) ∧ u.cell? ⟨b, 1, none⟩ = some (.slice A2 0 c2) ∧ u.cell? ⟨b, 2, none⟩ = some (.slice A3 n3 c3) ∧ Below wc.heap.size wc u) w') := Lib.hid fun u hu => (refin_any w.heap.size _ _ _ R9 none W9 x u (HIC.out.rf.later hu.2.2.2) HL9.out).mono fun e w' hh => ⟨hh.1.trans (by rw [hdb]), (hh.2.cell (p := ⟨b, 0, none⟩) (Nat.lt_of_lt_of_le HBLT.out hu.2.2.2.size)).trans hu.1, (hh.2.cell (p := ⟨b, 1, none⟩) (Nat.lt_of_lt_of_le HBLT.out hu.2.2.2.size)).trans hu.2.1, (hh.2.cell (p := ⟨b, 2, none⟩) (Nat.lt_of_lt_of_le HBLT.out hu.2.2.2.size)).trans hu.2.2.1, hu.2.2.2.trans (hh.2.mono hu.2.2.2.size)⟩
          have HI9 := Lib.hid (fun (u : World) (hb : Below wc.heap.size wc u) => HIC.out.later hb)
          clear hal q0 q1 q2 hdb HIC
          clear hn1 hn3
          go_upto_region 21 with fail
          refine wp_region_held_drew (S := fun u => u.cell? ⟨b, 0, none⟩ = some (.slice A1 n1 c1) ∧ u.cell? ⟨b, 1, none⟩ = some (.slice A2 0 c2) ∧ u.cell? ⟨b, 2, none⟩ = some (.slice A3 n3 c3) ∧ Below wc.heap.size wc u) (by kernel_rfl) HSTART.out (fun hHeld => ?_)
          refine wpAnyH_take (i := 0) (oi := ⟨some 55, _, _, _, _, _⟩) (v := ?_) rfl (by kernel_rfl) (by kernel_rfl) (by kernel_rfl) (fun _ _ _ h => h) (Or.inl ⟨by kernel_rfl, ?_⟩) (by assumption) ?_
          rotate_left 1
          focus (intro w' hSw; (try dsimp only at hSw); go_simp; (try with_reducible rfl))
          try simp only [Act.put, List.setIfInBounds_toArray, List.set_cons_zero, List.set_cons_succ]
          refine wpAnyH_take (i := 1) (oi := ⟨some 56, _, _, _, _, _⟩) (v := ?_) rfl (by kernel_rfl) (by kernel_rfl) (by kernel_rfl) (fun _ _ _ h => h) (Or.inl ⟨by kernel_rfl, ?_⟩) (by assumption) ?_
          rotate_left 1
          focus (intro w' hSw; (try dsimp only at hSw); go_simp; (try with_reducible rfl))
          try simp only [Act.put, List.setIfInBounds_toArray, List.set_cons_zero, List.set_cons_succ]
          refine wpAnyH_take (i := 2) (oi := ⟨some 57, _, _, _, _, _⟩) (v := ?_) rfl (by kernel_rfl) (by kernel_rfl) (by kernel_rfl) (fun _ _ _ h => h) (Or.inl ⟨by kernel_rfl, ?_⟩) (by assumption) ?_
          rotate_left 1
          focus (intro w' hSw; (try dsimp only at hSw); go_simp; (try with_reducible rfl))
          try simp only [Act.put, List.setIfInBounds_toArray, List.set_cons_zero, List.set_cons_succ]
          refine wpAnyH_take (i := 3) (oi := ⟨some 58, _, _, _, _, _⟩) (v := ?_) rfl (by kernel_rfl) (by kernel_rfl) (by kernel_rfl) (fun _ _ _ h => h) (Or.inl ⟨by kernel_rfl, ?_⟩) (by assumption) ?_
          rotate_left 1
          focus (intro w' hSw; (try dsimp only at hSw); go_simp; (try with_reducible rfl))
          try simp only [Act.put, List.setIfInBounds_toArray, List.set_cons_zero, List.set_cons_succ]
          refine wpAnyH_take (i := 5) (oi := ⟨some 60, _, _, _, _, _⟩) (v := ?_) rfl (by kernel_rfl) (by kernel_rfl) (by kernel_rfl) (fun _ _ _ h => h) (Or.inl ⟨by kernel_rfl, ?_⟩) (by assumption) ?_
          rotate_left 1
          focus (intro w' hSw; (try dsimp only at hSw); go_simp; (try with_reducible rfl))
          try simp only [Act.put, List.setIfInBounds_toArray, List.set_cons_zero, List.set_cons_succ]
          refine wpAnyH_take (i := 6) (oi := ⟨some 61, _, _, _, _, _⟩) (v := ?_) rfl (by kernel_rfl) (by kernel_rfl) (by kernel_rfl) (fun _ _ _ h => h) (Or.inl ⟨by kernel_rfl, ?_⟩) (by assumption) ?_
          rotate_left 1
          focus (intro w' hSw; (try dsimp only at hSw); go_simp; (try with_reducible rfl))
          try simp only [Act.put, List.setIfInBounds_toArray, List.set_cons_zero, List.set_cons_succ]
          refine wpAnyH_take (i := 7) (oi := ⟨some 62, _, _, _, _, _⟩) (v := ?_) rfl (by kernel_rfl) (by kernel_rfl) (by kernel_rfl) (fun _ _ _ h => h) (Or.inl ⟨by kernel_rfl, ?_⟩) (by assumption) ?_
          rotate_left 1
          focus (intro w' hSw; (try dsimp only at hSw); go_simp; (try with_reducible rfl))
          try simp only [Act.put, List.setIfInBounds_toArray, List.set_cons_zero, List.set_cons_succ]
          refine wpAnyH_ready (rs := [4]) (by kernel_rfl) (by simp) ?_
          refine AllReadyH.cons rfl (fun K hK => ?_) AllReadyH.nil
          go_simp
          go_at_call 15
          refine (HRD.out _ hHeld).mono ?_
          rintro e u4 ⟨rfl, hS4⟩
          clear hHeld
          refine hK.out _ _ (hS4) (fun hHeld => ?_)
          clear hK
          refine wpAnyH_take (i := 8) (oi := ⟨some 63, _, _, _, _, _⟩) (v := ?_) rfl (by kernel_rfl) (by kernel_rfl) (by kernel_rfl) (fun _ _ _ h => h) (Or.inl ⟨by kernel_rfl, ?_⟩) (by assumption) ?_
          rotate_left 1
          focus (intro w' hSw; (try dsimp only at hSw); go_simp; (try with_reducible rfl))
          try simp only [Act.put, List.setIfInBounds_toArray, List.set_cons_zero, List.set_cons_succ]
          refine wpAnyH_take (i := 9) (oi := ⟨some 64, _, _, _, _, _⟩) (v := ?_) rfl (by kernel_rfl) (by kernel_rfl) (by kernel_rfl) (fun _ _ _ h => h) (Or.inl ⟨by kernel_rfl, ?_⟩) (by assumption) ?_
          rotate_left 1
          focus (intro w' hSw; (try dsimp only at hSw); go_simp; (try with_reducible rfl))
          try simp only [Act.put, List.setIfInBounds_toArray, List.set_cons_zero, List.set_cons_succ]
          refine wpAnyH_take (i := 10) (oi := ⟨some 65, _, _, _, _, _⟩) (v := ?_) rfl (by kernel_rfl) (by kernel_rfl) (by kernel_rfl) (fun _ _ _ h => h) (Or.inl ⟨by kernel_rfl, ?_⟩) (by assumption) ?_
          rotate_left 1
          focus (intro w' hSw; (try dsimp only at hSw); go_simp; (try with_reducible rfl))
          try simp only [Act.put, List.setIfInBounds_toArray, List.set_cons_zero, List.set_cons_succ]
          refine wpAnyH_take (i := 12) (oi := ⟨some 67, _, _, _, _, _⟩) (v := ?_) rfl (by kernel_rfl) (by kernel_rfl) (by kernel_rfl) (fun _ _ _ h => h) (Or.inl ⟨by kernel_rfl, ?_⟩) (by assumption) ?_
          rotate_left 1
          focus (intro w' hSw; (try dsimp only at hSw); go_simp; (try with_reducible rfl))
          try simp only [Act.put, List.setIfInBounds_toArray, List.set_cons_zero, List.set_cons_succ]
          refine wpAnyH_take (i := 13) (oi := ⟨some 68, _, _, _, _, _⟩) (v := ?_) rfl (by kernel_rfl) (by kernel_rfl) (by kernel_rfl) (fun _ _ _ h => h) (Or.inl ⟨by kernel_rfl, ?_⟩) (by assumption) ?_
          rotate_left 1
          focus (intro w' hSw; (try dsimp only at hSw); go_simp; (try with_reducible rfl))
          try simp only [Act.put, List.setIfInBounds_toArray, List.set_cons_zero, List.set_cons_succ]
          refine wpAnyH_take (i := 14) (oi := ⟨some 69, _, _, _, _, _⟩) (v := ?_) rfl (by kernel_rfl) (by kernel_rfl) (by kernel_rfl) (fun _ _ _ h => h) (Or.inl ⟨by kernel_rfl, ?_⟩) (by assumption) ?_
          rotate_left 1
          focus (intro w' hSw; (try dsimp only at hSw); go_simp; (try with_reducible rfl))
          try simp only [Act.put, List.setIfInBounds_toArray, List.set_cons_zero, List.set_cons_succ]
          refine wpAnyH_ready (rs := [11]) (by kernel_rfl) (by simp) ?_
          refine AllReadyH.cons rfl (fun K hK => ?_) AllReadyH.nil
          go_simp
          go_at_call 16
          refine (HWR.out _ hHeld).mono ?_
          rintro e u11 ⟨rfl, hS11⟩
          clear hHeld
          refine hK.out _ _ (hS11) (fun hHeld => ?_)
          clear hK
          refine wpAnyH_take (i := 15) (oi := ⟨some 70, _, _, _, _, _⟩) (v := ?_) rfl (by kernel_rfl) (by kernel_rfl) (by kernel_rfl) (fun _ _ _ h => h) (Or.inl ⟨by kernel_rfl, ?_⟩) (by assumption) ?_
          rotate_left 1
          focus (intro w' hSw; (try dsimp only at hSw); go_simp; (try with_reducible rfl))
          try simp only [Act.put, List.setIfInBounds_toArray, List.set_cons_zero, List.set_cons_succ]
          refine wpAnyH_take (i := 16) (oi := ⟨some 71, _, _, _, _, _⟩) (v := ?_) rfl (by kernel_rfl) (by kernel_rfl) (by kernel_rfl) (fun _ _ _ h => h) (Or.inl ⟨by kernel_rfl, ?_⟩) (by assumption) ?_
          rotate_left 1
          focus (intro w' hSw; (try dsimp only at hSw); go_simp; (try with_reducible rfl))
          try simp only [Act.put, List.setIfInBounds_toArray, List.set_cons_zero, List.set_cons_succ]
          refine wpAnyH_take (i := 17) (oi := ⟨some 72, _, _, _, _, _⟩) (v := ?_) rfl (by kernel_rfl) (by kernel_rfl) (by kernel_rfl) (fun _ _ _ h => h) (Or.inl ⟨by kernel_rfl, ?_⟩) (by assumption) ?_
          rotate_left 1
          focus (intro w' hSw; (try dsimp only at hSw); go_simp; (try with_reducible rfl))
          try simp only [Act.put, List.setIfInBounds_toArray, List.set_cons_zero, List.set_cons_succ]
          refine wpAnyH_take (i := 19) (oi := ⟨some 74, _, _, _, _, _⟩) (v := ?_) rfl (by kernel_rfl) (by kernel_rfl) (by kernel_rfl) (fun _ _ _ h => h) (Or.inl ⟨by kernel_rfl, ?_⟩) (by assumption) ?_
          rotate_left 1
          focus (intro w' hSw; (try dsimp only at hSw); go_simp; (try with_reducible rfl))
          try simp only [Act.put, List.setIfInBounds_toArray, List.set_cons_zero, List.set_cons_succ]
          refine wpAnyH_take (i := 20) (oi := ⟨some 75, _, _, _, _, _⟩) (v := ?_) rfl (by kernel_rfl) (by kernel_rfl) (by kernel_rfl) (fun _ _ _ h => h) (Or.inl ⟨by kernel_rfl, ?_⟩) (by assumption) ?_
          rotate_left 1
          focus (intro w' hSw; (try dsimp only at hSw); go_simp; (try with_reducible rfl))
          try simp only [Act.put, List.setIfInBounds_toArray, List.set_cons_zero, List.set_cons_succ]
          refine wpAnyH_take (i := 21) (oi := ⟨some 76, _, _, _, _, _⟩) (v := ?_) rfl (by kernel_rfl) (by kernel_rfl) (by kernel_rfl) (fun _ _ _ h => h) (Or.inl ⟨by kernel_rfl, ?_⟩) (by assumption) ?_
          rotate_left 1
          focus (intro w' hSw; (try dsimp only at hSw); go_simp; (try with_reducible rfl))
          try simp only [Act.put, List.setIfInBounds_toArray, List.set_cons_zero, List.set_cons_succ]
          refine wpAnyH_ready (rs := [18]) (by kernel_rfl) (by simp) ?_
          refine AllReadyH.cons rfl (fun K hK => ?_) AllReadyH.nil
          go_simp
          go_at_call 17
          refine (HWT.out _ hHeld).mono ?_
          rintro e u18 ⟨rfl, hS18⟩
          clear hHeld
          refine hK.out _ _ (hS18) (fun hHeld => ?_)
          clear hK
          refine wpAnyH_take (i := 22) (oi := ⟨some 77, _, _, _, _, _⟩) (v := ?_) rfl (by kernel_rfl) (by kernel_rfl) (by kernel_rfl) (fun _ _ _ h => h) (Or.inl ⟨by kernel_rfl, ?_⟩) (by assumption) ?_
          rotate_left 1
          focus (intro w' hSw; (try dsimp only at hSw); go_simp; (try with_reducible rfl))
          try simp only [Act.put, List.setIfInBounds_toArray, List.set_cons_zero, List.set_cons_succ]
          refine wpAnyH_take (i := 23) (oi := ⟨some 78, _, _, _, _, _⟩) (v := ?_) rfl (by kernel_rfl) (by kernel_rfl) (by kernel_rfl) (fun _ _ _ h => h) (Or.inl ⟨by kernel_rfl, ?_⟩) (by assumption) ?_
          rotate_left 1
          focus (intro w' hSw; (try dsimp only at hSw); go_simp; (try with_reducible rfl))
          try simp only [Act.put, List.setIfInBounds_toArray, List.set_cons_zero, List.set_cons_succ]
          refine wpAnyH_take (i := 24) (oi := ⟨some 79, _, _, _, _, _⟩) (v := ?_) rfl (by kernel_rfl) (by kernel_rfl) (by kernel_rfl) (fun _ _ _ h => h) (Or.inl ⟨by kernel_rfl, ?_⟩) (by assumption) ?_
          rotate_left 1
          focus (intro w' hSw; (try dsimp only at hSw); go_simp; (try with_reducible rfl))
          try simp only [Act.put, List.setIfInBounds_toArray, List.set_cons_zero, List.set_cons_succ]
          refine wpAnyH_take (i := 25) (oi := ⟨some 80, _, _, _, _, _⟩) (v := ?_) rfl (by kernel_rfl) (by kernel_rfl) (by kernel_rfl) (fun _ _ _ h => h) (Or.inl ⟨by kernel_rfl, ?_⟩) (by assumption) ?_
          rotate_left 1
          focus (intro w' hSw; (try dsimp only at hSw); go_simp; (try with_reducible rfl))
          try simp only [Act.put, List.setIfInBounds_toArray, List.set_cons_zero, List.set_cons_succ]
          refine wpAnyH_take (i := 27) (oi := ⟨some 82, _, _, _, _, _⟩) (v := ?_) rfl (by kernel_rfl) (by kernel_rfl) (by kernel_rfl) (fun _ _ _ h => h) (Or.inl ⟨by kernel_rfl, ?_⟩) (by assumption) ?_
          rotate_left 1
          focus (intro w' hSw; (try dsimp only at hSw); go_simp; (try with_reducible rfl))
          try simp only [Act.put, List.setIfInBounds_toArray, List.set_cons_zero, List.set_cons_succ]
          refine wpAnyH_take (i := 28) (oi := ⟨some 83, _, _, _, _, _⟩) (v := ?_) rfl (by kernel_rfl) (by kernel_rfl) (by kernel_rfl) (fun _ _ _ h => h) (Or.inl ⟨by kernel_rfl, ?_⟩) (by assumption) ?_
          rotate_left 1
          focus (intro w' hSw; (try dsimp only at hSw); go_simp; (try with_reducible rfl))
          try simp only [Act.put, List.setIfInBounds_toArray, List.set_cons_zero, List.set_cons_succ]
          refine wpAnyH_ready (rs := [26]) (by kernel_rfl) (by simp) ?_
          refine AllReadyH.cons rfl (fun K hK => ?_) AllReadyH.nil
          go_simp
          go_at_call 18
          refine (HIN.out _ hHeld).mono ?_
          rintro e u26 ⟨rfl, hS26⟩
          clear hHeld
          refine hK.out _ _ (hS26) (fun hHeld => ?_)
          clear hK
          refine wpAnyH_ready (rs := [29]) (by kernel_rfl) (by simp) ?_
          refine AllReadyH.cons rfl (fun K hK => ?_) AllReadyH.nil
          go_simp
          go_at_call 19
          refine (HRI.out _ hHeld).mono ?_
          rintro e u29 ⟨rfl, hS29⟩
          clear hHeld
          refine hK.out _ _ (hS29) (fun hHeld => ?_)
          clear hK
          refine wpAnyH_take (i := 30) (oi := ⟨some 85, _, _, _, _, _⟩) (v := ?_) rfl (by kernel_rfl) (by kernel_rfl) (by kernel_rfl) (fun _ _ _ h => h) (Or.inl ⟨by kernel_rfl, ?_⟩) (by assumption) ?_
          rotate_left 1
          focus (intro w' hSw; (try dsimp only at hSw); go_simp; (try with_reducible rfl))
          try simp only [Act.put, List.setIfInBounds_toArray, List.set_cons_zero, List.set_cons_succ]
          refine wpAnyH_take (i := 31) (oi := ⟨some 86, _, _, _, _, _⟩) (v := ?_) rfl (by kernel_rfl) (by kernel_rfl) (by kernel_rfl) (fun _ _ _ h => h) (Or.inl ⟨by kernel_rfl, ?_⟩) (by assumption) ?_
          rotate_left 1
          focus (intro w' hSw; (try dsimp only at hSw); go_simp; (try with_reducible rfl))
          try simp only [Act.put, List.setIfInBounds_toArray, List.set_cons_zero, List.set_cons_succ]
          refine wpAnyH_take (i := 32) (oi := ⟨some 87, _, _, _, _, _⟩) (v := ?_) rfl (by kernel_rfl) (by kernel_rfl) (by kernel_rfl) (fun _ _ _ h => h) (Or.inl ⟨by kernel_rfl, ?_⟩) (by assumption) ?_
          rotate_left 1
          focus (intro w' hSw; (try dsimp only at hSw); go_simp; (try with_reducible rfl))
          try simp only [Act.put, List.setIfInBounds_toArray, List.set_cons_zero, List.set_cons_succ]
          refine wpAnyH_ready (rs := [33]) (by kernel_rfl) (by simp) ?_
          refine AllReadyH.cons rfl (fun K hK => ?_) AllReadyH.nil
          go_simp
          go_at_call 16
          refine (HWR.out _ hHeld).mono ?_
          rintro e u33 ⟨rfl, hS33⟩
          clear hHeld
          refine hK.out _ _ (hS33) (fun hHeld => ?_)
          clear hK
          refine wpAnyH_take (i := 34) (oi := ⟨some 89, _, _, _, _, _⟩) (v := ?_) rfl (by kernel_rfl) (by kernel_rfl) (by kernel_rfl) (fun _ _ _ h => h) (Or.inl ⟨by kernel_rfl, ?_⟩) (by assumption) ?_
          rotate_left 1
          focus (intro w' hSw; (try dsimp only at hSw); go_simp; (try with_reducible rfl))
          try simp only [Act.put, List.setIfInBounds_toArray, List.set_cons_zero, List.set_cons_succ]
          refine wpAnyH_take (i := 35) (oi := ⟨some 90, _, _, _, _, _⟩) (v := ?_) rfl (by kernel_rfl) (by kernel_rfl) (by kernel_rfl) (fun _ _ _ h => h) (Or.inl ⟨by kernel_rfl, ?_⟩) (by assumption) ?_
          rotate_left 1
          focus (intro w' hSw; (try dsimp only at hSw); go_simp; (try with_reducible rfl))
          try simp only [Act.put, List.setIfInBounds_toArray, List.set_cons_zero, List.set_cons_succ]
          refine wpAnyH_take (i := 36) (oi := ⟨some 91, _, _, _, _, _⟩) (v := ?_) rfl (by kernel_rfl) (by kernel_rfl) (by kernel_rfl) (fun _ _ _ h => h) (Or.inl ⟨by kernel_rfl, ?_⟩) (by assumption) ?_
          rotate_left 1
          focus (intro w' hSw; (try dsimp only at hSw); go_simp; (try with_reducible rfl))
          try simp only [Act.put, List.setIfInBounds_toArray, List.set_cons_zero, List.set_cons_succ]
          refine wpAnyH_ready (rs := [37]) (by kernel_rfl) (by simp) ?_
          refine AllReadyH.cons rfl (fun K hK => ?_) AllReadyH.nil
          go_simp
          go_at_call 16
          refine (HWR.out _ hHeld).mono ?_
          rintro e u37 ⟨rfl, hS37⟩
          clear hHeld
          refine hK.out _ _ (hS37) (fun hHeld => ?_)
          clear hK
          refine wpAnyH_take (i := 38) (oi := ⟨some 93, _, _, _, _, _⟩) (v := ?_) rfl (by kernel_rfl) (by kernel_rfl) (by kernel_rfl) (fun _ _ _ h => h) (Or.inl ⟨by kernel_rfl, ?_⟩) (by assumption) ?_
          rotate_left 1
          focus (intro w' hSw; (try dsimp only at hSw); go_simp; (try with_reducible rfl))
          try simp only [Act.put, List.setIfInBounds_toArray, List.set_cons_zero, List.set_cons_succ]
          refine wpAnyH_take (i := 39) (oi := ⟨some 94, _, _, _, _, _⟩) (v := ?_) rfl (by kernel_rfl) (by kernel_rfl) (by kernel_rfl) (fun _ _ _ h => h) (Or.inl ⟨by kernel_rfl, ?_⟩) (by assumption) ?_
          rotate_left 1
          focus (intro w' hSw; (try dsimp only at hSw); go_simp; (try with_reducible rfl))
          try simp only [Act.put, List.setIfInBounds_toArray, List.set_cons_zero, List.set_cons_succ]
          refine wpAnyH_take (i := 40) (oi := ⟨some 95, _, _, _, _, _⟩) (v := undef) rfl (by kernel_rfl) (by kernel_rfl) (by kernel_rfl) (fun _ _ _ h => h) (Or.inr ⟨by kernel_rfl, rfl⟩) (by assumption) ?_
          try simp only [Act.put, List.setIfInBounds_toArray, List.set_cons_zero, List.set_cons_succ]
          refine wpAnyH_take (i := 41) (oi := ⟨some 96, _, _, _, _, _⟩) (v := undef) rfl (by kernel_rfl) (by kernel_rfl) (by kernel_rfl) (fun _ _ _ h => h) (Or.inr ⟨by kernel_rfl, rfl⟩) (by assumption) ?_
          try simp only [Act.put, List.setIfInBounds_toArray, List.set_cons_zero, List.set_cons_succ]
          refine wpAnyH_take (i := 42) (oi := ⟨some 97, _, _, _, _, _⟩) (v := ?_) rfl (by kernel_rfl) (by kernel_rfl) (by kernel_rfl) (fun _ _ _ h => h) (Or.inl ⟨by kernel_rfl, ?_⟩) (by assumption) ?_
          rotate_left 1
          focus (intro w' hSw; (try dsimp only at hSw); go_simp; (try with_reducible rfl))
          try simp only [Act.put, List.setIfInBounds_toArray, List.set_cons_zero, List.set_cons_succ]
          refine wpAnyH_take (i := 43) (oi := ⟨some 98, _, _, _, _, _⟩) (v := ?_) rfl (by kernel_rfl) (by kernel_rfl) (by kernel_rfl) (fun _ _ _ h => h) (Or.inl ⟨by kernel_rfl, ?_⟩) (by assumption) ?_
          rotate_left 1
          focus (intro w' hSw; (try dsimp only at hSw); go_simp; (try with_reducible rfl))
          try simp only [Act.put, List.setIfInBounds_toArray, List.set_cons_zero, List.set_cons_succ]
          refine wpAnyH_done (by kernel_rfl) ?_ _
          have HE := Lib.hid (HI9.out _ hHeld.2.2.2)
          clear hHeld
          go_wp2_with fail
          go_roundw
          case rel => exact ⟨j + 1, _, _, _, _, _, _, _, _, _, by go_num, by omega, HE⟩
          case measure => simp [intOf]; omega

      · as_aux_lemma =>
          have hal := HIC.out.alone
          obtain ⟨A1, c1, A2, c2, A3, c3, rfl, rfl, rfl⟩ := HIC.out.rf.slices
          obtain rfl : R9 = [] := hal rfl
          rw [show (((some z) : Option Int).toList.length) = 1 from rfl] at HIC
          rw [show (([] : List Int).length) = 0 from rfl] at HIC
          obtain ⟨n3, hn3⟩ : ∃ n, n = W9.length := ⟨_, rfl⟩
          rw [← hn3] at HIC
          have q0 := cell_of_blk HIC.out.bx 0
          have q1 := cell_of_blk HIC.out.bx 1
          have q2 := cell_of_blk HIC.out.bx 2
          have HSTART : Hid ((fun u => u.cell? ⟨b, 0, none⟩ = some (.slice A1 0 c1) ∧ u.cell? ⟨b, 1, none⟩ = some (.slice A2 1 c2) ∧ u.cell? ⟨b, 2, none⟩ = some (.slice A3 n3 c3) ∧ Below wc.heap.size wc u) wc.drew) := Lib.hid ⟨q0, q1, q2, ⟨rfl, rfl, rfl, Nat.le_refl _, fun _ _ => rfl⟩⟩
          have HL9 : Hid ([].length ≤ 1000) := Lib.hid (by have := HIC.out.rl; omega)
          have HRD : Hid (∀ u, (u.cell? ⟨b, 0, none⟩ = some (.slice A1 0 c1) ∧ u.cell? ⟨b, 1, none⟩ = some (.slice A2 1 c2) ∧ u.cell? ⟨b, 2, none⟩ = some (.slice A3 n3 c3) ∧ Below wc.heap.size wc u) → Calls Try.prog 15 #[.pointer (some ⟨g, 0, none⟩)] u fun e w' => e = .returned (.int .i64 (0 : Int)) ∧ (fun u => u.cell? ⟨b, 0, none⟩ = some (.slice A1 0 c1) ∧ u.cell? ⟨b, 1, none⟩ = some (.slice A2 1 c2) ∧ u.cell? ⟨b, 2, none⟩ = some (.slice A3 n3 c3) ∧ Below wc.heap.size wc u) w') := Lib.hid fun u hu => (readers_any w.heap.size g s1 s2 [] (some z) W9 q9 u (HIC.out.gt.later hu.2.2.2)).mono fun e w' hh => ⟨hh.1.trans rfl, hh.2 ▸ hu⟩
          have HWR : Hid (∀ u, (u.cell? ⟨b, 0, none⟩ = some (.slice A1 0 c1) ∧ u.cell? ⟨b, 1, none⟩ = some (.slice A2 1 c2) ∧ u.cell? ⟨b, 2, none⟩ = some (.slice A3 n3 c3) ∧ Below wc.heap.size wc u) → Calls Try.prog 16 #[.pointer (some ⟨g, 0, none⟩)] u fun e w' => e = .returned (.int .i64 1) ∧ (fun u => u.cell? ⟨b, 0, none⟩ = some (.slice A1 0 c1) ∧ u.cell? ⟨b, 1, none⟩ = some (.slice A2 1 c2) ∧ u.cell? ⟨b, 2, none⟩ = some (.slice A3 n3 c3) ∧ Below wc.heap.size wc u) w') := Lib.hid fun u hu => (writers_any w.heap.size g s1 s2 [] (some z) W9 q9 u (HIC.out.gt.later hu.2.2.2)).mono fun e w' hh => ⟨hh.1.trans rfl, hh.2 ▸ hu⟩
          have HWT : Hid (∀ u, (u.cell? ⟨b, 0, none⟩ = some (.slice A1 0 c1) ∧ u.cell? ⟨b, 1, none⟩ = some (.slice A2 1 c2) ∧ u.cell? ⟨b, 2, none⟩ = some (.slice A3 n3 c3) ∧ Below wc.heap.size wc u) → Calls Try.prog 17 #[.pointer (some ⟨g, 0, none⟩)] u fun e w' => e = .returned (.int .i64 (n3 : Int)) ∧ (fun u => u.cell? ⟨b, 0, none⟩ = some (.slice A1 0 c1) ∧ u.cell? ⟨b, 1, none⟩ = some (.slice A2 1 c2) ∧ u.cell? ⟨b, 2, none⟩ = some (.slice A3 n3 c3) ∧ Below wc.heap.size wc u) w') := Lib.hid fun u hu => (waiting_any w.heap.size g s1 s2 [] (some z) W9 q9 u (HIC.out.gt.later hu.2.2.2)).mono fun e w' hh => ⟨hh.1.trans (by rw [hn3]), hh.2 ▸ hu⟩
          obtain ⟨db, hdb⟩ : ∃ db, db = inB [] (some z) x := ⟨_, rfl⟩
          have HIN : Hid (∀ u, (u.cell? ⟨b, 0, none⟩ = some (.slice A1 0 c1) ∧ u.cell? ⟨b, 1, none⟩ = some (.slice A2 1 c2) ∧ u.cell? ⟨b, 2, none⟩ = some (.slice A3 n3 c3) ∧ Below wc.heap.size wc u) → Calls Try.prog 18 #[.pointer (some ⟨g, 0, none⟩), .int .i64 x] u fun e w' => e = .returned (.bool db) ∧ (fun u => u.cell? ⟨b, 0, none⟩ = some (.slice A1 0 c1) ∧ u.cell? ⟨b, 1, none⟩ = some (.slice A2 1 c2) ∧ u.cell? ⟨b, 2, none⟩ = some (.slice A3 n3 c3) ∧ Below wc.heap.size wc u) w') := Lib.hid fun u hu => (in_any w.heap.size g s1 s2 [] (some z) W9 q9 x u (HIC.out.gt.later hu.2.2.2) HFX.out).mono fun e w' hh => ⟨hh.1.trans (by rw [hdb]), hh.2 ▸ hu⟩
          have HBLT : Hid (b < wc.heap.size) := Lib.hid (lt_of_some HIC.out.bx)
          have HRI : Hid (∀ u, (u.cell? ⟨b, 0, none⟩ = some (.slice A1 0 c1) ∧ u.cell? ⟨b, 1, none⟩ = some (.slice A2 1 c2) ∧ u.cell? ⟨b, 2, none⟩ = some (.slice A3 n3 c3) ∧ Below wc.heap.size wc u) → Calls Try.prog 19 #[.agg #[.slice A1 0 c1, .slice A2 1 c2, .slice A3 n3 c3], .int .i64 x] u fun e w' => e = .returned (.bool db) ∧ (fun u => u.cell? ⟨b, 0, none⟩ = some (.slice A1 0 c1) ∧ u.cell? ⟨b, 1, none⟩ = some (.slice A2 1 c2) ∧ u.cell? ⟨b, 2, none⟩ = some (.slice A3 n3 c3) ∧ Below wc.heap.size wc u) w') := Lib.hid fun u hu => (refin_any w.heap.size _ _ _ [] (some z) W9 x u (HIC.out.rf.later hu.2.2.2) HL9.out).mono fun e w' hh => ⟨hh.1.trans (by rw [hdb]), (hh.2.cell (p := ⟨b, 0, none⟩) (Nat.lt_of_lt_of_le HBLT.out hu.2.2.2.size)).trans hu.1, (hh.2.cell (p := ⟨b, 1, none⟩) (Nat.lt_of_lt_of_le HBLT.out hu.2.2.2.size)).trans hu.2.1, (hh.2.cell (p := ⟨b, 2, none⟩) (Nat.lt_of_lt_of_le HBLT.out hu.2.2.2.size)).trans hu.2.2.1, hu.2.2.2.trans (hh.2.mono hu.2.2.2.size)⟩
          have HI9 := Lib.hid (fun (u : World) (hb : Below wc.heap.size wc u) => HIC.out.later hb)
          clear hal q0 q1 q2 hdb HIC
          clear hn3
          go_upto_region 21 with fail
          refine wp_region_held_drew (S := fun u => u.cell? ⟨b, 0, none⟩ = some (.slice A1 0 c1) ∧ u.cell? ⟨b, 1, none⟩ = some (.slice A2 1 c2) ∧ u.cell? ⟨b, 2, none⟩ = some (.slice A3 n3 c3) ∧ Below wc.heap.size wc u) (by kernel_rfl) HSTART.out (fun hHeld => ?_)
          refine wpAnyH_take (i := 0) (oi := ⟨some 55, _, _, _, _, _⟩) (v := ?_) rfl (by kernel_rfl) (by kernel_rfl) (by kernel_rfl) (fun _ _ _ h => h) (Or.inl ⟨by kernel_rfl, ?_⟩) (by assumption) ?_
          rotate_left 1
          focus (intro w' hSw; (try dsimp only at hSw); go_simp; (try with_reducible rfl))
          try simp only [Act.put, List.setIfInBounds_toArray, List.set_cons_zero, List.set_cons_succ]
          refine wpAnyH_take (i := 1) (oi := ⟨some 56, _, _, _, _, _⟩) (v := ?_) rfl (by kernel_rfl) (by kernel_rfl) (by kernel_rfl) (fun _ _ _ h => h) (Or.inl ⟨by kernel_rfl, ?_⟩) (by assumption) ?_
          rotate_left 1
          focus (intro w' hSw; (try dsimp only at hSw); go_simp; (try with_reducible rfl))
          try simp only [Act.put, List.setIfInBounds_toArray, List.set_cons_zero, List.set_cons_succ]
          refine wpAnyH_take (i := 2) (oi := ⟨some 57, _, _, _, _, _⟩) (v := ?_) rfl (by kernel_rfl) (by kernel_rfl) (by kernel_rfl) (fun _ _ _ h => h) (Or.inl ⟨by kernel_rfl, ?_⟩) (by assumption) ?_
          rotate_left 1
          focus (intro w' hSw; (try dsimp only at hSw); go_simp; (try with_reducible rfl))
          try simp only [Act.put, List.setIfInBounds_toArray, List.set_cons_zero, List.set_cons_succ]
          refine wpAnyH_take (i := 3) (oi := ⟨some 58, _, _, _, _, _⟩) (v := ?_) rfl (by kernel_rfl) (by kernel_rfl) (by kernel_rfl) (fun _ _ _ h => h) (Or.inl ⟨by kernel_rfl, ?_⟩) (by assumption) ?_
          rotate_left 1
          focus (intro w' hSw; (try dsimp only at hSw); go_simp; (try with_reducible rfl))
          try simp only [Act.put, List.setIfInBounds_toArray, List.set_cons_zero, List.set_cons_succ]
          refine wpAnyH_take (i := 5) (oi := ⟨some 60, _, _, _, _, _⟩) (v := ?_) rfl (by kernel_rfl) (by kernel_rfl) (by kernel_rfl) (fun _ _ _ h => h) (Or.inl ⟨by kernel_rfl, ?_⟩) (by assumption) ?_
          rotate_left 1
          focus (intro w' hSw; (try dsimp only at hSw); go_simp; (try with_reducible rfl))
          try simp only [Act.put, List.setIfInBounds_toArray, List.set_cons_zero, List.set_cons_succ]
          refine wpAnyH_take (i := 6) (oi := ⟨some 61, _, _, _, _, _⟩) (v := ?_) rfl (by kernel_rfl) (by kernel_rfl) (by kernel_rfl) (fun _ _ _ h => h) (Or.inl ⟨by kernel_rfl, ?_⟩) (by assumption) ?_
          rotate_left 1
          focus (intro w' hSw; (try dsimp only at hSw); go_simp; (try with_reducible rfl))
          try simp only [Act.put, List.setIfInBounds_toArray, List.set_cons_zero, List.set_cons_succ]
          refine wpAnyH_take (i := 7) (oi := ⟨some 62, _, _, _, _, _⟩) (v := ?_) rfl (by kernel_rfl) (by kernel_rfl) (by kernel_rfl) (fun _ _ _ h => h) (Or.inl ⟨by kernel_rfl, ?_⟩) (by assumption) ?_
          rotate_left 1
          focus (intro w' hSw; (try dsimp only at hSw); go_simp; (try with_reducible rfl))
          try simp only [Act.put, List.setIfInBounds_toArray, List.set_cons_zero, List.set_cons_succ]
          refine wpAnyH_ready (rs := [4]) (by kernel_rfl) (by simp) ?_
          refine AllReadyH.cons rfl (fun K hK => ?_) AllReadyH.nil
          go_simp
          go_at_call 15
          refine (HRD.out _ hHeld).mono ?_
          rintro e u4 ⟨rfl, hS4⟩
          clear hHeld
          refine hK.out _ _ (hS4) (fun hHeld => ?_)
          clear hK
          refine wpAnyH_take (i := 8) (oi := ⟨some 63, _, _, _, _, _⟩) (v := ?_) rfl (by kernel_rfl) (by kernel_rfl) (by kernel_rfl) (fun _ _ _ h => h) (Or.inl ⟨by kernel_rfl, ?_⟩) (by assumption) ?_
          rotate_left 1
          focus (intro w' hSw; (try dsimp only at hSw); go_simp; (try with_reducible rfl))
          try simp only [Act.put, List.setIfInBounds_toArray, List.set_cons_zero, List.set_cons_succ]
          refine wpAnyH_take (i := 9) (oi := ⟨some 64, _, _, _, _, _⟩) (v := ?_) rfl (by kernel_rfl) (by kernel_rfl) (by kernel_rfl) (fun _ _ _ h => h) (Or.inl ⟨by kernel_rfl, ?_⟩) (by assumption) ?_
          rotate_left 1
          focus (intro w' hSw; (try dsimp only at hSw); go_simp; (try with_reducible rfl))
          try simp only [Act.put, List.setIfInBounds_toArray, List.set_cons_zero, List.set_cons_succ]
          refine wpAnyH_take (i := 10) (oi := ⟨some 65, _, _, _, _, _⟩) (v := ?_) rfl (by kernel_rfl) (by kernel_rfl) (by kernel_rfl) (fun _ _ _ h => h) (Or.inl ⟨by kernel_rfl, ?_⟩) (by assumption) ?_
          rotate_left 1
          focus (intro w' hSw; (try dsimp only at hSw); go_simp; (try with_reducible rfl))
          try simp only [Act.put, List.setIfInBounds_toArray, List.set_cons_zero, List.set_cons_succ]
          refine wpAnyH_take (i := 12) (oi := ⟨some 67, _, _, _, _, _⟩) (v := ?_) rfl (by kernel_rfl) (by kernel_rfl) (by kernel_rfl) (fun _ _ _ h => h) (Or.inl ⟨by kernel_rfl, ?_⟩) (by assumption) ?_
          rotate_left 1
          focus (intro w' hSw; (try dsimp only at hSw); go_simp; (try with_reducible rfl))
          try simp only [Act.put, List.setIfInBounds_toArray, List.set_cons_zero, List.set_cons_succ]
          refine wpAnyH_take (i := 13) (oi := ⟨some 68, _, _, _, _, _⟩) (v := ?_) rfl (by kernel_rfl) (by kernel_rfl) (by kernel_rfl) (fun _ _ _ h => h) (Or.inl ⟨by kernel_rfl, ?_⟩) (by assumption) ?_
          rotate_left 1
          focus (intro w' hSw; (try dsimp only at hSw); go_simp; (try with_reducible rfl))
          try simp only [Act.put, List.setIfInBounds_toArray, List.set_cons_zero, List.set_cons_succ]
          refine wpAnyH_take (i := 14) (oi := ⟨some 69, _, _, _, _, _⟩) (v := ?_) rfl (by kernel_rfl) (by kernel_rfl) (by kernel_rfl) (fun _ _ _ h => h) (Or.inl ⟨by kernel_rfl, ?_⟩) (by assumption) ?_
          rotate_left 1
          focus (intro w' hSw; (try dsimp only at hSw); go_simp; (try with_reducible rfl))
          try simp only [Act.put, List.setIfInBounds_toArray, List.set_cons_zero, List.set_cons_succ]
          refine wpAnyH_ready (rs := [11]) (by kernel_rfl) (by simp) ?_
          refine AllReadyH.cons rfl (fun K hK => ?_) AllReadyH.nil
          go_simp
          go_at_call 16
          refine (HWR.out _ hHeld).mono ?_
          rintro e u11 ⟨rfl, hS11⟩
          clear hHeld
          refine hK.out _ _ (hS11) (fun hHeld => ?_)
          clear hK
          refine wpAnyH_take (i := 15) (oi := ⟨some 70, _, _, _, _, _⟩) (v := ?_) rfl (by kernel_rfl) (by kernel_rfl) (by kernel_rfl) (fun _ _ _ h => h) (Or.inl ⟨by kernel_rfl, ?_⟩) (by assumption) ?_
          rotate_left 1
          focus (intro w' hSw; (try dsimp only at hSw); go_simp; (try with_reducible rfl))
          try simp only [Act.put, List.setIfInBounds_toArray, List.set_cons_zero, List.set_cons_succ]
          refine wpAnyH_take (i := 16) (oi := ⟨some 71, _, _, _, _, _⟩) (v := ?_) rfl (by kernel_rfl) (by kernel_rfl) (by kernel_rfl) (fun _ _ _ h => h) (Or.inl ⟨by kernel_rfl, ?_⟩) (by assumption) ?_
          rotate_left 1
          focus (intro w' hSw; (try dsimp only at hSw); go_simp; (try with_reducible rfl))
          try simp only [Act.put, List.setIfInBounds_toArray, List.set_cons_zero, List.set_cons_succ]
          refine wpAnyH_take (i := 17) (oi := ⟨some 72, _, _, _, _, _⟩) (v := ?_) rfl (by kernel_rfl) (by kernel_rfl) (by kernel_rfl) (fun _ _ _ h => h) (Or.inl ⟨by kernel_rfl, ?_⟩) (by assumption) ?_
          rotate_left 1
          focus (intro w' hSw; (try dsimp only at hSw); go_simp; (try with_reducible rfl))
          try simp only [Act.put, List.setIfInBounds_toArray, List.set_cons_zero, List.set_cons_succ]
          refine wpAnyH_take (i := 19) (oi := ⟨some 74, _, _, _, _, _⟩) (v := ?_) rfl (by kernel_rfl) (by kernel_rfl) (by kernel_rfl) (fun _ _ _ h => h) (Or.inl ⟨by kernel_rfl, ?_⟩) (by assumption) ?_
          rotate_left 1
          focus (intro w' hSw; (try dsimp only at hSw); go_simp; (try with_reducible rfl))
          try simp only [Act.put, List.setIfInBounds_toArray, List.set_cons_zero, List.set_cons_succ]
          refine wpAnyH_take (i := 20) (oi := ⟨some 75, _, _, _, _, _⟩) (v := ?_) rfl (by kernel_rfl) (by kernel_rfl) (by kernel_rfl) (fun _ _ _ h => h) (Or.inl ⟨by kernel_rfl, ?_⟩) (by assumption) ?_
          rotate_left 1
          focus (intro w' hSw; (try dsimp only at hSw); go_simp; (try with_reducible rfl))
          try simp only [Act.put, List.setIfInBounds_toArray, List.set_cons_zero, List.set_cons_succ]
          refine wpAnyH_take (i := 21) (oi := ⟨some 76, _, _, _, _, _⟩) (v := ?_) rfl (by kernel_rfl) (by kernel_rfl) (by kernel_rfl) (fun _ _ _ h => h) (Or.inl ⟨by kernel_rfl, ?_⟩) (by assumption) ?_
          rotate_left 1
          focus (intro w' hSw; (try dsimp only at hSw); go_simp; (try with_reducible rfl))
          try simp only [Act.put, List.setIfInBounds_toArray, List.set_cons_zero, List.set_cons_succ]
          refine wpAnyH_ready (rs := [18]) (by kernel_rfl) (by simp) ?_
          refine AllReadyH.cons rfl (fun K hK => ?_) AllReadyH.nil
          go_simp
          go_at_call 17
          refine (HWT.out _ hHeld).mono ?_
          rintro e u18 ⟨rfl, hS18⟩
          clear hHeld
          refine hK.out _ _ (hS18) (fun hHeld => ?_)
          clear hK
          refine wpAnyH_take (i := 22) (oi := ⟨some 77, _, _, _, _, _⟩) (v := ?_) rfl (by kernel_rfl) (by kernel_rfl) (by kernel_rfl) (fun _ _ _ h => h) (Or.inl ⟨by kernel_rfl, ?_⟩) (by assumption) ?_
          rotate_left 1
          focus (intro w' hSw; (try dsimp only at hSw); go_simp; (try with_reducible rfl))
          try simp only [Act.put, List.setIfInBounds_toArray, List.set_cons_zero, List.set_cons_succ]
          refine wpAnyH_take (i := 23) (oi := ⟨some 78, _, _, _, _, _⟩) (v := ?_) rfl (by kernel_rfl) (by kernel_rfl) (by kernel_rfl) (fun _ _ _ h => h) (Or.inl ⟨by kernel_rfl, ?_⟩) (by assumption) ?_
          rotate_left 1
          focus (intro w' hSw; (try dsimp only at hSw); go_simp; (try with_reducible rfl))
          try simp only [Act.put, List.setIfInBounds_toArray, List.set_cons_zero, List.set_cons_succ]
          refine wpAnyH_take (i := 24) (oi := ⟨some 79, _, _, _, _, _⟩) (v := ?_) rfl (by kernel_rfl) (by kernel_rfl) (by kernel_rfl) (fun _ _ _ h => h) (Or.inl ⟨by kernel_rfl, ?_⟩) (by assumption) ?_
          rotate_left 1
          focus (intro w' hSw; (try dsimp only at hSw); go_simp; (try with_reducible rfl))
          try simp only [Act.put, List.setIfInBounds_toArray, List.set_cons_zero, List.set_cons_succ]
          refine wpAnyH_take (i := 25) (oi := ⟨some 80, _, _, _, _, _⟩) (v := ?_) rfl (by kernel_rfl) (by kernel_rfl) (by kernel_rfl) (fun _ _ _ h => h) (Or.inl ⟨by kernel_rfl, ?_⟩) (by assumption) ?_
          rotate_left 1
          focus (intro w' hSw; (try dsimp only at hSw); go_simp; (try with_reducible rfl))
          try simp only [Act.put, List.setIfInBounds_toArray, List.set_cons_zero, List.set_cons_succ]
          refine wpAnyH_take (i := 27) (oi := ⟨some 82, _, _, _, _, _⟩) (v := ?_) rfl (by kernel_rfl) (by kernel_rfl) (by kernel_rfl) (fun _ _ _ h => h) (Or.inl ⟨by kernel_rfl, ?_⟩) (by assumption) ?_
          rotate_left 1
          focus (intro w' hSw; (try dsimp only at hSw); go_simp; (try with_reducible rfl))
          try simp only [Act.put, List.setIfInBounds_toArray, List.set_cons_zero, List.set_cons_succ]
          refine wpAnyH_take (i := 28) (oi := ⟨some 83, _, _, _, _, _⟩) (v := ?_) rfl (by kernel_rfl) (by kernel_rfl) (by kernel_rfl) (fun _ _ _ h => h) (Or.inl ⟨by kernel_rfl, ?_⟩) (by assumption) ?_
          rotate_left 1
          focus (intro w' hSw; (try dsimp only at hSw); go_simp; (try with_reducible rfl))
          try simp only [Act.put, List.setIfInBounds_toArray, List.set_cons_zero, List.set_cons_succ]
          refine wpAnyH_ready (rs := [26]) (by kernel_rfl) (by simp) ?_
          refine AllReadyH.cons rfl (fun K hK => ?_) AllReadyH.nil
          go_simp
          go_at_call 18
          refine (HIN.out _ hHeld).mono ?_
          rintro e u26 ⟨rfl, hS26⟩
          clear hHeld
          refine hK.out _ _ (hS26) (fun hHeld => ?_)
          clear hK
          refine wpAnyH_ready (rs := [29]) (by kernel_rfl) (by simp) ?_
          refine AllReadyH.cons rfl (fun K hK => ?_) AllReadyH.nil
          go_simp
          go_at_call 19
          refine (HRI.out _ hHeld).mono ?_
          rintro e u29 ⟨rfl, hS29⟩
          clear hHeld
          refine hK.out _ _ (hS29) (fun hHeld => ?_)
          clear hK
          refine wpAnyH_take (i := 30) (oi := ⟨some 85, _, _, _, _, _⟩) (v := ?_) rfl (by kernel_rfl) (by kernel_rfl) (by kernel_rfl) (fun _ _ _ h => h) (Or.inl ⟨by kernel_rfl, ?_⟩) (by assumption) ?_
          rotate_left 1
          focus (intro w' hSw; (try dsimp only at hSw); go_simp; (try with_reducible rfl))
          try simp only [Act.put, List.setIfInBounds_toArray, List.set_cons_zero, List.set_cons_succ]
          refine wpAnyH_take (i := 31) (oi := ⟨some 86, _, _, _, _, _⟩) (v := ?_) rfl (by kernel_rfl) (by kernel_rfl) (by kernel_rfl) (fun _ _ _ h => h) (Or.inl ⟨by kernel_rfl, ?_⟩) (by assumption) ?_
          rotate_left 1
          focus (intro w' hSw; (try dsimp only at hSw); go_simp; (try with_reducible rfl))
          try simp only [Act.put, List.setIfInBounds_toArray, List.set_cons_zero, List.set_cons_succ]
          refine wpAnyH_take (i := 32) (oi := ⟨some 87, _, _, _, _, _⟩) (v := ?_) rfl (by kernel_rfl) (by kernel_rfl) (by kernel_rfl) (fun _ _ _ h => h) (Or.inl ⟨by kernel_rfl, ?_⟩) (by assumption) ?_
          rotate_left 1
          focus (intro w' hSw; (try dsimp only at hSw); go_simp; (try with_reducible rfl))
          try simp only [Act.put, List.setIfInBounds_toArray, List.set_cons_zero, List.set_cons_succ]
          refine wpAnyH_ready (rs := [33]) (by kernel_rfl) (by simp) ?_
          refine AllReadyH.cons rfl (fun K hK => ?_) AllReadyH.nil
          go_simp
          go_at_call 16
          refine (HWR.out _ hHeld).mono ?_
          rintro e u33 ⟨rfl, hS33⟩
          clear hHeld
          refine hK.out _ _ (hS33) (fun hHeld => ?_)
          clear hK
          refine wpAnyH_take (i := 34) (oi := ⟨some 89, _, _, _, _, _⟩) (v := ?_) rfl (by kernel_rfl) (by kernel_rfl) (by kernel_rfl) (fun _ _ _ h => h) (Or.inl ⟨by kernel_rfl, ?_⟩) (by assumption) ?_
          rotate_left 1
          focus (intro w' hSw; (try dsimp only at hSw); go_simp; (try with_reducible rfl))
          try simp only [Act.put, List.setIfInBounds_toArray, List.set_cons_zero, List.set_cons_succ]
          refine wpAnyH_take (i := 35) (oi := ⟨some 90, _, _, _, _, _⟩) (v := ?_) rfl (by kernel_rfl) (by kernel_rfl) (by kernel_rfl) (fun _ _ _ h => h) (Or.inl ⟨by kernel_rfl, ?_⟩) (by assumption) ?_
          rotate_left 1
          focus (intro w' hSw; (try dsimp only at hSw); go_simp; (try with_reducible rfl))
          try simp only [Act.put, List.setIfInBounds_toArray, List.set_cons_zero, List.set_cons_succ]
          refine wpAnyH_take (i := 36) (oi := ⟨some 91, _, _, _, _, _⟩) (v := ?_) rfl (by kernel_rfl) (by kernel_rfl) (by kernel_rfl) (fun _ _ _ h => h) (Or.inl ⟨by kernel_rfl, ?_⟩) (by assumption) ?_
          rotate_left 1
          focus (intro w' hSw; (try dsimp only at hSw); go_simp; (try with_reducible rfl))
          try simp only [Act.put, List.setIfInBounds_toArray, List.set_cons_zero, List.set_cons_succ]
          refine wpAnyH_ready (rs := [37]) (by kernel_rfl) (by simp) ?_
          refine AllReadyH.cons rfl (fun K hK => ?_) AllReadyH.nil
          go_simp
          go_at_call 16
          refine (HWR.out _ hHeld).mono ?_
          rintro e u37 ⟨rfl, hS37⟩
          clear hHeld
          refine hK.out _ _ (hS37) (fun hHeld => ?_)
          clear hK
          refine wpAnyH_take (i := 38) (oi := ⟨some 93, _, _, _, _, _⟩) (v := ?_) rfl (by kernel_rfl) (by kernel_rfl) (by kernel_rfl) (fun _ _ _ h => h) (Or.inl ⟨by kernel_rfl, ?_⟩) (by assumption) ?_
          rotate_left 1
          focus (intro w' hSw; (try dsimp only at hSw); go_simp; (try with_reducible rfl))
          try simp only [Act.put, List.setIfInBounds_toArray, List.set_cons_zero, List.set_cons_succ]
          refine wpAnyH_take (i := 39) (oi := ⟨some 94, _, _, _, _, _⟩) (v := ?_) rfl (by kernel_rfl) (by kernel_rfl) (by kernel_rfl) (fun _ _ _ h => h) (Or.inl ⟨by kernel_rfl, ?_⟩) (by assumption) ?_
          rotate_left 1
          focus (intro w' hSw; (try dsimp only at hSw); go_simp; (try with_reducible rfl))
          try simp only [Act.put, List.setIfInBounds_toArray, List.set_cons_zero, List.set_cons_succ]
          refine wpAnyH_ready (rs := [40]) (by kernel_rfl) (by simp) ?_
          refine AllReadyH.cons rfl (fun K hK => ?_) AllReadyH.nil
          go_simp
          go_at_call 15
          refine (HRD.out _ hHeld).mono ?_
          rintro e u40 ⟨rfl, hS40⟩
          clear hHeld
          refine hK.out _ _ (hS40) (fun hHeld => ?_)
          clear hK
          refine wpAnyH_take (i := 41) (oi := ⟨some 96, _, _, _, _, _⟩) (v := ?_) rfl (by kernel_rfl) (by kernel_rfl) (by kernel_rfl) (fun _ _ _ h => h) (Or.inl ⟨by kernel_rfl, ?_⟩) (by assumption) ?_
          rotate_left 1
          focus (intro w' hSw; (try dsimp only at hSw); go_simp; (try with_reducible rfl))
          try simp only [Act.put, List.setIfInBounds_toArray, List.set_cons_zero, List.set_cons_succ]
          refine wpAnyH_take (i := 42) (oi := ⟨some 97, _, _, _, _, _⟩) (v := ?_) rfl (by kernel_rfl) (by kernel_rfl) (by kernel_rfl) (fun _ _ _ h => h) (Or.inl ⟨by kernel_rfl, ?_⟩) (by assumption) ?_
          rotate_left 1
          focus (intro w' hSw; (try dsimp only at hSw); go_simp; (try with_reducible rfl))
          try simp only [Act.put, List.setIfInBounds_toArray, List.set_cons_zero, List.set_cons_succ]
          refine wpAnyH_take (i := 43) (oi := ⟨some 98, _, _, _, _, _⟩) (v := ?_) rfl (by kernel_rfl) (by kernel_rfl) (by kernel_rfl) (fun _ _ _ h => h) (Or.inl ⟨by kernel_rfl, ?_⟩) (by assumption) ?_
          rotate_left 1
          focus (intro w' hSw; (try dsimp only at hSw); go_simp; (try with_reducible rfl))
          try simp only [Act.put, List.setIfInBounds_toArray, List.set_cons_zero, List.set_cons_succ]
          refine wpAnyH_done (by kernel_rfl) ?_ _
          have HE := Lib.hid (HI9.out _ hHeld.2.2.2)
          clear hHeld
          go_wp2_with fail
          go_roundw
          case rel => exact ⟨j + 1, _, _, _, _, _, _, _, _, _, by go_num, by omega, HE⟩
          case measure => simp [intOf]; omega


end Go.Proofs.Ythmehalkijbpdaa.gdo
