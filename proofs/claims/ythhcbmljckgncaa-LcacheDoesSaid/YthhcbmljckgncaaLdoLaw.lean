/- LcacheDoes: true. Condition: what is asked lies in memory. -/
import Derived.Test.YthhcbmljckgncaaLdoMath
import Derived.Deep.CutBlock
import Derived.Deep.CutRange
namespace Go.Proofs.Ythhcbmljckgncaa.ldo
set_option maxRecDepth 100000
open Go.RowKit Go.Proofs.Ythhcbmljckgncaa.words Go.Proofs.Ythhcbmljckgncaa.lru Go.Proofs.Ythhcbmljckgncaa.sha Go.Proofs.Ythhcbmljckgncaa.lrl Go.Proofs.Ythhcbmljckgncaa.shl Go.Proofs.Ythhcbmljckgncaa.lca Go.Proofs.Ythhcbmljckgncaa.mpf
open Go.Proofs.Ythhcbmljckgncaa.ddo (keys len_keys keys_rest gone_keys keys_put keys_get keys_use mem_get mem_put both set_same)
open Go.Proofs.Ythhcbmljckgncaa.dca (dirB dir_any dirB_size)

theorem infoSlc : (Try.prog.info? 38).map (fun i => (i.zero, i.size, i.bytes)) = some (some (.slice none 0 0), 1, 24) := by kernel_rfl
theorem rows_new (w : World) (n B : Nat) (hB : B ≤ w.heap.size) : ddo.Rows (w.alloc (.cells (madeCells #[.slice none 0 0] n) 38)) B w.heap.size (List.replicate n []) := by
  refine ⟨hB, _, heap_alloc_new w _, ?_, fun i L hL => ?_⟩
  · rw [← Array.length_toList, toList_madeCells_one, List.length_replicate, List.length_replicate]
  · rw [List.getElem?_replicate] at hL
    split at hL
    · rename_i hi
      injection hL with hL
      subst hL
      refine ⟨none, 0, ?_, World.ownsRow_nil _ _ _ _⟩
      rw [← Array.getElem?_toList, toList_madeCells_one, List.getElem?_replicate, if_pos hi]
      rfl
    · cases hL
theorem ents_news {w : World} {gs : List Nat} {r n : Nat} (M : ByteArray → Option Act16) : Ents w n (news gs r) M := fun i c k xe hc hm => by
  unfold news at hc
  rw [List.getElem?_map] at hc
  rcases hg : gs[i]? with _ | g
  · rw [hg] at hc; cases hc
  · rw [hg] at hc
    injection hc with hc
    subst hc
    cases hm
theorem keys_new (gs : List Nat) (r : Nat) : Keys (news gs r) (List.replicate gs.length []) := fun i c hc => by
  unfold news at hc
  rw [List.getElem?_map] at hc
  rcases hg : gs[i]? with _ | g
  · rw [hg] at hc; cases hc
  · rw [hg] at hc
    injection hc with hc
    subst hc
    exact ⟨[], by rw [List.getElem?_replicate, if_pos (List.getElem?_eq_some_iff.1 hg).1], rfl⟩
theorem look_is (f : ByteArray → Option Act16) (k : ByteArray) : ((f k).map actV).getD (actV lca.a0) = actV ((f k).getD lca.a0) := by
  rcases f k with _ | a <;> rfl
theorem zeroAct (w : World) : (zeroValue 71).run Try.prog w = .ok (actV lca.a0) w := by kernel_rfl
theorem Got.later {w wr w' : World} {n r q h bS bM jm jl : Nat} {C : List Cc} {R : List (List (ByteArray × Int))} {M Me : ByteArray → Option Act16} {x : Int} {K : List Hb} {m : Nat} {v : Value} (g : Got w n r q h bS bM jm jl C R M Me x K m v wr) (hb : Below wr.heap.size wr w') : Got w n r q h bS bM jm jl C R M Me x K m v w' :=
  ⟨g.sta.later hb, g.row.later hb, g.apart⟩
theorem Got.more {w wr : World} {n r q h bS bM jm jl jl' : Nat} {C : List Cc} {R : List (List (ByteArray × Int))} {M Me : ByteArray → Option Act16} {x : Int} {K : List Hb} {m : Nat} {v : Value} (g : Got w n r q h bS bM jm jl C R M Me x K m v wr) (h2 : jl ≤ jl') : Got w n r q h bS bM jm jl' C R M Me x K m v wr :=
  ⟨g.sta.more (Nat.le_refl _) h2, g.row, g.apart⟩
/-- Where the ways of the switch meet. -/
def Cutd (w : World) (n r q h bS bM j i : Nat) (C : List Cc) (c : Cc) (key : ByteArray) (R : List (List (ByteArray × Int))) (M : ByteArray → Option Act16) (a : Act16) (x : Nat) (K : List Hb) (v10 v18 v19 : Value) (wx : World) : Prop :=
  ∃ (x' m : Nat) (kp : Bool) (A : Option Addr) (cA : Nat) (bo' : Option Nat) (v : Lst), v10 = .int .i64 (x' : Int) ∧ x' ≤ x + 1 ∧ m ≤ 255 ∧ v18 = .bool kp ∧ v19 = .slice A (entL m).length cA ∧ Hid (Got w n r q h bS bM j (j + 1) (C.set i ⟨c.g, bo', c.r, bif kp then putL c.L c.r key v else getL c.L key⟩) R M (bif kp then updM M key a else M) (x' : Int) K m (.slice A (entL m).length cA) wx)
/-- A list whose kinds are turned, one behind the other. -/
structure Lp (w wc : World) (A : Option Addr) (cA : Nat) (l : List (ByteArray × Int)) (i : Nat) (wr : World) : Prop where
  tn : Tn (fun k => some k = (Value.slice A l.length cA).ownBlock) wc wr
  kept : Kept (fun t => t = 81) w.heap.size wc wr
  at_ : ∀ (j : Nat) (p : ByteArray × Int), i ≤ j → l[j]? = some p → ∃ b cs, A = some ⟨b, 0, none⟩ ∧ w.heap.size ≤ b ∧ wr.heap[b]? = some (.cells cs 81 (0, 0)) ∧ cs[j * 2 + 1]? = some (.int .i64 p.2)
theorem Lp.first {w wc : World} {A : Option Addr} {cA : Nat} {l : List (ByteArray × Int)} (h : Enr wc w.heap.size (.slice A l.length cA) l) : Lp w wc A cA l 0 wc := by
  refine ⟨Tn.refl _ _, Kept.refl _ _ _, fun j p _ hp => ?_⟩
  obtain ⟨_, h2⟩ := enC_get hp
  have hl := (List.getElem?_eq_some_iff.1 hp).1
  rcases h.2 with ⟨_, h0⟩ | ⟨b, c, cur, hv, hB, hh, _, _, _, h4⟩
  · omega
  · injection hv with hv
    refine ⟨b, cur, hv, hB, hh, ?_⟩
    rw [← h4, List.getElem?_take] at h2
    split at h2
    · rw [← Array.getElem?_toList]; exact h2
    · cases h2
theorem Lp.step {w wc wr : World} {A : Option Addr} {cA : Nat} {l : List (ByteArray × Int)} {i b : Nat} {p : ByteArray × Int} (s : Lp w wc A cA l i wr) (hp : l[i]? = some p) (hA : A = some ⟨b, 0, none⟩) (u : Value) : Lp w wc A cA l (i + 1) (wr.setCell ⟨b, i * 2 + 1, none⟩ u) := by
  obtain ⟨b', cs, hA', hB, hh, _⟩ := s.at_ i p (Nat.le_refl _) hp
  rw [hA] at hA'
  injection hA' with hA'
  injection hA' with hA'
  subst hA'
  refine ⟨s.tn.setCell (p := ⟨b, i * 2 + 1, none⟩) (.inr (by rw [hA]; rfl)) u, s.kept.setCell (p := ⟨b, i * 2 + 1, none⟩) hB ⟨_, _, _, hh, rfl⟩ u, fun j p' hj hp' => ?_⟩
  obtain ⟨b2, cs2, hA2, _, hh2, hc2⟩ := s.at_ j p' (by omega) hp'
  rw [hA] at hA2
  injection hA2 with hA2
  injection hA2 with hA2
  subst hA2
  rw [hh] at hh2
  injection hh2 with hh2
  injection hh2 with hh2
  subst hh2
  exact ⟨b, _, hA, hB, heap_setCell_same wr b (i * 2 + 1) _ _ u hh, by rw [Array.getElem?_setIfInBounds, if_neg (by omega)]; exact hc2⟩
theorem entL_at {m j : Nat} {p : ByteArray × Int} (h : (entL m)[j]? = some p) : p.2 = (m : Int) := by
  unfold entL entN at h
  rw [List.getElem?_map] at h
  rcases hr : (List.range (m % 5))[j]? with _ | i
  · rw [hr] at h; cases h
  · rw [hr] at h
    injection h with h
    rw [← h]
/-- A round's end. -/
def EndP (w : World) (n r q h bS bM j i : Nat) (C : List Cc) (R : List (List (ByteArray × Int))) (M : ByteArray → Option Act16) (c : Cc) (L : List (ByteArray × Int)) (x : Int) (wz : World) : Prop :=
  Sta w n r q h bS bM (j + 1) (j + 1) C R M M x [] wz ∧ Keys C R ∧ C[i]? = some c ∧ R[i]? = some L ∧ L.length = c.L.length
theorem EndP.of {w wz : World} {n r q h bS bM j i : Nat} {C : List Cc} {R2 : List (List (ByteArray × Int))} {M : ByteArray → Option Act16} {c c' : Cc} {L2 L' : List (ByteArray × Int)} {x : Int} {K : List Hb} {jm jl : Nat} (hi : C[i]? = some c) (h2 : R2[i]? = some L2)
    (hT : ∀ (c' : Cc) (L' : List (ByteArray × Int)), keys L' = keys c'.L → Keys (C.set i c') (R2.set i L')) (hk : keys L' = keys c'.L) (hs : Sta w n r q h bS bM jm jl (C.set i c') (R2.set i L') M M x K wz) (h3 : jm ≤ j + 1) (h4 : jl ≤ j + 1) :
    EndP w n r q h bS bM j i (C.set i c') (R2.set i L') M c' L' x wz :=
  ⟨(hs.more h3 h4).drop, hT c' L' hk, by rw [List.getElem?_set, if_pos rfl, if_pos (List.getElem?_eq_some_iff.1 hi).1], by rw [List.getElem?_set, if_pos rfl, if_pos (List.getElem?_eq_some_iff.1 h2).1], by rw [← len_keys, hk, len_keys]⟩

set_option maxHeartbeats 25600000 in
theorem law_does (many room : Int) (A : Option Addr) (c : Nat) (T : List Act16) (w0 : World) (hT : Act16s w0 w0.heap.size A T) (hsz : ∀ y ∈ T, y.fine) (hlen : T.length ≤ 9223372036854775807) (_hm : pln.big many) (_hr : pln.big room) :
    Calls Try.prog 5 #[.agg #[.int .i64 many, .int .i64 room], .slice A T.length c] w0 fun e w' => e = .returned (.bool true) ∧ Below w0.heap.size w0 w' := by
  obtain ⟨n, hn⟩ : ∃ n : Nat, (n : Int) = min (max many 1) 256 := ⟨(min (max many 1) 256).toNat, by omega⟩
  obtain ⟨r, hrr⟩ : ∃ r : Nat, (r : Int) = max room 1 := ⟨(max room 1).toNat, by omega⟩
  have n1 : 0 < n := by omega
  have n2 : n ≤ 256 := by omega
  have r1 : 1 ≤ r := by omega
  have hmm := @run_makeMap Try.prog
  have hmf : ∀ (fn : Fn) (first cap : Array Value) (w : World), (Instr.makeFunc fn first cap).run Try.prog w = .ok (.func fn first cap) w := fun _ _ _ _ => rfl
  obtain ⟨iS, hiS, zS0, zS1, zS2⟩ := info_three infoSlc
  have hmk : ∀ u : World, (Instr.makeSlice 27 (.int .i64 (n : Int)) (.int .i64 (n : Int))).run Try.prog u =
      .ok (.slice (some ⟨u.heap.size, 0, none⟩) n n) (u.alloc (.cells (madeCells #[.slice none 0 0] n) 38)) := fun u => by
    have h := run_make (P := Try.prog) u 27 38 iS (.slice none 0 0) Try.underlying27 hiS zS0 .i64 .i64 (n : Int) (n : Int) (by omega) (Int.le_refl _) (by rw [zS2]; omega) (by omega)
    simpa [zS1, Value.cells] using h
  obtain ⟨MC, hMC⟩ : ∃ MC, MC = madeCells #[.slice none 0 0] n := ⟨_, rfl⟩
  rw [← hMC] at hmk
  have HMC := Lib.hid hMC
  obtain ⟨wA, hw⟩ : ∃ wA, wA = w0.alloc (.cells #[.int .i64 many, .int .i64 room] 22) := ⟨_, rfl⟩
  have hb0 : Below w0.heap.size w0 wA := by rw [hw]; exact (Below.refl _ _).alloc (Nat.le_refl _) _
  have hk0 : wA.heap[w0.heap.size]? = some (.cells #[.int .i64 many, .int .i64 room] 22 (0, 0)) := by rw [hw]; exact heap_alloc_new w0 _
  have HBX := Lib.hid (fun (wr : World) (hb : Below wA.heap.size wA wr) => (show wr.cell? ⟨w0.heap.size, 0, none⟩ = some (.int .i64 many) ∧ wr.cell? ⟨w0.heap.size, 1, none⟩ = some (.int .i64 room) from by
    have h := (hb.block _ (lt_of_some hk0)).trans hk0
    exact ⟨cell_of_blk h 0, cell_of_blk h 1⟩))
  have HT := Lib.hid hT
  have HSZ := Lib.hid hsz
  have HB0 := Lib.hid hb0
  have HW := Lib.hid hw
  have HC0 := Lib.hid (speaks_any wA)
  have HN := Lib.hid (fun w => lnew_any n r many room w hn hrr)
  have hmx : max room 1 = (r : Int) := hrr.symm
  have hmn : min (max many 1) 256 = (n : Int) := hn.symm
  clear hT hsz hn hrr hw hb0 hk0 hMC hiS zS0 zS1 zS2
  go_enter Try.func5, Try.ntmps5
  go_upto_region 1 with fail
  rw [← HW.out]
  go_wp2_with fail
  refine HC0.out.mono ?_
  rintro e w ⟨rfl, hb1⟩
  have HB1 := Lib.hid hb1
  have HBW := Lib.hid (HB0.out.trans (hb1.mono HB0.out.size))
  clear hb1 HC0
  by_cases h100 : T.length ≤ 100
  rotate_left
  · have g100 : (100 : Int) < (T.length : Int) := by omega
    have g101 : 100 < T.length := by omega
    go_wp2_with fail
    go_ret
    exact ⟨rfl, HBW.out⟩
  have g100 : ¬ (100 : Int) < (T.length : Int) := by omega
  have g101 : ¬ 100 < T.length := by omega
  obtain ⟨x0, x1⟩ := HBX.out w HB1.out
  have HN2 : Hid (∀ m, Calls Try.prog 27 #[.int .i64 many, .int .i64 room] (w.drewN m) fun e w' => ∃ (q h : Nat) (gs : List Nat), e = .returned (.pointer (some ⟨q, 0, none⟩)) ∧ gs.length = n ∧ Lc w' w.heap.size q h (news gs r) 0 ∧ Below w.heap.size w w') := Lib.hid fun m => (HN.out (w.drewN m)).mono fun e w' ⟨q, h, gs, h1, h2, h3, h4⟩ => ⟨q, h, gs, h1, h2, h3, (lca.below_drewN w m).trans h4⟩
  go_upto_region 5 with fail
  go_quiet (fail)
  go_wp2_with fail
  refine (HN2.out _).mono ?_
  rintro e w2 ⟨q, h, gs, rfl, hgl, hd2, hb2⟩
  obtain ⟨W3, hW3⟩ : ∃ W3, W3 = w2.alloc (.cells MC 38) := ⟨_, rfl⟩
  obtain ⟨W4, hW4⟩ : ∃ W4, W4 = W3.alloc (.map #[] 0) := ⟨_, rfl⟩
  have hb3 : Below w2.heap.size w2 W3 := by rw [hW3]; exact (Below.refl _ _).alloc (Nat.le_refl _) _
  have hb4 : Below W3.heap.size W3 W4 := by rw [hW4]; exact (Below.refl _ _).alloc (Nat.le_refl _) _
  have hb34 := hb3.trans (hb4.mono hb3.size)
  have hr3 : ddo.Rows W3 w.heap.size w2.heap.size (List.replicate n []) := by rw [hW3, HMC.out]; exact rows_new w2 n _ hb2.size
  obtain ⟨bS, hbS⟩ : ∃ bS, bS = w2.heap.size := ⟨_, rfl⟩
  obtain ⟨bM, hbM⟩ : ∃ bM, bM = W3.heap.size := ⟨_, rfl⟩
  have HS0 : Hid (Sta w n r q h bS bM 0 0 (news gs r) (List.replicate n []) (fun _ => none) (fun _ => none) ((0 : Nat) : Int) [] W4) := Lib.hid
    ⟨hd2.later hb34, by rw [hbS]; exact hr3.later hb4, by rw [hbM, hW4]; exact MapFn.made W3 Try.prog 9, hb2.trans (hb34.mono hb2.size), by rw [hbM]; exact Nat.le_trans hb2.size hb3.size, by rw [news_len]; exact hgl, List.length_replicate .., fun i c hc => by
        unfold news at hc
        obtain ⟨g, _, rfl⟩ := List.mem_map.1 (List.mem_of_getElem? hc)
        rfl, fun i c hc => by
        unfold news at hc
        obtain ⟨g, _, rfl⟩ := List.mem_map.1 (List.mem_of_getElem? hc)
        exact Nat.le_refl _, ents_news _, fun z hz => by cases hz⟩
  have HK0 : Hid (Keys (news gs r) (List.replicate n [])) := Lib.hid (by rw [← hgl]; exact keys_new gs r)
  have HW3 := Lib.hid hW3
  have HW4 := Lib.hid hW4
  have HBS := Lib.hid hbS
  have HBM := Lib.hid hbM
  have HB2 := Lib.hid (HB1.out.trans (hb2.mono HB1.out.size))
  clear x0 x1 hgl hd2 hb2 hW3 hW4 hb3 hb4 hb34 hr3 hbS hbM HN
  obtain ⟨x0, x1⟩ := HBX.out w2 HB2.out
  go_upto_region 8 with fail
  rw [← HW3.out, ← HBS.out]
  go_upto_region 9 with fail
  rw [← HW4.out, ← HBM.out]
  clear x0 x1
  go_wp2_with fail
  go_loopw [47, 10] (fun v v10 wr => ∃ (j x : Nat) (C : List Cc) (R : List (List (ByteArray × Int))) (M : ByteArray → Option Act16), v = .int .i64 (j : Int) ∧ v10 = .int .i64 (x : Int) ∧ j ≤ T.length ∧ x ≤ j ∧ Hid (Sta w n r q h bS bM j j C R M M (x : Int) [] wr) ∧ Hid (Keys C R)) (fun v _ _ => T.length - (intOf v).toNat)
  case atStart => exact ⟨0, 0, _, _, _, rfl, rfl, Nat.zero_le _, Nat.le_refl _, HS0, HK0⟩
  case round =>
    clear HS0 HK0
    obtain ⟨j, x, C, R, M, rfl, rfl, hj, hxy, HS, HKY⟩ := hrel
    have j0 : (0 : Int) ≤ (j : Int) := by omega
    by_cases hjl : j < T.length
    · obtain ⟨a, hx⟩ : ∃ x, T[j]? = some x := ⟨_, List.getElem?_eq_getElem hjl⟩
      obtain ⟨ba, oa, hAa, _, a0, a1, a2, a3⟩ := (HT.out.keep (HBW.out.trans (HS.out.below.mono HBW.out.size))) j _ hx
      subst hAa
      obtain ⟨hkd, hdr, _, hmn8⟩ := HSZ.out a (List.mem_of_getElem? hx)
      have j1 : (j : Int) < (T.length : Int) := by omega
      obtain ⟨W3, hW3⟩ : ∃ W3, W3 = wr.alloc (.cells #[.int .u8 (a.kd : Int), .int .u8 (a.dr : Int), .int .i64 a.ep, .int .u8 (a.mn : Int)] 71) := ⟨_, rfl⟩
      have hb3 : Below wr.heap.size wr W3 := by rw [hW3]; exact (Below.refl _ _).alloc (Nat.le_refl _) _
      have hk3 : W3.heap[wr.heap.size]? = some (.cells #[.int .u8 (a.kd : Int), .int .u8 (a.dr : Int), .int .i64 a.ep, .int .u8 (a.mn : Int)] 71 (0, 0)) := by rw [hW3]; exact heap_alloc_new wr _
      have HS3 := Lib.hid ((HS.out.later hb3).hold hk3 (by unfold DS; decide) ⟨by decide, by decide⟩)
      obtain ⟨ab, hab⟩ : ∃ ab, ab = wr.heap.size := ⟨_, rfl⟩
      rw [← hab] at HS3
      have HAB := Lib.hid hab
      have HW3' := Lib.hid hW3
      obtain ⟨key, hkey⟩ : ∃ key, key = dirB a.dr := ⟨_, rfl⟩
      have hks4 : key.size ≤ 4 := by have := dirB_size a.dr; rw [hkey]; exact this
      have hks : key.size ≤ 9223372036854775807 := by omega
      have HDIR := Lib.hid (fun wr => dir_any a.dr wr hdr)
      rw [← hkey] at HDIR
      have kd0 : (0 : Int) ≤ (a.kd : Int) := by omega
      have kd1 : (a.kd : Int) ≤ 255 := by omega
      obtain ⟨kk, hkk⟩ : ∃ kk : Nat, kk = a.kd % 3 := ⟨_, rfl⟩
      have ek1 : (a.kd : Int).tmod 3 = (kk : Int) := by rw [Int.tmod_eq_emod_of_nonneg (by omega)]; omega
      have ek2 : (a.kd : Int) % 3 = (kk : Int) := by omega
      have HKK := Lib.hid (show kk = 0 ∨ kk = 1 ∨ kk = 2 by omega)
      clear hx hb3 hk3 hW3 hab HS hdr hkey hkd hkk
      go_upto_region 13 with fail
      rw [← HW3'.out, ← HAB.out]
      clear a0 a1 a2 a3
      have hka := (HS3.out.held ⟨ab, #[.int .u8 (a.kd : Int), .int .u8 (a.dr : Int), .int .i64 a.ep, .int .u8 (a.mn : Int)], 71⟩ (List.mem_cons_self ..)).1
      have a0 := cell_of_blk hka 0
      have a1 := cell_of_blk hka 1
      have a2 := cell_of_blk hka 2
      have a3 := cell_of_blk hka 3
      clear hka
      go_wp2_with fail
      refine (HDIR.out _).mono ?_
      rintro e wx ⟨rfl, rfl⟩
      obtain ⟨s, hs⟩ : ∃ s, s = sumF key.data.toList := ⟨_, rfl⟩
      have hlt := sumF_lt key.data.toList
      have HRS := Lib.hid (fun w => refsum_any key w hks)
      rw [← hs] at hlt HRS
      obtain ⟨i, hi⟩ : ∃ i, i = ofF key n := ⟨_, rfl⟩
      have hil : i < n := by rw [hi]; exact ofF_lt key n1
      have hsi : (s : Int) % (n : Int) = (i : Int) := by rw [hi, hs]; unfold ofF; rw [Int.natCast_emod]
      have z1 : (0 : Int) ≤ (s : Int) := by omega
      have z2 : (0 : Int) < (n : Int) := by omega
      have z3 : ¬ ((n : Int) = 0) := by omega
      have z4 : ¬ (n = 0) := by omega
      have w1' : IntKind.u64.wrap (n : Int) = (n : Int) := by rw [IntKind.wrap_u64]; omega
      have w2' : IntKind.i64.wrap (i : Int) = (i : Int) := IntWalk.i64_in _ (by omega)
      have i0 : (0 : Int) ≤ (i : Int) := by omega
      have i1 : (i : Int) < (n : Int) := by omega
      obtain ⟨c, hci⟩ : ∃ c, C[i]? = some c := ⟨_, List.getElem?_eq_getElem (by rw [HS3.out.len]; exact hil)⟩
      have HAT : Hid (At n C i c key) := Lib.hid ⟨n1, n2, hi, hci, by omega⟩
      have HOI := Lib.hid hi
      clear hs hi
      go_wp2_with fail
      refine (HRS.out _).mono ?_
      rintro e wx ⟨rfl, rfl⟩
      obtain ⟨w4, hw4⟩ : ∃ w4, w4 = W3 := ⟨_, rfl⟩
      have hs4 := HS3.out
      obtain ⟨L, hL, hkL⟩ := HKY.out i c hci
      rw [← hw4] at hs4 a0 a1 a2 a3
      obtain ⟨A2, c2, hcL, hRL⟩ := hs4.rows.at hL
      have hlL : L.length ≤ 100 := by rw [← len_keys, hkL, len_keys]; have := hs4.lens i c hci; omega
      have gi : ((i : Int) != (i : Int)) = false := by simp
      have HS4 := Lib.hid hs4
      have HL := Lib.hid hL
      have HKL := Lib.hid hkL
      have HRL := Lib.hid hRL
      have HCI := Lib.hid hci
      rw [← hw4]
      clear a0 a1 a2 a3 hs4 hL hkL hRL hci HRS HDIR hw4
      rcases both HKL.out key with ⟨iw, xw, xe, hiw, hve, hme⟩ | ⟨hno, hve⟩
      · have HFI := Lib.hid (lrr.find_yes w.heap.size iw c2 A2 L key xw w4 HRL.out hiw (show (keys L).Nodup by rw [HKL.out]; exact (HS4.out.dc.fam.ok i c HCI.out).nd) (by omega))
        have HU := Lib.hid (lrr.use_any w.heap.size c2 A2 L key 0 w4 HRL.out (by omega))
        obtain ⟨hof, o, hMo, _⟩ := HS4.out.ents i c key xe HCI.out hme
        have HMO : Hid (((M key).map actV).getD (actV lca.a0) = .agg #[.int .u8 (o.kd : Int), .int .u8 (o.dr : Int), .int .i64 o.ep, .int .u8 (o.mn : Int)]) := Lib.hid (by rw [hMo]; rfl)
        have HVE := Lib.hid hve
        have HME := Lib.hid hme
        have HMo := Lib.hid hMo
        have iw0 : (0 : Int) ≤ (iw : Int) := by omega
        have giw : decide ((iw : Int) < 0) = false := by simp
        have giw2 : ¬ (iw : Int) < 0 := by omega
        clear hiw hve hme hof hMo
        go_wp2_with fail
        refine HFI.out.mono ?_
        rintro e wx ⟨rfl, rfl⟩
        go_wp2_with fail
        refine HU.out.mono ?_
        rintro e w5 ⟨v5, rfl, hr5, hb5⟩
        obtain ⟨A6, c6, rfl, _, _, _⟩ := own_facts hr5
        have hs5 := HS4.out.later hb5
        obtain ⟨A5, c5, hc5, _⟩ := hs5.rows.at HL.out
        have hf5 := hs5.rows.free i
        have hs6 := hs5.row hil (v := .slice A6 ((rest L key).length + 1) c6) (own_mono hr5 HS4.out.below.size)
        obtain ⟨W6, hW6⟩ : ∃ W6, W6 = w5.setCell ⟨bS, i, none⟩ (.slice A6 ((rest L key).length + 1) c6) := ⟨_, rfl⟩
        rw [← hW6] at hs6
        have HW6 := Lib.hid hW6
        clear hs5 hr5 hb5 hW6 HFI HU
        go_upto_region 18 with fail
        rw [← HW6.out]
        have hu := keys_use HKL.out HVE.out (0 : Int)
        have HRR : Hid (∃ R2 L2, Sta w n r q h bS bM j j C R2 M M (x : Int) [⟨ab, #[.int .u8 (a.kd : Int), .int .u8 (a.dr : Int), .int .i64 a.ep, .int .u8 (a.mn : Int)], 71⟩] W6 ∧ R2[i]? = some L2 ∧ keys L2 = keys (getL c.L key) ∧ ∀ (c' : Cc) (L' : List (ByteArray × Int)), keys L' = keys c'.L → Keys (C.set i c') (R2.set i L')) := Lib.hid
          ⟨_, _, hs6, by rw [List.getElem?_set, if_pos rfl, if_pos (List.getElem?_eq_some_iff.1 HL.out).1], hu, fun c' L' hk => by rw [List.set_set]; exact HKY.out.turn HCI.out hk⟩
        clear hs6 hu hc5 hf5 hcL
        obtain ⟨R2, L2, hs6, h2, hk2, hT⟩ := HRR.out
        have HS6 := Lib.hid hs6
        have H2 := Lib.hid h2
        have HK2 := Lib.hid hk2
        have HTT := Lib.hid hT
        have HM6 := Lib.hid hs6.map
        have hl2 : L2.length ≤ 100 := by rw [← len_keys, hk2, len_keys, get_len (hs6.dc.fam.ok i c HCI.out)]; have := hs6.lens i c HCI.out; omega
        clear hs6 h2 hk2 hT HRR
        obtain ⟨W7, hW7⟩ : ∃ W7, W7 = W6.alloc (.cells #[.int .u8 (o.kd : Int), .int .u8 (o.dr : Int), .int .i64 o.ep, .int .u8 (o.mn : Int)] 71) := ⟨_, rfl⟩
        have hb7 : Below W6.heap.size W6 W7 := by rw [hW7]; exact (Below.refl _ _).alloc (Nat.le_refl _) _
        have hk7 : W7.heap[W6.heap.size]? = some (.cells #[.int .u8 (o.kd : Int), .int .u8 (o.dr : Int), .int .i64 o.ep, .int .u8 (o.mn : Int)] 71 (0, 0)) := by rw [hW7]; exact heap_alloc_new W6 _
        have HS7 := Lib.hid ((HS6.out.later hb7).hold hk7 (by unfold DS; decide) ⟨by decide, by decide⟩)
        obtain ⟨ob, hob⟩ : ∃ ob, ob = W6.heap.size := ⟨_, rfl⟩
        rw [← hob] at HS7
        have HOB := Lib.hid hob
        have HW7 := Lib.hid hW7
        clear hb7 hk7 hW7 hob
        go_upto_region 19 with (at_lookup; refine mpf.wpList_look _ rfl _ _ 69 rfl 9 71 Try.underlying9 Try.underlying69 (zeroAct _) bM j _ rfl HM6.out key rfl hks (v := .agg #[.int .u8 (o.kd : Int), .int .u8 (o.dr : Int), .int .i64 o.ep, .int .u8 (o.mn : Int)]) HMO.out ?_)
        rw [← HW7.out, ← HOB.out]
        have ah := (HS7.out.held (⟨ab, #[.int .u8 (a.kd : Int), .int .u8 (a.dr : Int), .int .i64 a.ep, .int .u8 (a.mn : Int)], 71⟩ : Hb) (by simp)).1
        have a0 := cell_of_blk ah 0
        have a1 := cell_of_blk ah 1
        have a2 := cell_of_blk ah 2
        have a3 := cell_of_blk ah 3
        clear ah
        have oh := (HS7.out.held (⟨ob, #[.int .u8 (o.kd : Int), .int .u8 (o.dr : Int), .int .i64 o.ep, .int .u8 (o.mn : Int)], 71⟩ : Hb) (by simp)).1
        have o0 := cell_of_blk oh 0
        have o1 := cell_of_blk oh 1
        have o2 := cell_of_blk oh 2
        have o3 := cell_of_blk oh 3
        clear oh
        have heo : EntIs W7 o xe := by
          obtain ⟨_, o', h1, h2⟩ := HS7.out.ents i c key xe HCI.out HME.out
          have := HMo.out.symm.trans h1
          injection this with this
          subst this
          exact h2
        have HEO := Lib.hid heo
        clear heo
        rcases Int.lt_trichotomy a.ep o.ep with hlt | heq0 | hgt
        · have ge : (o.ep == a.ep) = false := by simp; omega
          have gl : ¬ o.ep ≤ a.ep := by omega
          have gd : decide (o.ep ≤ a.ep) = false := by simp; omega
          go_upto_block 2 with fail
          go_cut [10, 18, 19] from 99 to 171 (fun v10 v18 v19 wx => Cutd w n r q h bS bM j i C c key R2 M a x [⟨ob, #[.int .u8 (o.kd : Int), .int .u8 (o.dr : Int), .int .i64 o.ep, .int .u8 (o.mn : Int)], 71⟩, ⟨ab, #[.int .u8 (a.kd : Int), .int .u8 (a.dr : Int), .int .i64 a.ep, .int .u8 (a.mn : Int)], 71⟩] v10 v18 v19 wx)
          case first =>
            as_aux_lemma =>
              rcases HKK.out with hk0 | hk0 | hk0
              · have g0 : ((kk : Int) == 0) = true := by rw [hk0]; rfl
                have HLK := Lib.hid (HS7.out.lookMiss HAT.out (by omega) a.ep (.inr ⟨xe, HVE.out, by rw [HEO.out.ep]; first | omega | exact Int.le_of_eq HEQ.out⟩))
                go_wp2_with fail
                refine HLK.out.mono ?_
                rintro en w8 ⟨bo8, rfl, hg8⟩
                have HG8 := Lib.hid hg8
                clear hg8 HLK
                clear a0 a1 a2 a3 o0 o1 o2 o3
                have ah := (HG8.out.sta.held (⟨ab, #[.int .u8 (a.kd : Int), .int .u8 (a.dr : Int), .int .i64 a.ep, .int .u8 (a.mn : Int)], 71⟩ : Hb) (by simp)).1
                have a0 := cell_of_blk ah 0
                have a1 := cell_of_blk ah 1
                have a2 := cell_of_blk ah 2
                have a3 := cell_of_blk ah 3
                clear ah
                have oh := (HG8.out.sta.held (⟨ob, #[.int .u8 (o.kd : Int), .int .u8 (o.dr : Int), .int .i64 o.ep, .int .u8 (o.mn : Int)], 71⟩ : Hb) (by simp)).1
                have o0 := cell_of_blk oh 0
                have o1 := cell_of_blk oh 1
                have o2 := cell_of_blk oh 2
                have o3 := cell_of_blk oh 3
                clear oh
                go_wp2_with fail
                go_meet
                case rel => exact ⟨x, 0, false, none, 0, bo8, e0, by go_num, by omega, by omega, rfl, rfl, Lib.hid (HG8.out.more (Nat.le_succ _))⟩
              · have g0 : ((kk : Int) == 0) = false := by rw [hk0]; rfl
                have g1 : ((kk : Int) == 1) = true := by rw [hk0]; rfl
                have HEN := Lib.hid (fun w => entries_any a.mn w (by omega))
                go_wp2_with fail
                refine (HEN.out _).mono ?_
                rintro en w8 ⟨⟨A8, c8, rfl, he8⟩, hb8⟩
                have HG8 : Hid (Got w n r q h bS bM j j C R2 M M (x : Int) _ a.mn (.slice A8 (entL a.mn).length c8) w8) := Lib.hid ⟨HS7.out.later hb8, he8.mono HS7.out.below.size, HS7.out.apart he8⟩
                clear he8 hb8 HEN a0 a1 a2 a3 o0 o1 o2 o3
                have ah := (HG8.out.sta.held (⟨ab, #[.int .u8 (a.kd : Int), .int .u8 (a.dr : Int), .int .i64 a.ep, .int .u8 (a.mn : Int)], 71⟩ : Hb) (by simp)).1
                have a0 := cell_of_blk ah 0
                have a1 := cell_of_blk ah 1
                have a2 := cell_of_blk ah 2
                have a3 := cell_of_blk ah 3
                clear ah
                have oh := (HG8.out.sta.held (⟨ob, #[.int .u8 (o.kd : Int), .int .u8 (o.dr : Int), .int .i64 o.ep, .int .u8 (o.mn : Int)], 71⟩ : Hb) (by simp)).1
                have o0 := cell_of_blk oh 0
                have o1 := cell_of_blk oh 1
                have o2 := cell_of_blk oh 2
                have o3 := cell_of_blk oh 3
                clear oh
                have HKP := Lib.hid (HG8.out.keepLate HAT.out (by omega) a.ep HVE.out (by rw [HEO.out.ep]; omega))
                go_wp2_with fail
                refine HKP.out.mono ?_
                rintro en w9 ⟨bo9, rfl, hg9⟩
                have HG9 := Lib.hid hg9
                clear hg9 HKP a0 a1 a2 a3 o0 o1 o2 o3
                go_wp2_with fail
                go_meet
                case rel => exact ⟨x, a.mn, false, A8, c8, bo9, e0, by go_num, by omega, by omega, rfl, rfl, Lib.hid (HG9.out.more (Nat.le_succ _))⟩
              · have g0 : ((kk : Int) == 0) = false := by rw [hk0]; rfl
                have g1 : ((kk : Int) == 1) = false := by rw [hk0]; rfl
                have HTK := Lib.hid (HS7.out.takeLate HAT.out (by omega) (by omega) hmn8 ab (HS7.out.held (⟨ab, #[.int .u8 (a.kd : Int), .int .u8 (a.dr : Int), .int .i64 a.ep, .int .u8 (a.mn : Int)], 71⟩ : Hb) (by simp)).1 HVE.out (by rw [HEO.out.ep]; omega))
                go_wp2_with fail
                refine HTK.out.mono ?_
                rintro en w8 ⟨A8, c8, bo8, rfl, hg8⟩
                have HG8 := Lib.hid hg8
                clear hg8 HTK a0 a1 a2 a3 o0 o1 o2 o3
                have ah := (HG8.out.sta.held (⟨ab, #[.int .u8 (a.kd : Int), .int .u8 (a.dr : Int), .int .i64 a.ep, .int .u8 (a.mn : Int)], 71⟩ : Hb) (by simp)).1
                have a0 := cell_of_blk ah 0
                have a1 := cell_of_blk ah 1
                have a2 := cell_of_blk ah 2
                have a3 := cell_of_blk ah 3
                clear ah
                have oh := (HG8.out.sta.held (⟨ob, #[.int .u8 (o.kd : Int), .int .u8 (o.dr : Int), .int .i64 o.ep, .int .u8 (o.mn : Int)], 71⟩ : Hb) (by simp)).1
                have o0 := cell_of_blk oh 0
                have o1 := cell_of_blk oh 1
                have o2 := cell_of_blk oh 2
                have o3 := cell_of_blk oh 3
                clear oh
                have HEN := Lib.hid (fun w => entries_any a.mn w (by omega))
                go_wp2_with fail
                refine (HEN.out _).mono ?_
                rintro en wE ⟨⟨AE, cE, rfl, heE⟩, hbE⟩
                have HSM := Lib.hid (same_any w.heap.size _ A8 AE c8 cE (entL a.mn) wE (HG8.out.row.later hbE) heE (by rw [entL_len]; omega))
                have HGE := Lib.hid (HG8.out.later hbE)
                clear heE hbE HEN
                go_wp2_with fail
                refine HSM.out.mono ?_
                rintro en wS ⟨rfl, mS, rfl⟩
                have HGS := Lib.hid (HGE.out.later (lca.below_drewN wE mS))
                clear HSM
                clear a0 a1 a2 a3 o0 o1 o2 o3
                go_wp2_with fail
                go_meet
                case rel => exact ⟨x + 1, a.mn, false, A8, c8, bo8, e0, by go_num, by omega, by omega, rfl, rfl, Lib.hid (by push_cast; exact HGS.out.more (Nat.le_succ _))⟩
          case rest =>
            as_aux_lemma =>
              clear a0 a1 a2 a3 o0 o1 o2 o3
              obtain ⟨x', m, kp, Ag, cg, bo', vv, rfl, hx', hm255, rfl, rfl, HG⟩ := hcut
              obtain ⟨l, hll⟩ : ∃ l, l = entL m := ⟨_, rfl⟩
              have hl5 : l.length < 5 := by rw [hll, entL_len]; omega
              have HLP0 : Hid (Lp w wc Ag cg l 0 wc) := Lib.hid (by rw [hll]; exact Lp.first HG.out.row)
              have HAL : Hid (∀ (j : Nat) (p : ByteArray × Int), l[j]? = some p → p.2 = (m : Int)) := Lib.hid fun j p hp => entL_at (by rw [← hll]; exact hp)
              have HFS : Hid (∀ (i : Nat) (wr : World), Lp w wc Ag cg l i wr → Sta w n r q h bS bM j (j + 1) _ R2 M _ (x' : Int) _ wr) := Lib.hid fun i wr lp => HG.out.sta.lost HG.out.apart (by have := lp.tn; rw [hll] at this; exact this) lp.kept
              rw [← hll]
              clear hll HG
              go_wp2_with fail
              go_loopw [174] (fun v wr => ∃ k : Nat, v = .int .i64 (k : Int) ∧ k ≤ l.length ∧ Hid (Lp w wc Ag cg l k wr)) (fun v _ => l.length - (intOf v).toNat)
              case atStart => exact ⟨0, rfl, Nat.zero_le _, HLP0⟩
              case round =>
                obtain ⟨k, rfl, hk, HLP⟩ := hrel
                have k0 : (0 : Int) ≤ (k : Int) := by omega
                by_cases hkl : k < l.length
                · obtain ⟨p, hp⟩ : ∃ p, l[k]? = some p := ⟨_, List.getElem?_eq_getElem hkl⟩
                  obtain ⟨bg, cs, hAg, _, hh, hc⟩ := HLP.out.at_ k p (Nat.le_refl _) hp
                  have hpm := HAL.out k p hp
                  have k1 : (k : Int) < (l.length : Int) := by omega
                  have c1 : wr.cell? ⟨bg, k * 2 + 1, none⟩ = some (.int .i64 (m : Int)) := (cell_of_blk hh _).trans (hpm ▸ hc)
                  have f1 : wr.frozen? ⟨bg, k * 2 + 1, none⟩ = false := free_of_blk hh _
                  have hw1 : IntKind.i64.wrap ((m : Int) - 1) = (m : Int) - 1 := IntWalk.i64_in _ (by omega)
                  have HST := Lib.hid (fun u => HLP.out.step hp hAg u)
                  subst hAg
                  clear hp hh hc HLP hpm
                  go_wp2_with fail
                  go_roundw
                  case rel => exact ⟨k + 1, by go_num, by omega, Lib.hid (HST.out _)⟩
                  case measure => simp [intOf]; omega
                · have HSF := Lib.hid (HFS.out k wr HLP.out)
                  clear HLP HFS HLP0
                  rcases kp with _ | _
                  · go_wp2_with fail
                    obtain ⟨wz, hwz⟩ : ∃ wz, wz = wr := ⟨_, rfl⟩
                    obtain ⟨C', R', M', c', L', HE⟩ : ∃ C' R' M' c' L', Hid (EndP w n r q h bS bM j i C' R' M' c' L' (x' : Int) wz) := ⟨_, _, _, _, _, Lib.hid (by rw [hwz]; exact EndP.of HCI.out H2.out HTT.out (L' := L2) HK2.out (by rw [set_same H2.out]; exact HSF.out) (by omega) (by omega))⟩
                    rw [← hwz]
                    clear hwz HSF
                    go_upto_region 50 with fail
                    obtain ⟨hsz, hkz, hcz, hrz, hlz⟩ := HE.out
                    have q0 := cell_of_blk hsz.dc.blk 0
                    unfold ptrC at q0
                    obtain ⟨A', c'', q1, _⟩ := hsz.rows.at hrz
                    obtain ⟨lm, hlm⟩ : ∃ lm, lm = L'.length := ⟨_, rfl⟩
                    obtain ⟨mo, hmo⟩ : ∃ mo, mo = mostF (nsOf C') := ⟨_, rfl⟩
                    have hle : mo ≤ r := by
                      rw [hmo]
                      refine most_le _ _ fun z hz => ?_
                      unfold nsOf at hz
                      obtain ⟨d, hd, rfl⟩ := List.mem_map.1 hz
                      obtain ⟨k, hk⟩ := List.mem_iff_getElem?.1 hd
                      have := (hsz.dc.fam.ok k d hk).len
                      rw [hsz.room k d hk] at this
                      exact this
                    have HOF : Hid (∀ m, Calls Try.prog 34 #[.pointer (some ⟨h, 0, none⟩), .string key] (wz.drewN m) fun e w' => e = .returned (.int .i64 (i : Int)) ∧ ∃ n, w' = (wz.drewN m).drewN n) := Lib.hid fun m => by
                      have := lof_any w.heap.size q h C' _ key (wz.drewN m) (hsz.dc.later (lca.below_drewN wz m)) (by rw [hsz.len]; exact n1) (by rw [hsz.len]; exact n2) (by omega)
                      rw [hsz.len, ← HOI.out] at this
                      exact this
                    have HLN : Hid (∀ m, Calls Try.prog 35 #[.pointer (some ⟨h, 0, none⟩), .int .i64 (i : Int)] (wz.drewN m) fun e w' => e = .returned (.int .i64 (lm : Int)) ∧ wz.drewN m = w') := Lib.hid fun m => by
                      have := slen_any w.heap.size h c'.g i (gsOf C') c'.bo c'.r c'.L (wz.drewN m) hsz.dc.shd (gs_at hcz) (hsz.dc.fam.lru _ _ hcz)
                      rw [← hlz, ← hlm] at this
                      exact this
                    have HMS : Hid (∀ m, Calls Try.prog 36 #[.pointer (some ⟨h, 0, none⟩)] (wz.drewN m) fun e w' => e = .returned (.int .i64 (mo : Int)) ∧ wz.drewN m = w') := Lib.hid fun m => by
                      have := lmost_any w.heap.size q h C' _ (wz.drewN m) (hsz.dc.later (lca.below_drewN wz m)) (by rw [hsz.len]; exact n2)
                      rw [← hmo] at this
                      exact this
                    have HMD : Hid (∀ m, Calls Try.prog 37 #[.pointer (some ⟨q, 0, none⟩)] (wz.drewN m) fun e w' => e = .returned (.int .i64 (x' : Int)) ∧ wz.drewN m = w') := Lib.hid fun m => made_any _ _ _ _ _ _ (hsz.dc.later (lca.below_drewN wz m))
                    have gm : ((lm : Int) != (lm : Int)) = false := by simp
                    have gx : ((x' : Int) != (x' : Int)) = false := by simp
                    have gr : ¬ (r : Int) < (mo : Int) := by omega
                    rw [← hlm] at q1
                    clear hsz hkz hcz hrz hlz hlm hmo hle
                    go_quiet ((first
                      | (go_at_call 34; exact Calls.quiet_of (HOF.out _))
                      | (go_at_call 35; exact Calls.quiet_of_same ((HLN.out _).mono fun e w' ⟨h1, h2⟩ => ⟨h1, h2.symm⟩))
                      | (go_at_call 36; exact Calls.quiet_of_same ((HMS.out _).mono fun e w' ⟨h1, h2⟩ => ⟨h1, h2.symm⟩))
                      | (go_at_call 37; exact Calls.quiet_of_same ((HMD.out _).mono fun e w' ⟨h1, h2⟩ => ⟨h1, h2.symm⟩))))
                    go_wp2_with fail
                    go_roundw
                    case rel => exact ⟨j + 1, x', C', R', M', by go_num, by go_num, by omega, by omega, Lib.hid (HE.out.1.later (lca.below_drewN _ _)), Lib.hid HE.out.2.1⟩
                    case measure => simp [intOf]; omega
                  · obtain ⟨A9, c9, hc9, hr9⟩ := HSF.out.rows.at H2.out
                    have HP := Lib.hid (lrr.rput_any w.heap.size c9 A9 L2 key 0 wr hr9 (by omega) r1 (r := r))
                    clear hr9
                    go_wp2_with fail
                    refine HP.out.mono ?_
                    rintro en w10 ⟨v10, rfl, hr10, hb10⟩
                    obtain ⟨A11, c11, rfl, _, _, _⟩ := own_facts hr10
                    have hs10 := HSF.out.later hb10
                    obtain ⟨A10, c10, hc10, _⟩ := hs10.rows.at H2.out
                    have hf10 := hs10.rows.free i
                    have hs11 := hs10.row hil (own_mono hr10 HSF.out.below.size)
                    obtain ⟨W11, hW11⟩ : ∃ W11, W11 = w10.setCell ⟨bS, i, none⟩ (.slice A11 (putL L2 r key 0).length c11) := ⟨_, rfl⟩
                    rw [← hW11] at hs11
                    have HW11 := Lib.hid hW11
                    have HS11 := Lib.hid hs11
                    have HM11 := Lib.hid hs11.map
                    clear hs10 hr10 hb10 hW11 hs11 HP hc9
                    go_upto_region 49 with fail
                    rw [← HW11.out]
                    clear hc10 hf10
                    have ah := (HS11.out.held (⟨ab, #[.int .u8 (a.kd : Int), .int .u8 (a.dr : Int), .int .i64 a.ep, .int .u8 (a.mn : Int)], 71⟩ : Hb) (by simp)).1
                    have a0 := cell_of_blk ah 0
                    have a1 := cell_of_blk ah 1
                    have a2 := cell_of_blk ah 2
                    have a3 := cell_of_blk ah 3
                    clear ah
                    go_wp2_with (at_mapUpdate; refine mpf.wpList_put _ rfl _ _ _ 69 rfl 9 71 Try.underlying9 Try.underlying69 bM j _ rfl HM11.out (by simp only [maxLen]; omega) key (actV a) rfl rfl hks ?_; intro w12 hm12 hg12)
                    have HS12 := Lib.hid (HS11.out.noted hm12 hg12)
                    clear hm12 hg12 HM11 a0 a1 a2 a3
                    have hkk2 : keys (putL L2 r key 0) = keys (putL c.L c.r key vv) := by
                      rw [HS6.out.room i c HCI.out, ← put_get c.L r key vv]
                      exact keys_put HK2.out r key 0 vv
                    obtain ⟨wz, hwz⟩ : ∃ wz, wz = w12 := ⟨_, rfl⟩
                    obtain ⟨C', R', M', c', L', HE⟩ : ∃ C' R' M' c' L', Hid (EndP w n r q h bS bM j i C' R' M' c' L' (x' : Int) wz) := ⟨_, _, _, _, _, Lib.hid (by rw [hwz]; exact EndP.of HCI.out H2.out HTT.out hkk2 HS12.out (by omega) (by omega))⟩
                    rw [← hwz]
                    clear hwz HSF HS11 HS12 hkk2
                    go_upto_region 50 with fail
                    obtain ⟨hsz, hkz, hcz, hrz, hlz⟩ := HE.out
                    have q0 := cell_of_blk hsz.dc.blk 0
                    unfold ptrC at q0
                    obtain ⟨A', c'', q1, _⟩ := hsz.rows.at hrz
                    obtain ⟨lm, hlm⟩ : ∃ lm, lm = L'.length := ⟨_, rfl⟩
                    obtain ⟨mo, hmo⟩ : ∃ mo, mo = mostF (nsOf C') := ⟨_, rfl⟩
                    have hle : mo ≤ r := by
                      rw [hmo]
                      refine most_le _ _ fun z hz => ?_
                      unfold nsOf at hz
                      obtain ⟨d, hd, rfl⟩ := List.mem_map.1 hz
                      obtain ⟨k, hk⟩ := List.mem_iff_getElem?.1 hd
                      have := (hsz.dc.fam.ok k d hk).len
                      rw [hsz.room k d hk] at this
                      exact this
                    have HOF : Hid (∀ m, Calls Try.prog 34 #[.pointer (some ⟨h, 0, none⟩), .string key] (wz.drewN m) fun e w' => e = .returned (.int .i64 (i : Int)) ∧ ∃ n, w' = (wz.drewN m).drewN n) := Lib.hid fun m => by
                      have := lof_any w.heap.size q h C' _ key (wz.drewN m) (hsz.dc.later (lca.below_drewN wz m)) (by rw [hsz.len]; exact n1) (by rw [hsz.len]; exact n2) (by omega)
                      rw [hsz.len, ← HOI.out] at this
                      exact this
                    have HLN : Hid (∀ m, Calls Try.prog 35 #[.pointer (some ⟨h, 0, none⟩), .int .i64 (i : Int)] (wz.drewN m) fun e w' => e = .returned (.int .i64 (lm : Int)) ∧ wz.drewN m = w') := Lib.hid fun m => by
                      have := slen_any w.heap.size h c'.g i (gsOf C') c'.bo c'.r c'.L (wz.drewN m) hsz.dc.shd (gs_at hcz) (hsz.dc.fam.lru _ _ hcz)
                      rw [← hlz, ← hlm] at this
                      exact this
                    have HMS : Hid (∀ m, Calls Try.prog 36 #[.pointer (some ⟨h, 0, none⟩)] (wz.drewN m) fun e w' => e = .returned (.int .i64 (mo : Int)) ∧ wz.drewN m = w') := Lib.hid fun m => by
                      have := lmost_any w.heap.size q h C' _ (wz.drewN m) (hsz.dc.later (lca.below_drewN wz m)) (by rw [hsz.len]; exact n2)
                      rw [← hmo] at this
                      exact this
                    have HMD : Hid (∀ m, Calls Try.prog 37 #[.pointer (some ⟨q, 0, none⟩)] (wz.drewN m) fun e w' => e = .returned (.int .i64 (x' : Int)) ∧ wz.drewN m = w') := Lib.hid fun m => made_any _ _ _ _ _ _ (hsz.dc.later (lca.below_drewN wz m))
                    have gm : ((lm : Int) != (lm : Int)) = false := by simp
                    have gx : ((x' : Int) != (x' : Int)) = false := by simp
                    have gr : ¬ (r : Int) < (mo : Int) := by omega
                    rw [← hlm] at q1
                    clear hsz hkz hcz hrz hlz hlm hmo hle
                    go_quiet ((first
                      | (go_at_call 34; exact Calls.quiet_of (HOF.out _))
                      | (go_at_call 35; exact Calls.quiet_of_same ((HLN.out _).mono fun e w' ⟨h1, h2⟩ => ⟨h1, h2.symm⟩))
                      | (go_at_call 36; exact Calls.quiet_of_same ((HMS.out _).mono fun e w' ⟨h1, h2⟩ => ⟨h1, h2.symm⟩))
                      | (go_at_call 37; exact Calls.quiet_of_same ((HMD.out _).mono fun e w' ⟨h1, h2⟩ => ⟨h1, h2.symm⟩))))
                    go_wp2_with fail
                    go_roundw
                    case rel => exact ⟨j + 1, x', C', R', M', by go_num, by go_num, by omega, by omega, Lib.hid (HE.out.1.later (lca.below_drewN _ _)), Lib.hid HE.out.2.1⟩
                    case measure => simp [intOf]; omega
        · have heq : o.ep = a.ep := heq0.symm
          have ge : (o.ep == a.ep) = true := by simpa using heq
          have gl : o.ep ≤ a.ep := by omega
          have gd : decide (o.ep ≤ a.ep) = true := by simp; omega
          have HEQ := Lib.hid heq
          have homn : o.mn ≤ 255 := HEO.out.mn
          clear heq0 heq
          go_upto_block 2 with fail
          go_cut [10, 18, 19] from 99 to 171 (fun v10 v18 v19 wx => Cutd w n r q h bS bM j i C c key R2 M a x [⟨ob, #[.int .u8 (o.kd : Int), .int .u8 (o.dr : Int), .int .i64 o.ep, .int .u8 (o.mn : Int)], 71⟩, ⟨ab, #[.int .u8 (a.kd : Int), .int .u8 (a.dr : Int), .int .i64 a.ep, .int .u8 (a.mn : Int)], 71⟩] v10 v18 v19 wx)
          case first =>
            as_aux_lemma =>
              rcases HKK.out with hk0 | hk0 | hk0
              · have g0 : ((kk : Int) == 0) = true := by rw [hk0]; rfl
                have HLK := Lib.hid (HS7.out.lookHit HAT.out (by omega) HVE.out HEO.out HEQ.out)
                go_wp2_with fail
                refine HLK.out.mono ?_
                rintro en w8 ⟨A8, c8, bo8, rfl, hg8⟩
                have HG8 := Lib.hid hg8
                clear hg8 HLK
                clear a0 a1 a2 a3 o0 o1 o2 o3
                have ah := (HG8.out.sta.held (⟨ab, #[.int .u8 (a.kd : Int), .int .u8 (a.dr : Int), .int .i64 a.ep, .int .u8 (a.mn : Int)], 71⟩ : Hb) (by simp)).1
                have a0 := cell_of_blk ah 0
                have a1 := cell_of_blk ah 1
                have a2 := cell_of_blk ah 2
                have a3 := cell_of_blk ah 3
                clear ah
                have oh := (HG8.out.sta.held (⟨ob, #[.int .u8 (o.kd : Int), .int .u8 (o.dr : Int), .int .i64 o.ep, .int .u8 (o.mn : Int)], 71⟩ : Hb) (by simp)).1
                have o0 := cell_of_blk oh 0
                have o1 := cell_of_blk oh 1
                have o2 := cell_of_blk oh 2
                have o3 := cell_of_blk oh 3
                clear oh
                have HEN := Lib.hid (fun w => entries_any o.mn w (by omega))
                go_wp2_with fail
                refine (HEN.out _).mono ?_
                rintro en wE ⟨⟨AE, cE, rfl, heE⟩, hbE⟩
                have HSM := Lib.hid (same_any w.heap.size _ A8 AE c8 cE (entL o.mn) wE (HG8.out.row.later hbE) heE (by rw [entL_len]; omega))
                have HGE := Lib.hid (HG8.out.later hbE)
                clear heE hbE HEN
                go_wp2_with fail
                refine HSM.out.mono ?_
                rintro en wS ⟨rfl, mS, rfl⟩
                have HGS := Lib.hid (HGE.out.later (lca.below_drewN wE mS))
                clear HSM
                clear a0 a1 a2 a3 o0 o1 o2 o3
                go_wp2_with fail
                go_meet
                case rel => exact ⟨x, o.mn, false, A8, c8, bo8, e0, by go_num, by omega, by omega, rfl, rfl, Lib.hid (HGS.out.more (Nat.le_succ _))⟩
              · have g0 : ((kk : Int) == 0) = false := by rw [hk0]; rfl
                have g1 : ((kk : Int) == 1) = true := by rw [hk0]; rfl
                have HEN := Lib.hid (fun w => entries_any a.mn w (by omega))
                go_wp2_with fail
                refine (HEN.out _).mono ?_
                rintro en w8 ⟨⟨A8, c8, rfl, he8⟩, hb8⟩
                have HG8 : Hid (Got w n r q h bS bM j j C R2 M M (x : Int) _ a.mn (.slice A8 (entL a.mn).length c8) w8) := Lib.hid ⟨HS7.out.later hb8, he8.mono HS7.out.below.size, HS7.out.apart he8⟩
                clear he8 hb8 HEN a0 a1 a2 a3 o0 o1 o2 o3
                have ah := (HG8.out.sta.held (⟨ab, #[.int .u8 (a.kd : Int), .int .u8 (a.dr : Int), .int .i64 a.ep, .int .u8 (a.mn : Int)], 71⟩ : Hb) (by simp)).1
                have a0 := cell_of_blk ah 0
                have a1 := cell_of_blk ah 1
                have a2 := cell_of_blk ah 2
                have a3 := cell_of_blk ah 3
                clear ah
                have oh := (HG8.out.sta.held (⟨ob, #[.int .u8 (o.kd : Int), .int .u8 (o.dr : Int), .int .i64 o.ep, .int .u8 (o.mn : Int)], 71⟩ : Hb) (by simp)).1
                have o0 := cell_of_blk oh 0
                have o1 := cell_of_blk oh 1
                have o2 := cell_of_blk oh 2
                have o3 := cell_of_blk oh 3
                clear oh
                have HKP := Lib.hid (HG8.out.keepYes HAT.out (by omega) hmn8 (.inr ⟨xe, HVE.out, by rw [HEO.out.ep]; first | omega | exact Int.le_of_eq HEQ.out⟩))
                go_wp2_with fail
                refine HKP.out.mono ?_
                rintro en w9 ⟨bo9, v9, rfl, hg9⟩
                have HG9 := Lib.hid hg9
                clear hg9 HKP a0 a1 a2 a3 o0 o1 o2 o3
                go_wp2_with fail
                go_meet
                case rel => exact ⟨x, a.mn, true, A8, c8, bo9, v9, by go_num, by omega, by omega, rfl, rfl, Lib.hid (HG9.out)⟩
              · have g0 : ((kk : Int) == 0) = false := by rw [hk0]; rfl
                have g1 : ((kk : Int) == 1) = false := by rw [hk0]; rfl
                have HTK := Lib.hid (fun V => HS7.out.takeHit HAT.out (by omega) HVE.out HEO.out HEQ.out V)
                go_wp2_with fail
                refine (HTK.out _).mono ?_
                rintro en w8 ⟨A8, c8, bo8, rfl, hg8⟩
                have HG8 := Lib.hid hg8
                clear hg8 HTK a0 a1 a2 a3 o0 o1 o2 o3
                have ah := (HG8.out.sta.held (⟨ab, #[.int .u8 (a.kd : Int), .int .u8 (a.dr : Int), .int .i64 a.ep, .int .u8 (a.mn : Int)], 71⟩ : Hb) (by simp)).1
                have a0 := cell_of_blk ah 0
                have a1 := cell_of_blk ah 1
                have a2 := cell_of_blk ah 2
                have a3 := cell_of_blk ah 3
                clear ah
                have oh := (HG8.out.sta.held (⟨ob, #[.int .u8 (o.kd : Int), .int .u8 (o.dr : Int), .int .i64 o.ep, .int .u8 (o.mn : Int)], 71⟩ : Hb) (by simp)).1
                have o0 := cell_of_blk oh 0
                have o1 := cell_of_blk oh 1
                have o2 := cell_of_blk oh 2
                have o3 := cell_of_blk oh 3
                clear oh
                have HEN := Lib.hid (fun w => entries_any o.mn w (by omega))
                go_wp2_with fail
                refine (HEN.out _).mono ?_
                rintro en wE ⟨⟨AE, cE, rfl, heE⟩, hbE⟩
                have HSM := Lib.hid (same_any w.heap.size _ A8 AE c8 cE (entL o.mn) wE (HG8.out.row.later hbE) heE (by rw [entL_len]; omega))
                have HGE := Lib.hid (HG8.out.later hbE)
                clear heE hbE HEN
                go_wp2_with fail
                refine HSM.out.mono ?_
                rintro en wS ⟨rfl, mS, rfl⟩
                have HGS := Lib.hid (HGE.out.later (lca.below_drewN wE mS))
                clear HSM
                clear a0 a1 a2 a3 o0 o1 o2 o3
                go_wp2_with fail
                go_meet
                case rel => exact ⟨x, o.mn, false, A8, c8, bo8, e0, by go_num, by omega, by omega, rfl, rfl, Lib.hid (HGS.out.more (Nat.le_succ _))⟩
          case rest =>
            as_aux_lemma =>
              clear a0 a1 a2 a3 o0 o1 o2 o3
              obtain ⟨x', m, kp, Ag, cg, bo', vv, rfl, hx', hm255, rfl, rfl, HG⟩ := hcut
              obtain ⟨l, hll⟩ : ∃ l, l = entL m := ⟨_, rfl⟩
              have hl5 : l.length < 5 := by rw [hll, entL_len]; omega
              have HLP0 : Hid (Lp w wc Ag cg l 0 wc) := Lib.hid (by rw [hll]; exact Lp.first HG.out.row)
              have HAL : Hid (∀ (j : Nat) (p : ByteArray × Int), l[j]? = some p → p.2 = (m : Int)) := Lib.hid fun j p hp => entL_at (by rw [← hll]; exact hp)
              have HFS : Hid (∀ (i : Nat) (wr : World), Lp w wc Ag cg l i wr → Sta w n r q h bS bM j (j + 1) _ R2 M _ (x' : Int) _ wr) := Lib.hid fun i wr lp => HG.out.sta.lost HG.out.apart (by have := lp.tn; rw [hll] at this; exact this) lp.kept
              rw [← hll]
              clear hll HG
              go_wp2_with fail
              go_loopw [174] (fun v wr => ∃ k : Nat, v = .int .i64 (k : Int) ∧ k ≤ l.length ∧ Hid (Lp w wc Ag cg l k wr)) (fun v _ => l.length - (intOf v).toNat)
              case atStart => exact ⟨0, rfl, Nat.zero_le _, HLP0⟩
              case round =>
                obtain ⟨k, rfl, hk, HLP⟩ := hrel
                have k0 : (0 : Int) ≤ (k : Int) := by omega
                by_cases hkl : k < l.length
                · obtain ⟨p, hp⟩ : ∃ p, l[k]? = some p := ⟨_, List.getElem?_eq_getElem hkl⟩
                  obtain ⟨bg, cs, hAg, _, hh, hc⟩ := HLP.out.at_ k p (Nat.le_refl _) hp
                  have hpm := HAL.out k p hp
                  have k1 : (k : Int) < (l.length : Int) := by omega
                  have c1 : wr.cell? ⟨bg, k * 2 + 1, none⟩ = some (.int .i64 (m : Int)) := (cell_of_blk hh _).trans (hpm ▸ hc)
                  have f1 : wr.frozen? ⟨bg, k * 2 + 1, none⟩ = false := free_of_blk hh _
                  have hw1 : IntKind.i64.wrap ((m : Int) - 1) = (m : Int) - 1 := IntWalk.i64_in _ (by omega)
                  have HST := Lib.hid (fun u => HLP.out.step hp hAg u)
                  subst hAg
                  clear hp hh hc HLP hpm
                  go_wp2_with fail
                  go_roundw
                  case rel => exact ⟨k + 1, by go_num, by omega, Lib.hid (HST.out _)⟩
                  case measure => simp [intOf]; omega
                · have HSF := Lib.hid (HFS.out k wr HLP.out)
                  clear HLP HFS HLP0
                  rcases kp with _ | _
                  · go_wp2_with fail
                    obtain ⟨wz, hwz⟩ : ∃ wz, wz = wr := ⟨_, rfl⟩
                    obtain ⟨C', R', M', c', L', HE⟩ : ∃ C' R' M' c' L', Hid (EndP w n r q h bS bM j i C' R' M' c' L' (x' : Int) wz) := ⟨_, _, _, _, _, Lib.hid (by rw [hwz]; exact EndP.of HCI.out H2.out HTT.out (L' := L2) HK2.out (by rw [set_same H2.out]; exact HSF.out) (by omega) (by omega))⟩
                    rw [← hwz]
                    clear hwz HSF
                    go_upto_region 50 with fail
                    obtain ⟨hsz, hkz, hcz, hrz, hlz⟩ := HE.out
                    have q0 := cell_of_blk hsz.dc.blk 0
                    unfold ptrC at q0
                    obtain ⟨A', c'', q1, _⟩ := hsz.rows.at hrz
                    obtain ⟨lm, hlm⟩ : ∃ lm, lm = L'.length := ⟨_, rfl⟩
                    obtain ⟨mo, hmo⟩ : ∃ mo, mo = mostF (nsOf C') := ⟨_, rfl⟩
                    have hle : mo ≤ r := by
                      rw [hmo]
                      refine most_le _ _ fun z hz => ?_
                      unfold nsOf at hz
                      obtain ⟨d, hd, rfl⟩ := List.mem_map.1 hz
                      obtain ⟨k, hk⟩ := List.mem_iff_getElem?.1 hd
                      have := (hsz.dc.fam.ok k d hk).len
                      rw [hsz.room k d hk] at this
                      exact this
                    have HOF : Hid (∀ m, Calls Try.prog 34 #[.pointer (some ⟨h, 0, none⟩), .string key] (wz.drewN m) fun e w' => e = .returned (.int .i64 (i : Int)) ∧ ∃ n, w' = (wz.drewN m).drewN n) := Lib.hid fun m => by
                      have := lof_any w.heap.size q h C' _ key (wz.drewN m) (hsz.dc.later (lca.below_drewN wz m)) (by rw [hsz.len]; exact n1) (by rw [hsz.len]; exact n2) (by omega)
                      rw [hsz.len, ← HOI.out] at this
                      exact this
                    have HLN : Hid (∀ m, Calls Try.prog 35 #[.pointer (some ⟨h, 0, none⟩), .int .i64 (i : Int)] (wz.drewN m) fun e w' => e = .returned (.int .i64 (lm : Int)) ∧ wz.drewN m = w') := Lib.hid fun m => by
                      have := slen_any w.heap.size h c'.g i (gsOf C') c'.bo c'.r c'.L (wz.drewN m) hsz.dc.shd (gs_at hcz) (hsz.dc.fam.lru _ _ hcz)
                      rw [← hlz, ← hlm] at this
                      exact this
                    have HMS : Hid (∀ m, Calls Try.prog 36 #[.pointer (some ⟨h, 0, none⟩)] (wz.drewN m) fun e w' => e = .returned (.int .i64 (mo : Int)) ∧ wz.drewN m = w') := Lib.hid fun m => by
                      have := lmost_any w.heap.size q h C' _ (wz.drewN m) (hsz.dc.later (lca.below_drewN wz m)) (by rw [hsz.len]; exact n2)
                      rw [← hmo] at this
                      exact this
                    have HMD : Hid (∀ m, Calls Try.prog 37 #[.pointer (some ⟨q, 0, none⟩)] (wz.drewN m) fun e w' => e = .returned (.int .i64 (x' : Int)) ∧ wz.drewN m = w') := Lib.hid fun m => made_any _ _ _ _ _ _ (hsz.dc.later (lca.below_drewN wz m))
                    have gm : ((lm : Int) != (lm : Int)) = false := by simp
                    have gx : ((x' : Int) != (x' : Int)) = false := by simp
                    have gr : ¬ (r : Int) < (mo : Int) := by omega
                    rw [← hlm] at q1
                    clear hsz hkz hcz hrz hlz hlm hmo hle
                    go_quiet ((first
                      | (go_at_call 34; exact Calls.quiet_of (HOF.out _))
                      | (go_at_call 35; exact Calls.quiet_of_same ((HLN.out _).mono fun e w' ⟨h1, h2⟩ => ⟨h1, h2.symm⟩))
                      | (go_at_call 36; exact Calls.quiet_of_same ((HMS.out _).mono fun e w' ⟨h1, h2⟩ => ⟨h1, h2.symm⟩))
                      | (go_at_call 37; exact Calls.quiet_of_same ((HMD.out _).mono fun e w' ⟨h1, h2⟩ => ⟨h1, h2.symm⟩))))
                    go_wp2_with fail
                    go_roundw
                    case rel => exact ⟨j + 1, x', C', R', M', by go_num, by go_num, by omega, by omega, Lib.hid (HE.out.1.later (lca.below_drewN _ _)), Lib.hid HE.out.2.1⟩
                    case measure => simp [intOf]; omega
                  · obtain ⟨A9, c9, hc9, hr9⟩ := HSF.out.rows.at H2.out
                    have HP := Lib.hid (lrr.rput_any w.heap.size c9 A9 L2 key 0 wr hr9 (by omega) r1 (r := r))
                    clear hr9
                    go_wp2_with fail
                    refine HP.out.mono ?_
                    rintro en w10 ⟨v10, rfl, hr10, hb10⟩
                    obtain ⟨A11, c11, rfl, _, _, _⟩ := own_facts hr10
                    have hs10 := HSF.out.later hb10
                    obtain ⟨A10, c10, hc10, _⟩ := hs10.rows.at H2.out
                    have hf10 := hs10.rows.free i
                    have hs11 := hs10.row hil (own_mono hr10 HSF.out.below.size)
                    obtain ⟨W11, hW11⟩ : ∃ W11, W11 = w10.setCell ⟨bS, i, none⟩ (.slice A11 (putL L2 r key 0).length c11) := ⟨_, rfl⟩
                    rw [← hW11] at hs11
                    have HW11 := Lib.hid hW11
                    have HS11 := Lib.hid hs11
                    have HM11 := Lib.hid hs11.map
                    clear hs10 hr10 hb10 hW11 hs11 HP hc9
                    go_upto_region 49 with fail
                    rw [← HW11.out]
                    clear hc10 hf10
                    have ah := (HS11.out.held (⟨ab, #[.int .u8 (a.kd : Int), .int .u8 (a.dr : Int), .int .i64 a.ep, .int .u8 (a.mn : Int)], 71⟩ : Hb) (by simp)).1
                    have a0 := cell_of_blk ah 0
                    have a1 := cell_of_blk ah 1
                    have a2 := cell_of_blk ah 2
                    have a3 := cell_of_blk ah 3
                    clear ah
                    go_wp2_with (at_mapUpdate; refine mpf.wpList_put _ rfl _ _ _ 69 rfl 9 71 Try.underlying9 Try.underlying69 bM j _ rfl HM11.out (by simp only [maxLen]; omega) key (actV a) rfl rfl hks ?_; intro w12 hm12 hg12)
                    have HS12 := Lib.hid (HS11.out.noted hm12 hg12)
                    clear hm12 hg12 HM11 a0 a1 a2 a3
                    have hkk2 : keys (putL L2 r key 0) = keys (putL c.L c.r key vv) := by
                      rw [HS6.out.room i c HCI.out, ← put_get c.L r key vv]
                      exact keys_put HK2.out r key 0 vv
                    obtain ⟨wz, hwz⟩ : ∃ wz, wz = w12 := ⟨_, rfl⟩
                    obtain ⟨C', R', M', c', L', HE⟩ : ∃ C' R' M' c' L', Hid (EndP w n r q h bS bM j i C' R' M' c' L' (x' : Int) wz) := ⟨_, _, _, _, _, Lib.hid (by rw [hwz]; exact EndP.of HCI.out H2.out HTT.out hkk2 HS12.out (by omega) (by omega))⟩
                    rw [← hwz]
                    clear hwz HSF HS11 HS12 hkk2
                    go_upto_region 50 with fail
                    obtain ⟨hsz, hkz, hcz, hrz, hlz⟩ := HE.out
                    have q0 := cell_of_blk hsz.dc.blk 0
                    unfold ptrC at q0
                    obtain ⟨A', c'', q1, _⟩ := hsz.rows.at hrz
                    obtain ⟨lm, hlm⟩ : ∃ lm, lm = L'.length := ⟨_, rfl⟩
                    obtain ⟨mo, hmo⟩ : ∃ mo, mo = mostF (nsOf C') := ⟨_, rfl⟩
                    have hle : mo ≤ r := by
                      rw [hmo]
                      refine most_le _ _ fun z hz => ?_
                      unfold nsOf at hz
                      obtain ⟨d, hd, rfl⟩ := List.mem_map.1 hz
                      obtain ⟨k, hk⟩ := List.mem_iff_getElem?.1 hd
                      have := (hsz.dc.fam.ok k d hk).len
                      rw [hsz.room k d hk] at this
                      exact this
                    have HOF : Hid (∀ m, Calls Try.prog 34 #[.pointer (some ⟨h, 0, none⟩), .string key] (wz.drewN m) fun e w' => e = .returned (.int .i64 (i : Int)) ∧ ∃ n, w' = (wz.drewN m).drewN n) := Lib.hid fun m => by
                      have := lof_any w.heap.size q h C' _ key (wz.drewN m) (hsz.dc.later (lca.below_drewN wz m)) (by rw [hsz.len]; exact n1) (by rw [hsz.len]; exact n2) (by omega)
                      rw [hsz.len, ← HOI.out] at this
                      exact this
                    have HLN : Hid (∀ m, Calls Try.prog 35 #[.pointer (some ⟨h, 0, none⟩), .int .i64 (i : Int)] (wz.drewN m) fun e w' => e = .returned (.int .i64 (lm : Int)) ∧ wz.drewN m = w') := Lib.hid fun m => by
                      have := slen_any w.heap.size h c'.g i (gsOf C') c'.bo c'.r c'.L (wz.drewN m) hsz.dc.shd (gs_at hcz) (hsz.dc.fam.lru _ _ hcz)
                      rw [← hlz, ← hlm] at this
                      exact this
                    have HMS : Hid (∀ m, Calls Try.prog 36 #[.pointer (some ⟨h, 0, none⟩)] (wz.drewN m) fun e w' => e = .returned (.int .i64 (mo : Int)) ∧ wz.drewN m = w') := Lib.hid fun m => by
                      have := lmost_any w.heap.size q h C' _ (wz.drewN m) (hsz.dc.later (lca.below_drewN wz m)) (by rw [hsz.len]; exact n2)
                      rw [← hmo] at this
                      exact this
                    have HMD : Hid (∀ m, Calls Try.prog 37 #[.pointer (some ⟨q, 0, none⟩)] (wz.drewN m) fun e w' => e = .returned (.int .i64 (x' : Int)) ∧ wz.drewN m = w') := Lib.hid fun m => made_any _ _ _ _ _ _ (hsz.dc.later (lca.below_drewN wz m))
                    have gm : ((lm : Int) != (lm : Int)) = false := by simp
                    have gx : ((x' : Int) != (x' : Int)) = false := by simp
                    have gr : ¬ (r : Int) < (mo : Int) := by omega
                    rw [← hlm] at q1
                    clear hsz hkz hcz hrz hlz hlm hmo hle
                    go_quiet ((first
                      | (go_at_call 34; exact Calls.quiet_of (HOF.out _))
                      | (go_at_call 35; exact Calls.quiet_of_same ((HLN.out _).mono fun e w' ⟨h1, h2⟩ => ⟨h1, h2.symm⟩))
                      | (go_at_call 36; exact Calls.quiet_of_same ((HMS.out _).mono fun e w' ⟨h1, h2⟩ => ⟨h1, h2.symm⟩))
                      | (go_at_call 37; exact Calls.quiet_of_same ((HMD.out _).mono fun e w' ⟨h1, h2⟩ => ⟨h1, h2.symm⟩))))
                    go_wp2_with fail
                    go_roundw
                    case rel => exact ⟨j + 1, x', C', R', M', by go_num, by go_num, by omega, by omega, Lib.hid (HE.out.1.later (lca.below_drewN _ _)), Lib.hid HE.out.2.1⟩
                    case measure => simp [intOf]; omega
        · have ge : (o.ep == a.ep) = false := by simp; omega
          have gl : o.ep ≤ a.ep := by omega
          have gd : decide (o.ep ≤ a.ep) = true := by simp; omega
          go_upto_block 2 with fail
          go_cut [10, 18, 19] from 99 to 171 (fun v10 v18 v19 wx => Cutd w n r q h bS bM j i C c key R2 M a x [⟨ob, #[.int .u8 (o.kd : Int), .int .u8 (o.dr : Int), .int .i64 o.ep, .int .u8 (o.mn : Int)], 71⟩, ⟨ab, #[.int .u8 (a.kd : Int), .int .u8 (a.dr : Int), .int .i64 a.ep, .int .u8 (a.mn : Int)], 71⟩] v10 v18 v19 wx)
          case first =>
            as_aux_lemma =>
              rcases HKK.out with hk0 | hk0 | hk0
              · have g0 : ((kk : Int) == 0) = true := by rw [hk0]; rfl
                have HLK := Lib.hid (HS7.out.lookMiss HAT.out (by omega) a.ep (.inr ⟨xe, HVE.out, by rw [HEO.out.ep]; first | omega | exact Int.le_of_eq HEQ.out⟩))
                go_wp2_with fail
                refine HLK.out.mono ?_
                rintro en w8 ⟨bo8, rfl, hg8⟩
                have HG8 := Lib.hid hg8
                clear hg8 HLK
                clear a0 a1 a2 a3 o0 o1 o2 o3
                have ah := (HG8.out.sta.held (⟨ab, #[.int .u8 (a.kd : Int), .int .u8 (a.dr : Int), .int .i64 a.ep, .int .u8 (a.mn : Int)], 71⟩ : Hb) (by simp)).1
                have a0 := cell_of_blk ah 0
                have a1 := cell_of_blk ah 1
                have a2 := cell_of_blk ah 2
                have a3 := cell_of_blk ah 3
                clear ah
                have oh := (HG8.out.sta.held (⟨ob, #[.int .u8 (o.kd : Int), .int .u8 (o.dr : Int), .int .i64 o.ep, .int .u8 (o.mn : Int)], 71⟩ : Hb) (by simp)).1
                have o0 := cell_of_blk oh 0
                have o1 := cell_of_blk oh 1
                have o2 := cell_of_blk oh 2
                have o3 := cell_of_blk oh 3
                clear oh
                go_wp2_with fail
                go_meet
                case rel => exact ⟨x, 0, false, none, 0, bo8, e0, by go_num, by omega, by omega, rfl, rfl, Lib.hid (HG8.out.more (Nat.le_succ _))⟩
              · have g0 : ((kk : Int) == 0) = false := by rw [hk0]; rfl
                have g1 : ((kk : Int) == 1) = true := by rw [hk0]; rfl
                have HEN := Lib.hid (fun w => entries_any a.mn w (by omega))
                go_wp2_with fail
                refine (HEN.out _).mono ?_
                rintro en w8 ⟨⟨A8, c8, rfl, he8⟩, hb8⟩
                have HG8 : Hid (Got w n r q h bS bM j j C R2 M M (x : Int) _ a.mn (.slice A8 (entL a.mn).length c8) w8) := Lib.hid ⟨HS7.out.later hb8, he8.mono HS7.out.below.size, HS7.out.apart he8⟩
                clear he8 hb8 HEN a0 a1 a2 a3 o0 o1 o2 o3
                have ah := (HG8.out.sta.held (⟨ab, #[.int .u8 (a.kd : Int), .int .u8 (a.dr : Int), .int .i64 a.ep, .int .u8 (a.mn : Int)], 71⟩ : Hb) (by simp)).1
                have a0 := cell_of_blk ah 0
                have a1 := cell_of_blk ah 1
                have a2 := cell_of_blk ah 2
                have a3 := cell_of_blk ah 3
                clear ah
                have oh := (HG8.out.sta.held (⟨ob, #[.int .u8 (o.kd : Int), .int .u8 (o.dr : Int), .int .i64 o.ep, .int .u8 (o.mn : Int)], 71⟩ : Hb) (by simp)).1
                have o0 := cell_of_blk oh 0
                have o1 := cell_of_blk oh 1
                have o2 := cell_of_blk oh 2
                have o3 := cell_of_blk oh 3
                clear oh
                have HKP := Lib.hid (HG8.out.keepYes HAT.out (by omega) hmn8 (.inr ⟨xe, HVE.out, by rw [HEO.out.ep]; first | omega | exact Int.le_of_eq HEQ.out⟩))
                go_wp2_with fail
                refine HKP.out.mono ?_
                rintro en w9 ⟨bo9, v9, rfl, hg9⟩
                have HG9 := Lib.hid hg9
                clear hg9 HKP a0 a1 a2 a3 o0 o1 o2 o3
                go_wp2_with fail
                go_meet
                case rel => exact ⟨x, a.mn, true, A8, c8, bo9, v9, by go_num, by omega, by omega, rfl, rfl, Lib.hid (HG9.out)⟩
              · have g0 : ((kk : Int) == 0) = false := by rw [hk0]; rfl
                have g1 : ((kk : Int) == 1) = false := by rw [hk0]; rfl
                have HTK := Lib.hid (HS7.out.takeNew HAT.out (by omega) (by omega) hmn8 ab (HS7.out.held (⟨ab, #[.int .u8 (a.kd : Int), .int .u8 (a.dr : Int), .int .i64 a.ep, .int .u8 (a.mn : Int)], 71⟩ : Hb) (by simp)).1 (.inr ⟨xe, HVE.out, by rw [HEO.out.ep]; first | omega | exact Int.le_of_eq HEQ.out⟩))
                go_wp2_with fail
                refine HTK.out.mono ?_
                rintro en w8 ⟨A8, c8, bo8, v8, rfl, hg8⟩
                have HG8 := Lib.hid hg8
                clear hg8 HTK a0 a1 a2 a3 o0 o1 o2 o3
                have ah := (HG8.out.sta.held (⟨ab, #[.int .u8 (a.kd : Int), .int .u8 (a.dr : Int), .int .i64 a.ep, .int .u8 (a.mn : Int)], 71⟩ : Hb) (by simp)).1
                have a0 := cell_of_blk ah 0
                have a1 := cell_of_blk ah 1
                have a2 := cell_of_blk ah 2
                have a3 := cell_of_blk ah 3
                clear ah
                have oh := (HG8.out.sta.held (⟨ob, #[.int .u8 (o.kd : Int), .int .u8 (o.dr : Int), .int .i64 o.ep, .int .u8 (o.mn : Int)], 71⟩ : Hb) (by simp)).1
                have o0 := cell_of_blk oh 0
                have o1 := cell_of_blk oh 1
                have o2 := cell_of_blk oh 2
                have o3 := cell_of_blk oh 3
                clear oh
                have HEN := Lib.hid (fun w => entries_any a.mn w (by omega))
                go_wp2_with fail
                refine (HEN.out _).mono ?_
                rintro en wE ⟨⟨AE, cE, rfl, heE⟩, hbE⟩
                have HSM := Lib.hid (same_any w.heap.size _ A8 AE c8 cE (entL a.mn) wE (HG8.out.row.later hbE) heE (by rw [entL_len]; omega))
                have HGE := Lib.hid (HG8.out.later hbE)
                clear heE hbE HEN
                go_wp2_with fail
                refine HSM.out.mono ?_
                rintro en wS ⟨rfl, mS, rfl⟩
                have HGS := Lib.hid (HGE.out.later (lca.below_drewN wE mS))
                clear HSM
                clear a0 a1 a2 a3 o0 o1 o2 o3
                go_wp2_with fail
                go_meet
                case rel => exact ⟨x + 1, a.mn, true, A8, c8, bo8, v8, by go_num, by omega, by omega, rfl, rfl, Lib.hid (by push_cast; exact HGS.out)⟩
          case rest =>
            as_aux_lemma =>
              clear a0 a1 a2 a3 o0 o1 o2 o3
              obtain ⟨x', m, kp, Ag, cg, bo', vv, rfl, hx', hm255, rfl, rfl, HG⟩ := hcut
              obtain ⟨l, hll⟩ : ∃ l, l = entL m := ⟨_, rfl⟩
              have hl5 : l.length < 5 := by rw [hll, entL_len]; omega
              have HLP0 : Hid (Lp w wc Ag cg l 0 wc) := Lib.hid (by rw [hll]; exact Lp.first HG.out.row)
              have HAL : Hid (∀ (j : Nat) (p : ByteArray × Int), l[j]? = some p → p.2 = (m : Int)) := Lib.hid fun j p hp => entL_at (by rw [← hll]; exact hp)
              have HFS : Hid (∀ (i : Nat) (wr : World), Lp w wc Ag cg l i wr → Sta w n r q h bS bM j (j + 1) _ R2 M _ (x' : Int) _ wr) := Lib.hid fun i wr lp => HG.out.sta.lost HG.out.apart (by have := lp.tn; rw [hll] at this; exact this) lp.kept
              rw [← hll]
              clear hll HG
              go_wp2_with fail
              go_loopw [174] (fun v wr => ∃ k : Nat, v = .int .i64 (k : Int) ∧ k ≤ l.length ∧ Hid (Lp w wc Ag cg l k wr)) (fun v _ => l.length - (intOf v).toNat)
              case atStart => exact ⟨0, rfl, Nat.zero_le _, HLP0⟩
              case round =>
                obtain ⟨k, rfl, hk, HLP⟩ := hrel
                have k0 : (0 : Int) ≤ (k : Int) := by omega
                by_cases hkl : k < l.length
                · obtain ⟨p, hp⟩ : ∃ p, l[k]? = some p := ⟨_, List.getElem?_eq_getElem hkl⟩
                  obtain ⟨bg, cs, hAg, _, hh, hc⟩ := HLP.out.at_ k p (Nat.le_refl _) hp
                  have hpm := HAL.out k p hp
                  have k1 : (k : Int) < (l.length : Int) := by omega
                  have c1 : wr.cell? ⟨bg, k * 2 + 1, none⟩ = some (.int .i64 (m : Int)) := (cell_of_blk hh _).trans (hpm ▸ hc)
                  have f1 : wr.frozen? ⟨bg, k * 2 + 1, none⟩ = false := free_of_blk hh _
                  have hw1 : IntKind.i64.wrap ((m : Int) - 1) = (m : Int) - 1 := IntWalk.i64_in _ (by omega)
                  have HST := Lib.hid (fun u => HLP.out.step hp hAg u)
                  subst hAg
                  clear hp hh hc HLP hpm
                  go_wp2_with fail
                  go_roundw
                  case rel => exact ⟨k + 1, by go_num, by omega, Lib.hid (HST.out _)⟩
                  case measure => simp [intOf]; omega
                · have HSF := Lib.hid (HFS.out k wr HLP.out)
                  clear HLP HFS HLP0
                  rcases kp with _ | _
                  · go_wp2_with fail
                    obtain ⟨wz, hwz⟩ : ∃ wz, wz = wr := ⟨_, rfl⟩
                    obtain ⟨C', R', M', c', L', HE⟩ : ∃ C' R' M' c' L', Hid (EndP w n r q h bS bM j i C' R' M' c' L' (x' : Int) wz) := ⟨_, _, _, _, _, Lib.hid (by rw [hwz]; exact EndP.of HCI.out H2.out HTT.out (L' := L2) HK2.out (by rw [set_same H2.out]; exact HSF.out) (by omega) (by omega))⟩
                    rw [← hwz]
                    clear hwz HSF
                    go_upto_region 50 with fail
                    obtain ⟨hsz, hkz, hcz, hrz, hlz⟩ := HE.out
                    have q0 := cell_of_blk hsz.dc.blk 0
                    unfold ptrC at q0
                    obtain ⟨A', c'', q1, _⟩ := hsz.rows.at hrz
                    obtain ⟨lm, hlm⟩ : ∃ lm, lm = L'.length := ⟨_, rfl⟩
                    obtain ⟨mo, hmo⟩ : ∃ mo, mo = mostF (nsOf C') := ⟨_, rfl⟩
                    have hle : mo ≤ r := by
                      rw [hmo]
                      refine most_le _ _ fun z hz => ?_
                      unfold nsOf at hz
                      obtain ⟨d, hd, rfl⟩ := List.mem_map.1 hz
                      obtain ⟨k, hk⟩ := List.mem_iff_getElem?.1 hd
                      have := (hsz.dc.fam.ok k d hk).len
                      rw [hsz.room k d hk] at this
                      exact this
                    have HOF : Hid (∀ m, Calls Try.prog 34 #[.pointer (some ⟨h, 0, none⟩), .string key] (wz.drewN m) fun e w' => e = .returned (.int .i64 (i : Int)) ∧ ∃ n, w' = (wz.drewN m).drewN n) := Lib.hid fun m => by
                      have := lof_any w.heap.size q h C' _ key (wz.drewN m) (hsz.dc.later (lca.below_drewN wz m)) (by rw [hsz.len]; exact n1) (by rw [hsz.len]; exact n2) (by omega)
                      rw [hsz.len, ← HOI.out] at this
                      exact this
                    have HLN : Hid (∀ m, Calls Try.prog 35 #[.pointer (some ⟨h, 0, none⟩), .int .i64 (i : Int)] (wz.drewN m) fun e w' => e = .returned (.int .i64 (lm : Int)) ∧ wz.drewN m = w') := Lib.hid fun m => by
                      have := slen_any w.heap.size h c'.g i (gsOf C') c'.bo c'.r c'.L (wz.drewN m) hsz.dc.shd (gs_at hcz) (hsz.dc.fam.lru _ _ hcz)
                      rw [← hlz, ← hlm] at this
                      exact this
                    have HMS : Hid (∀ m, Calls Try.prog 36 #[.pointer (some ⟨h, 0, none⟩)] (wz.drewN m) fun e w' => e = .returned (.int .i64 (mo : Int)) ∧ wz.drewN m = w') := Lib.hid fun m => by
                      have := lmost_any w.heap.size q h C' _ (wz.drewN m) (hsz.dc.later (lca.below_drewN wz m)) (by rw [hsz.len]; exact n2)
                      rw [← hmo] at this
                      exact this
                    have HMD : Hid (∀ m, Calls Try.prog 37 #[.pointer (some ⟨q, 0, none⟩)] (wz.drewN m) fun e w' => e = .returned (.int .i64 (x' : Int)) ∧ wz.drewN m = w') := Lib.hid fun m => made_any _ _ _ _ _ _ (hsz.dc.later (lca.below_drewN wz m))
                    have gm : ((lm : Int) != (lm : Int)) = false := by simp
                    have gx : ((x' : Int) != (x' : Int)) = false := by simp
                    have gr : ¬ (r : Int) < (mo : Int) := by omega
                    rw [← hlm] at q1
                    clear hsz hkz hcz hrz hlz hlm hmo hle
                    go_quiet ((first
                      | (go_at_call 34; exact Calls.quiet_of (HOF.out _))
                      | (go_at_call 35; exact Calls.quiet_of_same ((HLN.out _).mono fun e w' ⟨h1, h2⟩ => ⟨h1, h2.symm⟩))
                      | (go_at_call 36; exact Calls.quiet_of_same ((HMS.out _).mono fun e w' ⟨h1, h2⟩ => ⟨h1, h2.symm⟩))
                      | (go_at_call 37; exact Calls.quiet_of_same ((HMD.out _).mono fun e w' ⟨h1, h2⟩ => ⟨h1, h2.symm⟩))))
                    go_wp2_with fail
                    go_roundw
                    case rel => exact ⟨j + 1, x', C', R', M', by go_num, by go_num, by omega, by omega, Lib.hid (HE.out.1.later (lca.below_drewN _ _)), Lib.hid HE.out.2.1⟩
                    case measure => simp [intOf]; omega
                  · obtain ⟨A9, c9, hc9, hr9⟩ := HSF.out.rows.at H2.out
                    have HP := Lib.hid (lrr.rput_any w.heap.size c9 A9 L2 key 0 wr hr9 (by omega) r1 (r := r))
                    clear hr9
                    go_wp2_with fail
                    refine HP.out.mono ?_
                    rintro en w10 ⟨v10, rfl, hr10, hb10⟩
                    obtain ⟨A11, c11, rfl, _, _, _⟩ := own_facts hr10
                    have hs10 := HSF.out.later hb10
                    obtain ⟨A10, c10, hc10, _⟩ := hs10.rows.at H2.out
                    have hf10 := hs10.rows.free i
                    have hs11 := hs10.row hil (own_mono hr10 HSF.out.below.size)
                    obtain ⟨W11, hW11⟩ : ∃ W11, W11 = w10.setCell ⟨bS, i, none⟩ (.slice A11 (putL L2 r key 0).length c11) := ⟨_, rfl⟩
                    rw [← hW11] at hs11
                    have HW11 := Lib.hid hW11
                    have HS11 := Lib.hid hs11
                    have HM11 := Lib.hid hs11.map
                    clear hs10 hr10 hb10 hW11 hs11 HP hc9
                    go_upto_region 49 with fail
                    rw [← HW11.out]
                    clear hc10 hf10
                    have ah := (HS11.out.held (⟨ab, #[.int .u8 (a.kd : Int), .int .u8 (a.dr : Int), .int .i64 a.ep, .int .u8 (a.mn : Int)], 71⟩ : Hb) (by simp)).1
                    have a0 := cell_of_blk ah 0
                    have a1 := cell_of_blk ah 1
                    have a2 := cell_of_blk ah 2
                    have a3 := cell_of_blk ah 3
                    clear ah
                    go_wp2_with (at_mapUpdate; refine mpf.wpList_put _ rfl _ _ _ 69 rfl 9 71 Try.underlying9 Try.underlying69 bM j _ rfl HM11.out (by simp only [maxLen]; omega) key (actV a) rfl rfl hks ?_; intro w12 hm12 hg12)
                    have HS12 := Lib.hid (HS11.out.noted hm12 hg12)
                    clear hm12 hg12 HM11 a0 a1 a2 a3
                    have hkk2 : keys (putL L2 r key 0) = keys (putL c.L c.r key vv) := by
                      rw [HS6.out.room i c HCI.out, ← put_get c.L r key vv]
                      exact keys_put HK2.out r key 0 vv
                    obtain ⟨wz, hwz⟩ : ∃ wz, wz = w12 := ⟨_, rfl⟩
                    obtain ⟨C', R', M', c', L', HE⟩ : ∃ C' R' M' c' L', Hid (EndP w n r q h bS bM j i C' R' M' c' L' (x' : Int) wz) := ⟨_, _, _, _, _, Lib.hid (by rw [hwz]; exact EndP.of HCI.out H2.out HTT.out hkk2 HS12.out (by omega) (by omega))⟩
                    rw [← hwz]
                    clear hwz HSF HS11 HS12 hkk2
                    go_upto_region 50 with fail
                    obtain ⟨hsz, hkz, hcz, hrz, hlz⟩ := HE.out
                    have q0 := cell_of_blk hsz.dc.blk 0
                    unfold ptrC at q0
                    obtain ⟨A', c'', q1, _⟩ := hsz.rows.at hrz
                    obtain ⟨lm, hlm⟩ : ∃ lm, lm = L'.length := ⟨_, rfl⟩
                    obtain ⟨mo, hmo⟩ : ∃ mo, mo = mostF (nsOf C') := ⟨_, rfl⟩
                    have hle : mo ≤ r := by
                      rw [hmo]
                      refine most_le _ _ fun z hz => ?_
                      unfold nsOf at hz
                      obtain ⟨d, hd, rfl⟩ := List.mem_map.1 hz
                      obtain ⟨k, hk⟩ := List.mem_iff_getElem?.1 hd
                      have := (hsz.dc.fam.ok k d hk).len
                      rw [hsz.room k d hk] at this
                      exact this
                    have HOF : Hid (∀ m, Calls Try.prog 34 #[.pointer (some ⟨h, 0, none⟩), .string key] (wz.drewN m) fun e w' => e = .returned (.int .i64 (i : Int)) ∧ ∃ n, w' = (wz.drewN m).drewN n) := Lib.hid fun m => by
                      have := lof_any w.heap.size q h C' _ key (wz.drewN m) (hsz.dc.later (lca.below_drewN wz m)) (by rw [hsz.len]; exact n1) (by rw [hsz.len]; exact n2) (by omega)
                      rw [hsz.len, ← HOI.out] at this
                      exact this
                    have HLN : Hid (∀ m, Calls Try.prog 35 #[.pointer (some ⟨h, 0, none⟩), .int .i64 (i : Int)] (wz.drewN m) fun e w' => e = .returned (.int .i64 (lm : Int)) ∧ wz.drewN m = w') := Lib.hid fun m => by
                      have := slen_any w.heap.size h c'.g i (gsOf C') c'.bo c'.r c'.L (wz.drewN m) hsz.dc.shd (gs_at hcz) (hsz.dc.fam.lru _ _ hcz)
                      rw [← hlz, ← hlm] at this
                      exact this
                    have HMS : Hid (∀ m, Calls Try.prog 36 #[.pointer (some ⟨h, 0, none⟩)] (wz.drewN m) fun e w' => e = .returned (.int .i64 (mo : Int)) ∧ wz.drewN m = w') := Lib.hid fun m => by
                      have := lmost_any w.heap.size q h C' _ (wz.drewN m) (hsz.dc.later (lca.below_drewN wz m)) (by rw [hsz.len]; exact n2)
                      rw [← hmo] at this
                      exact this
                    have HMD : Hid (∀ m, Calls Try.prog 37 #[.pointer (some ⟨q, 0, none⟩)] (wz.drewN m) fun e w' => e = .returned (.int .i64 (x' : Int)) ∧ wz.drewN m = w') := Lib.hid fun m => made_any _ _ _ _ _ _ (hsz.dc.later (lca.below_drewN wz m))
                    have gm : ((lm : Int) != (lm : Int)) = false := by simp
                    have gx : ((x' : Int) != (x' : Int)) = false := by simp
                    have gr : ¬ (r : Int) < (mo : Int) := by omega
                    rw [← hlm] at q1
                    clear hsz hkz hcz hrz hlz hlm hmo hle
                    go_quiet ((first
                      | (go_at_call 34; exact Calls.quiet_of (HOF.out _))
                      | (go_at_call 35; exact Calls.quiet_of_same ((HLN.out _).mono fun e w' ⟨h1, h2⟩ => ⟨h1, h2.symm⟩))
                      | (go_at_call 36; exact Calls.quiet_of_same ((HMS.out _).mono fun e w' ⟨h1, h2⟩ => ⟨h1, h2.symm⟩))
                      | (go_at_call 37; exact Calls.quiet_of_same ((HMD.out _).mono fun e w' ⟨h1, h2⟩ => ⟨h1, h2.symm⟩))))
                    go_wp2_with fail
                    go_roundw
                    case rel => exact ⟨j + 1, x', C', R', M', by go_num, by go_num, by omega, by omega, Lib.hid (HE.out.1.later (lca.below_drewN _ _)), Lib.hid HE.out.2.1⟩
                    case measure => simp [intOf]; omega
      · have HFI := Lib.hid (lrr.find_no w.heap.size c2 A2 L key w4 HRL.out hno (by omega))
        obtain ⟨o, ho⟩ : ∃ o, o = (M key).getD lca.a0 := ⟨_, rfl⟩
        have HMO : Hid (((M key).map actV).getD (actV lca.a0) = .agg #[.int .u8 (o.kd : Int), .int .u8 (o.dr : Int), .int .i64 o.ep, .int .u8 (o.mn : Int)]) := Lib.hid (by rw [look_is, ← ho]; rfl)
        have HVE := Lib.hid hve
        have hg := get_no hve
        obtain ⟨W6, hW6⟩ : ∃ W6, W6 = w4 := ⟨_, rfl⟩
        have HRR : Hid (∃ R2 L2, Sta w n r q h bS bM j j C R2 M M (x : Int) [⟨ab, #[.int .u8 (a.kd : Int), .int .u8 (a.dr : Int), .int .i64 a.ep, .int .u8 (a.mn : Int)], 71⟩] W6 ∧ R2[i]? = some L2 ∧ keys L2 = keys (getL c.L key) ∧ ∀ (c' : Cc) (L' : List (ByteArray × Int)), keys L' = keys c'.L → Keys (C.set i c') (R2.set i L')) := Lib.hid
          ⟨_, _, by rw [hW6]; exact HS4.out, HL.out, by rw [hg]; exact HKL.out, fun c' L' hk => HKY.out.turn HCI.out hk⟩
        have HW6 := Lib.hid hW6
        clear hno hve ho hg hW6
        go_wp2_with fail
        refine HFI.out.mono ?_
        rintro e wx ⟨rfl, rfl⟩
        go_upto_region 18 with fail
        rw [← HW6.out]
        clear hcL
        obtain ⟨R2, L2, hs6, h2, hk2, hT⟩ := HRR.out
        have HS6 := Lib.hid hs6
        have H2 := Lib.hid h2
        have HK2 := Lib.hid hk2
        have HTT := Lib.hid hT
        have HM6 := Lib.hid hs6.map
        have hl2 : L2.length ≤ 100 := by rw [← len_keys, hk2, len_keys, get_len (hs6.dc.fam.ok i c HCI.out)]; have := hs6.lens i c HCI.out; omega
        clear hs6 h2 hk2 hT HRR
        obtain ⟨W7, hW7⟩ : ∃ W7, W7 = W6.alloc (.cells #[.int .u8 (o.kd : Int), .int .u8 (o.dr : Int), .int .i64 o.ep, .int .u8 (o.mn : Int)] 71) := ⟨_, rfl⟩
        have hb7 : Below W6.heap.size W6 W7 := by rw [hW7]; exact (Below.refl _ _).alloc (Nat.le_refl _) _
        have hk7 : W7.heap[W6.heap.size]? = some (.cells #[.int .u8 (o.kd : Int), .int .u8 (o.dr : Int), .int .i64 o.ep, .int .u8 (o.mn : Int)] 71 (0, 0)) := by rw [hW7]; exact heap_alloc_new W6 _
        have HS7 := Lib.hid ((HS6.out.later hb7).hold hk7 (by unfold DS; decide) ⟨by decide, by decide⟩)
        obtain ⟨ob, hob⟩ : ∃ ob, ob = W6.heap.size := ⟨_, rfl⟩
        rw [← hob] at HS7
        have HOB := Lib.hid hob
        have HW7 := Lib.hid hW7
        clear hb7 hk7 hW7 hob
        go_upto_region 19 with (at_lookup; refine mpf.wpList_look _ rfl _ _ 69 rfl 9 71 Try.underlying9 Try.underlying69 (zeroAct _) bM j _ rfl HM6.out key rfl hks (v := .agg #[.int .u8 (o.kd : Int), .int .u8 (o.dr : Int), .int .i64 o.ep, .int .u8 (o.mn : Int)]) HMO.out ?_)
        rw [← HW7.out, ← HOB.out]
        have ah := (HS7.out.held (⟨ab, #[.int .u8 (a.kd : Int), .int .u8 (a.dr : Int), .int .i64 a.ep, .int .u8 (a.mn : Int)], 71⟩ : Hb) (by simp)).1
        have a0 := cell_of_blk ah 0
        have a1 := cell_of_blk ah 1
        have a2 := cell_of_blk ah 2
        have a3 := cell_of_blk ah 3
        clear ah
        have oh := (HS7.out.held (⟨ob, #[.int .u8 (o.kd : Int), .int .u8 (o.dr : Int), .int .i64 o.ep, .int .u8 (o.mn : Int)], 71⟩ : Hb) (by simp)).1
        have o0 := cell_of_blk oh 0
        have o1 := cell_of_blk oh 1
        have o2 := cell_of_blk oh 2
        have o3 := cell_of_blk oh 3
        clear oh
        go_upto_block 2 with fail
        go_cut [10, 18, 19] from 99 to 171 (fun v10 v18 v19 wx => Cutd w n r q h bS bM j i C c key R2 M a x [⟨ob, #[.int .u8 (o.kd : Int), .int .u8 (o.dr : Int), .int .i64 o.ep, .int .u8 (o.mn : Int)], 71⟩, ⟨ab, #[.int .u8 (a.kd : Int), .int .u8 (a.dr : Int), .int .i64 a.ep, .int .u8 (a.mn : Int)], 71⟩] v10 v18 v19 wx)
        case first =>
          as_aux_lemma =>
            rcases HKK.out with hk0 | hk0 | hk0
            · have g0 : ((kk : Int) == 0) = true := by rw [hk0]; rfl
              have HLK := Lib.hid (HS7.out.lookMiss HAT.out (by omega) a.ep (.inl HVE.out))
              go_wp2_with fail
              refine HLK.out.mono ?_
              rintro en w8 ⟨bo8, rfl, hg8⟩
              have HG8 := Lib.hid hg8
              clear hg8 HLK
              clear a0 a1 a2 a3 o0 o1 o2 o3
              have ah := (HG8.out.sta.held (⟨ab, #[.int .u8 (a.kd : Int), .int .u8 (a.dr : Int), .int .i64 a.ep, .int .u8 (a.mn : Int)], 71⟩ : Hb) (by simp)).1
              have a0 := cell_of_blk ah 0
              have a1 := cell_of_blk ah 1
              have a2 := cell_of_blk ah 2
              have a3 := cell_of_blk ah 3
              clear ah
              have oh := (HG8.out.sta.held (⟨ob, #[.int .u8 (o.kd : Int), .int .u8 (o.dr : Int), .int .i64 o.ep, .int .u8 (o.mn : Int)], 71⟩ : Hb) (by simp)).1
              have o0 := cell_of_blk oh 0
              have o1 := cell_of_blk oh 1
              have o2 := cell_of_blk oh 2
              have o3 := cell_of_blk oh 3
              clear oh
              go_wp2_with fail
              go_meet
              case rel => exact ⟨x, 0, false, none, 0, bo8, e0, by go_num, by omega, by omega, rfl, rfl, Lib.hid (HG8.out.more (Nat.le_succ _))⟩
            · have g0 : ((kk : Int) == 0) = false := by rw [hk0]; rfl
              have g1 : ((kk : Int) == 1) = true := by rw [hk0]; rfl
              have HEN := Lib.hid (fun w => entries_any a.mn w (by omega))
              go_wp2_with fail
              refine (HEN.out _).mono ?_
              rintro en w8 ⟨⟨A8, c8, rfl, he8⟩, hb8⟩
              have HG8 : Hid (Got w n r q h bS bM j j C R2 M M (x : Int) _ a.mn (.slice A8 (entL a.mn).length c8) w8) := Lib.hid ⟨HS7.out.later hb8, he8.mono HS7.out.below.size, HS7.out.apart he8⟩
              clear he8 hb8 HEN a0 a1 a2 a3 o0 o1 o2 o3
              have ah := (HG8.out.sta.held (⟨ab, #[.int .u8 (a.kd : Int), .int .u8 (a.dr : Int), .int .i64 a.ep, .int .u8 (a.mn : Int)], 71⟩ : Hb) (by simp)).1
              have a0 := cell_of_blk ah 0
              have a1 := cell_of_blk ah 1
              have a2 := cell_of_blk ah 2
              have a3 := cell_of_blk ah 3
              clear ah
              have oh := (HG8.out.sta.held (⟨ob, #[.int .u8 (o.kd : Int), .int .u8 (o.dr : Int), .int .i64 o.ep, .int .u8 (o.mn : Int)], 71⟩ : Hb) (by simp)).1
              have o0 := cell_of_blk oh 0
              have o1 := cell_of_blk oh 1
              have o2 := cell_of_blk oh 2
              have o3 := cell_of_blk oh 3
              clear oh
              have HKP := Lib.hid (HG8.out.keepYes HAT.out (by omega) hmn8 (.inl HVE.out))
              go_wp2_with fail
              refine HKP.out.mono ?_
              rintro en w9 ⟨bo9, v9, rfl, hg9⟩
              have HG9 := Lib.hid hg9
              clear hg9 HKP a0 a1 a2 a3 o0 o1 o2 o3
              go_wp2_with fail
              go_meet
              case rel => exact ⟨x, a.mn, true, A8, c8, bo9, v9, by go_num, by omega, by omega, rfl, rfl, Lib.hid (HG9.out)⟩
            · have g0 : ((kk : Int) == 0) = false := by rw [hk0]; rfl
              have g1 : ((kk : Int) == 1) = false := by rw [hk0]; rfl
              have HTK := Lib.hid (HS7.out.takeNew HAT.out (by omega) (by omega) hmn8 ab (HS7.out.held (⟨ab, #[.int .u8 (a.kd : Int), .int .u8 (a.dr : Int), .int .i64 a.ep, .int .u8 (a.mn : Int)], 71⟩ : Hb) (by simp)).1 (.inl HVE.out))
              go_wp2_with fail
              refine HTK.out.mono ?_
              rintro en w8 ⟨A8, c8, bo8, v8, rfl, hg8⟩
              have HG8 := Lib.hid hg8
              clear hg8 HTK a0 a1 a2 a3 o0 o1 o2 o3
              have ah := (HG8.out.sta.held (⟨ab, #[.int .u8 (a.kd : Int), .int .u8 (a.dr : Int), .int .i64 a.ep, .int .u8 (a.mn : Int)], 71⟩ : Hb) (by simp)).1
              have a0 := cell_of_blk ah 0
              have a1 := cell_of_blk ah 1
              have a2 := cell_of_blk ah 2
              have a3 := cell_of_blk ah 3
              clear ah
              have oh := (HG8.out.sta.held (⟨ob, #[.int .u8 (o.kd : Int), .int .u8 (o.dr : Int), .int .i64 o.ep, .int .u8 (o.mn : Int)], 71⟩ : Hb) (by simp)).1
              have o0 := cell_of_blk oh 0
              have o1 := cell_of_blk oh 1
              have o2 := cell_of_blk oh 2
              have o3 := cell_of_blk oh 3
              clear oh
              have HEN := Lib.hid (fun w => entries_any a.mn w (by omega))
              go_wp2_with fail
              refine (HEN.out _).mono ?_
              rintro en wE ⟨⟨AE, cE, rfl, heE⟩, hbE⟩
              have HSM := Lib.hid (same_any w.heap.size _ A8 AE c8 cE (entL a.mn) wE (HG8.out.row.later hbE) heE (by rw [entL_len]; omega))
              have HGE := Lib.hid (HG8.out.later hbE)
              clear heE hbE HEN
              go_wp2_with fail
              refine HSM.out.mono ?_
              rintro en wS ⟨rfl, mS, rfl⟩
              have HGS := Lib.hid (HGE.out.later (lca.below_drewN wE mS))
              clear HSM
              clear a0 a1 a2 a3 o0 o1 o2 o3
              go_wp2_with fail
              go_meet
              case rel => exact ⟨x + 1, a.mn, true, A8, c8, bo8, v8, by go_num, by omega, by omega, rfl, rfl, Lib.hid (by push_cast; exact HGS.out)⟩
        case rest =>
          as_aux_lemma =>
            clear a0 a1 a2 a3 o0 o1 o2 o3
            obtain ⟨x', m, kp, Ag, cg, bo', vv, rfl, hx', hm255, rfl, rfl, HG⟩ := hcut
            obtain ⟨l, hll⟩ : ∃ l, l = entL m := ⟨_, rfl⟩
            have hl5 : l.length < 5 := by rw [hll, entL_len]; omega
            have HLP0 : Hid (Lp w wc Ag cg l 0 wc) := Lib.hid (by rw [hll]; exact Lp.first HG.out.row)
            have HAL : Hid (∀ (j : Nat) (p : ByteArray × Int), l[j]? = some p → p.2 = (m : Int)) := Lib.hid fun j p hp => entL_at (by rw [← hll]; exact hp)
            have HFS : Hid (∀ (i : Nat) (wr : World), Lp w wc Ag cg l i wr → Sta w n r q h bS bM j (j + 1) _ R2 M _ (x' : Int) _ wr) := Lib.hid fun i wr lp => HG.out.sta.lost HG.out.apart (by have := lp.tn; rw [hll] at this; exact this) lp.kept
            rw [← hll]
            clear hll HG
            go_wp2_with fail
            go_loopw [174] (fun v wr => ∃ k : Nat, v = .int .i64 (k : Int) ∧ k ≤ l.length ∧ Hid (Lp w wc Ag cg l k wr)) (fun v _ => l.length - (intOf v).toNat)
            case atStart => exact ⟨0, rfl, Nat.zero_le _, HLP0⟩
            case round =>
              obtain ⟨k, rfl, hk, HLP⟩ := hrel
              have k0 : (0 : Int) ≤ (k : Int) := by omega
              by_cases hkl : k < l.length
              · obtain ⟨p, hp⟩ : ∃ p, l[k]? = some p := ⟨_, List.getElem?_eq_getElem hkl⟩
                obtain ⟨bg, cs, hAg, _, hh, hc⟩ := HLP.out.at_ k p (Nat.le_refl _) hp
                have hpm := HAL.out k p hp
                have k1 : (k : Int) < (l.length : Int) := by omega
                have c1 : wr.cell? ⟨bg, k * 2 + 1, none⟩ = some (.int .i64 (m : Int)) := (cell_of_blk hh _).trans (hpm ▸ hc)
                have f1 : wr.frozen? ⟨bg, k * 2 + 1, none⟩ = false := free_of_blk hh _
                have hw1 : IntKind.i64.wrap ((m : Int) - 1) = (m : Int) - 1 := IntWalk.i64_in _ (by omega)
                have HST := Lib.hid (fun u => HLP.out.step hp hAg u)
                subst hAg
                clear hp hh hc HLP hpm
                go_wp2_with fail
                go_roundw
                case rel => exact ⟨k + 1, by go_num, by omega, Lib.hid (HST.out _)⟩
                case measure => simp [intOf]; omega
              · have HSF := Lib.hid (HFS.out k wr HLP.out)
                clear HLP HFS HLP0
                rcases kp with _ | _
                · go_wp2_with fail
                  obtain ⟨wz, hwz⟩ : ∃ wz, wz = wr := ⟨_, rfl⟩
                  obtain ⟨C', R', M', c', L', HE⟩ : ∃ C' R' M' c' L', Hid (EndP w n r q h bS bM j i C' R' M' c' L' (x' : Int) wz) := ⟨_, _, _, _, _, Lib.hid (by rw [hwz]; exact EndP.of HCI.out H2.out HTT.out (L' := L2) HK2.out (by rw [set_same H2.out]; exact HSF.out) (by omega) (by omega))⟩
                  rw [← hwz]
                  clear hwz HSF
                  go_upto_region 50 with fail
                  obtain ⟨hsz, hkz, hcz, hrz, hlz⟩ := HE.out
                  have q0 := cell_of_blk hsz.dc.blk 0
                  unfold ptrC at q0
                  obtain ⟨A', c'', q1, _⟩ := hsz.rows.at hrz
                  obtain ⟨lm, hlm⟩ : ∃ lm, lm = L'.length := ⟨_, rfl⟩
                  obtain ⟨mo, hmo⟩ : ∃ mo, mo = mostF (nsOf C') := ⟨_, rfl⟩
                  have hle : mo ≤ r := by
                    rw [hmo]
                    refine most_le _ _ fun z hz => ?_
                    unfold nsOf at hz
                    obtain ⟨d, hd, rfl⟩ := List.mem_map.1 hz
                    obtain ⟨k, hk⟩ := List.mem_iff_getElem?.1 hd
                    have := (hsz.dc.fam.ok k d hk).len
                    rw [hsz.room k d hk] at this
                    exact this
                  have HOF : Hid (∀ m, Calls Try.prog 34 #[.pointer (some ⟨h, 0, none⟩), .string key] (wz.drewN m) fun e w' => e = .returned (.int .i64 (i : Int)) ∧ ∃ n, w' = (wz.drewN m).drewN n) := Lib.hid fun m => by
                    have := lof_any w.heap.size q h C' _ key (wz.drewN m) (hsz.dc.later (lca.below_drewN wz m)) (by rw [hsz.len]; exact n1) (by rw [hsz.len]; exact n2) (by omega)
                    rw [hsz.len, ← HOI.out] at this
                    exact this
                  have HLN : Hid (∀ m, Calls Try.prog 35 #[.pointer (some ⟨h, 0, none⟩), .int .i64 (i : Int)] (wz.drewN m) fun e w' => e = .returned (.int .i64 (lm : Int)) ∧ wz.drewN m = w') := Lib.hid fun m => by
                    have := slen_any w.heap.size h c'.g i (gsOf C') c'.bo c'.r c'.L (wz.drewN m) hsz.dc.shd (gs_at hcz) (hsz.dc.fam.lru _ _ hcz)
                    rw [← hlz, ← hlm] at this
                    exact this
                  have HMS : Hid (∀ m, Calls Try.prog 36 #[.pointer (some ⟨h, 0, none⟩)] (wz.drewN m) fun e w' => e = .returned (.int .i64 (mo : Int)) ∧ wz.drewN m = w') := Lib.hid fun m => by
                    have := lmost_any w.heap.size q h C' _ (wz.drewN m) (hsz.dc.later (lca.below_drewN wz m)) (by rw [hsz.len]; exact n2)
                    rw [← hmo] at this
                    exact this
                  have HMD : Hid (∀ m, Calls Try.prog 37 #[.pointer (some ⟨q, 0, none⟩)] (wz.drewN m) fun e w' => e = .returned (.int .i64 (x' : Int)) ∧ wz.drewN m = w') := Lib.hid fun m => made_any _ _ _ _ _ _ (hsz.dc.later (lca.below_drewN wz m))
                  have gm : ((lm : Int) != (lm : Int)) = false := by simp
                  have gx : ((x' : Int) != (x' : Int)) = false := by simp
                  have gr : ¬ (r : Int) < (mo : Int) := by omega
                  rw [← hlm] at q1
                  clear hsz hkz hcz hrz hlz hlm hmo hle
                  go_quiet ((first
                    | (go_at_call 34; exact Calls.quiet_of (HOF.out _))
                    | (go_at_call 35; exact Calls.quiet_of_same ((HLN.out _).mono fun e w' ⟨h1, h2⟩ => ⟨h1, h2.symm⟩))
                    | (go_at_call 36; exact Calls.quiet_of_same ((HMS.out _).mono fun e w' ⟨h1, h2⟩ => ⟨h1, h2.symm⟩))
                    | (go_at_call 37; exact Calls.quiet_of_same ((HMD.out _).mono fun e w' ⟨h1, h2⟩ => ⟨h1, h2.symm⟩))))
                  go_wp2_with fail
                  go_roundw
                  case rel => exact ⟨j + 1, x', C', R', M', by go_num, by go_num, by omega, by omega, Lib.hid (HE.out.1.later (lca.below_drewN _ _)), Lib.hid HE.out.2.1⟩
                  case measure => simp [intOf]; omega
                · obtain ⟨A9, c9, hc9, hr9⟩ := HSF.out.rows.at H2.out
                  have HP := Lib.hid (lrr.rput_any w.heap.size c9 A9 L2 key 0 wr hr9 (by omega) r1 (r := r))
                  clear hr9
                  go_wp2_with fail
                  refine HP.out.mono ?_
                  rintro en w10 ⟨v10, rfl, hr10, hb10⟩
                  obtain ⟨A11, c11, rfl, _, _, _⟩ := own_facts hr10
                  have hs10 := HSF.out.later hb10
                  obtain ⟨A10, c10, hc10, _⟩ := hs10.rows.at H2.out
                  have hf10 := hs10.rows.free i
                  have hs11 := hs10.row hil (own_mono hr10 HSF.out.below.size)
                  obtain ⟨W11, hW11⟩ : ∃ W11, W11 = w10.setCell ⟨bS, i, none⟩ (.slice A11 (putL L2 r key 0).length c11) := ⟨_, rfl⟩
                  rw [← hW11] at hs11
                  have HW11 := Lib.hid hW11
                  have HS11 := Lib.hid hs11
                  have HM11 := Lib.hid hs11.map
                  clear hs10 hr10 hb10 hW11 hs11 HP hc9
                  go_upto_region 49 with fail
                  rw [← HW11.out]
                  clear hc10 hf10
                  have ah := (HS11.out.held (⟨ab, #[.int .u8 (a.kd : Int), .int .u8 (a.dr : Int), .int .i64 a.ep, .int .u8 (a.mn : Int)], 71⟩ : Hb) (by simp)).1
                  have a0 := cell_of_blk ah 0
                  have a1 := cell_of_blk ah 1
                  have a2 := cell_of_blk ah 2
                  have a3 := cell_of_blk ah 3
                  clear ah
                  go_wp2_with (at_mapUpdate; refine mpf.wpList_put _ rfl _ _ _ 69 rfl 9 71 Try.underlying9 Try.underlying69 bM j _ rfl HM11.out (by simp only [maxLen]; omega) key (actV a) rfl rfl hks ?_; intro w12 hm12 hg12)
                  have HS12 := Lib.hid (HS11.out.noted hm12 hg12)
                  clear hm12 hg12 HM11 a0 a1 a2 a3
                  have hkk2 : keys (putL L2 r key 0) = keys (putL c.L c.r key vv) := by
                    rw [HS6.out.room i c HCI.out, ← put_get c.L r key vv]
                    exact keys_put HK2.out r key 0 vv
                  obtain ⟨wz, hwz⟩ : ∃ wz, wz = w12 := ⟨_, rfl⟩
                  obtain ⟨C', R', M', c', L', HE⟩ : ∃ C' R' M' c' L', Hid (EndP w n r q h bS bM j i C' R' M' c' L' (x' : Int) wz) := ⟨_, _, _, _, _, Lib.hid (by rw [hwz]; exact EndP.of HCI.out H2.out HTT.out hkk2 HS12.out (by omega) (by omega))⟩
                  rw [← hwz]
                  clear hwz HSF HS11 HS12 hkk2
                  go_upto_region 50 with fail
                  obtain ⟨hsz, hkz, hcz, hrz, hlz⟩ := HE.out
                  have q0 := cell_of_blk hsz.dc.blk 0
                  unfold ptrC at q0
                  obtain ⟨A', c'', q1, _⟩ := hsz.rows.at hrz
                  obtain ⟨lm, hlm⟩ : ∃ lm, lm = L'.length := ⟨_, rfl⟩
                  obtain ⟨mo, hmo⟩ : ∃ mo, mo = mostF (nsOf C') := ⟨_, rfl⟩
                  have hle : mo ≤ r := by
                    rw [hmo]
                    refine most_le _ _ fun z hz => ?_
                    unfold nsOf at hz
                    obtain ⟨d, hd, rfl⟩ := List.mem_map.1 hz
                    obtain ⟨k, hk⟩ := List.mem_iff_getElem?.1 hd
                    have := (hsz.dc.fam.ok k d hk).len
                    rw [hsz.room k d hk] at this
                    exact this
                  have HOF : Hid (∀ m, Calls Try.prog 34 #[.pointer (some ⟨h, 0, none⟩), .string key] (wz.drewN m) fun e w' => e = .returned (.int .i64 (i : Int)) ∧ ∃ n, w' = (wz.drewN m).drewN n) := Lib.hid fun m => by
                    have := lof_any w.heap.size q h C' _ key (wz.drewN m) (hsz.dc.later (lca.below_drewN wz m)) (by rw [hsz.len]; exact n1) (by rw [hsz.len]; exact n2) (by omega)
                    rw [hsz.len, ← HOI.out] at this
                    exact this
                  have HLN : Hid (∀ m, Calls Try.prog 35 #[.pointer (some ⟨h, 0, none⟩), .int .i64 (i : Int)] (wz.drewN m) fun e w' => e = .returned (.int .i64 (lm : Int)) ∧ wz.drewN m = w') := Lib.hid fun m => by
                    have := slen_any w.heap.size h c'.g i (gsOf C') c'.bo c'.r c'.L (wz.drewN m) hsz.dc.shd (gs_at hcz) (hsz.dc.fam.lru _ _ hcz)
                    rw [← hlz, ← hlm] at this
                    exact this
                  have HMS : Hid (∀ m, Calls Try.prog 36 #[.pointer (some ⟨h, 0, none⟩)] (wz.drewN m) fun e w' => e = .returned (.int .i64 (mo : Int)) ∧ wz.drewN m = w') := Lib.hid fun m => by
                    have := lmost_any w.heap.size q h C' _ (wz.drewN m) (hsz.dc.later (lca.below_drewN wz m)) (by rw [hsz.len]; exact n2)
                    rw [← hmo] at this
                    exact this
                  have HMD : Hid (∀ m, Calls Try.prog 37 #[.pointer (some ⟨q, 0, none⟩)] (wz.drewN m) fun e w' => e = .returned (.int .i64 (x' : Int)) ∧ wz.drewN m = w') := Lib.hid fun m => made_any _ _ _ _ _ _ (hsz.dc.later (lca.below_drewN wz m))
                  have gm : ((lm : Int) != (lm : Int)) = false := by simp
                  have gx : ((x' : Int) != (x' : Int)) = false := by simp
                  have gr : ¬ (r : Int) < (mo : Int) := by omega
                  rw [← hlm] at q1
                  clear hsz hkz hcz hrz hlz hlm hmo hle
                  go_quiet ((first
                    | (go_at_call 34; exact Calls.quiet_of (HOF.out _))
                    | (go_at_call 35; exact Calls.quiet_of_same ((HLN.out _).mono fun e w' ⟨h1, h2⟩ => ⟨h1, h2.symm⟩))
                    | (go_at_call 36; exact Calls.quiet_of_same ((HMS.out _).mono fun e w' ⟨h1, h2⟩ => ⟨h1, h2.symm⟩))
                    | (go_at_call 37; exact Calls.quiet_of_same ((HMD.out _).mono fun e w' ⟨h1, h2⟩ => ⟨h1, h2.symm⟩))))
                  go_wp2_with fail
                  go_roundw
                  case rel => exact ⟨j + 1, x', C', R', M', by go_num, by go_num, by omega, by omega, Lib.hid (HE.out.1.later (lca.below_drewN _ _)), Lib.hid HE.out.2.1⟩
                  case measure => simp [intOf]; omega
    · have c0 := cell_of_blk HS.out.dc.blk 0
      unfold ptrC at c0
      have gn : ((n : Int) == (n : Int)) = true := by simp
      have HMY : Hid (Calls Try.prog 38 #[.pointer (some ⟨h, 0, none⟩)] wr fun e w' => e = .returned (.int .i64 (n : Int)) ∧ wr = w') := Lib.hid (by
        have := many_any w.heap.size h (gsOf C) wr HS.out.dc.shd
        rw [gs_len, HS.out.len] at this
        exact this)
      have HF := Lib.hid (HBW.out.trans (HS.out.below.mono HBW.out.size))
      clear HS
      go_wp2_with fail
      refine HMY.out.mono ?_
      rintro e w6 ⟨rfl, rfl⟩
      go_wp2_with fail
      go_ret
      exact ⟨rfl, HF.out⟩
end Go.Proofs.Ythhcbmljckgncaa.ldo
