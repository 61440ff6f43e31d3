/- DcacheDoes: true. Condition: what is asked lies in memory. -/
import Derived.Test.YthhcbmljckgncaaDdoMath
namespace Go.Proofs.Ythhcbmljckgncaa.ddo
set_option maxRecDepth 100000
open Go.RowKit Go.Proofs.Ythhcbmljckgncaa.words Go.Proofs.Ythhcbmljckgncaa.lru Go.Proofs.Ythhcbmljckgncaa.sha Go.Proofs.Ythhcbmljckgncaa.lrd Go.Proofs.Ythhcbmljckgncaa.shd Go.Proofs.Ythhcbmljckgncaa.dca Go.Proofs.Ythhcbmljckgncaa.mpf

theorem infoSlc : (Try.prog.info? 38).map (fun i => (i.zero, i.size, i.bytes)) = some (some (.slice none 0 0), 1, 24) := by kernel_rfl
theorem ents_news {w : World} {gs : List Nat} {r n : Nat} (M : ByteArray → Option Act15) : Ents w n (news gs r) M := fun i c k xe hc hm => by
  unfold news at hc
  rw [List.getElem?_map] at hc
  rcases hg : gs[i]? with _ | g
  · rw [hg] at hc; cases hc
  · rw [hg] at hc
    injection hc with hc
    subst hc
    cases hm
theorem rows_new (w : World) (n B : Nat) (hB : B ≤ w.heap.size) : Rows (w.alloc (.cells (madeCells #[.slice none 0 0] n) 38)) B w.heap.size (List.replicate n []) := by
  refine ⟨hB, _, heap_alloc_new w _, ?_, fun i L hL => ?_⟩
  · rw [← Array.length_toList, toList_madeCells_one, List.length_replicate, List.length_replicate]
  · rw [List.getElem?_replicate] at hL
    split at hL
    · rename_i hi
      injection hL with hL
      subst hL
      refine ⟨none, 0, ?_, World.ownsRow_nil _ _ _ _⟩
      rw [← Array.getElem?_toList, toList_madeCells_one, List.getElem?_replicate, if_pos hi]
      rfl
    · cases hL
theorem keys_new (gs : List Nat) (r : Nat) : Keys (news gs r) (List.replicate gs.length []) := fun i c hc => by
  unfold news at hc
  rw [List.getElem?_map] at hc
  rcases hg : gs[i]? with _ | g
  · rw [hg] at hc; cases hc
  · rw [hg] at hc
    injection hc with hc
    subst hc
    exact ⟨[], by rw [List.getElem?_replicate, if_pos (List.getElem?_eq_some_iff.1 hg).1], rfl⟩
theorem look_is (f : ByteArray → Option Act15) (k : ByteArray) : ((f k).map actV).getD (actV dca.a0) = actV ((f k).getD dca.a0) := by
  rcases f k with _ | a <;> rfl
theorem zeroAct (w : World) : (zeroValue 30).run Try.prog w = .ok (actV dca.a0) w := by kernel_rfl

/-- A round's end. -/
def EndP (w : World) (n r q h bS bM j i : Nat) (C : List Cc) (R : List (List (ByteArray × Int))) (M : ByteArray → Option Act15) (c : Cc) (L : List (ByteArray × Int)) (x y : Int) (wz : World) : Prop :=
  Sta w n r q h bS bM (j + 1) (j + 1) C R M M x y [] wz ∧ Keys C R ∧ C[i]? = some c ∧ R[i]? = some L ∧ L.length = c.L.length
theorem EndP.of {w wz : World} {n r q h bS bM j i : Nat} {C : List Cc} {R2 : List (List (ByteArray × Int))} {M : ByteArray → Option Act15} {c c' : Cc} {L2 L' : List (ByteArray × Int)} {x y : Int} {K : List Hb} {jm jl : Nat} (hi : C[i]? = some c) (h2 : R2[i]? = some L2)
    (hT : ∀ (c' : Cc) (L' : List (ByteArray × Int)), keys L' = keys c'.L → Keys (C.set i c') (R2.set i L')) (hk : keys L' = keys c'.L) (hs : Sta w n r q h bS bM jm jl (C.set i c') (R2.set i L') M M x y K wz) (h3 : jm ≤ j + 1) (h4 : jl ≤ j + 1) :
    EndP w n r q h bS bM j i (C.set i c') (R2.set i L') M c' L' x y wz :=
  ⟨(hs.more h3 h4).drop, hT c' L' hk, by rw [List.getElem?_set, if_pos rfl, if_pos (List.getElem?_eq_some_iff.1 hi).1], by rw [List.getElem?_set, if_pos rfl, if_pos (List.getElem?_eq_some_iff.1 h2).1], by rw [← len_keys, hk, len_keys]⟩

set_option maxHeartbeats 25600000 in
theorem law_does (many room : Int) (A : Option Addr) (c : Nat) (T : List Act15) (w0 : World) (hT : Act15s w0 w0.heap.size A T) (hsz : ∀ y ∈ T, y.fine) (hlen : T.length ≤ 9223372036854775807) (_hm : pln.big many) (_hr : pln.big room) :
    Calls Try.prog 3 #[.agg #[.int .i64 many, .int .i64 room], .slice A T.length c] w0 (dca.Told w0) := by
  obtain ⟨n, hn⟩ : ∃ n : Nat, (n : Int) = min (max many 1) 256 := ⟨(min (max many 1) 256).toNat, by omega⟩
  obtain ⟨r, hrr⟩ : ∃ r : Nat, (r : Int) = max room 1 := ⟨(max room 1).toNat, by omega⟩
  have n1 : 0 < n := by omega
  have n2 : n ≤ 256 := by omega
  have r1 : 1 ≤ r := by omega
  have hmm := @run_makeMap Try.prog
  obtain ⟨iS, hiS, zS0, zS1, zS2⟩ := info_three infoSlc
  have hmk : ∀ u : World, (Instr.makeSlice 27 (.int .i64 (n : Int)) (.int .i64 (n : Int))).run Try.prog u =
      .ok (.slice (some ⟨u.heap.size, 0, none⟩) n n) (u.alloc (.cells (madeCells #[.slice none 0 0] n) 38)) := fun u => by
    have h := run_make (P := Try.prog) u 27 38 iS (.slice none 0 0) Try.underlying27 hiS zS0 .i64 .i64 (n : Int) (n : Int) (by omega) (Int.le_refl _) (by rw [zS2]; omega) (by omega)
    simpa [zS1, Value.cells] using h
  obtain ⟨MC, hMC⟩ : ∃ MC, MC = madeCells #[.slice none 0 0] n := ⟨_, rfl⟩
  rw [← hMC] at hmk
  have HMC := Lib.hid hMC
  obtain ⟨wA, hw⟩ : ∃ wA, wA = w0.alloc (.cells #[.int .i64 many, .int .i64 room] 22) := ⟨_, rfl⟩
  have hb0 : Below w0.heap.size w0 wA := by rw [hw]; exact (Below.refl _ _).alloc (Nat.le_refl _) _
  have hk0 : wA.heap[w0.heap.size]? = some (.cells #[.int .i64 many, .int .i64 room] 22 (0, 0)) := by rw [hw]; exact heap_alloc_new w0 _
  have HBX := Lib.hid (fun (wr : World) (hb : Below wA.heap.size wA wr) => (show wr.cell? ⟨w0.heap.size, 0, none⟩ = some (.int .i64 many) ∧ wr.cell? ⟨w0.heap.size, 1, none⟩ = some (.int .i64 room) from by
    have h := (hb.block _ (lt_of_some hk0)).trans hk0
    exact ⟨cell_of_blk h 0, cell_of_blk h 1⟩))
  have HT := Lib.hid hT
  have HSZ := Lib.hid hsz
  have HB0 := Lib.hid hb0
  have HW := Lib.hid hw
  have HC0 := Lib.hid (speaks_any wA)
  have HN := Lib.hid (fun w => dnew_any n r many room w hn hrr)
  have hmx : max room 1 = (r : Int) := hrr.symm
  have hmn : min (max many 1) 256 = (n : Int) := hn.symm
  clear hT hsz hn hrr hw hb0 hk0 hMC hiS zS0 zS1 zS2
  go_enter Try.func3, Try.ntmps3
  go_upto_region 1 with fail
  rw [← HW.out]
  go_wp2_with fail
  refine HC0.out.mono ?_
  rintro e w ⟨rfl, hb1⟩
  have HB1 := Lib.hid hb1
  have HBW := Lib.hid (HB0.out.trans (hb1.mono HB0.out.size))
  clear hb1 HC0
  by_cases h100 : T.length ≤ 100
  rotate_left
  · have g100 : (100 : Int) < (T.length : Int) := by omega
    have g101 : 100 < T.length := by omega
    go_wp2_with fail
    go_ret
    exact ⟨rfl, HBW.out⟩
  have g100 : ¬ (100 : Int) < (T.length : Int) := by omega
  have g101 : ¬ 100 < T.length := by omega
  obtain ⟨x0, x1⟩ := HBX.out w HB1.out
  have HN2 : Hid (∀ m, Calls Try.prog 9 #[.int .i64 many, .int .i64 room] (w.drewN m) fun e w' => ∃ (q h : Nat) (gs : List Nat), e = .returned (.pointer (some ⟨q, 0, none⟩)) ∧ gs.length = n ∧ Dc w' w.heap.size q h (news gs r) 0 0 ∧ Below w.heap.size w w') := Lib.hid fun m => (HN.out (w.drewN m)).mono fun e w' ⟨q, h, gs, h1, h2, h3, h4⟩ => ⟨q, h, gs, h1, h2, h3, (dca.below_drewN w m).trans h4⟩
  go_upto_region 5 with fail
  go_quiet (fail)
  go_wp2_with fail
  refine (HN2.out _).mono ?_
  rintro e w2 ⟨q, h, gs, rfl, hgl, hd2, hb2⟩
  obtain ⟨W3, hW3⟩ : ∃ W3, W3 = w2.alloc (.cells MC 38) := ⟨_, rfl⟩
  obtain ⟨W4, hW4⟩ : ∃ W4, W4 = W3.alloc (.map #[] 0) := ⟨_, rfl⟩
  have hb3 : Below w2.heap.size w2 W3 := by rw [hW3]; exact (Below.refl _ _).alloc (Nat.le_refl _) _
  have hb4 : Below W3.heap.size W3 W4 := by rw [hW4]; exact (Below.refl _ _).alloc (Nat.le_refl _) _
  have hb34 := hb3.trans (hb4.mono hb3.size)
  have hr3 : Rows W3 w.heap.size w2.heap.size (List.replicate n []) := by rw [hW3, HMC.out]; exact rows_new w2 n _ hb2.size
  obtain ⟨bS, hbS⟩ : ∃ bS, bS = w2.heap.size := ⟨_, rfl⟩
  obtain ⟨bM, hbM⟩ : ∃ bM, bM = W3.heap.size := ⟨_, rfl⟩
  have HS0 : Hid (Sta w n r q h bS bM 0 0 (news gs r) (List.replicate n []) (fun _ => none) (fun _ => none) ((0 : Nat) : Int) ((0 : Nat) : Int) [] W4) := Lib.hid
    ⟨hd2.later hb34, by rw [hbS]; exact hr3.later hb4, by rw [hbM, hW4]; exact MapFn.made W3 Try.prog 9, hb2.trans (hb34.mono hb2.size), by rw [hbM]; exact Nat.le_trans hb2.size hb3.size, by rw [news_len]; exact hgl, List.length_replicate .., fun i c hc => by
        unfold news at hc
        obtain ⟨g, _, rfl⟩ := List.mem_map.1 (List.mem_of_getElem? hc)
        rfl, fun i c hc => by
        unfold news at hc
        obtain ⟨g, _, rfl⟩ := List.mem_map.1 (List.mem_of_getElem? hc)
        exact Nat.le_refl _, ents_news _, fun z hz => by cases hz⟩
  have HK0 : Hid (Keys (news gs r) (List.replicate n [])) := Lib.hid (by rw [← hgl]; exact keys_new gs r)
  have HW3 := Lib.hid hW3
  have HW4 := Lib.hid hW4
  have HBS := Lib.hid hbS
  have HBM := Lib.hid hbM
  have HB2 := Lib.hid (HB1.out.trans (hb2.mono HB1.out.size))
  clear x0 x1 hgl hd2 hb2 hW3 hW4 hb3 hb4 hb34 hr3 hbS hbM HN
  obtain ⟨x0, x1⟩ := HBX.out w2 HB2.out
  go_upto_region 8 with fail
  rw [← HW3.out, ← HBS.out]
  go_upto_region 9 with fail
  rw [← HW4.out, ← HBM.out]
  clear x0 x1
  go_wp2_with fail
  go_loopw [46, 10, 11] (fun v v10 v11 wr => ∃ (j x y : Nat) (C : List Cc) (R : List (List (ByteArray × Int))) (M : ByteArray → Option Act15), v = .int .i64 (j : Int) ∧ v10 = .int .i64 (x : Int) ∧ v11 = .int .i64 (y : Int) ∧ j ≤ T.length ∧ x + y ≤ j ∧ Hid (Sta w n r q h bS bM j j C R M M (x : Int) (y : Int) [] wr) ∧ Hid (Keys C R)) (fun v _ _ _ => T.length - (intOf v).toNat)
  case atStart => exact ⟨0, 0, 0, _, _, _, rfl, rfl, rfl, Nat.zero_le _, Nat.le_refl _, HS0, HK0⟩
  case round =>
    clear HS0 HK0
    obtain ⟨j, x, y, C, R, M, rfl, rfl, rfl, hj, hxy, HS, HKY⟩ := hrel
    have j0 : (0 : Int) ≤ (j : Int) := by omega
    by_cases hjl : j < T.length
    · obtain ⟨a, hx⟩ : ∃ x, T[j]? = some x := ⟨_, List.getElem?_eq_getElem hjl⟩
      obtain ⟨ba, oa, hAa, _, a0, a1, a2, a3, a4, a5⟩ := (HT.out.keep (HBW.out.trans (HS.out.below.mono HBW.out.size))) j _ hx
      subst hAa
      obtain ⟨hdr, hnm, _, _⟩ := HSZ.out a (List.mem_of_getElem? hx)
      have j1 : (j : Int) < (T.length : Int) := by omega
      obtain ⟨W3, hW3⟩ : ∃ W3, W3 = wr.alloc (.cells #[.bool a.kp, .bool a.th, .int .u8 (a.dr : Int), .string a.nm, .int .i64 a.ep, .int .i64 a.mr] 30) := ⟨_, rfl⟩
      have hb3 : Below wr.heap.size wr W3 := by rw [hW3]; exact (Below.refl _ _).alloc (Nat.le_refl _) _
      have hk3 : W3.heap[wr.heap.size]? = some (.cells #[.bool a.kp, .bool a.th, .int .u8 (a.dr : Int), .string a.nm, .int .i64 a.ep, .int .i64 a.mr] 30 (0, 0)) := by rw [hW3]; exact heap_alloc_new wr _
      have HS3 := Lib.hid ((HS.out.later hb3).hold hk3 (by unfold DS; decide) (by decide))
      obtain ⟨ab, hab⟩ : ∃ ab, ab = wr.heap.size := ⟨_, rfl⟩
      rw [← hab] at HS3
      have HAB := Lib.hid hab
      have HW3' := Lib.hid hW3
      have HR := Lib.hid (fun wr => name.refright_any a.nm wr hnm)
      have HDIR := Lib.hid (fun wr => dir_any a.dr wr hdr)
      clear hx hb3 hk3 hW3 hab HS hdr hnm
      go_upto_region 13 with fail
      rw [← HW3'.out, ← HAB.out]
      clear a0 a1 a2 a3 a4 a5
      have hka := (HS3.out.held ⟨ab, #[.bool a.kp, .bool a.th, .int .u8 (a.dr : Int), .string a.nm, .int .i64 a.ep, .int .i64 a.mr], 30⟩ (List.mem_cons_self ..)).1
      have a0 := cell_of_blk hka 0
      have a1 := cell_of_blk hka 1
      have a2 := cell_of_blk hka 2
      have a3 := cell_of_blk hka 3
      have a4 := cell_of_blk hka 4
      have a5 := cell_of_blk hka 5
      clear hka
      go_wp2_with fail
      refine (HR.out _).mono ?_
      rintro e wx ⟨rfl, rfl⟩
      rcases hr : name.right a.nm.data.toList with _ | _
      · have HF := Lib.hid (HBW.out.trans (HS3.out.below.mono HBW.out.size))
        go_wp2_with fail
        go_ret
        exact ⟨rfl, HF.out⟩
      · have hnl : a.nm.size ≤ 64 := right_len hr
        have HNL := Lib.hid hnl
        obtain ⟨dir, hdir⟩ : ∃ dir, dir = dirB a.dr := ⟨_, rfl⟩
        have hds : dir.size ≤ 1000 := by have := dirB_size a.dr; rw [hdir]; omega
        have HDS := Lib.hid hds
        rw [← hdir] at HDIR
        obtain ⟨key, hkey⟩ : ∃ key, key = childB dir a.nm := ⟨_, rfl⟩
        have HCH := Lib.hid (fun w => lawchild_any dir a.nm w (by omega) (by omega))
        rw [← hkey] at HCH
        have hks : key.size ≤ 9223372036854775807 := by have := childB_size dir a.nm; rw [hkey]; omega
        have HKEY := Lib.hid hkey
        clear hr hnl hdir hds hkey
        go_wp2_with fail
        refine (HDIR.out _).mono ?_
        rintro e wx ⟨rfl, rfl⟩
        go_wp2_with fail
        refine (HCH.out _).mono ?_
        rintro e wx ⟨rfl, rfl⟩
        obtain ⟨s, hs⟩ : ∃ s, s = sumF key.data.toList := ⟨_, rfl⟩
        have hlt := sumF_lt key.data.toList
        have HRS := Lib.hid (fun w => refsum_any key w hks)
        rw [← hs] at hlt HRS
        obtain ⟨i, hi⟩ : ∃ i, i = ofF key n := ⟨_, rfl⟩
        have hil : i < n := by rw [hi]; exact ofF_lt key n1
        have hsi : (s : Int) % (n : Int) = (i : Int) := by rw [hi, hs]; unfold ofF; rw [Int.natCast_emod]
        have z1 : (0 : Int) ≤ (s : Int) := by omega
        have z2 : (0 : Int) < (n : Int) := by omega
        have z3 : ¬ ((n : Int) = 0) := by omega
        have z4 : ¬ (n = 0) := by omega
        have w1' : IntKind.u64.wrap (n : Int) = (n : Int) := by rw [IntKind.wrap_u64]; omega
        have w2' : IntKind.i64.wrap (i : Int) = (i : Int) := IntWalk.i64_in _ (by omega)
        have i0 : (0 : Int) ≤ (i : Int) := by omega
        have i1 : (i : Int) < (n : Int) := by omega
        obtain ⟨c, hci⟩ : ∃ c, C[i]? = some c := ⟨_, List.getElem?_eq_getElem (by rw [HS3.out.len]; exact hil)⟩
        have HAT : Hid (At n C i c dir a.nm key) := Lib.hid ⟨HKEY.out, n1, n2, hi, hci, HDS.out, by have := HNL.out; omega⟩
        have HSH : Hid (Calls Try.prog 14 #[.pointer (some ⟨q, 0, none⟩), .string dir, .string a.nm] W3 fun e w' => e = .returned (.int .i64 (i : Int)) ∧ Below W3.heap.size W3 w') := Lib.hid (by
          have := dshard_any w.heap.size q h C x y dir a.nm W3 HS3.out.dc (by rw [HS3.out.len]; exact n1) (by rw [HS3.out.len]; exact n2) HDS.out (by have := HNL.out; omega)
          rw [← HKEY.out, HS3.out.len, ← hi] at this
          exact this)
        clear hs hi hks
        go_wp2_with fail
        refine (HRS.out _).mono ?_
        rintro e wx ⟨rfl, rfl⟩
        go_wp2_with fail
        refine HSH.out.mono ?_
        rintro e w4 ⟨rfl, hb4⟩
        have hs4 := HS3.out.later hb4
        obtain ⟨L, hL, hkL⟩ := HKY.out i c hci
        obtain ⟨A2, c2, hcL, hRL⟩ := hs4.rows.at hL
        have hlL : L.length ≤ 100 := by rw [← len_keys, hkL, len_keys]; have := hs4.lens i c hci; omega
        have gi : ((i : Int) != (i : Int)) = false := by simp
        have HS4 := Lib.hid hs4
        have HL := Lib.hid hL
        have HKL := Lib.hid hkL
        have HRL := Lib.hid hRL
        have HCI := Lib.hid hci
        clear a0 a1 a2 a3 a4 a5 hb4 hs4 hL hkL hRL hci HSH HRS HCH HDIR HR w1' w2' hsi hlt z1 z2 z3 z4
        rcases both HKL.out key with ⟨iw, xw, xe, hiw, hve, hme⟩ | ⟨hno, hve⟩
        · have HFI := Lib.hid (lrr.find_yes w.heap.size iw c2 A2 L key xw w4 HRL.out hiw (show (keys L).Nodup by rw [HKL.out]; exact (HS4.out.dc.fam.ok i c HCI.out).nd) (by omega))
          have HU := Lib.hid (lrr.use_any w.heap.size c2 A2 L key 0 w4 HRL.out (by omega))
          obtain ⟨hof, o, hMo, _⟩ := HS4.out.ents i c key xe HCI.out hme
          have HMO : Hid (((M key).map actV).getD (actV dca.a0) = .agg #[.bool o.kp, .bool o.th, .int .u8 (o.dr : Int), .string o.nm, .int .i64 o.ep, .int .i64 o.mr]) := Lib.hid (by rw [hMo]; rfl)
          have HVE := Lib.hid hve
          have HME := Lib.hid hme
          have HMo := Lib.hid hMo
          have iw0 : (0 : Int) ≤ (iw : Int) := by omega
          have giw : decide ((iw : Int) < 0) = false := by simp
          have giw2 : ¬ (iw : Int) < 0 := by omega
          clear hiw hve hme hof hMo
          go_wp2_with fail
          refine HFI.out.mono ?_
          rintro e wx ⟨rfl, rfl⟩
          go_wp2_with fail
          refine HU.out.mono ?_
          rintro e w5 ⟨v5, rfl, hr5, hb5⟩
          obtain ⟨A6, c6, rfl, _, _, _⟩ := own_facts hr5
          have hs5 := HS4.out.later hb5
          obtain ⟨A5, c5, hc5, _⟩ := hs5.rows.at HL.out
          have hf5 := hs5.rows.free i
          have hs6 := hs5.row hil (v := .slice A6 ((rest L key).length + 1) c6) (own_mono hr5 HS4.out.below.size)
          obtain ⟨W6, hW6⟩ : ∃ W6, W6 = w5.setCell ⟨bS, i, none⟩ (.slice A6 ((rest L key).length + 1) c6) := ⟨_, rfl⟩
          rw [← hW6] at hs6
          have HW6 := Lib.hid hW6
          clear hs5 hr5 hb5 hW6 HFI HU
          go_upto_region 23 with fail
          rw [← HW6.out]
          have hu := keys_use HKL.out HVE.out (0 : Int)
          have HRR : Hid (∃ R2 L2, Sta w n r q h bS bM j j C R2 M M (x : Int) (y : Int) [⟨ab, #[.bool a.kp, .bool a.th, .int .u8 (a.dr : Int), .string a.nm, .int .i64 a.ep, .int .i64 a.mr], 30⟩] W6 ∧ R2[i]? = some L2 ∧ keys L2 = keys (getL c.L key) ∧ ∀ (c' : Cc) (L' : List (ByteArray × Int)), keys L' = keys c'.L → Keys (C.set i c') (R2.set i L')) := Lib.hid
            ⟨_, _, hs6, by rw [List.getElem?_set, if_pos rfl, if_pos (List.getElem?_eq_some_iff.1 HL.out).1], hu, fun c' L' hk => by rw [List.set_set]; exact HKY.out.turn HCI.out hk⟩
          clear hs6 hu hc5 hf5 hcL
          obtain ⟨R2, L2, hs6, h2, hk2, hT⟩ := HRR.out
          have hm6 := hs6.map
          have HS6 := Lib.hid hs6
          have H2 := Lib.hid h2
          have HK2 := Lib.hid hk2
          have HTT := Lib.hid hT
          have HM6 := Lib.hid hm6
          have hl2 : L2.length ≤ 100 := by rw [← len_keys, hk2, len_keys, get_len (hs6.dc.fam.ok i c HCI.out)]; have := hs6.lens i c HCI.out; omega
          clear hs6 h2 hk2 hT hm6 HRR
          obtain ⟨W7, hW7⟩ : ∃ W7, W7 = W6.alloc (.cells #[.bool o.kp, .bool o.th, .int .u8 (o.dr : Int), .string o.nm, .int .i64 o.ep, .int .i64 o.mr] 30) := ⟨_, rfl⟩
          have hb7 : Below W6.heap.size W6 W7 := by rw [hW7]; exact (Below.refl _ _).alloc (Nat.le_refl _) _
          have hk7 : W7.heap[W6.heap.size]? = some (.cells #[.bool o.kp, .bool o.th, .int .u8 (o.dr : Int), .string o.nm, .int .i64 o.ep, .int .i64 o.mr] 30 (0, 0)) := by rw [hW7]; exact heap_alloc_new W6 _
          have HS7 := Lib.hid ((HS6.out.later hb7).hold hk7 (by unfold DS; decide) (by decide))
          obtain ⟨ob, hob⟩ : ∃ ob, ob = W6.heap.size := ⟨_, rfl⟩
          rw [← hob] at HS7
          have HOB := Lib.hid hob
          have HW7 := Lib.hid hW7
          have hks : key.size ≤ 9223372036854775807 := by have := childB_size dir a.nm; rw [HKEY.out]; have := HDS.out; have := HNL.out; omega
          clear hb7 hk7 hW7 hob
          go_upto_region 24 with (at_lookup; refine mpf.wpList_look _ rfl _ _ 28 rfl 9 30 Try.underlying9 Try.underlying28 (zeroAct _) bM j _ rfl HM6.out key rfl hks (v := .agg #[.bool o.kp, .bool o.th, .int .u8 (o.dr : Int), .string o.nm, .int .i64 o.ep, .int .i64 o.mr]) HMO.out ?_)
          rw [← HW7.out, ← HOB.out]
          have ah := (HS7.out.held ⟨ab, #[.bool a.kp, .bool a.th, .int .u8 (a.dr : Int), .string a.nm, .int .i64 a.ep, .int .i64 a.mr], 30⟩ (by simp)).1
          have a0 := cell_of_blk ah 0
          have a1 := cell_of_blk ah 1
          have a2 := cell_of_blk ah 2
          have a3 := cell_of_blk ah 3
          have a4 := cell_of_blk ah 4
          have a5 := cell_of_blk ah 5
          clear ah
          have heo : EntIs W7 o xe := by
            obtain ⟨_, o', h1, h2⟩ := HS7.out.ents i c key xe HCI.out HME.out
            have := HMo.out.symm.trans h1
            injection this with this
            subst this
            exact h2
          have HEO := Lib.hid heo
          clear heo
          rcases hkp : a.kp with _ | _
          rotate_left
          · have HCJ : Hid (∀ w' : World, w'.heap[ab]? = some (.cells #[.bool a.kp, .bool a.th, .int .u8 (a.dr : Int), .string a.nm, .int .i64 a.ep, .int .i64 a.mr] 30 (0, 0)) → (w'.cell? ⟨ab, 0, none⟩ = some (.bool a.kp) ∧ w'.cell? ⟨ab, 1, none⟩ = some (.bool a.th) ∧ w'.cell? ⟨ab, 2, none⟩ = some (.int .u8 (a.dr : Int)) ∧ w'.cell? ⟨ab, 3, none⟩ = some (.string a.nm) ∧ w'.cell? ⟨ab, 4, none⟩ = some (.int .i64 a.ep) ∧ w'.cell? ⟨ab, 5, none⟩ = some (.int .i64 a.mr))) := Lib.hid fun w' hh => ⟨cell_of_blk hh 0, cell_of_blk hh 1, cell_of_blk hh 2, cell_of_blk hh 3, cell_of_blk hh 4, cell_of_blk hh 5⟩
            have HBD := Lib.hid ((Below.refl W7.heap.size W7).drew)
            have HE7 := Lib.hid (entry_any a W7.drew)
            go_upto_region 25 with fail
            clear hkp
            have HSA : Hid (W7.drew.cell? ⟨ab, 0, none⟩ = some (.bool a.kp) ∧ W7.drew.cell? ⟨ab, 1, none⟩ = some (.bool a.th) ∧ W7.drew.cell? ⟨ab, 2, none⟩ = some (.int .u8 (a.dr : Int)) ∧ W7.drew.cell? ⟨ab, 3, none⟩ = some (.string a.nm) ∧ W7.drew.cell? ⟨ab, 4, none⟩ = some (.int .i64 a.ep) ∧ W7.drew.cell? ⟨ab, 5, none⟩ = some (.int .i64 a.mr)) := Lib.hid ⟨a0, a1, a2, a3, a4, a5⟩
            clear a0 a1 a2 a3 a4 a5
            rcases Int.lt_or_le a.ep o.ep with hlt0 | hle0
            · have hlt : a.ep < xe.ep := by rw [HEO.out.ep]; exact hlt0
              refine wp_region_held_drew (S := fun w' => (w'.cell? ⟨ab, 0, none⟩ = some (.bool a.kp) ∧ w'.cell? ⟨ab, 1, none⟩ = some (.bool a.th) ∧ w'.cell? ⟨ab, 2, none⟩ = some (.int .u8 (a.dr : Int)) ∧ w'.cell? ⟨ab, 3, none⟩ = some (.string a.nm) ∧ w'.cell? ⟨ab, 4, none⟩ = some (.int .i64 a.ep) ∧ w'.cell? ⟨ab, 5, none⟩ = some (.int .i64 a.mr))) (by kernel_rfl) HSA.out (fun hHeld => ?_)
              refine wpAnyH_take (i := 0) (oi := ⟨some 97, _, _, _, _, _⟩) (v := ?_) rfl (by kernel_rfl) (by kernel_rfl) (by kernel_rfl) (fun _ _ _ h => h) (Or.inl ⟨by kernel_rfl, ?_⟩) (by assumption) ?_
              rotate_left 1
              focus (intro w' hSw; (try dsimp only at hSw); go_simp; (try with_reducible rfl))
              try simp only [Act.put, List.setIfInBounds_toArray, List.set_cons_zero, List.set_cons_succ]
              refine wpAnyH_take (i := 1) (oi := ⟨some 98, _, _, _, _, _⟩) (v := ?_) rfl (by kernel_rfl) (by kernel_rfl) (by kernel_rfl) (fun _ _ _ h => h) (Or.inl ⟨by kernel_rfl, ?_⟩) (by assumption) ?_
              rotate_left 1
              focus (intro w' hSw; (try dsimp only at hSw); go_simp; (try with_reducible rfl))
              try simp only [Act.put, List.setIfInBounds_toArray, List.set_cons_zero, List.set_cons_succ]
              refine wpAnyH_take (i := 2) (oi := ⟨some 99, _, _, _, _, _⟩) (v := ?_) rfl (by kernel_rfl) (by kernel_rfl) (by kernel_rfl) (fun _ _ _ h => h) (Or.inl ⟨by kernel_rfl, ?_⟩) (by assumption) ?_
              rotate_left 1
              focus (intro w' hSw; (try dsimp only at hSw); go_simp; (try with_reducible rfl))
              try simp only [Act.put, List.setIfInBounds_toArray, List.set_cons_zero, List.set_cons_succ]
              refine wpAnyH_take (i := 3) (oi := ⟨some 100, _, _, _, _, _⟩) (v := ?_) rfl (by kernel_rfl) (by kernel_rfl) (by kernel_rfl) (fun _ _ _ h => h) (Or.inl ⟨by kernel_rfl, ?_⟩) (by assumption) ?_
              rotate_left 1
              focus (intro w' hSw; (try dsimp only at hSw); go_simp; (try with_reducible rfl))
              try simp only [Act.put, List.setIfInBounds_toArray, List.set_cons_zero, List.set_cons_succ]
              refine wpAnyH_take (i := 4) (oi := ⟨some 101, _, _, _, _, _⟩) (v := ?_) rfl (by kernel_rfl) (by kernel_rfl) (by kernel_rfl) (fun _ _ _ h => h) (Or.inl ⟨by kernel_rfl, ?_⟩) (by assumption) ?_
              rotate_left 1
              focus (intro w' hSw; (try dsimp only at hSw); go_simp; (try with_reducible rfl))
              try simp only [Act.put, List.setIfInBounds_toArray, List.set_cons_zero, List.set_cons_succ]
              refine wpAnyH_ready (rs := [5]) (by kernel_rfl) (by simp) ?_
              refine AllReadyH.cons rfl (fun K hK => ?_) AllReadyH.nil
              go_simp
              go_at_call 18
              refine (HE7.out).mono ?_
              rintro en w8 ⟨⟨b8, rfl, hb8, hk8'⟩, hbb8⟩
              have HS8 := Lib.hid (HS7.out.later (HBD.out.trans hbb8))
              have hk8 := Lib.hid hk8'
              clear hb8 hk8' hbb8
              clear hHeld
              refine hK.out _ _ (HCJ.out _ (HS8.out.held ⟨ab, #[.bool a.kp, .bool a.th, .int .u8 (a.dr : Int), .string a.nm, .int .i64 a.ep, .int .i64 a.mr], 30⟩ (by simp)).1) (fun hHeld => ?_)
              clear hK
              refine wpAnyH_ready (rs := [6]) (by kernel_rfl) (by simp) ?_
              refine AllReadyH.cons rfl (fun K hK => ?_) AllReadyH.nil
              go_simp
              go_at_call 17
              refine ((HS8.out.late HAT.out (by omega) a b8 HVE.out hlt)).mono ?_
              rintro en w9 ⟨bo9, rfl, hs9⟩
              have HS9 := Lib.hid hs9
              clear hs9
              clear hHeld
              refine hK.out _ _ (HCJ.out _ (HS9.out.held ⟨ab, #[.bool a.kp, .bool a.th, .int .u8 (a.dr : Int), .string a.nm, .int .i64 a.ep, .int .i64 a.mr], 30⟩ (by simp)).1) (fun hHeld => ?_)
              clear hK
              refine wpAnyH_take (i := 7) (oi := ⟨some 19, _, _, _, _, _⟩) (v := ?_) rfl (by kernel_rfl) (by kernel_rfl) (by kernel_rfl) (fun _ _ _ h => h) (Or.inl ⟨by kernel_rfl, ?_⟩) (by assumption) ?_
              rotate_left 1
              focus (intro w' hSw; (try dsimp only at hSw); go_simp; (try with_reducible rfl))
              try simp only [Act.put, List.setIfInBounds_toArray, List.set_cons_zero, List.set_cons_succ]
              refine wpAnyH_done (by kernel_rfl) ?_ _
              clear hHeld
              have ah := (HS9.out.held ⟨ab, #[.bool a.kp, .bool a.th, .int .u8 (a.dr : Int), .string a.nm, .int .i64 a.ep, .int .i64 a.mr], 30⟩ (by simp)).1
              have a0 := cell_of_blk ah 0
              have a1 := cell_of_blk ah 1
              have a2 := cell_of_blk ah 2
              have a3 := cell_of_blk ah 3
              have a4 := cell_of_blk ah 4
              have a5 := cell_of_blk ah 5
              clear ah
              have oh := (HS9.out.held ⟨ob, #[.bool o.kp, .bool o.th, .int .u8 (o.dr : Int), .string o.nm, .int .i64 o.ep, .int .i64 o.mr], 30⟩ (by simp)).1
              have o0 := cell_of_blk oh 0
              have o1 := cell_of_blk oh 1
              have o2 := cell_of_blk oh 2
              have o3 := cell_of_blk oh 3
              have o4 := cell_of_blk oh 4
              have o5 := cell_of_blk oh 5
              clear oh
              have gl : ¬ o.ep ≤ a.ep := by have := HEO.out.ep; omega
              go_wp2_with fail
              clear a0 a1 a2 a3 a4 a5
              clear o0 o1 o2 o3 o4 o5
              obtain ⟨wz, hwz⟩ : ∃ wz, wz = w9 := ⟨_, rfl⟩
              obtain ⟨C', R', M', c', L', HE⟩ : ∃ C' R' M' c' L', Hid (EndP w n r q h bS bM j i C' R' M' c' L' (x : Int) (y : Int) wz) := ⟨_, _, _, _, _, Lib.hid (by rw [hwz]; exact EndP.of HCI.out H2.out HTT.out (L' := L2) HK2.out (by rw [set_same H2.out]; exact HS9.out) (by omega) (by omega))⟩
              rw [← hwz]
              clear hwz HS9
              go_upto_region 41 with fail
              obtain ⟨hsz, hkz, hcz, hrz, hlz⟩ := HE.out
              have q0 := cell_of_blk hsz.dc.blk 0
              unfold ptrC at q0
              obtain ⟨A', c'', q1, _⟩ := hsz.rows.at hrz
              obtain ⟨lm, hlm⟩ : ∃ lm, lm = L'.length := ⟨_, rfl⟩
              obtain ⟨mo, hmo⟩ : ∃ mo, mo = mostF (nsOf C') := ⟨_, rfl⟩
              have hle : mo ≤ r := by
                rw [hmo]
                refine most_le _ _ fun z hz => ?_
                unfold nsOf at hz
                obtain ⟨d, hd, rfl⟩ := List.mem_map.1 hz
                obtain ⟨k, hk⟩ := List.mem_iff_getElem?.1 hd
                have := (hsz.dc.fam.ok k d hk).len
                rw [hsz.room k d hk] at this
                exact this
              have HLN : Hid (∀ m, Calls Try.prog 22 #[.pointer (some ⟨h, 0, none⟩), .int .i64 (i : Int)] (wz.drewN m) fun e w' => e = .returned (.int .i64 (lm : Int)) ∧ wz.drewN m = w') := Lib.hid fun m => by
                have := slen_any w.heap.size h c'.g i (gsOf C') c'.bo c'.r c'.L (wz.drewN m) hsz.dc.shd (gs_at hcz) (hsz.dc.fam.lru _ _ hcz)
                rw [← hlz, ← hlm] at this
                exact this
              have HMS : Hid (∀ m, Calls Try.prog 23 #[.pointer (some ⟨h, 0, none⟩)] (wz.drewN m) fun e w' => e = .returned (.int .i64 (mo : Int)) ∧ wz.drewN m = w') := Lib.hid fun m => by
                have := dmost_any w.heap.size q h C' _ _ (wz.drewN m) (hsz.dc.later (dca.below_drewN wz m)) (by rw [hsz.len]; exact n2)
                rw [← hmo] at this
                exact this
              have gm : ((lm : Int) != (lm : Int)) = false := by simp
              have gr : ¬ (r : Int) < (mo : Int) := by omega
              rw [← hlm] at q1
              clear hsz hkz hcz hrz hlz hlm hmo hle
              go_quiet ((first
                | (go_at_call 22; exact Calls.quiet_of_same ((HLN.out _).mono fun e w' ⟨h1, h2⟩ => ⟨h1, h2.symm⟩))
                | (go_at_call 23; exact Calls.quiet_of_same ((HMS.out _).mono fun e w' ⟨h1, h2⟩ => ⟨h1, h2.symm⟩))))
              go_wp2_with fail
              go_roundw
              case rel => exact ⟨j + 1, x, y, C', R', M', by go_num, by go_num, by go_num, by omega, by omega, Lib.hid (HE.out.1.later (dca.below_drewN _ _)), Lib.hid HE.out.2.1⟩
              case measure => simp [intOf]; omega
            · have hle : xe.ep ≤ a.ep := by rw [HEO.out.ep]; exact hle0
              refine wp_region_held_drew (S := fun w' => (w'.cell? ⟨ab, 0, none⟩ = some (.bool a.kp) ∧ w'.cell? ⟨ab, 1, none⟩ = some (.bool a.th) ∧ w'.cell? ⟨ab, 2, none⟩ = some (.int .u8 (a.dr : Int)) ∧ w'.cell? ⟨ab, 3, none⟩ = some (.string a.nm) ∧ w'.cell? ⟨ab, 4, none⟩ = some (.int .i64 a.ep) ∧ w'.cell? ⟨ab, 5, none⟩ = some (.int .i64 a.mr))) (by kernel_rfl) HSA.out (fun hHeld => ?_)
              refine wpAnyH_take (i := 0) (oi := ⟨some 97, _, _, _, _, _⟩) (v := ?_) rfl (by kernel_rfl) (by kernel_rfl) (by kernel_rfl) (fun _ _ _ h => h) (Or.inl ⟨by kernel_rfl, ?_⟩) (by assumption) ?_
              rotate_left 1
              focus (intro w' hSw; (try dsimp only at hSw); go_simp; (try with_reducible rfl))
              try simp only [Act.put, List.setIfInBounds_toArray, List.set_cons_zero, List.set_cons_succ]
              refine wpAnyH_take (i := 1) (oi := ⟨some 98, _, _, _, _, _⟩) (v := ?_) rfl (by kernel_rfl) (by kernel_rfl) (by kernel_rfl) (fun _ _ _ h => h) (Or.inl ⟨by kernel_rfl, ?_⟩) (by assumption) ?_
              rotate_left 1
              focus (intro w' hSw; (try dsimp only at hSw); go_simp; (try with_reducible rfl))
              try simp only [Act.put, List.setIfInBounds_toArray, List.set_cons_zero, List.set_cons_succ]
              refine wpAnyH_take (i := 2) (oi := ⟨some 99, _, _, _, _, _⟩) (v := ?_) rfl (by kernel_rfl) (by kernel_rfl) (by kernel_rfl) (fun _ _ _ h => h) (Or.inl ⟨by kernel_rfl, ?_⟩) (by assumption) ?_
              rotate_left 1
              focus (intro w' hSw; (try dsimp only at hSw); go_simp; (try with_reducible rfl))
              try simp only [Act.put, List.setIfInBounds_toArray, List.set_cons_zero, List.set_cons_succ]
              refine wpAnyH_take (i := 3) (oi := ⟨some 100, _, _, _, _, _⟩) (v := ?_) rfl (by kernel_rfl) (by kernel_rfl) (by kernel_rfl) (fun _ _ _ h => h) (Or.inl ⟨by kernel_rfl, ?_⟩) (by assumption) ?_
              rotate_left 1
              focus (intro w' hSw; (try dsimp only at hSw); go_simp; (try with_reducible rfl))
              try simp only [Act.put, List.setIfInBounds_toArray, List.set_cons_zero, List.set_cons_succ]
              refine wpAnyH_take (i := 4) (oi := ⟨some 101, _, _, _, _, _⟩) (v := ?_) rfl (by kernel_rfl) (by kernel_rfl) (by kernel_rfl) (fun _ _ _ h => h) (Or.inl ⟨by kernel_rfl, ?_⟩) (by assumption) ?_
              rotate_left 1
              focus (intro w' hSw; (try dsimp only at hSw); go_simp; (try with_reducible rfl))
              try simp only [Act.put, List.setIfInBounds_toArray, List.set_cons_zero, List.set_cons_succ]
              refine wpAnyH_ready (rs := [5]) (by kernel_rfl) (by simp) ?_
              refine AllReadyH.cons rfl (fun K hK => ?_) AllReadyH.nil
              go_simp
              go_at_call 18
              refine (HE7.out).mono ?_
              rintro en w8 ⟨⟨b8, rfl, hb8, hk8'⟩, hbb8⟩
              have HS8 := Lib.hid (HS7.out.later (HBD.out.trans hbb8))
              have hk8 := Lib.hid hk8'
              clear hb8 hk8' hbb8
              clear hHeld
              refine hK.out _ _ (HCJ.out _ (HS8.out.held ⟨ab, #[.bool a.kp, .bool a.th, .int .u8 (a.dr : Int), .string a.nm, .int .i64 a.ep, .int .i64 a.mr], 30⟩ (by simp)).1) (fun hHeld => ?_)
              clear hK
              refine wpAnyH_ready (rs := [6]) (by kernel_rfl) (by simp) ?_
              refine AllReadyH.cons rfl (fun K hK => ?_) AllReadyH.nil
              go_simp
              go_at_call 17
              refine ((HS8.out.early HAT.out (by omega) a b8 hk8.out (.inr ⟨xe, HVE.out, hle⟩))).mono ?_
              rintro en w9 ⟨bo9, v9, rfl, hs9⟩
              have HS9 := Lib.hid hs9
              clear hs9
              clear hHeld
              refine hK.out _ _ (HCJ.out _ (HS9.out.held ⟨ab, #[.bool a.kp, .bool a.th, .int .u8 (a.dr : Int), .string a.nm, .int .i64 a.ep, .int .i64 a.mr], 30⟩ (by simp)).1) (fun hHeld => ?_)
              clear hK
              refine wpAnyH_take (i := 7) (oi := ⟨some 19, _, _, _, _, _⟩) (v := ?_) rfl (by kernel_rfl) (by kernel_rfl) (by kernel_rfl) (fun _ _ _ h => h) (Or.inl ⟨by kernel_rfl, ?_⟩) (by assumption) ?_
              rotate_left 1
              focus (intro w' hSw; (try dsimp only at hSw); go_simp; (try with_reducible rfl))
              try simp only [Act.put, List.setIfInBounds_toArray, List.set_cons_zero, List.set_cons_succ]
              refine wpAnyH_done (by kernel_rfl) ?_ _
              clear hHeld
              have ah := (HS9.out.held ⟨ab, #[.bool a.kp, .bool a.th, .int .u8 (a.dr : Int), .string a.nm, .int .i64 a.ep, .int .i64 a.mr], 30⟩ (by simp)).1
              have a0 := cell_of_blk ah 0
              have a1 := cell_of_blk ah 1
              have a2 := cell_of_blk ah 2
              have a3 := cell_of_blk ah 3
              have a4 := cell_of_blk ah 4
              have a5 := cell_of_blk ah 5
              clear ah
              have oh := (HS9.out.held ⟨ob, #[.bool o.kp, .bool o.th, .int .u8 (o.dr : Int), .string o.nm, .int .i64 o.ep, .int .i64 o.mr], 30⟩ (by simp)).1
              have o0 := cell_of_blk oh 0
              have o1 := cell_of_blk oh 1
              have o2 := cell_of_blk oh 2
              have o3 := cell_of_blk oh 3
              have o4 := cell_of_blk oh 4
              have o5 := cell_of_blk oh 5
              clear oh
              have gl : o.ep ≤ a.ep := by have := HEO.out.ep; omega
              obtain ⟨A9, c9, hc9, hr9⟩ := HS9.out.rows.at H2.out
              have HP := Lib.hid (lrr.rput_any w.heap.size c9 A9 L2 key 0 w9 hr9 (by omega) r1 (r := r))
              clear hr9
              go_wp2_with fail
              refine HP.out.mono ?_
              rintro e w10 ⟨v10, rfl, hr10, hb10⟩
              obtain ⟨A11, c11, rfl, _, _, _⟩ := own_facts hr10
              have hs10 := HS9.out.later hb10
              obtain ⟨A10, c10, hc10, _⟩ := hs10.rows.at H2.out
              have hf10 := hs10.rows.free i
              have hs11 := hs10.row hil (own_mono hr10 HS9.out.below.size)
              obtain ⟨W11, hW11⟩ : ∃ W11, W11 = w10.setCell ⟨bS, i, none⟩ (.slice A11 (putL L2 r key 0).length c11) := ⟨_, rfl⟩
              rw [← hW11] at hs11
              have HW11 := Lib.hid hW11
              have HS11 := Lib.hid hs11
              have HM11 := Lib.hid hs11.map
              clear hs10 hr10 hb10 hW11 hs11 HP hc9
              go_upto_region 30 with fail
              rw [← HW11.out]
              clear hc10 hf10
              clear a0 a1 a2 a3 a4 a5
              clear o0 o1 o2 o3 o4 o5
              have ah := (HS11.out.held ⟨ab, #[.bool a.kp, .bool a.th, .int .u8 (a.dr : Int), .string a.nm, .int .i64 a.ep, .int .i64 a.mr], 30⟩ (by simp)).1
              have a0 := cell_of_blk ah 0
              have a1 := cell_of_blk ah 1
              have a2 := cell_of_blk ah 2
              have a3 := cell_of_blk ah 3
              have a4 := cell_of_blk ah 4
              have a5 := cell_of_blk ah 5
              clear ah
              go_wp2_with (at_mapUpdate; refine mpf.wpList_put _ rfl _ _ _ 28 rfl 9 30 Try.underlying9 Try.underlying28 bM j _ rfl HM11.out (by simp only [maxLen]; omega) key (actV a) rfl rfl hks ?_; intro w12 hm12 hg12)
              have hs12 := HS11.out.noted hm12 hg12
              have HS12 := Lib.hid hs12
              clear hm12 hg12 hs12 HM11
              clear a0 a1 a2 a3 a4 a5
              have hkk : keys (putL L2 r key 0) = keys (putL c.L c.r key v9) := by
                rw [HS6.out.room i c HCI.out, ← put_get c.L r key v9]
                exact keys_put HK2.out r key 0 v9
              obtain ⟨wz, hwz⟩ : ∃ wz, wz = w12 := ⟨_, rfl⟩
              obtain ⟨C', R', M', c', L', HE⟩ : ∃ C' R' M' c' L', Hid (EndP w n r q h bS bM j i C' R' M' c' L' (x : Int) (y : Int) wz) := ⟨_, _, _, _, _, Lib.hid (by rw [hwz]; exact EndP.of HCI.out H2.out HTT.out hkk HS12.out (by omega) (by omega))⟩
              rw [← hwz]
              clear hwz HS9 HS11 HS12 hkk
              go_upto_region 41 with fail
              obtain ⟨hsz, hkz, hcz, hrz, hlz⟩ := HE.out
              have q0 := cell_of_blk hsz.dc.blk 0
              unfold ptrC at q0
              obtain ⟨A', c'', q1, _⟩ := hsz.rows.at hrz
              obtain ⟨lm, hlm⟩ : ∃ lm, lm = L'.length := ⟨_, rfl⟩
              obtain ⟨mo, hmo⟩ : ∃ mo, mo = mostF (nsOf C') := ⟨_, rfl⟩
              have hle : mo ≤ r := by
                rw [hmo]
                refine most_le _ _ fun z hz => ?_
                unfold nsOf at hz
                obtain ⟨d, hd, rfl⟩ := List.mem_map.1 hz
                obtain ⟨k, hk⟩ := List.mem_iff_getElem?.1 hd
                have := (hsz.dc.fam.ok k d hk).len
                rw [hsz.room k d hk] at this
                exact this
              have HLN : Hid (∀ m, Calls Try.prog 22 #[.pointer (some ⟨h, 0, none⟩), .int .i64 (i : Int)] (wz.drewN m) fun e w' => e = .returned (.int .i64 (lm : Int)) ∧ wz.drewN m = w') := Lib.hid fun m => by
                have := slen_any w.heap.size h c'.g i (gsOf C') c'.bo c'.r c'.L (wz.drewN m) hsz.dc.shd (gs_at hcz) (hsz.dc.fam.lru _ _ hcz)
                rw [← hlz, ← hlm] at this
                exact this
              have HMS : Hid (∀ m, Calls Try.prog 23 #[.pointer (some ⟨h, 0, none⟩)] (wz.drewN m) fun e w' => e = .returned (.int .i64 (mo : Int)) ∧ wz.drewN m = w') := Lib.hid fun m => by
                have := dmost_any w.heap.size q h C' _ _ (wz.drewN m) (hsz.dc.later (dca.below_drewN wz m)) (by rw [hsz.len]; exact n2)
                rw [← hmo] at this
                exact this
              have gm : ((lm : Int) != (lm : Int)) = false := by simp
              have gr : ¬ (r : Int) < (mo : Int) := by omega
              rw [← hlm] at q1
              clear hsz hkz hcz hrz hlz hlm hmo hle
              go_quiet ((first
                | (go_at_call 22; exact Calls.quiet_of_same ((HLN.out _).mono fun e w' ⟨h1, h2⟩ => ⟨h1, h2.symm⟩))
                | (go_at_call 23; exact Calls.quiet_of_same ((HMS.out _).mono fun e w' ⟨h1, h2⟩ => ⟨h1, h2.symm⟩))))
              go_wp2_with fail
              go_roundw
              case rel => exact ⟨j + 1, x, y, C', R', M', by go_num, by go_num, by go_num, by omega, by omega, Lib.hid (HE.out.1.later (dca.below_drewN _ _)), Lib.hid HE.out.2.1⟩
              case measure => simp [intOf]; omega
          · go_upto_region 31 with fail
            clear hkp
            by_cases heq : o.ep = a.ep
            · skip
              have HLK := Lib.hid (HS7.out.hit HAT.out (by omega) (by omega) HVE.out HEO.out heq)
              have ge : (o.ep == a.ep) = true := by simpa using heq
              clear heq
              go_wp2_with fail
              refine HLK.out.mono ?_
              rintro e w8 ⟨A8, c8, bo8, rfl, hsp8, hs8⟩
              obtain ⟨W9, hW9⟩ : ∃ W9, W9 = w8.alloc (.cells #[.int .i64 o.ep, .bool o.th, .int .i64 o.mr, .int .i64 0, .int .i64 0, .slice A8 1 c8, .string o.nm] 50) := ⟨_, rfl⟩
              have hb9 : Below w8.heap.size w8 W9 := by rw [hW9]; exact (Below.refl _ _).alloc (Nat.le_refl _) _
              have hk9 : W9.heap[w8.heap.size]? = some (.cells #[.int .i64 o.ep, .bool o.th, .int .i64 o.mr, .int .i64 0, .int .i64 0, .slice A8 1 c8, .string o.nm] 50 (0, 0)) := by rw [hW9]; exact heap_alloc_new w8 _
              have HS9 := Lib.hid ((hs8.later hb9).hold hk9 (by unfold DS; decide) (by decide))
              have HSP9 := Lib.hid (hsp8.later hb9)
              obtain ⟨eb, heb⟩ : ∃ eb, eb = w8.heap.size := ⟨_, rfl⟩
              rw [← heb] at HS9
              have HEB := Lib.hid heb
              have HW9 := Lib.hid hW9
              clear hs8 hb9 hk9 hW9 heb hsp8 HLK
              clear a0 a1 a2 a3 a4 a5
              go_upto_region 32 with fail
              rw [← HW9.out, ← HEB.out]
              have ah := (HS9.out.held ⟨ab, #[.bool a.kp, .bool a.th, .int .u8 (a.dr : Int), .string a.nm, .int .i64 a.ep, .int .i64 a.mr], 30⟩ (by simp)).1
              have a0 := cell_of_blk ah 0
              have a1 := cell_of_blk ah 1
              have a2 := cell_of_blk ah 2
              have a3 := cell_of_blk ah 3
              have a4 := cell_of_blk ah 4
              have a5 := cell_of_blk ah 5
              clear ah
              have oh := (HS9.out.held ⟨ob, #[.bool o.kp, .bool o.th, .int .u8 (o.dr : Int), .string o.nm, .int .i64 o.ep, .int .i64 o.mr], 30⟩ (by simp)).1
              have o0 := cell_of_blk oh 0
              have o1 := cell_of_blk oh 1
              have o2 := cell_of_blk oh 2
              have o3 := cell_of_blk oh 3
              have o4 := cell_of_blk oh 4
              have o5 := cell_of_blk oh 5
              clear oh
              have eh := (HS9.out.held ⟨eb, #[.int .i64 o.ep, .bool o.th, .int .i64 o.mr, .int .i64 0, .int .i64 0, .slice A8 1 c8, .string o.nm], 50⟩ (by simp)).1
              have e0 := cell_of_blk eh 0
              have e1 := cell_of_blk eh 1
              have e2 := cell_of_blk eh 2
              have e3 := cell_of_blk eh 3
              have e4 := cell_of_blk eh 4
              have e5 := cell_of_blk eh 5
              have e6 := cell_of_blk eh 6
              clear eh
              have HCJ : Hid (∀ w' : World, Below W9.heap.size W9 w' → (w'.cell? ⟨eb, 0, none⟩ = some (.int .i64 o.ep) ∧ w'.cell? ⟨eb, 1, none⟩ = some (.bool o.th) ∧ w'.cell? ⟨eb, 2, none⟩ = some (.int .i64 o.mr) ∧ w'.cell? ⟨eb, 3, none⟩ = some (.int .i64 0) ∧ w'.cell? ⟨eb, 4, none⟩ = some (.int .i64 0) ∧ w'.cell? ⟨eb, 5, none⟩ = some (.slice A8 1 c8) ∧ w'.cell? ⟨eb, 6, none⟩ = some (.string o.nm) ∧ w'.cell? ⟨ob, 0, none⟩ = some (.bool o.kp) ∧ w'.cell? ⟨ob, 1, none⟩ = some (.bool o.th) ∧ w'.cell? ⟨ob, 2, none⟩ = some (.int .u8 (o.dr : Int)) ∧ w'.cell? ⟨ob, 3, none⟩ = some (.string o.nm) ∧ w'.cell? ⟨ob, 4, none⟩ = some (.int .i64 o.ep) ∧ w'.cell? ⟨ob, 5, none⟩ = some (.int .i64 o.mr))) := Lib.hid fun w' hb => by
                have hs := HS9.out.later hb
                have g1 := (hs.held ⟨eb, #[.int .i64 o.ep, .bool o.th, .int .i64 o.mr, .int .i64 0, .int .i64 0, .slice A8 1 c8, .string o.nm], 50⟩ (by simp)).1
                have g2 := (hs.held ⟨ob, #[.bool o.kp, .bool o.th, .int .u8 (o.dr : Int), .string o.nm, .int .i64 o.ep, .int .i64 o.mr], 30⟩ (by simp)).1
                exact ⟨cell_of_blk g1 0, cell_of_blk g1 1, cell_of_blk g1 2, cell_of_blk g1 3, cell_of_blk g1 4, cell_of_blk g1 5, cell_of_blk g1 6, cell_of_blk g2 0, cell_of_blk g2 1, cell_of_blk g2 2, cell_of_blk g2 3, cell_of_blk g2 4, cell_of_blk g2 5⟩
              have HBD := Lib.hid ((Below.refl W9.heap.size W9).drew)
              have HE9 := Lib.hid (entry_any o W9.drew)
              have HSM : Hid (∀ (b' : Nat) (w' : World), Below W9.heap.size W9 w' → w'.heap[b']? = some (.cells #[.int .i64 o.mr, .int .i64 0] 44 (0, 0)) → Calls Try.prog 21 #[.agg #[.int .i64 o.ep, .bool o.th, .int .i64 o.mr, .int .i64 0, .int .i64 0, .slice A8 1 c8, .string o.nm], .agg #[.int .i64 o.ep, .bool o.th, .int .i64 o.mr, .int .i64 0, .int .i64 0, .slice (some ⟨b', 0, none⟩) 1 1, .string o.nm]] w' fun e w'' => e = .returned (.bool true) ∧ Below w'.heap.size w' w'') := Lib.hid fun b' w' hb hk => same_any (entE o b') A8 (some ⟨b', 0, none⟩) c8 1 _ _ [(o.mr, 0)] w' (HSP9.out.later hb) (Sp.one hk (Nat.zero_le _)) (by simp)
              go_upto_region 36 with fail
              clear a0 a1 a2 a3 a4 a5
              clear o0 o1 o2 o3 o4 o5
              clear e0 e1 e2 e3 e4 e5 e6
              refine wp_region_held_drew (S := fun w' => (w'.cell? ⟨eb, 0, none⟩ = some (.int .i64 o.ep) ∧ w'.cell? ⟨eb, 1, none⟩ = some (.bool o.th) ∧ w'.cell? ⟨eb, 2, none⟩ = some (.int .i64 o.mr) ∧ w'.cell? ⟨eb, 3, none⟩ = some (.int .i64 0) ∧ w'.cell? ⟨eb, 4, none⟩ = some (.int .i64 0) ∧ w'.cell? ⟨eb, 5, none⟩ = some (.slice A8 1 c8) ∧ w'.cell? ⟨eb, 6, none⟩ = some (.string o.nm) ∧ w'.cell? ⟨ob, 0, none⟩ = some (.bool o.kp) ∧ w'.cell? ⟨ob, 1, none⟩ = some (.bool o.th) ∧ w'.cell? ⟨ob, 2, none⟩ = some (.int .u8 (o.dr : Int)) ∧ w'.cell? ⟨ob, 3, none⟩ = some (.string o.nm) ∧ w'.cell? ⟨ob, 4, none⟩ = some (.int .i64 o.ep) ∧ w'.cell? ⟨ob, 5, none⟩ = some (.int .i64 o.mr))) (by kernel_rfl) (HCJ.out _ HBD.out) (fun hHeld => ?_)
              refine wpAnyH_take (i := 0) (oi := ⟨some 158, _, _, _, _, _⟩) (v := ?_) rfl (by kernel_rfl) (by kernel_rfl) (by kernel_rfl) (fun _ _ _ h => h) (Or.inl ⟨by kernel_rfl, ?_⟩) (by assumption) ?_
              rotate_left 1
              focus (intro w' hSw; (try dsimp only at hSw); go_simp; (try with_reducible rfl))
              try simp only [Act.put, List.setIfInBounds_toArray, List.set_cons_zero, List.set_cons_succ]
              refine wpAnyH_take (i := 1) (oi := ⟨some 159, _, _, _, _, _⟩) (v := ?_) rfl (by kernel_rfl) (by kernel_rfl) (by kernel_rfl) (fun _ _ _ h => h) (Or.inl ⟨by kernel_rfl, ?_⟩) (by assumption) ?_
              rotate_left 1
              focus (intro w' hSw; (try dsimp only at hSw); go_simp; (try with_reducible rfl))
              try simp only [Act.put, List.setIfInBounds_toArray, List.set_cons_zero, List.set_cons_succ]
              refine wpAnyH_ready (rs := [2]) (by kernel_rfl) (by simp) ?_
              refine AllReadyH.cons rfl (fun K hK => ?_) AllReadyH.nil
              go_simp
              go_at_call 18
              refine (HE9.out).mono ?_
              rintro en w10 ⟨⟨b10, rfl, hb10, hk10⟩, hbb10⟩
              have HB10 := Lib.hid (HBD.out.trans hbb10)
              have HSMx := Lib.hid (HSM.out b10 w10 HB10.out hk10)
              clear hb10 hk10 hbb10
              clear hHeld
              refine hK.out _ _ (HCJ.out _ HB10.out) (fun hHeld => ?_)
              clear hK
              refine wpAnyH_ready (rs := [3]) (by kernel_rfl) (by simp) ?_
              refine AllReadyH.cons rfl (fun K hK => ?_) AllReadyH.nil
              go_simp
              go_at_call 21
              refine (HSMx.out).mono ?_
              rintro en w11 ⟨rfl, hbb11⟩
              have HB11 := Lib.hid (HB10.out.trans (hbb11.mono HB10.out.size))
              clear hbb11
              clear hHeld
              refine hK.out _ _ (HCJ.out _ HB11.out) (fun hHeld => ?_)
              clear hK
              refine wpAnyH_take (i := 4) (oi := ⟨some 162, _, _, _, _, _⟩) (v := ?_) rfl (by kernel_rfl) (by kernel_rfl) (by kernel_rfl) (fun _ _ _ h => h) (Or.inl ⟨by kernel_rfl, ?_⟩) (by assumption) ?_
              rotate_left 1
              focus (intro w' hSw; (try dsimp only at hSw); go_simp; (try with_reducible rfl))
              try simp only [Act.put, List.setIfInBounds_toArray, List.set_cons_zero, List.set_cons_succ]
              refine wpAnyH_done (by kernel_rfl) ?_ _
              clear hHeld
              have HS11 := Lib.hid (HS9.out.later HB11.out)
              go_wp2_with fail
              obtain ⟨wz, hwz⟩ : ∃ wz, wz = w11 := ⟨_, rfl⟩
              obtain ⟨C', R', M', c', L', HE⟩ : ∃ C' R' M' c' L', Hid (EndP w n r q h bS bM j i C' R' M' c' L' ((((x + 1) : Nat)) : Int) (((y : Nat)) : Int) wz) := ⟨_, _, _, _, _, Lib.hid (by rw [hwz]; exact EndP.of HCI.out H2.out HTT.out (L' := L2) HK2.out (by rw [set_same H2.out]; exact HS11.out) (by omega) (by omega))⟩
              rw [← hwz]
              clear hwz HS11 HS9
              go_upto_region 41 with fail
              obtain ⟨hsz, hkz, hcz, hrz, hlz⟩ := HE.out
              have q0 := cell_of_blk hsz.dc.blk 0
              unfold ptrC at q0
              obtain ⟨A', c'', q1, _⟩ := hsz.rows.at hrz
              obtain ⟨lm, hlm⟩ : ∃ lm, lm = L'.length := ⟨_, rfl⟩
              obtain ⟨mo, hmo⟩ : ∃ mo, mo = mostF (nsOf C') := ⟨_, rfl⟩
              have hle : mo ≤ r := by
                rw [hmo]
                refine most_le _ _ fun z hz => ?_
                unfold nsOf at hz
                obtain ⟨d, hd, rfl⟩ := List.mem_map.1 hz
                obtain ⟨k, hk⟩ := List.mem_iff_getElem?.1 hd
                have := (hsz.dc.fam.ok k d hk).len
                rw [hsz.room k d hk] at this
                exact this
              have HLN : Hid (∀ m, Calls Try.prog 22 #[.pointer (some ⟨h, 0, none⟩), .int .i64 (i : Int)] (wz.drewN m) fun e w' => e = .returned (.int .i64 (lm : Int)) ∧ wz.drewN m = w') := Lib.hid fun m => by
                have := slen_any w.heap.size h c'.g i (gsOf C') c'.bo c'.r c'.L (wz.drewN m) hsz.dc.shd (gs_at hcz) (hsz.dc.fam.lru _ _ hcz)
                rw [← hlz, ← hlm] at this
                exact this
              have HMS : Hid (∀ m, Calls Try.prog 23 #[.pointer (some ⟨h, 0, none⟩)] (wz.drewN m) fun e w' => e = .returned (.int .i64 (mo : Int)) ∧ wz.drewN m = w') := Lib.hid fun m => by
                have := dmost_any w.heap.size q h C' _ _ (wz.drewN m) (hsz.dc.later (dca.below_drewN wz m)) (by rw [hsz.len]; exact n2)
                rw [← hmo] at this
                exact this
              have gm : ((lm : Int) != (lm : Int)) = false := by simp
              have gr : ¬ (r : Int) < (mo : Int) := by omega
              rw [← hlm] at q1
              clear hsz hkz hcz hrz hlz hlm hmo hle
              go_quiet ((first
                | (go_at_call 22; exact Calls.quiet_of_same ((HLN.out _).mono fun e w' ⟨h1, h2⟩ => ⟨h1, h2.symm⟩))
                | (go_at_call 23; exact Calls.quiet_of_same ((HMS.out _).mono fun e w' ⟨h1, h2⟩ => ⟨h1, h2.symm⟩))))
              go_wp2_with fail
              go_roundw
              case rel => exact ⟨j + 1, (x + 1), y, C', R', M', by go_num, by go_num, by go_num, by omega, by omega, Lib.hid (HE.out.1.later (dca.below_drewN _ _)), Lib.hid HE.out.2.1⟩
              case measure => simp [intOf]; omega
            · skip
              have HLK := Lib.hid (HS7.out.miss HAT.out (by omega) (by omega) a.ep (.inr ⟨xe, HVE.out, by rw [HEO.out.ep]; exact heq⟩))
              have ge : (o.ep == a.ep) = false := by simpa using heq
              go_wp2_with fail
              refine HLK.out.mono ?_
              rintro e w8 ⟨bo8, rfl, hs8⟩
              obtain ⟨W9, hW9⟩ : ∃ W9, W9 = w8.alloc (.cells #[.int .i64 0, .bool false, .int .i64 0, .int .i64 0, .int .i64 0, .slice none 0 0, .string ⟨#[]⟩] 50) := ⟨_, rfl⟩
              have hb9 : Below w8.heap.size w8 W9 := by rw [hW9]; exact (Below.refl _ _).alloc (Nat.le_refl _) _
              have hk9 : W9.heap[w8.heap.size]? = some (.cells #[.int .i64 0, .bool false, .int .i64 0, .int .i64 0, .int .i64 0, .slice none 0 0, .string ⟨#[]⟩] 50 (0, 0)) := by rw [hW9]; exact heap_alloc_new w8 _
              have HS9 := Lib.hid ((hs8.later hb9).hold hk9 (by unfold DS; decide) (by decide))
              obtain ⟨eb, heb⟩ : ∃ eb, eb = w8.heap.size := ⟨_, rfl⟩
              rw [← heb] at HS9
              have HEB := Lib.hid heb
              have HW9 := Lib.hid hW9
              clear hs8 hb9 hk9 hW9 heb HLK
              clear a0 a1 a2 a3 a4 a5
              go_upto_region 32 with fail
              rw [← HW9.out, ← HEB.out]
              have ah := (HS9.out.held ⟨ab, #[.bool a.kp, .bool a.th, .int .u8 (a.dr : Int), .string a.nm, .int .i64 a.ep, .int .i64 a.mr], 30⟩ (by simp)).1
              have a0 := cell_of_blk ah 0
              have a1 := cell_of_blk ah 1
              have a2 := cell_of_blk ah 2
              have a3 := cell_of_blk ah 3
              have a4 := cell_of_blk ah 4
              have a5 := cell_of_blk ah 5
              clear ah
              have oh := (HS9.out.held ⟨ob, #[.bool o.kp, .bool o.th, .int .u8 (o.dr : Int), .string o.nm, .int .i64 o.ep, .int .i64 o.mr], 30⟩ (by simp)).1
              have o0 := cell_of_blk oh 0
              have o1 := cell_of_blk oh 1
              have o2 := cell_of_blk oh 2
              have o3 := cell_of_blk oh 3
              have o4 := cell_of_blk oh 4
              have o5 := cell_of_blk oh 5
              clear oh
              have eh := (HS9.out.held ⟨eb, #[.int .i64 0, .bool false, .int .i64 0, .int .i64 0, .int .i64 0, .slice none 0 0, .string ⟨#[]⟩], 50⟩ (by simp)).1
              have e0 := cell_of_blk eh 0
              have e1 := cell_of_blk eh 1
              have e2 := cell_of_blk eh 2
              have e3 := cell_of_blk eh 3
              have e4 := cell_of_blk eh 4
              have e5 := cell_of_blk eh 5
              have e6 := cell_of_blk eh 6
              clear eh
              have HSM := Lib.hid (same_any ⟨0, false, 0, 0, 0, none, 0, 0, ⟨#[]⟩⟩ none none 0 0 0 0 [] W9 (Sp.nil _ _ _) (Sp.nil _ _ _) (by simp))
              go_wp2_with fail
              refine HSM.out.mono ?_
              rintro e w11 ⟨rfl, hb11⟩
              have HS11 := Lib.hid (HS9.out.later hb11)
              clear hb11
              clear a0 a1 a2 a3 a4 a5
              clear o0 o1 o2 o3 o4 o5
              clear e0 e1 e2 e3 e4 e5 e6
              go_wp2_with fail
              obtain ⟨wz, hwz⟩ : ∃ wz, wz = w11 := ⟨_, rfl⟩
              obtain ⟨C', R', M', c', L', HE⟩ : ∃ C' R' M' c' L', Hid (EndP w n r q h bS bM j i C' R' M' c' L' (((x : Nat)) : Int) ((((y + 1) : Nat)) : Int) wz) := ⟨_, _, _, _, _, Lib.hid (by rw [hwz]; exact EndP.of HCI.out H2.out HTT.out (L' := L2) HK2.out (by rw [set_same H2.out]; exact HS11.out) (by omega) (by omega))⟩
              rw [← hwz]
              clear hwz HS11 HS9
              go_upto_region 41 with fail
              obtain ⟨hsz, hkz, hcz, hrz, hlz⟩ := HE.out
              have q0 := cell_of_blk hsz.dc.blk 0
              unfold ptrC at q0
              obtain ⟨A', c'', q1, _⟩ := hsz.rows.at hrz
              obtain ⟨lm, hlm⟩ : ∃ lm, lm = L'.length := ⟨_, rfl⟩
              obtain ⟨mo, hmo⟩ : ∃ mo, mo = mostF (nsOf C') := ⟨_, rfl⟩
              have hle : mo ≤ r := by
                rw [hmo]
                refine most_le _ _ fun z hz => ?_
                unfold nsOf at hz
                obtain ⟨d, hd, rfl⟩ := List.mem_map.1 hz
                obtain ⟨k, hk⟩ := List.mem_iff_getElem?.1 hd
                have := (hsz.dc.fam.ok k d hk).len
                rw [hsz.room k d hk] at this
                exact this
              have HLN : Hid (∀ m, Calls Try.prog 22 #[.pointer (some ⟨h, 0, none⟩), .int .i64 (i : Int)] (wz.drewN m) fun e w' => e = .returned (.int .i64 (lm : Int)) ∧ wz.drewN m = w') := Lib.hid fun m => by
                have := slen_any w.heap.size h c'.g i (gsOf C') c'.bo c'.r c'.L (wz.drewN m) hsz.dc.shd (gs_at hcz) (hsz.dc.fam.lru _ _ hcz)
                rw [← hlz, ← hlm] at this
                exact this
              have HMS : Hid (∀ m, Calls Try.prog 23 #[.pointer (some ⟨h, 0, none⟩)] (wz.drewN m) fun e w' => e = .returned (.int .i64 (mo : Int)) ∧ wz.drewN m = w') := Lib.hid fun m => by
                have := dmost_any w.heap.size q h C' _ _ (wz.drewN m) (hsz.dc.later (dca.below_drewN wz m)) (by rw [hsz.len]; exact n2)
                rw [← hmo] at this
                exact this
              have gm : ((lm : Int) != (lm : Int)) = false := by simp
              have gr : ¬ (r : Int) < (mo : Int) := by omega
              rw [← hlm] at q1
              clear hsz hkz hcz hrz hlz hlm hmo hle
              go_quiet ((first
                | (go_at_call 22; exact Calls.quiet_of_same ((HLN.out _).mono fun e w' ⟨h1, h2⟩ => ⟨h1, h2.symm⟩))
                | (go_at_call 23; exact Calls.quiet_of_same ((HMS.out _).mono fun e w' ⟨h1, h2⟩ => ⟨h1, h2.symm⟩))))
              go_wp2_with fail
              go_roundw
              case rel => exact ⟨j + 1, x, (y + 1), C', R', M', by go_num, by go_num, by go_num, by omega, by omega, Lib.hid (HE.out.1.later (dca.below_drewN _ _)), Lib.hid HE.out.2.1⟩
              case measure => simp [intOf]; omega
        · have HFI := Lib.hid (lrr.find_no w.heap.size c2 A2 L key w4 HRL.out hno (by omega))
          obtain ⟨o, ho⟩ : ∃ o, o = (M key).getD dca.a0 := ⟨_, rfl⟩
          have HMO : Hid (((M key).map actV).getD (actV dca.a0) = .agg #[.bool o.kp, .bool o.th, .int .u8 (o.dr : Int), .string o.nm, .int .i64 o.ep, .int .i64 o.mr]) := Lib.hid (by rw [look_is, ← ho]; rfl)
          have HVE := Lib.hid hve
          have hg := get_no hve
          obtain ⟨W6, hW6⟩ : ∃ W6, W6 = w4 := ⟨_, rfl⟩
          have HRR : Hid (∃ R2 L2, Sta w n r q h bS bM j j C R2 M M (x : Int) (y : Int) [⟨ab, #[.bool a.kp, .bool a.th, .int .u8 (a.dr : Int), .string a.nm, .int .i64 a.ep, .int .i64 a.mr], 30⟩] W6 ∧ R2[i]? = some L2 ∧ keys L2 = keys (getL c.L key) ∧ ∀ (c' : Cc) (L' : List (ByteArray × Int)), keys L' = keys c'.L → Keys (C.set i c') (R2.set i L')) := Lib.hid
            ⟨_, _, by rw [hW6]; exact HS4.out, HL.out, by rw [hg]; exact HKL.out, fun c' L' hk => HKY.out.turn HCI.out hk⟩
          have HW6 := Lib.hid hW6
          clear hno hve ho hg hW6
          go_wp2_with fail
          refine HFI.out.mono ?_
          rintro e wx ⟨rfl, rfl⟩
          go_upto_region 23 with fail
          rw [← HW6.out]
          clear hcL
          obtain ⟨R2, L2, hs6, h2, hk2, hT⟩ := HRR.out
          have hm6 := hs6.map
          have HS6 := Lib.hid hs6
          have H2 := Lib.hid h2
          have HK2 := Lib.hid hk2
          have HTT := Lib.hid hT
          have HM6 := Lib.hid hm6
          have hl2 : L2.length ≤ 100 := by rw [← len_keys, hk2, len_keys, get_len (hs6.dc.fam.ok i c HCI.out)]; have := hs6.lens i c HCI.out; omega
          clear hs6 h2 hk2 hT hm6 HRR
          obtain ⟨W7, hW7⟩ : ∃ W7, W7 = W6.alloc (.cells #[.bool o.kp, .bool o.th, .int .u8 (o.dr : Int), .string o.nm, .int .i64 o.ep, .int .i64 o.mr] 30) := ⟨_, rfl⟩
          have hb7 : Below W6.heap.size W6 W7 := by rw [hW7]; exact (Below.refl _ _).alloc (Nat.le_refl _) _
          have hk7 : W7.heap[W6.heap.size]? = some (.cells #[.bool o.kp, .bool o.th, .int .u8 (o.dr : Int), .string o.nm, .int .i64 o.ep, .int .i64 o.mr] 30 (0, 0)) := by rw [hW7]; exact heap_alloc_new W6 _
          have HS7 := Lib.hid ((HS6.out.later hb7).hold hk7 (by unfold DS; decide) (by decide))
          obtain ⟨ob, hob⟩ : ∃ ob, ob = W6.heap.size := ⟨_, rfl⟩
          rw [← hob] at HS7
          have HOB := Lib.hid hob
          have HW7 := Lib.hid hW7
          have hks : key.size ≤ 9223372036854775807 := by have := childB_size dir a.nm; rw [HKEY.out]; have := HDS.out; have := HNL.out; omega
          clear hb7 hk7 hW7 hob
          go_upto_region 24 with (at_lookup; refine mpf.wpList_look _ rfl _ _ 28 rfl 9 30 Try.underlying9 Try.underlying28 (zeroAct _) bM j _ rfl HM6.out key rfl hks (v := .agg #[.bool o.kp, .bool o.th, .int .u8 (o.dr : Int), .string o.nm, .int .i64 o.ep, .int .i64 o.mr]) HMO.out ?_)
          rw [← HW7.out, ← HOB.out]
          have ah := (HS7.out.held ⟨ab, #[.bool a.kp, .bool a.th, .int .u8 (a.dr : Int), .string a.nm, .int .i64 a.ep, .int .i64 a.mr], 30⟩ (by simp)).1
          have a0 := cell_of_blk ah 0
          have a1 := cell_of_blk ah 1
          have a2 := cell_of_blk ah 2
          have a3 := cell_of_blk ah 3
          have a4 := cell_of_blk ah 4
          have a5 := cell_of_blk ah 5
          clear ah
          rcases hkp : a.kp with _ | _
          rotate_left
          · have HCJ : Hid (∀ w' : World, w'.heap[ab]? = some (.cells #[.bool a.kp, .bool a.th, .int .u8 (a.dr : Int), .string a.nm, .int .i64 a.ep, .int .i64 a.mr] 30 (0, 0)) → (w'.cell? ⟨ab, 0, none⟩ = some (.bool a.kp) ∧ w'.cell? ⟨ab, 1, none⟩ = some (.bool a.th) ∧ w'.cell? ⟨ab, 2, none⟩ = some (.int .u8 (a.dr : Int)) ∧ w'.cell? ⟨ab, 3, none⟩ = some (.string a.nm) ∧ w'.cell? ⟨ab, 4, none⟩ = some (.int .i64 a.ep) ∧ w'.cell? ⟨ab, 5, none⟩ = some (.int .i64 a.mr))) := Lib.hid fun w' hh => ⟨cell_of_blk hh 0, cell_of_blk hh 1, cell_of_blk hh 2, cell_of_blk hh 3, cell_of_blk hh 4, cell_of_blk hh 5⟩
            have HBD := Lib.hid ((Below.refl W7.heap.size W7).drew)
            have HE7 := Lib.hid (entry_any a W7.drew)
            go_upto_region 25 with fail
            clear hkp
            have HSA : Hid (W7.drew.cell? ⟨ab, 0, none⟩ = some (.bool a.kp) ∧ W7.drew.cell? ⟨ab, 1, none⟩ = some (.bool a.th) ∧ W7.drew.cell? ⟨ab, 2, none⟩ = some (.int .u8 (a.dr : Int)) ∧ W7.drew.cell? ⟨ab, 3, none⟩ = some (.string a.nm) ∧ W7.drew.cell? ⟨ab, 4, none⟩ = some (.int .i64 a.ep) ∧ W7.drew.cell? ⟨ab, 5, none⟩ = some (.int .i64 a.mr)) := Lib.hid ⟨a0, a1, a2, a3, a4, a5⟩
            clear a0 a1 a2 a3 a4 a5
            refine wp_region_held_drew (S := fun w' => (w'.cell? ⟨ab, 0, none⟩ = some (.bool a.kp) ∧ w'.cell? ⟨ab, 1, none⟩ = some (.bool a.th) ∧ w'.cell? ⟨ab, 2, none⟩ = some (.int .u8 (a.dr : Int)) ∧ w'.cell? ⟨ab, 3, none⟩ = some (.string a.nm) ∧ w'.cell? ⟨ab, 4, none⟩ = some (.int .i64 a.ep) ∧ w'.cell? ⟨ab, 5, none⟩ = some (.int .i64 a.mr))) (by kernel_rfl) HSA.out (fun hHeld => ?_)
            refine wpAnyH_take (i := 0) (oi := ⟨some 97, _, _, _, _, _⟩) (v := ?_) rfl (by kernel_rfl) (by kernel_rfl) (by kernel_rfl) (fun _ _ _ h => h) (Or.inl ⟨by kernel_rfl, ?_⟩) (by assumption) ?_
            rotate_left 1
            focus (intro w' hSw; (try dsimp only at hSw); go_simp; (try with_reducible rfl))
            try simp only [Act.put, List.setIfInBounds_toArray, List.set_cons_zero, List.set_cons_succ]
            refine wpAnyH_take (i := 1) (oi := ⟨some 98, _, _, _, _, _⟩) (v := ?_) rfl (by kernel_rfl) (by kernel_rfl) (by kernel_rfl) (fun _ _ _ h => h) (Or.inl ⟨by kernel_rfl, ?_⟩) (by assumption) ?_
            rotate_left 1
            focus (intro w' hSw; (try dsimp only at hSw); go_simp; (try with_reducible rfl))
            try simp only [Act.put, List.setIfInBounds_toArray, List.set_cons_zero, List.set_cons_succ]
            refine wpAnyH_take (i := 2) (oi := ⟨some 99, _, _, _, _, _⟩) (v := ?_) rfl (by kernel_rfl) (by kernel_rfl) (by kernel_rfl) (fun _ _ _ h => h) (Or.inl ⟨by kernel_rfl, ?_⟩) (by assumption) ?_
            rotate_left 1
            focus (intro w' hSw; (try dsimp only at hSw); go_simp; (try with_reducible rfl))
            try simp only [Act.put, List.setIfInBounds_toArray, List.set_cons_zero, List.set_cons_succ]
            refine wpAnyH_take (i := 3) (oi := ⟨some 100, _, _, _, _, _⟩) (v := ?_) rfl (by kernel_rfl) (by kernel_rfl) (by kernel_rfl) (fun _ _ _ h => h) (Or.inl ⟨by kernel_rfl, ?_⟩) (by assumption) ?_
            rotate_left 1
            focus (intro w' hSw; (try dsimp only at hSw); go_simp; (try with_reducible rfl))
            try simp only [Act.put, List.setIfInBounds_toArray, List.set_cons_zero, List.set_cons_succ]
            refine wpAnyH_take (i := 4) (oi := ⟨some 101, _, _, _, _, _⟩) (v := ?_) rfl (by kernel_rfl) (by kernel_rfl) (by kernel_rfl) (fun _ _ _ h => h) (Or.inl ⟨by kernel_rfl, ?_⟩) (by assumption) ?_
            rotate_left 1
            focus (intro w' hSw; (try dsimp only at hSw); go_simp; (try with_reducible rfl))
            try simp only [Act.put, List.setIfInBounds_toArray, List.set_cons_zero, List.set_cons_succ]
            refine wpAnyH_ready (rs := [5]) (by kernel_rfl) (by simp) ?_
            refine AllReadyH.cons rfl (fun K hK => ?_) AllReadyH.nil
            go_simp
            go_at_call 18
            refine (HE7.out).mono ?_
            rintro en w8 ⟨⟨b8, rfl, hb8, hk8'⟩, hbb8⟩
            have HS8 := Lib.hid (HS7.out.later (HBD.out.trans hbb8))
            have hk8 := Lib.hid hk8'
            clear hb8 hk8' hbb8
            clear hHeld
            refine hK.out _ _ (HCJ.out _ (HS8.out.held ⟨ab, #[.bool a.kp, .bool a.th, .int .u8 (a.dr : Int), .string a.nm, .int .i64 a.ep, .int .i64 a.mr], 30⟩ (by simp)).1) (fun hHeld => ?_)
            clear hK
            refine wpAnyH_ready (rs := [6]) (by kernel_rfl) (by simp) ?_
            refine AllReadyH.cons rfl (fun K hK => ?_) AllReadyH.nil
            go_simp
            go_at_call 17
            refine ((HS8.out.early HAT.out (by omega) a b8 hk8.out (.inl HVE.out))).mono ?_
            rintro en w9 ⟨bo9, v9, rfl, hs9⟩
            have HS9 := Lib.hid hs9
            clear hs9
            clear hHeld
            refine hK.out _ _ (HCJ.out _ (HS9.out.held ⟨ab, #[.bool a.kp, .bool a.th, .int .u8 (a.dr : Int), .string a.nm, .int .i64 a.ep, .int .i64 a.mr], 30⟩ (by simp)).1) (fun hHeld => ?_)
            clear hK
            refine wpAnyH_take (i := 7) (oi := ⟨some 19, _, _, _, _, _⟩) (v := ?_) rfl (by kernel_rfl) (by kernel_rfl) (by kernel_rfl) (fun _ _ _ h => h) (Or.inl ⟨by kernel_rfl, ?_⟩) (by assumption) ?_
            rotate_left 1
            focus (intro w' hSw; (try dsimp only at hSw); go_simp; (try with_reducible rfl))
            try simp only [Act.put, List.setIfInBounds_toArray, List.set_cons_zero, List.set_cons_succ]
            refine wpAnyH_done (by kernel_rfl) ?_ _
            clear hHeld
            have ah := (HS9.out.held ⟨ab, #[.bool a.kp, .bool a.th, .int .u8 (a.dr : Int), .string a.nm, .int .i64 a.ep, .int .i64 a.mr], 30⟩ (by simp)).1
            have a0 := cell_of_blk ah 0
            have a1 := cell_of_blk ah 1
            have a2 := cell_of_blk ah 2
            have a3 := cell_of_blk ah 3
            have a4 := cell_of_blk ah 4
            have a5 := cell_of_blk ah 5
            clear ah
            have oh := (HS9.out.held ⟨ob, #[.bool o.kp, .bool o.th, .int .u8 (o.dr : Int), .string o.nm, .int .i64 o.ep, .int .i64 o.mr], 30⟩ (by simp)).1
            have o0 := cell_of_blk oh 0
            have o1 := cell_of_blk oh 1
            have o2 := cell_of_blk oh 2
            have o3 := cell_of_blk oh 3
            have o4 := cell_of_blk oh 4
            have o5 := cell_of_blk oh 5
            clear oh
            obtain ⟨A9, c9, hc9, hr9⟩ := HS9.out.rows.at H2.out
            have HP := Lib.hid (lrr.rput_any w.heap.size c9 A9 L2 key 0 w9 hr9 (by omega) r1 (r := r))
            clear hr9
            go_wp2_with fail
            refine HP.out.mono ?_
            rintro e w10 ⟨v10, rfl, hr10, hb10⟩
            obtain ⟨A11, c11, rfl, _, _, _⟩ := own_facts hr10
            have hs10 := HS9.out.later hb10
            obtain ⟨A10, c10, hc10, _⟩ := hs10.rows.at H2.out
            have hf10 := hs10.rows.free i
            have hs11 := hs10.row hil (own_mono hr10 HS9.out.below.size)
            obtain ⟨W11, hW11⟩ : ∃ W11, W11 = w10.setCell ⟨bS, i, none⟩ (.slice A11 (putL L2 r key 0).length c11) := ⟨_, rfl⟩
            rw [← hW11] at hs11
            have HW11 := Lib.hid hW11
            have HS11 := Lib.hid hs11
            have HM11 := Lib.hid hs11.map
            clear hs10 hr10 hb10 hW11 hs11 HP hc9
            go_upto_region 30 with fail
            rw [← HW11.out]
            clear hc10 hf10
            clear a0 a1 a2 a3 a4 a5
            clear o0 o1 o2 o3 o4 o5
            have ah := (HS11.out.held ⟨ab, #[.bool a.kp, .bool a.th, .int .u8 (a.dr : Int), .string a.nm, .int .i64 a.ep, .int .i64 a.mr], 30⟩ (by simp)).1
            have a0 := cell_of_blk ah 0
            have a1 := cell_of_blk ah 1
            have a2 := cell_of_blk ah 2
            have a3 := cell_of_blk ah 3
            have a4 := cell_of_blk ah 4
            have a5 := cell_of_blk ah 5
            clear ah
            go_wp2_with (at_mapUpdate; refine mpf.wpList_put _ rfl _ _ _ 28 rfl 9 30 Try.underlying9 Try.underlying28 bM j _ rfl HM11.out (by simp only [maxLen]; omega) key (actV a) rfl rfl hks ?_; intro w12 hm12 hg12)
            have hs12 := HS11.out.noted hm12 hg12
            have HS12 := Lib.hid hs12
            clear hm12 hg12 hs12 HM11
            clear a0 a1 a2 a3 a4 a5
            have hkk : keys (putL L2 r key 0) = keys (putL c.L c.r key v9) := by
              rw [HS6.out.room i c HCI.out, ← put_get c.L r key v9]
              exact keys_put HK2.out r key 0 v9
            obtain ⟨wz, hwz⟩ : ∃ wz, wz = w12 := ⟨_, rfl⟩
            obtain ⟨C', R', M', c', L', HE⟩ : ∃ C' R' M' c' L', Hid (EndP w n r q h bS bM j i C' R' M' c' L' (x : Int) (y : Int) wz) := ⟨_, _, _, _, _, Lib.hid (by rw [hwz]; exact EndP.of HCI.out H2.out HTT.out hkk HS12.out (by omega) (by omega))⟩
            rw [← hwz]
            clear hwz HS9 HS11 HS12 hkk
            go_upto_region 41 with fail
            obtain ⟨hsz, hkz, hcz, hrz, hlz⟩ := HE.out
            have q0 := cell_of_blk hsz.dc.blk 0
            unfold ptrC at q0
            obtain ⟨A', c'', q1, _⟩ := hsz.rows.at hrz
            obtain ⟨lm, hlm⟩ : ∃ lm, lm = L'.length := ⟨_, rfl⟩
            obtain ⟨mo, hmo⟩ : ∃ mo, mo = mostF (nsOf C') := ⟨_, rfl⟩
            have hle : mo ≤ r := by
              rw [hmo]
              refine most_le _ _ fun z hz => ?_
              unfold nsOf at hz
              obtain ⟨d, hd, rfl⟩ := List.mem_map.1 hz
              obtain ⟨k, hk⟩ := List.mem_iff_getElem?.1 hd
              have := (hsz.dc.fam.ok k d hk).len
              rw [hsz.room k d hk] at this
              exact this
            have HLN : Hid (∀ m, Calls Try.prog 22 #[.pointer (some ⟨h, 0, none⟩), .int .i64 (i : Int)] (wz.drewN m) fun e w' => e = .returned (.int .i64 (lm : Int)) ∧ wz.drewN m = w') := Lib.hid fun m => by
              have := slen_any w.heap.size h c'.g i (gsOf C') c'.bo c'.r c'.L (wz.drewN m) hsz.dc.shd (gs_at hcz) (hsz.dc.fam.lru _ _ hcz)
              rw [← hlz, ← hlm] at this
              exact this
            have HMS : Hid (∀ m, Calls Try.prog 23 #[.pointer (some ⟨h, 0, none⟩)] (wz.drewN m) fun e w' => e = .returned (.int .i64 (mo : Int)) ∧ wz.drewN m = w') := Lib.hid fun m => by
              have := dmost_any w.heap.size q h C' _ _ (wz.drewN m) (hsz.dc.later (dca.below_drewN wz m)) (by rw [hsz.len]; exact n2)
              rw [← hmo] at this
              exact this
            have gm : ((lm : Int) != (lm : Int)) = false := by simp
            have gr : ¬ (r : Int) < (mo : Int) := by omega
            rw [← hlm] at q1
            clear hsz hkz hcz hrz hlz hlm hmo hle
            go_quiet ((first
              | (go_at_call 22; exact Calls.quiet_of_same ((HLN.out _).mono fun e w' ⟨h1, h2⟩ => ⟨h1, h2.symm⟩))
              | (go_at_call 23; exact Calls.quiet_of_same ((HMS.out _).mono fun e w' ⟨h1, h2⟩ => ⟨h1, h2.symm⟩))))
            go_wp2_with fail
            go_roundw
            case rel => exact ⟨j + 1, x, y, C', R', M', by go_num, by go_num, by go_num, by omega, by omega, Lib.hid (HE.out.1.later (dca.below_drewN _ _)), Lib.hid HE.out.2.1⟩
            case measure => simp [intOf]; omega
          · go_upto_region 31 with fail
            clear hkp
            have HLK := Lib.hid (HS7.out.miss HAT.out (by omega) (by omega) a.ep (.inl HVE.out))
            go_wp2_with fail
            refine HLK.out.mono ?_
            rintro e w8 ⟨bo8, rfl, hs8⟩
            obtain ⟨W9, hW9⟩ : ∃ W9, W9 = w8.alloc (.cells #[.int .i64 0, .bool false, .int .i64 0, .int .i64 0, .int .i64 0, .slice none 0 0, .string ⟨#[]⟩] 50) := ⟨_, rfl⟩
            have hb9 : Below w8.heap.size w8 W9 := by rw [hW9]; exact (Below.refl _ _).alloc (Nat.le_refl _) _
            have hk9 : W9.heap[w8.heap.size]? = some (.cells #[.int .i64 0, .bool false, .int .i64 0, .int .i64 0, .int .i64 0, .slice none 0 0, .string ⟨#[]⟩] 50 (0, 0)) := by rw [hW9]; exact heap_alloc_new w8 _
            have HS9 := Lib.hid ((hs8.later hb9).hold hk9 (by unfold DS; decide) (by decide))
            obtain ⟨eb, heb⟩ : ∃ eb, eb = w8.heap.size := ⟨_, rfl⟩
            rw [← heb] at HS9
            have HEB := Lib.hid heb
            have HW9 := Lib.hid hW9
            clear hs8 hb9 hk9 hW9 heb HLK
            clear a0 a1 a2 a3 a4 a5
            go_upto_region 32 with fail
            rw [← HW9.out, ← HEB.out]
            have ah := (HS9.out.held ⟨ab, #[.bool a.kp, .bool a.th, .int .u8 (a.dr : Int), .string a.nm, .int .i64 a.ep, .int .i64 a.mr], 30⟩ (by simp)).1
            have a0 := cell_of_blk ah 0
            have a1 := cell_of_blk ah 1
            have a2 := cell_of_blk ah 2
            have a3 := cell_of_blk ah 3
            have a4 := cell_of_blk ah 4
            have a5 := cell_of_blk ah 5
            clear ah
            have oh := (HS9.out.held ⟨ob, #[.bool o.kp, .bool o.th, .int .u8 (o.dr : Int), .string o.nm, .int .i64 o.ep, .int .i64 o.mr], 30⟩ (by simp)).1
            have o0 := cell_of_blk oh 0
            have o1 := cell_of_blk oh 1
            have o2 := cell_of_blk oh 2
            have o3 := cell_of_blk oh 3
            have o4 := cell_of_blk oh 4
            have o5 := cell_of_blk oh 5
            clear oh
            have eh := (HS9.out.held ⟨eb, #[.int .i64 0, .bool false, .int .i64 0, .int .i64 0, .int .i64 0, .slice none 0 0, .string ⟨#[]⟩], 50⟩ (by simp)).1
            have e0 := cell_of_blk eh 0
            have e1 := cell_of_blk eh 1
            have e2 := cell_of_blk eh 2
            have e3 := cell_of_blk eh 3
            have e4 := cell_of_blk eh 4
            have e5 := cell_of_blk eh 5
            have e6 := cell_of_blk eh 6
            clear eh
            have HSM := Lib.hid (same_any ⟨0, false, 0, 0, 0, none, 0, 0, ⟨#[]⟩⟩ none none 0 0 0 0 [] W9 (Sp.nil _ _ _) (Sp.nil _ _ _) (by simp))
            go_wp2_with fail
            refine HSM.out.mono ?_
            rintro e w11 ⟨rfl, hb11⟩
            have HS11 := Lib.hid (HS9.out.later hb11)
            clear hb11
            clear a0 a1 a2 a3 a4 a5
            clear o0 o1 o2 o3 o4 o5
            clear e0 e1 e2 e3 e4 e5 e6
            go_wp2_with fail
            obtain ⟨wz, hwz⟩ : ∃ wz, wz = w11 := ⟨_, rfl⟩
            obtain ⟨C', R', M', c', L', HE⟩ : ∃ C' R' M' c' L', Hid (EndP w n r q h bS bM j i C' R' M' c' L' (((x : Nat)) : Int) ((((y + 1) : Nat)) : Int) wz) := ⟨_, _, _, _, _, Lib.hid (by rw [hwz]; exact EndP.of HCI.out H2.out HTT.out (L' := L2) HK2.out (by rw [set_same H2.out]; exact HS11.out) (by omega) (by omega))⟩
            rw [← hwz]
            clear hwz HS11 HS9
            go_upto_region 41 with fail
            obtain ⟨hsz, hkz, hcz, hrz, hlz⟩ := HE.out
            have q0 := cell_of_blk hsz.dc.blk 0
            unfold ptrC at q0
            obtain ⟨A', c'', q1, _⟩ := hsz.rows.at hrz
            obtain ⟨lm, hlm⟩ : ∃ lm, lm = L'.length := ⟨_, rfl⟩
            obtain ⟨mo, hmo⟩ : ∃ mo, mo = mostF (nsOf C') := ⟨_, rfl⟩
            have hle : mo ≤ r := by
              rw [hmo]
              refine most_le _ _ fun z hz => ?_
              unfold nsOf at hz
              obtain ⟨d, hd, rfl⟩ := List.mem_map.1 hz
              obtain ⟨k, hk⟩ := List.mem_iff_getElem?.1 hd
              have := (hsz.dc.fam.ok k d hk).len
              rw [hsz.room k d hk] at this
              exact this
            have HLN : Hid (∀ m, Calls Try.prog 22 #[.pointer (some ⟨h, 0, none⟩), .int .i64 (i : Int)] (wz.drewN m) fun e w' => e = .returned (.int .i64 (lm : Int)) ∧ wz.drewN m = w') := Lib.hid fun m => by
              have := slen_any w.heap.size h c'.g i (gsOf C') c'.bo c'.r c'.L (wz.drewN m) hsz.dc.shd (gs_at hcz) (hsz.dc.fam.lru _ _ hcz)
              rw [← hlz, ← hlm] at this
              exact this
            have HMS : Hid (∀ m, Calls Try.prog 23 #[.pointer (some ⟨h, 0, none⟩)] (wz.drewN m) fun e w' => e = .returned (.int .i64 (mo : Int)) ∧ wz.drewN m = w') := Lib.hid fun m => by
              have := dmost_any w.heap.size q h C' _ _ (wz.drewN m) (hsz.dc.later (dca.below_drewN wz m)) (by rw [hsz.len]; exact n2)
              rw [← hmo] at this
              exact this
            have gm : ((lm : Int) != (lm : Int)) = false := by simp
            have gr : ¬ (r : Int) < (mo : Int) := by omega
            rw [← hlm] at q1
            clear hsz hkz hcz hrz hlz hlm hmo hle
            go_quiet ((first
              | (go_at_call 22; exact Calls.quiet_of_same ((HLN.out _).mono fun e w' ⟨h1, h2⟩ => ⟨h1, h2.symm⟩))
              | (go_at_call 23; exact Calls.quiet_of_same ((HMS.out _).mono fun e w' ⟨h1, h2⟩ => ⟨h1, h2.symm⟩))))
            go_wp2_with fail
            go_roundw
            case rel => exact ⟨j + 1, x, (y + 1), C', R', M', by go_num, by go_num, by go_num, by omega, by omega, Lib.hid (HE.out.1.later (dca.below_drewN _ _)), Lib.hid HE.out.2.1⟩
            case measure => simp [intOf]; omega
    · have HCN := Lib.hid (counts_any _ _ _ _ _ _ _ HS.out.dc)
      have HSX := Lib.hid (fun (w' : World) (hb : Below wr.heap.size wr w') => HS.out.later hb)
      have gx : ((x : Int) == (x : Int)) = true := by simp
      have gy : ((y : Int) == (y : Int)) = true := by simp
      have gn : ((n : Int) == (n : Int)) = true := by simp
      clear HS
      go_wp2_with fail
      refine HCN.out.mono ?_
      rintro e w5 ⟨rfl, hb5⟩
      have hs5 := HSX.out w5 hb5
      have c0 := cell_of_blk hs5.dc.blk 0
      unfold ptrC at c0
      have HMY : Hid (Calls Try.prog 25 #[.pointer (some ⟨h, 0, none⟩)] w5 fun e w' => e = .returned (.int .i64 (n : Int)) ∧ w5 = w') := Lib.hid (by
        have := many_any w.heap.size h (gsOf C) w5 hs5.dc.shd
        rw [gs_len, hs5.len] at this
        exact this)
      have HF := Lib.hid (HBW.out.trans (hs5.below.mono HBW.out.size))
      clear hs5 hb5
      go_wp2_with fail
      refine HMY.out.mono ?_
      rintro e w6 ⟨rfl, rfl⟩
      go_wp2_with fail
      go_ret
      exact ⟨rfl, HF.out⟩
end Go.Proofs.Ythhcbmljckgncaa.ddo
