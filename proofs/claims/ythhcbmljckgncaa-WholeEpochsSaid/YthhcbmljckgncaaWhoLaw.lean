/- WholeEpochs: true. Condition: what is asked lies in memory. -/
import Derived.Test.YthhcbmljckgncaaWhoMath
namespace Go.Proofs.Ythhcbmljckgncaa.who
set_option maxRecDepth 100000
open Go.RowKit Go.Proofs.Ythhcbmljckgncaa.words Go.Proofs.Ythhcbmljckgncaa.lru Go.Proofs.Ythhcbmljckgncaa.sha Go.Proofs.Ythhcbmljckgncaa.mpf
open Go.Proofs.Ythhcbmljckgncaa.lrd (Ent)
open Go.Proofs.Ythhcbmljckgncaa.lrl (Lst)
open Go.Proofs.Ythhcbmljckgncaa.dca (Dc childB root right_len)
open Go.Proofs.Ythhcbmljckgncaa.lca (Lc Enr enC)

theorem zeroU8 (w : World) : (zeroValue 5).run Try.prog w = .ok (.int .u8 0) w := by kernel_rfl
theorem ents1_news {gs : List Nat} {r n : Nat} (M : ByteArray → Option Nat) : Ents1 n (shd.news gs r) M := fun i c k xe hc hm => by
  unfold shd.news at hc
  rw [List.getElem?_map] at hc
  rcases hg : gs[i]? with _ | g
  · rw [hg] at hc; cases hc
  · rw [hg] at hc
    injection hc with hc
    subst hc
    cases hm
theorem ents2_news {w : World} {gs : List Nat} {r : Nat} : Ents2 w (shl.news gs r) := fun i c k xe hc hm => by
  unfold shl.news at hc
  rw [List.getElem?_map] at hc
  rcases hg : gs[i]? with _ | g
  · rw [hg] at hc; cases hc
  · rw [hg] at hc
    injection hc with hc
    subst hc
    cases hm
set_option maxHeartbeats 25600000 in
theorem law_epochs (A : Option Addr) (cap : Nat) (T : List Item) (mn rm : Nat) (w0 : World) (hT : Items w0 w0.heap.size A T) (hsz : ∀ y ∈ T, y.fine) (hlen : T.length ≤ 9223372036854775807) (hmn8 : mn ≤ 255) (hrm8 : rm ≤ 255) :
    Calls Try.prog 7 #[.slice A T.length cap, .int .u8 (mn : Int), .int .u8 (rm : Int)] w0 fun e w' => e = .returned (.bool true) ∧ Below w0.heap.size w0 w' := by
  obtain ⟨n, hn⟩ : ∃ n : Nat, (n : Int) = min (max (mn : Int) 1) 256 := ⟨(min (max (mn : Int) 1) 256).toNat, by omega⟩
  obtain ⟨r, hrr⟩ : ∃ r : Nat, (r : Int) = max (rm : Int) 1 := ⟨(max (rm : Int) 1).toNat, by omega⟩
  have hn12 : 0 < n ∧ n ≤ 256 := by omega
  have hmm := @run_makeMap Try.prog
  have m0 : (0 : Int) ≤ (mn : Int) := by omega
  have m1 : (mn : Int) ≤ 255 := by omega
  have p0 : (0 : Int) ≤ (rm : Int) := by omega
  have p1 : (rm : Int) ≤ 255 := by omega
  have hwm : IntKind.i64.wrap (mn : Int) = (mn : Int) := IntWalk.i64_in _ (by omega)
  have hwr : IntKind.i64.wrap (rm : Int) = (rm : Int) := IntWalk.i64_in _ (by omega)
  have HT := Lib.hid hT
  have HSZ := Lib.hid hsz
  have HN1 := Lib.hid (dca.dnew_any n r (mn : Int) (rm : Int) w0 hn hrr)
  have HN2 := Lib.hid (fun w => lca.lnew_any n r (mn : Int) (rm : Int) w hn hrr)
  clear hT hsz hn hrr
  go_enter Try.func7, Try.ntmps7
  go_wp2_with fail
  refine HN1.out.mono ?_
  rintro e w1 ⟨q1, h1, gs1, rfl, hgl1, hd1, hb1⟩
  have HD1 := Lib.hid hd1
  have HB1 := Lib.hid hb1
  clear hd1 hb1 HN1
  go_wp2_with fail
  refine (HN2.out _).mono ?_
  rintro e w2 ⟨q2, h2, gs2, rfl, hgl2, hl2, hb2⟩
  have hd2 := HD1.out.later hb2
  have c0 := cell_of_blk hd2.blk 0
  unfold ptrC at c0
  have HMY : Hid (Calls Try.prog 25 #[.pointer (some ⟨h1, 0, none⟩)] w2 fun e w' => e = .returned (.int .i64 (n : Int)) ∧ w2 = w') := Lib.hid (by
    have := shd.many_any w0.heap.size h1 (dca.gsOf (shd.news gs1 r)) w2 hd2.shd
    rw [dca.gs_len, dca.news_len, hgl1] at this
    exact this)
  have gn : ¬ (n : Int) < 1 := by omega
  have HB2 := Lib.hid (HB1.out.trans (hb2.mono HB1.out.size))
  obtain ⟨W4, hW4⟩ : ∃ W4, W4 = w2.alloc (.map #[] 0) := ⟨_, rfl⟩
  have hb4 : Below w2.heap.size w2 W4 := by rw [hW4]; exact (Below.refl _ _).alloc (Nat.le_refl _) _
  obtain ⟨bM, hbM⟩ : ∃ bM, bM = w2.heap.size := ⟨_, rfl⟩
  have HL2 : Lc w2 w0.heap.size q2 h2 (shl.news gs2 r) 0 := by
    obtain ⟨g1, g2, g3, g4⟩ := hl2
    have hle := HB1.out.size
    refine ⟨Nat.le_trans hle g1, g2, g3.mono hle, ⟨fun i c hc => ?_, g4.ok, g4.apart⟩⟩
    obtain ⟨k1, v, k2, k3, k4⟩ := g4.lru i c hc
    exact ⟨Nat.le_trans hle k1, v, k2, k3, own_mono k4 hle⟩
  have HS0 : Hid (Wh w0 n q1 h1 q2 h2 bM 0 0 (shd.news gs1 r) ((0 : Nat) : Int) ((0 : Nat) : Int) (shl.news gs2 r) (fun _ => none) (fun _ => none) [] W4) := Lib.hid
    ⟨hd2.later hb4, HL2.later hb4, by rw [hbM, hW4]; exact MapFn.made w2 Try.prog 9, HB2.out.trans (hb4.mono HB2.out.size), by rw [hbM]; exact HB2.out.size, by rw [dca.news_len]; exact hgl1, by rw [lca.news_len]; exact hgl2, fun i c hc => by
        unfold shd.news at hc
        obtain ⟨g, _, rfl⟩ := List.mem_map.1 (List.mem_of_getElem? hc)
        exact Nat.le_refl _, fun i c hc => by
        unfold shl.news at hc
        obtain ⟨g, _, rfl⟩ := List.mem_map.1 (List.mem_of_getElem? hc)
        exact Nat.le_refl _, ents1_news _, ents2_news, fun s e hs => (by cases hs), fun z hz => (by cases hz)⟩
  have HW4 := Lib.hid hW4
  have HBM := Lib.hid hbM
  clear hd2 hb2 hl2 HL2 hW4 hb4 hbM HN2 hgl1 hgl2
  go_wp2_with fail
  refine HMY.out.mono ?_
  rintro e wx ⟨rfl, rfl⟩
  by_cases h100 : T.length ≤ 100
  rotate_left
  · have g100 : (100 : Int) < (T.length : Int) := by omega
    have g101 : 100 < T.length := by omega
    go_wp2_with fail
    go_ret
    exact ⟨rfl, HB2.out⟩
  have g100 : ¬ (100 : Int) < (T.length : Int) := by omega
  have g101 : ¬ 100 < T.length := by omega
  go_upto_region 7 with fail
  rw [← HW4.out, ← HBM.out]
  clear c0 HMY
  go_wp2_with fail
  go_loopw [51] (fun v wr => ∃ (j x y : Nat) (C1 : List Cd) (C2 : List Cl) (M : ByteArray → Option Nat), v = .int .i64 (j : Int) ∧ j ≤ T.length ∧ x + y ≤ 6 * j ∧ Hid (Wh w0 n q1 h1 q2 h2 bM j j C1 (x : Int) (y : Int) C2 M M [] wr)) (fun v _ => T.length - (intOf v).toNat)
  case atStart => exact ⟨0, 0, 0, _, _, _, rfl, Nat.zero_le _, Nat.le_refl _, HS0⟩
  case round =>
    clear HS0
    obtain ⟨j, x, y, C1, C2, M, rfl, hj, hxy, HS⟩ := hrel
    have j0 : (0 : Int) ≤ (j : Int) := by omega
    by_cases hjl : j < T.length
    · obtain ⟨a, hx⟩ : ∃ x, T[j]? = some x := ⟨_, List.getElem?_eq_getElem hjl⟩
      obtain ⟨ba, oa, hAa, _, a0, a1, a2⟩ := (HT.out.keep HS.out.below) j _ hx
      subst hAa
      obtain ⟨hnm, hep⟩ := HSZ.out a (List.mem_of_getElem? hx)
      have j1 : (j : Int) < (T.length : Int) := by omega
      obtain ⟨W3, hW3⟩ : ∃ W3, W3 = wr.alloc (.cells #[.string a.nm, .int .u8 (a.ep : Int), .bool a.li] 95) := ⟨_, rfl⟩
      have hb3 : Below wr.heap.size wr W3 := by rw [hW3]; exact (Below.refl _ _).alloc (Nat.le_refl _) _
      have hk3 : W3.heap[wr.heap.size]? = some (.cells #[.string a.nm, .int .u8 (a.ep : Int), .bool a.li] 95 (0, 0)) := by rw [hW3]; exact heap_alloc_new wr _
      have HS3 := Lib.hid ((HS.out.later hb3).hold hk3 (by unfold dca.DS; decide) (by unfold lca.DS; decide))
      obtain ⟨ab, hab⟩ : ∃ ab, ab = wr.heap.size := ⟨_, rfl⟩
      rw [← hab] at HS3
      have HAB := Lib.hid hab
      have HW3' := Lib.hid hW3
      have HR := Lib.hid (fun wr => name.refright_any a.nm wr hnm)
      have ep0 : (0 : Int) ≤ (a.ep : Int) := by omega
      have ep1 : (a.ep : Int) ≤ 255 := by omega
      obtain ⟨e5, he5⟩ : ∃ e5 : Nat, e5 = a.ep % 5 := ⟨_, rfl⟩
      have et1 : (a.ep : Int).tmod 5 = (e5 : Int) := by rw [Int.tmod_eq_emod_of_nonneg (by omega)]; omega
      have et2 : (a.ep : Int) % 5 = (e5 : Int) := by omega
      have et3 : IntKind.i64.wrap (e5 : Int) = (e5 : Int) := IntWalk.i64_in _ (by omega)
      have et5 : e5 < 5 := by omega
      clear hx hb3 hk3 hW3 hab HS hep he5
      go_upto_region 10 with fail
      rw [← HW3'.out, ← HAB.out]
      clear a0 a1 a2
      have hka := (HS3.out.held ⟨ab, #[.string a.nm, .int .u8 (a.ep : Int), .bool a.li], 95⟩ (List.mem_cons_self ..)).1
      have a0 := cell_of_blk hka 0
      clear hka
      go_wp2_with fail
      refine (HR.out _).mono ?_
      rintro e wx ⟨rfl, rfl⟩
      rcases hr : name.right a.nm.data.toList with _ | _
      · have HF := Lib.hid HS3.out.below
        go_wp2_with fail
        go_ret
        exact ⟨rfl, HF.out⟩
      · have hnl : a.nm.size ≤ 64 := right_len hr
        have hks : a.nm.size ≤ maxLen := by simp only [maxLen]; omega
        have hkz : (root ++ a.nm).size ≤ 100 := by rw [ByteArray.size_append]; show 1 + a.nm.size ≤ 100; omega
        have HKZ := Lib.hid hkz
        unfold root at hkz
        clear hr HR a0
        go_wp2_with fail
        go_loopw [59] (fun v wr => ∃ (e x y : Nat) (C1 : List Cd) (C2 : List Cl), v = .int .i64 (e : Int) ∧ e ≤ 5 ∧ x + y ≤ 6 * j + e ∧ Hid (Wh w0 n q1 h1 q2 h2 bM j j C1 (x : Int) (y : Int) C2 M M [⟨ab, #[.string a.nm, .int .u8 (a.ep : Int), .bool a.li], 95⟩] wr)) (fun v _ => 5 - (intOf v).toNat)
        case atStart => exact ⟨0, x, y, _, _, rfl, Nat.zero_le _, hxy, HS3⟩
        case round =>
          clear HS3
          obtain ⟨e, x, y, C1, C2, rfl, he, hxy2, HS3⟩ := hrel
          have f0 : (0 : Int) ≤ (e : Int) := by omega
          have hka := (HS3.out.held ⟨ab, #[.string a.nm, .int .u8 (a.ep : Int), .bool a.li], 95⟩ (List.mem_cons_self ..)).1
          have a0 := cell_of_blk hka 0
          have a1 := cell_of_blk hka 1
          have a2 := cell_of_blk hka 2
          clear hka
          obtain ⟨o, hIs, hO⟩ := HS3.out.is hn12.1 a.nm
          have HIS := Lib.hid hIs
          have HO := Lib.hid hO
          clear hIs hO
          by_cases he5 : e < 5
          · have f1 : (e : Int) < 5 := by omega
            have HLK : Hid (Calls Try.prog 20 #[.pointer (some ⟨q1, 0, none⟩), .int .i64 (e : Int), .string ⟨#[47]⟩, .string a.nm] wr fun en w' => (∃ (x' y' : Nat) (C1' : List Cd) (A : Option Addr) (c' : Nat) (th : Bool) (kd lv nd : Int), en = .returned (.tuple #[.agg #[.int .i64 (e : Int), .bool th, .int .i64 kd, .int .i64 lv, .int .i64 nd, .slice A 0 c', .string a.nm], .bool true]) ∧ x' + y' ≤ 6 * j + (e + 1) ∧ Wh w0 n q1 h1 q2 h2 bM j j C1' (x' : Int) (y' : Int) C2 M M [⟨ab, #[.string a.nm, .int .u8 (a.ep : Int), .bool a.li], 95⟩] w')
                ∨ ∃ (x' y' : Nat) (C1' : List Cd), en = .returned (.tuple #[.agg #[.int .i64 0, .bool false, .int .i64 0, .int .i64 0, .int .i64 0, .slice none 0 0, .string ⟨#[]⟩], .bool false]) ∧ x' + y' ≤ 6 * j + (e + 1) ∧ Wh w0 n q1 h1 q2 h2 bM j j C1' (x' : Int) (y' : Int) C2 M M [⟨ab, #[.string a.nm, .int .u8 (a.ep : Int), .bool a.li], 95⟩] w') := Lib.hid (by
              by_cases hh : ∃ xe, o = some xe ∧ xe.ep = (e : Int)
              · obtain ⟨xe, hx, hxe⟩ := hh
                subst hx
                obtain ⟨_, _, _, t1, t2⟩ := HO.out xe rfl
                have := HS3.out.hit1 hn12 (by omega) hnl (by omega) HIS.out ⟨t1, t2⟩
                rw [hxe] at this
                refine this.mono ?_
                rintro en w' ⟨A, c', C1', rfl, _, hw⟩
                exact .inl ⟨x + 1, y, C1', A, c', _, _, _, _, rfl, by omega, hw⟩
              · refine (HS3.out.miss1 hn12 (by omega) hnl (by omega) HIS.out (e : Int) fun xe hx hxe => hh ⟨xe, hx, hxe⟩).mono ?_
                rintro en w' ⟨C1', rfl, _, hw⟩
                exact .inr ⟨x, y + 1, C1', rfl, by omega, hw⟩)
            have HSZ2 := Lib.hid (fun (x' y' : Nat) (C1' : List Cd) (w' : World) (hw : Wh w0 n q1 h1 q2 h2 bM j j C1' (x' : Int) (y' : Int) C2 M M [⟨ab, #[.string a.nm, .int .u8 (a.ep : Int), .bool a.li], 95⟩] w') => hw.look2 hn12 (by omega) (root ++ a.nm) HKZ.out (e : Int))
            unfold root at HSZ2
            clear HS3 HIS HO
            have gs : (a.nm.toList != a.nm.toList) = false := by simp
            have ge : ((e : Int) != (e : Int)) = false := by simp
            go_wp2_with fail
            refine HLK.out.mono ?_
            rintro en w5 (⟨x', y', C1', A5, c5, th, kd, lv, nd, rfl, hxy3, hw5⟩ | ⟨x', y', C1', rfl, hxy3, hw5⟩)
            · obtain ⟨W6, hW6⟩ : ∃ W6, W6 = w5.alloc (.cells #[.int .i64 (e : Int), .bool th, .int .i64 kd, .int .i64 lv, .int .i64 nd, .slice A5 0 c5, .string a.nm] 50) := ⟨_, rfl⟩
              have hb6 : Below w5.heap.size w5 W6 := by rw [hW6]; exact (Below.refl _ _).alloc (Nat.le_refl _) _
              have hk6 : W6.heap[w5.heap.size]? = some (.cells #[.int .i64 (e : Int), .bool th, .int .i64 kd, .int .i64 lv, .int .i64 nd, .slice A5 0 c5, .string a.nm] 50 (0, 0)) := by rw [hW6]; exact heap_alloc_new w5 _
              have hw6 := hw5.later hb6
              have hka := (hw6.held ⟨ab, #[.string a.nm, .int .u8 (a.ep : Int), .bool a.li], 95⟩ (List.mem_cons_self ..)).1
              clear a0 a1 a2
              have a0 := cell_of_blk hka 0
              have e0 := cell_of_blk hk6 0
              have e3 := cell_of_blk hk6 6
              have HL2 := Lib.hid (HSZ2.out x' y' C1' W6 hw6)
              have HW6 := Lib.hid hW6
              clear hka hb6 hk6 hw6 hw5 hW6 HLK HSZ2
              go_upto_region 16 with fail
              rw [← HW6.out]
              go_wp2_with fail
              refine HL2.out.mono ?_
              rintro en w7 ⟨C2', hw7, (rfl | ⟨b7, c7, rfl, hc7⟩)⟩
              · have HW7 := Lib.hid hw7
                clear hw7 a0 e0 e3
                go_wp2_with fail
                go_roundw
                case rel => exact ⟨e + 1, x', y', C1', C2', by go_num, by omega, hxy3, HW7⟩
                case measure => simp [intOf]; omega
              · have HW7 := Lib.hid hw7
                clear hw7 a0 e0 e3
                go_wp2_with fail
                go_roundw
                case rel => exact ⟨e + 1, x', y', C1', C2', by go_num, by omega, hxy3, HW7⟩
                case measure => simp [intOf]; omega
            · obtain ⟨W6, hW6⟩ : ∃ W6, W6 = w5.alloc (.cells #[.int .i64 0, .bool false, .int .i64 0, .int .i64 0, .int .i64 0, .slice none 0 0, .string ⟨#[]⟩] 50) := ⟨_, rfl⟩
              have hb6 : Below w5.heap.size w5 W6 := by rw [hW6]; exact (Below.refl _ _).alloc (Nat.le_refl _) _
              have hw6 := hw5.later hb6
              have hka := (hw6.held ⟨ab, #[.string a.nm, .int .u8 (a.ep : Int), .bool a.li], 95⟩ (List.mem_cons_self ..)).1
              clear a0 a1 a2
              have a0 := cell_of_blk hka 0
              have HL2 := Lib.hid (HSZ2.out x' y' C1' W6 hw6)
              have HW6 := Lib.hid hW6
              clear hka hb6 hw6 hw5 hW6 HLK HSZ2
              go_upto_region 16 with fail
              rw [← HW6.out]
              go_wp2_with fail
              refine HL2.out.mono ?_
              rintro en w7 ⟨C2', hw7, (rfl | ⟨b7, c7, rfl, hc7⟩)⟩
              · have HW7 := Lib.hid hw7
                clear hw7 a0
                go_wp2_with fail
                go_roundw
                case rel => exact ⟨e + 1, x', y', C1', C2', by go_num, by omega, hxy3, HW7⟩
                case measure => simp [intOf]; omega
              · have HW7 := Lib.hid hw7
                clear hw7 a0
                go_wp2_with fail
                go_roundw
                case rel => exact ⟨e + 1, x', y', C1', C2', by go_num, by omega, hxy3, HW7⟩
                case measure => simp [intOf]; omega
          · obtain rfl : e = 5 := by omega
            rcases hli : a.li with _ | _
            · rw [hli] at a2
              have HMF := Lib.hid HS3.out.map
              have HSM := Lib.hid HS3.out.small
              obtain ⟨e0, he0⟩ : ∃ e0, e0 = (M a.nm).getD 0 := ⟨_, rfl⟩
              obtain ⟨was, hwas⟩ : ∃ was, was = (M a.nm).isSome := ⟨_, rfl⟩
              have hv0 : ((M a.nm).map fun e : Nat => Value.int .u8 (e : Int)).getD (.int .u8 0) = .int .u8 (e0 : Int) := by rw [he0]; rcases M a.nm with _ | e <;> rfl
              have hv1 : ((M a.nm).map fun e : Nat => Value.int .u8 (e : Int)).isSome = was := by rw [hwas]; rcases M a.nm with _ | e <;> rfl
              have he05 : e0 < 5 := by
                rw [he0]
                rcases hm : M a.nm with _ | e
                · show (0 : Nat) < 5; omega
                · exact HSM.out a.nm e hm
              have q0 : (0 : Int) ≤ (e0 : Int) := by omega
              have q3 : IntKind.i64.wrap (e0 : Int) = (e0 : Int) := IntWalk.i64_in _ (by omega)
              have HV0 := Lib.hid hv0
              have HV1 := Lib.hid hv1
              have hin : o = none ∨ ∃ xe, o = some xe ∧ was = true ∧ xe.ep = (e0 : Int) ∧ xe.tg = a.nm ∧ xe.dn = 0 := by
                rcases o with _ | xe
                · exact .inl rfl
                · obtain ⟨e, t1, t2, t3, t4⟩ := HO.out xe rfl
                  refine .inr ⟨xe, rfl, by rw [hwas, t1]; rfl, ?_, t3, t4⟩
                  rw [t2, he0, t1]
                  rfl
              have HIN := Lib.hid hin
              clear he0 hwas hv0 hv1 hin HO
              rcases HIN.out with ho | ⟨xe, ho, hw, hxe, ht⟩
              · subst ho
                have HLK := Lib.hid (HS3.out.miss1 hn12 (by omega) hnl (by omega) HIS.out (e0 : Int) (fun xe hx => by cases hx))
                unfold root at HLK
                clear HS3 HIS HIN
                go_wp2_with (at_lookup; refine mpf.wpList_look_ok _ rfl _ _ 93 rfl 9 5 Try.underlying9 Try.underlying93 (zeroU8 _) bM j _ rfl HMF.out a.nm rfl hks (v := .int .u8 (e0 : Int)) HV0.out HV1.out ?_)
                refine HLK.out.mono ?_
                rintro en w5 ⟨C1', rfl, hi5, hw5⟩
                obtain ⟨W6, hW6⟩ : ∃ W6, W6 = w5.alloc (.cells #[.int .i64 0, .bool false, .int .i64 0, .int .i64 0, .int .i64 0, .slice none 0 0, .string ⟨#[]⟩] 50) := ⟨_, rfl⟩
                have hb6 : Below w5.heap.size w5 W6 := by rw [hW6]; exact (Below.refl _ _).alloc (Nat.le_refl _) _
                have hw6 := hw5.later hb6
                have hka := (hw6.held ⟨ab, #[.string a.nm, .int .u8 (a.ep : Int), .bool a.li], 95⟩ (List.mem_cons_self ..)).1
                clear a0 a1 a2
                have a0 := cell_of_blk hka 0
                have a1 := cell_of_blk hka 1
                have HKP := Lib.hid (hw6.keepYes hn12 (by omega) hnl e5 hi5 (fun xe hx => by cases hx))
                unfold root at HKP
                have HW6 := Lib.hid hW6
                clear hka hb6 hw6 hw5 hW6 HLK hi5
                go_upto_region 26 with fail
                rw [← HW6.out]
                go_wp2_with fail
                refine HKP.out.mono ?_
                rintro en w7 ⟨C1'', rfl, hw7⟩
                have hka := (hw7.held ⟨ab, #[.string a.nm, .int .u8 (a.ep : Int), .bool a.li], 95⟩ (List.mem_cons_self ..)).1
                clear a0 a1
                have a0 := cell_of_blk hka 0
                have a1 := cell_of_blk hka 1
                have HW7 := Lib.hid hw7
                have HM7 := Lib.hid hw7.map
                clear hka hw7
                go_wp2_with (at_mapUpdate; refine mpf.wpList_put _ rfl _ _ _ 93 rfl 9 5 Try.underlying9 Try.underlying93 bM j _ rfl HM7.out (by simp only [maxLen]; omega) a.nm (.int .u8 (e5 : Int)) rfl rfl hks ?_; intro w8 hm8 hg8)
                have HW8 := Lib.hid ((HW7.out.noted et5 hm8 hg8).drop)
                clear hm8 hg8 a0 a1
                go_wp2_with fail
                go_roundw
                case rel => exact ⟨j + 1, x, y + 1, _, _, _, by go_num, by omega, by omega, HW8⟩
                case measure => simp [intOf]; omega
              · subst ho
                have HLK : Hid (Calls Try.prog 20 #[.pointer (some ⟨q1, 0, none⟩), .int .i64 (e0 : Int), .string root, .string a.nm] wr fun e w' => ∃ (A : Option Addr) (c' : Nat) (C1' : List Cd), e = .returned (.tuple #[.agg #[.int .i64 (e0 : Int), .bool xe.th, .int .i64 xe.kd, .int .i64 xe.lv, .int .i64 xe.nd, .slice A 0 c', .string a.nm], .bool true]) ∧ Is1 n C1' a.nm (some xe) ∧ Wh w0 n q1 h1 q2 h2 bM j j C1' ((x : Int) + 1) (y : Int) C2 M M [⟨ab, #[.string a.nm, .int .u8 (a.ep : Int), .bool a.li], 95⟩] w') := Lib.hid (by
                  have := HS3.out.hit1 hn12 (by omega) hnl (by omega) HIS.out ht
                  rw [hxe] at this
                  exact this)
                unfold root at HLK
                have HXE := Lib.hid hxe
                clear HS3 HIS HIN hxe ht
                subst hw
                go_wp2_with (at_lookup; refine mpf.wpList_look_ok _ rfl _ _ 93 rfl 9 5 Try.underlying9 Try.underlying93 (zeroU8 _) bM j _ rfl HMF.out a.nm rfl hks (v := .int .u8 (e0 : Int)) HV0.out HV1.out ?_)
                refine HLK.out.mono ?_
                rintro en w5 ⟨A5, c5, C1', rfl, hi5, hw5⟩
                obtain ⟨W6, hW6⟩ : ∃ W6, W6 = w5.alloc (.cells #[.int .i64 (e0 : Int), .bool xe.th, .int .i64 xe.kd, .int .i64 xe.lv, .int .i64 xe.nd, .slice A5 0 c5, .string a.nm] 50) := ⟨_, rfl⟩
                have hb6 : Below w5.heap.size w5 W6 := by rw [hW6]; exact (Below.refl _ _).alloc (Nat.le_refl _) _
                have hw6 := hw5.later hb6
                have hka := (hw6.held ⟨ab, #[.string a.nm, .int .u8 (a.ep : Int), .bool a.li], 95⟩ (List.mem_cons_self ..)).1
                clear a0 a1 a2
                have a0 := cell_of_blk hka 0
                have a1 := cell_of_blk hka 1
                have HW6 := Lib.hid hW6
                by_cases hle : e0 ≤ e5
                · have HKP := Lib.hid (hw6.keepYes hn12 (by omega) hnl e5 hi5 (fun xe' hx => by injection hx with hx; subst hx; rw [HXE.out]; omega))
                  unfold root at HKP
                  clear hka hb6 hw6 hw5 hW6 HLK hi5
                  go_upto_region 26 with fail
                  rw [← HW6.out]
                  go_wp2_with fail
                  refine HKP.out.mono ?_
                  rintro en w7 ⟨C1'', rfl, hw7⟩
                  have hka := (hw7.held ⟨ab, #[.string a.nm, .int .u8 (a.ep : Int), .bool a.li], 95⟩ (List.mem_cons_self ..)).1
                  clear a0 a1
                  have a0 := cell_of_blk hka 0
                  have a1 := cell_of_blk hka 1
                  have HW7 := Lib.hid hw7
                  have HM7 := Lib.hid hw7.map
                  clear hka hw7
                  go_wp2_with (at_mapUpdate; refine mpf.wpList_put _ rfl _ _ _ 93 rfl 9 5 Try.underlying9 Try.underlying93 bM j _ rfl HM7.out (by simp only [maxLen]; omega) a.nm (.int .u8 (e5 : Int)) rfl rfl hks ?_; intro w8 hm8 hg8)
                  have HW8 := Lib.hid ((HW7.out.noted et5 hm8 hg8).drop)
                  clear hm8 hg8 a0 a1
                  go_wp2_with fail
                  go_roundw
                  case rel => exact ⟨j + 1, x + 1, y, _, _, _, by go_num, by omega, by omega, by push_cast; exact HW8⟩
                  case measure => simp [intOf]; omega
                · have HKP := Lib.hid (hw6.keepNo hn12 (by omega) hnl e5 hi5 (by rw [HXE.out]; omega))
                  unfold root at HKP
                  have gl : ¬ (e0 : Int) ≤ (e5 : Int) := by omega
                  clear hka hb6 hw6 hw5 hW6 HLK hi5
                  go_upto_region 26 with fail
                  rw [← HW6.out]
                  go_wp2_with fail
                  refine HKP.out.mono ?_
                  rintro en w7 ⟨C1'', rfl, hw7⟩
                  have hka := (hw7.held ⟨ab, #[.string a.nm, .int .u8 (a.ep : Int), .bool a.li], 95⟩ (List.mem_cons_self ..)).1
                  clear a0 a1
                  have a1 := cell_of_blk hka 1
                  have HW7 := Lib.hid ((hw7.drop).more (Nat.le_succ _) (Nat.le_succ _))
                  clear hka hw7
                  go_wp2_with fail
                  go_roundw
                  case rel => exact ⟨j + 1, x + 1, y, _, _, _, by go_num, by omega, by omega, by push_cast; exact HW7⟩
                  case measure => simp [intOf]; omega
            · rw [hli] at a2
              obtain ⟨W6, hW6⟩ : ∃ W6, W6 = wr.alloc (.cells #[.string a.nm, .int .i64 (e5 : Int)] 81) := ⟨_, rfl⟩
              have hb6 : Below wr.heap.size wr W6 := by rw [hW6]; exact (Below.refl _ _).alloc (Nat.le_refl _) _
              have hr6 : Enr W6 0 (.slice (some ⟨wr.heap.size, 0, none⟩) 1 1) [(a.nm, (e5 : Int))] := by
                rw [hW6]
                exact own_full wr 0 2 1 81 (([(a.nm, (e5 : Int))] : List (ByteArray × Int)).flatMap enC) (Nat.zero_le _) (by decide) rfl
              have HKP := Lib.hid ((HS3.out.later hb6).keep2 hn12 (by omega) (root ++ a.nm) HKZ.out (e5 : Int) a.nm wr.heap.size hr6)
              unfold root at HKP
              rw [hW6] at HKP
              clear hb6 hr6 hW6 HS3 HIS HO
              go_wp2_with fail
              refine HKP.out.mono ?_
              rintro en w7 ⟨C2', g, rfl, hw7⟩
              have HW7 := Lib.hid (hw7.drop.more (Nat.le_succ _) (Nat.le_refl _))
              clear hw7 a0 a1 a2
              go_wp2_with fail
              go_roundw
              case rel => exact ⟨j + 1, x, y, _, _, _, by go_num, by omega, by omega, HW7⟩
              case measure => simp [intOf]; omega
    · have HF := Lib.hid HS.out.below
      clear HS
      go_wp2_with fail
      go_ret
      exact ⟨rfl, HF.out⟩
end Go.Proofs.Ythhcbmljckgncaa.who
