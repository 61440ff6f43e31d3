/- What the image's reference reads of a directory, given what it reads one deeper. Condition: a text of a hundred thousand bytes at most. -/
import Derived.Test.YtapgagfeghfooaaDoorJImaGetMem
namespace Go.Proofs.YtapgagfeghfooaaDoor.ima
set_option maxRecDepth 100000
open Go.RowKit Go.Proofs.YtapgagfeghfooaaDoor.words Go.Proofs.YtapgagfeghfooaaDoor.ext Go.Proofs.YtapgagfeghfooaaDoor.name Go.Proofs.YtapgagfeghfooaaDoor.tre

/-- What get answers: R is what the plain reading finds. -/
def GetOut (s : ByteArray) (R : Option (Nd × List UInt8)) (w : World) (e : Ending) (w' : World) : Prop :=
  ((R = none ∧ e = .returned gotN) ∨ (∃ (n : Nd) (p : Nat) (pI : Int) (r : Raw), R = some (n, s.data.toList.drop p) ∧ p ≤ s.size ∧ pI = (p : Int) ∧ e = .returned (gotV n r pI) ∧ NdIn w' (Fresh w w') n r)) ∧ Below w.heap.size w w'
abbrev DirT := Option (List ByteArray × List Nd × List UInt8 × Nat)
def DirOut (s : ByteArray) (O : Bool) (R : DirT) (w : World) (e : Ending) (w' : World) : Prop :=
  ((R = none ∧ e = .returned gotN) ∨ (∃ (N : List ByteArray) (I : List Nd) (p : Nat) (c : Nat) (pI : Int) (r : Raw), R = some (N, I, s.data.toList.drop p, c) ∧ p ≤ s.size ∧ pI = (p : Int) ∧ e = .returned (gotV (.mk 2 O N I 0 [] ⟨#[]⟩) r pI) ∧ NdIn w' (Fresh w w') (.mk 2 O N I 0 [] ⟨#[]⟩) r)) ∧ Below w.heap.size w w'
theorem tail_list (s : ByteArray) (p : Nat) (h : p ≤ s.size) : (s.extract p s.size).data.toList = s.data.toList.drop p ∧ (s.extract p s.size).size = s.size - p := by
  have hl : s.data.toList.length = s.size := rfl
  have h1 := cut_list s p (s.size - p) (by omega)
  rw [show p + (s.size - p) = s.size by omega] at h1
  refine ⟨?_, h1.2⟩
  rw [h1.1, List.take_of_length_le (by rw [List.length_drop, hl]; omega)]
theorem set8_other {w : World} {g b : Nat} (h : b ≠ g) (u0 u1 u2 u3 u4 u5 u6 u7 : Value) : (set8 w g u0 u1 u2 u3 u4 u5 u6 u7).heap[b]? = w.heap[b]? := by
  unfold set8
  have e : ∀ (w : World) (j : Nat) (u : Value), (w.setCell ⟨g, j, none⟩ u).heap[b]? = w.heap[b]? := fun w j u => Below.heap_setCell w ⟨g, j, none⟩ u b h
  rw [e, e, e, e, e, e, e, e]
theorem set8_size (w : World) (g : Nat) (u0 u1 u2 u3 u4 u5 u6 u7 : Value) : w.heap.size ≤ (set8 w g u0 u1 u2 u3 u4 u5 u6 u7).heap.size := by
  unfold set8
  simp [World.setCell]
set_option maxHeartbeats 25600000 in
theorem get_dir (f : Nat) (s : ByteArray) (d : Int) (w : World) (h1 : ¬ 15 < d) (hd0 : 0 ≤ d) (h2 : 0 < s.size) (hsm : s.size ≤ 100000) (hkk : s[0].toNat = 2) (hne : ¬ (numB s 2 2 < 0 ∨ 1 < numB s 1 1)) (O : Bool) (hO : decide (numB s 1 1 = 1) = O) (R : DirT) (hR : dirR f s = R)
    (hget : ∀ (t : ByteArray) (w : World), t.size ≤ 100000 → Calls Tryd.prog 23 #[.string t, .int .i64 (d + 1)] w (GetOut t (getP f t.data.toList) w)) :
    Calls Tryd.prog 23 #[.string s, .int .i64 d] w (DirOut s O R w) := by
  obtain ⟨iS, hiS, zS0, zS1, zS2⟩ := info_parts infoString
  obtain ⟨iX, hiX, zX0, zX1, zX2⟩ := info_parts infoNode
  have hs4 : 4 ≤ s.size := by
    rcases Nat.lt_or_ge s.size 4 with h | h
    · exact absurd (.inl (by rw [numB_no (by omega)]; decide)) hne
    · exact h
  have hs1 : 1 < s.size := by omega
  have hone := numB_one hs1
  obtain ⟨q, hq⟩ : ∃ q : Nat, numB s 2 2 = (q : Int) := ⟨(numB s 2 2).toNat, by omega⟩
  have hqb := (numB_bounds s 2 2 (by decide)).2
  have HGT := Lib.hid hget
  have HRR : Hid (itP (getC f) q 0 (s.data.toList.drop 4) = R) := Lib.hid (by
    rw [← hR]
    unfold dirR
    rw [if_neg hne, hq, Int.toNat_natCast])
  have gO : ((s[1].toNat : Int) == 1) = O := by
    rw [← hO, hone]
    rfl
  have gle : ¬ (1 : Int) < (s[1].toNat : Int) := by
    rw [← hone]
    omega
  have gle2 : ¬ 1 < s[1].toNat := by omega
  have l3 : (1 : Int) < (s.size : Int) := by omega
  clear hget hR hone
  obtain ⟨W2, hW2⟩ : ∃ W2, W2 = (w.alloc (.cells got0 54)).alloc (.cells gotM 54) := ⟨_, rfl⟩
  have hG : GotM w w.heap.size W2 := by rw [hW2]; exact GotM.start w
  have HG := Lib.hid hG
  obtain ⟨g, hg⟩ : ∃ g, g = w.heap.size := ⟨_, rfl⟩
  have hs2 : W2.heap.size = w.heap.size + 2 := by rw [hW2]; simp
  unfold got0 gotM at hW2
  have HW2 := Lib.hid hW2
  clear hG hW2
  go_enter Tryd.func23, Tryd.ntmps23
  go_upto_region 2 with fail
  rw [← HW2.out]
  rw [← hg] at HG hs2 ⊢
  clear HW2 hg
  have l1 : ¬ (s.size : Int) < 1 := by omega
  have l2 : (0 : Int) < (s.size : Int) := by omega
  have hu : (s[0].toNat : Int) < 256 := by have := s[0].toNat_lt; omega
  go_upto_region 6 with fail
  obtain ⟨W3, hW3⟩ : ∃ W3, W3 = W2.alloc (.cells #[.int .i64 2, .bool false, .slice none 0 0, .slice none 0 0, .int .i64 0, .slice none 0 0, .string ⟨#[]⟩] 27) := ⟨_, rfl⟩
  rw [← hW3]
  have hb3 : Below W2.heap.size W2 W3 := by rw [hW3]; exact (Below.refl _ _).alloc (Nat.le_refl _) _
  have hk3 : W3.heap[W2.heap.size]? = some (.cells #[.int .i64 2, .bool false, .slice none 0 0, .slice none 0 0, .int .i64 0, .slice none 0 0, .string ⟨#[]⟩] 27 (0, 0)) := by rw [hW3]; exact heap_alloc_new W2 _
  rw [hs2] at hk3
  replace HG := Lib.hid (HG.out.later hb3)
  have HK := Lib.hid hk3
  clear hW3 hb3 hk3 hs2 hu
  clear hkk
  have HN1 := Lib.hid (show Calls Tryd.prog 49 #[.string s, .int .i64 2, .int .i64 2] W3 _ from number_any s 2 2 W3 (by decide) (by decide))
  rw [hq] at hqb
  obtain ⟨qi, hqi⟩ : ∃ qi : Int, qi = numB s 2 2 := ⟨_, rfl⟩
  rw [← hqi] at HN1 hq
  have HQI := Lib.hid hq
  have hq0 : 0 ≤ qi := by omega
  have hq1 : ¬ qi < 0 := by omega
  have hq2 : qi < 65536 := by omega
  clear hq hne hO hqi
  obtain ⟨W5, hW5⟩ : ∃ W5, W5 = W3.setCell ⟨g + 2, 1, none⟩ (.bool O) := ⟨_, rfl⟩
  have hD3 : Dg w W3 g false (.slice none 0 0) (.slice none 0 0) (.slice none 0 0) (.slice none 0 0) [] [] [] (fun _ => raw0) :=
    ⟨HG.out, HK.out, World.ownsRow_nil _ _ _ _, World.ownsRow_nil _ _ _ _, fun i x hx => by simp at hx, fun i x hx => by simp at hx⟩
  have HD5 := Lib.hid (show Dg w W5 g O (.slice none 0 0) (.slice none 0 0) (.slice none 0 0) (.slice none 0 0) [] [] [] (fun _ => raw0) by rw [hW5]; exact hD3.set 1 (.bool O) rfl)
  have b0 := cell_of_blk HK.out 0
  have b1 := cell_of_blk HK.out 1
  have b2 := cell_of_blk HK.out 2
  have b3 := cell_of_blk HK.out 3
  have b4 := cell_of_blk HK.out 4
  have b5 := cell_of_blk HK.out 5
  have b6 := cell_of_blk HK.out 6
  have f1 := free_of_blk HK.out 1
  have HW5 := Lib.hid hW5
  have hqn : q < 65536 := by omega
  clear hW5 hD3 HG HK hqb
  go_wp2_with fail
  refine HN1.out.mono ?_
  rintro e w4 ⟨rfl, rfl⟩
  go_upto_region 27 with fail
  rw [← HW5.out]
  clear HW5 HN1 b0 b1 b2 b3 b4 b5 b6 f1
  go_wp2_with fail
  go_loopw [13, 7] (fun v13 v7 wr => ∃ (i p : Nat) (pI : Int) (N : List ByteArray) (I : List Nd) (vn vi : Value) (rs : Nat → Raw), v13 = .int .i64 (i : Int) ∧ v7 = .int .i64 pI ∧ Hid (pI = (p : Int)) ∧ i ≤ q ∧ Hid (p ≤ s.size) ∧ Hid (N.length = i ∧ I.length = i) ∧ Hid (Dg w wr g O vn vi vn vi N I I rs) ∧ Hid (R = (itP (getC f) (q - i) 0 (s.data.toList.drop p)).map fun Q => (N ++ Q.1, I ++ Q.2.1, Q.2.2))) (fun v _ _ => q - (intOf v).toNat)
  case atStart => exact ⟨0, 4, 4, [], [], _, _, _, rfl, rfl, Lib.hid rfl, Nat.zero_le _, Lib.hid hs4, Lib.hid ⟨rfl, rfl⟩, HD5, Lib.hid (by rw [← HRR.out, Nat.sub_zero]; rcases itP (getC f) q 0 (s.data.toList.drop 4) with _ | ⟨a, b, c⟩ <;> rfl)⟩
  case round =>
    clear HD5 HRR
    obtain ⟨i, p, pI, N, I, vn, vi, rs, rfl, rfl, HP, hi, HL, HLen, HD, HX⟩ := hrel
    have hp0 : 0 ≤ pI := by have := HP.out; omega
    have hp1 : pI ≤ 100000 := by have := HP.out; have := HL.out; omega
    have i0 : (0 : Int) ≤ (i : Int) := by omega
    by_cases hlt : (i : Int) < qi
    · have hltn : i < q := by have := HQI.out; omega
      obtain ⟨qb, hqb⟩ : ∃ qb, numB s p 1 = qb := ⟨_, rfl⟩
      have hB4 := numB_bounds s p 1 (by decide)
      rw [hqb] at hB4
      obtain ⟨hB40, hB41⟩ := hB4
      have HNb : Hid (Calls Tryd.prog 49 #[.string s, .int .i64 pI, .int .i64 1] wr fun e w' => e = .returned (.int .i64 qb) ∧ w' = wr) := Lib.hid (by
        have h := number_any s p 1 wr (by decide) (by have := HL.out; omega)
        rw [hqb, ← HP.out] at h
        exact h)
      have HQb := Lib.hid hqb
      have HK1 : Hid (q - i = (q - (i + 1)) + 1) := Lib.hid (by omega)
      have r2 : -9223372036854775808 ≤ pI + 1 := by omega
      have r3 : pI + 1 < 9223372036854775808 := by omega
      have r4 : -9223372036854775808 ≤ pI + 1 + qb := by omega
      have r5 : pI + 1 + qb < 9223372036854775808 := by omega
      have w8 : IntKind.i64.wrap (pI + 1) = pI + 1 := IntWalk.i64_in _ (by omega)
      have w9 : IntKind.i64.wrap (pI + 1 + qb) = pI + 1 + qb := IntWalk.i64_in _ (by omega)
      clear hqb
      go_wp2_with fail
      refine HNb.out.mono ?_
      rintro e wb ⟨rfl, rfl⟩
      clear HNb
      by_cases hn0 : qb < 0
      · have HE := Lib.hid (show R = none by rw [HX.out, HK1.out, itP_few (.inl (by rw [HQb.out]; exact hn0))]; rfl)
        obtain ⟨n0, n1, n2, n3, n4, n5, n6, n7⟩ := HD.out.m.nons
        obtain ⟨a0, a1, a2, a3, a4, a5, a6, a7⟩ := HD.out.m.anss
        have z0 := HD.out.m.free 0
        have z1 := HD.out.m.free 1
        have z2 := HD.out.m.free 2
        have z3 := HD.out.m.free 3
        have z4 := HD.out.m.free 4
        have z5 := HD.out.m.free 5
        have z6 := HD.out.m.free 6
        have z7 := HD.out.m.free 7
        have b0 := cell_of_blk HD.out.box 0
        have b1 := cell_of_blk HD.out.box 1
        have b2 := cell_of_blk HD.out.box 2
        have b3 := cell_of_blk HD.out.box 3
        have b4 := cell_of_blk HD.out.box 4
        have b5 := cell_of_blk HD.out.box 5
        have b6 := cell_of_blk HD.out.box 6
        go_wp2_with fail
        obtain ⟨Wd, hWd, hbd, hkd⟩ := HD.out.m.none
        have p0 := cell_of_blk hkd 0
        have p1 := cell_of_blk hkd 1
        have p2 := cell_of_blk hkd 2
        have p3 := cell_of_blk hkd 3
        have p4 := cell_of_blk hkd 4
        have p5 := cell_of_blk hkd 5
        have p6 := cell_of_blk hkd 6
        have p7 := cell_of_blk hkd 7
        unfold set8 at hWd
        unfold gotM at p0 p1 p2 p3 p4 p5 p6 p7
        rw [← hWd]
        exact bodyPost_ret (v := gotN) (by simp [results, Tryd.results23, go_sem, gotN, p0, p1, p2, p3, p4, p5, p6, p7]) rfl ⟨.inl ⟨HE.out, rfl⟩, hbd⟩
      · by_cases hn1 : (s.size : Int) < pI + 1 + qb
        · have HE := Lib.hid (show R = none by rw [HX.out, HK1.out, itP_few (.inr (by rw [HQb.out, ← HP.out]; exact hn1))]; rfl)
          obtain ⟨n0, n1, n2, n3, n4, n5, n6, n7⟩ := HD.out.m.nons
          obtain ⟨a0, a1, a2, a3, a4, a5, a6, a7⟩ := HD.out.m.anss
          have z0 := HD.out.m.free 0
          have z1 := HD.out.m.free 1
          have z2 := HD.out.m.free 2
          have z3 := HD.out.m.free 3
          have z4 := HD.out.m.free 4
          have z5 := HD.out.m.free 5
          have z6 := HD.out.m.free 6
          have z7 := HD.out.m.free 7
          have b0 := cell_of_blk HD.out.box 0
          have b1 := cell_of_blk HD.out.box 1
          have b2 := cell_of_blk HD.out.box 2
          have b3 := cell_of_blk HD.out.box 3
          have b4 := cell_of_blk HD.out.box 4
          have b5 := cell_of_blk HD.out.box 5
          have b6 := cell_of_blk HD.out.box 6
          go_wp2_with fail
          obtain ⟨Wd, hWd, hbd, hkd⟩ := HD.out.m.none
          have p0 := cell_of_blk hkd 0
          have p1 := cell_of_blk hkd 1
          have p2 := cell_of_blk hkd 2
          have p3 := cell_of_blk hkd 3
          have p4 := cell_of_blk hkd 4
          have p5 := cell_of_blk hkd 5
          have p6 := cell_of_blk hkd 6
          have p7 := cell_of_blk hkd 7
          unfold set8 at hWd
          unfold gotM at p0 p1 p2 p3 p4 p5 p6 p7
          rw [← hWd]
          exact bodyPost_ret (v := gotN) (by simp [results, Tryd.results23, go_sem, gotN, p0, p1, p2, p3, p4, p5, p6, p7]) rfl ⟨.inl ⟨HE.out, rfl⟩, hbd⟩
        · obtain ⟨z, hzq⟩ : ∃ z : Nat, qb = (z : Int) := ⟨qb.toNat, by omega⟩
          have hpz : p + 1 + z ≤ s.size := by have := HP.out; omega
          obtain ⟨t, ht⟩ : ∃ t, t = s.extract (p + 1) (p + 1 + z) := ⟨_, rfl⟩
          have hts : t.size ≤ 140737488355328 := by rw [ht, ByteArray.size_extract]; omega
          obtain ⟨u, hu⟩ : ∃ u, u = s.extract (p + 1 + z) s.size := ⟨_, rfl⟩
          obtain ⟨hul, hus⟩ := tail_list s (p + 1 + z) hpz
          rw [← hu] at hul hus
          have hpi := HP.out
          have hsl : ∀ wx : World, (Instr.slice 9 (.string s) (some (.int .i64 (pI + 1))) (some (.int .i64 (pI + 1 + qb))) none).run Tryd.prog wx = .ok (.string t) wx := fun wx => by
            rw [run_slice_string_if (P := Tryd.prog) (w := wx) 9 s .i64 .i64 (pI + 1) (pI + 1 + qb) Tryd.underlying9, if_pos ⟨by omega, by omega⟩, if_pos ⟨by omega, by omega⟩, ht, show (pI + 1).toNat = p + 1 by omega, show (pI + 1 + qb).toNat = p + 1 + z by omega]
          have hsu : ∀ wx : World, (Instr.slice 9 (.string s) (some (.int .i64 (pI + 1 + qb))) none none).run Tryd.prog wx = .ok (.string u) wx := fun wx => by
            have h := run_slice_string_l (P := Tryd.prog) wx 9 s Tryd.underlying9 .i64 (pI + 1 + qb) (by omega) (by omega)
            rw [show (pI + 1 + qb).toNat = p + 1 + z by omega, ← hu] at h
            exact h
          have HGU := Lib.hid (fun wx => HGT.out u wx (by omega))
          have HN1 : Hid (numB s p 1 = (z : Int)) := Lib.hid (by rw [HQb.out]; exact hzq)
          have hNl : N.length ≤ 100000 := by have := HLen.out; omega
          have hIl : I.length ≤ 100000 := by have := HLen.out; omega
          have hgz : g + 3 ≤ wb.heap.size := HD.out.lt
          have b2 := cell_of_blk HD.out.box 2
          have b2o : ∀ o : Obj, (wb.alloc o).cell? ⟨g + 2, 2, none⟩ = some vn := fun o => cell_of_blk (HD.out.later ((Below.refl _ _).alloc (Nat.le_refl _) o)).box 2
          have HDA := Lib.hid (fun o : Obj => HD.out.later (((Below.refl _ _).alloc (Nat.le_refl _) o).drew))
          have HUL := Lib.hid hul
          have HUS := Lib.hid hus
          have HT := Lib.hid ht
          have HZQ := Lib.hid hzq
          have HPZ := Lib.hid hpz
          clear ht hu hul hus hpi HQb hzq hpz
          go_upto_region 33 with fail
          go_region_law
            ((refine step_append_lies _ (by rfl) _ _ _ (by rfl) (g + 3) 9 iS _ 1 16 Tryd.underlying23 hiS zS0 zS1 zS2 rfl (by omega) vn N.length (N.map Value.string) (by rfl) (HDA.out _).nrow
                ⟨wb.heap.size, 0, none⟩ 1 1 [.string t] (by rfl) (by rfl) (World.news_of_block (cs := #[.string t]) (t := 9) (fr := (0, 0)) (heap_alloc_new wb _)) (by simp [Value.oneCell'])
                (by omega) (by simp only [maxLen]; omega) (by omega) (by simp; omega) (wb.heap.size + 1) (by simp) ?_; intro gg cap w1 hown1 hgrow hat hlt1; have hc1 := cell_of_blk ((HDA.out _).nstay hgrow) 2; have hf1 := free_of_blk ((HDA.out _).nstay hgrow) 2))
          all_goals
            have HD6' := ((HDA.out _).names (x := t) hts hown1 hgrow (hat.imp (fun e => e) fun e => by rw [e]; simp [Value.ownBlock])).set 2 (.slice (some ⟨gg, 0, none⟩) (N.length + 1) cap) (O' := O) (bn' := .slice (some ⟨gg, 0, none⟩) (N.length + 1) cap) (bi' := vi) rfl
            obtain ⟨vn', hvn⟩ : ∃ vn', vn' = Value.slice (some ⟨gg, 0, none⟩) (N.length + 1) cap := ⟨_, rfl⟩
            obtain ⟨W6, hW6⟩ : ∃ W6, W6 = w1.setCell ⟨g + 2, 2, none⟩ (.slice (some ⟨gg, 0, none⟩) (N.length + 1) cap) := ⟨_, rfl⟩
            rw [← hW6, ← hvn] at HD6'
            have HD6 := Lib.hid HD6'
            have HW6 := Lib.hid hW6
            have HVN := Lib.hid hvn
            have wd : IntKind.i64.wrap (d + 1) = d + 1 := IntWalk.i64_in _ (by omega)
            clear HD6' hown1 hgrow hat hlt1 b2 b2o hsl hW6 hvn
            go_upto_region 34 with fail
            rw [← HW6.out]
            clear hc1 hf1
            go_wp2_with fail
            refine (HGU.out _).mono ?_
            rintro e w7 ⟨(⟨hno, rfl⟩ | ⟨n', p', pI', r', hRR, hp', hpI', rfl, hnd⟩), hb7⟩
            · unfold gotN
              obtain ⟨W8, hW8⟩ : ∃ W8, W8 = w7.alloc (.cells gotM 54) := ⟨_, rfl⟩
              have hb8 : Below w7.heap.size w7 W8 := by rw [hW8]; exact (Below.refl _ _).alloc (Nat.le_refl _) _
              have hk8 : W8.heap[w7.heap.size]? = some (.cells gotM 54 (0, 0)) := by rw [hW8]; exact heap_alloc_new w7 _
              have HD8 := Lib.hid ((HD6.out.later hb7).later hb8)
              have HE := Lib.hid (show R = none by rw [HX.out, HK1.out, itP_bad HN1.out HPZ.out (by rw [← HUL.out]; exact hno)]; rfl)
              have k7 : W8.cell? ⟨w7.heap.size, 7, none⟩ = some (.int .i64 (-1)) := cell_of_blk hk8 7
              unfold gotM at hW8
              have HW8 := Lib.hid hW8
              clear hb7 hb8 hk8 hW8 hno HX HGU
              go_upto_region 35 with fail
              rw [← HW8.out]
              obtain ⟨n0, n1, n2, n3, n4, n5, n6, n7⟩ := HD8.out.m.nons
              obtain ⟨a0, a1, a2, a3, a4, a5, a6, a7⟩ := HD8.out.m.anss
              have z0 := HD8.out.m.free 0
              have z1 := HD8.out.m.free 1
              have z2 := HD8.out.m.free 2
              have z3 := HD8.out.m.free 3
              have z4 := HD8.out.m.free 4
              have z5 := HD8.out.m.free 5
              have z6 := HD8.out.m.free 6
              have z7 := HD8.out.m.free 7
              have b0 := cell_of_blk HD8.out.box 0
              have b1 := cell_of_blk HD8.out.box 1
              have b2 := cell_of_blk HD8.out.box 2
              have b3 := cell_of_blk HD8.out.box 3
              have b4 := cell_of_blk HD8.out.box 4
              have b5 := cell_of_blk HD8.out.box 5
              have b6 := cell_of_blk HD8.out.box 6
              go_wp2_with fail
              obtain ⟨Wd, hWd, hbd, hkd⟩ := HD8.out.m.none
              have p0 := cell_of_blk hkd 0
              have p1 := cell_of_blk hkd 1
              have p2 := cell_of_blk hkd 2
              have p3 := cell_of_blk hkd 3
              have p4 := cell_of_blk hkd 4
              have p5 := cell_of_blk hkd 5
              have p6 := cell_of_blk hkd 6
              have p7 := cell_of_blk hkd 7
              unfold set8 at hWd
              unfold gotM at p0 p1 p2 p3 p4 p5 p6 p7
              rw [← hWd]
              exact bodyPost_ret (v := gotN) (by simp [results, Tryd.results23, go_sem, gotN, p0, p1, p2, p3, p4, p5, p6, p7]) rfl ⟨.inl ⟨HE.out, rfl⟩, hbd⟩
            · unfold gotV
              obtain ⟨W8, hW8⟩ : ∃ W8, W8 = w7.alloc (.cells #[.int .i64 n'.K, .bool n'.O, .slice r'.An n'.N.length r'.cn, .slice r'.Ai n'.I.length r'.ci, .int .i64 n'.S, .slice r'.Ae n'.E.length r'.ce, .string n'.T, .int .i64 pI'] 54) := ⟨_, rfl⟩
              have hb8 : Below w7.heap.size w7 W8 := by rw [hW8]; exact (Below.refl _ _).alloc (Nat.le_refl _) _
              have hk8 : W8.heap[w7.heap.size]? = some (.cells #[.int .i64 n'.K, .bool n'.O, .slice r'.An n'.N.length r'.cn, .slice r'.Ai n'.I.length r'.ci, .int .i64 n'.S, .slice r'.Ae n'.E.length r'.ce, .string n'.T, .int .i64 pI'] 54 (0, 0)) := by rw [hW8]; exact heap_alloc_new w7 _
              obtain ⟨W9, hW9⟩ : ∃ W9, W9 = W8.alloc (.cells (rawCells n' r') 27) := ⟨_, rfl⟩
              have hb9 : Below W8.heap.size W8 W9 := by rw [hW9]; exact (Below.refl _ _).alloc (Nat.le_refl _) _
              have hk9 : W9.heap[W8.heap.size]? = some (.cells (rawCells n' r') 27 (0, 0)) := by rw [hW9]; exact heap_alloc_new W8 _
              have hb79 := hb8.trans (hb9.mono hb8.size)
              have HD8 := Lib.hid ((HD6.out.later hb7).later hb8)
              have hd9 := HD8.out.later hb9
              have hnd9 : NdIn W9 (fun b => W6.heap.size ≤ b ∧ b < W9.heap.size) n' r' := hnd.keep fun b hb => ⟨hb79.block b hb.2, hb.1, Nat.lt_of_lt_of_le hb.2 hb79.size⟩
              have HD9 := Lib.hid (hd9.pend HD6.out hnd9)
              have HNW := Lib.hid (World.news_of_block hk9)
              have HK7 : Hid (∀ w' : World, W9.grownBy w' vi.ownBlock → w'.cell? ⟨w7.heap.size, 7, none⟩ = some (.int .i64 pI')) := Lib.hid fun w' hg => by
                have hkk := (hb9.block _ (lt_of_some hk8)).trans hk8
                have hlt6 := HD6.out.irow.lt
                refine cell_of_blk ((hg.block _ (lt_of_some hkk) fun e => ?_).trans hkk) 7
                have h6 := (hlt6 _ e.symm).2
                have h7 := hb7.size
                omega
              have k7 : W8.cell? ⟨w7.heap.size, 7, none⟩ = some (.int .i64 pI') := cell_of_blk hk8 7
              have k0 := cell_of_blk hk8 0
              have k1 := cell_of_blk hk8 1
              have k2 := cell_of_blk hk8 2
              have k3 := cell_of_blk hk8 3
              have k4 := cell_of_blk hk8 4
              have k5 := cell_of_blk hk8 5
              have k6 := cell_of_blk hk8 6
              have e3 := cell_of_blk HD8.out.box 3
              have hgz9 : g + 3 ≤ W9.heap.size := hd9.lt
              have hpu : (p' : Int) ≤ 100000 := by have := HUS.out; omega
              have hq0' : ¬ pI' < 0 := by omega
              have hX2 : Hid (R = (itP (getC f) (q - (i + 1)) 0 (s.data.toList.drop (p + 1 + z + p'))).map fun Q => ((N ++ [t]) ++ Q.1, (I ++ [n']) ++ Q.2.1, Q.2.2)) := Lib.hid (by
                have hdd : u.data.toList.drop p' = s.data.toList.drop (p + 1 + z + p') := by rw [HUL.out, List.drop_drop]
                rw [HX.out, HK1.out, itP_next HN1.out HPZ.out (x := n') (l := s.data.toList.drop (p + 1 + z + p')) (by rw [← HUL.out, hRR, hdd]), ← HT.out]
                rcases itP (getC f) (q - (i + 1)) 0 (s.data.toList.drop (p + 1 + z + p')) with _ | ⟨N2, I2, l2⟩
                · rfl
                · simp)
              have HP2 := Lib.hid (show pI + 1 + qb + pI' = ((p + 1 + z + p' : Nat) : Int) by have := HP.out; have := HZQ.out; omega)
              have HL2 := Lib.hid (show p + 1 + z + p' ≤ s.size by have := HUS.out; have := HPZ.out; omega)
              have HLen2 := Lib.hid (show (N ++ [t]).length = i + 1 ∧ (I ++ [n']).length = i + 1 by rw [List.length_append, List.length_append, HLen.out.1, HLen.out.2]; exact ⟨rfl, rfl⟩)
              have w10 : IntKind.i64.wrap (pI + 1 + qb + pI') = pI + 1 + qb + pI' := IntWalk.i64_in _ (by omega)
              have HIO := Lib.hid (raw_one n' r')
              have HRC := Lib.hid (rowCells_rsPut I n' rs r')
              unfold rawCells at hW9
              have HW8 := Lib.hid hW8
              have HW9 := Lib.hid hW9.symm
              clear hb7 hb8 hk8 hb9 hk9 hb79 hd9 hnd9 hnd hRR hW8 hW9 HX HGU hp' hpI'
              go_upto_region 35 with fail
              rw [← HW8.out]
              go_wp2_with (at_builtin; rw [HW9.out]; refine wpList_append_lies _ rfl (.tmp 148) (.tmp 151) 24 rfl (g + 3) 27 iX _ 7 112 Tryd.underlying24 hiX zX0 zX1 zX2 rfl (by omega) vi I.length (rowCells I (rsPut rs I.length r')) rfl HD9.out.irow ⟨W8.heap.size, 0, none⟩ 1 1 (rawCells n' r').toList rfl rfl HNW.out HIO.out (by omega) (by simp only [maxLen]; omega) (by omega) (by omega) W9.heap.size rfl ?_; intro g2 cap2 w10' hown2 hgrow2 hat2 hlt2; have hbx := (hgrow2.block _ (lt_of_some HD9.out.box) (HD9.out.low.2 _ (by omega)).symm).trans HD9.out.box; have hc3 := cell_of_blk hbx 3; have hf3 := free_of_blk hbx 3; have k7' := HK7.out _ hgrow2)
              have HDn := Lib.hid ((HD9.out.entry (y := n') (vi' := .slice (some ⟨g2, 0, none⟩) (I.length + 1) cap2) (by rw [HRC.out]; exact hown2) hgrow2 (by rcases hat2 with e | e; exact .inl e; exact .inr (by rw [e]; rfl))).set 3 (.slice (some ⟨g2, 0, none⟩) (I.length + 1) cap2) (O' := O) (bn' := vn') (bi' := .slice (some ⟨g2, 0, none⟩) (I.length + 1) cap2) rfl)
              clear hown2 hgrow2 hat2 hlt2 hbx
              go_wp2_with fail
              go_roundw
              case rel => exact ⟨i + 1, p + 1 + z + p', pI + 1 + qb + pI', N ++ [t], I ++ [n'], vn', _, rsPut rs I.length r', by go_num, rfl, HP2, by omega, HL2, HLen2, HDn, hX2⟩
              case measure => simp [intOf]; omega
    · obtain ⟨An, cn, rfl, hcn, _⟩ := own_facts HD.out.nrow
      obtain ⟨Ai, ci, rfl, hci, _⟩ := own_facts HD.out.irow
      have HR2 := Lib.hid (show R = some (N, I, s.data.toList.drop p, 0) by
        rw [HX.out, show q - i = 0 by have := HQI.out; omega]
        show some (N ++ [], I ++ [], _) = _
        rw [List.append_nil, List.append_nil])
      have HLE := Lib.hid (show N.length ≤ 100000 ∧ I.length ≤ 100000 by have := HLen.out; omega)
      clear hcn hci HX
      obtain ⟨n0, n1, n2, n3, n4, n5, n6, n7⟩ := HD.out.m.nons
      obtain ⟨a0, a1, a2, a3, a4, a5, a6, a7⟩ := HD.out.m.anss
      have z0 := HD.out.m.free 0
      have z1 := HD.out.m.free 1
      have z2 := HD.out.m.free 2
      have z3 := HD.out.m.free 3
      have z4 := HD.out.m.free 4
      have z5 := HD.out.m.free 5
      have z6 := HD.out.m.free 6
      have z7 := HD.out.m.free 7
      have b0 := cell_of_blk HD.out.box 0
      have b1 := cell_of_blk HD.out.box 1
      have b2 := cell_of_blk HD.out.box 2
      have b3 := cell_of_blk HD.out.box 3
      have b4 := cell_of_blk HD.out.box 4
      have b5 := cell_of_blk HD.out.box 5
      have b6 := cell_of_blk HD.out.box 6
      go_wp2_with fail
      obtain ⟨Wd, hWd, hbd, hkd⟩ := HD.out.m.put (.int .i64 2) (.bool O) (.slice An N.length cn) (.slice Ai I.length ci) (.int .i64 0) (.slice none 0 0) (.string ⟨#[]⟩) (.int .i64 pI)
      have hnd := HD.out.node HLE.out (w' := Wd) (fun b hb _ => by rw [hWd]; exact set8_other (by omega) _ _ _ _ _ _ _ _) (by rw [hWd]; exact set8_size ..)
      have p0 := cell_of_blk hkd 0
      have p1 := cell_of_blk hkd 1
      have p2 := cell_of_blk hkd 2
      have p3 := cell_of_blk hkd 3
      have p4 := cell_of_blk hkd 4
      have p5 := cell_of_blk hkd 5
      have p6 := cell_of_blk hkd 6
      have p7 := cell_of_blk hkd 7
      unfold set8 at hWd
      rw [← hWd]
      exact bodyPost_ret (v := gotV (.mk 2 O N I 0 [] ⟨#[]⟩) ⟨An, cn, Ai, ci, none, 0⟩ pI) (by simp [results, Tryd.results23, go_sem, gotV, p0, p1, p2, p3, p4, p5, p6, p7, Nd.K, Nd.O, Nd.N, Nd.I, Nd.S, Nd.E, Nd.T]) rfl ⟨.inr ⟨N, I, p, 0, pI, _, HR2.out, HL.out, HP.out, rfl, hnd⟩, hbd⟩
end Go.Proofs.YtapgagfeghfooaaDoor.ima
