/- DcacheOwn: true. Condition: the name lies in memory. -/
import Derived.Test.YthhcbmljckgncaaDcaSpeak
namespace Go.Proofs.Ythhcbmljckgncaa.dca
set_option maxRecDepth 100000
open Go.RowKit Go.Proofs.Ythhcbmljckgncaa.words Go.Proofs.Ythhcbmljckgncaa.lru Go.Proofs.Ythhcbmljckgncaa.sha Go.Proofs.Ythhcbmljckgncaa.lrd Go.Proofs.Ythhcbmljckgncaa.shd

theorem Sp.far {w : World} {lo : Nat} {A : Option Addr} {n : Nat} {P : List (Int × Int)} {p : Addr} (h : Sp w lo A n P) (hne : ∀ b off, A = some ⟨b, off, none⟩ → b ≠ p.block) (u : Value) : Sp (w.setCell p u) lo A n P :=
  ⟨h.1, fun i x hx => by
    obtain ⟨b, off, cs, h1, h2, h3, h4⟩ := h.2 i x hx
    exact ⟨b, off, cs, h1, h2, (Below.heap_setCell w p u b (hne b off h1)).trans h3, h4⟩⟩
theorem spotKept {w : World} {b : Nat} {cs : Array Value} {f : Nat × Nat} (h : w.heap[b]? = some (.cells cs 44 f)) (j : Nat) (u : Value) : Kept (fun t => t = 44) 0 w (w.setCell ⟨b, j, none⟩ u) :=
  (Kept.refl (fun t => t = 44) _ _).setCell (p := ⟨b, j, none⟩) (Nat.zero_le _) ⟨_, _, _, h, rfl⟩ u
/-- What is remembered of an action, and where. -/
structure Kpt (w0 w : World) (q h g : Nat) (a : Act15) (k : ByteArray) (A : Option Addr) (c : Nat) (x : Int) : Prop where
  dc : ∃ bo, Dc w w0.heap.size q h [⟨g, bo, 1, [(k, moved (entE a 0) A c)]⟩] x 0
  sp : Sp w w0.heap.size A 1 [(a.mr, 0)]
  below : Below w0.heap.size w0 w
theorem Kpt.later {w0 w w' : World} {q h g : Nat} {a : Act15} {k : ByteArray} {A : Option Addr} {c : Nat} {x : Int} (p : Kpt w0 w q h g a k A c x) (hb : Below w.heap.size w w') : Kpt w0 w' q h g a k A c x := by
  obtain ⟨bo, d⟩ := p.dc
  exact ⟨⟨bo, d.later hb⟩, p.sp.later hb, p.below.trans (hb.mono p.below.size)⟩
theorem Kpt.spot {w0 w : World} {q h g : Nat} {a : Act15} {k : ByteArray} {A : Option Addr} {c b : Nat} {x : Int} {cs : Array Value} {f : Nat × Nat} (p : Kpt w0 w q h g a k A c x) (hb : w.heap[b]? = some (.cells cs 44 f)) (hne : ∀ b' off, A = some ⟨b', off, none⟩ → b' ≠ b) (hlo : w0.heap.size ≤ b) (j : Nat) (u : Value) : Kpt w0 (w.setCell ⟨b, j, none⟩ u) q h g a k A c x := by
  obtain ⟨bo, d⟩ := p.dc
  have hk := spotKept hb j u
  exact ⟨⟨bo, d.kept hk (by decide) (by decide) (by decide) (by decide) (by decide)⟩, p.sp.far hne u, p.below.setCell (p := ⟨b, j, none⟩) hlo u⟩
theorem Kpt.look {w0 w : World} {q h g : Nat} {a : Act15} {dir k : ByteArray} {A : Option Addr} {c : Nat} {x : Int} (p : Kpt w0 w q h g a k A c x) (hk : k = childB dir a.nm) (hd : dir.size ≤ 1000) (hs : a.nm.size ≤ 1000) (hx : 0 ≤ x ∧ x ≤ 1000) :
    Calls Try.prog 20 #[.pointer (some ⟨q, 0, none⟩), .int .i64 a.ep, .string dir, .string a.nm] w fun e w' => ∃ (b o c' : Nat), e = .returned (.tuple #[.agg #[.int .i64 a.ep, .bool a.th, .int .i64 a.mr, .int .i64 0, .int .i64 0, .slice (some ⟨b, o, none⟩) 1 c', .string a.nm], .bool true]) ∧ w.heap.size ≤ b ∧ Sp w' w.heap.size (some ⟨b, o, none⟩) 1 [(a.mr, 0)] ∧ (∃ cs, w'.heap[b]? = some (.cells cs 44 (0, 0)) ∧ cs[o]? = some (.int .i64 a.mr) ∧ cs[o + 1]? = some (.int .i64 0)) ∧ Kpt w0 w' q h g a k A c (x + 1) := by
  obtain ⟨bo, d⟩ := p.dc
  obtain ⟨g1, g2, g3⟩ := got_one k (moved (entE a 0) A c)
  refine (look_yes w0.heap.size q h 0 ⟨g, bo, 1, [(k, moved (entE a 0) A c)]⟩ _ x 0 a.ep dir a.nm k w d p.below.size hk (by simp) (by simp) (by have := ofF_lt k (n := 1) (by decide); show 0 = ofF k 1; omega) rfl (by simp) hd hs (by omega) w0.heap.size [(a.mr, 0)] (by simp) g1 (by rw [g2]; rfl) (by rw [g2]; exact p.sp)).mono ?_
  rintro e w' ⟨A', c', rfl, hsp, ⟨bo2, hd2⟩, hk2⟩
  rw [g2] at hsp ⊢
  obtain ⟨b, off, cs, hA, hb, hh, hc1, hc2⟩ := hsp.2 0 (a.mr, 0) rfl
  subst hA
  refine ⟨b, off, c', rfl, hb, hsp, ⟨cs, hh, hc1, hc2⟩, ⟨bo2, ?_⟩, p.sp.kept hk2 (by unfold DS; decide), p.below.trans (hk2.below p.below.size)⟩
  rw [g3] at hd2
  exact hd2
theorem right_len {s : ByteArray} (h : name.right s.data.toList = true) : s.size ≤ 64 := by
  rcases Nat.lt_or_ge 64 s.size with hl | hl
  · rw [name.right_short (.inr (.inr (.inr (by rw [name.size_list]; exact hl))))] at h
    cases h
  · exact hl
def Told (w : World) (e : Ending) (w' : World) : Prop := e = .returned (.bool true) ∧ Below w.heap.size w w'
set_option maxHeartbeats 12800000 in
theorem law_own (a : Act15) (w : World) (hdr : a.dr ≤ 255) (hnm : a.nm.size ≤ 9223372036854775807) :
    Calls Try.prog 4 #[.agg #[.bool a.kp, .bool a.th, .int .u8 (a.dr : Int), .string a.nm, .int .i64 a.ep, .int .i64 a.mr]] w (Told w) := by
  obtain ⟨W1, hW1⟩ : ∃ W1, W1 = w.alloc (.cells #[.bool a.kp, .bool a.th, .int .u8 (a.dr : Int), .string a.nm, .int .i64 a.ep, .int .i64 a.mr] 30) := ⟨_, rfl⟩
  have hb1 : Below w.heap.size w W1 := by rw [hW1]; exact (Below.refl _ _).alloc (Nat.le_refl _) _
  have hk1 : W1.heap[w.heap.size]? = some (.cells #[.bool a.kp, .bool a.th, .int .u8 (a.dr : Int), .string a.nm, .int .i64 a.ep, .int .i64 a.mr] 30 (0, 0)) := by rw [hW1]; exact heap_alloc_new w _
  have HACT : Hid (∀ wr : World, Below W1.heap.size W1 wr → (wr.cell? ⟨w.heap.size, 0, none⟩ = some (.bool a.kp) ∧ wr.cell? ⟨w.heap.size, 1, none⟩ = some (.bool a.th) ∧ wr.cell? ⟨w.heap.size, 2, none⟩ = some (.int .u8 (a.dr : Int)) ∧ wr.cell? ⟨w.heap.size, 3, none⟩ = some (.string a.nm) ∧ wr.cell? ⟨w.heap.size, 4, none⟩ = some (.int .i64 a.ep) ∧ wr.cell? ⟨w.heap.size, 5, none⟩ = some (.int .i64 a.mr))) := Lib.hid fun wr hb => by
    have hh := (hb.block _ (lt_of_some hk1)).trans hk1
    exact ⟨cell_of_blk hh 0, cell_of_blk hh 1, cell_of_blk hh 2, cell_of_blk hh 3, cell_of_blk hh 4, cell_of_blk hh 5⟩
  have HSPK := Lib.hid (speaks_any W1)
  have HR := Lib.hid (fun wr => name.refright_any a.nm wr hnm)
  have HDIR := Lib.hid (fun wr => dir_any a.dr wr hdr)
  have HB1 := Lib.hid hb1
  have HW1 := Lib.hid hW1
  clear hb1 hk1 hW1
  go_enter Try.func4, Try.ntmps4
  go_upto_region 1 with fail
  rw [← HW1.out]
  go_wp2_with fail
  refine HSPK.out.mono ?_
  rintro e w1 ⟨rfl, hbs⟩
  have HBS := Lib.hid hbs
  clear hbs HSPK
  obtain ⟨a0, a1, a2, a3, a4, a5⟩ := HACT.out w1 HBS.out
  go_wp2_with fail
  refine (HR.out _).mono ?_
  rintro e wx ⟨rfl, rfl⟩
  rcases hr : name.right a.nm.data.toList with _ | _
  · have HF := Lib.hid (HB1.out.trans (HBS.out.mono HB1.out.size))
    go_wp2_with fail
    go_ret
    exact ⟨rfl, HF.out⟩
  · have hnl : a.nm.size ≤ 64 := right_len hr
    have HNL := Lib.hid hnl
    clear hr hnl
    go_upto_region 5 with fail
    obtain ⟨dir, hdir⟩ : ∃ dir, dir = dirB a.dr := ⟨_, rfl⟩
    have hds : dir.size ≤ 1000 := by have := dirB_size a.dr; rw [hdir]; omega
    have HDS := Lib.hid hds
    rw [← hdir] at HDIR
    have HN := Lib.hid (dnew_any 1 1 1 1 w1.drew (by decide) (by decide))
    have HSD : Hid (w1.drew.cell? ⟨w.heap.size, 2, none⟩ = some (.int .u8 (a.dr : Int))) := Lib.hid a2
    have HS2 : Hid (∀ wr : World, Below w1.heap.size w1 wr → wr.cell? ⟨w.heap.size, 2, none⟩ = some (.int .u8 (a.dr : Int))) := Lib.hid fun wr hb => (HACT.out wr (HBS.out.trans (hb.mono HBS.out.size))).2.2.1
    have HBD : Hid (Below w1.heap.size w1 w1.drew) := Lib.hid (Below.refl _ _).drew
    clear a0 a1 a2 a3 a4 a5 hdir hds
    refine wp_region_held_drew (S := fun w' => w'.cell? ⟨w.heap.size, 2, none⟩ = some (.int .u8 (a.dr : Int))) (by kernel_rfl) HSD.out (fun hHeld => ?_)
    refine wpAnyH_take (i := 1) (oi := ⟨some 17, _, _, _, _, _⟩) (v := ?_) rfl (by kernel_rfl) (by kernel_rfl) (by kernel_rfl) (fun _ _ _ h => h) (Or.inl ⟨by kernel_rfl, ?_⟩) (by assumption) ?_
    rotate_left 1
    focus (intro w' hSw; (try dsimp only at hSw); go_simp; (try with_reducible rfl))
    try simp only [Act.put, List.setIfInBounds_toArray, List.set_cons_zero, List.set_cons_succ]
    refine wpAnyH_take (i := 2) (oi := ⟨some 18, _, _, _, _, _⟩) (v := ?_) rfl (by kernel_rfl) (by kernel_rfl) (by kernel_rfl) (fun _ _ _ h => h) (Or.inl ⟨by kernel_rfl, ?_⟩) (by assumption) ?_
    rotate_left 1
    focus (intro w' hSw; (try dsimp only at hSw); go_simp; (try with_reducible rfl))
    try simp only [Act.put, List.setIfInBounds_toArray, List.set_cons_zero, List.set_cons_succ]
    refine wpAnyH_ready (rs := [0]) (by kernel_rfl) (by simp) ?_
    refine AllReadyH.cons rfl (fun K hK => ?_) AllReadyH.nil
    go_simp
    go_at_call 9
    refine (HN.out).mono ?_
    rintro en w2 ⟨q, h, gs, rfl, hgl, hd, hb⟩
    have HGL := Lib.hid hgl
    have HD2 := Lib.hid hd
    have HB2 := Lib.hid (HBD.out.trans hb)
    clear hgl hd hb
    clear hHeld
    refine hK.out _ _ (HS2.out _ HB2.out) (fun hHeld => ?_)
    clear hK
    refine wpAnyH_ready (rs := [3]) (by kernel_rfl) (by simp) ?_
    refine AllReadyH.cons rfl (fun K hK => ?_) AllReadyH.nil
    go_simp
    go_at_call 11
    refine ((HDIR.out _)).mono ?_
    rintro en wx ⟨rfl, rfl⟩
    clear hHeld
    refine hK.out _ _ (HS2.out _ HB2.out) (fun hHeld => ?_)
    clear hK
    refine wpAnyH_take (i := 4) (oi := ⟨some 3, _, _, _, _, _⟩) (v := ?_) rfl (by kernel_rfl) (by kernel_rfl) (by kernel_rfl) (fun _ _ _ h => h) (Or.inl ⟨by kernel_rfl, ?_⟩) (by assumption) ?_
    rotate_left 1
    focus (intro w' hSw; (try dsimp only at hSw); go_simp; (try with_reducible rfl))
    try simp only [Act.put, List.setIfInBounds_toArray, List.set_cons_zero, List.set_cons_succ]
    refine wpAnyH_take (i := 5) (oi := ⟨some 4, _, _, _, _, _⟩) (v := ?_) rfl (by kernel_rfl) (by kernel_rfl) (by kernel_rfl) (fun _ _ _ h => h) (Or.inl ⟨by kernel_rfl, ?_⟩) (by assumption) ?_
    rotate_left 1
    focus (intro w' hSw; (try dsimp only at hSw); go_simp; (try with_reducible rfl))
    try simp only [Act.put, List.setIfInBounds_toArray, List.set_cons_zero, List.set_cons_succ]
    refine wpAnyH_done (by kernel_rfl) ?_ _
    clear hHeld HSD
    obtain ⟨k, hk⟩ : ∃ k, k = childB dir a.nm := ⟨_, rfl⟩
    have HK := Lib.hid hk
    clear hk
    obtain ⟨a0, a1, a2, a3, a4, a5⟩ := HACT.out w2 (HBS.out.trans (HB2.out.mono HBS.out.size))
    have HE1 := Lib.hid (entry_any a w2)
    go_wp2_with fail
    refine HE1.out.mono ?_
    rintro en w3 ⟨⟨b, rfl, hbb, hkb⟩, hb3⟩
    obtain ⟨W4, hW4⟩ : ∃ W4, W4 = w3.alloc (.cells #[.int .i64 a.ep, .bool a.th, .int .i64 a.mr, .int .i64 0, .int .i64 0, .slice (some ⟨b, 0, none⟩) 1 1, .string a.nm] 50) := ⟨_, rfl⟩
    have hb4 : Below w3.heap.size w3 W4 := by rw [hW4]; exact (Below.refl _ _).alloc (Nat.le_refl _) _
    have hx4 : W4.heap[w3.heap.size]? = some (.cells #[.int .i64 a.ep, .bool a.th, .int .i64 a.mr, .int .i64 0, .int .i64 0, .slice (some ⟨b, 0, none⟩) 1 1, .string a.nm] 50 (0, 0)) := by rw [hW4]; exact heap_alloc_new w3 _
    have hkb4 : W4.heap[b]? = some (.cells #[.int .i64 a.mr, .int .i64 0] 44 (0, 0)) := (hb4.block _ (lt_of_some hkb)).trans hkb
    have hb24 : Below w2.heap.size w2 W4 := hb3.trans (hb4.mono hb3.size)
    have HB24 := Lib.hid (HB2.out.trans (hb24.mono HB2.out.size))
    have hbw : w1.heap.size ≤ b := Nat.le_trans HB2.out.size hbb
    obtain ⟨g, hg⟩ : ∃ g, gs = [g] := by
      have := HGL.out
      match gs, this with
      | [g], _ => exact ⟨g, rfl⟩
    have hd4 : Dc W4 w1.heap.size q h [⟨g, none, 1, []⟩] 0 0 := by
      have := HD2.out.later hb24
      rw [hg] at this
      exact this
    have HKP : Hid (Calls Try.prog 17 #[.pointer (some ⟨q, 0, none⟩), .string dir, .string a.nm, .agg #[.int .i64 a.ep, .bool a.th, .int .i64 a.mr, .int .i64 0, .int .i64 0, .slice (some ⟨b, 0, none⟩) 1 1, .string a.nm]] W4 fun e w' => e = .returned (.bool true) ∧ ∃ A c, Kpt w1 w' q h g a k A c 0 ∧ (∀ b' off, A = some ⟨b', off, none⟩ → b' ≠ b) ∧ Below W4.heap.size W4 W4 ∧ Kept DS w1.heap.size W4 w') := Lib.hid (by
      have hkx : (0 : Nat) = ofF k 1 := by have := ofF_lt k (n := 1) (by decide); omega
      refine (keep_yes w1.heap.size q h 0 ⟨g, none, 1, []⟩ _ 0 0 (entE a b) dir a.nm k W4 hd4 HB24.out.size HK.out (by simp) (by simp) hkx rfl (by simp) HDS.out (by have := HNL.out; omega) w1.heap.size [(a.mr, 0)] (by simp) (Sp.one hkb4 hbw) (.inl rfl)).mono ?_
      rintro e w' ⟨rfl, A, c', hsp, ⟨bo', hdd⟩, hkk⟩
      rw [put_one k _ (show (1 : Nat) ≤ 1 by omega)] at hdd
      refine ⟨rfl, A, c', ⟨⟨bo', hdd⟩, hsp.mono HB24.out.size, HB24.out.trans (hkk.below HB24.out.size)⟩, fun b' off hA => ?_, Below.refl _ _, hkk⟩
      obtain ⟨b2, o2, h1, h2, _⟩ := hsp.at (i := 0) (p := (a.mr, 0)) rfl
      rw [hA] at h1
      injection h1 with h1
      injection h1 with h1
      subst h1
      have := lt_of_some hkb4
      omega)
    have HX4 := Lib.hid hx4
    have HKB4 := Lib.hid hkb4
    have HBW := Lib.hid hbw
    have HW4 := Lib.hid hW4
    clear a0 a1 a2 a3 a4 a5 hbb hkb hb3 hb4 hx4 hkb4 hb24 hbw hg hd4 hW4 HE1
    obtain ⟨a0, a1, a2, a3, a4, a5⟩ := HACT.out W4 (HBS.out.trans (HB24.out.mono HBS.out.size))
    have e0 := cell_of_blk HX4.out 0
    have e1 := cell_of_blk HX4.out 1
    have e2 := cell_of_blk HX4.out 2
    have e3 := cell_of_blk HX4.out 3
    have e4 := cell_of_blk HX4.out 4
    have e5 := cell_of_blk HX4.out 5
    have e6 := cell_of_blk HX4.out 6
    go_upto_region 7 with fail
    rw [← HW4.out]
    go_wp2_with fail
    refine HKP.out.mono ?_
    rintro en w5 ⟨rfl, A, c, hkp, hne, -, hk5⟩
    have hx5 := hk5.blk HX4.out (by unfold DS; decide)
    have hkb5 := hk5.blk HKB4.out (by unfold DS; decide)
    have f5 := cell_of_blk hx5 5
    have s0 := cell_of_blk hkb5 0
    have fs0 := free_of_blk hkb5 0
    obtain ⟨m1, hm1⟩ : ∃ m1, IntKind.i64.wrap (a.mr + 1) = m1 := ⟨_, rfl⟩
    have hkp6 := hkp.spot hkb5 hne HBW.out 0 (.int .i64 m1)
    obtain ⟨w6, hw6⟩ : ∃ w6, w6 = w5.setCell ⟨b, 0, none⟩ (.int .i64 m1) := ⟨_, rfl⟩
    rw [← hw6] at hkp6
    have HW6 := Lib.hid hw6
    have HKP6 := Lib.hid hkp6
    have HL6 := Lib.hid (hkp6.look HK.out HDS.out (by have := HNL.out; omega) (by decide))
    clear a0 a1 a2 a3 a4 a5 e0 e1 e2 e3 e4 e5 e6 hkp hne hk5 hx5 hkb5 hkp6 hw6 HKP
    go_upto_region 10 with fail
    rw [← HW6.out]
    clear f5 s0 fs0 hm1
    obtain ⟨a0, a1, a2, a3, a4, a5⟩ := HACT.out w6 (HBS.out.trans (HKP6.out.below.mono HBS.out.size))
    go_wp2_with fail
    refine HL6.out.mono ?_
    rintro en w7 ⟨b7, o7, c7, rfl, hb7, hsp7, hcs7, hkp7⟩
    obtain ⟨W8, hW8⟩ : ∃ W8, W8 = w7.alloc (.cells #[.int .i64 a.ep, .bool a.th, .int .i64 a.mr, .int .i64 0, .int .i64 0, .slice (some ⟨b7, o7, none⟩) 1 c7, .string a.nm] 50) := ⟨_, rfl⟩
    have hb8 : Below w7.heap.size w7 W8 := by rw [hW8]; exact (Below.refl _ _).alloc (Nat.le_refl _) _
    have hx8 : W8.heap[w7.heap.size]? = some (.cells #[.int .i64 a.ep, .bool a.th, .int .i64 a.mr, .int .i64 0, .int .i64 0, .slice (some ⟨b7, o7, none⟩) 1 c7, .string a.nm] 50 (0, 0)) := by rw [hW8]; exact heap_alloc_new w7 _
    have HKP8 := Lib.hid (hkp7.later hb8)
    have HSP8 := Lib.hid (hsp7.later hb8)
    have HCS8 : Hid (∃ cs, W8.heap[b7]? = some (.cells cs 44 (0, 0)) ∧ cs[o7]? = some (.int .i64 a.mr) ∧ cs[o7 + 1]? = some (.int .i64 0)) := Lib.hid (by
      obtain ⟨cs, h1, h2, h3⟩ := hcs7
      exact ⟨cs, (hb8.block _ (lt_of_some h1)).trans h1, h2, h3⟩)
    have HX8 := Lib.hid hx8
    have HB7 := Lib.hid hb7
    have HW8 := Lib.hid hW8
    clear a0 a1 a2 a3 a4 a5 hb7 hsp7 hcs7 hkp7 hb8 hx8 hW8 HL6
    have HBX : Hid (∀ w' : World, Below W8.heap.size W8 w' → Below W1.heap.size W1 w') := Lib.hid fun w' hb => HBS.out.trans ((HKP8.out.below.trans (hb.mono HKP8.out.below.size)).mono HBS.out.size)
    have HSS : Hid (∀ w' : World, Below W8.heap.size W8 w' → (w'.cell? ⟨w.heap.size, 0, none⟩ = some (.bool a.kp) ∧ w'.cell? ⟨w.heap.size, 1, none⟩ = some (.bool a.th) ∧ w'.cell? ⟨w.heap.size, 2, none⟩ = some (.int .u8 (a.dr : Int)) ∧ w'.cell? ⟨w.heap.size, 3, none⟩ = some (.string a.nm) ∧ w'.cell? ⟨w.heap.size, 4, none⟩ = some (.int .i64 a.ep) ∧ w'.cell? ⟨w.heap.size, 5, none⟩ = some (.int .i64 a.mr) ∧ w'.cell? ⟨w7.heap.size, 0, none⟩ = some (.int .i64 a.ep) ∧ w'.cell? ⟨w7.heap.size, 1, none⟩ = some (.bool a.th) ∧ w'.cell? ⟨w7.heap.size, 2, none⟩ = some (.int .i64 a.mr) ∧ w'.cell? ⟨w7.heap.size, 3, none⟩ = some (.int .i64 0) ∧ w'.cell? ⟨w7.heap.size, 4, none⟩ = some (.int .i64 0) ∧ w'.cell? ⟨w7.heap.size, 5, none⟩ = some (.slice (some ⟨b7, o7, none⟩) 1 c7) ∧ w'.cell? ⟨w7.heap.size, 6, none⟩ = some (.string a.nm))) := Lib.hid fun w' hb => by
      have hx := (hb.block _ (lt_of_some HX8.out)).trans HX8.out
      obtain ⟨r0, r1, r2, r3, r4, r5⟩ := HACT.out w' (HBX.out w' hb)
      exact ⟨r0, r1, r2, r3, r4, r5, cell_of_blk hx 0, cell_of_blk hx 1, cell_of_blk hx 2, cell_of_blk hx 3, cell_of_blk hx 4, cell_of_blk hx 5, cell_of_blk hx 6⟩
    have HBD8 : Hid (Below W8.heap.size W8 W8.drew) := Lib.hid (Below.refl _ _).drew
    have HE8 := Lib.hid (entry_any a W8.drew)
    have HSM : Hid (∀ (b' : Nat) (w' : World), Below W8.heap.size W8 w' → W8.heap.size ≤ b' → w'.heap[b']? = some (.cells #[.int .i64 a.mr, .int .i64 0] 44 (0, 0)) → Calls Try.prog 21 #[.agg #[.int .i64 a.ep, .bool a.th, .int .i64 a.mr, .int .i64 0, .int .i64 0, .slice (some ⟨b7, o7, none⟩) 1 c7, .string a.nm], .agg #[.int .i64 a.ep, .bool a.th, .int .i64 a.mr, .int .i64 0, .int .i64 0, .slice (some ⟨b', 0, none⟩) 1 1, .string a.nm]] w' fun e w'' => e = .returned (.bool true) ∧ Below w'.heap.size w' w'') := Lib.hid fun b' w' hb hle hk => same_any (entE a b') (some ⟨b7, o7, none⟩) (some ⟨b', 0, none⟩) c7 1 _ _ [(a.mr, 0)] w' (HSP8.out.later hb) (Sp.one hk (Nat.zero_le _)) (by simp)
    go_upto_region 11 with fail
    rw [← HW8.out]
    refine wp_region_held_drew (S := fun w' => (w'.cell? ⟨w.heap.size, 0, none⟩ = some (.bool a.kp) ∧ w'.cell? ⟨w.heap.size, 1, none⟩ = some (.bool a.th) ∧ w'.cell? ⟨w.heap.size, 2, none⟩ = some (.int .u8 (a.dr : Int)) ∧ w'.cell? ⟨w.heap.size, 3, none⟩ = some (.string a.nm) ∧ w'.cell? ⟨w.heap.size, 4, none⟩ = some (.int .i64 a.ep) ∧ w'.cell? ⟨w.heap.size, 5, none⟩ = some (.int .i64 a.mr) ∧ w'.cell? ⟨w7.heap.size, 0, none⟩ = some (.int .i64 a.ep) ∧ w'.cell? ⟨w7.heap.size, 1, none⟩ = some (.bool a.th) ∧ w'.cell? ⟨w7.heap.size, 2, none⟩ = some (.int .i64 a.mr) ∧ w'.cell? ⟨w7.heap.size, 3, none⟩ = some (.int .i64 0) ∧ w'.cell? ⟨w7.heap.size, 4, none⟩ = some (.int .i64 0) ∧ w'.cell? ⟨w7.heap.size, 5, none⟩ = some (.slice (some ⟨b7, o7, none⟩) 1 c7) ∧ w'.cell? ⟨w7.heap.size, 6, none⟩ = some (.string a.nm))) (by kernel_rfl) (HSS.out _ HBD8.out) (fun hHeld => ?_)
    refine wpAnyH_take (i := 0) (oi := ⟨some 48, _, _, _, _, _⟩) (v := ?_) rfl (by kernel_rfl) (by kernel_rfl) (by kernel_rfl) (fun _ _ _ h => h) (Or.inl ⟨by kernel_rfl, ?_⟩) (by assumption) ?_
    rotate_left 1
    focus (intro w' hSw; (try dsimp only at hSw); go_simp; (try with_reducible rfl))
    try simp only [Act.put, List.setIfInBounds_toArray, List.set_cons_zero, List.set_cons_succ]
    refine wpAnyH_take (i := 1) (oi := ⟨some 49, _, _, _, _, _⟩) (v := ?_) rfl (by kernel_rfl) (by kernel_rfl) (by kernel_rfl) (fun _ _ _ h => h) (Or.inl ⟨by kernel_rfl, ?_⟩) (by assumption) ?_
    rotate_left 1
    focus (intro w' hSw; (try dsimp only at hSw); go_simp; (try with_reducible rfl))
    try simp only [Act.put, List.setIfInBounds_toArray, List.set_cons_zero, List.set_cons_succ]
    refine wpAnyH_take (i := 2) (oi := ⟨some 50, _, _, _, _, _⟩) (v := ?_) rfl (by kernel_rfl) (by kernel_rfl) (by kernel_rfl) (fun _ _ _ h => h) (Or.inl ⟨by kernel_rfl, ?_⟩) (by assumption) ?_
    rotate_left 1
    focus (intro w' hSw; (try dsimp only at hSw); go_simp; (try with_reducible rfl))
    try simp only [Act.put, List.setIfInBounds_toArray, List.set_cons_zero, List.set_cons_succ]
    refine wpAnyH_take (i := 3) (oi := ⟨some 51, _, _, _, _, _⟩) (v := ?_) rfl (by kernel_rfl) (by kernel_rfl) (by kernel_rfl) (fun _ _ _ h => h) (Or.inl ⟨by kernel_rfl, ?_⟩) (by assumption) ?_
    rotate_left 1
    focus (intro w' hSw; (try dsimp only at hSw); go_simp; (try with_reducible rfl))
    try simp only [Act.put, List.setIfInBounds_toArray, List.set_cons_zero, List.set_cons_succ]
    refine wpAnyH_take (i := 4) (oi := ⟨some 52, _, _, _, _, _⟩) (v := ?_) rfl (by kernel_rfl) (by kernel_rfl) (by kernel_rfl) (fun _ _ _ h => h) (Or.inl ⟨by kernel_rfl, ?_⟩) (by assumption) ?_
    rotate_left 1
    focus (intro w' hSw; (try dsimp only at hSw); go_simp; (try with_reducible rfl))
    try simp only [Act.put, List.setIfInBounds_toArray, List.set_cons_zero, List.set_cons_succ]
    refine wpAnyH_ready (rs := [5]) (by kernel_rfl) (by simp) ?_
    refine AllReadyH.cons rfl (fun K hK => ?_) AllReadyH.nil
    go_simp
    go_at_call 18
    refine (HE8.out).mono ?_
    rintro en w9 ⟨⟨b9, rfl, hb9, hk9⟩, hbb9⟩
    have HB9 := Lib.hid (HBD8.out.trans hbb9)
    have HSMx := Lib.hid (HSM.out b9 w9 HB9.out hb9 hk9)
    clear hb9 hk9 hbb9
    clear hHeld
    refine hK.out _ _ (HSS.out _ HB9.out) (fun hHeld => ?_)
    clear hK
    refine wpAnyH_ready (rs := [6]) (by kernel_rfl) (by simp) ?_
    refine AllReadyH.cons rfl (fun K hK => ?_) AllReadyH.nil
    go_simp
    go_at_call 21
    refine (HSMx.out).mono ?_
    rintro en w10 ⟨rfl, hbb10⟩
    have HB10 := Lib.hid (HB9.out.trans (hbb10.mono HB9.out.size))
    clear hbb10
    clear hHeld
    refine hK.out _ _ (HSS.out _ HB10.out) (fun hHeld => ?_)
    clear hK
    refine wpAnyH_take (i := 7) (oi := ⟨some 55, _, _, _, _, _⟩) (v := ?_) rfl (by kernel_rfl) (by kernel_rfl) (by kernel_rfl) (fun _ _ _ h => h) (Or.inl ⟨by kernel_rfl, ?_⟩) (by assumption) ?_
    rotate_left 1
    focus (intro w' hSw; (try dsimp only at hSw); go_simp; (try with_reducible rfl))
    try simp only [Act.put, List.setIfInBounds_toArray, List.set_cons_zero, List.set_cons_succ]
    refine wpAnyH_take (i := 8) (oi := ⟨some 56, _, _, _, _, _⟩) (v := ?_) rfl (by kernel_rfl) (by kernel_rfl) (by kernel_rfl) (fun _ _ _ h => h) (Or.inl ⟨by kernel_rfl, ?_⟩) (by assumption) ?_
    rotate_left 1
    focus (intro w' hSw; (try dsimp only at hSw); go_simp; (try with_reducible rfl))
    try simp only [Act.put, List.setIfInBounds_toArray, List.set_cons_zero, List.set_cons_succ]
    refine wpAnyH_done (by kernel_rfl) ?_ _
    clear hHeld
    obtain ⟨cs, hcb, hc0, hc1⟩ := HCS8.out
    have hcb10 := (HB10.out.block _ (lt_of_some hcb)).trans hcb
    have hx10 := (HB10.out.block _ (lt_of_some HX8.out)).trans HX8.out
    have f5 := cell_of_blk hx10 5
    have s1 := (cell_of_blk hcb10 (o7 + 1)).trans hc1
    have fs1 := free_of_blk hcb10 (o7 + 1)
    have hfar : ∀ b' off, A = some ⟨b', off, none⟩ → b' ≠ b7 := fun b' off hA => by
      obtain ⟨b2, o2, h1, _, h2, _⟩ := HKP6.out.sp.at (i := 0) (p := (a.mr, 0)) rfl
      rw [hA] at h1
      injection h1 with h1
      injection h1 with h1
      subst h1
      have := HB7.out
      omega
    have hlo7 : w1.heap.size ≤ b7 := Nat.le_trans HKP6.out.below.size HB7.out
    have hkp11 := (HKP8.out.later HB10.out).spot hcb10 hfar hlo7 (o7 + 1) (.int .i64 1)
    obtain ⟨w11, hw11⟩ : ∃ w11, w11 = w10.setCell ⟨b7, o7 + 1, none⟩ (.int .i64 1) := ⟨_, rfl⟩
    rw [← hw11] at hkp11
    have HW11 := Lib.hid hw11
    have HKP11 := Lib.hid hkp11
    have HL11 := Lib.hid (hkp11.look HK.out HDS.out (by have := HNL.out; omega) (by decide))
    clear hcb hc0 hc1 hcb10 hx10 hfar hlo7 hkp11 hw11
    go_upto_region 14 with fail
    rw [← HW11.out]
    clear f5 s1 fs1
    obtain ⟨a0, a1, a2, a3, a4, a5⟩ := HACT.out w11 (HBS.out.trans (HKP11.out.below.mono HBS.out.size))
    go_wp2_with fail
    refine HL11.out.mono ?_
    rintro en w12 ⟨b12, o12, c12, rfl, hb12, hsp12, -, hkp12⟩
    obtain ⟨W13, hW13⟩ : ∃ W13, W13 = w12.alloc (.cells #[.int .i64 a.ep, .bool a.th, .int .i64 a.mr, .int .i64 0, .int .i64 0, .slice (some ⟨b12, o12, none⟩) 1 c12, .string a.nm] 50) := ⟨_, rfl⟩
    have hb13 : Below w12.heap.size w12 W13 := by rw [hW13]; exact (Below.refl _ _).alloc (Nat.le_refl _) _
    have hx13 : W13.heap[w12.heap.size]? = some (.cells #[.int .i64 a.ep, .bool a.th, .int .i64 a.mr, .int .i64 0, .int .i64 0, .slice (some ⟨b12, o12, none⟩) 1 c12, .string a.nm] 50 (0, 0)) := by rw [hW13]; exact heap_alloc_new w12 _
    have HB13 := Lib.hid ((hkp12.later hb13).below)
    have HSP13 := Lib.hid (hsp12.later hb13)
    have HX13 := Lib.hid hx13
    have HW13 := Lib.hid hW13
    clear a0 a1 a2 a3 a4 a5 hb12 hsp12 hkp12 hb13 hx13 hW13 HL11
    have HBY : Hid (∀ w' : World, Below W13.heap.size W13 w' → Below W1.heap.size W1 w') := Lib.hid fun w' hb => HBS.out.trans ((HB13.out.trans (hb.mono HB13.out.size)).mono HBS.out.size)
    have HST : Hid (∀ w' : World, Below W13.heap.size W13 w' → (w'.cell? ⟨w.heap.size, 0, none⟩ = some (.bool a.kp) ∧ w'.cell? ⟨w.heap.size, 1, none⟩ = some (.bool a.th) ∧ w'.cell? ⟨w.heap.size, 2, none⟩ = some (.int .u8 (a.dr : Int)) ∧ w'.cell? ⟨w.heap.size, 3, none⟩ = some (.string a.nm) ∧ w'.cell? ⟨w.heap.size, 4, none⟩ = some (.int .i64 a.ep) ∧ w'.cell? ⟨w.heap.size, 5, none⟩ = some (.int .i64 a.mr) ∧ w'.cell? ⟨w12.heap.size, 0, none⟩ = some (.int .i64 a.ep) ∧ w'.cell? ⟨w12.heap.size, 1, none⟩ = some (.bool a.th) ∧ w'.cell? ⟨w12.heap.size, 2, none⟩ = some (.int .i64 a.mr) ∧ w'.cell? ⟨w12.heap.size, 3, none⟩ = some (.int .i64 0) ∧ w'.cell? ⟨w12.heap.size, 4, none⟩ = some (.int .i64 0) ∧ w'.cell? ⟨w12.heap.size, 5, none⟩ = some (.slice (some ⟨b12, o12, none⟩) 1 c12) ∧ w'.cell? ⟨w12.heap.size, 6, none⟩ = some (.string a.nm))) := Lib.hid fun w' hb => by
      have hx := (hb.block _ (lt_of_some HX13.out)).trans HX13.out
      obtain ⟨r0, r1, r2, r3, r4, r5⟩ := HACT.out w' (HBY.out w' hb)
      exact ⟨r0, r1, r2, r3, r4, r5, cell_of_blk hx 0, cell_of_blk hx 1, cell_of_blk hx 2, cell_of_blk hx 3, cell_of_blk hx 4, cell_of_blk hx 5, cell_of_blk hx 6⟩
    have HBD13 : Hid (Below W13.heap.size W13 W13.drew) := Lib.hid (Below.refl _ _).drew
    have HE13 := Lib.hid (entry_any a W13.drew)
    have HSM2 : Hid (∀ (b' : Nat) (w' : World), Below W13.heap.size W13 w' → W13.heap.size ≤ b' → w'.heap[b']? = some (.cells #[.int .i64 a.mr, .int .i64 0] 44 (0, 0)) → Calls Try.prog 21 #[.agg #[.int .i64 a.ep, .bool a.th, .int .i64 a.mr, .int .i64 0, .int .i64 0, .slice (some ⟨b12, o12, none⟩) 1 c12, .string a.nm], .agg #[.int .i64 a.ep, .bool a.th, .int .i64 a.mr, .int .i64 0, .int .i64 0, .slice (some ⟨b', 0, none⟩) 1 1, .string a.nm]] w' fun e w'' => e = .returned (.bool true) ∧ Below w'.heap.size w' w'') := Lib.hid fun b' w' hb hle hk => same_any (entE a b') (some ⟨b12, o12, none⟩) (some ⟨b', 0, none⟩) c12 1 _ _ [(a.mr, 0)] w' (HSP13.out.later hb) (Sp.one hk (Nat.zero_le _)) (by simp)
    go_upto_region 15 with fail
    rw [← HW13.out]
    refine wp_region_held_drew (S := fun w' => (w'.cell? ⟨w.heap.size, 0, none⟩ = some (.bool a.kp) ∧ w'.cell? ⟨w.heap.size, 1, none⟩ = some (.bool a.th) ∧ w'.cell? ⟨w.heap.size, 2, none⟩ = some (.int .u8 (a.dr : Int)) ∧ w'.cell? ⟨w.heap.size, 3, none⟩ = some (.string a.nm) ∧ w'.cell? ⟨w.heap.size, 4, none⟩ = some (.int .i64 a.ep) ∧ w'.cell? ⟨w.heap.size, 5, none⟩ = some (.int .i64 a.mr) ∧ w'.cell? ⟨w12.heap.size, 0, none⟩ = some (.int .i64 a.ep) ∧ w'.cell? ⟨w12.heap.size, 1, none⟩ = some (.bool a.th) ∧ w'.cell? ⟨w12.heap.size, 2, none⟩ = some (.int .i64 a.mr) ∧ w'.cell? ⟨w12.heap.size, 3, none⟩ = some (.int .i64 0) ∧ w'.cell? ⟨w12.heap.size, 4, none⟩ = some (.int .i64 0) ∧ w'.cell? ⟨w12.heap.size, 5, none⟩ = some (.slice (some ⟨b12, o12, none⟩) 1 c12) ∧ w'.cell? ⟨w12.heap.size, 6, none⟩ = some (.string a.nm))) (by kernel_rfl) (HST.out _ HBD13.out) (fun hHeld => ?_)
    refine wpAnyH_take (i := 0) (oi := ⟨some 76, _, _, _, _, _⟩) (v := ?_) rfl (by kernel_rfl) (by kernel_rfl) (by kernel_rfl) (fun _ _ _ h => h) (Or.inl ⟨by kernel_rfl, ?_⟩) (by assumption) ?_
    rotate_left 1
    focus (intro w' hSw; (try dsimp only at hSw); go_simp; (try with_reducible rfl))
    try simp only [Act.put, List.setIfInBounds_toArray, List.set_cons_zero, List.set_cons_succ]
    refine wpAnyH_take (i := 1) (oi := ⟨some 77, _, _, _, _, _⟩) (v := ?_) rfl (by kernel_rfl) (by kernel_rfl) (by kernel_rfl) (fun _ _ _ h => h) (Or.inl ⟨by kernel_rfl, ?_⟩) (by assumption) ?_
    rotate_left 1
    focus (intro w' hSw; (try dsimp only at hSw); go_simp; (try with_reducible rfl))
    try simp only [Act.put, List.setIfInBounds_toArray, List.set_cons_zero, List.set_cons_succ]
    refine wpAnyH_take (i := 2) (oi := ⟨some 78, _, _, _, _, _⟩) (v := ?_) rfl (by kernel_rfl) (by kernel_rfl) (by kernel_rfl) (fun _ _ _ h => h) (Or.inl ⟨by kernel_rfl, ?_⟩) (by assumption) ?_
    rotate_left 1
    focus (intro w' hSw; (try dsimp only at hSw); go_simp; (try with_reducible rfl))
    try simp only [Act.put, List.setIfInBounds_toArray, List.set_cons_zero, List.set_cons_succ]
    refine wpAnyH_take (i := 3) (oi := ⟨some 79, _, _, _, _, _⟩) (v := ?_) rfl (by kernel_rfl) (by kernel_rfl) (by kernel_rfl) (fun _ _ _ h => h) (Or.inl ⟨by kernel_rfl, ?_⟩) (by assumption) ?_
    rotate_left 1
    focus (intro w' hSw; (try dsimp only at hSw); go_simp; (try with_reducible rfl))
    try simp only [Act.put, List.setIfInBounds_toArray, List.set_cons_zero, List.set_cons_succ]
    refine wpAnyH_ready (rs := [4]) (by kernel_rfl) (by simp) ?_
    refine AllReadyH.cons rfl (fun K hK => ?_) AllReadyH.nil
    go_simp
    go_at_call 18
    refine (HE13.out).mono ?_
    rintro en w14 ⟨⟨b14, rfl, hb14, hk14⟩, hbb14⟩
    have HB14 := Lib.hid (HBD13.out.trans hbb14)
    have HSMy := Lib.hid (HSM2.out b14 w14 HB14.out hb14 hk14)
    clear hb14 hk14 hbb14
    clear hHeld
    refine hK.out _ _ (HST.out _ HB14.out) (fun hHeld => ?_)
    clear hK
    refine wpAnyH_ready (rs := [5]) (by kernel_rfl) (by simp) ?_
    refine AllReadyH.cons rfl (fun K hK => ?_) AllReadyH.nil
    go_simp
    go_at_call 21
    refine (HSMy.out).mono ?_
    rintro en w15 ⟨rfl, hbb15⟩
    have HB15 := Lib.hid (HB14.out.trans (hbb15.mono HB14.out.size))
    clear hbb15
    clear hHeld
    refine hK.out _ _ (HST.out _ HB15.out) (fun hHeld => ?_)
    clear hK
    refine wpAnyH_take (i := 6) (oi := ⟨some 82, _, _, _, _, _⟩) (v := ?_) rfl (by kernel_rfl) (by kernel_rfl) (by kernel_rfl) (fun _ _ _ h => h) (Or.inl ⟨by kernel_rfl, ?_⟩) (by assumption) ?_
    rotate_left 1
    focus (intro w' hSw; (try dsimp only at hSw); go_simp; (try with_reducible rfl))
    try simp only [Act.put, List.setIfInBounds_toArray, List.set_cons_zero, List.set_cons_succ]
    refine wpAnyH_take (i := 7) (oi := ⟨some 2, _, _, _, _, _⟩) (v := ?_) rfl (by kernel_rfl) (by kernel_rfl) (by kernel_rfl) (fun _ _ _ h => h) (Or.inl ⟨by kernel_rfl, ?_⟩) (by assumption) ?_
    rotate_left 1
    focus (intro w' hSw; (try dsimp only at hSw); go_simp; (try with_reducible rfl))
    try simp only [Act.put, List.setIfInBounds_toArray, List.set_cons_zero, List.set_cons_succ]
    refine wpAnyH_done (by kernel_rfl) ?_ _
    clear hHeld
    have HF := Lib.hid (HB1.out.trans ((HBY.out _ HB15.out).mono HB1.out.size))
    go_wp2_with fail
    go_ret
    exact ⟨rfl, HF.out⟩
end Go.Proofs.Ythhcbmljckgncaa.dca
