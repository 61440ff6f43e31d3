/- What dcache's Look answers. Condition: the cache lies in memory. -/
import Derived.Test.YthhcbmljckgncaaDcaOps
import Derived.Deep.CutRange
import Derived.Deep.RegionHeld3
namespace Go.Proofs.Ythhcbmljckgncaa.dca
set_option maxRecDepth 100000
open Go.RowKit Go.Proofs.Ythhcbmljckgncaa.words Go.Proofs.Ythhcbmljckgncaa.lru Go.Proofs.Ythhcbmljckgncaa.sha Go.Proofs.Ythhcbmljckgncaa.lrd Go.Proofs.Ythhcbmljckgncaa.shd

/-- Behind Get: a box with what was got. -/
structure Mid (W1 : World) (q B h i : Nat) (c : Cc) (x y : Int) (k : ByteArray) (C : List Cc) (xe : Ent) (β : Nat) (wx : World) : Prop where
  blk : wx.heap[β]? = some (.cells #[.int .i64 xe.ep, .bool xe.th, .int .i64 xe.kd, .int .i64 xe.lv, .int .i64 xe.nd, .slice xe.da xe.dn xe.dc, .string xe.tg] 50 (0, 0))
  hi : W1.heap.size ≤ β
  dc : ∃ bo', Dc wx B q h (C.set i ⟨c.g, bo', c.r, getL c.L k⟩) x y
  kept : Kept LS B W1 wx
  q0 : wx.cell? ⟨q, 0, none⟩ = some (.pointer (some ⟨h, 0, none⟩))
theorem Mid.of {W1 u : World} {q B h i : Nat} {c : Cc} {x y : Int} {k : ByteArray} {C : List Cc} {β : Nat} (xe : Ent) (du : ∃ bo', Dc u B q h (C.set i ⟨c.g, bo', c.r, getL c.L k⟩) x y) (ku : Kept LS B W1 u)
    (hu : u.heap[β]? = some (.cells #[.int .i64 0, .bool false, .int .i64 0, .int .i64 0, .int .i64 0, .slice none 0 0, .string ⟨#[]⟩] 50 (0, 0))) (hβ : W1.heap.size ≤ β) : Mid W1 q B h i c x y k C xe β (setsV u β 0 [.int .i64 xe.ep, .bool xe.th, .int .i64 xe.kd, .int .i64 xe.lv, .int .i64 xe.nd, .slice xe.da xe.dn xe.dc, .string xe.tg]) := by
  have h4 : Tn (fun k => k = β) u (setsV u β 0 [.int .i64 xe.ep, .bool xe.th, .int .i64 xe.kd, .int .i64 xe.lv, .int .i64 xe.nd, .slice xe.da xe.dn xe.dc, .string xe.tg]) := setsV_tn (S := fun k => k = β) _ (.inr rfl) _ _ _ (Tn.refl _ _)
  have hk4 : Kept (fun t => t = 50) 0 u (setsV u β 0 [.int .i64 xe.ep, .bool xe.th, .int .i64 xe.kd, .int .i64 xe.lv, .int .i64 xe.nd, .slice xe.da xe.dn xe.dc, .string xe.tg]) := h4.kept fun k hk => by subst hk; exact ⟨Nat.zero_le _, _, _, _, hu, rfl⟩
  obtain ⟨bo', d⟩ := du
  have d4 := d.kept hk4 (by decide) (by decide) (by decide) (by decide) (by decide)
  exact ⟨setsV_all hu rfl, hβ, ⟨bo', d4⟩, ⟨h4.os.trans ku.os, h4.tape.trans ku.tape, h4.output.trans ku.output, Nat.le_trans ku.size h4.size, fun j hj hc => (h4.block j (Nat.lt_of_lt_of_le hj ku.size) (by omega)).trans (ku.block j hj hc)⟩, cell_of_blk d4.blk 0⟩
theorem Dc.got {W1 V w3 : World} {q B h i : Nat} {c : Cc} {x y : Int} {k : ByteArray} {C : List Cc} (d : Dc W1 B q h C x y) (hi : C[i]? = some c) (hV : Below W1.heap.size W1 V) (hl : lrd.Left V B c.g c.r c.bo (getL c.L k) w3) :
    (∃ bo', Dc w3 B q h (C.set i ⟨c.g, bo', c.r, getL c.L k⟩) x y) ∧ Kept LS B W1 w3 := by
  obtain ⟨h1, h2⟩ := (d.later hV).left hi hl ((d.fam.ok i c hi).get k)
  exact ⟨h1, (Kept.of_below hV LS B).trans h2⟩
set_option maxHeartbeats 6400000 in
/-- Nothing of that epoch is remembered. -/
theorem look_no (B q h i : Nat) (c : Cc) (C : List Cc) (x y : Int) (epoch : Int) (dir s k : ByteArray) (w : World) (d : Dc w B q h C x y) (hB : B ≤ w.heap.size) (hk : k = childB dir s) (h1 : 0 < C.length) (h2 : C.length ≤ 256) (hki : i = ofF k C.length) (hi : C[i]? = some c) (hlen : c.L.length ≤ 1000) (hd : dir.size ≤ 1000) (hs : s.size ≤ 1000) (hy : 0 ≤ y ∧ y ≤ 1000000)
    (hno : lrd.gotB c.L k = false ∨ (lrd.gotI c.L k).ep ≠ epoch) :
    Calls Try.prog 20 #[.pointer (some ⟨q, 0, none⟩), .int .i64 epoch, .string dir, .string s] w fun e w' => e = .returned (.tuple #[.agg #[.int .i64 0, .bool false, .int .i64 0, .int .i64 0, .int .i64 0, .slice none 0 0, .string ⟨#[]⟩], .bool false]) ∧ (∃ bo', Dc w' B q h (C.set i ⟨c.g, bo', c.r, getL c.L k⟩) x (y + 1)) ∧ Kept DS B w w' := by
  obtain ⟨xe, hxe⟩ : ∃ xe, xe = lrd.gotI c.L k := ⟨_, rfl⟩
  obtain ⟨gb, hgb⟩ : ∃ gb, gb = lrd.gotB c.L k := ⟨_, rfl⟩
  rw [← hxe, ← hgb] at hno
  obtain ⟨W1, hW1⟩ : ∃ W1, W1 = w.alloc (.cells #[.int .i64 0, .bool false, .int .i64 0, .int .i64 0, .int .i64 0, .slice none 0 0, .string ⟨#[]⟩] 50) := ⟨_, rfl⟩
  have hb1 : Below w.heap.size w W1 := by rw [hW1]; exact (Below.refl _ _).alloc (Nat.le_refl _) _
  have hz1 : W1.heap[w.heap.size]? = some (.cells #[.int .i64 0, .bool false, .int .i64 0, .int .i64 0, .int .i64 0, .slice none 0 0, .string ⟨#[]⟩] 50 (0, 0)) := by rw [hW1]; exact heap_alloc_new w _
  have d1 := d.later hb1
  have HCh := Lib.hid (fun w => child_any dir s w (by omega) (by omega))
  rw [← hk] at HCh
  have hks : k.size ≤ 9223372036854775807 := by have := childB_size dir s; rw [hk]; omega
  have HG : Hid (∀ V : World, Below W1.heap.size W1 V → Calls Try.prog 45 #[.pointer (some ⟨h, 0, none⟩), .string k] V fun e w' => e = .returned (.tuple #[.agg #[.int .i64 xe.ep, .bool xe.th, .int .i64 xe.kd, .int .i64 xe.lv, .int .i64 xe.nd, .slice xe.da xe.dn xe.dc, .string xe.tg], .bool gb]) ∧ lrd.Left V B c.g c.r c.bo (getL c.L k) w') := Lib.hid fun V hV => by
    have dV := d1.later hV
    have := sget_any B h c.g (gsOf C) c.bo c.r c.L k V dV.shd (by rw [gs_len]; exact h1) (by rw [gs_len]; exact h2) hks (by rw [gs_len, ← hki]; exact gs_at hi) (dV.fam.lru i c hi) (dV.fam.ok i c hi) hlen
    unfold lrd.Got at this
    rw [← hxe, ← hgb] at this
    exact this
  have HS : Hid (∀ V : World, Below W1.heap.size W1 V → V.cell? ⟨q, 0, none⟩ = some (.pointer (some ⟨h, 0, none⟩))) := Lib.hid fun V hV => cell_of_blk (d1.later hV).blk 0
  have HAft : Hid (∀ V w3 : World, Below W1.heap.size W1 V → lrd.Left V B c.g c.r c.bo (getL c.L k) w3 → w3.cell? ⟨q, 0, none⟩ = some (.pointer (some ⟨h, 0, none⟩))) := Lib.hid fun V w3 hV hl => by
    obtain ⟨⟨_, h3⟩, _⟩ := d1.got hi hV hl
    exact cell_of_blk h3.blk 0
  have HBlk : Hid (∀ (V w3 : World) (β β' : Nat), Below W1.heap.size W1 V → lrd.Left V B c.g c.r c.bo (getL c.L k) w3 → V.heap[β]? = some (.cells #[.int .i64 0, .bool false, .int .i64 0, .int .i64 0, .int .i64 0, .slice none 0 0, .string ⟨#[]⟩] 50 (0, 0)) → W1.heap.size ≤ β' → w3.heap[β]? = some (.cells #[.int .i64 0, .bool false, .int .i64 0, .int .i64 0, .int .i64 0, .slice none 0 0, .string ⟨#[]⟩] 50 (0, 0))) := Lib.hid fun V w3 β β' hV hl hb _ => ((d1.later hV).left hi hl ((d1.fam.ok i c hi).get k)).2.blk hb (by unfold LS; decide)
  have HEarly : Hid (∀ (V w3 : World) (β : Nat), Below W1.heap.size W1 V → lrd.Left V B c.g c.r c.bo (getL c.L k) w3 → V.heap[β]? = some (.cells #[.int .i64 0, .bool false, .int .i64 0, .int .i64 0, .int .i64 0, .slice none 0 0, .string ⟨#[]⟩] 50 (0, 0)) → W1.heap.size ≤ β → Mid W1 q B h i c x y k C xe β (setsV w3 β 0 [.int .i64 xe.ep, .bool xe.th, .int .i64 xe.kd, .int .i64 xe.lv, .int .i64 xe.nd, .slice xe.da xe.dn xe.dc, .string xe.tg])) := Lib.hid fun V w3 β hV hl hb hβ => by
    obtain ⟨h3, h4⟩ := d1.got hi hV hl
    exact Mid.of xe h3 h4 (((d1.later hV).left hi hl ((d1.fam.ok i c hi).get k)).2.blk hb (by unfold LS; decide)) hβ
  have HLate : Hid (∀ (V w3 w4 : World) (β : Nat), Below W1.heap.size W1 V → lrd.Left V B c.g c.r c.bo (getL c.L k) w3 → Below w3.heap.size w3 w4 → w4.heap[β]? = some (.cells #[.int .i64 0, .bool false, .int .i64 0, .int .i64 0, .int .i64 0, .slice none 0 0, .string ⟨#[]⟩] 50 (0, 0)) → w3.heap.size ≤ β → Mid W1 q B h i c x y k C xe β (setsV w4 β 0 [.int .i64 xe.ep, .bool xe.th, .int .i64 xe.kd, .int .i64 xe.lv, .int .i64 xe.nd, .slice xe.da xe.dn xe.dc, .string xe.tg])) := Lib.hid fun V w3 w4 β hV hl hb hz hβ => by
    obtain ⟨⟨bo', h3⟩, h4⟩ := d1.got hi hV hl
    exact Mid.of xe ⟨bo', h3.later hb⟩ (h4.trans (Kept.of_below hb LS B)) hz (Nat.le_trans (Nat.le_trans hV.size hl.tn.size) hβ)
  have HZ1 := Lib.hid hz1
  have HB1 := Lib.hid hb1
  have HBw : Hid (B ≤ w.heap.size) := Lib.hid hB
  have HW1 := Lib.hid hW1
  clear hz1 hb1 hW1 hk hki hd hs hks hxe hgb d d1 hi hlen h1 h2 hB
  go_enter Try.func20, Try.ntmps20
  go_upto_region 1 with fail
  rw [← HW1.out]
  go_cut [10, 11] from 12 to 22 (fun v vb wx => ∃ β : Nat, v = .pointer (some ⟨β, 0, none⟩) ∧ vb = .bool gb ∧ Hid (Mid W1 q B h i c x y k C xe β wx))
  case first =>
    obtain ⟨V, hV⟩ : ∃ V, V = World.drew W1 := ⟨_, rfl⟩
    have HBV := Lib.hid (show Below W1.heap.size W1 V by rw [hV]; exact (Below.refl _ _).drew)
    refine wp_region_held_drew (S := fun w' => w'.cell? ⟨q, 0, none⟩ = some (.pointer (some ⟨h, 0, none⟩))) (by kernel_rfl) (by rw [← hV]; exact HS.out _ HBV.out) (fun hHeld => ?_)
    rw [← hV] at hHeld ⊢
    clear hV
    refine wpAnyH_take (i := 0) (oi := ⟨some 13, _, _, _, _, _⟩) (v := ?_) rfl (by kernel_rfl) (by kernel_rfl) (by kernel_rfl) (fun _ _ _ h => h) (Or.inl ⟨by kernel_rfl, ?_⟩) (by assumption) ?_
    rotate_left 1
    focus (intro w' hSw; (try dsimp only at hSw); go_simp; (try with_reducible rfl))
    try simp only [Act.put, List.setIfInBounds_toArray, List.set_cons_zero, List.set_cons_succ]
    refine wpAnyH_take (i := 1) (oi := ⟨some 14, _, _, _, _, _⟩) (v := ?_) rfl (by kernel_rfl) (by kernel_rfl) (by kernel_rfl) (fun _ _ _ h => h) (Or.inl ⟨by kernel_rfl, ?_⟩) (by assumption) ?_
    rotate_left 1
    focus (intro w' hSw; (try dsimp only at hSw); go_simp; (try with_reducible rfl))
    try simp only [Act.put, List.setIfInBounds_toArray, List.set_cons_zero, List.set_cons_succ]
    refine wpAnyH_take (i := 2) (oi := ⟨some 15, _, _, _, _, _⟩) (v := ?_) rfl (by kernel_rfl) (by kernel_rfl) (by kernel_rfl) (fun _ _ _ h => h) (Or.inl ⟨by kernel_rfl, ?_⟩) (by assumption) ?_
    rotate_left 1
    focus (intro w' hSw; (try dsimp only at hSw); go_simp; (try with_reducible rfl))
    try simp only [Act.put, List.setIfInBounds_toArray, List.set_cons_zero, List.set_cons_succ]
    refine wpAnyH_take (i := 3) (oi := ⟨some 16, _, _, _, _, _⟩) (v := ?_) rfl (by kernel_rfl) (by kernel_rfl) (by kernel_rfl) (fun _ _ _ h => h) (Or.inl ⟨by kernel_rfl, ?_⟩) (by assumption) ?_
    rotate_left 1
    focus (intro w' hSw; (try dsimp only at hSw); go_simp; (try with_reducible rfl))
    try simp only [Act.put, List.setIfInBounds_toArray, List.set_cons_zero, List.set_cons_succ]
    refine wpAnyH_take (i := 4) (oi := ⟨some 17, _, _, _, _, _⟩) (v := ?_) rfl (by kernel_rfl) (by kernel_rfl) (by kernel_rfl) (fun _ _ _ h => h) (Or.inl ⟨by kernel_rfl, ?_⟩) (by assumption) ?_
    rotate_left 1
    focus (intro w' hSw; (try dsimp only at hSw); go_simp; (try with_reducible rfl))
    try simp only [Act.put, List.setIfInBounds_toArray, List.set_cons_zero, List.set_cons_succ]
    refine wpAnyH_take (i := 5) (oi := ⟨some 18, _, _, _, _, _⟩) (v := ?_) rfl (by kernel_rfl) (by kernel_rfl) (by kernel_rfl) (fun _ _ _ h => h) (Or.inl ⟨by kernel_rfl, ?_⟩) (by assumption) ?_
    rotate_left 1
    focus (intro w' hSw; (try dsimp only at hSw); go_simp; (try with_reducible rfl))
    try simp only [Act.put, List.setIfInBounds_toArray, List.set_cons_zero, List.set_cons_succ]
    refine wpAnyH_ready (rs := [6, 11]) (by kernel_rfl) (by simp) ?_
    refine AllReadyH.cons rfl (fun K hK => ?_) (AllReadyH.cons rfl (fun K hK => ?_) AllReadyH.nil)
    · skip
      go_simp
      go_at_call 44
      refine (HCh.out _).mono ?_
      rintro en vch ⟨rfl, rfl⟩
      clear hHeld
      refine hK.out _ _ (HS.out _ HBV.out) (fun hHeld => ?_)
      clear hK
      try simp only [Act.put, List.setIfInBounds_toArray, List.set_cons_zero, List.set_cons_succ]
      refine wpAnyH_ready (rs := [7, 11]) (by kernel_rfl) (by simp) ?_
      refine AllReadyH.cons rfl (fun K hK => ?_) (AllReadyH.cons rfl (fun K hK => ?_) AllReadyH.nil)
      · skip
        go_simp
        go_at_call 45
        refine (HG.out _ HBV.out).mono ?_
        rintro en v1 ⟨rfl, hlv1⟩
        have HLv1 := Lib.hid hlv1
        have hqv1 := HAft.out _ _ HBV.out hlv1
        clear hlv1
        clear hHeld
        refine hK.out _ _ (hqv1) (fun hHeld => ?_)
        clear hK
        try simp only [Act.put, List.setIfInBounds_toArray, List.set_cons_zero, List.set_cons_succ]
        refine wpAnyH_take (i := 8) (oi := ⟨some 12, _, _, _, _, _⟩) (v := ?_) rfl (by kernel_rfl) (by kernel_rfl) (by kernel_rfl) (fun _ _ _ h => h) (Or.inl ⟨by kernel_rfl, ?_⟩) (by assumption) ?_
        rotate_left 1
        focus (intro w' hSw; (try dsimp only at hSw); go_simp; (try with_reducible rfl))
        try simp only [Act.put, List.setIfInBounds_toArray, List.set_cons_zero, List.set_cons_succ]
        refine wpAnyH_take (i := 9) (oi := ⟨some 21, _, _, _, _, _⟩) (v := ?_) rfl (by kernel_rfl) (by kernel_rfl) (by kernel_rfl) (fun _ _ _ h => h) (Or.inl ⟨by kernel_rfl, ?_⟩) (by assumption) ?_
        rotate_left 1
        focus (intro w' hSw; (try dsimp only at hSw); go_simp; (try with_reducible rfl))
        try simp only [Act.put, List.setIfInBounds_toArray, List.set_cons_zero, List.set_cons_succ]
        refine wpAnyH_take (i := 10) (oi := ⟨some 22, _, _, _, _, _⟩) (v := ?_) rfl (by kernel_rfl) (by kernel_rfl) (by kernel_rfl) (fun _ _ _ h => h) (Or.inl ⟨by kernel_rfl, ?_⟩) (by assumption) ?_
        rotate_left 1
        focus (intro w' hSw; (try dsimp only at hSw); go_simp; (try with_reducible rfl))
        try simp only [Act.put, List.setIfInBounds_toArray, List.set_cons_zero, List.set_cons_succ]
        refine wpAnyH_ready (rs := [11]) (by kernel_rfl) (by simp) ?_
        refine AllReadyH.cons rfl (fun K hK => ?_) AllReadyH.nil
        obtain ⟨v2, hv2⟩ : ∃ v2, v2 = World.alloc v1 (.cells #[.int .i64 0, .bool false, .int .i64 0, .int .i64 0, .int .i64 0, .slice none 0 0, .string ⟨#[]⟩] 50) := ⟨_, rfl⟩
        have hxv2 : Below (World.heap v1).size v1 v2 := by rw [hv2]; exact (Below.refl _ _).alloc (Nat.le_refl _) _
        have HNv2 := Lib.hid (show v2.heap[(World.heap v1).size]? = some (.cells #[.int .i64 0, .bool false, .int .i64 0, .int .i64 0, .int .i64 0, .slice none 0 0, .string ⟨#[]⟩] 50 (0, 0)) by rw [hv2]; exact heap_alloc_new v1 _)
        have hqv2 := (hxv2.cell (p := ⟨q, 0, none⟩) (World.block_lt_of_cell? _ _ hqv1)).trans hqv1
        have HXv2 := Lib.hid hxv2
        go_simp
        rw [← hv2]
        clear hv2 hxv2
        clear hHeld
        refine hK.out _ _ (hqv2) (fun hHeld => ?_)
        clear hK
        try simp only [Act.put, List.setIfInBounds_toArray, List.set_cons_zero, List.set_cons_succ]
        refine wpAnyH_ready (rs := [12]) (by kernel_rfl) (by simp) ?_
        refine AllReadyH.cons rfl (fun K hK => ?_) AllReadyH.nil
        have hz := HNv2.out
        have z0 := cell_of_blk hz 0
        have fz0 := free_of_blk hz 0
        have z1 := cell_of_blk hz 1
        have fz1 := free_of_blk hz 1
        have z2 := cell_of_blk hz 2
        have fz2 := free_of_blk hz 2
        have z3 := cell_of_blk hz 3
        have fz3 := free_of_blk hz 3
        have z4 := cell_of_blk hz 4
        have fz4 := free_of_blk hz 4
        have z5 := cell_of_blk hz 5
        have fz5 := free_of_blk hz 5
        have z6 := cell_of_blk hz 6
        have fz6 := free_of_blk hz 6
        obtain ⟨v3, hv3⟩ : ∃ v3, v3 = (((((((v2.setCell ⟨(World.heap v1).size, 0, none⟩ (.int .i64 xe.ep)).setCell ⟨(World.heap v1).size, 1, none⟩ (.bool xe.th)).setCell ⟨(World.heap v1).size, 2, none⟩ (.int .i64 xe.kd)).setCell ⟨(World.heap v1).size, 3, none⟩ (.int .i64 xe.lv)).setCell ⟨(World.heap v1).size, 4, none⟩ (.int .i64 xe.nd)).setCell ⟨(World.heap v1).size, 5, none⟩ (.slice xe.da xe.dn xe.dc)).setCell ⟨(World.heap v1).size, 6, none⟩ (.string xe.tg)) := ⟨_, rfl⟩
        have h9 : v3 = setsV v2 (World.heap v1).size 0 [.int .i64 xe.ep, .bool xe.th, .int .i64 xe.kd, .int .i64 xe.lv, .int .i64 xe.nd, .slice xe.da xe.dn xe.dc, .string xe.tg] := hv3
        have HM : Hid (Mid W1 q B h i c x y k C xe (World.heap v1).size v3) := Lib.hid (by rw [h9]; exact HLate.out _ _ _ _ HBV.out HLv1.out HXv2.out HNv2.out (Nat.le_refl _))
        have hqv3 := HM.out.q0
        go_simp
        rw [← hv3]
        clear hv3 h9 hz z0 fz0 z1 fz1 z2 fz2 z3 fz3 z4 fz4 z5 fz5 z6 fz6
        clear hHeld
        refine hK.out _ _ (hqv3) (fun hHeld => ?_)
        clear hK
        try simp only [Act.put, List.setIfInBounds_toArray, List.set_cons_zero, List.set_cons_succ]
        refine wpAnyH_take (i := 13) (oi := ⟨some 11, _, _, _, _, _⟩) (v := ?_) rfl (by kernel_rfl) (by kernel_rfl) (by kernel_rfl) (fun _ _ _ h => h) (Or.inl ⟨by kernel_rfl, ?_⟩) (by assumption) ?_
        rotate_left 1
        focus (intro w' hSw; (try dsimp only at hSw); go_simp; (try with_reducible rfl))
        try simp only [Act.put, List.setIfInBounds_toArray, List.set_cons_zero, List.set_cons_succ]
        refine wpAnyH_done (by kernel_rfl) ?_ _
        clear hHeld
        go_wp2_with fail
        go_meet
        case rel => exact ⟨_, rfl, rfl, HM⟩
      · skip
        obtain ⟨v1, hv1⟩ : ∃ v1, v1 = World.alloc V (.cells #[.int .i64 0, .bool false, .int .i64 0, .int .i64 0, .int .i64 0, .slice none 0 0, .string ⟨#[]⟩] 50) := ⟨_, rfl⟩
        have hxv1 : Below (World.heap V).size V v1 := by rw [hv1]; exact (Below.refl _ _).alloc (Nat.le_refl _) _
        have HNv1 := Lib.hid (show v1.heap[(World.heap V).size]? = some (.cells #[.int .i64 0, .bool false, .int .i64 0, .int .i64 0, .int .i64 0, .slice none 0 0, .string ⟨#[]⟩] 50 (0, 0)) by rw [hv1]; exact heap_alloc_new V _)
        have HBv1 := Lib.hid (HBV.out.trans (hxv1.mono HBV.out.size))
        go_simp
        rw [← hv1]
        clear hv1 hxv1
        clear hHeld
        refine hK.out _ _ (HS.out _ HBv1.out) (fun hHeld => ?_)
        clear hK
        try simp only [Act.put, List.setIfInBounds_toArray, List.set_cons_zero, List.set_cons_succ]
        refine wpAnyH_ready (rs := [7]) (by kernel_rfl) (by simp) ?_
        refine AllReadyH.cons rfl (fun K hK => ?_) AllReadyH.nil
        go_simp
        go_at_call 45
        refine (HG.out _ HBv1.out).mono ?_
        rintro en v2 ⟨rfl, hlv2⟩
        have HLv2 := Lib.hid hlv2
        have hqv2 := HAft.out _ _ HBv1.out hlv2
        clear hlv2
        clear hHeld
        refine hK.out _ _ (hqv2) (fun hHeld => ?_)
        clear hK
        try simp only [Act.put, List.setIfInBounds_toArray, List.set_cons_zero, List.set_cons_succ]
        refine wpAnyH_take (i := 8) (oi := ⟨some 12, _, _, _, _, _⟩) (v := ?_) rfl (by kernel_rfl) (by kernel_rfl) (by kernel_rfl) (fun _ _ _ h => h) (Or.inl ⟨by kernel_rfl, ?_⟩) (by assumption) ?_
        rotate_left 1
        focus (intro w' hSw; (try dsimp only at hSw); go_simp; (try with_reducible rfl))
        try simp only [Act.put, List.setIfInBounds_toArray, List.set_cons_zero, List.set_cons_succ]
        refine wpAnyH_take (i := 9) (oi := ⟨some 21, _, _, _, _, _⟩) (v := ?_) rfl (by kernel_rfl) (by kernel_rfl) (by kernel_rfl) (fun _ _ _ h => h) (Or.inl ⟨by kernel_rfl, ?_⟩) (by assumption) ?_
        rotate_left 1
        focus (intro w' hSw; (try dsimp only at hSw); go_simp; (try with_reducible rfl))
        try simp only [Act.put, List.setIfInBounds_toArray, List.set_cons_zero, List.set_cons_succ]
        refine wpAnyH_take (i := 10) (oi := ⟨some 22, _, _, _, _, _⟩) (v := ?_) rfl (by kernel_rfl) (by kernel_rfl) (by kernel_rfl) (fun _ _ _ h => h) (Or.inl ⟨by kernel_rfl, ?_⟩) (by assumption) ?_
        rotate_left 1
        focus (intro w' hSw; (try dsimp only at hSw); go_simp; (try with_reducible rfl))
        try simp only [Act.put, List.setIfInBounds_toArray, List.set_cons_zero, List.set_cons_succ]
        refine wpAnyH_ready (rs := [12]) (by kernel_rfl) (by simp) ?_
        refine AllReadyH.cons rfl (fun K hK => ?_) AllReadyH.nil
        have hz := HBlk.out _ _ _ _ HBv1.out HLv2.out HNv1.out HBV.out.size
        have z0 := cell_of_blk hz 0
        have fz0 := free_of_blk hz 0
        have z1 := cell_of_blk hz 1
        have fz1 := free_of_blk hz 1
        have z2 := cell_of_blk hz 2
        have fz2 := free_of_blk hz 2
        have z3 := cell_of_blk hz 3
        have fz3 := free_of_blk hz 3
        have z4 := cell_of_blk hz 4
        have fz4 := free_of_blk hz 4
        have z5 := cell_of_blk hz 5
        have fz5 := free_of_blk hz 5
        have z6 := cell_of_blk hz 6
        have fz6 := free_of_blk hz 6
        obtain ⟨v3, hv3⟩ : ∃ v3, v3 = (((((((v2.setCell ⟨(World.heap V).size, 0, none⟩ (.int .i64 xe.ep)).setCell ⟨(World.heap V).size, 1, none⟩ (.bool xe.th)).setCell ⟨(World.heap V).size, 2, none⟩ (.int .i64 xe.kd)).setCell ⟨(World.heap V).size, 3, none⟩ (.int .i64 xe.lv)).setCell ⟨(World.heap V).size, 4, none⟩ (.int .i64 xe.nd)).setCell ⟨(World.heap V).size, 5, none⟩ (.slice xe.da xe.dn xe.dc)).setCell ⟨(World.heap V).size, 6, none⟩ (.string xe.tg)) := ⟨_, rfl⟩
        have h9 : v3 = setsV v2 (World.heap V).size 0 [.int .i64 xe.ep, .bool xe.th, .int .i64 xe.kd, .int .i64 xe.lv, .int .i64 xe.nd, .slice xe.da xe.dn xe.dc, .string xe.tg] := hv3
        have HM : Hid (Mid W1 q B h i c x y k C xe (World.heap V).size v3) := Lib.hid (by rw [h9]; exact HEarly.out _ _ _ HBv1.out HLv2.out HNv1.out HBV.out.size)
        have hqv3 := HM.out.q0
        go_simp
        rw [← hv3]
        clear hv3 h9 hz z0 fz0 z1 fz1 z2 fz2 z3 fz3 z4 fz4 z5 fz5 z6 fz6
        clear hHeld
        refine hK.out _ _ (hqv3) (fun hHeld => ?_)
        clear hK
        try simp only [Act.put, List.setIfInBounds_toArray, List.set_cons_zero, List.set_cons_succ]
        refine wpAnyH_take (i := 13) (oi := ⟨some 11, _, _, _, _, _⟩) (v := ?_) rfl (by kernel_rfl) (by kernel_rfl) (by kernel_rfl) (fun _ _ _ h => h) (Or.inl ⟨by kernel_rfl, ?_⟩) (by assumption) ?_
        rotate_left 1
        focus (intro w' hSw; (try dsimp only at hSw); go_simp; (try with_reducible rfl))
        try simp only [Act.put, List.setIfInBounds_toArray, List.set_cons_zero, List.set_cons_succ]
        refine wpAnyH_done (by kernel_rfl) ?_ _
        clear hHeld
        go_wp2_with fail
        go_meet
        case rel => exact ⟨_, rfl, rfl, HM⟩
    · skip
      obtain ⟨v1, hv1⟩ : ∃ v1, v1 = World.alloc V (.cells #[.int .i64 0, .bool false, .int .i64 0, .int .i64 0, .int .i64 0, .slice none 0 0, .string ⟨#[]⟩] 50) := ⟨_, rfl⟩
      have hxv1 : Below (World.heap V).size V v1 := by rw [hv1]; exact (Below.refl _ _).alloc (Nat.le_refl _) _
      have HNv1 := Lib.hid (show v1.heap[(World.heap V).size]? = some (.cells #[.int .i64 0, .bool false, .int .i64 0, .int .i64 0, .int .i64 0, .slice none 0 0, .string ⟨#[]⟩] 50 (0, 0)) by rw [hv1]; exact heap_alloc_new V _)
      have HBv1 := Lib.hid (HBV.out.trans (hxv1.mono HBV.out.size))
      go_simp
      rw [← hv1]
      clear hv1 hxv1
      clear hHeld
      refine hK.out _ _ (HS.out _ HBv1.out) (fun hHeld => ?_)
      clear hK
      try simp only [Act.put, List.setIfInBounds_toArray, List.set_cons_zero, List.set_cons_succ]
      refine wpAnyH_ready (rs := [6]) (by kernel_rfl) (by simp) ?_
      refine AllReadyH.cons rfl (fun K hK => ?_) AllReadyH.nil
      go_simp
      go_at_call 44
      refine (HCh.out _).mono ?_
      rintro en vch ⟨rfl, rfl⟩
      clear hHeld
      refine hK.out _ _ (HS.out _ HBv1.out) (fun hHeld => ?_)
      clear hK
      try simp only [Act.put, List.setIfInBounds_toArray, List.set_cons_zero, List.set_cons_succ]
      refine wpAnyH_ready (rs := [7]) (by kernel_rfl) (by simp) ?_
      refine AllReadyH.cons rfl (fun K hK => ?_) AllReadyH.nil
      go_simp
      go_at_call 45
      refine (HG.out _ HBv1.out).mono ?_
      rintro en v2 ⟨rfl, hlv2⟩
      have HLv2 := Lib.hid hlv2
      have hqv2 := HAft.out _ _ HBv1.out hlv2
      clear hlv2
      clear hHeld
      refine hK.out _ _ (hqv2) (fun hHeld => ?_)
      clear hK
      try simp only [Act.put, List.setIfInBounds_toArray, List.set_cons_zero, List.set_cons_succ]
      refine wpAnyH_take (i := 8) (oi := ⟨some 12, _, _, _, _, _⟩) (v := ?_) rfl (by kernel_rfl) (by kernel_rfl) (by kernel_rfl) (fun _ _ _ h => h) (Or.inl ⟨by kernel_rfl, ?_⟩) (by assumption) ?_
      rotate_left 1
      focus (intro w' hSw; (try dsimp only at hSw); go_simp; (try with_reducible rfl))
      try simp only [Act.put, List.setIfInBounds_toArray, List.set_cons_zero, List.set_cons_succ]
      refine wpAnyH_take (i := 9) (oi := ⟨some 21, _, _, _, _, _⟩) (v := ?_) rfl (by kernel_rfl) (by kernel_rfl) (by kernel_rfl) (fun _ _ _ h => h) (Or.inl ⟨by kernel_rfl, ?_⟩) (by assumption) ?_
      rotate_left 1
      focus (intro w' hSw; (try dsimp only at hSw); go_simp; (try with_reducible rfl))
      try simp only [Act.put, List.setIfInBounds_toArray, List.set_cons_zero, List.set_cons_succ]
      refine wpAnyH_take (i := 10) (oi := ⟨some 22, _, _, _, _, _⟩) (v := ?_) rfl (by kernel_rfl) (by kernel_rfl) (by kernel_rfl) (fun _ _ _ h => h) (Or.inl ⟨by kernel_rfl, ?_⟩) (by assumption) ?_
      rotate_left 1
      focus (intro w' hSw; (try dsimp only at hSw); go_simp; (try with_reducible rfl))
      try simp only [Act.put, List.setIfInBounds_toArray, List.set_cons_zero, List.set_cons_succ]
      refine wpAnyH_ready (rs := [12]) (by kernel_rfl) (by simp) ?_
      refine AllReadyH.cons rfl (fun K hK => ?_) AllReadyH.nil
      have hz := HBlk.out _ _ _ _ HBv1.out HLv2.out HNv1.out HBV.out.size
      have z0 := cell_of_blk hz 0
      have fz0 := free_of_blk hz 0
      have z1 := cell_of_blk hz 1
      have fz1 := free_of_blk hz 1
      have z2 := cell_of_blk hz 2
      have fz2 := free_of_blk hz 2
      have z3 := cell_of_blk hz 3
      have fz3 := free_of_blk hz 3
      have z4 := cell_of_blk hz 4
      have fz4 := free_of_blk hz 4
      have z5 := cell_of_blk hz 5
      have fz5 := free_of_blk hz 5
      have z6 := cell_of_blk hz 6
      have fz6 := free_of_blk hz 6
      obtain ⟨v3, hv3⟩ : ∃ v3, v3 = (((((((v2.setCell ⟨(World.heap V).size, 0, none⟩ (.int .i64 xe.ep)).setCell ⟨(World.heap V).size, 1, none⟩ (.bool xe.th)).setCell ⟨(World.heap V).size, 2, none⟩ (.int .i64 xe.kd)).setCell ⟨(World.heap V).size, 3, none⟩ (.int .i64 xe.lv)).setCell ⟨(World.heap V).size, 4, none⟩ (.int .i64 xe.nd)).setCell ⟨(World.heap V).size, 5, none⟩ (.slice xe.da xe.dn xe.dc)).setCell ⟨(World.heap V).size, 6, none⟩ (.string xe.tg)) := ⟨_, rfl⟩
      have h9 : v3 = setsV v2 (World.heap V).size 0 [.int .i64 xe.ep, .bool xe.th, .int .i64 xe.kd, .int .i64 xe.lv, .int .i64 xe.nd, .slice xe.da xe.dn xe.dc, .string xe.tg] := hv3
      have HM : Hid (Mid W1 q B h i c x y k C xe (World.heap V).size v3) := Lib.hid (by rw [h9]; exact HEarly.out _ _ _ HBv1.out HLv2.out HNv1.out HBV.out.size)
      have hqv3 := HM.out.q0
      go_simp
      rw [← hv3]
      clear hv3 h9 hz z0 fz0 z1 fz1 z2 fz2 z3 fz3 z4 fz4 z5 fz5 z6 fz6
      clear hHeld
      refine hK.out _ _ (hqv3) (fun hHeld => ?_)
      clear hK
      try simp only [Act.put, List.setIfInBounds_toArray, List.set_cons_zero, List.set_cons_succ]
      refine wpAnyH_take (i := 13) (oi := ⟨some 11, _, _, _, _, _⟩) (v := ?_) rfl (by kernel_rfl) (by kernel_rfl) (by kernel_rfl) (fun _ _ _ h => h) (Or.inl ⟨by kernel_rfl, ?_⟩) (by assumption) ?_
      rotate_left 1
      focus (intro w' hSw; (try dsimp only at hSw); go_simp; (try with_reducible rfl))
      try simp only [Act.put, List.setIfInBounds_toArray, List.set_cons_zero, List.set_cons_succ]
      refine wpAnyH_done (by kernel_rfl) ?_ _
      clear hHeld
      go_wp2_with fail
      go_meet
      case rel => exact ⟨_, rfl, rfl, HM⟩
  case rest =>
    obtain ⟨β, rfl, rfl, HM⟩ := hcut
    have hmb := HM.out.blk
    have m0 := cell_of_blk hmb 0
    have HK1 := Lib.hid (HM.out.kept)
    obtain ⟨bo', hdc⟩ := HM.out.dc
    have n2 := cell_of_blk hdc.blk 2
    have g2 := free_of_blk hdc.blk 2
    have HDC := Lib.hid hdc
    have hzb : wc.heap[w.heap.size]? = some (.cells #[.int .i64 0, .bool false, .int .i64 0, .int .i64 0, .int .i64 0, .slice none 0 0, .string ⟨#[]⟩] 50 (0, 0)) := HM.out.kept.blk HZ1.out (by unfold LS; decide)
    have hy1 : IntKind.i64.wrap (y + 1) = y + 1 := IntWalk.i64_in _ (by omega)
    obtain ⟨hd2, hk2⟩ := hdc.count 2 (.int .i64 (y + 1)) (x' := x) (y' := y + 1) rfl
    have hz2 : (wc.setCell ⟨q, 2, none⟩ (.int .i64 (y + 1))).heap[w.heap.size]? = some (.cells #[.int .i64 0, .bool false, .int .i64 0, .int .i64 0, .int .i64 0, .slice none 0 0, .string ⟨#[]⟩] 50 (0, 0)) := hk2.blk hzb (by decide)
    obtain ⟨W3, hW3⟩ : ∃ W3, W3 = wc.setCell ⟨q, 2, none⟩ (.int .i64 (y + 1)) := ⟨_, rfl⟩
    rw [← hW3] at hd2 hk2 hz2
    have hk3 : Kept DS B w W3 := (Kept.of_below HB1.out DS B).trans ((keptWider HM.out.kept fun _ => LS.ds).trans (keptWider hk2 fun _ h => .inr (.inr h)))
    have z0 := cell_of_blk hz2 0
    have fz0 := free_of_blk hz2 0
    have z1 := cell_of_blk hz2 1
    have fz1 := free_of_blk hz2 1
    have z2 := cell_of_blk hz2 2
    have fz2 := free_of_blk hz2 2
    have z3 := cell_of_blk hz2 3
    have fz3 := free_of_blk hz2 3
    have z4 := cell_of_blk hz2 4
    have fz4 := free_of_blk hz2 4
    have z5 := cell_of_blk hz2 5
    have fz5 := free_of_blk hz2 5
    have z6 := cell_of_blk hz2 6
    have fz6 := free_of_blk hz2 6
    have HZ2 := Lib.hid hz2
    have HD2 := Lib.hid hd2
    have HK3 := Lib.hid hk3
    have HW3 := Lib.hid hW3
    obtain ⟨W9, hW9⟩ : ∃ W9, W9 = (((((((W3.setCell ⟨w.heap.size, 0, none⟩ (.int .i64 0)).setCell ⟨w.heap.size, 1, none⟩ (.bool false)).setCell ⟨w.heap.size, 2, none⟩ (.int .i64 0)).setCell ⟨w.heap.size, 3, none⟩ (.int .i64 0)).setCell ⟨w.heap.size, 4, none⟩ (.int .i64 0)).setCell ⟨w.heap.size, 5, none⟩ (.slice none 0 0)).setCell ⟨w.heap.size, 6, none⟩ (.string ⟨#[]⟩)) := ⟨_, rfl⟩
    have h9 : W9 = setsV W3 w.heap.size 0 [.int .i64 0, .bool false, .int .i64 0, .int .i64 0, .int .i64 0, .slice none 0 0, .string ⟨#[]⟩] := hW9
    have hbk9 : W9.heap[w.heap.size]? = some (.cells #[.int .i64 0, .bool false, .int .i64 0, .int .i64 0, .int .i64 0, .slice none 0 0, .string ⟨#[]⟩] 50 (0, 0)) := by rw [h9]; exact setsV_all hz2 rfl
    have ht9 : Tn (fun k => k = w.heap.size) W3 W9 := by rw [h9]; exact setsV_tn (S := fun k => k = w.heap.size) _ (.inr rfl) _ _ _ (Tn.refl _ _)
    have hk39 : Kept (fun t => t = 50) 0 W3 W9 := ht9.kept fun k hk => by subst hk; exact ⟨Nat.zero_le _, _, _, _, hz2, rfl⟩
    have HF : Hid ((∃ bo', Dc W9 B q h (C.set i ⟨c.g, bo', c.r, getL c.L k⟩) x (y + 1)) ∧ Kept DS B w W9) := Lib.hid ⟨⟨bo', hd2.kept hk39 (by decide) (by decide) (by decide) (by decide) (by decide)⟩, ⟨ht9.os.trans hk3.os, ht9.tape.trans hk3.tape, ht9.output.trans hk3.output, Nat.le_trans hk3.size ht9.size, fun j hj hc => (ht9.block j (Nat.lt_of_lt_of_le hj hk3.size) (by omega)).trans (hk3.block j hj hc)⟩⟩
    have y0 := cell_of_blk hbk9 0
    have y1 := cell_of_blk hbk9 1
    have y2 := cell_of_blk hbk9 2
    have y3 := cell_of_blk hbk9 3
    have y4 := cell_of_blk hbk9 4
    have y5 := cell_of_blk hbk9 5
    have y6 := cell_of_blk hbk9 6
    have HW9 := Lib.hid hW9
    clear hmb HM hdc hzb hd2 hk2 hz2 hk3 h9 hbk9 ht9 hk39 hW3 hW9
    rcases hgb : gb with _ | _
    · clear hno
      subst hgb
      go_upto_region 4 with fail
      rw [← HW3.out]
      clear n2 g2 m0
      go_wp2_with fail
      rw [← HW9.out]
      exact bodyPost_ret (v := .tuple #[.agg #[.int .i64 0, .bool false, .int .i64 0, .int .i64 0, .int .i64 0, .slice none 0 0, .string ⟨#[]⟩], .bool false]) (by simp [results, Try.results20, go_sem, y0, y1, y2, y3, y4, y5, y6]) rfl ⟨rfl, HF.out⟩
    · have hep : (xe.ep != epoch) = true := by
        rcases hno with hno | hno
        · rw [hgb] at hno; cases hno
        · simpa using hno
      clear hno
      subst hgb
      go_upto_region 4 with fail
      rw [← HW3.out]
      clear n2 g2 m0
      go_wp2_with fail
      rw [← HW9.out]
      exact bodyPost_ret (v := .tuple #[.agg #[.int .i64 0, .bool false, .int .i64 0, .int .i64 0, .int .i64 0, .slice none 0 0, .string ⟨#[]⟩], .bool false]) (by simp [results, Try.results20, go_sem, y0, y1, y2, y3, y4, y5, y6]) rfl ⟨rfl, HF.out⟩
set_option maxHeartbeats 6400000 in
/-- What was seen in that epoch is answered, apart. -/
theorem look_yes (B q h i : Nat) (c : Cc) (C : List Cc) (x y : Int) (epoch : Int) (dir s k : ByteArray) (w : World) (d : Dc w B q h C x y) (hB : B ≤ w.heap.size) (hk : k = childB dir s) (h1 : 0 < C.length) (h2 : C.length ≤ 256) (hki : i = ofF k C.length) (hi : C[i]? = some c) (hlen : c.L.length ≤ 1000) (hd : dir.size ≤ 1000) (hs : s.size ≤ 1000) (hx : 0 ≤ x ∧ x ≤ 1000000) (lo : Nat) (P : List (Int × Int)) (hP : P.length ≤ 1000)
    (hgot : lrd.gotB c.L k = true) (hep0 : (lrd.gotI c.L k).ep = epoch) (hsp : Sp w lo (lrd.gotI c.L k).da (lrd.gotI c.L k).dn P) :
    Calls Try.prog 20 #[.pointer (some ⟨q, 0, none⟩), .int .i64 epoch, .string dir, .string s] w fun e w' => ∃ (A : Option Addr) (c' : Nat), e = .returned (.tuple #[.agg #[.int .i64 (lrd.gotI c.L k).ep, .bool (lrd.gotI c.L k).th, .int .i64 (lrd.gotI c.L k).kd, .int .i64 (lrd.gotI c.L k).lv, .int .i64 (lrd.gotI c.L k).nd, .slice A (lrd.gotI c.L k).dn c', .string (lrd.gotI c.L k).tg], .bool true]) ∧ Sp w' w.heap.size A (lrd.gotI c.L k).dn P ∧ (∃ bo', Dc w' B q h (C.set i ⟨c.g, bo', c.r, getL c.L k⟩) (x + 1) y) ∧ Kept DS B w w' := by
  obtain ⟨xe, hxe⟩ : ∃ xe, xe = lrd.gotI c.L k := ⟨_, rfl⟩
  obtain ⟨gb, hgb⟩ : ∃ gb, gb = lrd.gotB c.L k := ⟨_, rfl⟩
  rw [← hxe] at hep0 hsp ⊢
  rw [← hgb] at hgot
  obtain ⟨W1, hW1⟩ : ∃ W1, W1 = w.alloc (.cells #[.int .i64 0, .bool false, .int .i64 0, .int .i64 0, .int .i64 0, .slice none 0 0, .string ⟨#[]⟩] 50) := ⟨_, rfl⟩
  have hb1 : Below w.heap.size w W1 := by rw [hW1]; exact (Below.refl _ _).alloc (Nat.le_refl _) _
  have hz1 : W1.heap[w.heap.size]? = some (.cells #[.int .i64 0, .bool false, .int .i64 0, .int .i64 0, .int .i64 0, .slice none 0 0, .string ⟨#[]⟩] 50 (0, 0)) := by rw [hW1]; exact heap_alloc_new w _
  have d1 := d.later hb1
  have HCh := Lib.hid (fun w => child_any dir s w (by omega) (by omega))
  rw [← hk] at HCh
  have hks : k.size ≤ 9223372036854775807 := by have := childB_size dir s; rw [hk]; omega
  have HG : Hid (∀ V : World, Below W1.heap.size W1 V → Calls Try.prog 45 #[.pointer (some ⟨h, 0, none⟩), .string k] V fun e w' => e = .returned (.tuple #[.agg #[.int .i64 xe.ep, .bool xe.th, .int .i64 xe.kd, .int .i64 xe.lv, .int .i64 xe.nd, .slice xe.da xe.dn xe.dc, .string xe.tg], .bool gb]) ∧ lrd.Left V B c.g c.r c.bo (getL c.L k) w') := Lib.hid fun V hV => by
    have dV := d1.later hV
    have := sget_any B h c.g (gsOf C) c.bo c.r c.L k V dV.shd (by rw [gs_len]; exact h1) (by rw [gs_len]; exact h2) hks (by rw [gs_len, ← hki]; exact gs_at hi) (dV.fam.lru i c hi) (dV.fam.ok i c hi) hlen
    unfold lrd.Got at this
    rw [← hxe, ← hgb] at this
    exact this
  have HS : Hid (∀ V : World, Below W1.heap.size W1 V → V.cell? ⟨q, 0, none⟩ = some (.pointer (some ⟨h, 0, none⟩))) := Lib.hid fun V hV => cell_of_blk (d1.later hV).blk 0
  have HAft : Hid (∀ V w3 : World, Below W1.heap.size W1 V → lrd.Left V B c.g c.r c.bo (getL c.L k) w3 → w3.cell? ⟨q, 0, none⟩ = some (.pointer (some ⟨h, 0, none⟩))) := Lib.hid fun V w3 hV hl => by
    obtain ⟨⟨_, h3⟩, _⟩ := d1.got hi hV hl
    exact cell_of_blk h3.blk 0
  have HBlk : Hid (∀ (V w3 : World) (β β' : Nat), Below W1.heap.size W1 V → lrd.Left V B c.g c.r c.bo (getL c.L k) w3 → V.heap[β]? = some (.cells #[.int .i64 0, .bool false, .int .i64 0, .int .i64 0, .int .i64 0, .slice none 0 0, .string ⟨#[]⟩] 50 (0, 0)) → W1.heap.size ≤ β' → w3.heap[β]? = some (.cells #[.int .i64 0, .bool false, .int .i64 0, .int .i64 0, .int .i64 0, .slice none 0 0, .string ⟨#[]⟩] 50 (0, 0))) := Lib.hid fun V w3 β β' hV hl hb _ => ((d1.later hV).left hi hl ((d1.fam.ok i c hi).get k)).2.blk hb (by unfold LS; decide)
  have HEarly : Hid (∀ (V w3 : World) (β : Nat), Below W1.heap.size W1 V → lrd.Left V B c.g c.r c.bo (getL c.L k) w3 → V.heap[β]? = some (.cells #[.int .i64 0, .bool false, .int .i64 0, .int .i64 0, .int .i64 0, .slice none 0 0, .string ⟨#[]⟩] 50 (0, 0)) → W1.heap.size ≤ β → Mid W1 q B h i c x y k C xe β (setsV w3 β 0 [.int .i64 xe.ep, .bool xe.th, .int .i64 xe.kd, .int .i64 xe.lv, .int .i64 xe.nd, .slice xe.da xe.dn xe.dc, .string xe.tg])) := Lib.hid fun V w3 β hV hl hb hβ => by
    obtain ⟨h3, h4⟩ := d1.got hi hV hl
    exact Mid.of xe h3 h4 (((d1.later hV).left hi hl ((d1.fam.ok i c hi).get k)).2.blk hb (by unfold LS; decide)) hβ
  have HLate : Hid (∀ (V w3 w4 : World) (β : Nat), Below W1.heap.size W1 V → lrd.Left V B c.g c.r c.bo (getL c.L k) w3 → Below w3.heap.size w3 w4 → w4.heap[β]? = some (.cells #[.int .i64 0, .bool false, .int .i64 0, .int .i64 0, .int .i64 0, .slice none 0 0, .string ⟨#[]⟩] 50 (0, 0)) → w3.heap.size ≤ β → Mid W1 q B h i c x y k C xe β (setsV w4 β 0 [.int .i64 xe.ep, .bool xe.th, .int .i64 xe.kd, .int .i64 xe.lv, .int .i64 xe.nd, .slice xe.da xe.dn xe.dc, .string xe.tg])) := Lib.hid fun V w3 w4 β hV hl hb hz hβ => by
    obtain ⟨⟨bo', h3⟩, h4⟩ := d1.got hi hV hl
    exact Mid.of xe ⟨bo', h3.later hb⟩ (h4.trans (Kept.of_below hb LS B)) hz (Nat.le_trans (Nat.le_trans hV.size hl.tn.size) hβ)
  have HZ1 := Lib.hid hz1
  have HB1 := Lib.hid hb1
  have HBw : Hid (B ≤ w.heap.size) := Lib.hid hB
  have HW1 := Lib.hid hW1
  have HSP := Lib.hid hsp
  have hep : (xe.ep != epoch) = false := by simpa using hep0
  have HGot := Lib.hid hgot
  have HP := Lib.hid hP
  clear hz1 hb1 hW1 hk hki hd hs hks hxe hgb d d1 hi hlen h1 h2 hB hsp hgot hep0 hP
  go_enter Try.func20, Try.ntmps20
  go_upto_region 1 with fail
  rw [← HW1.out]
  go_cut [10, 11] from 12 to 22 (fun v vb wx => ∃ β : Nat, v = .pointer (some ⟨β, 0, none⟩) ∧ vb = .bool gb ∧ Hid (Mid W1 q B h i c x y k C xe β wx))
  case first =>
    obtain ⟨V, hV⟩ : ∃ V, V = World.drew W1 := ⟨_, rfl⟩
    have HBV := Lib.hid (show Below W1.heap.size W1 V by rw [hV]; exact (Below.refl _ _).drew)
    refine wp_region_held_drew (S := fun w' => w'.cell? ⟨q, 0, none⟩ = some (.pointer (some ⟨h, 0, none⟩))) (by kernel_rfl) (by rw [← hV]; exact HS.out _ HBV.out) (fun hHeld => ?_)
    rw [← hV] at hHeld ⊢
    clear hV
    refine wpAnyH_take (i := 0) (oi := ⟨some 13, _, _, _, _, _⟩) (v := ?_) rfl (by kernel_rfl) (by kernel_rfl) (by kernel_rfl) (fun _ _ _ h => h) (Or.inl ⟨by kernel_rfl, ?_⟩) (by assumption) ?_
    rotate_left 1
    focus (intro w' hSw; (try dsimp only at hSw); go_simp; (try with_reducible rfl))
    try simp only [Act.put, List.setIfInBounds_toArray, List.set_cons_zero, List.set_cons_succ]
    refine wpAnyH_take (i := 1) (oi := ⟨some 14, _, _, _, _, _⟩) (v := ?_) rfl (by kernel_rfl) (by kernel_rfl) (by kernel_rfl) (fun _ _ _ h => h) (Or.inl ⟨by kernel_rfl, ?_⟩) (by assumption) ?_
    rotate_left 1
    focus (intro w' hSw; (try dsimp only at hSw); go_simp; (try with_reducible rfl))
    try simp only [Act.put, List.setIfInBounds_toArray, List.set_cons_zero, List.set_cons_succ]
    refine wpAnyH_take (i := 2) (oi := ⟨some 15, _, _, _, _, _⟩) (v := ?_) rfl (by kernel_rfl) (by kernel_rfl) (by kernel_rfl) (fun _ _ _ h => h) (Or.inl ⟨by kernel_rfl, ?_⟩) (by assumption) ?_
    rotate_left 1
    focus (intro w' hSw; (try dsimp only at hSw); go_simp; (try with_reducible rfl))
    try simp only [Act.put, List.setIfInBounds_toArray, List.set_cons_zero, List.set_cons_succ]
    refine wpAnyH_take (i := 3) (oi := ⟨some 16, _, _, _, _, _⟩) (v := ?_) rfl (by kernel_rfl) (by kernel_rfl) (by kernel_rfl) (fun _ _ _ h => h) (Or.inl ⟨by kernel_rfl, ?_⟩) (by assumption) ?_
    rotate_left 1
    focus (intro w' hSw; (try dsimp only at hSw); go_simp; (try with_reducible rfl))
    try simp only [Act.put, List.setIfInBounds_toArray, List.set_cons_zero, List.set_cons_succ]
    refine wpAnyH_take (i := 4) (oi := ⟨some 17, _, _, _, _, _⟩) (v := ?_) rfl (by kernel_rfl) (by kernel_rfl) (by kernel_rfl) (fun _ _ _ h => h) (Or.inl ⟨by kernel_rfl, ?_⟩) (by assumption) ?_
    rotate_left 1
    focus (intro w' hSw; (try dsimp only at hSw); go_simp; (try with_reducible rfl))
    try simp only [Act.put, List.setIfInBounds_toArray, List.set_cons_zero, List.set_cons_succ]
    refine wpAnyH_take (i := 5) (oi := ⟨some 18, _, _, _, _, _⟩) (v := ?_) rfl (by kernel_rfl) (by kernel_rfl) (by kernel_rfl) (fun _ _ _ h => h) (Or.inl ⟨by kernel_rfl, ?_⟩) (by assumption) ?_
    rotate_left 1
    focus (intro w' hSw; (try dsimp only at hSw); go_simp; (try with_reducible rfl))
    try simp only [Act.put, List.setIfInBounds_toArray, List.set_cons_zero, List.set_cons_succ]
    refine wpAnyH_ready (rs := [6, 11]) (by kernel_rfl) (by simp) ?_
    refine AllReadyH.cons rfl (fun K hK => ?_) (AllReadyH.cons rfl (fun K hK => ?_) AllReadyH.nil)
    · skip
      go_simp
      go_at_call 44
      refine (HCh.out _).mono ?_
      rintro en vch ⟨rfl, rfl⟩
      clear hHeld
      refine hK.out _ _ (HS.out _ HBV.out) (fun hHeld => ?_)
      clear hK
      try simp only [Act.put, List.setIfInBounds_toArray, List.set_cons_zero, List.set_cons_succ]
      refine wpAnyH_ready (rs := [7, 11]) (by kernel_rfl) (by simp) ?_
      refine AllReadyH.cons rfl (fun K hK => ?_) (AllReadyH.cons rfl (fun K hK => ?_) AllReadyH.nil)
      · skip
        go_simp
        go_at_call 45
        refine (HG.out _ HBV.out).mono ?_
        rintro en v1 ⟨rfl, hlv1⟩
        have HLv1 := Lib.hid hlv1
        have hqv1 := HAft.out _ _ HBV.out hlv1
        clear hlv1
        clear hHeld
        refine hK.out _ _ (hqv1) (fun hHeld => ?_)
        clear hK
        try simp only [Act.put, List.setIfInBounds_toArray, List.set_cons_zero, List.set_cons_succ]
        refine wpAnyH_take (i := 8) (oi := ⟨some 12, _, _, _, _, _⟩) (v := ?_) rfl (by kernel_rfl) (by kernel_rfl) (by kernel_rfl) (fun _ _ _ h => h) (Or.inl ⟨by kernel_rfl, ?_⟩) (by assumption) ?_
        rotate_left 1
        focus (intro w' hSw; (try dsimp only at hSw); go_simp; (try with_reducible rfl))
        try simp only [Act.put, List.setIfInBounds_toArray, List.set_cons_zero, List.set_cons_succ]
        refine wpAnyH_take (i := 9) (oi := ⟨some 21, _, _, _, _, _⟩) (v := ?_) rfl (by kernel_rfl) (by kernel_rfl) (by kernel_rfl) (fun _ _ _ h => h) (Or.inl ⟨by kernel_rfl, ?_⟩) (by assumption) ?_
        rotate_left 1
        focus (intro w' hSw; (try dsimp only at hSw); go_simp; (try with_reducible rfl))
        try simp only [Act.put, List.setIfInBounds_toArray, List.set_cons_zero, List.set_cons_succ]
        refine wpAnyH_take (i := 10) (oi := ⟨some 22, _, _, _, _, _⟩) (v := ?_) rfl (by kernel_rfl) (by kernel_rfl) (by kernel_rfl) (fun _ _ _ h => h) (Or.inl ⟨by kernel_rfl, ?_⟩) (by assumption) ?_
        rotate_left 1
        focus (intro w' hSw; (try dsimp only at hSw); go_simp; (try with_reducible rfl))
        try simp only [Act.put, List.setIfInBounds_toArray, List.set_cons_zero, List.set_cons_succ]
        refine wpAnyH_ready (rs := [11]) (by kernel_rfl) (by simp) ?_
        refine AllReadyH.cons rfl (fun K hK => ?_) AllReadyH.nil
        obtain ⟨v2, hv2⟩ : ∃ v2, v2 = World.alloc v1 (.cells #[.int .i64 0, .bool false, .int .i64 0, .int .i64 0, .int .i64 0, .slice none 0 0, .string ⟨#[]⟩] 50) := ⟨_, rfl⟩
        have hxv2 : Below (World.heap v1).size v1 v2 := by rw [hv2]; exact (Below.refl _ _).alloc (Nat.le_refl _) _
        have HNv2 := Lib.hid (show v2.heap[(World.heap v1).size]? = some (.cells #[.int .i64 0, .bool false, .int .i64 0, .int .i64 0, .int .i64 0, .slice none 0 0, .string ⟨#[]⟩] 50 (0, 0)) by rw [hv2]; exact heap_alloc_new v1 _)
        have hqv2 := (hxv2.cell (p := ⟨q, 0, none⟩) (World.block_lt_of_cell? _ _ hqv1)).trans hqv1
        have HXv2 := Lib.hid hxv2
        go_simp
        rw [← hv2]
        clear hv2 hxv2
        clear hHeld
        refine hK.out _ _ (hqv2) (fun hHeld => ?_)
        clear hK
        try simp only [Act.put, List.setIfInBounds_toArray, List.set_cons_zero, List.set_cons_succ]
        refine wpAnyH_ready (rs := [12]) (by kernel_rfl) (by simp) ?_
        refine AllReadyH.cons rfl (fun K hK => ?_) AllReadyH.nil
        have hz := HNv2.out
        have z0 := cell_of_blk hz 0
        have fz0 := free_of_blk hz 0
        have z1 := cell_of_blk hz 1
        have fz1 := free_of_blk hz 1
        have z2 := cell_of_blk hz 2
        have fz2 := free_of_blk hz 2
        have z3 := cell_of_blk hz 3
        have fz3 := free_of_blk hz 3
        have z4 := cell_of_blk hz 4
        have fz4 := free_of_blk hz 4
        have z5 := cell_of_blk hz 5
        have fz5 := free_of_blk hz 5
        have z6 := cell_of_blk hz 6
        have fz6 := free_of_blk hz 6
        obtain ⟨v3, hv3⟩ : ∃ v3, v3 = (((((((v2.setCell ⟨(World.heap v1).size, 0, none⟩ (.int .i64 xe.ep)).setCell ⟨(World.heap v1).size, 1, none⟩ (.bool xe.th)).setCell ⟨(World.heap v1).size, 2, none⟩ (.int .i64 xe.kd)).setCell ⟨(World.heap v1).size, 3, none⟩ (.int .i64 xe.lv)).setCell ⟨(World.heap v1).size, 4, none⟩ (.int .i64 xe.nd)).setCell ⟨(World.heap v1).size, 5, none⟩ (.slice xe.da xe.dn xe.dc)).setCell ⟨(World.heap v1).size, 6, none⟩ (.string xe.tg)) := ⟨_, rfl⟩
        have h9 : v3 = setsV v2 (World.heap v1).size 0 [.int .i64 xe.ep, .bool xe.th, .int .i64 xe.kd, .int .i64 xe.lv, .int .i64 xe.nd, .slice xe.da xe.dn xe.dc, .string xe.tg] := hv3
        have HM : Hid (Mid W1 q B h i c x y k C xe (World.heap v1).size v3) := Lib.hid (by rw [h9]; exact HLate.out _ _ _ _ HBV.out HLv1.out HXv2.out HNv2.out (Nat.le_refl _))
        have hqv3 := HM.out.q0
        go_simp
        rw [← hv3]
        clear hv3 h9 hz z0 fz0 z1 fz1 z2 fz2 z3 fz3 z4 fz4 z5 fz5 z6 fz6
        clear hHeld
        refine hK.out _ _ (hqv3) (fun hHeld => ?_)
        clear hK
        try simp only [Act.put, List.setIfInBounds_toArray, List.set_cons_zero, List.set_cons_succ]
        refine wpAnyH_take (i := 13) (oi := ⟨some 11, _, _, _, _, _⟩) (v := ?_) rfl (by kernel_rfl) (by kernel_rfl) (by kernel_rfl) (fun _ _ _ h => h) (Or.inl ⟨by kernel_rfl, ?_⟩) (by assumption) ?_
        rotate_left 1
        focus (intro w' hSw; (try dsimp only at hSw); go_simp; (try with_reducible rfl))
        try simp only [Act.put, List.setIfInBounds_toArray, List.set_cons_zero, List.set_cons_succ]
        refine wpAnyH_done (by kernel_rfl) ?_ _
        clear hHeld
        go_wp2_with fail
        go_meet
        case rel => exact ⟨_, rfl, rfl, HM⟩
      · skip
        obtain ⟨v1, hv1⟩ : ∃ v1, v1 = World.alloc V (.cells #[.int .i64 0, .bool false, .int .i64 0, .int .i64 0, .int .i64 0, .slice none 0 0, .string ⟨#[]⟩] 50) := ⟨_, rfl⟩
        have hxv1 : Below (World.heap V).size V v1 := by rw [hv1]; exact (Below.refl _ _).alloc (Nat.le_refl _) _
        have HNv1 := Lib.hid (show v1.heap[(World.heap V).size]? = some (.cells #[.int .i64 0, .bool false, .int .i64 0, .int .i64 0, .int .i64 0, .slice none 0 0, .string ⟨#[]⟩] 50 (0, 0)) by rw [hv1]; exact heap_alloc_new V _)
        have HBv1 := Lib.hid (HBV.out.trans (hxv1.mono HBV.out.size))
        go_simp
        rw [← hv1]
        clear hv1 hxv1
        clear hHeld
        refine hK.out _ _ (HS.out _ HBv1.out) (fun hHeld => ?_)
        clear hK
        try simp only [Act.put, List.setIfInBounds_toArray, List.set_cons_zero, List.set_cons_succ]
        refine wpAnyH_ready (rs := [7]) (by kernel_rfl) (by simp) ?_
        refine AllReadyH.cons rfl (fun K hK => ?_) AllReadyH.nil
        go_simp
        go_at_call 45
        refine (HG.out _ HBv1.out).mono ?_
        rintro en v2 ⟨rfl, hlv2⟩
        have HLv2 := Lib.hid hlv2
        have hqv2 := HAft.out _ _ HBv1.out hlv2
        clear hlv2
        clear hHeld
        refine hK.out _ _ (hqv2) (fun hHeld => ?_)
        clear hK
        try simp only [Act.put, List.setIfInBounds_toArray, List.set_cons_zero, List.set_cons_succ]
        refine wpAnyH_take (i := 8) (oi := ⟨some 12, _, _, _, _, _⟩) (v := ?_) rfl (by kernel_rfl) (by kernel_rfl) (by kernel_rfl) (fun _ _ _ h => h) (Or.inl ⟨by kernel_rfl, ?_⟩) (by assumption) ?_
        rotate_left 1
        focus (intro w' hSw; (try dsimp only at hSw); go_simp; (try with_reducible rfl))
        try simp only [Act.put, List.setIfInBounds_toArray, List.set_cons_zero, List.set_cons_succ]
        refine wpAnyH_take (i := 9) (oi := ⟨some 21, _, _, _, _, _⟩) (v := ?_) rfl (by kernel_rfl) (by kernel_rfl) (by kernel_rfl) (fun _ _ _ h => h) (Or.inl ⟨by kernel_rfl, ?_⟩) (by assumption) ?_
        rotate_left 1
        focus (intro w' hSw; (try dsimp only at hSw); go_simp; (try with_reducible rfl))
        try simp only [Act.put, List.setIfInBounds_toArray, List.set_cons_zero, List.set_cons_succ]
        refine wpAnyH_take (i := 10) (oi := ⟨some 22, _, _, _, _, _⟩) (v := ?_) rfl (by kernel_rfl) (by kernel_rfl) (by kernel_rfl) (fun _ _ _ h => h) (Or.inl ⟨by kernel_rfl, ?_⟩) (by assumption) ?_
        rotate_left 1
        focus (intro w' hSw; (try dsimp only at hSw); go_simp; (try with_reducible rfl))
        try simp only [Act.put, List.setIfInBounds_toArray, List.set_cons_zero, List.set_cons_succ]
        refine wpAnyH_ready (rs := [12]) (by kernel_rfl) (by simp) ?_
        refine AllReadyH.cons rfl (fun K hK => ?_) AllReadyH.nil
        have hz := HBlk.out _ _ _ _ HBv1.out HLv2.out HNv1.out HBV.out.size
        have z0 := cell_of_blk hz 0
        have fz0 := free_of_blk hz 0
        have z1 := cell_of_blk hz 1
        have fz1 := free_of_blk hz 1
        have z2 := cell_of_blk hz 2
        have fz2 := free_of_blk hz 2
        have z3 := cell_of_blk hz 3
        have fz3 := free_of_blk hz 3
        have z4 := cell_of_blk hz 4
        have fz4 := free_of_blk hz 4
        have z5 := cell_of_blk hz 5
        have fz5 := free_of_blk hz 5
        have z6 := cell_of_blk hz 6
        have fz6 := free_of_blk hz 6
        obtain ⟨v3, hv3⟩ : ∃ v3, v3 = (((((((v2.setCell ⟨(World.heap V).size, 0, none⟩ (.int .i64 xe.ep)).setCell ⟨(World.heap V).size, 1, none⟩ (.bool xe.th)).setCell ⟨(World.heap V).size, 2, none⟩ (.int .i64 xe.kd)).setCell ⟨(World.heap V).size, 3, none⟩ (.int .i64 xe.lv)).setCell ⟨(World.heap V).size, 4, none⟩ (.int .i64 xe.nd)).setCell ⟨(World.heap V).size, 5, none⟩ (.slice xe.da xe.dn xe.dc)).setCell ⟨(World.heap V).size, 6, none⟩ (.string xe.tg)) := ⟨_, rfl⟩
        have h9 : v3 = setsV v2 (World.heap V).size 0 [.int .i64 xe.ep, .bool xe.th, .int .i64 xe.kd, .int .i64 xe.lv, .int .i64 xe.nd, .slice xe.da xe.dn xe.dc, .string xe.tg] := hv3
        have HM : Hid (Mid W1 q B h i c x y k C xe (World.heap V).size v3) := Lib.hid (by rw [h9]; exact HEarly.out _ _ _ HBv1.out HLv2.out HNv1.out HBV.out.size)
        have hqv3 := HM.out.q0
        go_simp
        rw [← hv3]
        clear hv3 h9 hz z0 fz0 z1 fz1 z2 fz2 z3 fz3 z4 fz4 z5 fz5 z6 fz6
        clear hHeld
        refine hK.out _ _ (hqv3) (fun hHeld => ?_)
        clear hK
        try simp only [Act.put, List.setIfInBounds_toArray, List.set_cons_zero, List.set_cons_succ]
        refine wpAnyH_take (i := 13) (oi := ⟨some 11, _, _, _, _, _⟩) (v := ?_) rfl (by kernel_rfl) (by kernel_rfl) (by kernel_rfl) (fun _ _ _ h => h) (Or.inl ⟨by kernel_rfl, ?_⟩) (by assumption) ?_
        rotate_left 1
        focus (intro w' hSw; (try dsimp only at hSw); go_simp; (try with_reducible rfl))
        try simp only [Act.put, List.setIfInBounds_toArray, List.set_cons_zero, List.set_cons_succ]
        refine wpAnyH_done (by kernel_rfl) ?_ _
        clear hHeld
        go_wp2_with fail
        go_meet
        case rel => exact ⟨_, rfl, rfl, HM⟩
    · skip
      obtain ⟨v1, hv1⟩ : ∃ v1, v1 = World.alloc V (.cells #[.int .i64 0, .bool false, .int .i64 0, .int .i64 0, .int .i64 0, .slice none 0 0, .string ⟨#[]⟩] 50) := ⟨_, rfl⟩
      have hxv1 : Below (World.heap V).size V v1 := by rw [hv1]; exact (Below.refl _ _).alloc (Nat.le_refl _) _
      have HNv1 := Lib.hid (show v1.heap[(World.heap V).size]? = some (.cells #[.int .i64 0, .bool false, .int .i64 0, .int .i64 0, .int .i64 0, .slice none 0 0, .string ⟨#[]⟩] 50 (0, 0)) by rw [hv1]; exact heap_alloc_new V _)
      have HBv1 := Lib.hid (HBV.out.trans (hxv1.mono HBV.out.size))
      go_simp
      rw [← hv1]
      clear hv1 hxv1
      clear hHeld
      refine hK.out _ _ (HS.out _ HBv1.out) (fun hHeld => ?_)
      clear hK
      try simp only [Act.put, List.setIfInBounds_toArray, List.set_cons_zero, List.set_cons_succ]
      refine wpAnyH_ready (rs := [6]) (by kernel_rfl) (by simp) ?_
      refine AllReadyH.cons rfl (fun K hK => ?_) AllReadyH.nil
      go_simp
      go_at_call 44
      refine (HCh.out _).mono ?_
      rintro en vch ⟨rfl, rfl⟩
      clear hHeld
      refine hK.out _ _ (HS.out _ HBv1.out) (fun hHeld => ?_)
      clear hK
      try simp only [Act.put, List.setIfInBounds_toArray, List.set_cons_zero, List.set_cons_succ]
      refine wpAnyH_ready (rs := [7]) (by kernel_rfl) (by simp) ?_
      refine AllReadyH.cons rfl (fun K hK => ?_) AllReadyH.nil
      go_simp
      go_at_call 45
      refine (HG.out _ HBv1.out).mono ?_
      rintro en v2 ⟨rfl, hlv2⟩
      have HLv2 := Lib.hid hlv2
      have hqv2 := HAft.out _ _ HBv1.out hlv2
      clear hlv2
      clear hHeld
      refine hK.out _ _ (hqv2) (fun hHeld => ?_)
      clear hK
      try simp only [Act.put, List.setIfInBounds_toArray, List.set_cons_zero, List.set_cons_succ]
      refine wpAnyH_take (i := 8) (oi := ⟨some 12, _, _, _, _, _⟩) (v := ?_) rfl (by kernel_rfl) (by kernel_rfl) (by kernel_rfl) (fun _ _ _ h => h) (Or.inl ⟨by kernel_rfl, ?_⟩) (by assumption) ?_
      rotate_left 1
      focus (intro w' hSw; (try dsimp only at hSw); go_simp; (try with_reducible rfl))
      try simp only [Act.put, List.setIfInBounds_toArray, List.set_cons_zero, List.set_cons_succ]
      refine wpAnyH_take (i := 9) (oi := ⟨some 21, _, _, _, _, _⟩) (v := ?_) rfl (by kernel_rfl) (by kernel_rfl) (by kernel_rfl) (fun _ _ _ h => h) (Or.inl ⟨by kernel_rfl, ?_⟩) (by assumption) ?_
      rotate_left 1
      focus (intro w' hSw; (try dsimp only at hSw); go_simp; (try with_reducible rfl))
      try simp only [Act.put, List.setIfInBounds_toArray, List.set_cons_zero, List.set_cons_succ]
      refine wpAnyH_take (i := 10) (oi := ⟨some 22, _, _, _, _, _⟩) (v := ?_) rfl (by kernel_rfl) (by kernel_rfl) (by kernel_rfl) (fun _ _ _ h => h) (Or.inl ⟨by kernel_rfl, ?_⟩) (by assumption) ?_
      rotate_left 1
      focus (intro w' hSw; (try dsimp only at hSw); go_simp; (try with_reducible rfl))
      try simp only [Act.put, List.setIfInBounds_toArray, List.set_cons_zero, List.set_cons_succ]
      refine wpAnyH_ready (rs := [12]) (by kernel_rfl) (by simp) ?_
      refine AllReadyH.cons rfl (fun K hK => ?_) AllReadyH.nil
      have hz := HBlk.out _ _ _ _ HBv1.out HLv2.out HNv1.out HBV.out.size
      have z0 := cell_of_blk hz 0
      have fz0 := free_of_blk hz 0
      have z1 := cell_of_blk hz 1
      have fz1 := free_of_blk hz 1
      have z2 := cell_of_blk hz 2
      have fz2 := free_of_blk hz 2
      have z3 := cell_of_blk hz 3
      have fz3 := free_of_blk hz 3
      have z4 := cell_of_blk hz 4
      have fz4 := free_of_blk hz 4
      have z5 := cell_of_blk hz 5
      have fz5 := free_of_blk hz 5
      have z6 := cell_of_blk hz 6
      have fz6 := free_of_blk hz 6
      obtain ⟨v3, hv3⟩ : ∃ v3, v3 = (((((((v2.setCell ⟨(World.heap V).size, 0, none⟩ (.int .i64 xe.ep)).setCell ⟨(World.heap V).size, 1, none⟩ (.bool xe.th)).setCell ⟨(World.heap V).size, 2, none⟩ (.int .i64 xe.kd)).setCell ⟨(World.heap V).size, 3, none⟩ (.int .i64 xe.lv)).setCell ⟨(World.heap V).size, 4, none⟩ (.int .i64 xe.nd)).setCell ⟨(World.heap V).size, 5, none⟩ (.slice xe.da xe.dn xe.dc)).setCell ⟨(World.heap V).size, 6, none⟩ (.string xe.tg)) := ⟨_, rfl⟩
      have h9 : v3 = setsV v2 (World.heap V).size 0 [.int .i64 xe.ep, .bool xe.th, .int .i64 xe.kd, .int .i64 xe.lv, .int .i64 xe.nd, .slice xe.da xe.dn xe.dc, .string xe.tg] := hv3
      have HM : Hid (Mid W1 q B h i c x y k C xe (World.heap V).size v3) := Lib.hid (by rw [h9]; exact HEarly.out _ _ _ HBv1.out HLv2.out HNv1.out HBV.out.size)
      have hqv3 := HM.out.q0
      go_simp
      rw [← hv3]
      clear hv3 h9 hz z0 fz0 z1 fz1 z2 fz2 z3 fz3 z4 fz4 z5 fz5 z6 fz6
      clear hHeld
      refine hK.out _ _ (hqv3) (fun hHeld => ?_)
      clear hK
      try simp only [Act.put, List.setIfInBounds_toArray, List.set_cons_zero, List.set_cons_succ]
      refine wpAnyH_take (i := 13) (oi := ⟨some 11, _, _, _, _, _⟩) (v := ?_) rfl (by kernel_rfl) (by kernel_rfl) (by kernel_rfl) (fun _ _ _ h => h) (Or.inl ⟨by kernel_rfl, ?_⟩) (by assumption) ?_
      rotate_left 1
      focus (intro w' hSw; (try dsimp only at hSw); go_simp; (try with_reducible rfl))
      try simp only [Act.put, List.setIfInBounds_toArray, List.set_cons_zero, List.set_cons_succ]
      refine wpAnyH_done (by kernel_rfl) ?_ _
      clear hHeld
      go_wp2_with fail
      go_meet
      case rel => exact ⟨_, rfl, rfl, HM⟩
  case rest =>
    obtain ⟨β, rfl, rfl, HM⟩ := hcut
    have hgt := HGot.out
    subst hgt
    have hmb := HM.out.blk
    obtain ⟨bo', hdc⟩ := HM.out.dc
    have m0 := cell_of_blk hmb 0
    have n1 := cell_of_blk hdc.blk 1
    have g1 := free_of_blk hdc.blk 1
    have hzb : wc.heap[w.heap.size]? = some (.cells #[.int .i64 0, .bool false, .int .i64 0, .int .i64 0, .int .i64 0, .slice none 0 0, .string ⟨#[]⟩] 50 (0, 0)) := HM.out.kept.blk HZ1.out (by unfold LS; decide)
    have hx1 : IntKind.i64.wrap (x + 1) = x + 1 := IntWalk.i64_in _ (by omega)
    obtain ⟨hd2, hk2⟩ := hdc.count 1 (.int .i64 (x + 1)) (x' := x + 1) (y' := y) rfl
    have hz2 : (wc.setCell ⟨q, 1, none⟩ (.int .i64 (x + 1))).heap[w.heap.size]? = some (.cells #[.int .i64 0, .bool false, .int .i64 0, .int .i64 0, .int .i64 0, .slice none 0 0, .string ⟨#[]⟩] 50 (0, 0)) := hk2.blk hzb (by decide)
    have hm2 : (wc.setCell ⟨q, 1, none⟩ (.int .i64 (x + 1))).heap[β]? = some (.cells #[.int .i64 xe.ep, .bool xe.th, .int .i64 xe.kd, .int .i64 xe.lv, .int .i64 xe.nd, .slice xe.da xe.dn xe.dc, .string xe.tg] 50 (0, 0)) := hk2.blk hmb (by decide)
    obtain ⟨W3, hW3⟩ : ∃ W3, W3 = wc.setCell ⟨q, 1, none⟩ (.int .i64 (x + 1)) := ⟨_, rfl⟩
    rw [← hW3] at hd2 hk2 hz2 hm2
    have hk3 : Kept DS B w W3 := (Kept.of_below HB1.out DS B).trans ((keptWider HM.out.kept fun _ => LS.ds).trans (keptWider hk2 fun _ h => .inr (.inr h)))
    have hsp3 := HSP.out.kept hk3 (by unfold DS; decide)
    have b0 := cell_of_blk hm2 0
    have b1 := cell_of_blk hm2 1
    have b2 := cell_of_blk hm2 2
    have b3 := cell_of_blk hm2 3
    have b4 := cell_of_blk hm2 4
    have b5 := cell_of_blk hm2 5
    have b6 := cell_of_blk hm2 6
    have HAP := Lib.hid (apart_any lo xe P W3 hsp3 HP.out)
    have HZ2 := Lib.hid hz2
    have HD2 := Lib.hid hd2
    have HK3 := Lib.hid hk3
    have HW3 := Lib.hid hW3
    clear hmb hdc hzb hd2 hk2 hz2 hm2 hk3 hsp3 hW3 HM
    go_upto_region 6 with fail
    rw [← HW3.out]
    clear n1 g1 m0
    go_wp2_with fail
    refine HAP.out.mono ?_
    rintro en w4 ⟨⟨A, c', rfl, hsp4⟩, hb4⟩
    have hz4 : w4.heap[w.heap.size]? = some (.cells #[.int .i64 0, .bool false, .int .i64 0, .int .i64 0, .int .i64 0, .slice none 0 0, .string ⟨#[]⟩] 50 (0, 0)) := (hb4.block _ (lt_of_some HZ2.out)).trans HZ2.out
    have hd4 := HD2.out.later hb4
    have hk4 : Kept DS B w w4 := HK3.out.trans (Kept.of_below hb4 DS B)
    have hsp5 := hsp4.mono (show w.heap.size ≤ W3.heap.size from HK3.out.size)
    have z0 := cell_of_blk hz4 0
    have fz0 := free_of_blk hz4 0
    have z1 := cell_of_blk hz4 1
    have fz1 := free_of_blk hz4 1
    have z2 := cell_of_blk hz4 2
    have fz2 := free_of_blk hz4 2
    have z3 := cell_of_blk hz4 3
    have fz3 := free_of_blk hz4 3
    have z4 := cell_of_blk hz4 4
    have fz4 := free_of_blk hz4 4
    have z5 := cell_of_blk hz4 5
    have fz5 := free_of_blk hz4 5
    have z6 := cell_of_blk hz4 6
    have fz6 := free_of_blk hz4 6
    obtain ⟨W9, hW9⟩ : ∃ W9, W9 = (((((((w4.setCell ⟨w.heap.size, 0, none⟩ (.int .i64 xe.ep)).setCell ⟨w.heap.size, 1, none⟩ (.bool xe.th)).setCell ⟨w.heap.size, 2, none⟩ (.int .i64 xe.kd)).setCell ⟨w.heap.size, 3, none⟩ (.int .i64 xe.lv)).setCell ⟨w.heap.size, 4, none⟩ (.int .i64 xe.nd)).setCell ⟨w.heap.size, 5, none⟩ (.slice A xe.dn c')).setCell ⟨w.heap.size, 6, none⟩ (.string xe.tg)) := ⟨_, rfl⟩
    have h9 : W9 = setsV w4 w.heap.size 0 [.int .i64 xe.ep, .bool xe.th, .int .i64 xe.kd, .int .i64 xe.lv, .int .i64 xe.nd, .slice A xe.dn c', .string xe.tg] := hW9
    have hbk9 : W9.heap[w.heap.size]? = some (.cells #[.int .i64 xe.ep, .bool xe.th, .int .i64 xe.kd, .int .i64 xe.lv, .int .i64 xe.nd, .slice A xe.dn c', .string xe.tg] 50 (0, 0)) := by rw [h9]; exact setsV_all hz4 rfl
    have ht9 : Tn (fun k => k = w.heap.size) w4 W9 := by rw [h9]; exact setsV_tn (S := fun k => k = w.heap.size) _ (.inr rfl) _ _ _ (Tn.refl _ _)
    have hk49 : Kept (fun t => t = 50) 0 w4 W9 := ht9.kept fun k hk => by subst hk; exact ⟨Nat.zero_le _, _, _, _, hz4, rfl⟩
    have HF : Hid (Sp W9 w.heap.size A xe.dn P ∧ (∃ bo', Dc W9 B q h (C.set i ⟨c.g, bo', c.r, getL c.L k⟩) (x + 1) y) ∧ Kept DS B w W9) := Lib.hid ⟨hsp5.kept hk49 (by decide), ⟨bo', hd4.kept hk49 (by decide) (by decide) (by decide) (by decide) (by decide)⟩, ⟨ht9.os.trans hk4.os, ht9.tape.trans hk4.tape, ht9.output.trans hk4.output, Nat.le_trans hk4.size ht9.size, fun j hj hc => (ht9.block j (Nat.lt_of_lt_of_le hj hk4.size) (by omega)).trans (hk4.block j hj hc)⟩⟩
    have y0 := cell_of_blk hbk9 0
    have y1 := cell_of_blk hbk9 1
    have y2 := cell_of_blk hbk9 2
    have y3 := cell_of_blk hbk9 3
    have y4 := cell_of_blk hbk9 4
    have y5 := cell_of_blk hbk9 5
    have y6 := cell_of_blk hbk9 6
    have HW9 := Lib.hid hW9
    clear hz4 hd4 hk4 hsp4 hsp5 hb4 h9 hbk9 ht9 hk49 hW9
    go_wp2_with fail
    rw [← HW9.out]
    exact bodyPost_ret (v := .tuple #[.agg #[.int .i64 xe.ep, .bool xe.th, .int .i64 xe.kd, .int .i64 xe.lv, .int .i64 xe.nd, .slice A xe.dn c', .string xe.tg], .bool true]) (by simp [results, Try.results20, go_sem, y0, y1, y2, y3, y4, y5, y6]) rfl ⟨A, c', rfl, HF.out⟩
end Go.Proofs.Ythhcbmljckgncaa.dca
