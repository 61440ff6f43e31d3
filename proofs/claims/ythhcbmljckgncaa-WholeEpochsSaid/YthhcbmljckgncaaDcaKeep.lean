/- What dcache's Keep answers. Condition: the cache lies in memory. -/
import Derived.Test.YthhcbmljckgncaaDcaLook
namespace Go.Proofs.Ythhcbmljckgncaa.dca
set_option maxRecDepth 100000
open Go.RowKit Go.Proofs.Ythhcbmljckgncaa.words Go.Proofs.Ythhcbmljckgncaa.lru Go.Proofs.Ythhcbmljckgncaa.sha Go.Proofs.Ythhcbmljckgncaa.lrd Go.Proofs.Ythhcbmljckgncaa.shd

set_option maxHeartbeats 6400000 in
/-- Something of a later epoch is remembered: it stays. -/
theorem keep_no (B q h i : Nat) (c : Cc) (C : List Cc) (x y : Int) (v : Ent) (dir s k : ByteArray) (w : World) (d : Dc w B q h C x y) (hB : B ≤ w.heap.size) (hk : k = childB dir s) (h1 : 0 < C.length) (h2 : C.length ≤ 256) (hki : i = ofF k C.length) (hi : C[i]? = some c) (hlen : c.L.length ≤ 900) (hd : dir.size ≤ 1000) (hs : s.size ≤ 1000)
    (hno : lrd.gotB c.L k = true ∧ v.ep < (lrd.gotI c.L k).ep) :
    Calls Try.prog 17 #[.pointer (some ⟨q, 0, none⟩), .string dir, .string s, .agg #[.int .i64 v.ep, .bool v.th, .int .i64 v.kd, .int .i64 v.lv, .int .i64 v.nd, .slice v.da v.dn v.dc, .string v.tg]] w fun e w' => e = .returned (.bool false) ∧ (∃ bo', Dc w' B q h (C.set i ⟨c.g, bo', c.r, getL c.L k⟩) x y) ∧ Kept DS B w w' := by
  obtain ⟨xe, hxe⟩ : ∃ xe, xe = lrd.gotI c.L k := ⟨_, rfl⟩
  obtain ⟨gb, hgb⟩ : ∃ gb, gb = lrd.gotB c.L k := ⟨_, rfl⟩
  rw [← hxe, ← hgb] at hno
  obtain ⟨W1, hW1⟩ : ∃ W1, W1 = w.alloc (.cells #[.int .i64 v.ep, .bool v.th, .int .i64 v.kd, .int .i64 v.lv, .int .i64 v.nd, .slice v.da v.dn v.dc, .string v.tg] 50) := ⟨_, rfl⟩
  have hb1 : Below w.heap.size w W1 := by rw [hW1]; exact (Below.refl _ _).alloc (Nat.le_refl _) _
  have hz1 : W1.heap[w.heap.size]? = some (.cells #[.int .i64 v.ep, .bool v.th, .int .i64 v.kd, .int .i64 v.lv, .int .i64 v.nd, .slice v.da v.dn v.dc, .string v.tg] 50 (0, 0)) := by rw [hW1]; exact heap_alloc_new w _
  have d1 := d.later hb1
  have HCh := Lib.hid (fun w => child_any dir s w (by omega) (by omega))
  rw [← hk] at HCh
  have hks : k.size ≤ 9223372036854775807 := by have := childB_size dir s; rw [hk]; omega
  have hB1 : B ≤ W1.heap.size := Nat.le_trans hB hb1.size
  have HG : Hid (Calls Try.prog 45 #[.pointer (some ⟨h, 0, none⟩), .string k] W1 fun e w' => e = .returned (.tuple #[.agg #[.int .i64 xe.ep, .bool xe.th, .int .i64 xe.kd, .int .i64 xe.lv, .int .i64 xe.nd, .slice xe.da xe.dn xe.dc, .string xe.tg], .bool gb]) ∧ lrd.Left W1 B c.g c.r c.bo (getL c.L k) w') := Lib.hid (by
    have := sget_any B h c.g (gsOf C) c.bo c.r c.L k W1 d1.shd (by rw [gs_len]; exact h1) (by rw [gs_len]; exact h2) hks (by rw [gs_len, ← hki]; exact gs_at hi) (d1.fam.lru i c hi) (d1.fam.ok i c hi) (by omega)
    unfold lrd.Got at this
    rw [← hxe, ← hgb] at this
    exact this)
  have HLF : Hid (∀ w2 : World, lrd.Left W1 B c.g c.r c.bo (getL c.L k) w2 → (∃ bo', Dc w2 B q h (C.set i ⟨c.g, bo', c.r, getL c.L k⟩) x y) ∧ Kept LS B W1 w2) := Lib.hid fun w2 h2 => d1.left hi h2 ((d.fam.ok i c hi).get k)
  have c0 := cell_of_blk d1.blk 0
  unfold ptrC at c0
  have HZ1 := Lib.hid hz1
  have HB1 := Lib.hid hb1
  have HBw : Hid (B ≤ w.heap.size) := Lib.hid hB
  have HW1 := Lib.hid hW1
  obtain ⟨hgt, hep⟩ := hno
  subst hgt
  have HF : Hid (∀ w', (∃ bo', Dc w' B q h (C.set i ⟨c.g, bo', c.r, getL c.L k⟩) x y) → Kept LS B w w' → (∃ bo', Dc w' B q h (C.set i ⟨c.g, bo', c.r, getL c.L k⟩) x y) ∧ Kept DS B w w') := Lib.hid fun w' a b => ⟨a, keptWider b fun _ => LS.ds⟩
  clear hz1 hb1 hW1 hk hki hd hs hks hxe hgb d d1 hi hlen h1 h2 hB hB1
  go_enter Try.func17, Try.ntmps17
  go_upto_region 1 with fail
  rw [← HW1.out]
  go_wp2_with fail
  refine (HCh.out _).mono ?_
  rintro en vch ⟨rfl, rfl⟩
  go_wp2_with fail
  refine HG.out.mono ?_
  rintro en w2 ⟨rfl, hl2⟩
  obtain ⟨⟨bo', d2⟩, hk2⟩ := HLF.out w2 hl2
  obtain ⟨W3, hW3⟩ : ∃ W3, W3 = w2.alloc (.cells #[.int .i64 xe.ep, .bool xe.th, .int .i64 xe.kd, .int .i64 xe.lv, .int .i64 xe.nd, .slice xe.da xe.dn xe.dc, .string xe.tg] 50) := ⟨_, rfl⟩
  have hb3 : Below w2.heap.size w2 W3 := by rw [hW3]; exact (Below.refl _ _).alloc (Nat.le_refl _) _
  have hx3 : W3.heap[w2.heap.size]? = some (.cells #[.int .i64 xe.ep, .bool xe.th, .int .i64 xe.kd, .int .i64 xe.lv, .int .i64 xe.nd, .slice xe.da xe.dn xe.dc, .string xe.tg] 50 (0, 0)) := by rw [hW3]; exact heap_alloc_new w2 _
  have hz3 : W3.heap[w.heap.size]? = some (.cells #[.int .i64 v.ep, .bool v.th, .int .i64 v.kd, .int .i64 v.lv, .int .i64 v.nd, .slice v.da v.dn v.dc, .string v.tg] 50 (0, 0)) := (hb3.block _ (by have := lt_of_some HZ1.out; have := hk2.size; omega)).trans (hk2.blk HZ1.out (by unfold LS; decide))
  have d3 := d2.later hb3
  have hk3 : Kept LS B w W3 := (Kept.of_below HB1.out LS B).trans (hk2.trans (Kept.of_below hb3 LS B))
  have o0 := cell_of_blk hx3 0
  have e0 := cell_of_blk hz3 0
  have e1 := cell_of_blk hz3 1
  have e2 := cell_of_blk hz3 2
  have e3 := cell_of_blk hz3 3
  have e4 := cell_of_blk hz3 4
  have e5 := cell_of_blk hz3 5
  have e6 := cell_of_blk hz3 6
  have HD3 := Lib.hid d3
  have HK3 := Lib.hid hk3
  have HZ3 := Lib.hid hz3
  have HW3 := Lib.hid hW3
  clear hl2 d2 hk2 hb3 hx3 hz3 d3 hk3 hW3 c0
  go_upto_region 3 with fail
  rw [← HW3.out]
  go_wp2_with fail
  go_ret
  exact ⟨rfl, HF.out _ ⟨bo', HD3.out⟩ HK3.out⟩
set_option maxHeartbeats 6400000 in
/-- Nothing of a later epoch is remembered: it is kept, apart. -/
theorem keep_yes (B q h i : Nat) (c : Cc) (C : List Cc) (x y : Int) (v : Ent) (dir s k : ByteArray) (w : World) (d : Dc w B q h C x y) (hB : B ≤ w.heap.size) (hk : k = childB dir s) (h1 : 0 < C.length) (h2 : C.length ≤ 256) (hki : i = ofF k C.length) (hi : C[i]? = some c) (hlen : c.L.length ≤ 900) (hd : dir.size ≤ 1000) (hs : s.size ≤ 1000) (lo : Nat) (P : List (Int × Int)) (hP : P.length ≤ 1000) (hsp : Sp w lo v.da v.dn P)
    (hno : lrd.gotB c.L k = false ∨ (lrd.gotI c.L k).ep ≤ v.ep) :
    Calls Try.prog 17 #[.pointer (some ⟨q, 0, none⟩), .string dir, .string s, .agg #[.int .i64 v.ep, .bool v.th, .int .i64 v.kd, .int .i64 v.lv, .int .i64 v.nd, .slice v.da v.dn v.dc, .string v.tg]] w fun e w' => e = .returned (.bool true) ∧ ∃ (A : Option Addr) (c' : Nat), Sp w' w.heap.size A v.dn P ∧ (∃ bo', Dc w' B q h (C.set i ⟨c.g, bo', c.r, putL c.L c.r k (moved v A c')⟩) x y) ∧ Kept DS B w w' := by
  obtain ⟨xe, hxe⟩ : ∃ xe, xe = lrd.gotI c.L k := ⟨_, rfl⟩
  obtain ⟨gb, hgb⟩ : ∃ gb, gb = lrd.gotB c.L k := ⟨_, rfl⟩
  rw [← hxe, ← hgb] at hno
  obtain ⟨W1, hW1⟩ : ∃ W1, W1 = w.alloc (.cells #[.int .i64 v.ep, .bool v.th, .int .i64 v.kd, .int .i64 v.lv, .int .i64 v.nd, .slice v.da v.dn v.dc, .string v.tg] 50) := ⟨_, rfl⟩
  have hb1 : Below w.heap.size w W1 := by rw [hW1]; exact (Below.refl _ _).alloc (Nat.le_refl _) _
  have hz1 : W1.heap[w.heap.size]? = some (.cells #[.int .i64 v.ep, .bool v.th, .int .i64 v.kd, .int .i64 v.lv, .int .i64 v.nd, .slice v.da v.dn v.dc, .string v.tg] 50 (0, 0)) := by rw [hW1]; exact heap_alloc_new w _
  have d1 := d.later hb1
  have HCh := Lib.hid (fun w => child_any dir s w (by omega) (by omega))
  rw [← hk] at HCh
  have hks : k.size ≤ 9223372036854775807 := by have := childB_size dir s; rw [hk]; omega
  have hB1 : B ≤ W1.heap.size := Nat.le_trans hB hb1.size
  have HG : Hid (Calls Try.prog 45 #[.pointer (some ⟨h, 0, none⟩), .string k] W1 fun e w' => e = .returned (.tuple #[.agg #[.int .i64 xe.ep, .bool xe.th, .int .i64 xe.kd, .int .i64 xe.lv, .int .i64 xe.nd, .slice xe.da xe.dn xe.dc, .string xe.tg], .bool gb]) ∧ lrd.Left W1 B c.g c.r c.bo (getL c.L k) w') := Lib.hid (by
    have := sget_any B h c.g (gsOf C) c.bo c.r c.L k W1 d1.shd (by rw [gs_len]; exact h1) (by rw [gs_len]; exact h2) hks (by rw [gs_len, ← hki]; exact gs_at hi) (d1.fam.lru i c hi) (d1.fam.ok i c hi) (by omega)
    unfold lrd.Got at this
    rw [← hxe, ← hgb] at this
    exact this)
  have HLF : Hid (∀ w2 : World, lrd.Left W1 B c.g c.r c.bo (getL c.L k) w2 → (∃ bo', Dc w2 B q h (C.set i ⟨c.g, bo', c.r, getL c.L k⟩) x y) ∧ Kept LS B W1 w2) := Lib.hid fun w2 h2 => d1.left hi h2 ((d.fam.ok i c hi).get k)
  have c0 := cell_of_blk d1.blk 0
  unfold ptrC at c0
  have HZ1 := Lib.hid hz1
  have HB1 := Lib.hid hb1
  have HBw : Hid (B ≤ w.heap.size) := Lib.hid hB
  have HW1 := Lib.hid hW1
  have HSP := Lib.hid hsp
  have HP := Lib.hid hP
  have hset : ∀ (bo' : Option Nat) (L : List (ByteArray × Ent)), (C.set i ⟨c.g, bo', c.r, L⟩)[i]? = some ⟨c.g, bo', c.r, L⟩ := fun bo' L => by rw [List.getElem?_set, if_pos rfl, if_pos (List.getElem?_eq_some_iff.1 hi).1]
  have HPut : Hid (∀ (bo' : Option Nat) (A : Option Addr) (c' : Nat) (W3 w4 : World), Dc W3 B q h (C.set i ⟨c.g, bo', c.r, getL c.L k⟩) x y → B ≤ W3.heap.size → Below W3.heap.size W3 w4 → Calls Try.prog 46 #[.pointer (some ⟨h, 0, none⟩), .string k, .agg #[.int .i64 v.ep, .bool v.th, .int .i64 v.kd, .int .i64 v.lv, .int .i64 v.nd, .slice A v.dn c', .string v.tg]] w4 fun e w' => e = .returned (.tuple #[.string (goneK (getL c.L k) c.r k (⟨#[]⟩ : ByteArray)), .bool (goneB (getL c.L k) c.r k)]) ∧ lrd.Left w4 B c.g c.r bo' (putL (getL c.L k) c.r k (moved v A c')) w') := Lib.hid fun bo' A c' W3 w4 d3 hB3 hb4 => by
    have d4 := d3.later hb4
    have hl : (C.set i ⟨c.g, bo', c.r, getL c.L k⟩).length = C.length := List.length_set
    exact sput_any B h c.g (gsOf (C.set i ⟨c.g, bo', c.r, getL c.L k⟩)) bo' c.r (getL c.L k) k (moved v A c') w4 d4.shd (by rw [gs_len, hl]; exact h1) (by rw [gs_len, hl]; exact h2) hks (by rw [gs_len, hl, ← hki]; exact gs_at (c := ⟨c.g, bo', c.r, getL c.L k⟩) (hset bo' _)) (d4.fam.lru i _ (hset bo' _)) (d4.fam.ok i _ (hset bo' _)) (by show (getL c.L k).length ≤ 900; rw [get_len (d.fam.ok i c hi)]; exact hlen) (Nat.le_trans hB3 hb4.size)
  have HEnd : Hid (∀ (bo' : Option Nat) (A : Option Addr) (c' : Nat) (W3 w4 w5 : World), Dc W3 B q h (C.set i ⟨c.g, bo', c.r, getL c.L k⟩) x y → Kept LS B w W3 → W3.heap[w.heap.size]? = some (.cells #[.int .i64 v.ep, .bool v.th, .int .i64 v.kd, .int .i64 v.lv, .int .i64 v.nd, .slice v.da v.dn v.dc, .string v.tg] 50 (0, 0)) → Below W3.heap.size W3 w4 → lrd.Left w4 B c.g c.r bo' (putL (getL c.L k) c.r k (moved v A c')) w5 → Sp w4 W3.heap.size A v.dn P → (w5.cell? ⟨q, 0, none⟩ = some (.pointer (some ⟨h, 0, none⟩)) ∧ w5.cell? ⟨w.heap.size, 0, none⟩ = some (.int .i64 v.ep) ∧ w5.cell? ⟨w.heap.size, 1, none⟩ = some (.bool v.th) ∧ w5.cell? ⟨w.heap.size, 2, none⟩ = some (.int .i64 v.kd) ∧ w5.cell? ⟨w.heap.size, 3, none⟩ = some (.int .i64 v.lv) ∧ w5.cell? ⟨w.heap.size, 4, none⟩ = some (.int .i64 v.nd) ∧ w5.cell? ⟨w.heap.size, 5, none⟩ = some (.slice v.da v.dn v.dc) ∧ w5.cell? ⟨w.heap.size, 6, none⟩ = some (.string v.tg)) ∧ Sp w5 w.heap.size A v.dn P ∧ (∃ bo', Dc w5 B q h (C.set i ⟨c.g, bo', c.r, putL c.L c.r k (moved v A c')⟩) x y) ∧ Kept DS B w w5) := Lib.hid fun bo' A c' W3 w4 w5 d3 hk3 hz3 hb4 hl hs4 => by
    have d4 := d3.later hb4
    obtain ⟨⟨bo5, d5⟩, hk5⟩ := d4.left (hset bo' _) hl ((d4.fam.ok i _ (hset bo' _)).put k _)
    have hk35 : Kept LS B w w5 := hk3.trans ((Kept.of_below hb4 LS B).trans hk5)
    have hz5 : w5.heap[w.heap.size]? = some (.cells #[.int .i64 v.ep, .bool v.th, .int .i64 v.kd, .int .i64 v.lv, .int .i64 v.nd, .slice v.da v.dn v.dc, .string v.tg] 50 (0, 0)) := ((Kept.of_below hb4 LS B).trans hk5).blk (show W3.heap[w.heap.size]? = some (.cells #[.int .i64 v.ep, .bool v.th, .int .i64 v.kd, .int .i64 v.lv, .int .i64 v.nd, .slice v.da v.dn v.dc, .string v.tg] 50 (0, 0)) from hz3) (by unfold LS; decide)
    rw [List.set_set, put_get] at d5
    exact ⟨⟨cell_of_blk d5.blk 0, cell_of_blk hz5 0, cell_of_blk hz5 1, cell_of_blk hz5 2, cell_of_blk hz5 3, cell_of_blk hz5 4, cell_of_blk hz5 5, cell_of_blk hz5 6⟩, (hs4.kept hk5 (by unfold LS; decide)).mono hk3.size, ⟨bo5, d5⟩, keptWider hk35 fun _ => LS.ds⟩
  clear hz1 hb1 hW1 hk hki hd hs hks hxe hgb d d1 hi hlen h1 h2 hB hB1 hsp hP hset
  rcases hgb : gb with _ | _
  · clear hno
    subst hgb
    go_enter Try.func17, Try.ntmps17
    go_upto_region 1 with fail
    rw [← HW1.out]
    go_wp2_with fail
    refine (HCh.out _).mono ?_
    rintro en vch ⟨rfl, rfl⟩
    go_wp2_with fail
    refine HG.out.mono ?_
    rintro en w2 ⟨rfl, hl2⟩
    obtain ⟨⟨bo', d2⟩, hk2⟩ := HLF.out w2 hl2
    obtain ⟨W3, hW3⟩ : ∃ W3, W3 = w2.alloc (.cells #[.int .i64 xe.ep, .bool xe.th, .int .i64 xe.kd, .int .i64 xe.lv, .int .i64 xe.nd, .slice xe.da xe.dn xe.dc, .string xe.tg] 50) := ⟨_, rfl⟩
    have hb3 : Below w2.heap.size w2 W3 := by rw [hW3]; exact (Below.refl _ _).alloc (Nat.le_refl _) _
    have hx3 : W3.heap[w2.heap.size]? = some (.cells #[.int .i64 xe.ep, .bool xe.th, .int .i64 xe.kd, .int .i64 xe.lv, .int .i64 xe.nd, .slice xe.da xe.dn xe.dc, .string xe.tg] 50 (0, 0)) := by rw [hW3]; exact heap_alloc_new w2 _
    have hz3 : W3.heap[w.heap.size]? = some (.cells #[.int .i64 v.ep, .bool v.th, .int .i64 v.kd, .int .i64 v.lv, .int .i64 v.nd, .slice v.da v.dn v.dc, .string v.tg] 50 (0, 0)) := (hb3.block _ (by have := lt_of_some HZ1.out; have := hk2.size; omega)).trans (hk2.blk HZ1.out (by unfold LS; decide))
    have d3 := d2.later hb3
    have hk3 : Kept LS B w W3 := (Kept.of_below HB1.out LS B).trans (hk2.trans (Kept.of_below hb3 LS B))
    have o0 := cell_of_blk hx3 0
    have e0 := cell_of_blk hz3 0
    have e1 := cell_of_blk hz3 1
    have e2 := cell_of_blk hz3 2
    have e3 := cell_of_blk hz3 3
    have e4 := cell_of_blk hz3 4
    have e5 := cell_of_blk hz3 5
    have e6 := cell_of_blk hz3 6
    have HD3 := Lib.hid d3
    have HK3 := Lib.hid hk3
    have HZ3 := Lib.hid hz3
    have HW3 := Lib.hid hW3
    clear hl2 d2 hk2 hb3 hx3 hz3 d3 hk3 hW3 c0
    go_upto_region 3 with fail
    rw [← HW3.out]
    have HSS : Hid (∀ w' : World, Below W3.heap.size W3 w' → (w'.cell? ⟨q, 0, none⟩ = some (.pointer (some ⟨h, 0, none⟩)) ∧ w'.cell? ⟨w.heap.size, 0, none⟩ = some (.int .i64 v.ep) ∧ w'.cell? ⟨w.heap.size, 1, none⟩ = some (.bool v.th) ∧ w'.cell? ⟨w.heap.size, 2, none⟩ = some (.int .i64 v.kd) ∧ w'.cell? ⟨w.heap.size, 3, none⟩ = some (.int .i64 v.lv) ∧ w'.cell? ⟨w.heap.size, 4, none⟩ = some (.int .i64 v.nd) ∧ w'.cell? ⟨w.heap.size, 5, none⟩ = some (.slice v.da v.dn v.dc) ∧ w'.cell? ⟨w.heap.size, 6, none⟩ = some (.string v.tg))) := Lib.hid fun w' hb => by
      have hx := (hb.block _ (lt_of_some HZ3.out)).trans HZ3.out
      exact ⟨cell_of_blk (HD3.out.later hb).blk 0, cell_of_blk hx 0, cell_of_blk hx 1, cell_of_blk hx 2, cell_of_blk hx 3, cell_of_blk hx 4, cell_of_blk hx 5, cell_of_blk hx 6⟩
    have HAP := Lib.hid (apart_any lo v P W3.drew (HSP.out.kept HK3.out.drew (by unfold LS; decide)) HP.out)
    have HBD : Hid (Below W3.heap.size W3 W3.drew) := Lib.hid (Below.refl _ _).drew
    have HPU := Lib.hid (fun (A : Option Addr) (c' : Nat) (w4 : World) (hb : Below W3.heap.size W3 w4) => (HPut.out bo' A c' W3 w4 HD3.out (Nat.le_trans HBw.out HK3.out.size) hb))
    have HFin := Lib.hid (fun (A : Option Addr) (c' : Nat) (w4 w5 : World) (hb : Below W3.heap.size W3 w4) (hl : lrd.Left w4 B c.g c.r bo' (putL (getL c.L k) c.r k (moved v A c')) w5) (hs : Sp w4 W3.heap.size A v.dn P) => HEnd.out bo' A c' W3 w4 w5 HD3.out HK3.out HZ3.out hb hl hs)
    go_upto_region 5 with fail
    clear o0 e0 e1 e2 e3 e4 e5 e6
    refine wp_region_held_drew (S := fun w' => (w'.cell? ⟨q, 0, none⟩ = some (.pointer (some ⟨h, 0, none⟩)) ∧ w'.cell? ⟨w.heap.size, 0, none⟩ = some (.int .i64 v.ep) ∧ w'.cell? ⟨w.heap.size, 1, none⟩ = some (.bool v.th) ∧ w'.cell? ⟨w.heap.size, 2, none⟩ = some (.int .i64 v.kd) ∧ w'.cell? ⟨w.heap.size, 3, none⟩ = some (.int .i64 v.lv) ∧ w'.cell? ⟨w.heap.size, 4, none⟩ = some (.int .i64 v.nd) ∧ w'.cell? ⟨w.heap.size, 5, none⟩ = some (.slice v.da v.dn v.dc) ∧ w'.cell? ⟨w.heap.size, 6, none⟩ = some (.string v.tg))) (by kernel_rfl) (HSS.out _ HBD.out) (fun hHeld => ?_)
    refine wpAnyH_take (i := 0) (oi := ⟨some 32, _, _, _, _, _⟩) (v := ?_) rfl (by kernel_rfl) (by kernel_rfl) (by kernel_rfl) (fun _ _ _ h => h) (Or.inl ⟨by kernel_rfl, ?_⟩) (by assumption) ?_
    rotate_left 1
    focus (intro w' hSw; (try dsimp only at hSw); go_simp; (try with_reducible rfl))
    try simp only [Act.put, List.setIfInBounds_toArray, List.set_cons_zero, List.set_cons_succ]
    refine wpAnyH_take (i := 1) (oi := ⟨some 33, _, _, _, _, _⟩) (v := ?_) rfl (by kernel_rfl) (by kernel_rfl) (by kernel_rfl) (fun _ _ _ h => h) (Or.inl ⟨by kernel_rfl, ?_⟩) (by assumption) ?_
    rotate_left 1
    focus (intro w' hSw; (try dsimp only at hSw); go_simp; (try with_reducible rfl))
    try simp only [Act.put, List.setIfInBounds_toArray, List.set_cons_zero, List.set_cons_succ]
    refine wpAnyH_take (i := 2) (oi := ⟨some 34, _, _, _, _, _⟩) (v := ?_) rfl (by kernel_rfl) (by kernel_rfl) (by kernel_rfl) (fun _ _ _ h => h) (Or.inl ⟨by kernel_rfl, ?_⟩) (by assumption) ?_
    rotate_left 1
    focus (intro w' hSw; (try dsimp only at hSw); go_simp; (try with_reducible rfl))
    try simp only [Act.put, List.setIfInBounds_toArray, List.set_cons_zero, List.set_cons_succ]
    refine wpAnyH_take (i := 3) (oi := ⟨some 35, _, _, _, _, _⟩) (v := ?_) rfl (by kernel_rfl) (by kernel_rfl) (by kernel_rfl) (fun _ _ _ h => h) (Or.inl ⟨by kernel_rfl, ?_⟩) (by assumption) ?_
    rotate_left 1
    focus (intro w' hSw; (try dsimp only at hSw); go_simp; (try with_reducible rfl))
    try simp only [Act.put, List.setIfInBounds_toArray, List.set_cons_zero, List.set_cons_succ]
    refine wpAnyH_take (i := 4) (oi := ⟨some 36, _, _, _, _, _⟩) (v := ?_) rfl (by kernel_rfl) (by kernel_rfl) (by kernel_rfl) (fun _ _ _ h => h) (Or.inl ⟨by kernel_rfl, ?_⟩) (by assumption) ?_
    rotate_left 1
    focus (intro w' hSw; (try dsimp only at hSw); go_simp; (try with_reducible rfl))
    try simp only [Act.put, List.setIfInBounds_toArray, List.set_cons_zero, List.set_cons_succ]
    refine wpAnyH_take (i := 5) (oi := ⟨some 37, _, _, _, _, _⟩) (v := ?_) rfl (by kernel_rfl) (by kernel_rfl) (by kernel_rfl) (fun _ _ _ h => h) (Or.inl ⟨by kernel_rfl, ?_⟩) (by assumption) ?_
    rotate_left 1
    focus (intro w' hSw; (try dsimp only at hSw); go_simp; (try with_reducible rfl))
    try simp only [Act.put, List.setIfInBounds_toArray, List.set_cons_zero, List.set_cons_succ]
    refine wpAnyH_ready (rs := [6]) (by kernel_rfl) (by simp) ?_
    refine AllReadyH.cons rfl (fun K hK => ?_) AllReadyH.nil
    go_simp
    go_at_call 47
    refine (HAP.out).mono ?_
    rintro en w4 ⟨⟨A, c', rfl, hsp4⟩, hb4⟩
    have HB4 := Lib.hid (HBD.out.trans hb4)
    have HS4 := Lib.hid hsp4
    clear hb4 hsp4
    clear hHeld
    refine hK.out _ _ (HSS.out _ HB4.out) (fun hHeld => ?_)
    clear hK
    refine wpAnyH_ready (rs := [7]) (by kernel_rfl) (by simp) ?_
    refine AllReadyH.cons rfl (fun K hK => ?_) AllReadyH.nil
    go_simp
    go_at_call 46
    refine (HPU.out A c' w4 HB4.out).mono ?_
    rintro en w5 ⟨rfl, hl5⟩
    have HE := Lib.hid (HFin.out A c' w4 w5 HB4.out hl5 HS4.out)
    clear hl5
    clear hHeld
    refine hK.out _ _ (HE.out.1) (fun hHeld => ?_)
    clear hK
    refine wpAnyH_done (by kernel_rfl) ?_ _
    clear hHeld
    go_wp2_with fail
    go_ret
    exact ⟨rfl, A, c', HE.out.2⟩
  · have hle : ¬ v.ep < xe.ep := by
      rcases hno with hno | hno
      · rw [hgb] at hno; cases hno
      · omega
    clear hno
    subst hgb
    go_enter Try.func17, Try.ntmps17
    go_upto_region 1 with fail
    rw [← HW1.out]
    go_wp2_with fail
    refine (HCh.out _).mono ?_
    rintro en vch ⟨rfl, rfl⟩
    go_wp2_with fail
    refine HG.out.mono ?_
    rintro en w2 ⟨rfl, hl2⟩
    obtain ⟨⟨bo', d2⟩, hk2⟩ := HLF.out w2 hl2
    obtain ⟨W3, hW3⟩ : ∃ W3, W3 = w2.alloc (.cells #[.int .i64 xe.ep, .bool xe.th, .int .i64 xe.kd, .int .i64 xe.lv, .int .i64 xe.nd, .slice xe.da xe.dn xe.dc, .string xe.tg] 50) := ⟨_, rfl⟩
    have hb3 : Below w2.heap.size w2 W3 := by rw [hW3]; exact (Below.refl _ _).alloc (Nat.le_refl _) _
    have hx3 : W3.heap[w2.heap.size]? = some (.cells #[.int .i64 xe.ep, .bool xe.th, .int .i64 xe.kd, .int .i64 xe.lv, .int .i64 xe.nd, .slice xe.da xe.dn xe.dc, .string xe.tg] 50 (0, 0)) := by rw [hW3]; exact heap_alloc_new w2 _
    have hz3 : W3.heap[w.heap.size]? = some (.cells #[.int .i64 v.ep, .bool v.th, .int .i64 v.kd, .int .i64 v.lv, .int .i64 v.nd, .slice v.da v.dn v.dc, .string v.tg] 50 (0, 0)) := (hb3.block _ (by have := lt_of_some HZ1.out; have := hk2.size; omega)).trans (hk2.blk HZ1.out (by unfold LS; decide))
    have d3 := d2.later hb3
    have hk3 : Kept LS B w W3 := (Kept.of_below HB1.out LS B).trans (hk2.trans (Kept.of_below hb3 LS B))
    have o0 := cell_of_blk hx3 0
    have e0 := cell_of_blk hz3 0
    have e1 := cell_of_blk hz3 1
    have e2 := cell_of_blk hz3 2
    have e3 := cell_of_blk hz3 3
    have e4 := cell_of_blk hz3 4
    have e5 := cell_of_blk hz3 5
    have e6 := cell_of_blk hz3 6
    have HD3 := Lib.hid d3
    have HK3 := Lib.hid hk3
    have HZ3 := Lib.hid hz3
    have HW3 := Lib.hid hW3
    clear hl2 d2 hk2 hb3 hx3 hz3 d3 hk3 hW3 c0
    go_upto_region 3 with fail
    rw [← HW3.out]
    have HSS : Hid (∀ w' : World, Below W3.heap.size W3 w' → (w'.cell? ⟨q, 0, none⟩ = some (.pointer (some ⟨h, 0, none⟩)) ∧ w'.cell? ⟨w.heap.size, 0, none⟩ = some (.int .i64 v.ep) ∧ w'.cell? ⟨w.heap.size, 1, none⟩ = some (.bool v.th) ∧ w'.cell? ⟨w.heap.size, 2, none⟩ = some (.int .i64 v.kd) ∧ w'.cell? ⟨w.heap.size, 3, none⟩ = some (.int .i64 v.lv) ∧ w'.cell? ⟨w.heap.size, 4, none⟩ = some (.int .i64 v.nd) ∧ w'.cell? ⟨w.heap.size, 5, none⟩ = some (.slice v.da v.dn v.dc) ∧ w'.cell? ⟨w.heap.size, 6, none⟩ = some (.string v.tg))) := Lib.hid fun w' hb => by
      have hx := (hb.block _ (lt_of_some HZ3.out)).trans HZ3.out
      exact ⟨cell_of_blk (HD3.out.later hb).blk 0, cell_of_blk hx 0, cell_of_blk hx 1, cell_of_blk hx 2, cell_of_blk hx 3, cell_of_blk hx 4, cell_of_blk hx 5, cell_of_blk hx 6⟩
    have HAP := Lib.hid (apart_any lo v P W3.drew (HSP.out.kept HK3.out.drew (by unfold LS; decide)) HP.out)
    have HBD : Hid (Below W3.heap.size W3 W3.drew) := Lib.hid (Below.refl _ _).drew
    have HPU := Lib.hid (fun (A : Option Addr) (c' : Nat) (w4 : World) (hb : Below W3.heap.size W3 w4) => (HPut.out bo' A c' W3 w4 HD3.out (Nat.le_trans HBw.out HK3.out.size) hb))
    have HFin := Lib.hid (fun (A : Option Addr) (c' : Nat) (w4 w5 : World) (hb : Below W3.heap.size W3 w4) (hl : lrd.Left w4 B c.g c.r bo' (putL (getL c.L k) c.r k (moved v A c')) w5) (hs : Sp w4 W3.heap.size A v.dn P) => HEnd.out bo' A c' W3 w4 w5 HD3.out HK3.out HZ3.out hb hl hs)
    go_upto_region 5 with fail
    clear o0 e0 e1 e2 e3 e4 e5 e6
    refine wp_region_held_drew (S := fun w' => (w'.cell? ⟨q, 0, none⟩ = some (.pointer (some ⟨h, 0, none⟩)) ∧ w'.cell? ⟨w.heap.size, 0, none⟩ = some (.int .i64 v.ep) ∧ w'.cell? ⟨w.heap.size, 1, none⟩ = some (.bool v.th) ∧ w'.cell? ⟨w.heap.size, 2, none⟩ = some (.int .i64 v.kd) ∧ w'.cell? ⟨w.heap.size, 3, none⟩ = some (.int .i64 v.lv) ∧ w'.cell? ⟨w.heap.size, 4, none⟩ = some (.int .i64 v.nd) ∧ w'.cell? ⟨w.heap.size, 5, none⟩ = some (.slice v.da v.dn v.dc) ∧ w'.cell? ⟨w.heap.size, 6, none⟩ = some (.string v.tg))) (by kernel_rfl) (HSS.out _ HBD.out) (fun hHeld => ?_)
    refine wpAnyH_take (i := 0) (oi := ⟨some 32, _, _, _, _, _⟩) (v := ?_) rfl (by kernel_rfl) (by kernel_rfl) (by kernel_rfl) (fun _ _ _ h => h) (Or.inl ⟨by kernel_rfl, ?_⟩) (by assumption) ?_
    rotate_left 1
    focus (intro w' hSw; (try dsimp only at hSw); go_simp; (try with_reducible rfl))
    try simp only [Act.put, List.setIfInBounds_toArray, List.set_cons_zero, List.set_cons_succ]
    refine wpAnyH_take (i := 1) (oi := ⟨some 33, _, _, _, _, _⟩) (v := ?_) rfl (by kernel_rfl) (by kernel_rfl) (by kernel_rfl) (fun _ _ _ h => h) (Or.inl ⟨by kernel_rfl, ?_⟩) (by assumption) ?_
    rotate_left 1
    focus (intro w' hSw; (try dsimp only at hSw); go_simp; (try with_reducible rfl))
    try simp only [Act.put, List.setIfInBounds_toArray, List.set_cons_zero, List.set_cons_succ]
    refine wpAnyH_take (i := 2) (oi := ⟨some 34, _, _, _, _, _⟩) (v := ?_) rfl (by kernel_rfl) (by kernel_rfl) (by kernel_rfl) (fun _ _ _ h => h) (Or.inl ⟨by kernel_rfl, ?_⟩) (by assumption) ?_
    rotate_left 1
    focus (intro w' hSw; (try dsimp only at hSw); go_simp; (try with_reducible rfl))
    try simp only [Act.put, List.setIfInBounds_toArray, List.set_cons_zero, List.set_cons_succ]
    refine wpAnyH_take (i := 3) (oi := ⟨some 35, _, _, _, _, _⟩) (v := ?_) rfl (by kernel_rfl) (by kernel_rfl) (by kernel_rfl) (fun _ _ _ h => h) (Or.inl ⟨by kernel_rfl, ?_⟩) (by assumption) ?_
    rotate_left 1
    focus (intro w' hSw; (try dsimp only at hSw); go_simp; (try with_reducible rfl))
    try simp only [Act.put, List.setIfInBounds_toArray, List.set_cons_zero, List.set_cons_succ]
    refine wpAnyH_take (i := 4) (oi := ⟨some 36, _, _, _, _, _⟩) (v := ?_) rfl (by kernel_rfl) (by kernel_rfl) (by kernel_rfl) (fun _ _ _ h => h) (Or.inl ⟨by kernel_rfl, ?_⟩) (by assumption) ?_
    rotate_left 1
    focus (intro w' hSw; (try dsimp only at hSw); go_simp; (try with_reducible rfl))
    try simp only [Act.put, List.setIfInBounds_toArray, List.set_cons_zero, List.set_cons_succ]
    refine wpAnyH_take (i := 5) (oi := ⟨some 37, _, _, _, _, _⟩) (v := ?_) rfl (by kernel_rfl) (by kernel_rfl) (by kernel_rfl) (fun _ _ _ h => h) (Or.inl ⟨by kernel_rfl, ?_⟩) (by assumption) ?_
    rotate_left 1
    focus (intro w' hSw; (try dsimp only at hSw); go_simp; (try with_reducible rfl))
    try simp only [Act.put, List.setIfInBounds_toArray, List.set_cons_zero, List.set_cons_succ]
    refine wpAnyH_ready (rs := [6]) (by kernel_rfl) (by simp) ?_
    refine AllReadyH.cons rfl (fun K hK => ?_) AllReadyH.nil
    go_simp
    go_at_call 47
    refine (HAP.out).mono ?_
    rintro en w4 ⟨⟨A, c', rfl, hsp4⟩, hb4⟩
    have HB4 := Lib.hid (HBD.out.trans hb4)
    have HS4 := Lib.hid hsp4
    clear hb4 hsp4
    clear hHeld
    refine hK.out _ _ (HSS.out _ HB4.out) (fun hHeld => ?_)
    clear hK
    refine wpAnyH_ready (rs := [7]) (by kernel_rfl) (by simp) ?_
    refine AllReadyH.cons rfl (fun K hK => ?_) AllReadyH.nil
    go_simp
    go_at_call 46
    refine (HPU.out A c' w4 HB4.out).mono ?_
    rintro en w5 ⟨rfl, hl5⟩
    have HE := Lib.hid (HFin.out A c' w4 w5 HB4.out hl5 HS4.out)
    clear hl5
    clear hHeld
    refine hK.out _ _ (HE.out.1) (fun hHeld => ?_)
    clear hK
    refine wpAnyH_done (by kernel_rfl) ?_ _
    clear hHeld
    go_wp2_with fail
    go_ret
    exact ⟨rfl, A, c', HE.out.2⟩
end Go.Proofs.Ythhcbmljckgncaa.dca
