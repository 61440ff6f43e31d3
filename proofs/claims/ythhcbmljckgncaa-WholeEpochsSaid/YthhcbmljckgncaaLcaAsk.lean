/- What lcache's Look and Keep answer. Condition: the cache lies in memory. -/
import Derived.Test.YthhcbmljckgncaaLcaMem
import Derived.Deep.RegionHeld3
namespace Go.Proofs.Ythhcbmljckgncaa.lca
set_option maxRecDepth 100000
open Go.RowKit Go.Proofs.Ythhcbmljckgncaa.words Go.Proofs.Ythhcbmljckgncaa.lru Go.Proofs.Ythhcbmljckgncaa.sha Go.Proofs.Ythhcbmljckgncaa.lrl Go.Proofs.Ythhcbmljckgncaa.shl

set_option maxHeartbeats 3200000 in
/-- Nothing of that epoch is remembered. -/
theorem look_no (B q h i : Nat) (c : Cc) (C : List Cc) (x epoch : Int) (k : ByteArray) (w : World) (d : Lc w B q h C x) (h1 : 0 < C.length) (h2 : C.length ≤ 256) (hki : i = ofF k C.length) (hi : C[i]? = some c) (hlen : c.L.length ≤ 900) (hk : k.size ≤ 1000) (hno : lrl.gotB c.L k = false ∨ (lrl.gotI c.L k).ep ≠ epoch) :
    Calls Try.prog 28 #[.pointer (some ⟨q, 0, none⟩), .int .i64 epoch, .string k] w fun e w' => e = .returned (.tuple #[.slice none 0 0, .bool false]) ∧ (∃ bo', Lc w' B q h (C.set i ⟨c.g, bo', c.r, getL c.L k⟩) x) ∧ Kept LS B w w' := by
  obtain ⟨xe, hxe⟩ : ∃ xe, xe = lrl.gotI c.L k := ⟨_, rfl⟩
  obtain ⟨gb, hgb⟩ : ∃ gb, gb = lrl.gotB c.L k := ⟨_, rfl⟩
  rw [← hxe, ← hgb] at hno
  have hks : k.size ≤ 9223372036854775807 := by omega
  have HG : Hid (Calls Try.prog 51 #[.pointer (some ⟨h, 0, none⟩), .string k] w fun e w' => e = .returned (.tuple #[.agg #[.int .i64 xe.ep, .slice xe.a xe.n xe.c], .bool gb]) ∧ lrl.Left w B c.g c.r c.bo (getL c.L k) w') := Lib.hid (by
    have := sget_any B h c.g (gsOf C) c.bo c.r c.L k w d.shd (by rw [gs_len]; exact h1) (by rw [gs_len]; exact h2) hks (by rw [gs_len, ← hki]; exact gs_at hi) (d.fam.lru i c hi) (d.fam.ok i c hi) (by omega)
    unfold lrl.Got at this
    rw [← hxe, ← hgb] at this
    exact this)
  have HLF : Hid (∀ w2 : World, lrl.Left w B c.g c.r c.bo (getL c.L k) w2 → (∃ bo', Lc w2 B q h (C.set i ⟨c.g, bo', c.r, getL c.L k⟩) x) ∧ Kept LS B w w2) := Lib.hid fun w2 h2 => d.left hi h2 ((d.fam.ok i c hi).get k)
  have c0 := cell_of_blk d.blk 0
  unfold ptrC at c0
  clear hki hk hks hxe hgb d hi hlen h1 h2
  rcases hgb : gb with _ | _
  · clear hno
    subst hgb
    go_enter Try.func28, Try.ntmps28
    go_wp2_with fail
    refine HG.out.mono ?_
    rintro en w2 ⟨rfl, hl2⟩
    obtain ⟨⟨bo', d2⟩, hk2⟩ := HLF.out w2 hl2
    obtain ⟨W3, hW3⟩ : ∃ W3, W3 = w2.alloc (.cells #[.int .i64 xe.ep, .slice xe.a xe.n xe.c] 87) := ⟨_, rfl⟩
    have hb3 : Below w2.heap.size w2 W3 := by rw [hW3]; exact (Below.refl _ _).alloc (Nat.le_refl _) _
    have hx3 : W3.heap[w2.heap.size]? = some (.cells #[.int .i64 xe.ep, .slice xe.a xe.n xe.c] 87 (0, 0)) := by rw [hW3]; exact heap_alloc_new w2 _
    have d3 := d2.later hb3
    have hk3 : Kept LS B w W3 := hk2.trans (Kept.of_below hb3 LS B)
    have o0 := cell_of_blk hx3 0
    have o1 := cell_of_blk hx3 1
    have HD3 := Lib.hid d3
    have HK3 := Lib.hid hk3
    have HW3 := Lib.hid hW3
    clear hl2 d2 hk2 hb3 hx3 d3 hk3 hW3 c0
    go_upto_region 2 with fail
    rw [← HW3.out]
    go_wp2_with fail
    go_ret2
    exact ⟨rfl, ⟨bo', HD3.out⟩, HK3.out⟩
  · have hep : (xe.ep != epoch) = true := by
      rcases hno with hno | hno
      · rw [hgb] at hno; cases hno
      · simpa using hno
    clear hno
    subst hgb
    go_enter Try.func28, Try.ntmps28
    go_wp2_with fail
    refine HG.out.mono ?_
    rintro en w2 ⟨rfl, hl2⟩
    obtain ⟨⟨bo', d2⟩, hk2⟩ := HLF.out w2 hl2
    obtain ⟨W3, hW3⟩ : ∃ W3, W3 = w2.alloc (.cells #[.int .i64 xe.ep, .slice xe.a xe.n xe.c] 87) := ⟨_, rfl⟩
    have hb3 : Below w2.heap.size w2 W3 := by rw [hW3]; exact (Below.refl _ _).alloc (Nat.le_refl _) _
    have hx3 : W3.heap[w2.heap.size]? = some (.cells #[.int .i64 xe.ep, .slice xe.a xe.n xe.c] 87 (0, 0)) := by rw [hW3]; exact heap_alloc_new w2 _
    have d3 := d2.later hb3
    have hk3 : Kept LS B w W3 := hk2.trans (Kept.of_below hb3 LS B)
    have o0 := cell_of_blk hx3 0
    have o1 := cell_of_blk hx3 1
    have HD3 := Lib.hid d3
    have HK3 := Lib.hid hk3
    have HW3 := Lib.hid hW3
    clear hl2 d2 hk2 hb3 hx3 d3 hk3 hW3 c0
    go_upto_region 2 with fail
    rw [← HW3.out]
    go_wp2_with fail
    go_ret2
    exact ⟨rfl, ⟨bo', HD3.out⟩, HK3.out⟩
set_option maxHeartbeats 3200000 in
/-- What was seen in that epoch is answered, apart. -/
theorem look_yes (B q h i : Nat) (c : Cc) (C : List Cc) (x epoch : Int) (k : ByteArray) (w : World) (d : Lc w B q h C x) (h1 : 0 < C.length) (h2 : C.length ≤ 256) (hki : i = ofF k C.length) (hi : C[i]? = some c) (hlen : c.L.length ≤ 900) (hk : k.size ≤ 1000) (lo : Nat) (l : List (ByteArray × Int)) (hl : l.length ≤ 1000) (hno : lrl.gotB c.L k = true ∧ (lrl.gotI c.L k).ep = epoch ∧ (lrl.gotI c.L k).n = l.length ∧ Enr w lo (.slice (lrl.gotI c.L k).a l.length (lrl.gotI c.L k).c) l) :
    Calls Try.prog 28 #[.pointer (some ⟨q, 0, none⟩), .int .i64 epoch, .string k] w fun e w' => ∃ (A : Option Addr) (c' : Nat), e = .returned (.tuple #[.slice A l.length c', .bool true]) ∧ Enr w' w.heap.size (.slice A l.length c') l ∧ (∃ bo', Lc w' B q h (C.set i ⟨c.g, bo', c.r, getL c.L k⟩) x) ∧ Kept LS B w w' := by
  obtain ⟨xe, hxe⟩ : ∃ xe, xe = lrl.gotI c.L k := ⟨_, rfl⟩
  obtain ⟨gb, hgb⟩ : ∃ gb, gb = lrl.gotB c.L k := ⟨_, rfl⟩
  rw [← hxe, ← hgb] at hno
  have hks : k.size ≤ 9223372036854775807 := by omega
  have HG : Hid (Calls Try.prog 51 #[.pointer (some ⟨h, 0, none⟩), .string k] w fun e w' => e = .returned (.tuple #[.agg #[.int .i64 xe.ep, .slice xe.a xe.n xe.c], .bool gb]) ∧ lrl.Left w B c.g c.r c.bo (getL c.L k) w') := Lib.hid (by
    have := sget_any B h c.g (gsOf C) c.bo c.r c.L k w d.shd (by rw [gs_len]; exact h1) (by rw [gs_len]; exact h2) hks (by rw [gs_len, ← hki]; exact gs_at hi) (d.fam.lru i c hi) (d.fam.ok i c hi) (by omega)
    unfold lrl.Got at this
    rw [← hxe, ← hgb] at this
    exact this)
  have HLF : Hid (∀ w2 : World, lrl.Left w B c.g c.r c.bo (getL c.L k) w2 → (∃ bo', Lc w2 B q h (C.set i ⟨c.g, bo', c.r, getL c.L k⟩) x) ∧ Kept LS B w w2) := Lib.hid fun w2 h2 => d.left hi h2 ((d.fam.ok i c hi).get k)
  have c0 := cell_of_blk d.blk 0
  unfold ptrC at c0
  obtain ⟨hgt, hep0, hn, hen⟩ := hno
  have hep : (xe.ep != epoch) = false := by simpa using hep0
  subst hgt
  rw [hn] at HG
  have HL := Lib.hid hl
  have HEN := Lib.hid hen
  clear hki hk hks hxe hgb d hi hlen h1 h2 hl hep0 hen
  go_enter Try.func28, Try.ntmps28
  go_wp2_with fail
  refine HG.out.mono ?_
  rintro en w2 ⟨rfl, hl2⟩
  obtain ⟨⟨bo', d2⟩, hk2⟩ := HLF.out w2 hl2
  obtain ⟨W3, hW3⟩ : ∃ W3, W3 = w2.alloc (.cells #[.int .i64 xe.ep, .slice xe.a l.length xe.c] 87) := ⟨_, rfl⟩
  have hb3 : Below w2.heap.size w2 W3 := by rw [hW3]; exact (Below.refl _ _).alloc (Nat.le_refl _) _
  have hx3 : W3.heap[w2.heap.size]? = some (.cells #[.int .i64 xe.ep, .slice xe.a l.length xe.c] 87 (0, 0)) := by rw [hW3]; exact heap_alloc_new w2 _
  have d3 := d2.later hb3
  have hk3 : Kept LS B w W3 := hk2.trans (Kept.of_below hb3 LS B)
  have o0 := cell_of_blk hx3 0
  have o1 := cell_of_blk hx3 1
  have HD3 := Lib.hid d3
  have HK3 := Lib.hid hk3
  have HW3 := Lib.hid hW3
  clear hl2 d2 hk2 hb3 hx3 d3 hk3 hW3 c0
  go_upto_region 2 with fail
  rw [← HW3.out]
  have HC := Lib.hid (copy_any lo xe.a xe.c l W3 (HEN.out.kept HK3.out (by unfold LS; decide)) HL.out)
  clear hn
  go_wp2_with fail
  refine HC.out.mono ?_
  rintro e w4 ⟨⟨A, c', rfl, he4⟩, hb4⟩
  have HF := Lib.hid (And.intro (he4.mono HK3.out.size) (And.intro (HD3.out.later hb4) (HK3.out.trans (Kept.of_below hb4 LS B))))
  clear he4 hb4
  go_wp2_with fail
  go_ret2
  exact ⟨A, c', rfl, HF.out.1, ⟨bo', HF.out.2.1⟩, HF.out.2.2⟩
set_option maxHeartbeats 3200000 in
/-- Something of a later epoch is remembered: it stays. -/
theorem keep_no (B q h i : Nat) (c : Cc) (C : List Cc) (x epoch : Int) (k : ByteArray) (w : World) (d : Lc w B q h C x) (h1 : 0 < C.length) (h2 : C.length ≤ 256) (hki : i = ofF k C.length) (hi : C[i]? = some c) (hlen : c.L.length ≤ 900) (hk : k.size ≤ 1000) (V : Value) (hno : lrl.gotB c.L k = true ∧ epoch < (lrl.gotI c.L k).ep) :
    Calls Try.prog 31 #[.pointer (some ⟨q, 0, none⟩), .int .i64 epoch, .string k, V] w fun e w' => e = .returned (.bool false) ∧ (∃ bo', Lc w' B q h (C.set i ⟨c.g, bo', c.r, getL c.L k⟩) x) ∧ Kept LS B w w' := by
  obtain ⟨xe, hxe⟩ : ∃ xe, xe = lrl.gotI c.L k := ⟨_, rfl⟩
  obtain ⟨gb, hgb⟩ : ∃ gb, gb = lrl.gotB c.L k := ⟨_, rfl⟩
  rw [← hxe, ← hgb] at hno
  have hks : k.size ≤ 9223372036854775807 := by omega
  have HG : Hid (Calls Try.prog 51 #[.pointer (some ⟨h, 0, none⟩), .string k] w fun e w' => e = .returned (.tuple #[.agg #[.int .i64 xe.ep, .slice xe.a xe.n xe.c], .bool gb]) ∧ lrl.Left w B c.g c.r c.bo (getL c.L k) w') := Lib.hid (by
    have := sget_any B h c.g (gsOf C) c.bo c.r c.L k w d.shd (by rw [gs_len]; exact h1) (by rw [gs_len]; exact h2) hks (by rw [gs_len, ← hki]; exact gs_at hi) (d.fam.lru i c hi) (d.fam.ok i c hi) (by omega)
    unfold lrl.Got at this
    rw [← hxe, ← hgb] at this
    exact this)
  have HLF : Hid (∀ w2 : World, lrl.Left w B c.g c.r c.bo (getL c.L k) w2 → (∃ bo', Lc w2 B q h (C.set i ⟨c.g, bo', c.r, getL c.L k⟩) x) ∧ Kept LS B w w2) := Lib.hid fun w2 h2 => d.left hi h2 ((d.fam.ok i c hi).get k)
  have c0 := cell_of_blk d.blk 0
  unfold ptrC at c0
  obtain ⟨hgt, hep⟩ := hno
  subst hgt
  clear hki hk hks hxe hgb d hi hlen h1 h2
  go_enter Try.func31, Try.ntmps31
  go_wp2_with fail
  refine HG.out.mono ?_
  rintro en w2 ⟨rfl, hl2⟩
  obtain ⟨⟨bo', d2⟩, hk2⟩ := HLF.out w2 hl2
  obtain ⟨W3, hW3⟩ : ∃ W3, W3 = w2.alloc (.cells #[.int .i64 xe.ep, .slice xe.a xe.n xe.c] 87) := ⟨_, rfl⟩
  have hb3 : Below w2.heap.size w2 W3 := by rw [hW3]; exact (Below.refl _ _).alloc (Nat.le_refl _) _
  have hx3 : W3.heap[w2.heap.size]? = some (.cells #[.int .i64 xe.ep, .slice xe.a xe.n xe.c] 87 (0, 0)) := by rw [hW3]; exact heap_alloc_new w2 _
  have d3 := d2.later hb3
  have hk3 : Kept LS B w W3 := hk2.trans (Kept.of_below hb3 LS B)
  have o0 := cell_of_blk hx3 0
  have o1 := cell_of_blk hx3 1
  have HD3 := Lib.hid d3
  have HK3 := Lib.hid hk3
  have HW3 := Lib.hid hW3
  clear hl2 d2 hk2 hb3 hx3 d3 hk3 hW3 c0
  go_upto_region 2 with fail
  rw [← HW3.out]
  go_wp2_with fail
  go_ret
  exact ⟨rfl, ⟨bo', HD3.out⟩, HK3.out⟩
set_option maxHeartbeats 6400000 in
/-- Nothing of a later epoch is remembered: it is kept, apart. -/
theorem keep_yes (B q h i : Nat) (c : Cc) (C : List Cc) (x epoch : Int) (k : ByteArray) (w : World) (d : Lc w B q h C x) (h1 : 0 < C.length) (h2 : C.length ≤ 256) (hki : i = ofF k C.length) (hi : C[i]? = some c) (hlen : c.L.length ≤ 900) (hk : k.size ≤ 1000) (hB : B ≤ w.heap.size) (lo : Nat) (A0 : Option Addr) (c0' : Nat) (l : List (ByteArray × Int)) (hl : l.length ≤ 1000) (hen : Enr w lo (.slice A0 l.length c0') l) (hno : lrl.gotB c.L k = false ∨ (lrl.gotI c.L k).ep ≤ epoch) :
    Calls Try.prog 31 #[.pointer (some ⟨q, 0, none⟩), .int .i64 epoch, .string k, .slice A0 l.length c0'] w fun e w' => e = .returned (.bool true) ∧ ∃ (A : Option Addr) (c' : Nat), Enr w' w.heap.size (.slice A l.length c') l ∧ (∃ bo', Lc w' B q h (C.set i ⟨c.g, bo', c.r, putL c.L c.r k ⟨epoch, A, l.length, c'⟩⟩) x) ∧ Kept LS B w w' := by
  obtain ⟨xe, hxe⟩ : ∃ xe, xe = lrl.gotI c.L k := ⟨_, rfl⟩
  obtain ⟨gb, hgb⟩ : ∃ gb, gb = lrl.gotB c.L k := ⟨_, rfl⟩
  rw [← hxe, ← hgb] at hno
  have hks : k.size ≤ 9223372036854775807 := by omega
  have HG : Hid (Calls Try.prog 51 #[.pointer (some ⟨h, 0, none⟩), .string k] w fun e w' => e = .returned (.tuple #[.agg #[.int .i64 xe.ep, .slice xe.a xe.n xe.c], .bool gb]) ∧ lrl.Left w B c.g c.r c.bo (getL c.L k) w') := Lib.hid (by
    have := sget_any B h c.g (gsOf C) c.bo c.r c.L k w d.shd (by rw [gs_len]; exact h1) (by rw [gs_len]; exact h2) hks (by rw [gs_len, ← hki]; exact gs_at hi) (d.fam.lru i c hi) (d.fam.ok i c hi) (by omega)
    unfold lrl.Got at this
    rw [← hxe, ← hgb] at this
    exact this)
  have HLF : Hid (∀ w2 : World, lrl.Left w B c.g c.r c.bo (getL c.L k) w2 → (∃ bo', Lc w2 B q h (C.set i ⟨c.g, bo', c.r, getL c.L k⟩) x) ∧ Kept LS B w w2) := Lib.hid fun w2 h2 => d.left hi h2 ((d.fam.ok i c hi).get k)
  have c0 := cell_of_blk d.blk 0
  unfold ptrC at c0
  have HL := Lib.hid hl
  have HEN := Lib.hid hen
  have HBw : Hid (B ≤ w.heap.size) := Lib.hid hB
  have hset : ∀ (bo' : Option Nat) (L : List (ByteArray × Lst)), (C.set i ⟨c.g, bo', c.r, L⟩)[i]? = some ⟨c.g, bo', c.r, L⟩ := fun bo' L => by rw [List.getElem?_set, if_pos rfl, if_pos (List.getElem?_eq_some_iff.1 hi).1]
  have HPut : Hid (∀ (bo' : Option Nat) (A : Option Addr) (c' : Nat) (W3 w4 : World), Lc W3 B q h (C.set i ⟨c.g, bo', c.r, getL c.L k⟩) x → B ≤ W3.heap.size → Below W3.heap.size W3 w4 → Calls Try.prog 53 #[.pointer (some ⟨h, 0, none⟩), .string k, .agg #[.int .i64 epoch, .slice A l.length c']] w4 fun e w' => e = .returned (.tuple #[.string (goneK (getL c.L k) c.r k (⟨#[]⟩ : ByteArray)), .bool (goneB (getL c.L k) c.r k)]) ∧ lrl.Left w4 B c.g c.r bo' (putL (getL c.L k) c.r k ⟨epoch, A, l.length, c'⟩) w') := Lib.hid fun bo' A c' W3 w4 d3 hB3 hb4 => by
    have d4 := d3.later hb4
    have hll : (C.set i ⟨c.g, bo', c.r, getL c.L k⟩).length = C.length := List.length_set
    exact sput_any B h c.g (gsOf (C.set i ⟨c.g, bo', c.r, getL c.L k⟩)) bo' c.r (getL c.L k) k ⟨epoch, A, l.length, c'⟩ w4 d4.shd (by rw [gs_len, hll]; exact h1) (by rw [gs_len, hll]; exact h2) hks (by rw [gs_len, hll, ← hki]; exact gs_at (c := ⟨c.g, bo', c.r, getL c.L k⟩) (hset bo' _)) (d4.fam.lru i _ (hset bo' _)) (d4.fam.ok i _ (hset bo' _)) (by show (getL c.L k).length ≤ 900; rw [get_len (d.fam.ok i c hi)]; exact hlen) (Nat.le_trans hB3 hb4.size)
  have HEnd : Hid (∀ (bo' : Option Nat) (A : Option Addr) (c' : Nat) (W3 w4 w5 : World), Lc W3 B q h (C.set i ⟨c.g, bo', c.r, getL c.L k⟩) x → Kept LS B w W3 → Below W3.heap.size W3 w4 → lrl.Left w4 B c.g c.r bo' (putL (getL c.L k) c.r k ⟨epoch, A, l.length, c'⟩) w5 → Enr w4 W3.heap.size (.slice A l.length c') l → w5.cell? ⟨q, 0, none⟩ = some (.pointer (some ⟨h, 0, none⟩)) ∧ Enr w5 w.heap.size (.slice A l.length c') l ∧ (∃ bo', Lc w5 B q h (C.set i ⟨c.g, bo', c.r, putL c.L c.r k ⟨epoch, A, l.length, c'⟩⟩) x) ∧ Kept LS B w w5) := Lib.hid fun bo' A c' W3 w4 w5 d3 hk3 hb4 hl hs4 => by
    have d4 := d3.later hb4
    obtain ⟨⟨bo5, d5⟩, hk5⟩ := d4.left (hset bo' _) hl ((d4.fam.ok i _ (hset bo' _)).put k _)
    have hk35 : Kept LS B w w5 := hk3.trans ((Kept.of_below hb4 LS B).trans hk5)
    rw [List.set_set, put_get] at d5
    exact ⟨cell_of_blk d5.blk 0, (hs4.kept hk5 (by unfold LS; decide)).mono hk3.size, ⟨bo5, d5⟩, hk35⟩
  clear hki hk hks hxe hgb d hi hlen h1 h2 hl hen hset hB
  rcases hgb : gb with _ | _
  · clear hno
    subst hgb
    go_enter Try.func31, Try.ntmps31
    go_wp2_with fail
    refine HG.out.mono ?_
    rintro en w2 ⟨rfl, hl2⟩
    obtain ⟨⟨bo', d2⟩, hk2⟩ := HLF.out w2 hl2
    obtain ⟨W3, hW3⟩ : ∃ W3, W3 = w2.alloc (.cells #[.int .i64 xe.ep, .slice xe.a xe.n xe.c] 87) := ⟨_, rfl⟩
    have hb3 : Below w2.heap.size w2 W3 := by rw [hW3]; exact (Below.refl _ _).alloc (Nat.le_refl _) _
    have hx3 : W3.heap[w2.heap.size]? = some (.cells #[.int .i64 xe.ep, .slice xe.a xe.n xe.c] 87 (0, 0)) := by rw [hW3]; exact heap_alloc_new w2 _
    have d3 := d2.later hb3
    have hk3 : Kept LS B w W3 := hk2.trans (Kept.of_below hb3 LS B)
    have o0 := cell_of_blk hx3 0
    have o1 := cell_of_blk hx3 1
    have HD3 := Lib.hid d3
    have HK3 := Lib.hid hk3
    have HW3 := Lib.hid hW3
    clear hl2 d2 hk2 hb3 hx3 d3 hk3 hW3 c0
    go_upto_region 2 with fail
    rw [← HW3.out]
    have HSS : Hid (∀ w' : World, Below W3.heap.size W3 w' → w'.cell? ⟨q, 0, none⟩ = some (.pointer (some ⟨h, 0, none⟩))) := Lib.hid fun w' hb => cell_of_blk (HD3.out.later hb).blk 0
    have HCP := Lib.hid (copy_any lo A0 c0' l W3.drew (Enr.kept HEN.out HK3.out.drew (by unfold LS; decide)) HL.out)
    have HBD : Hid (Below W3.heap.size W3 W3.drew) := Lib.hid (Below.refl _ _).drew
    have HPU := Lib.hid (fun (A : Option Addr) (c' : Nat) (w4 : World) (hb : Below W3.heap.size W3 w4) => (HPut.out bo' A c' W3 w4 HD3.out (Nat.le_trans HBw.out HK3.out.size) hb))
    have HFin := Lib.hid (fun (A : Option Addr) (c' : Nat) (w4 w5 : World) (hb : Below W3.heap.size W3 w4) (hl : lrl.Left w4 B c.g c.r bo' (putL (getL c.L k) c.r k ⟨epoch, A, l.length, c'⟩) w5) (hs : Enr w4 W3.heap.size (.slice A l.length c') l) => HEnd.out bo' A c' W3 w4 w5 HD3.out HK3.out hb hl hs)
    go_upto_region 4 with fail
    clear o0 o1
    refine wp_region_held_drew (S := fun w' => (w'.cell? ⟨q, 0, none⟩ = some (.pointer (some ⟨h, 0, none⟩)))) (by kernel_rfl) (HSS.out _ HBD.out) (fun hHeld => ?_)
    refine wpAnyH_take (i := 0) (oi := ⟨some 27, _, _, _, _, _⟩) (v := ?_) rfl (by kernel_rfl) (by kernel_rfl) (by kernel_rfl) (fun _ _ _ h => h) (Or.inl ⟨by kernel_rfl, ?_⟩) (by assumption) ?_
    rotate_left 1
    focus (intro w' hSw; (try dsimp only at hSw); go_simp; (try with_reducible rfl))
    try simp only [Act.put, List.setIfInBounds_toArray, List.set_cons_zero, List.set_cons_succ]
    refine wpAnyH_take (i := 1) (oi := ⟨some 28, _, _, _, _, _⟩) (v := ?_) rfl (by kernel_rfl) (by kernel_rfl) (by kernel_rfl) (fun _ _ _ h => h) (Or.inl ⟨by kernel_rfl, ?_⟩) (by assumption) ?_
    rotate_left 1
    focus (intro w' hSw; (try dsimp only at hSw); go_simp; (try with_reducible rfl))
    try simp only [Act.put, List.setIfInBounds_toArray, List.set_cons_zero, List.set_cons_succ]
    refine wpAnyH_take (i := 2) (oi := ⟨some 29, _, _, _, _, _⟩) (v := ?_) rfl (by kernel_rfl) (by kernel_rfl) (by kernel_rfl) (fun _ _ _ h => h) (Or.inl ⟨by kernel_rfl, ?_⟩) (by assumption) ?_
    rotate_left 1
    focus (intro w' hSw; (try dsimp only at hSw); go_simp; (try with_reducible rfl))
    try simp only [Act.put, List.setIfInBounds_toArray, List.set_cons_zero, List.set_cons_succ]
    refine wpAnyH_take (i := 3) (oi := ⟨some 30, _, _, _, _, _⟩) (v := ?_) rfl (by kernel_rfl) (by kernel_rfl) (by kernel_rfl) (fun _ _ _ h => h) (Or.inl ⟨by kernel_rfl, ?_⟩) (by assumption) ?_
    rotate_left 1
    focus (intro w' hSw; (try dsimp only at hSw); go_simp; (try with_reducible rfl))
    try simp only [Act.put, List.setIfInBounds_toArray, List.set_cons_zero, List.set_cons_succ]
    refine wpAnyH_take (i := 4) (oi := ⟨some 31, _, _, _, _, _⟩) (v := ?_) rfl (by kernel_rfl) (by kernel_rfl) (by kernel_rfl) (fun _ _ _ h => h) (Or.inl ⟨by kernel_rfl, ?_⟩) (by assumption) ?_
    rotate_left 1
    focus (intro w' hSw; (try dsimp only at hSw); go_simp; (try with_reducible rfl))
    try simp only [Act.put, List.setIfInBounds_toArray, List.set_cons_zero, List.set_cons_succ]
    refine wpAnyH_take (i := 5) (oi := ⟨some 32, _, _, _, _, _⟩) (v := ?_) rfl (by kernel_rfl) (by kernel_rfl) (by kernel_rfl) (fun _ _ _ h => h) (Or.inl ⟨by kernel_rfl, ?_⟩) (by assumption) ?_
    rotate_left 1
    focus (intro w' hSw; (try dsimp only at hSw); go_simp; (try with_reducible rfl))
    try simp only [Act.put, List.setIfInBounds_toArray, List.set_cons_zero, List.set_cons_succ]
    refine wpAnyH_take (i := 6) (oi := ⟨some 33, _, _, _, _, _⟩) (v := ?_) rfl (by kernel_rfl) (by kernel_rfl) (by kernel_rfl) (fun _ _ _ h => h) (Or.inl ⟨by kernel_rfl, ?_⟩) (by assumption) ?_
    rotate_left 1
    focus (intro w' hSw; (try dsimp only at hSw); go_simp; (try with_reducible rfl))
    try simp only [Act.put, List.setIfInBounds_toArray, List.set_cons_zero, List.set_cons_succ]
    refine wpAnyH_ready (rs := [7]) (by kernel_rfl) (by simp) ?_
    refine AllReadyH.cons rfl (fun K hK => ?_) AllReadyH.nil
    go_simp
    go_at_call 52
    refine (HCP.out).mono ?_
    rintro en w4 ⟨⟨A, c', rfl, hsp4⟩, hb4⟩
    have HB4 := Lib.hid (HBD.out.trans hb4)
    have HS4 := Lib.hid hsp4
    clear hb4 hsp4
    clear hHeld
    refine hK.out _ _ (HSS.out _ HB4.out) (fun hHeld => ?_)
    clear hK
    refine wpAnyH_take (i := 8) (oi := ⟨some 35, _, _, _, _, _⟩) (v := ?_) rfl (by kernel_rfl) (by kernel_rfl) (by kernel_rfl) (fun _ _ _ h => h) (Or.inl ⟨by kernel_rfl, ?_⟩) (by assumption) ?_
    rotate_left 1
    focus (intro w' hSw; (try dsimp only at hSw); go_simp; (try with_reducible rfl))
    try simp only [Act.put, List.setIfInBounds_toArray, List.set_cons_zero, List.set_cons_succ]
    refine wpAnyH_ready (rs := [9]) (by kernel_rfl) (by simp) ?_
    refine AllReadyH.cons rfl (fun K hK => ?_) AllReadyH.nil
    go_simp
    go_at_call 53
    refine (HPU.out A c' w4 HB4.out).mono ?_
    rintro en w5 ⟨rfl, hl5⟩
    have HE := Lib.hid (HFin.out A c' w4 w5 HB4.out hl5 HS4.out)
    clear hl5
    clear hHeld
    refine hK.out _ _ (HE.out.1) (fun hHeld => ?_)
    clear hK
    refine wpAnyH_done (by kernel_rfl) ?_ _
    clear hHeld
    go_wp2_with fail
    go_ret
    exact ⟨rfl, A, c', HE.out.2⟩
  · have hle : ¬ epoch < xe.ep := by
      rcases hno with hno | hno
      · rw [hgb] at hno; cases hno
      · omega
    clear hno
    subst hgb
    go_enter Try.func31, Try.ntmps31
    go_wp2_with fail
    refine HG.out.mono ?_
    rintro en w2 ⟨rfl, hl2⟩
    obtain ⟨⟨bo', d2⟩, hk2⟩ := HLF.out w2 hl2
    obtain ⟨W3, hW3⟩ : ∃ W3, W3 = w2.alloc (.cells #[.int .i64 xe.ep, .slice xe.a xe.n xe.c] 87) := ⟨_, rfl⟩
    have hb3 : Below w2.heap.size w2 W3 := by rw [hW3]; exact (Below.refl _ _).alloc (Nat.le_refl _) _
    have hx3 : W3.heap[w2.heap.size]? = some (.cells #[.int .i64 xe.ep, .slice xe.a xe.n xe.c] 87 (0, 0)) := by rw [hW3]; exact heap_alloc_new w2 _
    have d3 := d2.later hb3
    have hk3 : Kept LS B w W3 := hk2.trans (Kept.of_below hb3 LS B)
    have o0 := cell_of_blk hx3 0
    have o1 := cell_of_blk hx3 1
    have HD3 := Lib.hid d3
    have HK3 := Lib.hid hk3
    have HW3 := Lib.hid hW3
    clear hl2 d2 hk2 hb3 hx3 d3 hk3 hW3 c0
    go_upto_region 2 with fail
    rw [← HW3.out]
    have HSS : Hid (∀ w' : World, Below W3.heap.size W3 w' → w'.cell? ⟨q, 0, none⟩ = some (.pointer (some ⟨h, 0, none⟩))) := Lib.hid fun w' hb => cell_of_blk (HD3.out.later hb).blk 0
    have HCP := Lib.hid (copy_any lo A0 c0' l W3.drew (Enr.kept HEN.out HK3.out.drew (by unfold LS; decide)) HL.out)
    have HBD : Hid (Below W3.heap.size W3 W3.drew) := Lib.hid (Below.refl _ _).drew
    have HPU := Lib.hid (fun (A : Option Addr) (c' : Nat) (w4 : World) (hb : Below W3.heap.size W3 w4) => (HPut.out bo' A c' W3 w4 HD3.out (Nat.le_trans HBw.out HK3.out.size) hb))
    have HFin := Lib.hid (fun (A : Option Addr) (c' : Nat) (w4 w5 : World) (hb : Below W3.heap.size W3 w4) (hl : lrl.Left w4 B c.g c.r bo' (putL (getL c.L k) c.r k ⟨epoch, A, l.length, c'⟩) w5) (hs : Enr w4 W3.heap.size (.slice A l.length c') l) => HEnd.out bo' A c' W3 w4 w5 HD3.out HK3.out hb hl hs)
    go_upto_region 4 with fail
    clear o0 o1
    refine wp_region_held_drew (S := fun w' => (w'.cell? ⟨q, 0, none⟩ = some (.pointer (some ⟨h, 0, none⟩)))) (by kernel_rfl) (HSS.out _ HBD.out) (fun hHeld => ?_)
    refine wpAnyH_take (i := 0) (oi := ⟨some 27, _, _, _, _, _⟩) (v := ?_) rfl (by kernel_rfl) (by kernel_rfl) (by kernel_rfl) (fun _ _ _ h => h) (Or.inl ⟨by kernel_rfl, ?_⟩) (by assumption) ?_
    rotate_left 1
    focus (intro w' hSw; (try dsimp only at hSw); go_simp; (try with_reducible rfl))
    try simp only [Act.put, List.setIfInBounds_toArray, List.set_cons_zero, List.set_cons_succ]
    refine wpAnyH_take (i := 1) (oi := ⟨some 28, _, _, _, _, _⟩) (v := ?_) rfl (by kernel_rfl) (by kernel_rfl) (by kernel_rfl) (fun _ _ _ h => h) (Or.inl ⟨by kernel_rfl, ?_⟩) (by assumption) ?_
    rotate_left 1
    focus (intro w' hSw; (try dsimp only at hSw); go_simp; (try with_reducible rfl))
    try simp only [Act.put, List.setIfInBounds_toArray, List.set_cons_zero, List.set_cons_succ]
    refine wpAnyH_take (i := 2) (oi := ⟨some 29, _, _, _, _, _⟩) (v := ?_) rfl (by kernel_rfl) (by kernel_rfl) (by kernel_rfl) (fun _ _ _ h => h) (Or.inl ⟨by kernel_rfl, ?_⟩) (by assumption) ?_
    rotate_left 1
    focus (intro w' hSw; (try dsimp only at hSw); go_simp; (try with_reducible rfl))
    try simp only [Act.put, List.setIfInBounds_toArray, List.set_cons_zero, List.set_cons_succ]
    refine wpAnyH_take (i := 3) (oi := ⟨some 30, _, _, _, _, _⟩) (v := ?_) rfl (by kernel_rfl) (by kernel_rfl) (by kernel_rfl) (fun _ _ _ h => h) (Or.inl ⟨by kernel_rfl, ?_⟩) (by assumption) ?_
    rotate_left 1
    focus (intro w' hSw; (try dsimp only at hSw); go_simp; (try with_reducible rfl))
    try simp only [Act.put, List.setIfInBounds_toArray, List.set_cons_zero, List.set_cons_succ]
    refine wpAnyH_take (i := 4) (oi := ⟨some 31, _, _, _, _, _⟩) (v := ?_) rfl (by kernel_rfl) (by kernel_rfl) (by kernel_rfl) (fun _ _ _ h => h) (Or.inl ⟨by kernel_rfl, ?_⟩) (by assumption) ?_
    rotate_left 1
    focus (intro w' hSw; (try dsimp only at hSw); go_simp; (try with_reducible rfl))
    try simp only [Act.put, List.setIfInBounds_toArray, List.set_cons_zero, List.set_cons_succ]
    refine wpAnyH_take (i := 5) (oi := ⟨some 32, _, _, _, _, _⟩) (v := ?_) rfl (by kernel_rfl) (by kernel_rfl) (by kernel_rfl) (fun _ _ _ h => h) (Or.inl ⟨by kernel_rfl, ?_⟩) (by assumption) ?_
    rotate_left 1
    focus (intro w' hSw; (try dsimp only at hSw); go_simp; (try with_reducible rfl))
    try simp only [Act.put, List.setIfInBounds_toArray, List.set_cons_zero, List.set_cons_succ]
    refine wpAnyH_take (i := 6) (oi := ⟨some 33, _, _, _, _, _⟩) (v := ?_) rfl (by kernel_rfl) (by kernel_rfl) (by kernel_rfl) (fun _ _ _ h => h) (Or.inl ⟨by kernel_rfl, ?_⟩) (by assumption) ?_
    rotate_left 1
    focus (intro w' hSw; (try dsimp only at hSw); go_simp; (try with_reducible rfl))
    try simp only [Act.put, List.setIfInBounds_toArray, List.set_cons_zero, List.set_cons_succ]
    refine wpAnyH_ready (rs := [7]) (by kernel_rfl) (by simp) ?_
    refine AllReadyH.cons rfl (fun K hK => ?_) AllReadyH.nil
    go_simp
    go_at_call 52
    refine (HCP.out).mono ?_
    rintro en w4 ⟨⟨A, c', rfl, hsp4⟩, hb4⟩
    have HB4 := Lib.hid (HBD.out.trans hb4)
    have HS4 := Lib.hid hsp4
    clear hb4 hsp4
    clear hHeld
    refine hK.out _ _ (HSS.out _ HB4.out) (fun hHeld => ?_)
    clear hK
    refine wpAnyH_take (i := 8) (oi := ⟨some 35, _, _, _, _, _⟩) (v := ?_) rfl (by kernel_rfl) (by kernel_rfl) (by kernel_rfl) (fun _ _ _ h => h) (Or.inl ⟨by kernel_rfl, ?_⟩) (by assumption) ?_
    rotate_left 1
    focus (intro w' hSw; (try dsimp only at hSw); go_simp; (try with_reducible rfl))
    try simp only [Act.put, List.setIfInBounds_toArray, List.set_cons_zero, List.set_cons_succ]
    refine wpAnyH_ready (rs := [9]) (by kernel_rfl) (by simp) ?_
    refine AllReadyH.cons rfl (fun K hK => ?_) AllReadyH.nil
    go_simp
    go_at_call 53
    refine (HPU.out A c' w4 HB4.out).mono ?_
    rintro en w5 ⟨rfl, hl5⟩
    have HE := Lib.hid (HFin.out A c' w4 w5 HB4.out hl5 HS4.out)
    clear hl5
    clear hHeld
    refine hK.out _ _ (HE.out.1) (fun hHeld => ?_)
    clear hK
    refine wpAnyH_done (by kernel_rfl) ?_ _
    clear hHeld
    go_wp2_with fail
    go_ret
    exact ⟨rfl, A, c', HE.out.2⟩
end Go.Proofs.Ythhcbmljckgncaa.lca
