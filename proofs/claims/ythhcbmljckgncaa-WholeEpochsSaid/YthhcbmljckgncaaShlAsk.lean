/- What shards' Get, Put, Len and Most answer. Condition: the shards and their caches lie in memory. -/
import Derived.Test.YthhcbmljckgncaaShlOps
namespace Go.Proofs.Ythhcbmljckgncaa.shl
set_option maxRecDepth 100000
open Go.RowKit Go.Proofs.Ythhcbmljckgncaa.words Go.Proofs.Ythhcbmljckgncaa.lru Go.Proofs.Ythhcbmljckgncaa.sha Go.Proofs.Ythhcbmljckgncaa.lrl

theorem drawn_left {w w2 w' : World} {B g r : Nat} {bo : Option Nat} {L : List (ByteArray × Lst)} (h2 : ∃ n, w2 = w.drew.drewN n) (h : lrl.Left w2 B g r bo L w') : lrl.Left w B g r bo L w' := by
  obtain ⟨n, rfl⟩ := h2
  exact ⟨h.ex, ⟨h.tn.os, h.tn.tape, h.tn.output, h.tn.size, h.tn.block⟩⟩
theorem Shd.drew {w : World} {B h : Nat} {gs : List Nat} (hs : Shd w B h gs) : Shd w.drew B h gs := hs
set_option maxHeartbeats 3200000 in
theorem sget_any (B h g : Nat) (gs : List Nat) (bo : Option Nat) (r : Nat) (L : List (ByteArray × Lst)) (k : ByteArray) (w : World) (hs : Shd w B h gs) (h1 : 0 < gs.length) (h2 : gs.length ≤ 256) (hk : k.size ≤ 9223372036854775807)
    (hg : gs[ofF k gs.length]? = some g) (hl : Lru w B g bo r L) (hok : Ok L r) (hlen : L.length ≤ 1000) :
    Calls Try.prog 51 #[.pointer (some ⟨h, 0, none⟩), .string k] w (lrl.Got w B g r bo L k) := by
  obtain ⟨i, hi⟩ : ∃ i, i = ofF k gs.length := ⟨_, rfl⟩
  rw [← hi] at hg
  obtain ⟨W0, hW0⟩ : ∃ W0, W0 = w.alloc (.cells #[.int .i64 0, .slice none 0 0] 87) := ⟨_, rfl⟩
  have hb0 : Below w.heap.size w W0 := by rw [hW0]; exact (Below.refl _ _).alloc (Nat.le_refl _) _
  have hz0 : W0.heap[w.heap.size]? = some (.cells #[.int .i64 0, .slice none 0 0] 87 (0, 0)) := by rw [hW0]; exact heap_alloc_new w _
  have hs0 : Shd W0 B h gs := hs.later hb0
  have hl0 : Lru W0 B g bo r L := hl.quiet (Tn.of_below hb0 _)
  have hq0 : w.heap.size < W0.heap.size := lt_of_some hz0
  obtain ⟨A, c, c0, _, hat⟩ := hs0.cells
  obtain ⟨b, hA, _, p0⟩ := hat i g hg
  subst hA
  unfold ptrC at p0
  have hil : i < gs.length := (List.getElem?_eq_some_iff.1 hg).1
  have i0 : (0 : Int) ≤ (i : Int) := by omega
  have i1 : (i : Int) < (gs.length : Int) := by omega
  have HOF : Hid (Calls Try.prog 34 #[.pointer (some ⟨h, 0, none⟩), .string k] W0.drew fun e w' => e = .returned (.int .i64 (i : Int)) ∧ ∃ n, w' = W0.drew.drewN n) := Lib.hid (by rw [hi]; exact of_any B h gs k W0.drew hs0.drew h1 h2 hk)
  have HG := Lib.hid (fun (w2 : World) (hw : ∃ n, w2 = W0.drew.drewN n) => (get_any B g bo r L k w2 (hl0.quiet (Tn.of_below (drawn_below hw) _)) hok hlen).mono fun e w' hgot => (⟨hgot.1, drawn_left hw hgot.2⟩ : lrl.Got W0 B g r bo L k e w'))
  have HC0 := Lib.hid c0
  have HP0 := Lib.hid p0
  have HLT := Lib.hid (And.intro (World.block_lt_of_cell? W0 _ c0) (World.block_lt_of_cell? W0 _ p0))
  have HB0 := Lib.hid hb0
  have HZB : Hid (∀ (w3 : World) (L' : List (ByteArray × Lst)), lrl.Left W0 B g r bo L' w3 → w3.heap[w.heap.size]? = some (.cells #[.int .i64 0, .slice none 0 0] 87 (0, 0))) := Lib.hid fun w3 L' hx => (hx.tn.block _ hq0 (fun hc => by
    rcases hc with hc | hc
    · have := hl.lt.2.1; omega
    · have := hl.lt.2.2 _ hc.symm; omega)).trans hz0
  have HFIN : Hid (∀ (w3 w4 : World) (L' : List (ByteArray × Lst)), lrl.Left W0 B g r bo L' w3 → Tn (fun k => k = w.heap.size) w3 w4 → lrl.Left w B g r bo L' w4) := Lib.hid fun w3 w4 L' h3 h4 => h3.over hb0 hl (Nat.le_refl _) hq0 h4
  have HW0 := Lib.hid hW0
  clear hs hg hl hok hat hi hb0 hz0 hs0 hl0 hW0 hq0
  go_enter Try.func51, Try.ntmps51
  go_upto_region 1 with fail
  rw [← HW0.out]
  go_region_law (first
    | (go_simp; go_at_call 34; refine HOF.out.mono ?_; rintro e w2 ⟨rfl, hw2⟩; have HG2 := Lib.hid (HG.out w2 hw2); have e0 := ((drawn_below hw2).cell (p := ⟨h, 0, none⟩) HLT.out.1).trans HC0.out; have e1 := ((drawn_below hw2).cell (p := ⟨b, i, none⟩) HLT.out.2).trans HP0.out; have HW2 := Lib.hid hw2; clear hw2)
    | (go_simp; go_at_call 62; refine HG2.out.mono ?_; rintro e w3 ⟨rfl, h3⟩; have hzb := HZB.out _ _ h3; have z0 := cell_of_blk hzb 0; have fz0 := free_of_blk hzb 0; have z1 := cell_of_blk hzb 1; have fz1 := free_of_blk hzb 1; have HE := Lib.hid h3; have HZ3 := Lib.hid hzb; clear h3 hzb))
  all_goals
    obtain ⟨W9, hW9⟩ : ∃ W9, W9 = ((w3.setCell ⟨w.heap.size, 0, none⟩ (.int .i64 (gotI L k).ep)).setCell ⟨w.heap.size, 1, none⟩ (.slice (gotI L k).a (gotI L k).n (gotI L k).c)) := ⟨_, rfl⟩
    have h9 : W9 = setsV w3 w.heap.size 0 [.int .i64 (gotI L k).ep, .slice (gotI L k).a (gotI L k).n (gotI L k).c] := hW9
    have hbk9 : W9.heap[w.heap.size]? = some (.cells #[.int .i64 (gotI L k).ep, .slice (gotI L k).a (gotI L k).n (gotI L k).c] 87 (0, 0)) := by rw [h9]; exact setsV_all HZ3.out rfl
    have hE9 : lrl.Left w B g r bo (getL L k) W9 := HFIN.out _ _ _ HE.out (by rw [h9]; exact setsV_tn (S := fun k => k = w.heap.size) _ (.inr rfl) _ _ _ (Tn.refl _ _))
    clear h9
    first | rw [← hW9] | skip
    have HE9 := Lib.hid hE9
    have y0 := cell_of_blk hbk9 0
    have y1 := cell_of_blk hbk9 1
    clear hE9 hbk9 hW9
    go_wp2_with fail
    exact bodyPost_ret (v := .tuple #[.agg #[.int .i64 (gotI L k).ep, .slice (gotI L k).a (gotI L k).n (gotI L k).c], .bool (gotB L k)]) (by simp [results, Try.results51, go_sem, y0, y1]) rfl ⟨rfl, HE9.out⟩
set_option maxHeartbeats 3200000 in
theorem sput_any (B h g : Nat) (gs : List Nat) (bo : Option Nat) (r : Nat) (L : List (ByteArray × Lst)) (k : ByteArray) (v : Lst) (w : World) (hs : Shd w B h gs) (h1 : 0 < gs.length) (h2 : gs.length ≤ 256) (hk : k.size ≤ 9223372036854775807)
    (hg : gs[ofF k gs.length]? = some g) (hl : Lru w B g bo r L) (hok : Ok L r) (hlen : L.length ≤ 900) (hB : B ≤ w.heap.size) :
    Calls Try.prog 53 #[.pointer (some ⟨h, 0, none⟩), .string k, .agg #[.int .i64 v.ep, .slice v.a v.n v.c]] w (lrl.PutIn w B g r bo L k v) := by
  obtain ⟨i, hi⟩ : ∃ i, i = ofF k gs.length := ⟨_, rfl⟩
  rw [← hi] at hg
  obtain ⟨W0, hW0⟩ : ∃ W0, W0 = w.alloc (.cells #[.int .i64 v.ep, .slice v.a v.n v.c] 87) := ⟨_, rfl⟩
  have hb0 : Below w.heap.size w W0 := by rw [hW0]; exact (Below.refl _ _).alloc (Nat.le_refl _) _
  have hz0 : W0.heap[w.heap.size]? = some (.cells #[.int .i64 v.ep, .slice v.a v.n v.c] 87 (0, 0)) := by rw [hW0]; exact heap_alloc_new w _
  have hs0 : Shd W0 B h gs := hs.later hb0
  have hl0 : Lru W0 B g bo r L := hl.quiet (Tn.of_below hb0 _)
  have hB0 : B ≤ W0.heap.size := Nat.le_trans hB hb0.size
  have HU : Hid (∀ (L' : List (ByteArray × Lst)) (w3 : World), lrl.Left W0 B g r bo L' w3 → lrl.Left w B g r bo L' w3) := Lib.hid fun L' w3 hx => hx.under hb0
  have v0 := cell_of_blk hz0 0
  have v1 := cell_of_blk hz0 1
  have HV : Hid (∀ w2 : World, (∃ n, w2 = W0.drew.drewN n) → w2.cell? ⟨w.heap.size, 0, none⟩ = some (.int .i64 v.ep) ∧ w2.cell? ⟨w.heap.size, 1, none⟩ = some (.slice v.a v.n v.c)) := Lib.hid fun w2 hw => by
    have hh := ((drawn_below hw).block _ (lt_of_some hz0)).trans hz0
    exact ⟨cell_of_blk hh 0, cell_of_blk hh 1⟩
  have HW0 := Lib.hid hW0
  obtain ⟨A, c, c0, _, hat⟩ := hs0.cells
  obtain ⟨b, hA, _, p0⟩ := hat i g hg
  subst hA
  unfold ptrC at p0
  have hil : i < gs.length := (List.getElem?_eq_some_iff.1 hg).1
  have i0 : (0 : Int) ≤ (i : Int) := by omega
  have i1 : (i : Int) < (gs.length : Int) := by omega
  have HOF : Hid (Calls Try.prog 34 #[.pointer (some ⟨h, 0, none⟩), .string k] W0.drew fun e w' => e = .returned (.int .i64 (i : Int)) ∧ ∃ n, w' = W0.drew.drewN n) := Lib.hid (by rw [hi]; exact of_any B h gs k W0.drew hs0.drew h1 h2 hk)
  have HG := Lib.hid (fun (w2 : World) (hw : ∃ n, w2 = W0.drew.drewN n) => (put_any B g bo r L k v w2 (hl0.quiet (Tn.of_below (drawn_below hw) _)) hok hlen (Nat.le_trans hB0 (drawn_below hw).size)).mono fun e w' hgot => (⟨hgot.1, drawn_left hw hgot.2⟩ : lrl.PutIn W0 B g r bo L k v e w'))
  have HC0 := Lib.hid c0
  have HP0 := Lib.hid p0
  have HLT := Lib.hid (And.intro (World.block_lt_of_cell? W0 _ c0) (World.block_lt_of_cell? W0 _ p0))
  clear hs hg hl hok hat hi hb0 hz0 hs0 hl0 hB0 hW0
  go_enter Try.func53, Try.ntmps53
  go_upto_region 1 with fail
  rw [← HW0.out]
  go_region_law (first
    | (go_simp; go_at_call 34; refine HOF.out.mono ?_; rintro e w2 ⟨rfl, hw2⟩; have HG2 := Lib.hid (HG.out w2 hw2); have e0 := ((drawn_below hw2).cell (p := ⟨h, 0, none⟩) HLT.out.1).trans HC0.out; have e1 := ((drawn_below hw2).cell (p := ⟨b, i, none⟩) HLT.out.2).trans HP0.out; obtain ⟨u0, u1⟩ := HV.out w2 hw2; have HW2 := Lib.hid hw2; clear hw2)
    | (go_simp; go_at_call 63; refine HG2.out.mono ?_; rintro e w3 ⟨rfl, h3⟩; have HE := Lib.hid h3; clear h3))
  all_goals
    go_wp2_with fail
    go_ret2
    exact ⟨rfl, HU.out _ _ HE.out⟩
set_option maxHeartbeats 1600000 in
theorem slen_any (B h g i : Nat) (gs : List Nat) (bo : Option Nat) (r : Nat) (L : List (ByteArray × Lst)) (w : World) (hs : Shd w B h gs) (hg : gs[i]? = some g) (hl : Lru w B g bo r L) :
    Calls Try.prog 35 #[.pointer (some ⟨h, 0, none⟩), .int .i64 (i : Int)] w fun e w' => e = .returned (.int .i64 (L.length : Int)) ∧ w = w' := by
  obtain ⟨A, c, c0, _, hat⟩ := hs.cells
  obtain ⟨b, hA, _, p0⟩ := hat i g hg
  subst hA
  unfold ptrC at p0
  have hil : i < gs.length := (List.getElem?_eq_some_iff.1 hg).1
  have i0 : (0 : Int) ≤ (i : Int) := by omega
  have i2 : ¬ (i : Int) < 0 := by omega
  have i1 : (i : Int) < (gs.length : Int) := by omega
  have i3 : ¬ (gs.length : Int) ≤ (i : Int) := by omega
  have i4 : ¬ gs.length ≤ i := by omega
  have HC := Lib.hid (len_any B g bo r L w hl)
  clear hs hg hl hat
  go_enter Try.func35, Try.ntmps35
  go_wp2_with fail
  refine HC.out.mono ?_
  rintro e w2 ⟨rfl, rfl⟩
  go_wp2_with fail
  go_ret
  exact ⟨rfl, rfl⟩
theorem slen_below (B h : Nat) (gs : List Nat) (i : Int) (w : World) (hs : Shd w B h gs) (hi : i < 0) :
    Calls Try.prog 35 #[.pointer (some ⟨h, 0, none⟩), .int .i64 i] w fun e w' => e = .returned (.int .i64 0) ∧ w = w' := by
  obtain ⟨A, c, c0, _, hat⟩ := hs.cells
  clear hs hat
  go_enter Try.func35, Try.ntmps35
  go_wp2_with fail
  go_ret
  exact ⟨rfl, rfl⟩
theorem slen_above (B h : Nat) (gs : List Nat) (w : World) (hs : Shd w B h gs) :
    Calls Try.prog 35 #[.pointer (some ⟨h, 0, none⟩), .int .i64 (gs.length : Int)] w fun e w' => e = .returned (.int .i64 0) ∧ w = w' := by
  obtain ⟨A, c, c0, _, hat⟩ := hs.cells
  have i2 : ¬ (gs.length : Int) < 0 := by omega
  have i3 : (gs.length : Int) ≤ (gs.length : Int) := by omega
  clear hs hat
  go_enter Try.func35, Try.ntmps35
  go_wp2_with fail
  go_ret
  exact ⟨rfl, rfl⟩
/-- The caches whose blocks are gs, each with so many pairs. -/
def Held (w : World) (B : Nat) (gs ns : List Nat) : Prop := gs.length = ns.length ∧ ∀ (i g : Nat), gs[i]? = some g → ∃ bo r L, Lru w B g bo r L ∧ ns[i]? = some L.length
set_option maxHeartbeats 1600000 in
theorem most_any (B h : Nat) (gs ns : List Nat) (w : World) (hs : Shd w B h gs) (h2 : gs.length ≤ 256) (hh : Held w B gs ns) :
    Calls Try.prog 36 #[.pointer (some ⟨h, 0, none⟩)] w fun e w' => e = .returned (.int .i64 (mostF ns : Int)) ∧ w = w' := by
  obtain ⟨A, c, c0, _, hat⟩ := hs.cells
  have HA := Lib.hid hat
  have HH := Lib.hid hh
  clear hs hat hh
  go_enter Try.func36, Try.ntmps36
  go_wp2_with fail
  go_loop [11, 3] (fun v v3 => ∃ k : Nat, k ≤ gs.length ∧ v = .int .i64 (k : Int) ∧ v3 = .int .i64 (mostF (ns.take k) : Int)) (fun v _ => gs.length - (intOf v).toNat)
  case atStart => exact ⟨0, Nat.zero_le _, rfl, rfl⟩
  case round =>
    obtain ⟨k, hk, rfl, rfl⟩ := hrel
    obtain ⟨m, hm⟩ : ∃ m, m = mostF (ns.take k) := ⟨_, rfl⟩
    rw [← hm]
    have k0 : (0 : Int) ≤ (k : Int) := by omega
    by_cases hkl : k < gs.length
    · have k1 : (k : Int) < (gs.length : Int) := by omega
      obtain ⟨g, hg⟩ : ∃ g, gs[k]? = some g := ⟨_, List.getElem?_eq_getElem hkl⟩
      obtain ⟨b, hA, _, p0⟩ := HA.out k g hg
      subst hA
      unfold ptrC at p0
      obtain ⟨bo, r, L, hl, hn⟩ := HH.out.2 k g hg
      have HC := Lib.hid (len_any B g bo r L w hl)
      have HN : Hid (mostF (ns.take (k + 1)) = max m L.length) := Lib.hid (by
        obtain ⟨hkn, hx⟩ := List.getElem?_eq_some_iff.1 hn
        rw [List.take_succ_eq_append_getElem hkn, hx, mostF_snoc, hm])
      have hmx : max (m : Int) (L.length : Int) = ((max m L.length : Nat) : Int) := by omega
      clear hg hl hn hm
      go_wp2_with fail
      refine HC.out.mono ?_
      rintro e w2 ⟨rfl, rfl⟩
      go_wp2_with fail
      go_round
      case rel => exact ⟨k + 1, by omega, by go_num, by rw [HN.out]⟩
      case measure => simp [intOf]; omega
    · obtain rfl : k = gs.length := by omega
      have HF : Hid (m = mostF ns) := Lib.hid (by rw [hm, HH.out.1, List.take_length])
      clear hm
      go_wp2_with fail
      go_ret
      exact ⟨by rw [HF.out]; rfl, rfl⟩
end Go.Proofs.Ythhcbmljckgncaa.shl
