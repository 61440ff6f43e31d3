/- What shards' Get, Put, Len and Most answer. Condition: the shards and their caches lie in memory. -/
import Derived.Test.YtllebfkodklehaaShaOps
namespace Go.Proofs.Ytllebfkodklehaa.sha
set_option maxRecDepth 100000
open Go.RowKit Go.Proofs.Ytllebfkodklehaa.words Go.Proofs.Ytllebfkodklehaa.lru Go.Proofs.Ytllebfkodklehaa.lrs

theorem drawn_left {w w2 w' : World} {B g r : Nat} {bo : Option Nat} {L : List (ByteArray × Int)} (h2 : ∃ n, w2 = w.drew.drewN n) (h : lrs.Left w2 B g r bo L w') : lrs.Left w B g r bo L w' := by
  obtain ⟨n, rfl⟩ := h2
  exact ⟨h.ex, ⟨h.tn.os, h.tn.tape, h.tn.output, h.tn.size, h.tn.block⟩⟩
theorem drawn_below {w w2 : World} (h2 : ∃ n, w2 = w.drew.drewN n) : Below w.heap.size w w2 := by
  obtain ⟨n, rfl⟩ := h2
  exact ⟨rfl, rfl, rfl, Nat.le_refl _, fun _ _ => rfl⟩
theorem Shd.drew {w : World} {B h : Nat} {gs : List Nat} (hs : Shd w B h gs) : Shd w.drew B h gs := hs
set_option maxHeartbeats 3200000 in
theorem sget_any (B h g : Nat) (gs : List Nat) (bo : Option Nat) (r : Nat) (L : List (ByteArray × Int)) (k : ByteArray) (w : World) (hs : Shd w B h gs) (h1 : 0 < gs.length) (h2 : gs.length ≤ 256) (hk : k.size ≤ 9223372036854775807)
    (hg : gs[ofF k gs.length]? = some g) (hl : Lru w B g bo r L) (hok : Ok L r) (hlen : L.length ≤ 1000) :
    Calls Try.prog 29 #[.pointer (some ⟨h, 0, none⟩), .string k] w (lrs.Got w B g r bo L k) := by
  obtain ⟨i, hi⟩ : ∃ i, i = ofF k gs.length := ⟨_, rfl⟩
  rw [← hi] at hg
  obtain ⟨A, c, c0, _, hat⟩ := hs.cells
  obtain ⟨b, hA, _, p0⟩ := hat i g hg
  subst hA
  unfold ptrC at p0
  have hil : i < gs.length := (List.getElem?_eq_some_iff.1 hg).1
  have i0 : (0 : Int) ≤ (i : Int) := by omega
  have i1 : (i : Int) < (gs.length : Int) := by omega
  have HOF : Hid (Calls Try.prog 28 #[.pointer (some ⟨h, 0, none⟩), .string k] w.drew fun e w' => e = .returned (.int .i64 (i : Int)) ∧ ∃ n, w' = w.drew.drewN n) := Lib.hid (by rw [hi]; exact of_any B h gs k w.drew hs.drew h1 h2 hk)
  have HG := Lib.hid (fun (w2 : World) (hw : ∃ n, w2 = w.drew.drewN n) => (get_any B g bo r L k w2 (hl.quiet (Tn.of_below (drawn_below hw) _)) hok hlen).mono fun e w' hgot => (⟨hgot.1, drawn_left hw hgot.2⟩ : lrs.Got w B g r bo L k e w'))
  have HC0 := Lib.hid c0
  have HP0 := Lib.hid p0
  have HLT := Lib.hid (And.intro (World.block_lt_of_cell? w _ c0) (World.block_lt_of_cell? w _ p0))
  clear hs hg hl hok hat hi
  go_enter Try.func29, Try.ntmps29
  go_wp2_with fail
  go_region_law (first
    | (go_simp; go_at_call 28; refine HOF.out.mono ?_; rintro e w2 ⟨rfl, hw2⟩; have HG2 := Lib.hid (HG.out w2 hw2); have e0 := ((drawn_below hw2).cell (p := ⟨h, 0, none⟩) HLT.out.1).trans HC0.out; have e1 := ((drawn_below hw2).cell (p := ⟨b, i, none⟩) HLT.out.2).trans HP0.out; have HW2 := Lib.hid hw2; clear hw2)
    | (go_simp; go_at_call 11; refine HG2.out.mono ?_; rintro e w3 ⟨rfl, h3⟩; have HE := Lib.hid h3; clear h3))
  all_goals
    go_wp2_with fail
    go_ret2
    exact ⟨rfl, HE.out⟩
set_option maxHeartbeats 3200000 in
theorem sput_any (B h g : Nat) (gs : List Nat) (bo : Option Nat) (r : Nat) (L : List (ByteArray × Int)) (k : ByteArray) (v : Int) (w : World) (hs : Shd w B h gs) (h1 : 0 < gs.length) (h2 : gs.length ≤ 256) (hk : k.size ≤ 9223372036854775807)
    (hg : gs[ofF k gs.length]? = some g) (hl : Lru w B g bo r L) (hok : Ok L r) (hlen : L.length ≤ 900) (hB : B ≤ w.heap.size) :
    Calls Try.prog 30 #[.pointer (some ⟨h, 0, none⟩), .string k, .int .i64 v] w (lrs.PutIn w B g r bo L k v) := by
  obtain ⟨i, hi⟩ : ∃ i, i = ofF k gs.length := ⟨_, rfl⟩
  rw [← hi] at hg
  obtain ⟨A, c, c0, _, hat⟩ := hs.cells
  obtain ⟨b, hA, _, p0⟩ := hat i g hg
  subst hA
  unfold ptrC at p0
  have hil : i < gs.length := (List.getElem?_eq_some_iff.1 hg).1
  have i0 : (0 : Int) ≤ (i : Int) := by omega
  have i1 : (i : Int) < (gs.length : Int) := by omega
  have HOF : Hid (Calls Try.prog 28 #[.pointer (some ⟨h, 0, none⟩), .string k] w.drew fun e w' => e = .returned (.int .i64 (i : Int)) ∧ ∃ n, w' = w.drew.drewN n) := Lib.hid (by rw [hi]; exact of_any B h gs k w.drew hs.drew h1 h2 hk)
  have HG := Lib.hid (fun (w2 : World) (hw : ∃ n, w2 = w.drew.drewN n) => (put_any B g bo r L k v w2 (hl.quiet (Tn.of_below (drawn_below hw) _)) hok hlen (Nat.le_trans hB (drawn_below hw).size)).mono fun e w' hgot => (⟨hgot.1, drawn_left hw hgot.2⟩ : lrs.PutIn w B g r bo L k v e w'))
  have HC0 := Lib.hid c0
  have HP0 := Lib.hid p0
  have HLT := Lib.hid (And.intro (World.block_lt_of_cell? w _ c0) (World.block_lt_of_cell? w _ p0))
  clear hs hg hl hok hat hi
  go_enter Try.func30, Try.ntmps30
  go_wp2_with fail
  go_region_law (first
    | (go_simp; go_at_call 28; refine HOF.out.mono ?_; rintro e w2 ⟨rfl, hw2⟩; have HG2 := Lib.hid (HG.out w2 hw2); have e0 := ((drawn_below hw2).cell (p := ⟨h, 0, none⟩) HLT.out.1).trans HC0.out; have e1 := ((drawn_below hw2).cell (p := ⟨b, i, none⟩) HLT.out.2).trans HP0.out; have HW2 := Lib.hid hw2; clear hw2)
    | (go_simp; go_at_call 14; refine HG2.out.mono ?_; rintro e w3 ⟨rfl, h3⟩; have HE := Lib.hid h3; clear h3))
  all_goals
    go_wp2_with fail
    go_ret2
    exact ⟨rfl, HE.out⟩
set_option maxHeartbeats 1600000 in
theorem slen_any (B h g i : Nat) (gs : List Nat) (bo : Option Nat) (r : Nat) (L : List (ByteArray × Int)) (w : World) (hs : Shd w B h gs) (hg : gs[i]? = some g) (hl : Lru w B g bo r L) :
    Calls Try.prog 31 #[.pointer (some ⟨h, 0, none⟩), .int .i64 (i : Int)] w fun e w' => e = .returned (.int .i64 (L.length : Int)) ∧ w = w' := by
  obtain ⟨A, c, c0, _, hat⟩ := hs.cells
  obtain ⟨b, hA, _, p0⟩ := hat i g hg
  subst hA
  unfold ptrC at p0
  have hil : i < gs.length := (List.getElem?_eq_some_iff.1 hg).1
  have i0 : (0 : Int) ≤ (i : Int) := by omega
  have i2 : ¬ (i : Int) < 0 := by omega
  have i1 : (i : Int) < (gs.length : Int) := by omega
  have i3 : ¬ (gs.length : Int) ≤ (i : Int) := by omega
  have i4 : ¬ gs.length ≤ i := by omega
  have HC := Lib.hid (len_any B g bo r L w hl)
  clear hs hg hl hat
  go_enter Try.func31, Try.ntmps31
  go_wp2_with fail
  refine HC.out.mono ?_
  rintro e w2 ⟨rfl, rfl⟩
  go_wp2_with fail
  go_ret
  exact ⟨rfl, rfl⟩
theorem slen_below (B h : Nat) (gs : List Nat) (i : Int) (w : World) (hs : Shd w B h gs) (hi : i < 0) :
    Calls Try.prog 31 #[.pointer (some ⟨h, 0, none⟩), .int .i64 i] w fun e w' => e = .returned (.int .i64 0) ∧ w = w' := by
  obtain ⟨A, c, c0, _, hat⟩ := hs.cells
  clear hs hat
  go_enter Try.func31, Try.ntmps31
  go_wp2_with fail
  go_ret
  exact ⟨rfl, rfl⟩
theorem slen_above (B h : Nat) (gs : List Nat) (w : World) (hs : Shd w B h gs) :
    Calls Try.prog 31 #[.pointer (some ⟨h, 0, none⟩), .int .i64 (gs.length : Int)] w fun e w' => e = .returned (.int .i64 0) ∧ w = w' := by
  obtain ⟨A, c, c0, _, hat⟩ := hs.cells
  have i2 : ¬ (gs.length : Int) < 0 := by omega
  have i3 : (gs.length : Int) ≤ (gs.length : Int) := by omega
  clear hs hat
  go_enter Try.func31, Try.ntmps31
  go_wp2_with fail
  go_ret
  exact ⟨rfl, rfl⟩
/-- The greatest of some numbers. -/
def mostF (l : List Nat) : Nat := l.foldl max 0
theorem mostF_snoc (l : List Nat) (x : Nat) : mostF (l ++ [x]) = max (mostF l) x := by rw [mostF, mostF, List.foldl_append, List.foldl_cons, List.foldl_nil]
/-- The caches whose blocks are gs, each with so many pairs. -/
def Held (w : World) (B : Nat) (gs ns : List Nat) : Prop := gs.length = ns.length ∧ ∀ (i g : Nat), gs[i]? = some g → ∃ bo r L, Lru w B g bo r L ∧ ns[i]? = some L.length
set_option maxHeartbeats 1600000 in
theorem most_any (B h : Nat) (gs ns : List Nat) (w : World) (hs : Shd w B h gs) (h2 : gs.length ≤ 256) (hh : Held w B gs ns) :
    Calls Try.prog 32 #[.pointer (some ⟨h, 0, none⟩)] w fun e w' => e = .returned (.int .i64 (mostF ns : Int)) ∧ w = w' := by
  obtain ⟨A, c, c0, _, hat⟩ := hs.cells
  have HA := Lib.hid hat
  have HH := Lib.hid hh
  clear hs hat hh
  go_enter Try.func32, Try.ntmps32
  go_wp2_with fail
  go_loop [11, 3] (fun v v3 => ∃ k : Nat, k ≤ gs.length ∧ v = .int .i64 (k : Int) ∧ v3 = .int .i64 (mostF (ns.take k) : Int)) (fun v _ => gs.length - (intOf v).toNat)
  case atStart => exact ⟨0, Nat.zero_le _, rfl, rfl⟩
  case round =>
    obtain ⟨k, hk, rfl, rfl⟩ := hrel
    obtain ⟨m, hm⟩ : ∃ m, m = mostF (ns.take k) := ⟨_, rfl⟩
    rw [← hm]
    have k0 : (0 : Int) ≤ (k : Int) := by omega
    by_cases hkl : k < gs.length
    · have k1 : (k : Int) < (gs.length : Int) := by omega
      obtain ⟨g, hg⟩ : ∃ g, gs[k]? = some g := ⟨_, List.getElem?_eq_getElem hkl⟩
      obtain ⟨b, hA, _, p0⟩ := HA.out k g hg
      subst hA
      unfold ptrC at p0
      obtain ⟨bo, r, L, hl, hn⟩ := HH.out.2 k g hg
      have HC := Lib.hid (len_any B g bo r L w hl)
      have HN : Hid (mostF (ns.take (k + 1)) = max m L.length) := Lib.hid (by
        obtain ⟨hkn, hx⟩ := List.getElem?_eq_some_iff.1 hn
        rw [List.take_succ_eq_append_getElem hkn, hx, mostF_snoc, hm])
      have hmx : max (m : Int) (L.length : Int) = ((max m L.length : Nat) : Int) := by omega
      clear hg hl hn hm
      go_wp2_with fail
      refine HC.out.mono ?_
      rintro e w2 ⟨rfl, rfl⟩
      go_wp2_with fail
      go_round
      case rel => exact ⟨k + 1, by omega, by go_num, by rw [HN.out]⟩
      case measure => simp [intOf]; omega
    · obtain rfl : k = gs.length := by omega
      have HF : Hid (m = mostF ns) := Lib.hid (by rw [hm, HH.out.1, List.take_length])
      clear hm
      go_wp2_with fail
      go_ret
      exact ⟨by rw [HF.out]; rfl, rfl⟩
end Go.Proofs.Ytllebfkodklehaa.sha
