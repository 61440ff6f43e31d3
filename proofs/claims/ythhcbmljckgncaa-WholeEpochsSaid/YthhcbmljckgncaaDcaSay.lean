/- What socagelaw15's entry and same answer. Condition: what is asked lies in memory. -/
import Derived.Test.YthhcbmljckgncaaDcaKeep
import Derived.Laws.StructEq
namespace Go.Proofs.Ythhcbmljckgncaa.dca
set_option maxRecDepth 100000
open Go.RowKit Go.Proofs.Ythhcbmljckgncaa.words Go.Proofs.Ythhcbmljckgncaa.lru Go.Proofs.Ythhcbmljckgncaa.sha Go.Proofs.Ythhcbmljckgncaa.lrd Go.Proofs.Ythhcbmljckgncaa.shd

/-- What is done: Keep, or Look. -/
structure Act15 where
  kp : Bool
  th : Bool
  dr : Nat
  nm : ByteArray
  ep : Int
  mr : Int
def actC (a : Act15) : List Value := [.bool a.kp, .bool a.th, .int .u8 (a.dr : Int), .string a.nm, .int .i64 a.ep, .int .i64 a.mr]
def actV (a : Act15) : Value := .agg #[.bool a.kp, .bool a.th, .int .u8 (a.dr : Int), .string a.nm, .int .i64 a.ep, .int .i64 a.mr]
def a0 : Act15 := ⟨false, false, 0, ⟨#[]⟩, 0, 0⟩
/-- The entry that an action remembers, its place at b. -/
def entE (a : Act15) (b : Nat) : Ent := ⟨a.ep, a.th, a.mr, 0, 0, some ⟨b, 0, none⟩, 1, 1, a.nm⟩
def EntOut (a : Act15) (w : World) (e : Ending) (w' : World) : Prop :=
  (∃ b : Nat, e = .returned (.agg #[.int .i64 a.ep, .bool a.th, .int .i64 a.mr, .int .i64 0, .int .i64 0, .slice (some ⟨b, 0, none⟩) 1 1, .string a.nm]) ∧ w.heap.size ≤ b ∧ w'.heap[b]? = some (.cells #[.int .i64 a.mr, .int .i64 0] 44 (0, 0))) ∧ Below w.heap.size w w'
theorem Sp.one {w : World} {lo b : Nat} {x y : Int} (h : w.heap[b]? = some (.cells #[.int .i64 x, .int .i64 y] 44 (0, 0))) (hb : lo ≤ b) : Sp w lo (some ⟨b, 0, none⟩) 1 [(x, y)] :=
  ⟨rfl, fun i p hp => by
    rcases i with _ | i
    · obtain rfl : (x, y) = p := by simpa using hp
      exact ⟨b, 0, _, rfl, hb, h, rfl, rfl⟩
    · simp at hp⟩
set_option maxHeartbeats 3200000 in
theorem entry_any (a : Act15) (w : World) : Calls Try.prog 18 #[.agg #[.bool a.kp, .bool a.th, .int .u8 (a.dr : Int), .string a.nm, .int .i64 a.ep, .int .i64 a.mr]] w (EntOut a w) := by
  obtain ⟨W1, hW1⟩ : ∃ W1, W1 = w.alloc (.cells #[.bool a.kp, .bool a.th, .int .u8 (a.dr : Int), .string a.nm, .int .i64 a.ep, .int .i64 a.mr] 30) := ⟨_, rfl⟩
  obtain ⟨W2, hW2⟩ : ∃ W2, W2 = W1.alloc (.cells #[.int .i64 0, .bool false, .int .i64 0, .int .i64 0, .int .i64 0, .slice none 0 0, .string ⟨#[]⟩] 50) := ⟨_, rfl⟩
  obtain ⟨W3, hW3⟩ : ∃ W3, W3 = W2.alloc (.cells #[.int .i64 a.mr, .int .i64 0] 44) := ⟨_, rfl⟩
  have hb1 : Below w.heap.size w W1 := by rw [hW1]; exact (Below.refl _ _).alloc (Nat.le_refl _) _
  have hb2 : Below W1.heap.size W1 W2 := by rw [hW2]; exact (Below.refl _ _).alloc (Nat.le_refl _) _
  have hb3 : Below W2.heap.size W2 W3 := by rw [hW3]; exact (Below.refl _ _).alloc (Nat.le_refl _) _
  have hz1 : W1.heap.size = w.heap.size + 1 := by rw [hW1]; simp
  have hz2 : W2.heap.size = w.heap.size + 1 + 1 := by rw [hW2]; simp [hz1]
  have k1 : W1.heap[w.heap.size]? = some (.cells #[.bool a.kp, .bool a.th, .int .u8 (a.dr : Int), .string a.nm, .int .i64 a.ep, .int .i64 a.mr] 30 (0, 0)) := by rw [hW1]; exact heap_alloc_new w _
  have k2 : W2.heap[w.heap.size + 1]? = some (.cells #[.int .i64 0, .bool false, .int .i64 0, .int .i64 0, .int .i64 0, .slice none 0 0, .string ⟨#[]⟩] 50 (0, 0)) := by rw [hW2, ← hz1]; exact heap_alloc_new W1 _
  have k3 : W3.heap[W2.heap.size]? = some (.cells #[.int .i64 a.mr, .int .i64 0] 44 (0, 0)) := by rw [hW3]; exact heap_alloc_new W2 _
  have k12 := (hb2.block _ (lt_of_some k1)).trans k1
  have k23 := (hb3.block _ (lt_of_some k2)).trans k2
  have hb := (hb1.trans (hb2.mono hb1.size)).trans (hb3.mono (hb1.trans (hb2.mono hb1.size)).size)
  have q0 := cell_of_blk k12 0
  have q1 := cell_of_blk k12 1
  have q2 := cell_of_blk k12 2
  have q3 := cell_of_blk k12 3
  have q4 := cell_of_blk k12 4
  have q5 := cell_of_blk k12 5
  have z0 := cell_of_blk k23 0
  have fz0 := free_of_blk k23 0
  rw [hW3] at z0 fz0
  have z1 := cell_of_blk k23 1
  have fz1 := free_of_blk k23 1
  rw [hW3] at z1 fz1
  have z2 := cell_of_blk k23 2
  have fz2 := free_of_blk k23 2
  rw [hW3] at z2 fz2
  have z3 := cell_of_blk k23 3
  have fz3 := free_of_blk k23 3
  rw [hW3] at z3 fz3
  have z4 := cell_of_blk k23 4
  have fz4 := free_of_blk k23 4
  rw [hW3] at z4 fz4
  have z5 := cell_of_blk k23 5
  have fz5 := free_of_blk k23 5
  rw [hW3] at z5 fz5
  have z6 := cell_of_blk k23 6
  have fz6 := free_of_blk k23 6
  rw [hW3] at z6 fz6
  obtain ⟨W9, hW9⟩ : ∃ W9, W9 = (((((((W3.setCell ⟨w.heap.size + 1, 0, none⟩ (.int .i64 a.ep)).setCell ⟨w.heap.size + 1, 1, none⟩ (.bool a.th)).setCell ⟨w.heap.size + 1, 2, none⟩ (.int .i64 a.mr)).setCell ⟨w.heap.size + 1, 3, none⟩ (.int .i64 0)).setCell ⟨w.heap.size + 1, 4, none⟩ (.int .i64 0)).setCell ⟨w.heap.size + 1, 5, none⟩ (.slice (some ⟨W2.heap.size, 0, none⟩) 1 1)).setCell ⟨w.heap.size + 1, 6, none⟩ (.string a.nm)) := ⟨_, rfl⟩
  have h9 : W9 = setsV W3 (w.heap.size + 1) 0 [.int .i64 a.ep, .bool a.th, .int .i64 a.mr, .int .i64 0, .int .i64 0, .slice (some ⟨W2.heap.size, 0, none⟩) 1 1, .string a.nm] := hW9
  have hbk9 : W9.heap[w.heap.size + 1]? = some (.cells #[.int .i64 a.ep, .bool a.th, .int .i64 a.mr, .int .i64 0, .int .i64 0, .slice (some ⟨W2.heap.size, 0, none⟩) 1 1, .string a.nm] 50 (0, 0)) := by rw [h9]; exact setsV_all k23 rfl
  have ht9 : Tn (fun k => k = w.heap.size + 1) W3 W9 := by rw [h9]; exact setsV_tn (S := fun k => k = w.heap.size + 1) _ (.inr rfl) _ _ _ (Tn.refl _ _)
  have k9 : W9.heap[W2.heap.size]? = some (.cells #[.int .i64 a.mr, .int .i64 0] 44 (0, 0)) := (ht9.block _ (lt_of_some k3) (by omega)).trans k3
  have hb9 : Below w.heap.size w W9 := hb.trans (ht9.below (fun k hk => by omega) hb.size)
  have HF : Hid (EntOut a w (.returned (.agg #[.int .i64 a.ep, .bool a.th, .int .i64 a.mr, .int .i64 0, .int .i64 0, .slice (some ⟨W2.heap.size, 0, none⟩) 1 1, .string a.nm])) W9) := Lib.hid ⟨⟨_, rfl, by omega, k9⟩, hb9⟩
  have y0 := cell_of_blk hbk9 0
  have y1 := cell_of_blk hbk9 1
  have y2 := cell_of_blk hbk9 2
  have y3 := cell_of_blk hbk9 3
  have y4 := cell_of_blk hbk9 4
  have y5 := cell_of_blk hbk9 5
  have y6 := cell_of_blk hbk9 6
  have HW1 := Lib.hid hW1
  have HW2 := Lib.hid hW2
  have HW3 := Lib.hid hW3
  have HW9 := Lib.hid hW9
  have HZ2 := Lib.hid hz2
  clear hW1 hW2 hW3 hW9 hb1 hb2 hb3 hz1 hz2 k1 k2 k3 k12 k23 hb h9 hbk9 ht9 k9 hb9
  go_enter Try.func18, Try.ntmps18
  go_upto_region 1 with fail
  rw [← HW1.out, ← HW2.out]
  go_wp2_with fail
  rw [← HW3.out, ← HW9.out]
  exact bodyPost_ret (v := .agg #[.int .i64 a.ep, .bool a.th, .int .i64 a.mr, .int .i64 0, .int .i64 0, .slice (some ⟨W2.heap.size, 0, none⟩) 1 1, .string a.nm]) (by simp [results, Try.results18, go_sem, y0, y1, y2, y3, y4, y5, y6]) rfl HF.out
set_option maxHeartbeats 6400000 in
/-- Two entries that are one. -/
theorem same_any (x : Ent) (A1 A2 : Option Addr) (c1 c2 lo1 lo2 : Nat) (P : List (Int × Int)) (w : World) (h1 : Sp w lo1 A1 x.dn P) (h2 : Sp w lo2 A2 x.dn P) (hP : P.length ≤ 1000) :
    Calls Try.prog 21 #[.agg #[.int .i64 x.ep, .bool x.th, .int .i64 x.kd, .int .i64 x.lv, .int .i64 x.nd, .slice A1 x.dn c1, .string x.tg], .agg #[.int .i64 x.ep, .bool x.th, .int .i64 x.kd, .int .i64 x.lv, .int .i64 x.nd, .slice A2 x.dn c2, .string x.tg]] w fun e w' => e = .returned (.bool true) ∧ Below w.heap.size w w' := by
  obtain ⟨W1, hW1⟩ : ∃ W1, W1 = w.alloc (.cells #[.int .i64 x.ep, .bool x.th, .int .i64 x.kd, .int .i64 x.lv, .int .i64 x.nd, .slice A1 x.dn c1, .string x.tg] 50) := ⟨_, rfl⟩
  obtain ⟨W2, hW2⟩ : ∃ W2, W2 = W1.alloc (.cells #[.int .i64 x.ep, .bool x.th, .int .i64 x.kd, .int .i64 x.lv, .int .i64 x.nd, .slice A2 x.dn c2, .string x.tg] 50) := ⟨_, rfl⟩
  have hb1 : Below w.heap.size w W1 := by rw [hW1]; exact (Below.refl _ _).alloc (Nat.le_refl _) _
  have hb2 : Below W1.heap.size W1 W2 := by rw [hW2]; exact (Below.refl _ _).alloc (Nat.le_refl _) _
  have hz1 : W1.heap.size = w.heap.size + 1 := by rw [hW1]; simp
  have k1 : W1.heap[w.heap.size]? = some (.cells #[.int .i64 x.ep, .bool x.th, .int .i64 x.kd, .int .i64 x.lv, .int .i64 x.nd, .slice A1 x.dn c1, .string x.tg] 50 (0, 0)) := by rw [hW1]; exact heap_alloc_new w _
  have k2 : W2.heap[w.heap.size + 1]? = some (.cells #[.int .i64 x.ep, .bool x.th, .int .i64 x.kd, .int .i64 x.lv, .int .i64 x.nd, .slice A2 x.dn c2, .string x.tg] 50 (0, 0)) := by rw [hW2, ← hz1]; exact heap_alloc_new W1 _
  have k12 := (hb2.block _ (lt_of_some k1)).trans k1
  have hb := hb1.trans (hb2.mono hb1.size)
  have HS1 := Lib.hid (h1.later hb)
  have HS2 := Lib.hid (h2.later hb)
  have q0 := cell_of_blk k12 0
  have z0 := cell_of_blk k2 0
  have q1 := cell_of_blk k12 1
  have z1 := cell_of_blk k2 1
  have q2 := cell_of_blk k12 2
  have z2 := cell_of_blk k2 2
  have q3 := cell_of_blk k12 3
  have z3 := cell_of_blk k2 3
  have q4 := cell_of_blk k12 4
  have z4 := cell_of_blk k2 4
  have q5 := cell_of_blk k12 5
  have z5 := cell_of_blk k2 5
  have q6 := cell_of_blk k12 6
  have z6 := cell_of_blk k2 6
  have hn : x.dn = P.length := h1.1
  have HN := Lib.hid hn
  have HB := Lib.hid hb
  have HW1 := Lib.hid hW1
  have HW2 := Lib.hid hW2
  obtain ⟨n, hnn⟩ : ∃ n, n = x.dn := ⟨_, rfl⟩
  have HNN := Lib.hid hnn
  have hnl : n ≤ 1000 := by omega
  rw [← hnn] at q5 z5
  clear hW1 hW2 hb1 hb2 hz1 k1 k2 k12 hb h1 h2 hn hP hnn
  go_enter Try.func21, Try.ntmps21
  go_upto_region 1 with fail
  rw [← HW1.out, ← HW2.out]
  go_wp2_with fail
  go_loopw [58] (fun v wr => ∃ j m : Nat, v = .int .i64 (j : Int) ∧ j ≤ n ∧ wr = W2.drewN m) (fun v _ => n - (intOf v).toNat)
  case atStart => exact ⟨0, 0, rfl, Nat.zero_le _, rfl⟩
  case round =>
    obtain ⟨j, m, rfl, hj, rfl⟩ := hrel
    have j0 : (0 : Int) ≤ (j : Int) := by omega
    by_cases hjn : j < n
    · have j1 : (j : Int) < (n : Int) := by omega
      obtain ⟨p, hp⟩ : ∃ p, P[j]? = some p := ⟨_, List.getElem?_eq_getElem (by have := HN.out; have := HNN.out; omega)⟩
      obtain ⟨b1, o1, hA1, _, _, s0, s1⟩ := HS1.out.at hp
      obtain ⟨b2, o2, hA2, _, _, t0, t1⟩ := HS2.out.at hp
      subst hA1 hA2
      clear hp
      go_wp2_with fail
      go_quiet (fail)
      go_wp2_with fail
      go_roundw
      case rel => exact ⟨j + 1, _, by go_num, by omega, rfl⟩
      case measure => simp [intOf]; omega
    · go_wp2_with fail
      go_ret
      exact ⟨rfl, HB.out.trans ((below_drewN _ _).mono HB.out.size)⟩
end Go.Proofs.Ythhcbmljckgncaa.dca
