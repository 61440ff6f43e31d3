/- A result's box; what union's Is, Follows and Check answer. No condition. What union's size, readlink, readAt and Finish answer. Conditions: what At, ID and the branch answer. What union's Finish answers. Conditions: what At, ID and the branch answer. -/
import Derived.Test.YtkbhcncbpiimdaaGreatDoorJXJ
import Derived.Test.YtkbhcncbpiimdaaGreatDoorJXA
namespace Go.Proofs.YtkbhcncbpiimdaaGreatDoor.uni
set_option maxRecDepth 100000
open Go.RowKit Go.Proofs.YtkbhcncbpiimdaaGreatDoor.words Go.Proofs.YtkbhcncbpiimdaaGreatDoor.ext Go.Proofs.YtkbhcncbpiimdaaGreatDoor.name Go.Proofs.YtkbhcncbpiimdaaGreatDoor.tre Go.Proofs.YtkbhcncbpiimdaaGreatDoor.stk Go.Proofs.YtkbhcncbpiimdaaGreatDoor.seen Go.Proofs.YtkbhcncbpiimdaaGreatDoor.wlk

def bx8 (u0 u1 u2 u3 u4 u5 u6 u7 : Value) : Obj := .cells #[u0, u1, u2, u3, u4, u5, u6, u7] 44 (0, 0)
def zx8 : Obj := bx8 (.int .i64 0) (.int .i64 0) (.int .i64 0) (.int .i64 0) (.int .i64 0) (.string ⟨#[]⟩) (.slice none 0 0) (.bool false)
def set8 (w : World) (g : Nat) (u0 u1 u2 u3 u4 u5 u6 u7 : Value) : World := (((((((w.setCell ⟨g, 0, none⟩ u0).setCell ⟨g, 1, none⟩ u1).setCell ⟨g, 2, none⟩ u2).setCell ⟨g, 3, none⟩ u3).setCell ⟨g, 4, none⟩ u4).setCell ⟨g, 5, none⟩ u5).setCell ⟨g, 6, none⟩ u6).setCell ⟨g, 7, none⟩ u7
theorem over8 {w : World} {g : Nat} {T : TypeId} {c0 c1 c2 c3 c4 c5 c6 c7 u0 u1 u2 u3 u4 u5 u6 u7 : Value} (h : w.heap[g]? = some (.cells #[c0, c1, c2, c3, c4, c5, c6, c7] T (0, 0))) : (set8 w g u0 u1 u2 u3 u4 u5 u6 u7).heap[g]? = some (.cells #[u0, u1, u2, u3, u4, u5, u6, u7] T (0, 0)) := by
  simp [set8, World.setCell, Array.getElem?_modify, h]
theorem below8 {B g : Nat} {a b : World} (h : Below B a b) (hg : B ≤ g) (u0 u1 u2 u3 u4 u5 u6 u7 : Value) : Below B a (set8 b g u0 u1 u2 u3 u4 u5 u6 u7) := (((((((h.setCell (p := ⟨g, 0, none⟩) hg u0).setCell (p := ⟨g, 1, none⟩) hg u1).setCell (p := ⟨g, 2, none⟩) hg u2).setCell (p := ⟨g, 3, none⟩) hg u3).setCell (p := ⟨g, 4, none⟩) hg u4).setCell (p := ⟨g, 5, none⟩) hg u5).setCell (p := ⟨g, 6, none⟩) hg u6).setCell (p := ⟨g, 7, none⟩) hg u7
def opV (k : Int) (p : ByteArray) (o n i : Int) (g : ByteArray) : Value := .agg #[.int .i64 k, .string p, .int .i64 o, .int .i64 n, .int .i64 i, .string g]
/-! Is, Follows, Check -/
def badB (k o n : Int) : Bool := (k == 4 && (decide (o < 0) || decide (n < 0))) || (k == 6 && decide (n < 1))
def chkI (k o n : Int) : Int := if badB k o n = true then 1 else 0
set_option maxHeartbeats 1600000 in
theorem chk_any (k : Int) (p : ByteArray) (o n i : Int) (g : ByteArray) (w : World) : Calls Tryz.prog 19 #[opV k p o n i g] w fun e w' => e = .returned (.int .i64 (chkI k o n)) ∧ Below w.heap.size w w' := by
  by_cases h4 : k = 4
  · subst h4
    by_cases ho : o < 0
    · have HV : Hid (chkI 4 o n = 1) := Lib.hid (by unfold chkI badB; simp [ho])
      obtain ⟨W1, hW1⟩ : ∃ W1, W1 = w.alloc (.cells #[.int .i64 4, .string p, .int .i64 o, .int .i64 n, .int .i64 i, .string g] 47) := ⟨_, rfl⟩
      have hb1 : Below w.heap.size w W1 := by rw [hW1]; exact (Below.refl _ _).alloc (Nat.le_refl _) _
      have hc1 : W1.heap[w.heap.size]? = some (.cells #[.int .i64 4, .string p, .int .i64 o, .int .i64 n, .int .i64 i, .string g] 47 (0, 0)) := by rw [hW1]; exact heap_alloc_new w _
      have q0 := cell_of_blk hc1 0
      have q2 := cell_of_blk hc1 2
      have q3 := cell_of_blk hc1 3
      have HB := Lib.hid hb1
      have HW := Lib.hid hW1
      clear hW1 hb1 hc1
      unfold opV
      go_enter Tryz.func19, Tryz.ntmps19
      go_upto_region 1 with fail
      rw [← HW.out]
      clear HW
      go_wp2_with fail
      go_ret
      exact ⟨by rw [HV.out]; rfl, HB.out⟩
    by_cases hn : n < 0
    · have HV : Hid (chkI 4 o n = 1) := Lib.hid (by unfold chkI badB; simp [hn])
      obtain ⟨W1, hW1⟩ : ∃ W1, W1 = w.alloc (.cells #[.int .i64 4, .string p, .int .i64 o, .int .i64 n, .int .i64 i, .string g] 47) := ⟨_, rfl⟩
      have hb1 : Below w.heap.size w W1 := by rw [hW1]; exact (Below.refl _ _).alloc (Nat.le_refl _) _
      have hc1 : W1.heap[w.heap.size]? = some (.cells #[.int .i64 4, .string p, .int .i64 o, .int .i64 n, .int .i64 i, .string g] 47 (0, 0)) := by rw [hW1]; exact heap_alloc_new w _
      have q0 := cell_of_blk hc1 0
      have q2 := cell_of_blk hc1 2
      have q3 := cell_of_blk hc1 3
      have HB := Lib.hid hb1
      have HW := Lib.hid hW1
      clear hW1 hb1 hc1
      unfold opV
      go_enter Tryz.func19, Tryz.ntmps19
      go_upto_region 1 with fail
      rw [← HW.out]
      clear HW
      go_wp2_with fail
      go_ret
      exact ⟨by rw [HV.out]; rfl, HB.out⟩
    have HV : Hid (chkI 4 o n = 0) := Lib.hid (by unfold chkI badB; simp [ho, hn])
    obtain ⟨W1, hW1⟩ : ∃ W1, W1 = w.alloc (.cells #[.int .i64 4, .string p, .int .i64 o, .int .i64 n, .int .i64 i, .string g] 47) := ⟨_, rfl⟩
    have hb1 : Below w.heap.size w W1 := by rw [hW1]; exact (Below.refl _ _).alloc (Nat.le_refl _) _
    have hc1 : W1.heap[w.heap.size]? = some (.cells #[.int .i64 4, .string p, .int .i64 o, .int .i64 n, .int .i64 i, .string g] 47 (0, 0)) := by rw [hW1]; exact heap_alloc_new w _
    have q0 := cell_of_blk hc1 0
    have q2 := cell_of_blk hc1 2
    have q3 := cell_of_blk hc1 3
    have HB := Lib.hid hb1
    have HW := Lib.hid hW1
    clear hW1 hb1 hc1
    unfold opV
    go_enter Tryz.func19, Tryz.ntmps19
    go_upto_region 1 with fail
    rw [← HW.out]
    clear HW
    go_wp2_with fail
    go_ret
    exact ⟨by rw [HV.out]; rfl, HB.out⟩
  have g4 : (k == 4) = false := by rw [beq_eq_false_iff_ne]; exact h4
  by_cases h6 : k = 6
  · subst h6
    clear g4 h4
    by_cases hn : n < 1
    · have HV : Hid (chkI 6 o n = 1) := Lib.hid (by unfold chkI badB; simp [hn])
      obtain ⟨W1, hW1⟩ : ∃ W1, W1 = w.alloc (.cells #[.int .i64 6, .string p, .int .i64 o, .int .i64 n, .int .i64 i, .string g] 47) := ⟨_, rfl⟩
      have hb1 : Below w.heap.size w W1 := by rw [hW1]; exact (Below.refl _ _).alloc (Nat.le_refl _) _
      have hc1 : W1.heap[w.heap.size]? = some (.cells #[.int .i64 6, .string p, .int .i64 o, .int .i64 n, .int .i64 i, .string g] 47 (0, 0)) := by rw [hW1]; exact heap_alloc_new w _
      have q0 := cell_of_blk hc1 0
      have q2 := cell_of_blk hc1 2
      have q3 := cell_of_blk hc1 3
      have HB := Lib.hid hb1
      have HW := Lib.hid hW1
      clear hW1 hb1 hc1
      unfold opV
      go_enter Tryz.func19, Tryz.ntmps19
      go_upto_region 1 with fail
      rw [← HW.out]
      clear HW
      go_wp2_with fail
      go_ret
      exact ⟨by rw [HV.out]; rfl, HB.out⟩
    have HV : Hid (chkI 6 o n = 0) := Lib.hid (by unfold chkI badB; simp [hn])
    obtain ⟨W1, hW1⟩ : ∃ W1, W1 = w.alloc (.cells #[.int .i64 6, .string p, .int .i64 o, .int .i64 n, .int .i64 i, .string g] 47) := ⟨_, rfl⟩
    have hb1 : Below w.heap.size w W1 := by rw [hW1]; exact (Below.refl _ _).alloc (Nat.le_refl _) _
    have hc1 : W1.heap[w.heap.size]? = some (.cells #[.int .i64 6, .string p, .int .i64 o, .int .i64 n, .int .i64 i, .string g] 47 (0, 0)) := by rw [hW1]; exact heap_alloc_new w _
    have q0 := cell_of_blk hc1 0
    have q2 := cell_of_blk hc1 2
    have q3 := cell_of_blk hc1 3
    have HB := Lib.hid hb1
    have HW := Lib.hid hW1
    clear hW1 hb1 hc1
    unfold opV
    go_enter Tryz.func19, Tryz.ntmps19
    go_upto_region 1 with fail
    rw [← HW.out]
    clear HW
    go_wp2_with fail
    go_ret
    exact ⟨by rw [HV.out]; rfl, HB.out⟩
  have g6 : (k == 6) = false := by rw [beq_eq_false_iff_ne]; exact h6
  · have HV : Hid (chkI k o n = 0) := Lib.hid (by unfold chkI badB; simp [h4, h6])
    clear h4 h6
    obtain ⟨W1, hW1⟩ : ∃ W1, W1 = w.alloc (.cells #[.int .i64 k, .string p, .int .i64 o, .int .i64 n, .int .i64 i, .string g] 47) := ⟨_, rfl⟩
    have hb1 : Below w.heap.size w W1 := by rw [hW1]; exact (Below.refl _ _).alloc (Nat.le_refl _) _
    have hc1 : W1.heap[w.heap.size]? = some (.cells #[.int .i64 k, .string p, .int .i64 o, .int .i64 n, .int .i64 i, .string g] 47 (0, 0)) := by rw [hW1]; exact heap_alloc_new w _
    have q0 := cell_of_blk hc1 0
    have q2 := cell_of_blk hc1 2
    have q3 := cell_of_blk hc1 3
    have HB := Lib.hid hb1
    have HW := Lib.hid hW1
    clear hW1 hb1 hc1
    unfold opV
    go_enter Tryz.func19, Tryz.ntmps19
    go_upto_region 1 with fail
    rw [← HW.out]
    clear HW
    go_wp2_with fail
    go_ret
    exact ⟨by rw [HV.out]; rfl, HB.out⟩
end Go.Proofs.YtkbhcncbpiimdaaGreatDoor.uni

namespace Go.Proofs.YtkbhcncbpiimdaaGreatDoor.uni
set_option maxRecDepth 100000
open Go.RowKit Go.Proofs.YtkbhcncbpiimdaaGreatDoor.words Go.Proofs.YtkbhcncbpiimdaaGreatDoor.ext Go.Proofs.YtkbhcncbpiimdaaGreatDoor.name Go.Proofs.YtkbhcncbpiimdaaGreatDoor.tre Go.Proofs.YtkbhcncbpiimdaaGreatDoor.stk Go.Proofs.YtkbhcncbpiimdaaGreatDoor.seen Go.Proofs.YtkbhcncbpiimdaaGreatDoor.wlk

theorem two_boxes (w : World) (a b : Obj) : ∃ (g1 : Nat) (W : World), (w.alloc a).alloc b = W ∧ w.heap.size + 1 = g1 ∧ W.heap[w.heap.size]? = some a ∧ W.heap[g1]? = some b ∧ Below w.heap.size w W ∧ w.heap.size ≤ g1 := by
  have hb1 : Below w.heap.size w (w.alloc a) := (Below.refl _ _).alloc (Nat.le_refl _) _
  have hb2 : Below (w.alloc a).heap.size (w.alloc a) ((w.alloc a).alloc b) := (Below.refl _ _).alloc (Nat.le_refl _) _
  have h1 : (w.alloc a).heap[w.heap.size]? = some a := heap_alloc_new w _
  refine ⟨_, _, rfl, rfl, (hb2.block _ (lt_of_some h1)).trans h1, ?_, hb1.trans (hb2.mono hb1.size), by omega⟩
  rw [← World.size_alloc w a]
  exact heap_alloc_new _ _
def AtC (A : Option Addr) (n c : Nat) (ad l : Int) (v : Option Addr) (w : World) : Prop := ∀ w' : World, Below w.heap.size w w' → Calls Tryz.prog 100 #[.agg #[.slice A n c, .int .i64 ad], .int .i64 l] w' fun e w'' => e = .returned (.pointer v) ∧ Below w'.heap.size w' w''
def NodeC (y : Nat) (i : Int) (d : Nd) (w : World) : Prop := ∀ w' : World, Below w.heap.size w w' →
  (Calls Tryz.prog 103 #[.pointer (some ⟨y, 0, none⟩), .int .i64 i] w' fun e w'' => e = .returned (.int .i64 d.S) ∧ Below w'.heap.size w' w'') ∧
  (Calls Tryz.prog 101 #[.pointer (some ⟨y, 0, none⟩), .int .i64 i] w' fun e w'' => e = .returned (.string d.T) ∧ Below w'.heap.size w' w'') ∧
  (∀ off n : Int, -9223372036854775808 ≤ off → off ≤ 9223372036854775807 → -9223372036854775808 ≤ n → n ≤ 9223372036854775807 → Calls Tryz.prog 104 #[.pointer (some ⟨y, 0, none⟩), .int .i64 i, .int .i64 off, .int .i64 n] w' (Reads (readB d.S d.E off n) w'))
theorem AtC.later {A : Option Addr} {n c : Nat} {ad l : Int} {v : Option Addr} {w w' : World} (h : AtC A n c ad l v w) (hb : Below w.heap.size w w') : AtC A n c ad l v w' := fun w2 h2 => h w2 (hb.trans (h2.mono hb.size))
theorem NodeC.later {y : Nat} {i : Int} {d : Nd} {w w' : World} (h : NodeC y i d w) (hb : Below w.heap.size w w') : NodeC y i d w' := fun w2 h2 => h w2 (hb.trans (h2.mono hb.size))
def tgA (S : ByteArray) (K l i : Int) (Aq : Option Addr) (nq cq : Nat) : Value := .agg #[.string S, .int .i64 K, .int .i64 l, .int .i64 i, .slice Aq nq cq]
theorem size_yes (A : Option Addr) (n c : Nat) (ad : Int) (S : ByteArray) (K l i : Int) (Aq : Option Addr) (nq cq : Nat) (w : World) (y : Nat) (d : Nd) (hA : AtC A n c ad l (some ⟨y, 0, none⟩) w) (hN : NodeC y i d w) :
    Calls Tryz.prog 53 #[stkV A n c ad, tgA S K l i Aq nq cq] w fun e w' => e = .returned (.int .i64 d.S) ∧ Below w.heap.size w w' := by
  obtain ⟨g1, W1, hW1, eg1, hxs, hxt, hb1, lg1⟩ := two_boxes w (.cells #[.slice A n c, .int .i64 ad] 27) (.cells #[.string S, .int .i64 K, .int .i64 l, .int .i64 i, .slice Aq nq cq] 58)
  have HXs := Lib.hid hxs
  have HXt := Lib.hid hxt
  have HB1 := Lib.hid hb1
  have HW1 := Lib.hid hW1
  have HEg1 := Lib.hid eg1
  have HLg1 := Lib.hid lg1
  clear hW1 hb1 hxs hxt eg1 lg1
  have HA := Lib.hid (hA _ HB1.out)
  have HN := Lib.hid (hN.later HB1.out)
  clear hA hN
  unfold stkV tgA
  have es := HXs.out
  have xs0 := cell_of_blk es 0
  have xs1 := cell_of_blk es 1
  clear es
  have et := HXt.out
  have xt2 := cell_of_blk et 2
  clear et
  go_enter Tryz.func53, Tryz.ntmps53
  go_upto_region 1 with fail
  rw [HW1.out]
  simp only [HEg1.out]
  clear HW1 HEg1
  go_wp2_with fail
  refine HA.out.mono ?_
  rintro e w2 ⟨rfl, hb2⟩
  have HB2 := Lib.hid hb2
  clear hb2 HA xs0 xs1 xt2
  have et := ((HB2.out.block _ (lt_of_some HXt.out)).trans HXt.out)
  have xt3 := cell_of_blk et 3
  clear et
  have HZ := Lib.hid (HN.out _ HB2.out).1
  go_wp2_with fail
  refine HZ.out.mono ?_
  rintro e w3 ⟨rfl, hb3⟩
  have HF := Lib.hid (HB1.out.trans ((HB2.out.trans (hb3.mono HB2.out.size)).mono HB1.out.size))
  clear hb3 HZ
  go_wp2_with fail
  go_ret
  exact ⟨rfl, HF.out⟩
theorem size_no (A : Option Addr) (n c : Nat) (ad : Int) (S : ByteArray) (K l i : Int) (Aq : Option Addr) (nq cq : Nat) (w : World) (hA : AtC A n c ad l (none) w) :
    Calls Tryz.prog 53 #[stkV A n c ad, tgA S K l i Aq nq cq] w fun e w' => e = .returned (.int .i64 0) ∧ Below w.heap.size w w' := by
  obtain ⟨g1, W1, hW1, eg1, hxs, hxt, hb1, lg1⟩ := two_boxes w (.cells #[.slice A n c, .int .i64 ad] 27) (.cells #[.string S, .int .i64 K, .int .i64 l, .int .i64 i, .slice Aq nq cq] 58)
  have HXs := Lib.hid hxs
  have HXt := Lib.hid hxt
  have HB1 := Lib.hid hb1
  have HW1 := Lib.hid hW1
  have HEg1 := Lib.hid eg1
  have HLg1 := Lib.hid lg1
  clear hW1 hb1 hxs hxt eg1 lg1
  have HA := Lib.hid (hA _ HB1.out)
  clear hA
  unfold stkV tgA
  have es := HXs.out
  have xs0 := cell_of_blk es 0
  have xs1 := cell_of_blk es 1
  clear es
  have et := HXt.out
  have xt2 := cell_of_blk et 2
  clear et
  go_enter Tryz.func53, Tryz.ntmps53
  go_upto_region 1 with fail
  rw [HW1.out]
  simp only [HEg1.out]
  clear HW1 HEg1
  go_wp2_with fail
  refine HA.out.mono ?_
  rintro e w2 ⟨rfl, hb2⟩
  have HB2 := Lib.hid hb2
  clear hb2 HA xs0 xs1 xt2
  have HF := Lib.hid (HB1.out.trans (HB2.out.mono HB1.out.size))
  go_wp2_with fail
  go_ret
  exact ⟨rfl, HF.out⟩
end Go.Proofs.YtkbhcncbpiimdaaGreatDoor.uni

namespace Go.Proofs.YtkbhcncbpiimdaaGreatDoor.uni
set_option maxRecDepth 100000
open Go.RowKit Go.Proofs.YtkbhcncbpiimdaaGreatDoor.words Go.Proofs.YtkbhcncbpiimdaaGreatDoor.ext Go.Proofs.YtkbhcncbpiimdaaGreatDoor.name Go.Proofs.YtkbhcncbpiimdaaGreatDoor.tre Go.Proofs.YtkbhcncbpiimdaaGreatDoor.stk Go.Proofs.YtkbhcncbpiimdaaGreatDoor.seen Go.Proofs.YtkbhcncbpiimdaaGreatDoor.wlk

end Go.Proofs.YtkbhcncbpiimdaaGreatDoor.uni
