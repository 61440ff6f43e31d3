/- A result's box; what union's Is, Follows and Check answer. No condition. What union's size, readlink, readAt and Finish answer. Conditions: what At, ID and the branch answer. What union's Finish answers. Conditions: what At, ID and the branch answer. -/
import Derived.Test.YtkbhcncbpiimdaaGreatDoorJXJ
import Derived.Test.YtkbhcncbpiimdaaGreatDoorJXA
namespace Go.Proofs.YtkbhcncbpiimdaaGreatDoor.uni
set_option maxRecDepth 100000
open Go.RowKit Go.Proofs.YtkbhcncbpiimdaaGreatDoor.words Go.Proofs.YtkbhcncbpiimdaaGreatDoor.ext Go.Proofs.YtkbhcncbpiimdaaGreatDoor.name Go.Proofs.YtkbhcncbpiimdaaGreatDoor.tre Go.Proofs.YtkbhcncbpiimdaaGreatDoor.stk Go.Proofs.YtkbhcncbpiimdaaGreatDoor.seen Go.Proofs.YtkbhcncbpiimdaaGreatDoor.wlk

def bx8 (u0 u1 u2 u3 u4 u5 u6 u7 : Value) : Obj := .cells #[u0, u1, u2, u3, u4, u5, u6, u7] 44 (0, 0)
def zx8 : Obj := bx8 (.int .i64 0) (.int .i64 0) (.int .i64 0) (.int .i64 0) (.int .i64 0) (.string ⟨#[]⟩) (.slice none 0 0) (.bool false)
def set8 (w : World) (g : Nat) (u0 u1 u2 u3 u4 u5 u6 u7 : Value) : World := (((((((w.setCell ⟨g, 0, none⟩ u0).setCell ⟨g, 1, none⟩ u1).setCell ⟨g, 2, none⟩ u2).setCell ⟨g, 3, none⟩ u3).setCell ⟨g, 4, none⟩ u4).setCell ⟨g, 5, none⟩ u5).setCell ⟨g, 6, none⟩ u6).setCell ⟨g, 7, none⟩ u7
theorem over8 {w : World} {g : Nat} {T : TypeId} {c0 c1 c2 c3 c4 c5 c6 c7 u0 u1 u2 u3 u4 u5 u6 u7 : Value} (h : w.heap[g]? = some (.cells #[c0, c1, c2, c3, c4, c5, c6, c7] T (0, 0))) : (set8 w g u0 u1 u2 u3 u4 u5 u6 u7).heap[g]? = some (.cells #[u0, u1, u2, u3, u4, u5, u6, u7] T (0, 0)) := by
  simp [set8, World.setCell, Array.getElem?_modify, h]
theorem below8 {B g : Nat} {a b : World} (h : Below B a b) (hg : B ≤ g) (u0 u1 u2 u3 u4 u5 u6 u7 : Value) : Below B a (set8 b g u0 u1 u2 u3 u4 u5 u6 u7) := (((((((h.setCell (p := ⟨g, 0, none⟩) hg u0).setCell (p := ⟨g, 1, none⟩) hg u1).setCell (p := ⟨g, 2, none⟩) hg u2).setCell (p := ⟨g, 3, none⟩) hg u3).setCell (p := ⟨g, 4, none⟩) hg u4).setCell (p := ⟨g, 5, none⟩) hg u5).setCell (p := ⟨g, 6, none⟩) hg u6).setCell (p := ⟨g, 7, none⟩) hg u7
/-- A result as a value. -/
def resV (e k z wh : Int) (x : ByteArray) : Value := .agg #[.int .i64 e, .int .i64 k, .int .i64 z, .int .i64 wh, .int .i64 0, .string x, .slice none 0 0, .bool false]
/-- A call as a value. -/
def opV (k : Int) (p : ByteArray) (o n i : Int) (g : ByteArray) : Value := .agg #[.int .i64 k, .string p, .int .i64 o, .int .i64 n, .int .i64 i, .string g]
/-- A result is put into its box. -/
theorem put8 {a w3 : World} {B rb : Nat} (hB : B ≤ rb) (hx : w3.heap[rb]? = some zx8) (hb : Below B a w3) (e k z wh : Int) (x : ByteArray) :
    ∀ w4, w4 = set8 w3 rb (.int .i64 e) (.int .i64 k) (.int .i64 z) (.int .i64 wh) (.int .i64 0) (.string x) (.slice none 0 0) (.bool false) → w4.cell? ⟨rb, 0, none⟩ = some (.int .i64 e) ∧ w4.cell? ⟨rb, 1, none⟩ = some (.int .i64 k) ∧ w4.cell? ⟨rb, 2, none⟩ = some (.int .i64 z) ∧ w4.cell? ⟨rb, 3, none⟩ = some (.int .i64 wh) ∧
      w4.cell? ⟨rb, 4, none⟩ = some (.int .i64 0) ∧ w4.cell? ⟨rb, 5, none⟩ = some (.string x) ∧ w4.cell? ⟨rb, 6, none⟩ = some (.slice none 0 0) ∧ w4.cell? ⟨rb, 7, none⟩ = some (.bool false) ∧ Below B a w4 := fun w4 hw => by
  have ho := over8 (u0 := .int .i64 e) (u1 := .int .i64 k) (u2 := .int .i64 z) (u3 := .int .i64 wh) (u4 := .int .i64 0) (u5 := .string x) (u6 := .slice none 0 0) (u7 := .bool false) hx
  have hbd := below8 hb hB (.int .i64 e) (.int .i64 k) (.int .i64 z) (.int .i64 wh) (.int .i64 0) (.string x) (.slice none 0 0) (.bool false)
  rw [← hw] at ho hbd
  exact ⟨cell_of_blk ho 0, cell_of_blk ho 1, cell_of_blk ho 2, cell_of_blk ho 3, cell_of_blk ho 4, cell_of_blk ho 5, cell_of_blk ho 6, cell_of_blk ho 7, hbd⟩
/-! Is, Follows, Check -/
def isB (k : Int) : Bool := k == 1 || k == 2 || k == 3 || k == 4
def folB (k : Int) : Bool := k == 2 || k == 4 || k == 5
def badB (k o n : Int) : Bool := (k == 4 && (decide (o < 0) || decide (n < 0))) || (k == 6 && decide (n < 1))
def chkI (k o n : Int) : Int := if badB k o n = true then 1 else 0
theorem is_any (k : Int) (w : World) : Calls Tryz.prog 17 #[.int .i64 k] w fun e w' => e = .returned (.bool (isB k)) ∧ w' = w := by
  by_cases h1 : k = 1
  · subst h1
    go_enter Tryz.func17, Tryz.ntmps17
    go_wp2_with fail
    go_ret
    exact ⟨rfl, rfl⟩
  have g1 : (k == 1) = false := by rw [beq_eq_false_iff_ne]; exact h1
  by_cases h2 : k = 2
  · subst h2
    go_enter Tryz.func17, Tryz.ntmps17
    go_wp2_with fail
    go_ret
    exact ⟨rfl, rfl⟩
  have g2 : (k == 2) = false := by rw [beq_eq_false_iff_ne]; exact h2
  by_cases h3 : k = 3
  · subst h3
    go_enter Tryz.func17, Tryz.ntmps17
    go_wp2_with fail
    go_ret
    exact ⟨rfl, rfl⟩
  have g3 : (k == 3) = false := by rw [beq_eq_false_iff_ne]; exact h3
  by_cases h4 : k = 4
  · subst h4
    go_enter Tryz.func17, Tryz.ntmps17
    go_wp2_with fail
    go_ret
    exact ⟨rfl, rfl⟩
  have g4 : (k == 4) = false := by rw [beq_eq_false_iff_ne]; exact h4
  have HF : Hid (isB k = false) := Lib.hid (by unfold isB; rw [g1, g2, g3, g4]; rfl)
  clear h1 h2 h3 h4
  go_enter Tryz.func17, Tryz.ntmps17
  go_wp2_with fail
  go_ret
  exact ⟨by rw [HF.out]; rfl, rfl⟩
theorem fol_any (k : Int) (w : World) : Calls Tryz.prog 18 #[.int .i64 k] w fun e w' => e = .returned (.bool (folB k)) ∧ w' = w := by
  by_cases h2 : k = 2
  · subst h2
    go_enter Tryz.func18, Tryz.ntmps18
    go_wp2_with fail
    go_ret
    exact ⟨rfl, rfl⟩
  have g2 : (k == 2) = false := by rw [beq_eq_false_iff_ne]; exact h2
  by_cases h4 : k = 4
  · subst h4
    go_enter Tryz.func18, Tryz.ntmps18
    go_wp2_with fail
    go_ret
    exact ⟨rfl, rfl⟩
  have g4 : (k == 4) = false := by rw [beq_eq_false_iff_ne]; exact h4
  by_cases h5 : k = 5
  · subst h5
    go_enter Tryz.func18, Tryz.ntmps18
    go_wp2_with fail
    go_ret
    exact ⟨rfl, rfl⟩
  have g5 : (k == 5) = false := by rw [beq_eq_false_iff_ne]; exact h5
  have HF : Hid (folB k = false) := Lib.hid (by unfold folB; rw [g2, g4, g5]; rfl)
  clear h2 h4 h5
  go_enter Tryz.func18, Tryz.ntmps18
  go_wp2_with fail
  go_ret
  exact ⟨by rw [HF.out]; rfl, rfl⟩
set_option maxHeartbeats 1600000 in
theorem chk_any (k : Int) (p : ByteArray) (o n i : Int) (g : ByteArray) (w : World) : Calls Tryz.prog 19 #[opV k p o n i g] w fun e w' => e = .returned (.int .i64 (chkI k o n)) ∧ Below w.heap.size w w' := by
  by_cases h4 : k = 4
  · subst h4
    by_cases ho : o < 0
    · have HV : Hid (chkI 4 o n = 1) := Lib.hid (by unfold chkI badB; simp [ho])
      obtain ⟨W1, hW1⟩ : ∃ W1, W1 = w.alloc (.cells #[.int .i64 4, .string p, .int .i64 o, .int .i64 n, .int .i64 i, .string g] 47) := ⟨_, rfl⟩
      have hb1 : Below w.heap.size w W1 := by rw [hW1]; exact (Below.refl _ _).alloc (Nat.le_refl _) _
      have hc1 : W1.heap[w.heap.size]? = some (.cells #[.int .i64 4, .string p, .int .i64 o, .int .i64 n, .int .i64 i, .string g] 47 (0, 0)) := by rw [hW1]; exact heap_alloc_new w _
      have q0 := cell_of_blk hc1 0
      have q2 := cell_of_blk hc1 2
      have q3 := cell_of_blk hc1 3
      have HB := Lib.hid hb1
      have HW := Lib.hid hW1
      clear hW1 hb1 hc1
      unfold opV
      go_enter Tryz.func19, Tryz.ntmps19
      go_upto_region 1 with fail
      rw [← HW.out]
      clear HW
      go_wp2_with fail
      go_ret
      exact ⟨by rw [HV.out]; rfl, HB.out⟩
    by_cases hn : n < 0
    · have HV : Hid (chkI 4 o n = 1) := Lib.hid (by unfold chkI badB; simp [hn])
      obtain ⟨W1, hW1⟩ : ∃ W1, W1 = w.alloc (.cells #[.int .i64 4, .string p, .int .i64 o, .int .i64 n, .int .i64 i, .string g] 47) := ⟨_, rfl⟩
      have hb1 : Below w.heap.size w W1 := by rw [hW1]; exact (Below.refl _ _).alloc (Nat.le_refl _) _
      have hc1 : W1.heap[w.heap.size]? = some (.cells #[.int .i64 4, .string p, .int .i64 o, .int .i64 n, .int .i64 i, .string g] 47 (0, 0)) := by rw [hW1]; exact heap_alloc_new w _
      have q0 := cell_of_blk hc1 0
      have q2 := cell_of_blk hc1 2
      have q3 := cell_of_blk hc1 3
      have HB := Lib.hid hb1
      have HW := Lib.hid hW1
      clear hW1 hb1 hc1
      unfold opV
      go_enter Tryz.func19, Tryz.ntmps19
      go_upto_region 1 with fail
      rw [← HW.out]
      clear HW
      go_wp2_with fail
      go_ret
      exact ⟨by rw [HV.out]; rfl, HB.out⟩
    have HV : Hid (chkI 4 o n = 0) := Lib.hid (by unfold chkI badB; simp [ho, hn])
    obtain ⟨W1, hW1⟩ : ∃ W1, W1 = w.alloc (.cells #[.int .i64 4, .string p, .int .i64 o, .int .i64 n, .int .i64 i, .string g] 47) := ⟨_, rfl⟩
    have hb1 : Below w.heap.size w W1 := by rw [hW1]; exact (Below.refl _ _).alloc (Nat.le_refl _) _
    have hc1 : W1.heap[w.heap.size]? = some (.cells #[.int .i64 4, .string p, .int .i64 o, .int .i64 n, .int .i64 i, .string g] 47 (0, 0)) := by rw [hW1]; exact heap_alloc_new w _
    have q0 := cell_of_blk hc1 0
    have q2 := cell_of_blk hc1 2
    have q3 := cell_of_blk hc1 3
    have HB := Lib.hid hb1
    have HW := Lib.hid hW1
    clear hW1 hb1 hc1
    unfold opV
    go_enter Tryz.func19, Tryz.ntmps19
    go_upto_region 1 with fail
    rw [← HW.out]
    clear HW
    go_wp2_with fail
    go_ret
    exact ⟨by rw [HV.out]; rfl, HB.out⟩
  have g4 : (k == 4) = false := by rw [beq_eq_false_iff_ne]; exact h4
  by_cases h6 : k = 6
  · subst h6
    clear g4 h4
    by_cases hn : n < 1
    · have HV : Hid (chkI 6 o n = 1) := Lib.hid (by unfold chkI badB; simp [hn])
      obtain ⟨W1, hW1⟩ : ∃ W1, W1 = w.alloc (.cells #[.int .i64 6, .string p, .int .i64 o, .int .i64 n, .int .i64 i, .string g] 47) := ⟨_, rfl⟩
      have hb1 : Below w.heap.size w W1 := by rw [hW1]; exact (Below.refl _ _).alloc (Nat.le_refl _) _
      have hc1 : W1.heap[w.heap.size]? = some (.cells #[.int .i64 6, .string p, .int .i64 o, .int .i64 n, .int .i64 i, .string g] 47 (0, 0)) := by rw [hW1]; exact heap_alloc_new w _
      have q0 := cell_of_blk hc1 0
      have q2 := cell_of_blk hc1 2
      have q3 := cell_of_blk hc1 3
      have HB := Lib.hid hb1
      have HW := Lib.hid hW1
      clear hW1 hb1 hc1
      unfold opV
      go_enter Tryz.func19, Tryz.ntmps19
      go_upto_region 1 with fail
      rw [← HW.out]
      clear HW
      go_wp2_with fail
      go_ret
      exact ⟨by rw [HV.out]; rfl, HB.out⟩
    have HV : Hid (chkI 6 o n = 0) := Lib.hid (by unfold chkI badB; simp [hn])
    obtain ⟨W1, hW1⟩ : ∃ W1, W1 = w.alloc (.cells #[.int .i64 6, .string p, .int .i64 o, .int .i64 n, .int .i64 i, .string g] 47) := ⟨_, rfl⟩
    have hb1 : Below w.heap.size w W1 := by rw [hW1]; exact (Below.refl _ _).alloc (Nat.le_refl _) _
    have hc1 : W1.heap[w.heap.size]? = some (.cells #[.int .i64 6, .string p, .int .i64 o, .int .i64 n, .int .i64 i, .string g] 47 (0, 0)) := by rw [hW1]; exact heap_alloc_new w _
    have q0 := cell_of_blk hc1 0
    have q2 := cell_of_blk hc1 2
    have q3 := cell_of_blk hc1 3
    have HB := Lib.hid hb1
    have HW := Lib.hid hW1
    clear hW1 hb1 hc1
    unfold opV
    go_enter Tryz.func19, Tryz.ntmps19
    go_upto_region 1 with fail
    rw [← HW.out]
    clear HW
    go_wp2_with fail
    go_ret
    exact ⟨by rw [HV.out]; rfl, HB.out⟩
  have g6 : (k == 6) = false := by rw [beq_eq_false_iff_ne]; exact h6
  · have HV : Hid (chkI k o n = 0) := Lib.hid (by unfold chkI badB; simp [h4, h6])
    clear h4 h6
    obtain ⟨W1, hW1⟩ : ∃ W1, W1 = w.alloc (.cells #[.int .i64 k, .string p, .int .i64 o, .int .i64 n, .int .i64 i, .string g] 47) := ⟨_, rfl⟩
    have hb1 : Below w.heap.size w W1 := by rw [hW1]; exact (Below.refl _ _).alloc (Nat.le_refl _) _
    have hc1 : W1.heap[w.heap.size]? = some (.cells #[.int .i64 k, .string p, .int .i64 o, .int .i64 n, .int .i64 i, .string g] 47 (0, 0)) := by rw [hW1]; exact heap_alloc_new w _
    have q0 := cell_of_blk hc1 0
    have q2 := cell_of_blk hc1 2
    have q3 := cell_of_blk hc1 3
    have HB := Lib.hid hb1
    have HW := Lib.hid hW1
    clear hW1 hb1 hc1
    unfold opV
    go_enter Tryz.func19, Tryz.ntmps19
    go_upto_region 1 with fail
    rw [← HW.out]
    clear HW
    go_wp2_with fail
    go_ret
    exact ⟨by rw [HV.out]; rfl, HB.out⟩
end Go.Proofs.YtkbhcncbpiimdaaGreatDoor.uni

namespace Go.Proofs.YtkbhcncbpiimdaaGreatDoor.uni
set_option maxRecDepth 100000
open Go.RowKit Go.Proofs.YtkbhcncbpiimdaaGreatDoor.words Go.Proofs.YtkbhcncbpiimdaaGreatDoor.ext Go.Proofs.YtkbhcncbpiimdaaGreatDoor.name Go.Proofs.YtkbhcncbpiimdaaGreatDoor.tre Go.Proofs.YtkbhcncbpiimdaaGreatDoor.stk Go.Proofs.YtkbhcncbpiimdaaGreatDoor.seen Go.Proofs.YtkbhcncbpiimdaaGreatDoor.wlk

theorem two_boxes (w : World) (a b : Obj) : ∃ (g1 : Nat) (W : World), (w.alloc a).alloc b = W ∧ w.heap.size + 1 = g1 ∧ W.heap[w.heap.size]? = some a ∧ W.heap[g1]? = some b ∧ Below w.heap.size w W ∧ w.heap.size ≤ g1 := by
  have hb1 : Below w.heap.size w (w.alloc a) := (Below.refl _ _).alloc (Nat.le_refl _) _
  have hb2 : Below (w.alloc a).heap.size (w.alloc a) ((w.alloc a).alloc b) := (Below.refl _ _).alloc (Nat.le_refl _) _
  have h1 : (w.alloc a).heap[w.heap.size]? = some a := heap_alloc_new w _
  refine ⟨_, _, rfl, rfl, (hb2.block _ (lt_of_some h1)).trans h1, ?_, hb1.trans (hb2.mono hb1.size), by omega⟩
  rw [← World.size_alloc w a]
  exact heap_alloc_new _ _
theorem three_boxes (w : World) (a b c : Obj) : ∃ (g1 g2 : Nat) (W : World), ((w.alloc a).alloc b).alloc c = W ∧ w.heap.size + 1 = g1 ∧ g1 + 1 = g2 ∧ W.heap[w.heap.size]? = some a ∧ W.heap[g1]? = some b ∧ W.heap[g2]? = some c ∧ Below w.heap.size w W ∧ w.heap.size ≤ g1 ∧ w.heap.size ≤ g2 := by
  obtain ⟨g1, W, hW, eg1, h0, h1, hb, lg1⟩ := two_boxes w a b
  have hb2 : Below W.heap.size W (W.alloc c) := (Below.refl _ _).alloc (Nat.le_refl _) _
  have hz : W.heap.size = g1 + 1 := by
    rw [← hW]
    simp only [World.size_alloc]
    omega
  refine ⟨g1, g1 + 1, W.alloc c, by rw [hW], eg1, rfl, (hb2.block _ (lt_of_some h0)).trans h0, (hb2.block _ (lt_of_some h1)).trans h1, ?_, hb.trans (hb2.mono hb.size), lg1, by omega⟩
  rw [← hz]
  exact heap_alloc_new _ _
theorem four_boxes (w : World) (a b c d : Obj) : ∃ (g1 g2 g3 : Nat) (W : World), (((w.alloc a).alloc b).alloc c).alloc d = W ∧ w.heap.size + 1 = g1 ∧ g1 + 1 = g2 ∧ g2 + 1 = g3 ∧ W.heap[w.heap.size]? = some a ∧ W.heap[g1]? = some b ∧ W.heap[g2]? = some c ∧ W.heap[g3]? = some d ∧ Below w.heap.size w W ∧ w.heap.size ≤ g1 ∧ w.heap.size ≤ g2 ∧ w.heap.size ≤ g3 := by
  obtain ⟨g1, g2, W, hW, eg1, eg2, h0, h1, h2, hb, lg1, lg2⟩ := three_boxes w a b c
  have hb2 : Below W.heap.size W (W.alloc d) := (Below.refl _ _).alloc (Nat.le_refl _) _
  have hz : W.heap.size = g2 + 1 := by
    rw [← hW]
    simp only [World.size_alloc]
    omega
  refine ⟨g1, g2, g2 + 1, W.alloc d, by rw [hW], eg1, eg2, rfl, (hb2.block _ (lt_of_some h0)).trans h0, (hb2.block _ (lt_of_some h1)).trans h1, (hb2.block _ (lt_of_some h2)).trans h2, ?_, hb.trans (hb2.mono hb.size), lg1, lg2, by omega⟩
  rw [← hz]
  exact heap_alloc_new _ _
/-- What At answers, from a world on. -/
def AtC (A : Option Addr) (n c : Nat) (ad l : Int) (v : Option Addr) (w : World) : Prop := ∀ w' : World, Below w.heap.size w w' → Calls Tryz.prog 100 #[.agg #[.slice A n c, .int .i64 ad], .int .i64 l] w' fun e w'' => e = .returned (.pointer v) ∧ Below w'.heap.size w' w''
/-- What ID answers, from a world on. -/
def IdC (A : Option Addr) (n c : Nat) (ad l wh : Int) (w : World) : Prop := ∀ w' : World, Below w.heap.size w w' → Calls Tryz.prog 52 #[.agg #[.slice A n c, .int .i64 ad], .int .i64 l] w' fun e w'' => e = .returned (.int .i64 wh) ∧ Below w'.heap.size w' w''
/-- What the branch answers of a node, from a world on. -/
def NodeC (y : Nat) (i : Int) (d : Nd) (w : World) : Prop := ∀ w' : World, Below w.heap.size w w' →
  (Calls Tryz.prog 103 #[.pointer (some ⟨y, 0, none⟩), .int .i64 i] w' fun e w'' => e = .returned (.int .i64 d.S) ∧ Below w'.heap.size w' w'') ∧
  (Calls Tryz.prog 101 #[.pointer (some ⟨y, 0, none⟩), .int .i64 i] w' fun e w'' => e = .returned (.string d.T) ∧ Below w'.heap.size w' w'') ∧
  (∀ off n : Int, -9223372036854775808 ≤ off → off ≤ 9223372036854775807 → -9223372036854775808 ≤ n → n ≤ 9223372036854775807 → Calls Tryz.prog 104 #[.pointer (some ⟨y, 0, none⟩), .int .i64 i, .int .i64 off, .int .i64 n] w' (Reads (readB d.S d.E off n) w'))
theorem AtC.later {A : Option Addr} {n c : Nat} {ad l : Int} {v : Option Addr} {w w' : World} (h : AtC A n c ad l v w) (hb : Below w.heap.size w w') : AtC A n c ad l v w' := fun w2 h2 => h w2 (hb.trans (h2.mono hb.size))
theorem IdC.later {A : Option Addr} {n c : Nat} {ad l wh : Int} {w w' : World} (h : IdC A n c ad l wh w) (hb : Below w.heap.size w w') : IdC A n c ad l wh w' := fun w2 h2 => h w2 (hb.trans (h2.mono hb.size))
theorem NodeC.later {y : Nat} {i : Int} {d : Nd} {w w' : World} (h : NodeC y i d w) (hb : Below w.heap.size w w') : NodeC y i d w' := fun w2 h2 => h w2 (hb.trans (h2.mono hb.size))
def tgA (S : ByteArray) (K l i : Int) (Aq : Option Addr) (nq cq : Nat) : Value := .agg #[.string S, .int .i64 K, .int .i64 l, .int .i64 i, .slice Aq nq cq]
theorem size_yes (A : Option Addr) (n c : Nat) (ad : Int) (S : ByteArray) (K l i : Int) (Aq : Option Addr) (nq cq : Nat) (w : World) (y : Nat) (d : Nd) (hA : AtC A n c ad l (some ⟨y, 0, none⟩) w) (hN : NodeC y i d w) :
    Calls Tryz.prog 53 #[stkV A n c ad, tgA S K l i Aq nq cq] w fun e w' => e = .returned (.int .i64 d.S) ∧ Below w.heap.size w w' := by
  obtain ⟨g1, W1, hW1, eg1, hxs, hxt, hb1, lg1⟩ := two_boxes w (.cells #[.slice A n c, .int .i64 ad] 27) (.cells #[.string S, .int .i64 K, .int .i64 l, .int .i64 i, .slice Aq nq cq] 58)
  have HXs := Lib.hid hxs
  have HXt := Lib.hid hxt
  have HB1 := Lib.hid hb1
  have HW1 := Lib.hid hW1
  have HEg1 := Lib.hid eg1
  have HLg1 := Lib.hid lg1
  clear hW1 hb1 hxs hxt eg1 lg1
  have HA := Lib.hid (hA _ HB1.out)
  have HN := Lib.hid (hN.later HB1.out)
  clear hA hN
  unfold stkV tgA
  have es := HXs.out
  have xs0 := cell_of_blk es 0
  have xs1 := cell_of_blk es 1
  clear es
  have et := HXt.out
  have xt2 := cell_of_blk et 2
  clear et
  go_enter Tryz.func53, Tryz.ntmps53
  go_upto_region 1 with fail
  rw [HW1.out]
  simp only [HEg1.out]
  clear HW1 HEg1
  go_wp2_with fail
  refine HA.out.mono ?_
  rintro e w2 ⟨rfl, hb2⟩
  have HB2 := Lib.hid hb2
  clear hb2 HA xs0 xs1 xt2
  have et := ((HB2.out.block _ (lt_of_some HXt.out)).trans HXt.out)
  have xt3 := cell_of_blk et 3
  clear et
  have HZ := Lib.hid (HN.out _ HB2.out).1
  go_wp2_with fail
  refine HZ.out.mono ?_
  rintro e w3 ⟨rfl, hb3⟩
  have HF := Lib.hid (HB1.out.trans ((HB2.out.trans (hb3.mono HB2.out.size)).mono HB1.out.size))
  clear hb3 HZ
  go_wp2_with fail
  go_ret
  exact ⟨rfl, HF.out⟩
theorem size_no (A : Option Addr) (n c : Nat) (ad : Int) (S : ByteArray) (K l i : Int) (Aq : Option Addr) (nq cq : Nat) (w : World) (hA : AtC A n c ad l (none) w) :
    Calls Tryz.prog 53 #[stkV A n c ad, tgA S K l i Aq nq cq] w fun e w' => e = .returned (.int .i64 0) ∧ Below w.heap.size w w' := by
  obtain ⟨g1, W1, hW1, eg1, hxs, hxt, hb1, lg1⟩ := two_boxes w (.cells #[.slice A n c, .int .i64 ad] 27) (.cells #[.string S, .int .i64 K, .int .i64 l, .int .i64 i, .slice Aq nq cq] 58)
  have HXs := Lib.hid hxs
  have HXt := Lib.hid hxt
  have HB1 := Lib.hid hb1
  have HW1 := Lib.hid hW1
  have HEg1 := Lib.hid eg1
  have HLg1 := Lib.hid lg1
  clear hW1 hb1 hxs hxt eg1 lg1
  have HA := Lib.hid (hA _ HB1.out)
  clear hA
  unfold stkV tgA
  have es := HXs.out
  have xs0 := cell_of_blk es 0
  have xs1 := cell_of_blk es 1
  clear es
  have et := HXt.out
  have xt2 := cell_of_blk et 2
  clear et
  go_enter Tryz.func53, Tryz.ntmps53
  go_upto_region 1 with fail
  rw [HW1.out]
  simp only [HEg1.out]
  clear HW1 HEg1
  go_wp2_with fail
  refine HA.out.mono ?_
  rintro e w2 ⟨rfl, hb2⟩
  have HB2 := Lib.hid hb2
  clear hb2 HA xs0 xs1 xt2
  have HF := Lib.hid (HB1.out.trans (HB2.out.mono HB1.out.size))
  go_wp2_with fail
  go_ret
  exact ⟨rfl, HF.out⟩
set_option maxHeartbeats 1600000 in
theorem rlink_yes (A : Option Addr) (n c : Nat) (ad : Int) (S : ByteArray) (l i : Int) (Aq : Option Addr) (nq cq : Nat) (w : World) (y : Nat) (d : Nd) (hA : AtC A n c ad l (some ⟨y, 0, none⟩) w) (hN : NodeC y i d w) :
    Calls Tryz.prog 54 #[stkV A n c ad, tgA S 3 l i Aq nq cq] w fun e w' => e = .returned (resV 0 0 0 0 d.T) ∧ Below w.heap.size w w' := by
  obtain ⟨g1, g2, W1, hW1, eg1, eg2, hxs, hxt, hxr, hb1, lg1, lg2⟩ := three_boxes w (.cells #[.slice A n c, .int .i64 ad] 27) (.cells #[.string S, .int .i64 3, .int .i64 l, .int .i64 i, .slice Aq nq cq] 58) (.cells #[.int .i64 0, .int .i64 0, .int .i64 0, .int .i64 0, .int .i64 0, .string ⟨#[]⟩, .slice none 0 0, .bool false] 44)
  have HXs := Lib.hid hxs
  have HXt := Lib.hid hxt
  have HXr := Lib.hid hxr
  have HB1 := Lib.hid hb1
  have HW1 := Lib.hid hW1
  have HEg1 := Lib.hid eg1
  have HLg1 := Lib.hid lg1
  have HEg2 := Lib.hid eg2
  have HLg2 := Lib.hid lg2
  clear hW1 hb1 hxs hxt hxr eg1 eg2 lg1 lg2
  have HA := Lib.hid (hA _ HB1.out)
  have HN := Lib.hid (hN.later HB1.out)
  clear hA hN
  unfold stkV tgA
  have es := HXs.out
  have xs0 := cell_of_blk es 0
  have xs1 := cell_of_blk es 1
  clear es
  have et := HXt.out
  have xt2 := cell_of_blk et 2
  clear et
  go_enter Tryz.func54, Tryz.ntmps54
  go_upto_region 1 with fail
  rw [HW1.out]
  simp only [HEg1.out, HEg2.out]
  clear HW1 HEg1 HEg2
  go_wp2_with fail
  refine HA.out.mono ?_
  rintro e w2 ⟨rfl, hb2⟩
  have HB2 := Lib.hid hb2
  clear hb2 HA xs0 xs1 xt2
  have et := ((HB2.out.block _ (lt_of_some HXt.out)).trans HXt.out)
  have xt1 := cell_of_blk et 1
  have xt3 := cell_of_blk et 3
  clear et
  have HZ := Lib.hid (HN.out _ HB2.out).2.1
  go_wp2_with fail
  refine HZ.out.mono ?_
  rintro e w3 ⟨rfl, hb3⟩
  have HB3 := Lib.hid (HB2.out.trans (hb3.mono HB2.out.size))
  clear hb3 HZ xt1 xt3
  have er := (HB3.out.block _ (lt_of_some HXr.out)).trans HXr.out
  have HPut := Lib.hid (put8 (rb := g2) HLg2.out er (HB1.out.trans (HB3.out.mono HB1.out.size)) 0 0 0 0 d.T)
  have y0 := cell_of_blk er 0
  have z0 := free_of_blk er 0
  have y1 := cell_of_blk er 1
  have z1 := free_of_blk er 1
  have y2 := cell_of_blk er 2
  have z2 := free_of_blk er 2
  have y3 := cell_of_blk er 3
  have z3 := free_of_blk er 3
  have y4 := cell_of_blk er 4
  have z4 := free_of_blk er 4
  have y5 := cell_of_blk er 5
  have z5 := free_of_blk er 5
  have y6 := cell_of_blk er 6
  have z6 := free_of_blk er 6
  have y7 := cell_of_blk er 7
  have z7 := free_of_blk er 7
  clear er
  go_wp2_with fail
  obtain ⟨p0, p1, p2, p3, p4, p5, p6, p7, HE⟩ := HPut.out _ rfl
  unfold set8 at p0 p1 p2 p3 p4 p5 p6 p7 HE
  exact bodyPost_ret (v := resV 0 0 0 0 d.T) (by unfold resV; simp [results, Tryz.results54, go_sem, p0, p1, p2, p3, p4, p5, p6, p7]) rfl ⟨rfl, HE⟩
set_option maxHeartbeats 1600000 in
theorem rlink_no (A : Option Addr) (n c : Nat) (ad : Int) (S : ByteArray) (K l i : Int) (Aq : Option Addr) (nq cq : Nat) (w : World) (v : Option Addr) (hA : AtC A n c ad l v w) (hK : K ≠ 3) :
    Calls Tryz.prog 54 #[stkV A n c ad, tgA S K l i Aq nq cq] w fun e w' => e = .returned (resV 1 0 0 0 ⟨#[]⟩) ∧ Below w.heap.size w w' := by
  obtain ⟨g1, g2, W1, hW1, eg1, eg2, hxs, hxt, hxr, hb1, lg1, lg2⟩ := three_boxes w (.cells #[.slice A n c, .int .i64 ad] 27) (.cells #[.string S, .int .i64 K, .int .i64 l, .int .i64 i, .slice Aq nq cq] 58) (.cells #[.int .i64 0, .int .i64 0, .int .i64 0, .int .i64 0, .int .i64 0, .string ⟨#[]⟩, .slice none 0 0, .bool false] 44)
  have HXs := Lib.hid hxs
  have HXt := Lib.hid hxt
  have HXr := Lib.hid hxr
  have HB1 := Lib.hid hb1
  have HW1 := Lib.hid hW1
  have HEg1 := Lib.hid eg1
  have HLg1 := Lib.hid lg1
  have HEg2 := Lib.hid eg2
  have HLg2 := Lib.hid lg2
  clear hW1 hb1 hxs hxt hxr eg1 eg2 lg1 lg2
  have HA := Lib.hid (hA _ HB1.out)
  have gk : (K != 3) = true := by rw [bne_iff_ne]; exact hK
  clear hA hK
  unfold stkV tgA
  have es := HXs.out
  have xs0 := cell_of_blk es 0
  have xs1 := cell_of_blk es 1
  clear es
  have et := HXt.out
  have xt2 := cell_of_blk et 2
  clear et
  go_enter Tryz.func54, Tryz.ntmps54
  go_upto_region 1 with fail
  rw [HW1.out]
  simp only [HEg1.out, HEg2.out]
  clear HW1 HEg1 HEg2
  go_wp2_with fail
  refine HA.out.mono ?_
  rintro e w2 ⟨rfl, hb2⟩
  have HB2 := Lib.hid hb2
  clear hb2 HA xs0 xs1 xt2
  have et := ((HB2.out.block _ (lt_of_some HXt.out)).trans HXt.out)
  have xt1 := cell_of_blk et 1
  clear et
  have er := (HB2.out.block _ (lt_of_some HXr.out)).trans HXr.out
  have HPut := Lib.hid (put8 (rb := g2) HLg2.out er (HB1.out.trans (HB2.out.mono HB1.out.size)) 1 0 0 0 ⟨#[]⟩)
  have y0 := cell_of_blk er 0
  have z0 := free_of_blk er 0
  have y1 := cell_of_blk er 1
  have z1 := free_of_blk er 1
  have y2 := cell_of_blk er 2
  have z2 := free_of_blk er 2
  have y3 := cell_of_blk er 3
  have z3 := free_of_blk er 3
  have y4 := cell_of_blk er 4
  have z4 := free_of_blk er 4
  have y5 := cell_of_blk er 5
  have z5 := free_of_blk er 5
  have y6 := cell_of_blk er 6
  have z6 := free_of_blk er 6
  have y7 := cell_of_blk er 7
  have z7 := free_of_blk er 7
  clear er
  go_wp2_with fail
  obtain ⟨p0, p1, p2, p3, p4, p5, p6, p7, HE⟩ := HPut.out _ rfl
  unfold set8 at p0 p1 p2 p3 p4 p5 p6 p7 HE
  exact bodyPost_ret (v := resV 1 0 0 0 ⟨#[]⟩) (by unfold resV; simp [results, Tryz.results54, go_sem, p0, p1, p2, p3, p4, p5, p6, p7]) rfl ⟨rfl, HE⟩
set_option maxHeartbeats 1600000 in
theorem rat_yes (A : Option Addr) (n c : Nat) (ad : Int) (k : Int) (p : ByteArray) (o m id : Int) (img : ByteArray) (S : ByteArray) (K l i : Int) (Aq : Option Addr) (nq cq : Nat) (w : World) (y : Nat) (d : Nd) (hA : AtC A n c ad l (some ⟨y, 0, none⟩) w) (hN : NodeC y i d w) (hK : K ≠ 2) (ho1 : -9223372036854775808 ≤ o) (ho2 : o ≤ 9223372036854775807) (hm1 : -9223372036854775808 ≤ m) (hm2 : m ≤ 9223372036854775807) :
    Calls Tryz.prog 55 #[stkV A n c ad, opV k p o m id img, tgA S K l i Aq nq cq] w fun e w' => (∃ x : ByteArray, e = .returned (resV 0 0 0 0 x) ∧ x.data.toList = readB d.S d.E o m) ∧ Below w.heap.size w w' := by
  obtain ⟨g1, g2, g3, W1, hW1, eg1, eg2, eg3, hxs, hxo, hxt, hxr, hb1, lg1, lg2, lg3⟩ := four_boxes w (.cells #[.slice A n c, .int .i64 ad] 27) (.cells #[.int .i64 k, .string p, .int .i64 o, .int .i64 m, .int .i64 id, .string img] 47) (.cells #[.string S, .int .i64 K, .int .i64 l, .int .i64 i, .slice Aq nq cq] 58) (.cells #[.int .i64 0, .int .i64 0, .int .i64 0, .int .i64 0, .int .i64 0, .string ⟨#[]⟩, .slice none 0 0, .bool false] 44)
  have HXs := Lib.hid hxs
  have HXo := Lib.hid hxo
  have HXt := Lib.hid hxt
  have HXr := Lib.hid hxr
  have HB1 := Lib.hid hb1
  have HW1 := Lib.hid hW1
  have HEg1 := Lib.hid eg1
  have HLg1 := Lib.hid lg1
  have HEg2 := Lib.hid eg2
  have HLg2 := Lib.hid lg2
  have HEg3 := Lib.hid eg3
  have HLg3 := Lib.hid lg3
  clear hW1 hb1 hxs hxo hxt hxr eg1 eg2 eg3 lg1 lg2 lg3
  have HA := Lib.hid (hA _ HB1.out)
  have HN := Lib.hid (hN.later HB1.out)
  have HO := Lib.hid (And.intro ho1 (And.intro ho2 (And.intro hm1 hm2)))
  have gk : (K == 2) = false := by rw [beq_eq_false_iff_ne]; exact hK
  clear hA hN hK ho1 ho2 hm1 hm2
  unfold stkV tgA opV
  have et := HXt.out
  have xt1 := cell_of_blk et 1
  have xt2 := cell_of_blk et 2
  clear et
  have es := HXs.out
  have xs0 := cell_of_blk es 0
  have xs1 := cell_of_blk es 1
  clear es
  go_enter Tryz.func55, Tryz.ntmps55
  go_upto_region 1 with fail
  rw [HW1.out]
  simp only [HEg1.out, HEg2.out, HEg3.out]
  clear HW1 HEg1 HEg2 HEg3
  go_wp2_with fail
  refine HA.out.mono ?_
  rintro e w2 ⟨rfl, hb2⟩
  have HB2 := Lib.hid hb2
  clear hb2 HA xs0 xs1 xt2 xt1
  have et := ((HB2.out.block _ (lt_of_some HXt.out)).trans HXt.out)
  have xt3 := cell_of_blk et 3
  clear et
  have eo := ((HB2.out.block _ (lt_of_some HXo.out)).trans HXo.out)
  have xo2 := cell_of_blk eo 2
  have xo3 := cell_of_blk eo 3
  clear eo
  have HZ := Lib.hid ((HN.out _ HB2.out).2.2 o m HO.out.1 HO.out.2.1 HO.out.2.2.1 HO.out.2.2.2)
  go_wp2_with fail
  refine HZ.out.mono ?_
  rintro e w3 ⟨⟨x, rfl, hx⟩, hb3⟩
  have HB3 := Lib.hid (HB2.out.trans (hb3.mono HB2.out.size))
  have HXe := Lib.hid hx
  clear hb3 hx HZ xt3 xo2 xo3
  have er := (HB3.out.block _ (lt_of_some HXr.out)).trans HXr.out
  have HPut := Lib.hid (put8 (rb := g3) HLg3.out er (HB1.out.trans (HB3.out.mono HB1.out.size)) 0 0 0 0 x)
  have y0 := cell_of_blk er 0
  have z0 := free_of_blk er 0
  have y1 := cell_of_blk er 1
  have z1 := free_of_blk er 1
  have y2 := cell_of_blk er 2
  have z2 := free_of_blk er 2
  have y3 := cell_of_blk er 3
  have z3 := free_of_blk er 3
  have y4 := cell_of_blk er 4
  have z4 := free_of_blk er 4
  have y5 := cell_of_blk er 5
  have z5 := free_of_blk er 5
  have y6 := cell_of_blk er 6
  have z6 := free_of_blk er 6
  have y7 := cell_of_blk er 7
  have z7 := free_of_blk er 7
  clear er
  go_wp2_with fail
  obtain ⟨p0, p1, p2, p3, p4, p5, p6, p7, HE⟩ := HPut.out _ rfl
  unfold set8 at p0 p1 p2 p3 p4 p5 p6 p7 HE
  exact bodyPost_ret (v := resV 0 0 0 0 x) (by unfold resV; simp [results, Tryz.results55, go_sem, p0, p1, p2, p3, p4, p5, p6, p7]) rfl ⟨⟨x, rfl, HXe.out⟩, HE⟩
set_option maxHeartbeats 1600000 in
theorem rat_no (A : Option Addr) (n c : Nat) (ad : Int) (k : Int) (p : ByteArray) (o m id : Int) (img : ByteArray) (S : ByteArray) (l i : Int) (Aq : Option Addr) (nq cq : Nat) (w : World) :
    Calls Tryz.prog 55 #[stkV A n c ad, opV k p o m id img, tgA S 2 l i Aq nq cq] w fun e w' => e = .returned (resV 5 0 0 0 ⟨#[]⟩) ∧ Below w.heap.size w w' := by
  obtain ⟨g1, g2, g3, W1, hW1, eg1, eg2, eg3, hxs, hxo, hxt, hxr, hb1, lg1, lg2, lg3⟩ := four_boxes w (.cells #[.slice A n c, .int .i64 ad] 27) (.cells #[.int .i64 k, .string p, .int .i64 o, .int .i64 m, .int .i64 id, .string img] 47) (.cells #[.string S, .int .i64 2, .int .i64 l, .int .i64 i, .slice Aq nq cq] 58) (.cells #[.int .i64 0, .int .i64 0, .int .i64 0, .int .i64 0, .int .i64 0, .string ⟨#[]⟩, .slice none 0 0, .bool false] 44)
  have HXs := Lib.hid hxs
  have HXo := Lib.hid hxo
  have HXt := Lib.hid hxt
  have HXr := Lib.hid hxr
  have HB1 := Lib.hid hb1
  have HW1 := Lib.hid hW1
  have HEg1 := Lib.hid eg1
  have HLg1 := Lib.hid lg1
  have HEg2 := Lib.hid eg2
  have HLg2 := Lib.hid lg2
  have HEg3 := Lib.hid eg3
  have HLg3 := Lib.hid lg3
  clear hW1 hb1 hxs hxo hxt hxr eg1 eg2 eg3 lg1 lg2 lg3
  unfold stkV tgA opV
  have et := HXt.out
  have xt1 := cell_of_blk et 1
  clear et
  go_enter Tryz.func55, Tryz.ntmps55
  go_upto_region 1 with fail
  rw [HW1.out]
  simp only [HEg1.out, HEg2.out, HEg3.out]
  clear HW1 HEg1 HEg2 HEg3
  have er := HXr.out
  have HPut := Lib.hid (put8 (rb := g3) HLg3.out er HB1.out 5 0 0 0 ⟨#[]⟩)
  have y0 := cell_of_blk er 0
  have z0 := free_of_blk er 0
  have y1 := cell_of_blk er 1
  have z1 := free_of_blk er 1
  have y2 := cell_of_blk er 2
  have z2 := free_of_blk er 2
  have y3 := cell_of_blk er 3
  have z3 := free_of_blk er 3
  have y4 := cell_of_blk er 4
  have z4 := free_of_blk er 4
  have y5 := cell_of_blk er 5
  have z5 := free_of_blk er 5
  have y6 := cell_of_blk er 6
  have z6 := free_of_blk er 6
  have y7 := cell_of_blk er 7
  have z7 := free_of_blk er 7
  clear er
  go_wp2_with fail
  obtain ⟨p0, p1, p2, p3, p4, p5, p6, p7, HE⟩ := HPut.out _ rfl
  unfold set8 at p0 p1 p2 p3 p4 p5 p6 p7 HE
  exact bodyPost_ret (v := resV 5 0 0 0 ⟨#[]⟩) (by unfold resV; simp [results, Tryz.results55, go_sem, p0, p1, p2, p3, p4, p5, p6, p7]) rfl ⟨rfl, HE⟩
end Go.Proofs.YtkbhcncbpiimdaaGreatDoor.uni

namespace Go.Proofs.YtkbhcncbpiimdaaGreatDoor.uni
set_option maxRecDepth 100000
open Go.RowKit Go.Proofs.YtkbhcncbpiimdaaGreatDoor.words Go.Proofs.YtkbhcncbpiimdaaGreatDoor.ext Go.Proofs.YtkbhcncbpiimdaaGreatDoor.name Go.Proofs.YtkbhcncbpiimdaaGreatDoor.tre Go.Proofs.YtkbhcncbpiimdaaGreatDoor.stk Go.Proofs.YtkbhcncbpiimdaaGreatDoor.seen Go.Proofs.YtkbhcncbpiimdaaGreatDoor.wlk

set_option maxHeartbeats 800000 in
theorem fin_1 (A : Option Addr) (n c : Nat) (ad : Int) (p : ByteArray) (o m id : Int) (img : ByteArray) (S : ByteArray) (K l i : Int) (Aq : Option Addr) (nq cq : Nat) (w : World) (wh : Int) (hI : IdC A n c ad l wh w) :
    Calls Tryz.prog 22 #[stkV A n c ad, opV 1 p o m id img, tgA S K l i Aq nq cq] w fun e w' => e = .returned (resV 0 K 0 wh ⟨#[]⟩) ∧ Below w.heap.size w w' := by
  obtain ⟨g1, g2, g3, W1, hW1, eg1, eg2, eg3, hxs, hxo, hxt, hxr, hb1, lg1, lg2, lg3⟩ := four_boxes w (.cells #[.slice A n c, .int .i64 ad] 27) (.cells #[.int .i64 1, .string p, .int .i64 o, .int .i64 m, .int .i64 id, .string img] 47) (.cells #[.string S, .int .i64 K, .int .i64 l, .int .i64 i, .slice Aq nq cq] 58) (.cells #[.int .i64 0, .int .i64 0, .int .i64 0, .int .i64 0, .int .i64 0, .string ⟨#[]⟩, .slice none 0 0, .bool false] 44)
  have HXs := Lib.hid hxs
  have HXo := Lib.hid hxo
  have HXt := Lib.hid hxt
  have HXr := Lib.hid hxr
  have HB1 := Lib.hid hb1
  have HW1 := Lib.hid hW1
  have HEg1 := Lib.hid eg1
  have HLg1 := Lib.hid lg1
  have HEg2 := Lib.hid eg2
  have HLg2 := Lib.hid lg2
  have HEg3 := Lib.hid eg3
  have HLg3 := Lib.hid lg3
  clear hW1 hb1 hxs hxo hxt hxr eg1 eg2 eg3 lg1 lg2 lg3
  have HI := Lib.hid (hI.later HB1.out)
  clear hI
  have HCE : Hid (∀ w' : World, Below W1.heap.size W1 w' → w'.cell? ⟨w.heap.size, 0, none⟩ = some (.slice A n c) ∧ w'.cell? ⟨w.heap.size, 1, none⟩ = some (.int .i64 ad) ∧ w'.cell? ⟨g1, 0, none⟩ = some (.int .i64 1) ∧ w'.cell? ⟨g1, 1, none⟩ = some (.string p) ∧ w'.cell? ⟨g1, 2, none⟩ = some (.int .i64 o) ∧ w'.cell? ⟨g1, 3, none⟩ = some (.int .i64 m) ∧ w'.cell? ⟨g1, 4, none⟩ = some (.int .i64 id) ∧ w'.cell? ⟨g1, 5, none⟩ = some (.string img) ∧ w'.cell? ⟨g2, 0, none⟩ = some (.string S) ∧ w'.cell? ⟨g2, 1, none⟩ = some (.int .i64 K) ∧ w'.cell? ⟨g2, 2, none⟩ = some (.int .i64 l) ∧ w'.cell? ⟨g2, 3, none⟩ = some (.int .i64 i) ∧ w'.cell? ⟨g2, 4, none⟩ = some (.slice Aq nq cq)) := Lib.hid fun w' hb => by
    have e1 := (hb.block _ (lt_of_some HXs.out)).trans HXs.out
    have e2 := (hb.block _ (lt_of_some HXo.out)).trans HXo.out
    have e3 := (hb.block _ (lt_of_some HXt.out)).trans HXt.out
    exact ⟨cell_of_blk e1 0, cell_of_blk e1 1, cell_of_blk e2 0, cell_of_blk e2 1, cell_of_blk e2 2, cell_of_blk e2 3, cell_of_blk e2 4, cell_of_blk e2 5, cell_of_blk e3 0, cell_of_blk e3 1, cell_of_blk e3 2, cell_of_blk e3 3, cell_of_blk e3 4⟩
  have HBv : Hid (Below W1.heap.size W1 W1.drew) := Lib.hid (Below.refl _ _).drew
  obtain ⟨e0, e1, e2, e3, e4, e5, e6, e7, e8, e9, ea, eb, ec⟩ := HCE.out W1 (Below.refl _ _)
  unfold stkV tgA opV
  go_enter Tryz.func22, Tryz.ntmps22
  go_upto_region 1 with fail
  rw [HW1.out]
  simp only [HEg1.out, HEg2.out, HEg3.out]
  clear HW1 HEg1 HEg2 HEg3
  go_upto_region 3 with fail
  clear e0 e1 e2 e3 e4 e5 e6 e7 e8 e9 ea eb ec
  refine held.wpT_start (S := fun w' => Below W1.heap.size W1 w') (T := fun k => k == 10) (by kernel_rfl) ?_
  refine held.wpT_take (i := 0) (oi := ⟨some 11, _, _, _, _, _⟩) (v := ?_) rfl (by kernel_rfl) (by kernel_rfl) (by kernel_rfl) (fun _ _ _ h => h) (Or.inl ⟨by kernel_rfl, ?_⟩) ?_
  rotate_left 1
  focus (intro w' hSw; go_simp; (try with_reducible rfl))
  try simp only [Act.put, List.setIfInBounds_toArray, List.set_cons_zero, List.set_cons_succ]
  refine held.wpT_take (i := 1) (oi := ⟨some 12, _, _, _, _, _⟩) (v := ?_) rfl (by kernel_rfl) (by kernel_rfl) (by kernel_rfl) (fun _ _ _ h => h) (Or.inl ⟨by kernel_rfl, ?_⟩) ?_
  rotate_left 1
  focus (intro w' hSw; go_simp; (try with_reducible rfl))
  try simp only [Act.put, List.setIfInBounds_toArray, List.set_cons_zero, List.set_cons_succ]
  refine held.wpT_load (i := 2) (oi := ⟨some 13, _, _, _, _, _⟩) (v := ?_) rfl (by kernel_rfl) (by kernel_rfl) (by kernel_rfl) (fun _ _ _ h => h) (by kernel_rfl) (Or.inl ⟨by kernel_rfl, ?_⟩) (HBv.out) ?_
  rotate_left 1
  focus (intro w' hSw; obtain ⟨e0, e1, e2, e3, e4, e5, e6, e7, e8, e9, ea, eb, ec⟩ := HCE.out w' hSw; clear hSw; go_simp; (try with_reducible rfl))
  try simp only [Act.put, List.setIfInBounds_toArray, List.set_cons_zero, List.set_cons_succ]
  refine held.wpT_load (i := 3) (oi := ⟨some 14, _, _, _, _, _⟩) (v := ?_) rfl (by kernel_rfl) (by kernel_rfl) (by kernel_rfl) (fun _ _ _ h => h) (by kernel_rfl) (Or.inl ⟨by kernel_rfl, ?_⟩) (HBv.out) ?_
  rotate_left 1
  focus (intro w' hSw; obtain ⟨e0, e1, e2, e3, e4, e5, e6, e7, e8, e9, ea, eb, ec⟩ := HCE.out w' hSw; clear hSw; go_simp; (try with_reducible rfl))
  try simp only [Act.put, List.setIfInBounds_toArray, List.set_cons_zero, List.set_cons_succ]
  refine held.wpT_take (i := 4) (oi := ⟨some 15, _, _, _, _, _⟩) (v := ?_) rfl (by kernel_rfl) (by kernel_rfl) (by kernel_rfl) (fun _ _ _ h => h) (Or.inl ⟨by kernel_rfl, ?_⟩) ?_
  rotate_left 1
  focus (intro w' hSw; go_simp; (try with_reducible rfl))
  try simp only [Act.put, List.setIfInBounds_toArray, List.set_cons_zero, List.set_cons_succ]
  refine held.wpT_take (i := 5) (oi := ⟨some 16, _, _, _, _, _⟩) (v := ?_) rfl (by kernel_rfl) (by kernel_rfl) (by kernel_rfl) (fun _ _ _ h => h) (Or.inl ⟨by kernel_rfl, ?_⟩) ?_
  rotate_left 1
  focus (intro w' hSw; go_simp; (try with_reducible rfl))
  try simp only [Act.put, List.setIfInBounds_toArray, List.set_cons_zero, List.set_cons_succ]
  refine held.wpT_take (i := 6) (oi := ⟨some 17, _, _, _, _, _⟩) (v := ?_) rfl (by kernel_rfl) (by kernel_rfl) (by kernel_rfl) (fun _ _ _ h => h) (Or.inl ⟨by kernel_rfl, ?_⟩) ?_
  rotate_left 1
  focus (intro w' hSw; go_simp; (try with_reducible rfl))
  try simp only [Act.put, List.setIfInBounds_toArray, List.set_cons_zero, List.set_cons_succ]
  refine held.wpT_load (i := 7) (oi := ⟨some 18, _, _, _, _, _⟩) (v := ?_) rfl (by kernel_rfl) (by kernel_rfl) (by kernel_rfl) (fun _ _ _ h => h) (by kernel_rfl) (Or.inl ⟨by kernel_rfl, ?_⟩) (HBv.out) ?_
  rotate_left 1
  focus (intro w' hSw; obtain ⟨e0, e1, e2, e3, e4, e5, e6, e7, e8, e9, ea, eb, ec⟩ := HCE.out w' hSw; clear hSw; go_simp; (try with_reducible rfl))
  try simp only [Act.put, List.setIfInBounds_toArray, List.set_cons_zero, List.set_cons_succ]
  refine held.wpT_one (i := 8) (by kernel_rfl) rfl (fun Kc hK => ?_)
  go_simp
  go_at_call 52
  refine (HI.out _ HBv.out).mono ?_
  rintro en v1 ⟨rfl, hv1⟩
  refine hK.out _ _ (fun _ _ => (HBv.out.trans (hv1.mono HBv.out.size))) ?_
  clear hK
  try simp only [Act.put, List.setIfInBounds_toArray, List.set_cons_zero, List.set_cons_succ]
  refine held.wpT_take (i := 9) (oi := ⟨some 20, _, _, _, _, _⟩) (v := ?_) rfl (by kernel_rfl) (by kernel_rfl) (by kernel_rfl) (fun _ _ _ h => h) (Or.inl ⟨by kernel_rfl, ?_⟩) ?_
  rotate_left 1
  focus (intro w' hSw; go_simp; (try with_reducible rfl))
  try simp only [Act.put, List.setIfInBounds_toArray, List.set_cons_zero, List.set_cons_succ]
  have er := ((HBv.out.trans (hv1.mono HBv.out.size)).block _ (lt_of_some HXr.out)).trans HXr.out
  have HPut := Lib.hid (put8 (rb := g3) HLg3.out er (HB1.out.trans ((HBv.out.trans (hv1.mono HBv.out.size)).mono HB1.out.size)) 0 K 0 wh ⟨#[]⟩)
  have y0 := cell_of_blk er 0
  have z0 := free_of_blk er 0
  have y1 := cell_of_blk er 1
  have z1 := free_of_blk er 1
  have y2 := cell_of_blk er 2
  have z2 := free_of_blk er 2
  have y3 := cell_of_blk er 3
  have z3 := free_of_blk er 3
  have y4 := cell_of_blk er 4
  have z4 := free_of_blk er 4
  have y5 := cell_of_blk er 5
  have z5 := free_of_blk er 5
  have y6 := cell_of_blk er 6
  have z6 := free_of_blk er 6
  have y7 := cell_of_blk er 7
  have z7 := free_of_blk er 7
  clear er
  obtain ⟨W9, hW9⟩ : ∃ W9, W9 = set8 v1 g3 (.int .i64 0) (.int .i64 K) (.int .i64 0) (.int .i64 wh) (.int .i64 0) (.string ⟨#[]⟩) (.slice none 0 0) (.bool false) := ⟨_, rfl⟩
  obtain ⟨p0, p1, p2, p3, p4, p5, p6, p7, HE⟩ := HPut.out _ hW9
  have HE := Lib.hid HE
  unfold set8 at hW9
  have HW9 := Lib.hid hW9
  clear hW9 HPut
  refine held.wpT_one (i := 10) (by kernel_rfl) rfl (fun Kc hK => ?_)
  go_simp
  rw [← HW9.out]
  refine hK.out _ _ (fun h => absurd h (by decide)) ?_
  clear hK HW9 y0 z0 y1 z1 y2 z2 y3 z3 y4 z4 y5 z5 y6 z6 y7 z7
  try simp only [Act.put, List.setIfInBounds_toArray, List.set_cons_zero, List.set_cons_succ]
  refine held.wpT_done (by kernel_rfl) ?_ _
  go_wp2_with fail
  exact bodyPost_ret (v := resV 0 K 0 wh ⟨#[]⟩) (by unfold resV; simp [results, Tryz.results22, go_sem, p0, p1, p2, p3, p4, p5, p6, p7]) rfl ⟨rfl, HE.out⟩
set_option maxHeartbeats 800000 in
theorem fin_2 (A : Option Addr) (n c : Nat) (ad : Int) (p : ByteArray) (o m id : Int) (img : ByteArray) (S : ByteArray) (K l i : Int) (Aq : Option Addr) (nq cq : Nat) (w : World) (z : Int) (hZ : ∀ w' : World, Below w.heap.size w w' → Calls Tryz.prog 53 #[.agg #[.slice A n c, .int .i64 ad], .agg #[.string S, .int .i64 K, .int .i64 l, .int .i64 i, .slice Aq nq cq]] w' fun e w'' => e = .returned (.int .i64 z) ∧ Below w'.heap.size w' w'') :
    Calls Tryz.prog 22 #[stkV A n c ad, opV 2 p o m id img, tgA S K l i Aq nq cq] w fun e w' => e = .returned (resV 0 K z 0 ⟨#[]⟩) ∧ Below w.heap.size w w' := by
  obtain ⟨g1, g2, g3, W1, hW1, eg1, eg2, eg3, hxs, hxo, hxt, hxr, hb1, lg1, lg2, lg3⟩ := four_boxes w (.cells #[.slice A n c, .int .i64 ad] 27) (.cells #[.int .i64 2, .string p, .int .i64 o, .int .i64 m, .int .i64 id, .string img] 47) (.cells #[.string S, .int .i64 K, .int .i64 l, .int .i64 i, .slice Aq nq cq] 58) (.cells #[.int .i64 0, .int .i64 0, .int .i64 0, .int .i64 0, .int .i64 0, .string ⟨#[]⟩, .slice none 0 0, .bool false] 44)
  have HXs := Lib.hid hxs
  have HXo := Lib.hid hxo
  have HXt := Lib.hid hxt
  have HXr := Lib.hid hxr
  have HB1 := Lib.hid hb1
  have HW1 := Lib.hid hW1
  have HEg1 := Lib.hid eg1
  have HLg1 := Lib.hid lg1
  have HEg2 := Lib.hid eg2
  have HLg2 := Lib.hid lg2
  have HEg3 := Lib.hid eg3
  have HLg3 := Lib.hid lg3
  clear hW1 hb1 hxs hxo hxt hxr eg1 eg2 eg3 lg1 lg2 lg3
  have HZ : Hid (∀ w' : World, Below W1.heap.size W1 w' → Calls Tryz.prog 53 #[.agg #[.slice A n c, .int .i64 ad], .agg #[.string S, .int .i64 K, .int .i64 l, .int .i64 i, .slice Aq nq cq]] w' fun e w'' => e = .returned (.int .i64 z) ∧ Below w'.heap.size w' w'') := Lib.hid fun w' hb => hZ w' (HB1.out.trans (hb.mono HB1.out.size))
  clear hZ
  have HCE : Hid (∀ w' : World, Below W1.heap.size W1 w' → w'.cell? ⟨w.heap.size, 0, none⟩ = some (.slice A n c) ∧ w'.cell? ⟨w.heap.size, 1, none⟩ = some (.int .i64 ad) ∧ w'.cell? ⟨g1, 0, none⟩ = some (.int .i64 2) ∧ w'.cell? ⟨g1, 1, none⟩ = some (.string p) ∧ w'.cell? ⟨g1, 2, none⟩ = some (.int .i64 o) ∧ w'.cell? ⟨g1, 3, none⟩ = some (.int .i64 m) ∧ w'.cell? ⟨g1, 4, none⟩ = some (.int .i64 id) ∧ w'.cell? ⟨g1, 5, none⟩ = some (.string img) ∧ w'.cell? ⟨g2, 0, none⟩ = some (.string S) ∧ w'.cell? ⟨g2, 1, none⟩ = some (.int .i64 K) ∧ w'.cell? ⟨g2, 2, none⟩ = some (.int .i64 l) ∧ w'.cell? ⟨g2, 3, none⟩ = some (.int .i64 i) ∧ w'.cell? ⟨g2, 4, none⟩ = some (.slice Aq nq cq)) := Lib.hid fun w' hb => by
    have e1 := (hb.block _ (lt_of_some HXs.out)).trans HXs.out
    have e2 := (hb.block _ (lt_of_some HXo.out)).trans HXo.out
    have e3 := (hb.block _ (lt_of_some HXt.out)).trans HXt.out
    exact ⟨cell_of_blk e1 0, cell_of_blk e1 1, cell_of_blk e2 0, cell_of_blk e2 1, cell_of_blk e2 2, cell_of_blk e2 3, cell_of_blk e2 4, cell_of_blk e2 5, cell_of_blk e3 0, cell_of_blk e3 1, cell_of_blk e3 2, cell_of_blk e3 3, cell_of_blk e3 4⟩
  have HBv : Hid (Below W1.heap.size W1 W1.drew) := Lib.hid (Below.refl _ _).drew
  obtain ⟨e0, e1, e2, e3, e4, e5, e6, e7, e8, e9, ea, eb, ec⟩ := HCE.out W1 (Below.refl _ _)
  unfold stkV tgA opV
  go_enter Tryz.func22, Tryz.ntmps22
  go_upto_region 1 with fail
  rw [HW1.out]
  simp only [HEg1.out, HEg2.out, HEg3.out]
  clear HW1 HEg1 HEg2 HEg3
  go_upto_region 5 with fail
  clear e0 e1 e2 e3 e4 e5 e6 e7 e8 e9 ea eb ec
  refine held.wpT_start (S := fun w' => Below W1.heap.size W1 w') (T := fun k => k == 7) (by kernel_rfl) ?_
  refine held.wpT_take (i := 0) (oi := ⟨some 23, _, _, _, _, _⟩) (v := ?_) rfl (by kernel_rfl) (by kernel_rfl) (by kernel_rfl) (fun _ _ _ h => h) (Or.inl ⟨by kernel_rfl, ?_⟩) ?_
  rotate_left 1
  focus (intro w' hSw; go_simp; (try with_reducible rfl))
  try simp only [Act.put, List.setIfInBounds_toArray, List.set_cons_zero, List.set_cons_succ]
  refine held.wpT_take (i := 1) (oi := ⟨some 24, _, _, _, _, _⟩) (v := ?_) rfl (by kernel_rfl) (by kernel_rfl) (by kernel_rfl) (fun _ _ _ h => h) (Or.inl ⟨by kernel_rfl, ?_⟩) ?_
  rotate_left 1
  focus (intro w' hSw; go_simp; (try with_reducible rfl))
  try simp only [Act.put, List.setIfInBounds_toArray, List.set_cons_zero, List.set_cons_succ]
  refine held.wpT_load (i := 2) (oi := ⟨some 25, _, _, _, _, _⟩) (v := ?_) rfl (by kernel_rfl) (by kernel_rfl) (by kernel_rfl) (fun _ _ _ h => h) (by kernel_rfl) (Or.inl ⟨by kernel_rfl, ?_⟩) (HBv.out) ?_
  rotate_left 1
  focus (intro w' hSw; obtain ⟨e0, e1, e2, e3, e4, e5, e6, e7, e8, e9, ea, eb, ec⟩ := HCE.out w' hSw; clear hSw; go_simp; (try with_reducible rfl))
  try simp only [Act.put, List.setIfInBounds_toArray, List.set_cons_zero, List.set_cons_succ]
  refine held.wpT_load (i := 3) (oi := ⟨some 26, _, _, _, _, _⟩) (v := ?_) rfl (by kernel_rfl) (by kernel_rfl) (by kernel_rfl) (fun _ _ _ h => h) (by kernel_rfl) (Or.inl ⟨by kernel_rfl, ?_⟩) (HBv.out) ?_
  rotate_left 1
  focus (intro w' hSw; obtain ⟨e0, e1, e2, e3, e4, e5, e6, e7, e8, e9, ea, eb, ec⟩ := HCE.out w' hSw; clear hSw; go_simp; (try with_reducible rfl))
  try simp only [Act.put, List.setIfInBounds_toArray, List.set_cons_zero, List.set_cons_succ]
  refine held.wpT_load (i := 4) (oi := ⟨some 27, _, _, _, _, _⟩) (v := ?_) rfl (by kernel_rfl) (by kernel_rfl) (by kernel_rfl) (fun _ _ _ h => h) (by kernel_rfl) (Or.inl ⟨by kernel_rfl, ?_⟩) (HBv.out) ?_
  rotate_left 1
  focus (intro w' hSw; obtain ⟨e0, e1, e2, e3, e4, e5, e6, e7, e8, e9, ea, eb, ec⟩ := HCE.out w' hSw; clear hSw; go_simp; (try with_reducible rfl))
  try simp only [Act.put, List.setIfInBounds_toArray, List.set_cons_zero, List.set_cons_succ]
  refine held.wpT_one (i := 5) (by kernel_rfl) rfl (fun Kc hK => ?_)
  go_simp
  go_at_call 53
  refine (HZ.out _ HBv.out).mono ?_
  rintro en v1 ⟨rfl, hv1⟩
  refine hK.out _ _ (fun _ _ => (HBv.out.trans (hv1.mono HBv.out.size))) ?_
  clear hK
  try simp only [Act.put, List.setIfInBounds_toArray, List.set_cons_zero, List.set_cons_succ]
  refine held.wpT_take (i := 6) (oi := ⟨some 29, _, _, _, _, _⟩) (v := ?_) rfl (by kernel_rfl) (by kernel_rfl) (by kernel_rfl) (fun _ _ _ h => h) (Or.inl ⟨by kernel_rfl, ?_⟩) ?_
  rotate_left 1
  focus (intro w' hSw; go_simp; (try with_reducible rfl))
  try simp only [Act.put, List.setIfInBounds_toArray, List.set_cons_zero, List.set_cons_succ]
  have er := ((HBv.out.trans (hv1.mono HBv.out.size)).block _ (lt_of_some HXr.out)).trans HXr.out
  have HPut := Lib.hid (put8 (rb := g3) HLg3.out er (HB1.out.trans ((HBv.out.trans (hv1.mono HBv.out.size)).mono HB1.out.size)) 0 K z 0 ⟨#[]⟩)
  have y0 := cell_of_blk er 0
  have z0 := free_of_blk er 0
  have y1 := cell_of_blk er 1
  have z1 := free_of_blk er 1
  have y2 := cell_of_blk er 2
  have z2 := free_of_blk er 2
  have y3 := cell_of_blk er 3
  have z3 := free_of_blk er 3
  have y4 := cell_of_blk er 4
  have z4 := free_of_blk er 4
  have y5 := cell_of_blk er 5
  have z5 := free_of_blk er 5
  have y6 := cell_of_blk er 6
  have z6 := free_of_blk er 6
  have y7 := cell_of_blk er 7
  have z7 := free_of_blk er 7
  clear er
  obtain ⟨W9, hW9⟩ : ∃ W9, W9 = set8 v1 g3 (.int .i64 0) (.int .i64 K) (.int .i64 z) (.int .i64 0) (.int .i64 0) (.string ⟨#[]⟩) (.slice none 0 0) (.bool false) := ⟨_, rfl⟩
  obtain ⟨p0, p1, p2, p3, p4, p5, p6, p7, HE⟩ := HPut.out _ hW9
  have HE := Lib.hid HE
  unfold set8 at hW9
  have HW9 := Lib.hid hW9
  clear hW9 HPut
  refine held.wpT_one (i := 7) (by kernel_rfl) rfl (fun Kc hK => ?_)
  go_simp
  rw [← HW9.out]
  refine hK.out _ _ (fun h => absurd h (by decide)) ?_
  clear hK HW9 y0 z0 y1 z1 y2 z2 y3 z3 y4 z4 y5 z5 y6 z6 y7 z7
  try simp only [Act.put, List.setIfInBounds_toArray, List.set_cons_zero, List.set_cons_succ]
  refine held.wpT_done (by kernel_rfl) ?_ _
  go_wp2_with fail
  exact bodyPost_ret (v := resV 0 K z 0 ⟨#[]⟩) (by unfold resV; simp [results, Tryz.results22, go_sem, p0, p1, p2, p3, p4, p5, p6, p7]) rfl ⟨rfl, HE.out⟩
set_option maxHeartbeats 800000 in
theorem fin_3 (A : Option Addr) (n c : Nat) (ad : Int) (p : ByteArray) (o m id : Int) (img : ByteArray) (S : ByteArray) (K l i : Int) (Aq : Option Addr) (nq cq : Nat) (w : World) (ke : Int) (Q : ByteArray → Prop) (hZ : ∀ w' : World, Below w.heap.size w w' → Calls Tryz.prog 54 #[.agg #[.slice A n c, .int .i64 ad], .agg #[.string S, .int .i64 K, .int .i64 l, .int .i64 i, .slice Aq nq cq]] w' fun e w'' => (∃ x : ByteArray, e = .returned (resV ke 0 0 0 x) ∧ Q x) ∧ Below w'.heap.size w' w'') :
    Calls Tryz.prog 22 #[stkV A n c ad, opV 3 p o m id img, tgA S K l i Aq nq cq] w fun e w' => (∃ x : ByteArray, e = .returned (resV ke 0 0 0 x) ∧ Q x) ∧ Below w.heap.size w w' := by
  obtain ⟨g1, g2, g3, W1, hW1, eg1, eg2, eg3, hxs, hxo, hxt, hxr, hb1, lg1, lg2, lg3⟩ := four_boxes w (.cells #[.slice A n c, .int .i64 ad] 27) (.cells #[.int .i64 3, .string p, .int .i64 o, .int .i64 m, .int .i64 id, .string img] 47) (.cells #[.string S, .int .i64 K, .int .i64 l, .int .i64 i, .slice Aq nq cq] 58) (.cells #[.int .i64 0, .int .i64 0, .int .i64 0, .int .i64 0, .int .i64 0, .string ⟨#[]⟩, .slice none 0 0, .bool false] 44)
  have HXs := Lib.hid hxs
  have HXo := Lib.hid hxo
  have HXt := Lib.hid hxt
  have HXr := Lib.hid hxr
  have HB1 := Lib.hid hb1
  have HW1 := Lib.hid hW1
  have HEg1 := Lib.hid eg1
  have HLg1 := Lib.hid lg1
  have HEg2 := Lib.hid eg2
  have HLg2 := Lib.hid lg2
  have HEg3 := Lib.hid eg3
  have HLg3 := Lib.hid lg3
  clear hW1 hb1 hxs hxo hxt hxr eg1 eg2 eg3 lg1 lg2 lg3
  have HZ := Lib.hid (hZ _ HB1.out)
  clear hZ
  have HCE : Hid (∀ w' : World, Below W1.heap.size W1 w' → w'.cell? ⟨w.heap.size, 0, none⟩ = some (.slice A n c) ∧ w'.cell? ⟨w.heap.size, 1, none⟩ = some (.int .i64 ad) ∧ w'.cell? ⟨g1, 0, none⟩ = some (.int .i64 3) ∧ w'.cell? ⟨g1, 1, none⟩ = some (.string p) ∧ w'.cell? ⟨g1, 2, none⟩ = some (.int .i64 o) ∧ w'.cell? ⟨g1, 3, none⟩ = some (.int .i64 m) ∧ w'.cell? ⟨g1, 4, none⟩ = some (.int .i64 id) ∧ w'.cell? ⟨g1, 5, none⟩ = some (.string img) ∧ w'.cell? ⟨g2, 0, none⟩ = some (.string S) ∧ w'.cell? ⟨g2, 1, none⟩ = some (.int .i64 K) ∧ w'.cell? ⟨g2, 2, none⟩ = some (.int .i64 l) ∧ w'.cell? ⟨g2, 3, none⟩ = some (.int .i64 i) ∧ w'.cell? ⟨g2, 4, none⟩ = some (.slice Aq nq cq)) := Lib.hid fun w' hb => by
    have e1 := (hb.block _ (lt_of_some HXs.out)).trans HXs.out
    have e2 := (hb.block _ (lt_of_some HXo.out)).trans HXo.out
    have e3 := (hb.block _ (lt_of_some HXt.out)).trans HXt.out
    exact ⟨cell_of_blk e1 0, cell_of_blk e1 1, cell_of_blk e2 0, cell_of_blk e2 1, cell_of_blk e2 2, cell_of_blk e2 3, cell_of_blk e2 4, cell_of_blk e2 5, cell_of_blk e3 0, cell_of_blk e3 1, cell_of_blk e3 2, cell_of_blk e3 3, cell_of_blk e3 4⟩
  have HBv : Hid (Below W1.heap.size W1 W1.drew) := Lib.hid (Below.refl _ _).drew
  obtain ⟨e0, e1, e2, e3, e4, e5, e6, e7, e8, e9, ea, eb, ec⟩ := HCE.out W1 (Below.refl _ _)
  unfold stkV tgA opV
  go_enter Tryz.func22, Tryz.ntmps22
  go_upto_region 1 with fail
  rw [HW1.out]
  simp only [HEg1.out, HEg2.out, HEg3.out]
  clear HW1 HEg1 HEg2 HEg3
  go_wp2_with fail
  refine HZ.out.mono ?_
  rintro e v1 ⟨⟨x, rfl, hq⟩, hv1⟩
  have HQ := Lib.hid hq
  have HV := Lib.hid hv1
  clear hv1 hq HZ
  unfold resV
  clear e0 e1 e2 e3 e4 e5 e6 e7 e8 e9 ea eb ec
  have er := (HV.out.block _ (lt_of_some HXr.out)).trans HXr.out
  have HPut := Lib.hid (put8 (rb := g3) HLg3.out er (HB1.out.trans (HV.out.mono HB1.out.size)) ke 0 0 0 x)
  have y0 := cell_of_blk er 0
  have z0 := free_of_blk er 0
  have y1 := cell_of_blk er 1
  have z1 := free_of_blk er 1
  have y2 := cell_of_blk er 2
  have z2 := free_of_blk er 2
  have y3 := cell_of_blk er 3
  have z3 := free_of_blk er 3
  have y4 := cell_of_blk er 4
  have z4 := free_of_blk er 4
  have y5 := cell_of_blk er 5
  have z5 := free_of_blk er 5
  have y6 := cell_of_blk er 6
  have z6 := free_of_blk er 6
  have y7 := cell_of_blk er 7
  have z7 := free_of_blk er 7
  clear er
  go_wp2_with fail
  obtain ⟨p0, p1, p2, p3, p4, p5, p6, p7, HE⟩ := HPut.out _ rfl
  unfold set8 at p0 p1 p2 p3 p4 p5 p6 p7 HE
  exact bodyPost_ret (v := resV ke 0 0 0 x) (by unfold resV; simp [results, Tryz.results22, go_sem, p0, p1, p2, p3, p4, p5, p6, p7]) rfl ⟨⟨x, rfl, HQ.out⟩, HE⟩
set_option maxHeartbeats 800000 in
theorem fin_4 (A : Option Addr) (n c : Nat) (ad : Int) (p : ByteArray) (o m id : Int) (img : ByteArray) (S : ByteArray) (K l i : Int) (Aq : Option Addr) (nq cq : Nat) (w : World) (ke : Int) (Q : ByteArray → Prop) (hZ : ∀ w' : World, Below w.heap.size w w' → Calls Tryz.prog 55 #[.agg #[.slice A n c, .int .i64 ad], .agg #[.int .i64 4, .string p, .int .i64 o, .int .i64 m, .int .i64 id, .string img], .agg #[.string S, .int .i64 K, .int .i64 l, .int .i64 i, .slice Aq nq cq]] w' fun e w'' => (∃ x : ByteArray, e = .returned (resV ke 0 0 0 x) ∧ Q x) ∧ Below w'.heap.size w' w'') :
    Calls Tryz.prog 22 #[stkV A n c ad, opV 4 p o m id img, tgA S K l i Aq nq cq] w fun e w' => (∃ x : ByteArray, e = .returned (resV ke 0 0 0 x) ∧ Q x) ∧ Below w.heap.size w w' := by
  obtain ⟨g1, g2, g3, W1, hW1, eg1, eg2, eg3, hxs, hxo, hxt, hxr, hb1, lg1, lg2, lg3⟩ := four_boxes w (.cells #[.slice A n c, .int .i64 ad] 27) (.cells #[.int .i64 4, .string p, .int .i64 o, .int .i64 m, .int .i64 id, .string img] 47) (.cells #[.string S, .int .i64 K, .int .i64 l, .int .i64 i, .slice Aq nq cq] 58) (.cells #[.int .i64 0, .int .i64 0, .int .i64 0, .int .i64 0, .int .i64 0, .string ⟨#[]⟩, .slice none 0 0, .bool false] 44)
  have HXs := Lib.hid hxs
  have HXo := Lib.hid hxo
  have HXt := Lib.hid hxt
  have HXr := Lib.hid hxr
  have HB1 := Lib.hid hb1
  have HW1 := Lib.hid hW1
  have HEg1 := Lib.hid eg1
  have HLg1 := Lib.hid lg1
  have HEg2 := Lib.hid eg2
  have HLg2 := Lib.hid lg2
  have HEg3 := Lib.hid eg3
  have HLg3 := Lib.hid lg3
  clear hW1 hb1 hxs hxo hxt hxr eg1 eg2 eg3 lg1 lg2 lg3
  have HZ := Lib.hid (hZ _ HB1.out)
  clear hZ
  have HCE : Hid (∀ w' : World, Below W1.heap.size W1 w' → w'.cell? ⟨w.heap.size, 0, none⟩ = some (.slice A n c) ∧ w'.cell? ⟨w.heap.size, 1, none⟩ = some (.int .i64 ad) ∧ w'.cell? ⟨g1, 0, none⟩ = some (.int .i64 4) ∧ w'.cell? ⟨g1, 1, none⟩ = some (.string p) ∧ w'.cell? ⟨g1, 2, none⟩ = some (.int .i64 o) ∧ w'.cell? ⟨g1, 3, none⟩ = some (.int .i64 m) ∧ w'.cell? ⟨g1, 4, none⟩ = some (.int .i64 id) ∧ w'.cell? ⟨g1, 5, none⟩ = some (.string img) ∧ w'.cell? ⟨g2, 0, none⟩ = some (.string S) ∧ w'.cell? ⟨g2, 1, none⟩ = some (.int .i64 K) ∧ w'.cell? ⟨g2, 2, none⟩ = some (.int .i64 l) ∧ w'.cell? ⟨g2, 3, none⟩ = some (.int .i64 i) ∧ w'.cell? ⟨g2, 4, none⟩ = some (.slice Aq nq cq)) := Lib.hid fun w' hb => by
    have e1 := (hb.block _ (lt_of_some HXs.out)).trans HXs.out
    have e2 := (hb.block _ (lt_of_some HXo.out)).trans HXo.out
    have e3 := (hb.block _ (lt_of_some HXt.out)).trans HXt.out
    exact ⟨cell_of_blk e1 0, cell_of_blk e1 1, cell_of_blk e2 0, cell_of_blk e2 1, cell_of_blk e2 2, cell_of_blk e2 3, cell_of_blk e2 4, cell_of_blk e2 5, cell_of_blk e3 0, cell_of_blk e3 1, cell_of_blk e3 2, cell_of_blk e3 3, cell_of_blk e3 4⟩
  have HBv : Hid (Below W1.heap.size W1 W1.drew) := Lib.hid (Below.refl _ _).drew
  obtain ⟨e0, e1, e2, e3, e4, e5, e6, e7, e8, e9, ea, eb, ec⟩ := HCE.out W1 (Below.refl _ _)
  unfold stkV tgA opV
  go_enter Tryz.func22, Tryz.ntmps22
  go_upto_region 1 with fail
  rw [HW1.out]
  simp only [HEg1.out, HEg2.out, HEg3.out]
  clear HW1 HEg1 HEg2 HEg3
  go_wp2_with fail
  refine HZ.out.mono ?_
  rintro e v1 ⟨⟨x, rfl, hq⟩, hv1⟩
  have HQ := Lib.hid hq
  have HV := Lib.hid hv1
  clear hv1 hq HZ
  unfold resV
  clear e0 e1 e2 e3 e4 e5 e6 e7 e8 e9 ea eb ec
  have er := (HV.out.block _ (lt_of_some HXr.out)).trans HXr.out
  have HPut := Lib.hid (put8 (rb := g3) HLg3.out er (HB1.out.trans (HV.out.mono HB1.out.size)) ke 0 0 0 x)
  have y0 := cell_of_blk er 0
  have z0 := free_of_blk er 0
  have y1 := cell_of_blk er 1
  have z1 := free_of_blk er 1
  have y2 := cell_of_blk er 2
  have z2 := free_of_blk er 2
  have y3 := cell_of_blk er 3
  have z3 := free_of_blk er 3
  have y4 := cell_of_blk er 4
  have z4 := free_of_blk er 4
  have y5 := cell_of_blk er 5
  have z5 := free_of_blk er 5
  have y6 := cell_of_blk er 6
  have z6 := free_of_blk er 6
  have y7 := cell_of_blk er 7
  have z7 := free_of_blk er 7
  clear er
  go_wp2_with fail
  obtain ⟨p0, p1, p2, p3, p4, p5, p6, p7, HE⟩ := HPut.out _ rfl
  unfold set8 at p0 p1 p2 p3 p4 p5 p6 p7 HE
  exact bodyPost_ret (v := resV ke 0 0 0 x) (by unfold resV; simp [results, Tryz.results22, go_sem, p0, p1, p2, p3, p4, p5, p6, p7]) rfl ⟨⟨x, rfl, HQ.out⟩, HE⟩
end Go.Proofs.YtkbhcncbpiimdaaGreatDoor.uni
