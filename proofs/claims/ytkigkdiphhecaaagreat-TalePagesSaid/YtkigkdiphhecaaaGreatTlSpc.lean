/- A State in memory, of no branches: New, a Close of a cursor that there isn't, a Remove of a branch that there isn't. Conditions: the State lies in memory. -/
import Derived.Test.YtkigkdiphhecaaaGreatCurOps
import Derived.Deep.RegionHeld3
namespace Go.Proofs.YtkigkdiphhecaaaGreat.tal
set_option maxRecDepth 100000
open Go.RowKit Go.Proofs.YtkigkdiphhecaaaGreat.words

def bx8 (u0 u1 u2 u3 u4 u5 u6 u7 : Value) : Obj := .cells #[u0, u1, u2, u3, u4, u5, u6, u7] 26 (0, 0)
def zx8 : Obj := bx8 (.int .i64 0) (.int .i64 0) (.int .i64 0) (.int .i64 0) (.int .i64 0) (.string ⟨#[]⟩) (.slice none 0 0) (.bool false)
def set8 (w : World) (g : Nat) (u0 u1 u2 u3 u4 u5 u6 u7 : Value) : World := (((((((w.setCell ⟨g, 0, none⟩ u0).setCell ⟨g, 1, none⟩ u1).setCell ⟨g, 2, none⟩ u2).setCell ⟨g, 3, none⟩ u3).setCell ⟨g, 4, none⟩ u4).setCell ⟨g, 5, none⟩ u5).setCell ⟨g, 6, none⟩ u6).setCell ⟨g, 7, none⟩ u7
theorem over8 {w : World} {g : Nat} {T : TypeId} {c0 c1 c2 c3 c4 c5 c6 c7 u0 u1 u2 u3 u4 u5 u6 u7 : Value} (h : w.heap[g]? = some (.cells #[c0, c1, c2, c3, c4, c5, c6, c7] T (0, 0))) : (set8 w g u0 u1 u2 u3 u4 u5 u6 u7).heap[g]? = some (.cells #[u0, u1, u2, u3, u4, u5, u6, u7] T (0, 0)) := by
  simp [set8, World.setCell, Array.getElem?_modify, h]
theorem below8 {B g : Nat} {a b : World} (h : Below B a b) (hg : B ≤ g) (u0 u1 u2 u3 u4 u5 u6 u7 : Value) : Below B a (set8 b g u0 u1 u2 u3 u4 u5 u6 u7) := (((((((h.setCell (p := ⟨g, 0, none⟩) hg u0).setCell (p := ⟨g, 1, none⟩) hg u1).setCell (p := ⟨g, 2, none⟩) hg u2).setCell (p := ⟨g, 3, none⟩) hg u3).setCell (p := ⟨g, 4, none⟩) hg u4).setCell (p := ⟨g, 5, none⟩) hg u5).setCell (p := ⟨g, 6, none⟩) hg u6).setCell (p := ⟨g, 7, none⟩) hg u7
/-- A result as a value. -/
def resV (e k z wh : Int) (x : ByteArray) : Value := .agg #[.int .i64 e, .int .i64 k, .int .i64 z, .int .i64 wh, .int .i64 0, .string x, .slice none 0 0, .bool false]
/-- A call as a value. -/
def opV (k : Int) (p : ByteArray) (o n i : Int) (g : ByteArray) : Value := .agg #[.int .i64 k, .string p, .int .i64 o, .int .i64 n, .int .i64 i, .string g]
/-- A result is put into its box. -/
theorem put8 {a w3 : World} {B rb : Nat} (hB : B ≤ rb) (hx : w3.heap[rb]? = some zx8) (hb : Below B a w3) (e k z wh : Int) (x : ByteArray) :
    ∀ w4, w4 = set8 w3 rb (.int .i64 e) (.int .i64 k) (.int .i64 z) (.int .i64 wh) (.int .i64 0) (.string x) (.slice none 0 0) (.bool false) → w4.cell? ⟨rb, 0, none⟩ = some (.int .i64 e) ∧ w4.cell? ⟨rb, 1, none⟩ = some (.int .i64 k) ∧ w4.cell? ⟨rb, 2, none⟩ = some (.int .i64 z) ∧ w4.cell? ⟨rb, 3, none⟩ = some (.int .i64 wh) ∧
      w4.cell? ⟨rb, 4, none⟩ = some (.int .i64 0) ∧ w4.cell? ⟨rb, 5, none⟩ = some (.string x) ∧ w4.cell? ⟨rb, 6, none⟩ = some (.slice none 0 0) ∧ w4.cell? ⟨rb, 7, none⟩ = some (.bool false) ∧ Below B a w4 := fun w4 hw => by
  have ho := over8 (u0 := .int .i64 e) (u1 := .int .i64 k) (u2 := .int .i64 z) (u3 := .int .i64 wh) (u4 := .int .i64 0) (u5 := .string x) (u6 := .slice none 0 0) (u7 := .bool false) hx
  have hbd := below8 hb hB (.int .i64 e) (.int .i64 k) (.int .i64 z) (.int .i64 wh) (.int .i64 0) (.string x) (.slice none 0 0) (.bool false)
  rw [← hw] at ho hbd
  exact ⟨cell_of_blk ho 0, cell_of_blk ho 1, cell_of_blk ho 2, cell_of_blk ho 3, cell_of_blk ho 4, cell_of_blk ho 5, cell_of_blk ho 6, cell_of_blk ho 7, hbd⟩
def badB (k o n : Int) : Bool := (k == 4 && (decide (o < 0) || decide (n < 0))) || (k == 6 && decide (n < 1))
def chkI (k o n : Int) : Int := if badB k o n = true then 1 else 0
set_option maxHeartbeats 1600000 in
theorem chk_any (k : Int) (p : ByteArray) (o n i : Int) (g : ByteArray) (w : World) : Calls Tryz.prog 50 #[opV k p o n i g] w fun e w' => e = .returned (.int .i64 (chkI k o n)) ∧ Below w.heap.size w w' := by
  by_cases h4 : k = 4
  · subst h4
    by_cases ho : o < 0
    · have HV : Hid (chkI 4 o n = 1) := Lib.hid (by unfold chkI badB; simp [ho])
      obtain ⟨W1, hW1⟩ : ∃ W1, W1 = w.alloc (.cells #[.int .i64 4, .string p, .int .i64 o, .int .i64 n, .int .i64 i, .string g] 30) := ⟨_, rfl⟩
      have hb1 : Below w.heap.size w W1 := by rw [hW1]; exact (Below.refl _ _).alloc (Nat.le_refl _) _
      have hc1 : W1.heap[w.heap.size]? = some (.cells #[.int .i64 4, .string p, .int .i64 o, .int .i64 n, .int .i64 i, .string g] 30 (0, 0)) := by rw [hW1]; exact heap_alloc_new w _
      have q0 := cell_of_blk hc1 0
      have q2 := cell_of_blk hc1 2
      have q3 := cell_of_blk hc1 3
      have HB := Lib.hid hb1
      have HW := Lib.hid hW1
      clear hW1 hb1 hc1
      unfold opV
      go_enter Tryz.func50, Tryz.ntmps50
      go_upto_region 1 with fail
      rw [← HW.out]
      clear HW
      go_wp2_with fail
      go_ret
      exact ⟨by rw [HV.out]; rfl, HB.out⟩
    by_cases hn : n < 0
    · have HV : Hid (chkI 4 o n = 1) := Lib.hid (by unfold chkI badB; simp [hn])
      obtain ⟨W1, hW1⟩ : ∃ W1, W1 = w.alloc (.cells #[.int .i64 4, .string p, .int .i64 o, .int .i64 n, .int .i64 i, .string g] 30) := ⟨_, rfl⟩
      have hb1 : Below w.heap.size w W1 := by rw [hW1]; exact (Below.refl _ _).alloc (Nat.le_refl _) _
      have hc1 : W1.heap[w.heap.size]? = some (.cells #[.int .i64 4, .string p, .int .i64 o, .int .i64 n, .int .i64 i, .string g] 30 (0, 0)) := by rw [hW1]; exact heap_alloc_new w _
      have q0 := cell_of_blk hc1 0
      have q2 := cell_of_blk hc1 2
      have q3 := cell_of_blk hc1 3
      have HB := Lib.hid hb1
      have HW := Lib.hid hW1
      clear hW1 hb1 hc1
      unfold opV
      go_enter Tryz.func50, Tryz.ntmps50
      go_upto_region 1 with fail
      rw [← HW.out]
      clear HW
      go_wp2_with fail
      go_ret
      exact ⟨by rw [HV.out]; rfl, HB.out⟩
    have HV : Hid (chkI 4 o n = 0) := Lib.hid (by unfold chkI badB; simp [ho, hn])
    obtain ⟨W1, hW1⟩ : ∃ W1, W1 = w.alloc (.cells #[.int .i64 4, .string p, .int .i64 o, .int .i64 n, .int .i64 i, .string g] 30) := ⟨_, rfl⟩
    have hb1 : Below w.heap.size w W1 := by rw [hW1]; exact (Below.refl _ _).alloc (Nat.le_refl _) _
    have hc1 : W1.heap[w.heap.size]? = some (.cells #[.int .i64 4, .string p, .int .i64 o, .int .i64 n, .int .i64 i, .string g] 30 (0, 0)) := by rw [hW1]; exact heap_alloc_new w _
    have q0 := cell_of_blk hc1 0
    have q2 := cell_of_blk hc1 2
    have q3 := cell_of_blk hc1 3
    have HB := Lib.hid hb1
    have HW := Lib.hid hW1
    clear hW1 hb1 hc1
    unfold opV
    go_enter Tryz.func50, Tryz.ntmps50
    go_upto_region 1 with fail
    rw [← HW.out]
    clear HW
    go_wp2_with fail
    go_ret
    exact ⟨by rw [HV.out]; rfl, HB.out⟩
  have g4 : (k == 4) = false := by rw [beq_eq_false_iff_ne]; exact h4
  by_cases h6 : k = 6
  · subst h6
    clear g4 h4
    by_cases hn : n < 1
    · have HV : Hid (chkI 6 o n = 1) := Lib.hid (by unfold chkI badB; simp [hn])
      obtain ⟨W1, hW1⟩ : ∃ W1, W1 = w.alloc (.cells #[.int .i64 6, .string p, .int .i64 o, .int .i64 n, .int .i64 i, .string g] 30) := ⟨_, rfl⟩
      have hb1 : Below w.heap.size w W1 := by rw [hW1]; exact (Below.refl _ _).alloc (Nat.le_refl _) _
      have hc1 : W1.heap[w.heap.size]? = some (.cells #[.int .i64 6, .string p, .int .i64 o, .int .i64 n, .int .i64 i, .string g] 30 (0, 0)) := by rw [hW1]; exact heap_alloc_new w _
      have q0 := cell_of_blk hc1 0
      have q2 := cell_of_blk hc1 2
      have q3 := cell_of_blk hc1 3
      have HB := Lib.hid hb1
      have HW := Lib.hid hW1
      clear hW1 hb1 hc1
      unfold opV
      go_enter Tryz.func50, Tryz.ntmps50
      go_upto_region 1 with fail
      rw [← HW.out]
      clear HW
      go_wp2_with fail
      go_ret
      exact ⟨by rw [HV.out]; rfl, HB.out⟩
    have HV : Hid (chkI 6 o n = 0) := Lib.hid (by unfold chkI badB; simp [hn])
    obtain ⟨W1, hW1⟩ : ∃ W1, W1 = w.alloc (.cells #[.int .i64 6, .string p, .int .i64 o, .int .i64 n, .int .i64 i, .string g] 30) := ⟨_, rfl⟩
    have hb1 : Below w.heap.size w W1 := by rw [hW1]; exact (Below.refl _ _).alloc (Nat.le_refl _) _
    have hc1 : W1.heap[w.heap.size]? = some (.cells #[.int .i64 6, .string p, .int .i64 o, .int .i64 n, .int .i64 i, .string g] 30 (0, 0)) := by rw [hW1]; exact heap_alloc_new w _
    have q0 := cell_of_blk hc1 0
    have q2 := cell_of_blk hc1 2
    have q3 := cell_of_blk hc1 3
    have HB := Lib.hid hb1
    have HW := Lib.hid hW1
    clear hW1 hb1 hc1
    unfold opV
    go_enter Tryz.func50, Tryz.ntmps50
    go_upto_region 1 with fail
    rw [← HW.out]
    clear HW
    go_wp2_with fail
    go_ret
    exact ⟨by rw [HV.out]; rfl, HB.out⟩
  have g6 : (k == 6) = false := by rw [beq_eq_false_iff_ne]; exact h6
  · have HV : Hid (chkI k o n = 0) := Lib.hid (by unfold chkI badB; simp [h4, h6])
    clear h4 h6
    obtain ⟨W1, hW1⟩ : ∃ W1, W1 = w.alloc (.cells #[.int .i64 k, .string p, .int .i64 o, .int .i64 n, .int .i64 i, .string g] 30) := ⟨_, rfl⟩
    have hb1 : Below w.heap.size w W1 := by rw [hW1]; exact (Below.refl _ _).alloc (Nat.le_refl _) _
    have hc1 : W1.heap[w.heap.size]? = some (.cells #[.int .i64 k, .string p, .int .i64 o, .int .i64 n, .int .i64 i, .string g] 30 (0, 0)) := by rw [hW1]; exact heap_alloc_new w _
    have q0 := cell_of_blk hc1 0
    have q2 := cell_of_blk hc1 2
    have q3 := cell_of_blk hc1 3
    have HB := Lib.hid hb1
    have HW := Lib.hid hW1
    clear hW1 hb1 hc1
    unfold opV
    go_enter Tryz.func50, Tryz.ntmps50
    go_upto_region 1 with fail
    rw [← HW.out]
    clear HW
    go_wp2_with fail
    go_ret
    exact ⟨by rw [HV.out]; rfl, HB.out⟩
theorem two_boxes (w : World) (a b : Obj) : ∃ (g1 : Nat) (W : World), (w.alloc a).alloc b = W ∧ w.heap.size + 1 = g1 ∧ W.heap[w.heap.size]? = some a ∧ W.heap[g1]? = some b ∧ Below w.heap.size w W ∧ w.heap.size ≤ g1 := by
  have hb1 : Below w.heap.size w (w.alloc a) := (Below.refl _ _).alloc (Nat.le_refl _) _
  have hb2 : Below (w.alloc a).heap.size (w.alloc a) ((w.alloc a).alloc b) := (Below.refl _ _).alloc (Nat.le_refl _) _
  have h1 : (w.alloc a).heap[w.heap.size]? = some a := heap_alloc_new w _
  refine ⟨_, _, rfl, rfl, (hb2.block _ (lt_of_some h1)).trans h1, ?_, hb1.trans (hb2.mono hb1.size), by omega⟩
  rw [← World.size_alloc w a]
  exact heap_alloc_new _ _
theorem three_boxes (w : World) (a b c : Obj) : ∃ (g1 g2 : Nat) (W : World), ((w.alloc a).alloc b).alloc c = W ∧ w.heap.size + 1 = g1 ∧ g1 + 1 = g2 ∧ W.heap[w.heap.size]? = some a ∧ W.heap[g1]? = some b ∧ W.heap[g2]? = some c ∧ Below w.heap.size w W ∧ w.heap.size ≤ g1 ∧ w.heap.size ≤ g2 := by
  obtain ⟨g1, W, hW, eg1, h0, h1, hb, lg1⟩ := two_boxes w a b
  have hb2 : Below W.heap.size W (W.alloc c) := (Below.refl _ _).alloc (Nat.le_refl _) _
  have hz : W.heap.size = g1 + 1 := by
    rw [← hW]
    simp only [World.size_alloc]
    omega
  refine ⟨g1, g1 + 1, W.alloc c, by rw [hW], eg1, rfl, (hb2.block _ (lt_of_some h0)).trans h0, (hb2.block _ (lt_of_some h1)).trans h1, ?_, hb.trans (hb2.mono hb.size), lg1, by omega⟩
  rw [← hz]
  exact heap_alloc_new _ _
/-- A State's box, and its table's. -/
structure Sp (B s t m : Nat) (A : Option Addr) (c : Nat) (L : List (Nat × Int)) (ad ep r n : Int) (C : cur.Cs) (w : World) : Prop where
  ge : B ≤ s
  blk : w.heap[s]? = some (.cells #[.slice A L.length c, .int .i64 ad, .int .i64 ep, .pointer (some ⟨t, 0, none⟩)] 62 (0, 0))
  tb : cur.Tb w B t m r n C
section
variable {B s t m : Nat} {A : Option Addr} {c : Nat} {L : List (Nat × Int)} {ad ep r n n' : Int} {C C' : cur.Cs} {w w' : World}
theorem Sp.later (h : Sp B s t m A c L ad ep r n C w) (hb : Below w.heap.size w w') : Sp B s t m A c L ad ep r n C w' := ⟨h.ge, (hb.block _ (lt_of_some h.blk)).trans h.blk, h.tb.later hb⟩
theorem Sp.ne (h : Sp B s t m A c L ad ep r n C w) : ¬ cur.Bk t m s := fun hj => absurd (h.tb.type hj h.blk) (by decide)
theorem Sp.lt (h : Sp B s t m A c L ad ep r n C w) : s < w.heap.size ∧ t < w.heap.size ∧ m < w.heap.size := ⟨lt_of_some h.blk, (h.tb.lt t (.inl rfl)).2, (h.tb.lt m (.inr rfl)).2⟩
/-- What turns above its blocks is of no matter. -/
theorem Sp.low {q : Nat} (h : Sp B s t m A c L ad ep r n C w) (hq : s < q ∧ t < q ∧ m < q) (hb : Below q w w') : Sp B s t m A c L ad ep r n C w' :=
  ⟨h.ge, (hb.block _ hq.1).trans h.blk, h.tb.tn (S := fun j => q ≤ j) ⟨hb.os, hb.tape, hb.output, hb.size, fun k hk hS => hb.block k (Nat.lt_of_not_le hS)⟩ fun j hj => by
    rcases hj with rfl | rfl
    · exact Nat.not_le_of_lt hq.2.1
    · exact Nat.not_le_of_lt hq.2.2⟩
end
theorem tb_base {w : World} {B B' t m : Nat} {r n : Int} {C : cur.Cs} (h : cur.Tb w B t m r n C) (hB : B' ≤ B) : cur.Tb w B' t m r n C := ⟨Nat.le_trans hB h.1, Nat.le_trans hB h.2.1, h.2.2⟩
/-- An answer of a State's own. -/
def resP (e id : Int) (A : Option Addr) (n c : Nat) (b : Bool) : Value := .agg #[.int .i64 e, .int .i64 0, .int .i64 0, .int .i64 0, .int .i64 id, .string ⟨#[]⟩, .slice A n c, .bool b]
theorem putP {a w3 : World} {B rb : Nat} (hB : B ≤ rb) (hx : w3.heap[rb]? = some zx8) (hb : Below B a w3) (e id : Int) (A : Option Addr) (n c : Nat) (b : Bool) :
    ∀ w4, w4 = set8 w3 rb (.int .i64 e) (.int .i64 0) (.int .i64 0) (.int .i64 0) (.int .i64 id) (.string ⟨#[]⟩) (.slice A n c) (.bool b) → w4.cell? ⟨rb, 0, none⟩ = some (.int .i64 e) ∧ w4.cell? ⟨rb, 1, none⟩ = some (.int .i64 0) ∧ w4.cell? ⟨rb, 2, none⟩ = some (.int .i64 0) ∧ w4.cell? ⟨rb, 3, none⟩ = some (.int .i64 0) ∧
      w4.cell? ⟨rb, 4, none⟩ = some (.int .i64 id) ∧ w4.cell? ⟨rb, 5, none⟩ = some (.string ⟨#[]⟩) ∧ w4.cell? ⟨rb, 6, none⟩ = some (.slice A n c) ∧ w4.cell? ⟨rb, 7, none⟩ = some (.bool b) ∧ Below B a w4 := fun w4 hw => by
  have ho := over8 (u0 := .int .i64 e) (u1 := .int .i64 0) (u2 := .int .i64 0) (u3 := .int .i64 0) (u4 := .int .i64 id) (u5 := .string ⟨#[]⟩) (u6 := .slice A n c) (u7 := .bool b) hx
  have hbd := below8 hb hB (.int .i64 e) (.int .i64 0) (.int .i64 0) (.int .i64 0) (.int .i64 id) (.string ⟨#[]⟩) (.slice A n c) (.bool b)
  rw [← hw] at ho hbd
  exact ⟨cell_of_blk ho 0, cell_of_blk ho 1, cell_of_blk ho 2, cell_of_blk ho 3, cell_of_blk ho 4, cell_of_blk ho 5, cell_of_blk ho 6, cell_of_blk ho 7, hbd⟩
/-- A new State. -/
def MadeS (w : World) (A : Option Addr) (c : Nat) (L : List (Nat × Int)) (ad r : Int) (e : Ending) (w' : World) : Prop := ∃ s t m, e = .returned (.pointer (some ⟨s, 0, none⟩)) ∧ Sp w.heap.size s t m A c L ad 0 r 0 [] w' ∧ Below w.heap.size w w'
set_option maxHeartbeats 3200000 in
theorem snew_any (A : Option Addr) (c : Nat) (L : List (Nat × Int)) (ad room r : Int) (w : World) (hr : r = min (max room 1) 1024) :
    Calls Tryz.prog 23 #[.agg #[.slice A L.length c, .int .i64 ad], .int .i64 room] w (MadeS w A c L ad r) := by
  obtain ⟨W1, hW1⟩ : ∃ W1, W1 = w.alloc (.cells #[.slice A L.length c, .int .i64 ad] 42) := ⟨_, rfl⟩
  have hb1 : Below w.heap.size w W1 := by rw [hW1]; exact (Below.refl _ _).alloc (Nat.le_refl _) _
  have HS := Lib.hid (show W1.heap[w.heap.size]? = some (.cells #[.slice A L.length c, .int .i64 ad] 42 (0, 0)) by rw [hW1]; exact heap_alloc_new w _)
  have HB1 := Lib.hid hb1
  have HW1 := Lib.hid hW1
  have HSS : Hid (∀ w' : World, Below W1.heap.size W1 w' → (w'.cell? ⟨w.heap.size, 0, none⟩ = some (.slice A L.length c) ∧ w'.cell? ⟨w.heap.size, 1, none⟩ = some (.int .i64 ad) ∧ Below W1.heap.size W1 w')) := Lib.hid fun w' hb => by
    have e1 := (hb.block _ (lt_of_some HS.out)).trans HS.out
    exact ⟨cell_of_blk e1 0, cell_of_blk e1 1, hb⟩
  have HBv : Hid (Below W1.heap.size W1 W1.drew) := Lib.hid (Below.refl _ _).drew
  have HC : Hid (∀ w' : World, Calls Tryz.prog 26 #[.int .i64 room] w' (cur.MadeC w' r)) := Lib.hid fun w' => cur.new_any room r w' hr
  clear hW1 hb1 hr
  go_enter Tryz.func23, Tryz.ntmps23
  go_upto_region 1 with fail
  rw [← HW1.out]
  clear HW1
  refine wp_region_held_drew (S := fun w' => (w'.cell? ⟨w.heap.size, 0, none⟩ = some (.slice A L.length c) ∧ w'.cell? ⟨w.heap.size, 1, none⟩ = some (.int .i64 ad) ∧ Below W1.heap.size W1 w')) (by kernel_rfl) (HSS.out _ HBv.out) (fun hHeld => ?_)
  refine wpAnyH_take (i := 0) (oi := ⟨some 5, _, _, _, _, _⟩) (v := ?_) rfl (by kernel_rfl) (by kernel_rfl) (by kernel_rfl) (fun _ _ _ h => h) (Or.inl ⟨by kernel_rfl, ?_⟩) (by assumption) ?_
  rotate_left 1
  focus (intro w' hSw; (try dsimp only at hSw); go_simp; (try with_reducible rfl))
  try simp only [Act.put, List.setIfInBounds_toArray, List.set_cons_zero, List.set_cons_succ]
  refine wpAnyH_take (i := 1) (oi := ⟨some 6, _, _, _, _, _⟩) (v := ?_) rfl (by kernel_rfl) (by kernel_rfl) (by kernel_rfl) (fun _ _ _ h => h) (Or.inl ⟨by kernel_rfl, ?_⟩) (by assumption) ?_
  rotate_left 1
  focus (intro w' hSw; (try dsimp only at hSw); go_simp; (try with_reducible rfl))
  try simp only [Act.put, List.setIfInBounds_toArray, List.set_cons_zero, List.set_cons_succ]
  refine wpAnyH_ready (rs := [2]) (by kernel_rfl) (by simp) ?_
  refine AllReadyH.cons rfl (fun K hK => ?_) AllReadyH.nil
  go_simp
  go_at_call 26
  refine (HC.out _).mono ?_
  rintro en v1 ⟨t, m, rfl, htb, hv1⟩
  have hq1 := HBv.out.trans (hv1.mono HBv.out.size)
  clear hHeld
  refine hK.out _ _ (HSS.out _ hq1) (fun hHeld => ?_)
  clear hK
  refine wpAnyH_take (i := 3) (oi := ⟨some 8, _, _, _, _, _⟩) (v := ?_) rfl (by kernel_rfl) (by kernel_rfl) (by kernel_rfl) (fun _ _ _ h => h) (Or.inl ⟨by kernel_rfl, ?_⟩) (by assumption) ?_
  rotate_left 1
  focus (intro w' hSw; (try dsimp only at hSw); go_simp; (try with_reducible rfl))
  try simp only [Act.put, List.setIfInBounds_toArray, List.set_cons_zero, List.set_cons_succ]
  refine wpAnyH_ready (rs := [4]) (by kernel_rfl) (by simp) ?_
  refine AllReadyH.cons rfl (fun K hK => ?_) AllReadyH.nil
  go_simp
  clear hHeld
  refine hK.out _ _ (HSS.out _ (hq1.alloc (Nat.le_trans HBv.out.size hv1.size) _)) (fun hHeld => ?_)
  clear hK
  refine wpAnyH_take (i := 5) (oi := ⟨some 4, _, _, _, _, _⟩) (v := ?_) rfl (by kernel_rfl) (by kernel_rfl) (by kernel_rfl) (fun _ _ _ h => h) (Or.inl ⟨by kernel_rfl, ?_⟩) (by assumption) ?_
  rotate_left 1
  focus (intro w' hSw; (try dsimp only at hSw); go_simp; (try with_reducible rfl))
  try simp only [Act.put, List.setIfInBounds_toArray, List.set_cons_zero, List.set_cons_succ]
  refine wpAnyH_done (by kernel_rfl) ?_ _
  clear hHeld
  obtain ⟨V, hV⟩ : ∃ V, V = v1.alloc (.cells #[.slice A L.length c, .int .i64 ad, .int .i64 0, .pointer (some ⟨t, 0, none⟩)] 62) := ⟨_, rfl⟩
  have hbV : Below v1.heap.size v1 V := by rw [hV]; exact (Below.refl _ _).alloc (Nat.le_refl _) _
  have hxV : V.heap[v1.heap.size]? = some (.cells #[.slice A L.length c, .int .i64 ad, .int .i64 0, .pointer (some ⟨t, 0, none⟩)] 62 (0, 0)) := by rw [hV]; exact heap_alloc_new v1 _
  have hbw := HB1.out.trans ((hq1.trans (hbV.mono hq1.size)).mono HB1.out.size)
  have HEnd : Hid (MadeS w A c L ad r (.returned (.pointer (some ⟨v1.heap.size, 0, none⟩))) V) := Lib.hid ⟨_, t, m, rfl, ⟨Nat.le_trans HB1.out.size hq1.size, hxV, tb_base (htb.later hbV) (Nat.le_trans HB1.out.size HBv.out.size)⟩, hbw⟩
  have HV := Lib.hid hV
  clear hV hbV hxV hbw htb hv1 hq1 HSS HBv HC
  rw [← HV.out]
  go_wp2_with fail
  go_ret
  exact HEnd.out
/-- A State's blocks. -/
def Bs (s t m : Nat) (j : Nat) : Prop := j = s ∨ cur.Bk t m j
/-- That is answered; the State is as told; nothing but its blocks has turned. -/
def SO (B s t m : Nat) (v : Value) (A : Option Addr) (c : Nat) (L : List (Nat × Int)) (ad ep r n : Int) (C : cur.Cs) (w : World) (e : Ending) (w' : World) : Prop := e = .returned v ∧ Sp B s t m A c L ad ep r n C w' ∧ lru.Tn (Bs s t m) w w'
theorem Sp.bs {B s t m : Nat} {A : Option Addr} {c : Nat} {L : List (Nat × Int)} {ad ep r n : Int} {C : cur.Cs} {w : World} (h : Sp B s t m A c L ad ep r n C w) {j : Nat} (hj : Bs s t m j) : B ≤ j := by
  rcases hj with rfl | hj
  · exact h.ge
  · exact (h.tb.lt j hj).1
theorem tn_set8 {S : Nat → Prop} {a b : World} {g : Nat} (h : lru.Tn S a b) (hg : a.heap.size ≤ g) (u0 u1 u2 u3 u4 u5 u6 u7 : Value) : lru.Tn S a (set8 b g u0 u1 u2 u3 u4 u5 u6 u7) :=
  (((((((h.setCell (p := ⟨g, 0, none⟩) (.inl hg) u0).setCell (p := ⟨g, 1, none⟩) (.inl hg) u1).setCell (p := ⟨g, 2, none⟩) (.inl hg) u2).setCell (p := ⟨g, 3, none⟩) (.inl hg) u3).setCell (p := ⟨g, 4, none⟩) (.inl hg) u4).setCell (p := ⟨g, 5, none⟩) (.inl hg) u5).setCell (p := ⟨g, 6, none⟩) (.inl hg) u6).setCell (p := ⟨g, 7, none⟩) (.inl hg) u7
theorem putS {B s t m : Nat} {A : Option Addr} {c : Nat} {L : List (Nat × Int)} {ad ep r n : Int} {C : cur.Cs} {w w3 : World} {rb : Nat} (h : Sp B s t m A c L ad ep r n C w3) (ht : lru.Tn (Bs s t m) w w3) (hlt : s < w.heap.size ∧ t < w.heap.size ∧ m < w.heap.size) (hrb : w.heap.size ≤ rb) (hx : w3.heap[rb]? = some zx8) (e id : Int) (A' : Option Addr) (n' c' : Nat) (b : Bool) :
    ∀ w4, w4 = set8 w3 rb (.int .i64 e) (.int .i64 0) (.int .i64 0) (.int .i64 0) (.int .i64 id) (.string ⟨#[]⟩) (.slice A' n' c') (.bool b) → w4.cell? ⟨rb, 0, none⟩ = some (.int .i64 e) ∧ w4.cell? ⟨rb, 1, none⟩ = some (.int .i64 0) ∧ w4.cell? ⟨rb, 2, none⟩ = some (.int .i64 0) ∧ w4.cell? ⟨rb, 3, none⟩ = some (.int .i64 0) ∧
      w4.cell? ⟨rb, 4, none⟩ = some (.int .i64 id) ∧ w4.cell? ⟨rb, 5, none⟩ = some (.string ⟨#[]⟩) ∧ w4.cell? ⟨rb, 6, none⟩ = some (.slice A' n' c') ∧ w4.cell? ⟨rb, 7, none⟩ = some (.bool b) ∧ SO B s t m (resP e id A' n' c' b) A c L ad ep r n C w (.returned (resP e id A' n' c' b)) w4 ∧ Below w.heap.size w3 w4 := fun w4 hw => by
  obtain ⟨p0, p1, p2, p3, p4, p5, p6, p7, hb⟩ := putP (a := w3) (B := w.heap.size) hrb hx (Below.refl _ _) e id A' n' c' b w4 hw
  refine ⟨p0, p1, p2, p3, p4, p5, p6, p7, ⟨rfl, h.low hlt hb, ?_⟩, hb⟩
  rw [hw]
  exact tn_set8 ht hrb _ _ _ _ _ _ _ _
def stkV (A : Option Addr) (n c : Nat) (ad : Int) : Value := .agg #[.slice A n c, .int .i64 ad]
set_option maxHeartbeats 3200000 in
theorem remove_no {B s t m : Nat} {A : Option Addr} {c : Nat} {L : List (Nat × Int)} {ad ep r n : Int} {C : cur.Cs} {w : World} (id : Int) (h : Sp B s t m A c L ad ep r n C w) (HRm : ∀ w', Below w.heap.size w w' → Calls Tryz.prog 64 #[stkV A L.length c ad, .int .i64 id] w' fun e w'' => e = .returned (.tuple #[stkV A L.length c ad, .int .i64 2]) ∧ Below w'.heap.size w' w'') :
    Calls Tryz.prog 55 #[.pointer (some ⟨s, 0, none⟩), .int .i64 id] w (SO B s t m (resP 2 0 none 0 0 false) A c L ad ep r n C w) := by
  obtain ⟨W1, hW1⟩ : ∃ W1, W1 = w.alloc (.cells #[.int .i64 0, .int .i64 0, .int .i64 0, .int .i64 0, .int .i64 0, .string ⟨#[]⟩, .slice none 0 0, .bool false] 26) := ⟨_, rfl⟩
  have hb1 : Below w.heap.size w W1 := by rw [hW1]; exact (Below.refl _ _).alloc (Nat.le_refl _) _
  have HX := Lib.hid (show W1.heap[w.heap.size]? = some zx8 by rw [hW1]; exact heap_alloc_new w _)
  have HB1 := Lib.hid hb1
  have HP1 := Lib.hid (h.later hb1)
  have HLt := Lib.hid h.lt
  have HW1 := Lib.hid hW1
  have HR := Lib.hid (HRm W1 hb1)
  have s0 := cell_of_blk HP1.out.blk 0
  have s1 := cell_of_blk HP1.out.blk 1
  clear hW1 hb1 h HRm
  unfold stkV at HR
  go_enter Tryz.func55, Tryz.ntmps55
  go_upto_region 1 with fail
  rw [← HW1.out]
  clear HW1
  go_wp2_with fail
  refine HR.out.mono ?_
  rintro e v1 ⟨rfl, hv1⟩
  obtain ⟨V, hV⟩ : ∃ V, V = v1.alloc (.cells #[.slice A L.length c, .int .i64 ad] 42) := ⟨_, rfl⟩
  have hbV : Below v1.heap.size v1 V := by rw [hV]; exact (Below.refl _ _).alloc (Nat.le_refl _) _
  have hb1V := hv1.trans (hbV.mono hv1.size)
  have HBV := Lib.hid (HB1.out.trans (hb1V.mono HB1.out.size))
  have ezx := ((hb1V.block _ (lt_of_some HX.out)).trans HX.out)
  have HPut := Lib.hid (putS (rb := w.heap.size) (HP1.out.later hb1V) (lru.Tn.of_below HBV.out _) HLt.out (Nat.le_refl _) ezx 2 0 none 0 0 false)
  have y0 := cell_of_blk ezx 0
  have z0 := free_of_blk ezx 0
  have y1 := cell_of_blk ezx 1
  have z1 := free_of_blk ezx 1
  have y2 := cell_of_blk ezx 2
  have z2 := free_of_blk ezx 2
  have y3 := cell_of_blk ezx 3
  have z3 := free_of_blk ezx 3
  have y4 := cell_of_blk ezx 4
  have z4 := free_of_blk ezx 4
  have y5 := cell_of_blk ezx 5
  have z5 := free_of_blk ezx 5
  have y6 := cell_of_blk ezx 6
  have z6 := free_of_blk ezx 6
  have y7 := cell_of_blk ezx 7
  have z7 := free_of_blk ezx 7
  clear ezx
  have HV := Lib.hid hV
  clear hV hbV hb1V hv1 HR s0 s1
  go_upto_region 2 with fail
  rw [← HV.out]
  go_wp2_with fail
  obtain ⟨p0, p1, p2, p3, p4, p5, p6, p7, HE, hbP⟩ := HPut.out _ rfl
  unfold set8 at p0 p1 p2 p3 p4 p5 p6 p7 HE hbP
  exact bodyPost_ret (v := resP 2 0 none 0 0 false) (by unfold resP; simp [results, Tryz.results55, go_sem, p0, p1, p2, p3, p4, p5, p6, p7]) rfl HE
end Go.Proofs.YtkigkdiphhecaaaGreat.tal
