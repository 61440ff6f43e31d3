/- What branch's readers of one node hand back: its fields, its names, and what is read of it. Conditions: the branch lies in memory; the file may be. What branch's readers of one node hand back: its fields, its names, the number of an entry, and what is read of it. Conditions: the branch lies in memory; names rise; the file may be. -/
import Derived.Test.YthpnmkfgodmnfaaDoorBraNew
namespace Go.Proofs.YthpnmkfgodmnfaaDoor.tre
set_option maxRecDepth 100000
open Go.RowKit Go.Proofs.YthpnmkfgodmnfaaDoor.words Go.Proofs.YthpnmkfgodmnfaaDoor.ext Go.Proofs.YthpnmkfgodmnfaaDoor.name

def zeroEnt : Value := .agg #[.int .i64 0, .bool false, .slice none 0 0, .slice none 0 0, .int .i64 0, .slice none 0 0, .string ⟨#[]⟩, .slice none 0 0]
def eCells (x : Nd) (r : Raw) (A : Option Addr) (l c : Nat) : Array Value :=
  #[.int .i64 x.K, .bool x.O, .slice r.An x.N.length r.cn, .slice r.Ai x.I.length r.ci, .int .i64 x.S, .slice r.Ae x.E.length r.ce, .string x.T, .slice A l c]
/-- Eight cells over eight cells. -/
theorem over8 {w : World} {g : Nat} {T : TypeId} {c0 c1 c2 c3 c4 c5 c6 c7 u0 u1 u2 u3 u4 u5 u6 u7 : Value} (h : w.heap[g]? = some (.cells #[c0, c1, c2, c3, c4, c5, c6, c7] T (0, 0))) :
    (w.setCells g 0 [u0, u1, u2, u3, u4, u5, u6, u7]).heap[g]? = some (.cells #[u0, u1, u2, u3, u4, u5, u6, u7] T (0, 0)) := by
  have h0 := heap_setCell_same w g 0 _ _ u0 h
  have h1 := heap_setCell_same _ g 1 _ _ u1 h0
  have h2 := heap_setCell_same _ g 2 _ _ u2 h1
  have h3 := heap_setCell_same _ g 3 _ _ u3 h2
  have h4 := heap_setCell_same _ g 4 _ _ u4 h3
  have h5 := heap_setCell_same _ g 5 _ _ u5 h4
  have h6 := heap_setCell_same _ g 6 _ _ u6 h5
  have h7 := heap_setCell_same _ g 7 _ _ u7 h6
  have he : w.setCells g 0 [u0, u1, u2, u3, u4, u5, u6, u7] = (((((((w.setCell ⟨g, 0, none⟩ u0).setCell ⟨g, 1, none⟩ u1).setCell ⟨g, 2, none⟩ u2).setCell ⟨g, 3, none⟩ u3).setCell ⟨g, 4, none⟩ u4).setCell ⟨g, 5, none⟩ u5).setCell ⟨g, 6, none⟩ u6).setCell ⟨g, 7, none⟩ u7 := by
    simp only [World.setCells, Nat.reduceAdd, Nat.zero_add]
  rw [he, h7]
  simp
/-- An entry, as it is read: its eight cells, and what they lead to. -/
structure EntIn (w : World) (B : Nat) (e : Ent) (r : Raw) (A : Option Addr) (c : Nat) : Prop where
  nd : NdAt w B e.x r
  ids : IntIn w (fun b => b < B) A e.ids
  cap : e.ids.length ≤ c
theorem EntIn.later {w w' : World} {e : Ent} {r : Raw} {A : Option Addr} {c : Nat} (h : EntIn w w.heap.size e r A c) (hb : Below w.heap.size w w') : EntIn w' w'.heap.size e r A c :=
  ⟨h.nd.later hb, h.ids.keep fun b hlt => ⟨hb.block b hlt, Nat.lt_of_lt_of_le hlt hb.size⟩, h.cap⟩
theorem Brn.at_ {w : World} {B g : Nat} {L : List Ent} (h : Brn w B g L) {k : Nat} {e : Ent} (he : L[k]? = some e) :
    ∃ A c b off r Ai ci, w.cell? ⟨g, 0, none⟩ = some (.slice A L.length c) ∧ A = some ⟨b, off, none⟩ ∧ b < B ∧ EntIn w B e r Ai ci ∧
      ∀ j v, (eCells e.x r Ai e.ids.length ci)[j]? = some v → w.cell? ⟨b, off + k * 8 + j, none⟩ = some v := by
  obtain ⟨_, A, c, cs, h2, h3, h4⟩ := h
  obtain ⟨r, Ai, ci, n1, n2, n3, n4⟩ := h4.2 k e he
  obtain ⟨b, off, e1, e2, _⟩ := h3 (k * 8 + 0) _ (n4 0 _ rfl)
  refine ⟨A, c, b, off, r, Ai, ci, cell_of_blk h2 0, e1, e2, ⟨n1.at_ fun b hb => hb, n2, n3⟩, fun j v hj => ?_⟩
  obtain ⟨b', off', e1', _, e3'⟩ := h3 (k * 8 + j) v (n4 j v (by rw [← Array.getElem?_toList] at hj; exact hj))
  rw [e1] at e1'
  injection e1' with e1'
  injection e1' with x1 x2
  subst x1 x2
  rw [Nat.add_assoc]
  exact e3'
def AtYes (e : Ent) (w : World) (en : Ending) (w' : World) : Prop :=
  ∃ r A c, en = .returned (.agg #[.int .i64 e.x.K, .bool e.x.O, .slice r.An e.x.N.length r.cn, .slice r.Ai e.x.I.length r.ci, .int .i64 e.x.S, .slice r.Ae e.x.E.length r.ce, .string e.x.T, .slice A e.ids.length c]) ∧ EntIn w' w'.heap.size e r A c ∧ Below w.heap.size w w'
set_option maxHeartbeats 3200000 in
theorem at_yes (g k : Nat) (L : List Ent) (e : Ent) (w : World) (h : Brn w w.heap.size g L) (he : L[k]? = some e) :
    Calls Tryd.prog 58 #[.pointer (some ⟨g, 0, none⟩), .int .i64 (k : Int)] w (AtYes e w) := by
  have hlt := (List.getElem?_eq_some_iff.1 he).1
  obtain ⟨W1, hW1⟩ : ∃ W1, W1 = w.alloc (.cells #[.int .i64 0, .bool false, .slice none 0 0, .slice none 0 0, .int .i64 0, .slice none 0 0, .string ⟨#[]⟩, .slice none 0 0] 95) := ⟨_, rfl⟩
  have hb1 : Below w.heap.size w W1 := by rw [hW1]; exact (Below.refl _ _).alloc (Nat.le_refl _) _
  have hx1 : W1.heap[w.heap.size]? = some (.cells #[.int .i64 0, .bool false, .slice none 0 0, .slice none 0 0, .int .i64 0, .slice none 0 0, .string ⟨#[]⟩, .slice none 0 0] 95 (0, 0)) := by rw [hW1]; exact heap_alloc_new w _
  obtain ⟨A, c, b, off, r, Ai, ci, cg, rfl, hbb, hen, hc⟩ := h.at_ he
  have cg := below_cell cg hb1
  have hc : ∀ j v, (eCells e.x r Ai e.ids.length ci)[j]? = some v → W1.cell? ⟨b, off + k * 8 + j, none⟩ = some v := fun j v hj => (hb1.cell (p := ⟨b, off + k * 8 + j, none⟩) hbb).trans (hc j v hj)
  have c0 : W1.cell? ⟨b, off + k * 8, none⟩ = some (.int .i64 e.x.K) := hc 0 _ rfl
  have c1 : W1.cell? ⟨b, off + k * 8 + 1, none⟩ = some (.bool e.x.O) := hc 1 _ rfl
  have c2 : W1.cell? ⟨b, off + k * 8 + 2, none⟩ = some (.slice r.An e.x.N.length r.cn) := hc 2 _ rfl
  have c3 : W1.cell? ⟨b, off + k * 8 + 3, none⟩ = some (.slice r.Ai e.x.I.length r.ci) := hc 3 _ rfl
  have c4 : W1.cell? ⟨b, off + k * 8 + 4, none⟩ = some (.int .i64 e.x.S) := hc 4 _ rfl
  have c5 : W1.cell? ⟨b, off + k * 8 + 5, none⟩ = some (.slice r.Ae e.x.E.length r.ce) := hc 5 _ rfl
  have c6 : W1.cell? ⟨b, off + k * 8 + 6, none⟩ = some (.string e.x.T) := hc 6 _ rfl
  have c7 : W1.cell? ⟨b, off + k * 8 + 7, none⟩ = some (.slice Ai e.ids.length ci) := hc 7 _ rfl
  have i0 : (0 : Int) ≤ (k : Int) := by omega
  have i1 : (k : Int) < (L.length : Int) := by omega
  have i2 : ¬ (L.length : Int) ≤ (k : Int) := by omega
  have i3 : ¬ (k : Int) < 0 := by omega
  have i4 : decide ((k : Int) < 0) = false := by simp
  have i5 : decide ((L.length : Int) ≤ (k : Int)) = false := by simp; omega
  have z0 := free_of_blk hx1 0
  have z1 := free_of_blk hx1 1
  have z2 := free_of_blk hx1 2
  have z3 := free_of_blk hx1 3
  have z4 := free_of_blk hx1 4
  have z5 := free_of_blk hx1 5
  have z6 := free_of_blk hx1 6
  have z7 := free_of_blk hx1 7
  have d0 : W1.cell? ⟨w.heap.size, 0, none⟩ = some (.int .i64 0) := cell_of_blk hx1 0
  have d1 : W1.cell? ⟨w.heap.size, 1, none⟩ = some (.bool false) := cell_of_blk hx1 1
  have d2 : W1.cell? ⟨w.heap.size, 2, none⟩ = some (.slice none 0 0) := cell_of_blk hx1 2
  have d3 : W1.cell? ⟨w.heap.size, 3, none⟩ = some (.slice none 0 0) := cell_of_blk hx1 3
  have d4 : W1.cell? ⟨w.heap.size, 4, none⟩ = some (.int .i64 0) := cell_of_blk hx1 4
  have d5 : W1.cell? ⟨w.heap.size, 5, none⟩ = some (.slice none 0 0) := cell_of_blk hx1 5
  have d6 : W1.cell? ⟨w.heap.size, 6, none⟩ = some (.string ⟨#[]⟩) := cell_of_blk hx1 6
  have d7 : W1.cell? ⟨w.heap.size, 7, none⟩ = some (.slice none 0 0) := cell_of_blk hx1 7
  obtain ⟨Wd, hWd⟩ : ∃ Wd, Wd = W1.setCells w.heap.size 0 (eCells e.x r Ai e.ids.length ci).toList := ⟨_, rfl⟩
  have hob : Wd.heap[w.heap.size]? = some (.cells (eCells e.x r Ai e.ids.length ci) 95 (0, 0)) := by rw [hWd]; exact over8 hx1
  have hs := size_setCells w.heap.size (eCells e.x r Ai e.ids.length ci).toList 0 W1
  have hBd := below_setCells (w := w) (B := w.heap.size) (g := w.heap.size) (Nat.le_refl _) (eCells e.x r Ai e.ids.length ci).toList 0 W1 hb1
  rw [← hWd] at hs hBd
  obtain ⟨p0, p1, p2, p3, p4, p5, p6, p7⟩ : Wd.cell? ⟨w.heap.size, 0, none⟩ = some (.int .i64 e.x.K) ∧ Wd.cell? ⟨w.heap.size, 1, none⟩ = some (.bool e.x.O) ∧ Wd.cell? ⟨w.heap.size, 2, none⟩ = some (.slice r.An e.x.N.length r.cn) ∧ Wd.cell? ⟨w.heap.size, 3, none⟩ = some (.slice r.Ai e.x.I.length r.ci) ∧ Wd.cell? ⟨w.heap.size, 4, none⟩ = some (.int .i64 e.x.S) ∧ Wd.cell? ⟨w.heap.size, 5, none⟩ = some (.slice r.Ae e.x.E.length r.ce) ∧ Wd.cell? ⟨w.heap.size, 6, none⟩ = some (.string e.x.T) ∧ Wd.cell? ⟨w.heap.size, 7, none⟩ = some (.slice Ai e.ids.length ci) :=
    ⟨cell_of_blk hob 0, cell_of_blk hob 1, cell_of_blk hob 2, cell_of_blk hob 3, cell_of_blk hob 4, cell_of_blk hob 5, cell_of_blk hob 6, cell_of_blk hob 7⟩
  have hWd' : (((((((W1.setCell ⟨w.heap.size, 0, none⟩ (.int .i64 e.x.K)).setCell ⟨w.heap.size, 1, none⟩ (.bool e.x.O)).setCell ⟨w.heap.size, 2, none⟩ (.slice r.An e.x.N.length r.cn)).setCell ⟨w.heap.size, 3, none⟩ (.slice r.Ai e.x.I.length r.ci)).setCell ⟨w.heap.size, 4, none⟩ (.int .i64 e.x.S)).setCell ⟨w.heap.size, 5, none⟩ (.slice r.Ae e.x.E.length r.ce)).setCell ⟨w.heap.size, 6, none⟩ (.string e.x.T)).setCell ⟨w.heap.size, 7, none⟩ (.slice Ai e.ids.length ci) = Wd := by rw [hWd]; rfl
  have HEn := Lib.hid (hen.later hBd)
  have HBd := Lib.hid hBd
  have HWd := Lib.hid hWd'
  have HW1 := Lib.hid hW1
  clear h he hW1 hb1 hx1 hen hc hWd hob hs hBd hWd'
  go_enter Tryd.func58, Tryd.ntmps58
  go_upto_region 1 with fail
  rw [← HW1.out]
  go_wp2_with fail
  rw [HWd.out]
  exact bodyPost_ret (v := .agg #[.int .i64 e.x.K, .bool e.x.O, .slice r.An e.x.N.length r.cn, .slice r.Ai e.x.I.length r.ci, .int .i64 e.x.S, .slice r.Ae e.x.E.length r.ce, .string e.x.T, .slice Ai e.ids.length ci]) (by simp [results, Tryd.results58, go_sem, p0, p1, p2, p3, p4, p5, p6, p7]) rfl ⟨r, Ai, ci, rfl, HEn.out, HBd.out⟩
set_option maxHeartbeats 3200000 in
theorem at_no (g : Nat) (i : Int) (L : List Ent) (w : World) (h : Brn w w.heap.size g L) (hi : i < 0 ∨ (L.length : Int) ≤ i) :
    Calls Tryd.prog 58 #[.pointer (some ⟨g, 0, none⟩), .int .i64 i] w fun e w' => e = .returned zeroEnt ∧ Below w.heap.size w w' := by
  obtain ⟨W1, hW1⟩ : ∃ W1, W1 = w.alloc (.cells #[.int .i64 0, .bool false, .slice none 0 0, .slice none 0 0, .int .i64 0, .slice none 0 0, .string ⟨#[]⟩, .slice none 0 0] 95) := ⟨_, rfl⟩
  have hb1 : Below w.heap.size w W1 := by rw [hW1]; exact (Below.refl _ _).alloc (Nat.le_refl _) _
  have hx1 : W1.heap[w.heap.size]? = some (.cells #[.int .i64 0, .bool false, .slice none 0 0, .slice none 0 0, .int .i64 0, .slice none 0 0, .string ⟨#[]⟩, .slice none 0 0] 95 (0, 0)) := by rw [hW1]; exact heap_alloc_new w _
  obtain ⟨_, A, c, cs, h2, _, _⟩ := h
  have cg : W1.cell? ⟨g, 0, none⟩ = some (.slice A L.length c) := below_cell (cell_of_blk h2 0) hb1
  have z0 := free_of_blk hx1 0
  have z1 := free_of_blk hx1 1
  have z2 := free_of_blk hx1 2
  have z3 := free_of_blk hx1 3
  have z4 := free_of_blk hx1 4
  have z5 := free_of_blk hx1 5
  have z6 := free_of_blk hx1 6
  have z7 := free_of_blk hx1 7
  have d0 : W1.cell? ⟨w.heap.size, 0, none⟩ = some (.int .i64 0) := cell_of_blk hx1 0
  have d1 : W1.cell? ⟨w.heap.size, 1, none⟩ = some (.bool false) := cell_of_blk hx1 1
  have d2 : W1.cell? ⟨w.heap.size, 2, none⟩ = some (.slice none 0 0) := cell_of_blk hx1 2
  have d3 : W1.cell? ⟨w.heap.size, 3, none⟩ = some (.slice none 0 0) := cell_of_blk hx1 3
  have d4 : W1.cell? ⟨w.heap.size, 4, none⟩ = some (.int .i64 0) := cell_of_blk hx1 4
  have d5 : W1.cell? ⟨w.heap.size, 5, none⟩ = some (.slice none 0 0) := cell_of_blk hx1 5
  have d6 : W1.cell? ⟨w.heap.size, 6, none⟩ = some (.string ⟨#[]⟩) := cell_of_blk hx1 6
  have d7 : W1.cell? ⟨w.heap.size, 7, none⟩ = some (.slice none 0 0) := cell_of_blk hx1 7
  obtain ⟨Wd, hWd⟩ : ∃ Wd, Wd = W1.setCells w.heap.size 0 [.int .i64 0, .bool false, .slice none 0 0, .slice none 0 0, .int .i64 0, .slice none 0 0, .string ⟨#[]⟩, .slice none 0 0] := ⟨_, rfl⟩
  have hob : Wd.heap[w.heap.size]? = some (.cells #[.int .i64 0, .bool false, .slice none 0 0, .slice none 0 0, .int .i64 0, .slice none 0 0, .string ⟨#[]⟩, .slice none 0 0] 95 (0, 0)) := by rw [hWd]; exact over8 hx1
  have hBd := below_setCells (w := w) (B := w.heap.size) (g := w.heap.size) (Nat.le_refl _) [.int .i64 0, .bool false, .slice none 0 0, .slice none 0 0, .int .i64 0, .slice none 0 0, .string ⟨#[]⟩, .slice none 0 0] 0 W1 hb1
  rw [← hWd] at hBd
  obtain ⟨p0, p1, p2, p3, p4, p5, p6, p7⟩ : Wd.cell? ⟨w.heap.size, 0, none⟩ = some (.int .i64 0) ∧ Wd.cell? ⟨w.heap.size, 1, none⟩ = some (.bool false) ∧ Wd.cell? ⟨w.heap.size, 2, none⟩ = some (.slice none 0 0) ∧ Wd.cell? ⟨w.heap.size, 3, none⟩ = some (.slice none 0 0) ∧ Wd.cell? ⟨w.heap.size, 4, none⟩ = some (.int .i64 0) ∧ Wd.cell? ⟨w.heap.size, 5, none⟩ = some (.slice none 0 0) ∧ Wd.cell? ⟨w.heap.size, 6, none⟩ = some (.string ⟨#[]⟩) ∧ Wd.cell? ⟨w.heap.size, 7, none⟩ = some (.slice none 0 0) :=
    ⟨cell_of_blk hob 0, cell_of_blk hob 1, cell_of_blk hob 2, cell_of_blk hob 3, cell_of_blk hob 4, cell_of_blk hob 5, cell_of_blk hob 6, cell_of_blk hob 7⟩
  have hWd' : (((((((W1.setCell ⟨w.heap.size, 0, none⟩ (.int .i64 0)).setCell ⟨w.heap.size, 1, none⟩ (.bool false)).setCell ⟨w.heap.size, 2, none⟩ (.slice none 0 0)).setCell ⟨w.heap.size, 3, none⟩ (.slice none 0 0)).setCell ⟨w.heap.size, 4, none⟩ (.int .i64 0)).setCell ⟨w.heap.size, 5, none⟩ (.slice none 0 0)).setCell ⟨w.heap.size, 6, none⟩ (.string ⟨#[]⟩)).setCell ⟨w.heap.size, 7, none⟩ (.slice none 0 0) = Wd := by rw [hWd]; rfl
  have HBd := Lib.hid hBd
  have HWd := Lib.hid hWd'
  have HW1 := Lib.hid hW1
  clear hW1 hb1 hx1 h2 hWd hob hBd hWd'
  rcases hi with hi | hi
  · have i4 : decide (i < 0) = true := by simpa using hi
    go_enter Tryd.func58, Tryd.ntmps58
    go_upto_region 1 with fail
    rw [← HW1.out]
    go_wp2_with fail
    rw [HWd.out]
    exact bodyPost_ret (v := zeroEnt) (by simp [results, Tryd.results58, go_sem, zeroEnt, p0, p1, p2, p3, p4, p5, p6, p7]) rfl ⟨rfl, HBd.out⟩
  · have i4 : decide (i < 0) = false := by simp; omega
    have i5 : decide ((L.length : Int) ≤ i) = true := by simpa using hi
    go_enter Tryd.func58, Tryd.ntmps58
    go_upto_region 1 with fail
    rw [← HW1.out]
    go_wp2_with fail
    rw [HWd.out]
    exact bodyPost_ret (v := zeroEnt) (by simp [results, Tryd.results58, go_sem, zeroEnt, p0, p1, p2, p3, p4, p5, p6, p7]) rfl ⟨rfl, HBd.out⟩
end Go.Proofs.YthpnmkfgodmnfaaDoor.tre

namespace Go.Proofs.YthpnmkfgodmnfaaDoor.tre
set_option maxRecDepth 100000
open Go.RowKit Go.Proofs.YthpnmkfgodmnfaaDoor.words Go.Proofs.YthpnmkfgodmnfaaDoor.ext Go.Proofs.YthpnmkfgodmnfaaDoor.name

set_option maxHeartbeats 800000 in
theorem bcount_any (g : Nat) (L : List Ent) (w : World) (h : Brn w w.heap.size g L) :
    Calls Tryd.prog 22 #[.pointer (some ⟨g, 0, none⟩)] w fun e w' => e = .returned (.int .i64 (L.length : Int)) ∧ w = w' := by
  obtain ⟨_, A, c, cs, h2, _, _⟩ := h
  have cg : w.cell? ⟨g, 0, none⟩ = some (.slice A L.length c) := cell_of_blk h2 0
  clear h2
  go_enter Tryd.func22, Tryd.ntmps22
  go_wp2_with fail
  go_ret
  exact ⟨rfl, rfl⟩
theorem field_node (x : Nd) (r : Raw) (A : Option Addr) (l c : Nat) (w : World) : Sem.run Tryd.prog (Instr.field 95 (.agg #[.int .i64 x.K, .bool x.O, .slice r.An x.N.length r.cn, .slice r.Ai x.I.length r.ci, .int .i64 x.S, .slice r.Ae x.E.length r.ce, .string x.T, .slice A l c]) 0) w = .ok (.agg #[.int .i64 x.K, .bool x.O, .slice r.An x.N.length r.cn, .slice r.Ai x.I.length r.ci, .int .i64 x.S, .slice r.Ae x.E.length r.ce, .string x.T]) w := by kernel_rfl
theorem field_zero (w : World) : Sem.run Tryd.prog (Instr.field 95 zeroEnt 0) w = .ok (.agg #[.int .i64 0, .bool false, .slice none 0 0, .slice none 0 0, .int .i64 0, .slice none 0 0, .string ⟨#[]⟩]) w := by kernel_rfl

set_option maxHeartbeats 800000 in
theorem bkind_yes (g k : Nat) (L : List Ent) (e : Ent) (w : World) (h : Brn w w.heap.size g L) (he : L[k]? = some e) :
    Calls Tryd.prog 23 #[.pointer (some ⟨g, 0, none⟩), .int .i64 (k : Int)] w fun en w' => en = .returned (.int .i64 e.x.K) ∧ Below w.heap.size w w' := by
  have H := Lib.hid (at_yes g k L e w h he)
  clear h he
  go_enter Tryd.func23, Tryd.ntmps23
  go_wp2_with fail
  refine H.out.mono ?_
  rintro en w1 ⟨r, A, c, rfl, _, hb⟩
  have hf1 : ∀ w' : World, Sem.run Tryd.prog (Instr.field 95 (.agg #[.int .i64 e.x.K, .bool e.x.O, .slice r.An e.x.N.length r.cn, .slice r.Ai e.x.I.length r.ci, .int .i64 e.x.S, .slice r.Ae e.x.E.length r.ce, .string e.x.T, .slice A e.ids.length c]) 0) w' = .ok (.agg #[.int .i64 e.x.K, .bool e.x.O, .slice r.An e.x.N.length r.cn, .slice r.Ai e.x.I.length r.ci, .int .i64 e.x.S, .slice r.Ae e.x.E.length r.ce, .string e.x.T]) w' := fun w' => field_node _ _ _ _ _ w'
  have hf2 : ∀ w' : World, Sem.run Tryd.prog (Instr.field 26 (.agg #[.int .i64 e.x.K, .bool e.x.O, .slice r.An e.x.N.length r.cn, .slice r.Ai e.x.I.length r.ci, .int .i64 e.x.S, .slice r.Ae e.x.E.length r.ce, .string e.x.T]) 0) w' = .ok (.int .i64 e.x.K) w' := fun _ => by kernel_rfl
  have HB := Lib.hid hb
  clear hb H
  go_wp2_with fail
  go_ret
  exact ⟨rfl, HB.out⟩
set_option maxHeartbeats 800000 in
theorem bkind_no (g : Nat) (i : Int) (L : List Ent) (w : World) (h : Brn w w.heap.size g L) (hi : i < 0 ∨ (L.length : Int) ≤ i) :
    Calls Tryd.prog 23 #[.pointer (some ⟨g, 0, none⟩), .int .i64 i] w fun en w' => en = .returned (.int .i64 0) ∧ Below w.heap.size w w' := by
  have H := Lib.hid (at_no g i L w h hi)
  clear h hi
  go_enter Tryd.func23, Tryd.ntmps23
  go_wp2_with fail
  refine H.out.mono ?_
  rintro en w1 ⟨rfl, hb⟩
  have hf1 : ∀ w' : World, Sem.run Tryd.prog (Instr.field 95 zeroEnt 0) w' = .ok (.agg #[.int .i64 0, .bool false, .slice none 0 0, .slice none 0 0, .int .i64 0, .slice none 0 0, .string ⟨#[]⟩]) w' := fun w' => field_zero w'
  have hf2 : ∀ w' : World, Sem.run Tryd.prog (Instr.field 26 (.agg #[.int .i64 0, .bool false, .slice none 0 0, .slice none 0 0, .int .i64 0, .slice none 0 0, .string ⟨#[]⟩]) 0) w' = .ok (.int .i64 0) w' := fun _ => by kernel_rfl
  have HB := Lib.hid hb
  clear hb H
  go_wp2_with fail
  go_ret
  exact ⟨rfl, HB.out⟩

set_option maxHeartbeats 800000 in
theorem bopaq_yes (g k : Nat) (L : List Ent) (e : Ent) (w : World) (h : Brn w w.heap.size g L) (he : L[k]? = some e) :
    Calls Tryd.prog 24 #[.pointer (some ⟨g, 0, none⟩), .int .i64 (k : Int)] w fun en w' => en = .returned (.bool e.x.O) ∧ Below w.heap.size w w' := by
  have H := Lib.hid (at_yes g k L e w h he)
  clear h he
  go_enter Tryd.func24, Tryd.ntmps24
  go_wp2_with fail
  refine H.out.mono ?_
  rintro en w1 ⟨r, A, c, rfl, _, hb⟩
  have hf1 : ∀ w' : World, Sem.run Tryd.prog (Instr.field 95 (.agg #[.int .i64 e.x.K, .bool e.x.O, .slice r.An e.x.N.length r.cn, .slice r.Ai e.x.I.length r.ci, .int .i64 e.x.S, .slice r.Ae e.x.E.length r.ce, .string e.x.T, .slice A e.ids.length c]) 0) w' = .ok (.agg #[.int .i64 e.x.K, .bool e.x.O, .slice r.An e.x.N.length r.cn, .slice r.Ai e.x.I.length r.ci, .int .i64 e.x.S, .slice r.Ae e.x.E.length r.ce, .string e.x.T]) w' := fun w' => field_node _ _ _ _ _ w'
  have hf2 : ∀ w' : World, Sem.run Tryd.prog (Instr.field 26 (.agg #[.int .i64 e.x.K, .bool e.x.O, .slice r.An e.x.N.length r.cn, .slice r.Ai e.x.I.length r.ci, .int .i64 e.x.S, .slice r.Ae e.x.E.length r.ce, .string e.x.T]) 1) w' = .ok (.bool e.x.O) w' := fun _ => by kernel_rfl
  have HB := Lib.hid hb
  clear hb H
  go_wp2_with fail
  go_ret
  exact ⟨rfl, HB.out⟩
set_option maxHeartbeats 800000 in
theorem bopaq_no (g : Nat) (i : Int) (L : List Ent) (w : World) (h : Brn w w.heap.size g L) (hi : i < 0 ∨ (L.length : Int) ≤ i) :
    Calls Tryd.prog 24 #[.pointer (some ⟨g, 0, none⟩), .int .i64 i] w fun en w' => en = .returned (.bool false) ∧ Below w.heap.size w w' := by
  have H := Lib.hid (at_no g i L w h hi)
  clear h hi
  go_enter Tryd.func24, Tryd.ntmps24
  go_wp2_with fail
  refine H.out.mono ?_
  rintro en w1 ⟨rfl, hb⟩
  have hf1 : ∀ w' : World, Sem.run Tryd.prog (Instr.field 95 zeroEnt 0) w' = .ok (.agg #[.int .i64 0, .bool false, .slice none 0 0, .slice none 0 0, .int .i64 0, .slice none 0 0, .string ⟨#[]⟩]) w' := fun w' => field_zero w'
  have hf2 : ∀ w' : World, Sem.run Tryd.prog (Instr.field 26 (.agg #[.int .i64 0, .bool false, .slice none 0 0, .slice none 0 0, .int .i64 0, .slice none 0 0, .string ⟨#[]⟩]) 1) w' = .ok (.bool false) w' := fun _ => by kernel_rfl
  have HB := Lib.hid hb
  clear hb H
  go_wp2_with fail
  go_ret
  exact ⟨rfl, HB.out⟩

set_option maxHeartbeats 800000 in
theorem bsize_yes (g k : Nat) (L : List Ent) (e : Ent) (w : World) (h : Brn w w.heap.size g L) (he : L[k]? = some e) :
    Calls Tryd.prog 25 #[.pointer (some ⟨g, 0, none⟩), .int .i64 (k : Int)] w fun en w' => en = .returned (.int .i64 e.x.S) ∧ Below w.heap.size w w' := by
  have H := Lib.hid (at_yes g k L e w h he)
  clear h he
  go_enter Tryd.func25, Tryd.ntmps25
  go_wp2_with fail
  refine H.out.mono ?_
  rintro en w1 ⟨r, A, c, rfl, _, hb⟩
  have hf1 : ∀ w' : World, Sem.run Tryd.prog (Instr.field 95 (.agg #[.int .i64 e.x.K, .bool e.x.O, .slice r.An e.x.N.length r.cn, .slice r.Ai e.x.I.length r.ci, .int .i64 e.x.S, .slice r.Ae e.x.E.length r.ce, .string e.x.T, .slice A e.ids.length c]) 0) w' = .ok (.agg #[.int .i64 e.x.K, .bool e.x.O, .slice r.An e.x.N.length r.cn, .slice r.Ai e.x.I.length r.ci, .int .i64 e.x.S, .slice r.Ae e.x.E.length r.ce, .string e.x.T]) w' := fun w' => field_node _ _ _ _ _ w'
  have hf2 : ∀ w' : World, Sem.run Tryd.prog (Instr.field 26 (.agg #[.int .i64 e.x.K, .bool e.x.O, .slice r.An e.x.N.length r.cn, .slice r.Ai e.x.I.length r.ci, .int .i64 e.x.S, .slice r.Ae e.x.E.length r.ce, .string e.x.T]) 4) w' = .ok (.int .i64 e.x.S) w' := fun _ => by kernel_rfl
  have HB := Lib.hid hb
  clear hb H
  go_wp2_with fail
  go_ret
  exact ⟨rfl, HB.out⟩
set_option maxHeartbeats 800000 in
theorem bsize_no (g : Nat) (i : Int) (L : List Ent) (w : World) (h : Brn w w.heap.size g L) (hi : i < 0 ∨ (L.length : Int) ≤ i) :
    Calls Tryd.prog 25 #[.pointer (some ⟨g, 0, none⟩), .int .i64 i] w fun en w' => en = .returned (.int .i64 0) ∧ Below w.heap.size w w' := by
  have H := Lib.hid (at_no g i L w h hi)
  clear h hi
  go_enter Tryd.func25, Tryd.ntmps25
  go_wp2_with fail
  refine H.out.mono ?_
  rintro en w1 ⟨rfl, hb⟩
  have hf1 : ∀ w' : World, Sem.run Tryd.prog (Instr.field 95 zeroEnt 0) w' = .ok (.agg #[.int .i64 0, .bool false, .slice none 0 0, .slice none 0 0, .int .i64 0, .slice none 0 0, .string ⟨#[]⟩]) w' := fun w' => field_zero w'
  have hf2 : ∀ w' : World, Sem.run Tryd.prog (Instr.field 26 (.agg #[.int .i64 0, .bool false, .slice none 0 0, .slice none 0 0, .int .i64 0, .slice none 0 0, .string ⟨#[]⟩]) 4) w' = .ok (.int .i64 0) w' := fun _ => by kernel_rfl
  have HB := Lib.hid hb
  clear hb H
  go_wp2_with fail
  go_ret
  exact ⟨rfl, HB.out⟩

set_option maxHeartbeats 800000 in
theorem btarget_yes (g k : Nat) (L : List Ent) (e : Ent) (w : World) (h : Brn w w.heap.size g L) (he : L[k]? = some e) :
    Calls Tryd.prog 26 #[.pointer (some ⟨g, 0, none⟩), .int .i64 (k : Int)] w fun en w' => en = .returned (.string e.x.T) ∧ Below w.heap.size w w' := by
  have H := Lib.hid (at_yes g k L e w h he)
  clear h he
  go_enter Tryd.func26, Tryd.ntmps26
  go_wp2_with fail
  refine H.out.mono ?_
  rintro en w1 ⟨r, A, c, rfl, _, hb⟩
  have hf1 : ∀ w' : World, Sem.run Tryd.prog (Instr.field 95 (.agg #[.int .i64 e.x.K, .bool e.x.O, .slice r.An e.x.N.length r.cn, .slice r.Ai e.x.I.length r.ci, .int .i64 e.x.S, .slice r.Ae e.x.E.length r.ce, .string e.x.T, .slice A e.ids.length c]) 0) w' = .ok (.agg #[.int .i64 e.x.K, .bool e.x.O, .slice r.An e.x.N.length r.cn, .slice r.Ai e.x.I.length r.ci, .int .i64 e.x.S, .slice r.Ae e.x.E.length r.ce, .string e.x.T]) w' := fun w' => field_node _ _ _ _ _ w'
  have hf2 : ∀ w' : World, Sem.run Tryd.prog (Instr.field 26 (.agg #[.int .i64 e.x.K, .bool e.x.O, .slice r.An e.x.N.length r.cn, .slice r.Ai e.x.I.length r.ci, .int .i64 e.x.S, .slice r.Ae e.x.E.length r.ce, .string e.x.T]) 6) w' = .ok (.string e.x.T) w' := fun _ => by kernel_rfl
  have HB := Lib.hid hb
  clear hb H
  go_wp2_with fail
  go_ret
  exact ⟨rfl, HB.out⟩
set_option maxHeartbeats 800000 in
theorem btarget_no (g : Nat) (i : Int) (L : List Ent) (w : World) (h : Brn w w.heap.size g L) (hi : i < 0 ∨ (L.length : Int) ≤ i) :
    Calls Tryd.prog 26 #[.pointer (some ⟨g, 0, none⟩), .int .i64 i] w fun en w' => en = .returned (.string ⟨#[]⟩) ∧ Below w.heap.size w w' := by
  have H := Lib.hid (at_no g i L w h hi)
  clear h hi
  go_enter Tryd.func26, Tryd.ntmps26
  go_wp2_with fail
  refine H.out.mono ?_
  rintro en w1 ⟨rfl, hb⟩
  have hf1 : ∀ w' : World, Sem.run Tryd.prog (Instr.field 95 zeroEnt 0) w' = .ok (.agg #[.int .i64 0, .bool false, .slice none 0 0, .slice none 0 0, .int .i64 0, .slice none 0 0, .string ⟨#[]⟩]) w' := fun w' => field_zero w'
  have hf2 : ∀ w' : World, Sem.run Tryd.prog (Instr.field 26 (.agg #[.int .i64 0, .bool false, .slice none 0 0, .slice none 0 0, .int .i64 0, .slice none 0 0, .string ⟨#[]⟩]) 6) w' = .ok (.string ⟨#[]⟩) w' := fun _ => by kernel_rfl
  have HB := Lib.hid hb
  clear hb H
  go_wp2_with fail
  go_ret
  exact ⟨rfl, HB.out⟩

def NamesOf (N : List ByteArray) (w : World) (en : Ending) (w' : World) : Prop := ∃ A c, en = .returned (.slice A N.length c) ∧ N.length ≤ c ∧ (A = none → N.length = 0 ∧ c = 0) ∧ Txts w' w'.heap.size A N ∧ Below w.heap.size w w'
set_option maxHeartbeats 1600000 in
theorem bnames_yes (g k : Nat) (L : List Ent) (e : Ent) (w : World) (h : Brn w w.heap.size g L) (he : L[k]? = some e) :
    Calls Tryd.prog 28 #[.pointer (some ⟨g, 0, none⟩), .int .i64 (k : Int)] w (NamesOf e.x.N w) := by
  have H := Lib.hid (at_yes g k L e w h he)
  clear h he
  go_enter Tryd.func28, Tryd.ntmps28
  go_wp2_with fail
  refine H.out.mono ?_
  rintro en w1 ⟨r, A, c, rfl, hen, hb⟩
  have hf1 : ∀ w' : World, Sem.run Tryd.prog (Instr.field 95 (.agg #[.int .i64 e.x.K, .bool e.x.O, .slice r.An e.x.N.length r.cn, .slice r.Ai e.x.I.length r.ci, .int .i64 e.x.S, .slice r.Ae e.x.E.length r.ce, .string e.x.T, .slice A e.ids.length c]) 0) w' = .ok (.agg #[.int .i64 e.x.K, .bool e.x.O, .slice r.An e.x.N.length r.cn, .slice r.Ai e.x.I.length r.ci, .int .i64 e.x.S, .slice r.Ae e.x.E.length r.ce, .string e.x.T]) w' := fun w' => field_node _ _ _ _ _ w'
  have hf2 : ∀ w' : World, Sem.run Tryd.prog (Instr.field 26 (.agg #[.int .i64 e.x.K, .bool e.x.O, .slice r.An e.x.N.length r.cn, .slice r.Ai e.x.I.length r.ci, .int .i64 e.x.S, .slice r.Ae e.x.E.length r.ce, .string e.x.T]) 2) w' = .ok (.slice r.An e.x.N.length r.cn) w' := fun _ => by kernel_rfl
  have HC := Lib.hid ((copy_txt r.An e.x.N.length r.cn _ w1 (lies_txt hen.nd.names) hen.nd.fit.zn hen.nd.fit.ln (by rw [List.length_map, Nat.mul_one]) (txtCells_one e.x.N)).mono fun _ _ h => own_of h)
  have HB := Lib.hid hb
  have HE := Lib.hid hen
  clear hb H hen
  go_wp2_with fail
  refine HC.out.mono ?_
  rintro en w2 ⟨A3, c3, rfl, h31, h32, ho3, hb2⟩
  have hT : Txts w2 w2.heap.size A3 e.x.N := (own_txt ho3 fun i x hx => (HE.out.nd.names i x hx).2).txts fun b hb => hb.2
  have HT := Lib.hid hT
  have HB2 := Lib.hid (HB.out.trans (hb2.mono HB.out.size))
  have HH := Lib.hid (And.intro h31 h32)
  clear hT ho3 hb2 h31 h32 HC
  go_wp2_with fail
  go_ret
  exact ⟨_, _, rfl, HH.out.1, HH.out.2, HT.out, HB2.out⟩
set_option maxHeartbeats 1600000 in
theorem bnames_no (g : Nat) (i : Int) (L : List Ent) (w : World) (h : Brn w w.heap.size g L) (hi : i < 0 ∨ (L.length : Int) ≤ i) :
    Calls Tryd.prog 28 #[.pointer (some ⟨g, 0, none⟩), .int .i64 i] w (NamesOf [] w) := by
  have H := Lib.hid (at_no g i L w h hi)
  clear h hi
  go_enter Tryd.func28, Tryd.ntmps28
  go_wp2_with fail
  refine H.out.mono ?_
  rintro en w1 ⟨rfl, hb⟩
  have hf1 : ∀ w' : World, Sem.run Tryd.prog (Instr.field 95 zeroEnt 0) w' = .ok (.agg #[.int .i64 0, .bool false, .slice none 0 0, .slice none 0 0, .int .i64 0, .slice none 0 0, .string ⟨#[]⟩]) w' := fun w' => field_zero w'
  have hf2 : ∀ w' : World, Sem.run Tryd.prog (Instr.field 26 (.agg #[.int .i64 0, .bool false, .slice none 0 0, .slice none 0 0, .int .i64 0, .slice none 0 0, .string ⟨#[]⟩]) 2) w' = .ok (.slice none 0 0) w' := fun _ => by kernel_rfl
  have HC := Lib.hid ((copy_txt none 0 0 [] w1 (fun j u hu => (no_at hu).elim) (fun _ => ⟨rfl, rfl⟩) (by decide) rfl (fun u hu => by simp at hu)).mono fun _ _ h => own_of h)
  have HB := Lib.hid hb
  clear hb H
  go_wp2_with fail
  refine HC.out.mono ?_
  rintro en w2 ⟨A3, c3, rfl, h31, h32, ho3, hb2⟩
  have HB2 := Lib.hid (HB.out.trans (hb2.mono HB.out.size))
  have HH := Lib.hid (And.intro h31 h32)
  clear ho3 hb2 h31 h32 HC
  go_wp2_with fail
  go_ret
  exact ⟨_, _, rfl, Nat.zero_le _, fun h => ⟨rfl, (HH.out.2 h).2⟩, fun _ _ hx => (no_at hx).elim, HB2.out⟩

def Reads (l : List UInt8) (w : World) (en : Ending) (w' : World) : Prop := (∃ s : ByteArray, en = .returned (.string s) ∧ s.data.toList = l) ∧ Below w.heap.size w w'
set_option maxHeartbeats 1600000 in
theorem bread_yes (g k : Nat) (L : List Ent) (e : Ent) (off n : Int) (w : World) (h : Brn w w.heap.size g L) (he : L[k]? = some e) (hr : rightB e.x.S e.x.E = true) (ho1 : -9223372036854775808 ≤ off) (ho2 : off ≤ 9223372036854775807) (hn1 : -9223372036854775808 ≤ n) (hn2 : n ≤ 9223372036854775807) :
    Calls Tryd.prog 29 #[.pointer (some ⟨g, 0, none⟩), .int .i64 (k : Int), .int .i64 off, .int .i64 n] w (Reads (readB e.x.S e.x.E off n) w) := by
  have H := Lib.hid (at_yes g k L e w h he)
  clear h he
  go_enter Tryd.func29, Tryd.ntmps29
  go_wp2_with fail
  refine H.out.mono ?_
  rintro en w1 ⟨r, A, c, rfl, hen, hb⟩
  obtain ⟨W2, hW2⟩ : ∃ W2, W2 = w1.alloc (.cells #[.int .i64 e.x.K, .bool e.x.O, .slice r.An e.x.N.length r.cn, .slice r.Ai e.x.I.length r.ci, .int .i64 e.x.S, .slice r.Ae e.x.E.length r.ce, .string e.x.T, .slice A e.ids.length c] 95) := ⟨_, rfl⟩
  have hb2 : Below w1.heap.size w1 W2 := by rw [hW2]; exact (Below.refl _ _).alloc (Nat.le_refl _) _
  have hx2 : W2.heap[w1.heap.size]? = some (.cells #[.int .i64 e.x.K, .bool e.x.O, .slice r.An e.x.N.length r.cn, .slice r.Ai e.x.I.length r.ci, .int .i64 e.x.S, .slice r.Ae e.x.E.length r.ce, .string e.x.T, .slice A e.ids.length c] 95 (0, 0)) := by rw [hW2]; exact heap_alloc_new w1 _
  have c4 : W2.cell? ⟨w1.heap.size, 4, none⟩ = some (.int .i64 e.x.S) := cell_of_blk hx2 4
  have c5 : W2.cell? ⟨w1.heap.size, 5, none⟩ = some (.slice r.Ae e.x.E.length r.ce) := cell_of_blk hx2 5
  have hen2 := hen.later hb2
  have hle := hen2.nd.fit.le
  have HC := Lib.hid (read_any e.x.S off n r.Ae r.ce e.x.E W2 hen2.nd.exts (by omega) hen2.nd.fit.ce hr ho1 ho2 hn1 hn2)
  have HB2 := Lib.hid (hb.trans (hb2.mono hb.size))
  have HW2 := Lib.hid hW2
  clear hb H hen hen2 hb2 hx2 hW2 hle hr
  go_upto_region 2 with fail
  rw [← HW2.out]
  go_wp2_with fail
  refine HC.out.mono ?_
  rintro en w3 ⟨⟨s, rfl, hs⟩, hb3⟩
  have HS := Lib.hid hs
  have HB3 := Lib.hid (HB2.out.trans (hb3.mono HB2.out.size))
  clear hs hb3 HC c4 c5 HW2
  go_wp2_with fail
  go_ret
  exact ⟨⟨_, rfl, HS.out⟩, HB3.out⟩
set_option maxHeartbeats 1600000 in
theorem bread_no (g : Nat) (i : Int) (L : List Ent) (off n : Int) (w : World) (h : Brn w w.heap.size g L) (hi : i < 0 ∨ (L.length : Int) ≤ i) (ho1 : -9223372036854775808 ≤ off) (ho2 : off ≤ 9223372036854775807) (hn1 : -9223372036854775808 ≤ n) (hn2 : n ≤ 9223372036854775807) :
    Calls Tryd.prog 29 #[.pointer (some ⟨g, 0, none⟩), .int .i64 i, .int .i64 off, .int .i64 n] w (Reads (readB 0 [] off n) w) := by
  have H := Lib.hid (at_no g i L w h hi)
  clear h hi
  go_enter Tryd.func29, Tryd.ntmps29
  go_wp2_with fail
  refine H.out.mono ?_
  rintro en w1 ⟨rfl, hb⟩
  obtain ⟨W2, hW2⟩ : ∃ W2, W2 = w1.alloc (.cells #[.int .i64 0, .bool false, .slice none 0 0, .slice none 0 0, .int .i64 0, .slice none 0 0, .string ⟨#[]⟩, .slice none 0 0] 95) := ⟨_, rfl⟩
  have hb2 : Below w1.heap.size w1 W2 := by rw [hW2]; exact (Below.refl _ _).alloc (Nat.le_refl _) _
  have hx2 : W2.heap[w1.heap.size]? = some (.cells #[.int .i64 0, .bool false, .slice none 0 0, .slice none 0 0, .int .i64 0, .slice none 0 0, .string ⟨#[]⟩, .slice none 0 0] 95 (0, 0)) := by rw [hW2]; exact heap_alloc_new w1 _
  have c4 : W2.cell? ⟨w1.heap.size, 4, none⟩ = some (.int .i64 0) := cell_of_blk hx2 4
  have c5 : W2.cell? ⟨w1.heap.size, 5, none⟩ = some (.slice none 0 0) := cell_of_blk hx2 5
  have HC := Lib.hid (read_any 0 off n none 0 [] W2 (fun _ _ hx => (no_at hx).elim) (by decide) (by decide) (by decide) ho1 ho2 hn1 hn2)
  have HB2 := Lib.hid (hb.trans (hb2.mono hb.size))
  have HW2 := Lib.hid hW2
  clear hb H hb2 hx2 hW2
  unfold zeroEnt
  go_upto_region 2 with fail
  rw [← HW2.out]
  go_wp2_with fail
  refine HC.out.mono ?_
  rintro en w3 ⟨⟨s, rfl, hs⟩, hb3⟩
  have HS := Lib.hid hs
  have HB3 := Lib.hid (HB2.out.trans (hb3.mono HB2.out.size))
  clear hs hb3 HC c4 c5 HW2
  go_wp2_with fail
  go_ret
  exact ⟨⟨_, rfl, HS.out⟩, HB3.out⟩

def Looks (N : List ByteArray) (ids : List Nat) (s : ByteArray) (w : World) (en : Ending) (w' : World) : Prop :=
  ((∃ (i id : Nat), N[i]? = some s ∧ ids[i]? = some id ∧ en = .returned (.tuple #[.int .i64 (id : Int), .bool true])) ∨ (en = .returned (.tuple #[.int .i64 0, .bool false]) ∧ ∀ j : Nat, N[j]? ≠ some s)) ∧ Below w.heap.size w w'
set_option maxHeartbeats 1600000 in
theorem blook_yes (g k : Nat) (L : List Ent) (e : Ent) (s : ByteArray) (w : World) (h : Brn w w.heap.size g L) (he : L[k]? = some e) (hasc : Asc e.x.N) (hlen : e.ids.length = e.x.N.length) :
    Calls Tryd.prog 30 #[.pointer (some ⟨g, 0, none⟩), .int .i64 (k : Int), .string s] w (Looks e.x.N e.ids s w) := by
  have H := Lib.hid (at_yes g k L e w h he)
  clear h he
  go_enter Tryd.func30, Tryd.ntmps30
  go_wp2_with fail
  refine H.out.mono ?_
  rintro en w1 ⟨r, A, c, rfl, hen, hb⟩
  obtain ⟨W2, hW2⟩ : ∃ W2, W2 = w1.alloc (.cells #[.int .i64 e.x.K, .bool e.x.O, .slice r.An e.x.N.length r.cn, .slice r.Ai e.x.I.length r.ci, .int .i64 e.x.S, .slice r.Ae e.x.E.length r.ce, .string e.x.T, .slice A e.ids.length c] 95) := ⟨_, rfl⟩
  have hb2 : Below w1.heap.size w1 W2 := by rw [hW2]; exact (Below.refl _ _).alloc (Nat.le_refl _) _
  have hx2 : W2.heap[w1.heap.size]? = some (.cells #[.int .i64 e.x.K, .bool e.x.O, .slice r.An e.x.N.length r.cn, .slice r.Ai e.x.I.length r.ci, .int .i64 e.x.S, .slice r.Ae e.x.E.length r.ce, .string e.x.T, .slice A e.ids.length c] 95 (0, 0)) := by rw [hW2]; exact heap_alloc_new w1 _
  have c2 : W2.cell? ⟨w1.heap.size, 2, none⟩ = some (.slice r.An e.x.N.length r.cn) := cell_of_blk hx2 2
  have c7 : W2.cell? ⟨w1.heap.size, 7, none⟩ = some (.slice A e.ids.length c) := cell_of_blk hx2 7
  have hen2 := hen.later hb2
  have hle := hen2.nd.fit.ln
  have HC := Lib.hid (search_txt r.An r.cn e.x.N s W2 hen2.nd.names (by omega) hasc)
  have HB2 := Lib.hid (hb.trans (hb2.mono hb.size))
  have HW2 := Lib.hid hW2
  have HI := Lib.hid hen2.ids
  have HL := Lib.hid hlen
  clear hb H hen hen2 hb2 hx2 hW2 hle hlen
  go_upto_region 2 with fail
  rw [← HW2.out]
  go_wp2_with fail
  refine HC.out.mono ?_
  rintro en w3 ⟨⟨i, rfl, hi⟩ | ⟨i, rfl, hno⟩, rfl⟩
  · have hlt := (List.getElem?_eq_some_iff.1 hi).1
    have hlt2 : i < e.ids.length := by have := HL.out; omega
    obtain ⟨id, hid⟩ : ∃ id, e.ids[i]? = some id := ⟨_, List.getElem?_eq_getElem hlt2⟩
    obtain ⟨b, off, rfl, _, hc⟩ := HI.out i id hid
    have i0 : (0 : Int) ≤ (i : Int) := by omega
    have i1 : (i : Int) < (e.ids.length : Int) := by omega
    have H1 := Lib.hid hi
    have H2 := Lib.hid hid
    clear hi hid HC HW2
    go_wp2_with fail
    go_ret2
    exact ⟨.inl ⟨i, id, H1.out, H2.out, rfl⟩, HB2.out⟩
  · have HF := Lib.hid hno
    clear hno HC HW2
    go_wp2_with fail
    go_ret2
    exact ⟨.inr ⟨rfl, HF.out⟩, HB2.out⟩
set_option maxHeartbeats 1600000 in
theorem blook_no (g : Nat) (i : Int) (L : List Ent) (s : ByteArray) (w : World) (h : Brn w w.heap.size g L) (hi : i < 0 ∨ (L.length : Int) ≤ i) :
    Calls Tryd.prog 30 #[.pointer (some ⟨g, 0, none⟩), .int .i64 i, .string s] w fun en w' => en = .returned (.tuple #[.int .i64 0, .bool false]) ∧ Below w.heap.size w w' := by
  have H := Lib.hid (at_no g i L w h hi)
  clear h hi
  go_enter Tryd.func30, Tryd.ntmps30
  go_wp2_with fail
  refine H.out.mono ?_
  rintro en w1 ⟨rfl, hb⟩
  obtain ⟨W2, hW2⟩ : ∃ W2, W2 = w1.alloc (.cells #[.int .i64 0, .bool false, .slice none 0 0, .slice none 0 0, .int .i64 0, .slice none 0 0, .string ⟨#[]⟩, .slice none 0 0] 95) := ⟨_, rfl⟩
  have hb2 : Below w1.heap.size w1 W2 := by rw [hW2]; exact (Below.refl _ _).alloc (Nat.le_refl _) _
  have hx2 : W2.heap[w1.heap.size]? = some (.cells #[.int .i64 0, .bool false, .slice none 0 0, .slice none 0 0, .int .i64 0, .slice none 0 0, .string ⟨#[]⟩, .slice none 0 0] 95 (0, 0)) := by rw [hW2]; exact heap_alloc_new w1 _
  have c2 : W2.cell? ⟨w1.heap.size, 2, none⟩ = some (.slice none 0 0) := cell_of_blk hx2 2
  have c7 : W2.cell? ⟨w1.heap.size, 7, none⟩ = some (.slice none 0 0) := cell_of_blk hx2 7
  have HC := Lib.hid (search_txt none 0 [] s W2 (fun _ _ hx => (no_at hx).elim) (by decide) (fun _ _ _ _ _ hx => (no_at hx).elim))
  have HB2 := Lib.hid (hb.trans (hb2.mono hb.size))
  have HW2 := Lib.hid hW2
  clear hb H hb2 hx2 hW2
  unfold zeroEnt
  go_upto_region 2 with fail
  rw [← HW2.out]
  go_wp2_with fail
  refine HC.out.mono ?_
  rintro en w3 ⟨⟨j, rfl, hj⟩ | ⟨j, rfl, hno⟩, rfl⟩
  · exact (no_at hj).elim
  · clear hno HC HW2
    go_wp2_with fail
    go_ret2
    exact ⟨rfl, HB2.out⟩
end Go.Proofs.YthpnmkfgodmnfaaDoor.tre
