/- What Link and Opaque hand back: nodes. Condition: the text is such as was read. -/
import Derived.Test.YtmmpceodhadipaaDoorJH
namespace Go.Proofs.YtmmpceodhadipaaDoor.tre
set_option maxRecDepth 100000
open Go.RowKit Go.Proofs.YtmmpceodhadipaaDoor.words Go.Proofs.YtmmpceodhadipaaDoor.ext Go.Proofs.YtmmpceodhadipaaDoor.name

set_option maxHeartbeats 800000 in
theorem link_any (t : ByteArray) (w : World) (ht : t.size ≤ 140737488355328) : Calls Tryd.prog 86 #[.string t] w (Built (linkN t) w) := by
  go_enter Tryd.func86, Tryd.ntmps86
  go_wp2_with fail
  obtain ⟨Wd, hWd⟩ : ∃ Wd, Wd = w.alloc (.cells (rawCells (linkN t) raw0) 39) := ⟨_, rfl⟩
  have hB : Below w.heap.size w Wd := by rw [hWd]; exact (Below.refl _ _).alloc (Nat.le_refl _) _
  have hX : Box Wd w.heap.size (linkN t) raw0 := by rw [hWd]; exact Box.new w (linkN t) raw0
  obtain ⟨p0, p1, p2, p3, p4, p5, p6⟩ := hX.cells
  have hWd' : w.alloc (.cells #[.int .i64 3, .bool false, .slice none 0 0, .slice none 0 0, .int .i64 0, .slice none 0 0, .string t] 39) = Wd := hWd.symm
  rw [hWd']
  exact bodyPost_ret (v := ndV (linkN t) raw0) (by unfold ndV rawCells; simp [results, Tryd.results86, go_sem, p0, p1, p2, p3, p4, p5, p6]) rfl ⟨raw0, rfl, bare_at _ _ _ _ (fit0 3 t (by decide) (by decide) ht), hB⟩

theorem NdAt.opq {w : World} {B : Nat} {n : Nd} {r : Raw} (h : NdAt w B n r) : NdAt w B (opaqueN n) r := by
  cases n with
  | mk K O N I S E T =>
    cases h with
    | mk rs fit names exts cells items =>
      exact .mk rs ⟨fit.k1, fit.k2, fit.s1, fit.s2, fit.t, fit.ln, fit.li, fit.le, fit.cn, fit.ci, fit.ce, fit.zn, fit.zi, fit.ze⟩ names exts cells items
set_option maxHeartbeats 3200000 in
theorem opaque_any (n : Nd) (r : Raw) (w : World) : Calls Tryd.prog 22 #[ndV n r] w fun e w' => e = .returned (ndV (opaqueN n) r) ∧ Below w.heap.size w w' := by
  obtain ⟨W1, hW1⟩ : ∃ W1, W1 = (w.alloc (.cells (rawCells n r) 39)).alloc (.cells (rawCells nd0 raw0) 39) := ⟨_, rfl⟩
  have hT := Two.new w n r nd0 raw0
  rw [← hW1] at hT
  have HT := Lib.hid hT
  have hW1' : W1 = (w.alloc (.cells #[.int .i64 n.K, .bool n.O, .slice r.An n.N.length r.cn, .slice r.Ai n.I.length r.ci, .int .i64 n.S, .slice r.Ae n.E.length r.ce, .string n.T] 39)).alloc (.cells #[.int .i64 0, .bool false, .slice none 0 0, .slice none 0 0, .int .i64 0, .slice none 0 0, .string ⟨#[]⟩] 39) := hW1
  have HW1 := Lib.hid hW1'
  clear hT hW1 hW1'
  unfold ndV rawCells
  go_enter Tryd.func22, Tryd.ntmps22
  go_upto_region 1 with fail
  rw [← HW1.out]
  obtain ⟨b0, b1, b2, b3, b4, b5, b6⟩ := HT.out.x.cells
  have y1 := free_of_blk HT.out.x 1
  obtain ⟨W2, hW2⟩ : ∃ W2, W2 = W1.setCell ⟨w.heap.size, 1, none⟩ (.bool true) := ⟨_, rfl⟩
  have hX2 : Box W2 w.heap.size (opaqueN n) r := by
    rw [hW2]
    cases n
    have h := heap_setCell_same W1 w.heap.size 1 _ _ (.bool true) HT.out.x
    exact h
  have hO2 : Box W2 (w.heap.size + 1) nd0 raw0 := by rw [hW2]; exact HT.out.y.far _ _ (by show w.heap.size + 1 ≠ w.heap.size; omega)
  have hB2 : Below w.heap.size w W2 := by rw [hW2]; exact HT.out.b.setCell (p := ⟨w.heap.size, 1, none⟩) (Nat.le_refl _) _
  have HX2 := Lib.hid hX2
  have HO2 := Lib.hid hO2
  have HB2 := Lib.hid hB2
  have HW2 := Lib.hid hW2
  clear hX2 hO2 hB2 hW2
  go_upto_region 2 with fail
  rw [← HW2.out]
  clear b0 b1 b2 b3 b4 b5 b6
  obtain ⟨b0, b1, b2, b3, b4, b5, b6⟩ := HX2.out.cells
  have z0 := free_of_blk HO2.out 0
  have z1 := free_of_blk HO2.out 1
  have z2 := free_of_blk HO2.out 2
  have z3 := free_of_blk HO2.out 3
  have z4 := free_of_blk HO2.out 4
  have z5 := free_of_blk HO2.out 5
  have z6 := free_of_blk HO2.out 6
  obtain ⟨d0, d1, d2, d3, d4, d5, d6⟩ := HO2.out.cells
  have hob := HO2.out.over (m := opaqueN n) (q := r)
  have hBd := below_setCells (w := w) (B := w.heap.size) (g := w.heap.size + 1) (Nat.le_succ _) (rawCells (opaqueN n) r).toList 0 W2 HB2.out
  go_wp2_with fail
  obtain ⟨Wd, hWd⟩ : ∃ Wd, Wd = W2.setCells (w.heap.size + 1) 0 (rawCells (opaqueN n) r).toList := ⟨_, rfl⟩
  rw [← hWd] at hBd hob
  obtain ⟨p0, p1, p2, p3, p4, p5, p6⟩ := hob.cells
  have hWd' := (set_all W2 (w.heap.size + 1) (opaqueN n) r).trans hWd.symm
  rw [hWd']
  exact bodyPost_ret (v := ndV (opaqueN n) r) (by unfold ndV rawCells; simp [results, Tryd.results22, go_sem, p0, p1, p2, p3, p4, p5, p6]) rfl ⟨rfl, hBd⟩
end Go.Proofs.YtmmpceodhadipaaDoor.tre
