/- What Link and Opaque hand back: nodes. Condition: the text is such as was read. -/
import Derived.Test.YtkdldnjnadadgaaGreatDoorJH
namespace Go.Proofs.YtkdldnjnadadgaaGreatDoor.tre
set_option maxRecDepth 100000
open Go.RowKit Go.Proofs.YtkdldnjnadadgaaGreatDoor.words Go.Proofs.YtkdldnjnadadgaaGreatDoor.ext Go.Proofs.YtkdldnjnadadgaaGreatDoor.name

set_option maxHeartbeats 800000 in
theorem link_any (t : ByteArray) (w : World) (ht : t.size ≤ 140737488355328) : Calls Tryz.prog 62 #[.string t] w (Built (linkN t) w) := by
  go_enter Tryz.func62, Tryz.ntmps62
  go_wp2_with fail
  obtain ⟨Wd, hWd⟩ : ∃ Wd, Wd = w.alloc (.cells (rawCells (linkN t) raw0) 125) := ⟨_, rfl⟩
  have hB : Below w.heap.size w Wd := by rw [hWd]; exact (Below.refl _ _).alloc (Nat.le_refl _) _
  have hX : Box Wd w.heap.size (linkN t) raw0 := by rw [hWd]; exact Box.new w (linkN t) raw0
  obtain ⟨p0, p1, p2, p3, p4, p5, p6⟩ := hX.cells
  have hWd' : w.alloc (.cells #[.int .i64 3, .bool false, .slice none 0 0, .slice none 0 0, .int .i64 0, .slice none 0 0, .string t] 125) = Wd := hWd.symm
  rw [hWd']
  exact bodyPost_ret (v := ndV (linkN t) raw0) (by unfold ndV rawCells; simp [results, Tryz.results62, go_sem, p0, p1, p2, p3, p4, p5, p6]) rfl ⟨raw0, rfl, bare_at _ _ _ _ (fit0 3 t (by decide) (by decide) ht), hB⟩

theorem NdAt.opq {w : World} {B : Nat} {n : Nd} {r : Raw} (h : NdAt w B n r) : NdAt w B (opaqueN n) r := by
  cases n with
  | mk K O N I S E T =>
    cases h with
    | mk rs fit names exts cells items =>
      exact .mk rs ⟨fit.k1, fit.k2, fit.s1, fit.s2, fit.t, fit.ln, fit.li, fit.le, fit.cn, fit.ci, fit.ce, fit.zn, fit.zi, fit.ze⟩ names exts cells items
end Go.Proofs.YtkdldnjnadadgaaGreatDoor.tre
