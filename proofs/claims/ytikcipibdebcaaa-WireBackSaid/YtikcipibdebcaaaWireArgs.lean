/- How a slice of items that came in is read: its items, four cells each, as a list. No condition. -/
import Derived.Test.YtikcipibdebcaaaRows
import Derived.Test.YtikcipibdebcaaaWireItems
import Derived.ProofKit
import Derived.OpenShut
import Derived.Deep.Slices
namespace Go.Proofs.Ytikcipibdebcaaa.wire
open Go.ChangeShapes Go.WideShapes Go.RowKit Go.Proofs.Ytikcipibdebcaaa.words

instance : Inhabited It := ⟨⟨0, 0, ⟨#[]⟩, false⟩⟩
theorem four {α : Type} {l : List α} (h : l.length = 4) : ∃ a b c d, l = [a, b, c, d] := by
  match l, h with
  | [a, b, c, d], _ => exact ⟨a, b, c, d, rfl⟩
section
variable {H : Type} {enc : TypeId × Value → H} {W : World} {base : Nat} {spare : Nat → Bool} {held : Bool}
theorem cells3 : Try.prog.cellsOf 3 = 1 := by kernel_rfl
theorem cells9 : Try.prog.cellsOf 9 = 1 := by kernel_rfl
theorem cells4 : Try.prog.cellsOf 4 = 1 := by kernel_rfl
theorem cells28 : Try.prog.cellsOf 28 = 4 := by kernel_rfl
theorem item_of {fuel : Nat} {cs : List Value} {x : DataW H × List MemPlace} (h : DataW.trod enc Try.prog W base spare held fuel 28 cs = some x) :
    ∃ y : It, cs = [.int .i64 y.N, .int .i64 y.Z, .string y.S, .bool y.Is] ∧ y.N ≤ 9223372036854775807 ∧ y.S.size ≤ 9223372036854775807 := by
  obtain ⟨xs, n, _, _, hlen, hxl, hf⟩ := DataW.trod_struct Try.underlying28 h
  rw [cells28] at hlen
  obtain ⟨c0, c1, c2, c3, rfl⟩ := four hlen
  obtain ⟨x0, x1, x2, x3, rfl⟩ := four hxl
  have g0 : DataW.trod enc Try.prog W base spare held n 3 (([c0, c1, c2, c3].drop 0).take (Try.prog.cellsOf 3)) = some x0 := hf 0 _ rfl
  have g1 : DataW.trod enc Try.prog W base spare held n 3 (([c0, c1, c2, c3].drop 1).take (Try.prog.cellsOf 3)) = some x1 := hf 1 _ rfl
  have g2 : DataW.trod enc Try.prog W base spare held n 9 (([c0, c1, c2, c3].drop 2).take (Try.prog.cellsOf 9)) = some x2 := hf 2 _ rfl
  have g3 : DataW.trod enc Try.prog W base spare held n 4 (([c0, c1, c2, c3].drop 3).take (Try.prog.cellsOf 4)) = some x3 := hf 3 _ rfl
  rw [cells3] at g0 g1
  rw [cells9] at g2
  rw [cells4] at g3
  obtain ⟨N, e0, _, wN⟩ := DataW.trod_int Try.underlying3 (show DataW.trod enc Try.prog W base spare held n 3 [c0] = some x0 from g0)
  obtain ⟨Z, e1, _, _⟩ := DataW.trod_int Try.underlying3 (show DataW.trod enc Try.prog W base spare held n 3 [c1] = some x1 from g1)
  obtain ⟨S, e2, _, wS⟩ := DataW.trod_string Try.underlying9 (show DataW.trod enc Try.prog W base spare held n 9 [c2] = some x2 from g2)
  obtain ⟨Is, e3, _⟩ := DataW.trod_bool Try.underlying4 (show DataW.trod enc Try.prog W base spare held n 4 [c3] = some x3 from g3)
  refine ⟨⟨N, Z, S, Is⟩, by simp_all, ?_, by unfold maxLen at wS; exact wS⟩
  have : N ≤ 9223372036854775807 := by
    have := wN
    simp [Lit.wf, IntKind.min, IntKind.max, IntKind.signed, IntKind.bits] at this
    omega
  exact this
theorem items_of {fuel : Nat} {a0 : Option Addr} {len cap : Nat} {x : DataW H × List MemPlace} (h : DataW.trod enc Try.prog W base spare held fuel 22 [.slice a0 len cap] = some x) :
    ∃ L : List It, L.length = len ∧ Items W W.heap.size a0 L ∧ len ≤ 9223372036854775807 := by
  rcases Deep.open_slice Try.underlying22 h with ⟨hc, _⟩ | ⟨a, l, c, m, n, D, Pl, hc, _, hl, hm, hmm, _, hi⟩
  · simp at hc
    obtain ⟨rfl, rfl, rfl⟩ := hc
    exact ⟨[], rfl, fun i x hx => by simp at hx, by omega⟩
  · simp at hc
    obtain ⟨rfl, rfl, rfl⟩ := hc
    have hlm : len ≤ m := by rw [hmm]; split <;> omega
    have each : ∀ i, i < len → ∃ y : It, (y.N ≤ 9223372036854775807 ∧ y.S.size ≤ 9223372036854775807) ∧ ∀ j v, ([.int .i64 y.N, .int .i64 y.Z, .string y.S, .bool y.Is] : List Value)[j]? = some v → W.cell? ((a.add (i * 4)).add j) = some v := fun i hlt => by
      obtain ⟨cs, hcs, ht⟩ := hi i (by omega)
      rw [cells28] at hcs
      obtain ⟨y, rfl, hy⟩ := item_of ht
      obtain ⟨_, _, hat⟩ := World.cells?_some hcs
      exact ⟨y, hy, fun j v hj => (hat j (by have := (List.getElem?_eq_some_iff.1 hj).1; simpa using this)).trans hj⟩
    obtain ⟨f, hfl⟩ := Deep.choose_lt each
    refine ⟨(List.range len).map f, by simp, fun i x hx => ?_, by unfold maxLen at hm; omega⟩
    have hlt : i < len := by
      have := (List.getElem?_eq_some_iff.1 hx).1
      simpa using this
    have hxe : x = f i := by
      rw [List.getElem?_map, List.getElem?_range hlt] at hx
      simpa using hx.symm
    subst hxe
    obtain ⟨b, off, spot⟩ := a
    have h0 := (hfl 0 (by omega)).2 0 _ rfl
    have hspot : spot = none := by simpa [Addr.add] using World.cell?_spot h0
    subst hspot
    obtain ⟨hb, hc⟩ := hfl i hlt
    simp only [add_plain] at hc
    have c0 := hc 0 _ rfl
    exact ⟨⟨b, off, rfl, World.block_lt_of_cell? W _ c0, c0, hc 1 _ rfl, hc 2 _ rfl, hc 3 _ rfl⟩, hb⟩
end
end Go.Proofs.Ytikcipibdebcaaa.wire
