/- How a slice of nodes that came in is read. No condition. -/
import Derived.Test.YtniklphdnakehaaDoorTreArgs
import Derived.Test.YtniklphdnakehaaDoorStkOf
namespace Go.Proofs.YtniklphdnakehaaDoor.stk
set_option maxRecDepth 100000
open Go.ChangeShapes Go.WideShapes Go.RowKit Go.Proofs.YtniklphdnakehaaDoor.words Go.Proofs.YtniklphdnakehaaDoor.ext Go.Proofs.YtniklphdnakehaaDoor.name Go.Proofs.YtniklphdnakehaaDoor.tre

theorem nodes_of {H : Type} {enc : TypeId × Value → H} {W : World} {base : Nat} {spare : Nat → Bool} {held : Bool} {fuel : Nat} {a0 : Option Addr} {len cap : Nat} {x : DataW H × List MemPlace}
    (h : DataW.trod enc Tryd.prog W base spare held fuel 24 [.slice a0 len cap] = some x) (hs : Sized 24 x.1) :
    ∃ T : List Nd, T.length = len ∧ ∃ rs : Nat → Raw, Trees W W.heap.size a0 T rs ∧ len * 112 ≤ 140737488355328 ∧ len ≤ cap ∧ (a0 = none → len = 0 ∧ cap = 0) := by
  obtain ⟨f1, f2, f3⟩ := slice_facts Tryd.underlying24 h hs
  rw [bytesNode] at f1
  rcases a0 with _ | a
  · obtain ⟨rfl, _⟩ := f3 rfl
    exact ⟨[], rfl, fun _ => raw0, fun i x hx => by simp at hx, f1, f2, f3⟩
  · obtain ⟨k, _, hel⟩ := slice_each Tryd.underlying24 h hs
    have each : ∀ i, i < len → ∃ y : Nd × Raw, NdAt W W.heap.size y.1 y.2 ∧ ∀ j v, (rawCells y.1 y.2)[j]? = some v → W.cell? ((a.add (i * 7)).add j) = some v := fun i hlt => by
      obtain ⟨cs, d, hcs, ht, hsd⟩ := hel i hlt
      rw [cellsNode] at hcs
      obtain ⟨y, ry, rfl, hy⟩ := node_of k cs d ht hsd
      obtain ⟨_, _, hat⟩ := World.cells?_some hcs
      exact ⟨(y, ry), hy, fun j v hj => (hat j (by have := (Array.getElem?_eq_some_iff.1 hj).1; exact this)).trans (by rw [Array.getElem?_toList]; exact hj)⟩
    obtain ⟨f, hfl⟩ := Deep.choose_lt each
    have at_ : ∀ (i : Nat) (x : Nd), ((List.range len).map fun i => (f i).1)[i]? = some x → i < len ∧ x = (f i).1 := fun i x hx => by
      have hlt : i < len := by
        have := (List.getElem?_eq_some_iff.1 hx).1
        simpa using this
      rw [List.getElem?_map, List.getElem?_range hlt] at hx
      exact ⟨hlt, by simpa using hx.symm⟩
    refine ⟨(List.range len).map fun i => (f i).1, by simp, fun i => (f i).2, fun i x hx => ?_, f1, f2, f3⟩
    obtain ⟨hlt, rfl⟩ := at_ i x hx
    refine ⟨?_, (hfl i hlt).1⟩
    obtain ⟨b, off, spot⟩ := a
    have h0 := (hfl 0 (by omega)).2 0 _ rfl
    have hspot : spot = none := by simpa [Addr.add] using World.cell?_spot h0
    subst hspot
    obtain ⟨_, hc⟩ := hfl i hlt
    simp only [add_plain] at hc
    exact ⟨b, off, rfl, World.block_lt_of_cell? W _ (hc 0 _ rfl), hc⟩
end Go.Proofs.YtniklphdnakehaaDoor.stk
