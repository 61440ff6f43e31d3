/- How a slice of what is asked of a stack that came in is read. No condition. -/
import Derived.Test.YtniklphdnakehaaDoorTreArgs
import Derived.Test.YtniklphdnakehaaDoorStkLawDoes
namespace Go.Proofs.YtniklphdnakehaaDoor.stk
set_option maxRecDepth 100000
open Go.ChangeShapes Go.WideShapes Go.RowKit Go.Proofs.YtniklphdnakehaaDoor.words Go.Proofs.YtniklphdnakehaaDoor.ext Go.Proofs.YtniklphdnakehaaDoor.name Go.Proofs.YtniklphdnakehaaDoor.tre

theorem cellsAct : Tryd.prog.cellsOf 60 = 2 := by kernel_rfl
theorem bytesAct : Tryd.prog.bytesOf 60 = 16 := by kernel_rfl
theorem act_of {H : Type} {enc : TypeId × Value → H} {W : World} {base : Nat} {spare : Nat → Bool} {held : Bool} {fuel : Nat} {cs : List Value} {x : DataW H × List MemPlace} (h : DataW.trod enc Tryd.prog W base spare held fuel 60 cs = some x) :
    ∃ y : Bool × Int, cs = [.bool y.1, .int .i64 y.2] := by
  obtain ⟨xs, n, _, hxe, hlen, hxl, hf⟩ := DataW.trod_struct Tryd.underlying60 h
  rw [cellsAct] at hlen
  obtain ⟨c0, c1, rfl⟩ := two hlen
  obtain ⟨x0, x1, rfl⟩ := two hxl
  have g0 : DataW.trod enc Tryd.prog W base spare held n 4 (([c0, c1].drop 0).take (Tryd.prog.cellsOf 4)) = some x0 := hf 0 _ rfl
  have g1 : DataW.trod enc Tryd.prog W base spare held n 3 (([c0, c1].drop 1).take (Tryd.prog.cellsOf 3)) = some x1 := hf 1 _ rfl
  rw [cellsBool] at g0
  rw [cellsInt] at g1
  obtain ⟨O, e0, _⟩ := DataW.trod_bool Tryd.underlying4 (show DataW.trod enc Tryd.prog W base spare held n 4 [c0] = some x0 from g0)
  obtain ⟨D, e1, _, _⟩ := DataW.trod_int Tryd.underlying3 (show DataW.trod enc Tryd.prog W base spare held n 3 [c1] = some x1 from g1)
  exact ⟨(O, D), by simp_all⟩
theorem acts_of {H : Type} {enc : TypeId × Value → H} {W : World} {base : Nat} {spare : Nat → Bool} {held : Bool} {fuel : Nat} {a0 : Option Addr} {len cap : Nat} {x : DataW H × List MemPlace}
    (h : DataW.trod enc Tryd.prog W base spare held fuel 51 [.slice a0 len cap] = some x) (hs : Sized 51 x.1) :
    ∃ T : List (Bool × Int), T.length = len ∧ Acts W W.heap.size a0 T ∧ len * 16 ≤ 140737488355328 ∧ len ≤ cap ∧ (a0 = none → len = 0 ∧ cap = 0) := by
  obtain ⟨f1, f2, f3⟩ := slice_facts Tryd.underlying51 h hs
  rw [bytesAct] at f1
  rcases a0 with _ | a
  · obtain ⟨rfl, _⟩ := f3 rfl
    exact ⟨[], rfl, fun i x hx => by simp at hx, f1, f2, f3⟩
  · obtain ⟨k, _, hel⟩ := slice_each Tryd.underlying51 h hs
    have each : ∀ i, i < len → ∃ y : Bool × Int, ∀ j v, ([.bool y.1, .int .i64 y.2] : List Value)[j]? = some v → W.cell? ((a.add (i * 2)).add j) = some v := fun i hlt => by
      obtain ⟨cs, d, hcs, ht, _⟩ := hel i hlt
      rw [cellsAct] at hcs
      obtain ⟨y, rfl⟩ := act_of ht
      obtain ⟨_, _, hat⟩ := World.cells?_some hcs
      exact ⟨y, fun j v hj => (hat j (by have := (List.getElem?_eq_some_iff.1 hj).1; simpa using this)).trans hj⟩
    obtain ⟨f, hfl⟩ := Deep.choose_lt each
    refine ⟨(List.range len).map f, by simp, fun i x hx => ?_, f1, f2, f3⟩
    have hlt : i < len := by
      have := (List.getElem?_eq_some_iff.1 hx).1
      simpa using this
    have hxe : x = f i := by
      rw [List.getElem?_map, List.getElem?_range hlt] at hx
      simpa using hx.symm
    subst hxe
    obtain ⟨b, off, spot⟩ := a
    have h0 := hfl 0 (by omega) 0 _ rfl
    have hspot : spot = none := by simpa [Addr.add] using World.cell?_spot h0
    subst hspot
    have hc := hfl i hlt
    simp only [add_plain] at hc
    exact ⟨b, off, rfl, World.block_lt_of_cell? W _ (hc 0 _ rfl), hc 0 _ rfl, hc 1 _ rfl⟩
end Go.Proofs.YtniklphdnakehaaDoor.stk
