/- How a pair of ints that came in is read. No condition. -/
import Derived.Test.YtllebfkodklehaaLruArgs
namespace Go.Proofs.Ytllebfkodklehaa.lrs
set_option maxRecDepth 100000
open Go.ChangeShapes Go.WideShapes Go.RowKit Go.Proofs.Ytllebfkodklehaa.words Go.Proofs.Ytllebfkodklehaa.lru

theorem cellsPair : Try.prog.cellsOf 58 = 2 := by kernel_rfl
theorem pair_of {H : Type} {enc : TypeId × Value → H} {W : World} {base : Nat} {spare : Nat → Bool} {held : Bool} {fuel : Nat} {cs : List Value} {z : DataW H × List MemPlace} (h : DataW.trod enc Try.prog W base spare held fuel 58 cs = some z) :
    ∃ x y : Int, cs = [.int .i64 x, .int .i64 y] ∧ big x ∧ big y := by
  obtain ⟨xs, n, _, _, hlen, hxl, hf⟩ := DataW.trod_array Try.underlying58 h
  rw [cellsPair] at hlen
  obtain ⟨c0, c1, rfl⟩ := lrs.two hlen
  obtain ⟨x0, x1, rfl⟩ := lrs.two hxl
  have g0 := hf 0 (by omega)
  have g1 := hf 1 (by omega)
  rw [cellsInt] at g0 g1
  obtain ⟨X, e0, _, w0⟩ := DataW.trod_int Try.underlying3 (show DataW.trod enc Try.prog W base spare held n 3 [c0] = some x0 from g0)
  obtain ⟨Y, e1, _, w1⟩ := DataW.trod_int Try.underlying3 (show DataW.trod enc Try.prog W base spare held n 3 [c1] = some x1 from g1)
  exact ⟨X, Y, by simp_all, int_big w0, int_big w1⟩
end Go.Proofs.Ytllebfkodklehaa.lrs
