/- How a socagelaw15.Act that came in is read, and rows of them. No condition. -/
import Derived.Test.YthhcbmljckgncaaPlnArgs
import Derived.Test.YthhcbmljckgncaaDcaSay
namespace Go.Proofs.Ythhcbmljckgncaa.dca
set_option maxRecDepth 100000
open Go.ChangeShapes Go.WideShapes Go.RowKit Go.Proofs.Ythhcbmljckgncaa.words Go.Proofs.Ythhcbmljckgncaa.lru Go.Proofs.Ythhcbmljckgncaa.pln

section
variable {H : Type} {enc : TypeId × Value → H} {W : World} {base : Nat} {spare : Nat → Bool} {held : Bool}
def Act15.cells (y : Act15) : List Value := [.bool y.kp, .bool y.th, .int .u8 (y.dr : Int), .string y.nm, .int .i64 y.ep, .int .i64 y.mr]
def Act15.fine (y : Act15) : Prop := y.dr ≤ 255 ∧ y.nm.size ≤ 9223372036854775807 ∧ big y.ep ∧ big y.mr
theorem cellsAct15 : Try.prog.cellsOf 30 = 6 := by kernel_rfl
theorem listAct15 {α : Type} {l : List α} (h : l.length = 6) : ∃ c0 c1 c2 c3 c4 c5, l = [c0, c1, c2, c3, c4, c5] := by
  match l, h with
  | [c0, c1, c2, c3, c4, c5], _ => exact ⟨c0, c1, c2, c3, c4, c5, rfl⟩
theorem Act15.of {fuel : Nat} {cs : List Value} {x : DataW H × List MemPlace} (h : DataW.trod enc Try.prog W base spare held fuel 30 cs = some x) : ∃ y : Act15, cs = y.cells ∧ y.fine := by
  obtain ⟨xs, n, _, _, hlen, hxl, hf⟩ := DataW.trod_struct Try.underlying30 h
  rw [cellsAct15] at hlen
  obtain ⟨c0, c1, c2, c3, c4, c5, rfl⟩ := listAct15 hlen
  obtain ⟨x0, x1, x2, x3, x4, x5, rfl⟩ := listAct15 (l := xs) hxl
  have g0 : DataW.trod enc Try.prog W base spare held n 4 (([c0, c1, c2, c3, c4, c5].drop 0).take (Try.prog.cellsOf 4)) = some x0 := hf 0 _ rfl
  rw [cellsBool] at g0
  have g1 : DataW.trod enc Try.prog W base spare held n 4 (([c0, c1, c2, c3, c4, c5].drop 1).take (Try.prog.cellsOf 4)) = some x1 := hf 1 _ rfl
  rw [cellsBool] at g1
  have g2 : DataW.trod enc Try.prog W base spare held n 5 (([c0, c1, c2, c3, c4, c5].drop 2).take (Try.prog.cellsOf 5)) = some x2 := hf 2 _ rfl
  rw [cellsU8] at g2
  have g3 : DataW.trod enc Try.prog W base spare held n 9 (([c0, c1, c2, c3, c4, c5].drop 3).take (Try.prog.cellsOf 9)) = some x3 := hf 3 _ rfl
  rw [cellsStr] at g3
  have g4 : DataW.trod enc Try.prog W base spare held n 3 (([c0, c1, c2, c3, c4, c5].drop 4).take (Try.prog.cellsOf 3)) = some x4 := hf 4 _ rfl
  rw [cellsInt] at g4
  have g5 : DataW.trod enc Try.prog W base spare held n 3 (([c0, c1, c2, c3, c4, c5].drop 5).take (Try.prog.cellsOf 3)) = some x5 := hf 5 _ rfl
  rw [cellsInt] at g5
  obtain ⟨v0, e0, _⟩ := DataW.trod_bool Try.underlying4 (show DataW.trod enc Try.prog W base spare held n 4 [c0] = some x0 from g0)
  obtain rfl := List.head_eq_of_cons_eq e0
  obtain ⟨v1, e1, _⟩ := DataW.trod_bool Try.underlying4 (show DataW.trod enc Try.prog W base spare held n 4 [c1] = some x1 from g1)
  obtain rfl := List.head_eq_of_cons_eq e1
  obtain ⟨i2, e2, _, u2⟩ := DataW.trod_int Try.underlying5 (show DataW.trod enc Try.prog W base spare held n 5 [c2] = some x2 from g2)
  obtain ⟨v2, rfl, w2⟩ := u8_nat u2
  obtain rfl := List.head_eq_of_cons_eq e2
  obtain ⟨v3, e3, _, w3⟩ := DataW.trod_string Try.underlying9 (show DataW.trod enc Try.prog W base spare held n 9 [c3] = some x3 from g3)
  obtain rfl := List.head_eq_of_cons_eq e3
  obtain ⟨v4, e4, _, w4⟩ := DataW.trod_int Try.underlying3 (show DataW.trod enc Try.prog W base spare held n 3 [c4] = some x4 from g4)
  obtain rfl := List.head_eq_of_cons_eq e4
  obtain ⟨v5, e5, _, w5⟩ := DataW.trod_int Try.underlying3 (show DataW.trod enc Try.prog W base spare held n 3 [c5] = some x5 from g5)
  obtain rfl := List.head_eq_of_cons_eq e5
  exact ⟨⟨v0, v1, v2, v3, v4, v5⟩, rfl, ⟨w2, (by unfold maxLen at w3; exact w3), int_big w4, int_big w5⟩⟩
instance : Inhabited Act15 := ⟨⟨false, false, 0, ⟨#[]⟩, 0, 0⟩⟩
/-- A row of them. -/
def Act15s (w : World) (B : Nat) (A : Option Addr) (T : List Act15) : Prop :=
  ∀ i y, T[i]? = some y → ∃ b off, A = some ⟨b, off, none⟩ ∧ b < B ∧ w.cell? ⟨b, off + i * 6, none⟩ = some (.bool y.kp) ∧ w.cell? ⟨b, off + i * 6 + 1, none⟩ = some (.bool y.th) ∧ w.cell? ⟨b, off + i * 6 + 2, none⟩ = some (.int .u8 (y.dr : Int)) ∧ w.cell? ⟨b, off + i * 6 + 3, none⟩ = some (.string y.nm) ∧ w.cell? ⟨b, off + i * 6 + 4, none⟩ = some (.int .i64 y.ep) ∧ w.cell? ⟨b, off + i * 6 + 5, none⟩ = some (.int .i64 y.mr)
theorem Act15s.keep {w w' : World} {B : Nat} {A : Option Addr} {T : List Act15} (h : Act15s w B A T) (hb : Below B w w') : Act15s w' B A T := fun i y hy => by
  obtain ⟨b, off, h1, h2, q0, q1, q2, q3, q4, q5⟩ := h i y hy
  exact ⟨b, off, h1, h2, (hb.cell (p := ⟨b, off + i * 6, none⟩) h2).trans q0, (hb.cell (p := ⟨b, off + i * 6 + 1, none⟩) h2).trans q1, (hb.cell (p := ⟨b, off + i * 6 + 2, none⟩) h2).trans q2, (hb.cell (p := ⟨b, off + i * 6 + 3, none⟩) h2).trans q3, (hb.cell (p := ⟨b, off + i * 6 + 4, none⟩) h2).trans q4, (hb.cell (p := ⟨b, off + i * 6 + 5, none⟩) h2).trans q5⟩
theorem Act15s.of {fuel : Nat} {a0 : Option Addr} {len cap : Nat} {x : DataW H × List MemPlace} (h : DataW.trod enc Try.prog W base spare held fuel 23 [.slice a0 len cap] = some x) :
    ∃ L : List Act15, L.length = len ∧ Act15s W W.heap.size a0 L ∧ (∀ y ∈ L, y.fine) ∧ len ≤ 9223372036854775807 := by
  obtain ⟨L, h1, h2, h3⟩ := row_of 6 Act15.cells Act15.fine Try.underlying23 cellsAct15 (fun y => by simp [Act15.cells]) (fun f cs x hv => Act15.of hv) h
  refine ⟨L, h1, fun i y hy => ?_, fun y hy => by obtain ⟨i, hi⟩ := List.mem_iff_getElem?.1 hy; exact (h2 i y hi).2, h3⟩
  obtain ⟨⟨b, off, e1, e2, e3⟩, _⟩ := h2 i y hy
  exact ⟨b, off, e1, e2, e3 0 _ rfl, e3 1 _ rfl, e3 2 _ rfl, e3 3 _ rfl, e3 4 _ rfl, e3 5 _ rfl⟩
end
end Go.Proofs.Ythhcbmljckgncaa.dca
