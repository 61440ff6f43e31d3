/- How a socagelaw18.Act that came in is read, and rows of them. No condition. -/
import Derived.Test.YthmehalkijbpdaaPlnArgs
import Derived.Test.YthmehalkijbpdaaCurAct
namespace Go.Proofs.Ythmehalkijbpdaa.cur
set_option maxRecDepth 100000
open Go.ChangeShapes Go.WideShapes Go.RowKit Go.Proofs.Ythmehalkijbpdaa.words Go.Proofs.Ythmehalkijbpdaa.lru Go.Proofs.Ythmehalkijbpdaa.pln

section
variable {H : Type} {enc : TypeId × Value → H} {W : World} {base : Nat} {spare : Nat → Bool} {held : Bool}
def Act18.cells (y : Act18) : List Value := [.int .u8 (y.kd : Int), .int .i64 y.id, .int .u16 (y.n : Int), .string y.dr]
def Act18.fine (y : Act18) : Prop := y.kd ≤ 255 ∧ big y.id ∧ y.n ≤ 65535 ∧ y.dr.size ≤ 9223372036854775807
theorem cellsAct18 : Try.prog.cellsOf 46 = 4 := by kernel_rfl
theorem listAct18 {α : Type} {l : List α} (h : l.length = 4) : ∃ c0 c1 c2 c3, l = [c0, c1, c2, c3] := by
  match l, h with
  | [c0, c1, c2, c3], _ => exact ⟨c0, c1, c2, c3, rfl⟩
theorem Act18.of {fuel : Nat} {cs : List Value} {x : DataW H × List MemPlace} (h : DataW.trod enc Try.prog W base spare held fuel 46 cs = some x) : ∃ y : Act18, cs = y.cells ∧ y.fine := by
  obtain ⟨xs, n, _, _, hlen, hxl, hf⟩ := DataW.trod_struct Try.underlying46 h
  rw [cellsAct18] at hlen
  obtain ⟨c0, c1, c2, c3, rfl⟩ := listAct18 hlen
  obtain ⟨x0, x1, x2, x3, rfl⟩ := listAct18 (l := xs) hxl
  have g0 : DataW.trod enc Try.prog W base spare held n 5 (([c0, c1, c2, c3].drop 0).take (Try.prog.cellsOf 5)) = some x0 := hf 0 _ rfl
  rw [cellsU8] at g0
  have g1 : DataW.trod enc Try.prog W base spare held n 3 (([c0, c1, c2, c3].drop 1).take (Try.prog.cellsOf 3)) = some x1 := hf 1 _ rfl
  rw [cellsInt] at g1
  have g2 : DataW.trod enc Try.prog W base spare held n 44 (([c0, c1, c2, c3].drop 2).take (Try.prog.cellsOf 44)) = some x2 := hf 2 _ rfl
  rw [cellsU16] at g2
  have g3 : DataW.trod enc Try.prog W base spare held n 9 (([c0, c1, c2, c3].drop 3).take (Try.prog.cellsOf 9)) = some x3 := hf 3 _ rfl
  rw [cellsStr] at g3
  obtain ⟨i0, e0, _, u0⟩ := DataW.trod_int Try.underlying5 (show DataW.trod enc Try.prog W base spare held n 5 [c0] = some x0 from g0)
  obtain ⟨v0, rfl, w0⟩ := u8_nat u0
  obtain rfl := List.head_eq_of_cons_eq e0
  obtain ⟨v1, e1, _, w1⟩ := DataW.trod_int Try.underlying3 (show DataW.trod enc Try.prog W base spare held n 3 [c1] = some x1 from g1)
  obtain rfl := List.head_eq_of_cons_eq e1
  obtain ⟨i2, e2, _, u2⟩ := DataW.trod_int Try.underlying44 (show DataW.trod enc Try.prog W base spare held n 44 [c2] = some x2 from g2)
  obtain ⟨v2, rfl, w2⟩ := u16_nat u2
  obtain rfl := List.head_eq_of_cons_eq e2
  obtain ⟨v3, e3, _, w3⟩ := DataW.trod_string Try.underlying9 (show DataW.trod enc Try.prog W base spare held n 9 [c3] = some x3 from g3)
  obtain rfl := List.head_eq_of_cons_eq e3
  exact ⟨⟨v0, v1, v2, v3⟩, rfl, ⟨w0, int_big w1, w2, (by unfold maxLen at w3; exact w3)⟩⟩
instance : Inhabited Act18 := ⟨⟨0, 0, 0, ⟨#[]⟩⟩⟩
/-- A row of them. -/
def Act18s (w : World) (B : Nat) (A : Option Addr) (T : List Act18) : Prop :=
  ∀ i y, T[i]? = some y → ∃ b off, A = some ⟨b, off, none⟩ ∧ b < B ∧ w.cell? ⟨b, off + i * 4, none⟩ = some (.int .u8 (y.kd : Int)) ∧ w.cell? ⟨b, off + i * 4 + 1, none⟩ = some (.int .i64 y.id) ∧ w.cell? ⟨b, off + i * 4 + 2, none⟩ = some (.int .u16 (y.n : Int)) ∧ w.cell? ⟨b, off + i * 4 + 3, none⟩ = some (.string y.dr)
theorem Act18s.keep {w w' : World} {B : Nat} {A : Option Addr} {T : List Act18} (h : Act18s w B A T) (hb : Below B w w') : Act18s w' B A T := fun i y hy => by
  obtain ⟨b, off, h1, h2, q0, q1, q2, q3⟩ := h i y hy
  exact ⟨b, off, h1, h2, (hb.cell (p := ⟨b, off + i * 4, none⟩) h2).trans q0, (hb.cell (p := ⟨b, off + i * 4 + 1, none⟩) h2).trans q1, (hb.cell (p := ⟨b, off + i * 4 + 2, none⟩) h2).trans q2, (hb.cell (p := ⟨b, off + i * 4 + 3, none⟩) h2).trans q3⟩
theorem Act18s.of {fuel : Nat} {a0 : Option Addr} {len cap : Nat} {x : DataW H × List MemPlace} (h : DataW.trod enc Try.prog W base spare held fuel 40 [.slice a0 len cap] = some x) :
    ∃ L : List Act18, L.length = len ∧ Act18s W W.heap.size a0 L ∧ (∀ y ∈ L, y.fine) ∧ len ≤ 9223372036854775807 := by
  obtain ⟨L, h1, h2, h3⟩ := row_of 4 Act18.cells Act18.fine Try.underlying40 cellsAct18 (fun y => by simp [Act18.cells]) (fun f cs x hv => Act18.of hv) h
  refine ⟨L, h1, fun i y hy => ?_, fun y hy => by obtain ⟨i, hi⟩ := List.mem_iff_getElem?.1 hy; exact (h2 i y hi).2, h3⟩
  obtain ⟨⟨b, off, e1, e2, e3⟩, _⟩ := h2 i y hy
  exact ⟨b, off, e1, e2, e3 0 _ rfl, e3 1 _ rfl, e3 2 _ rfl, e3 3 _ rfl⟩
end
end Go.Proofs.Ythmehalkijbpdaa.cur
