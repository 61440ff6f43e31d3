/- How a socagelaw17.Act that came in is read, and rows of them. No condition. -/
import Derived.Test.YthmehalkijbpdaaPlnArgs
import Derived.Test.YthmehalkijbpdaaGatAct
namespace Go.Proofs.Ythmehalkijbpdaa.gat
set_option maxRecDepth 100000
open Go.ChangeShapes Go.WideShapes Go.RowKit Go.Proofs.Ythmehalkijbpdaa.words Go.Proofs.Ythmehalkijbpdaa.lru Go.Proofs.Ythmehalkijbpdaa.pln

section
variable {H : Type} {enc : TypeId × Value → H} {W : World} {base : Nat} {spare : Nat → Bool} {held : Bool}
def Act17.cells (y : Act17) : List Value := [.int .u8 (y.kd : Int), .int .u8 (y.id : Int)]
def Act17.fine (y : Act17) : Prop := y.kd ≤ 255 ∧ y.id ≤ 255
theorem cellsAct17 : Try.prog.cellsOf 32 = 2 := by kernel_rfl
theorem listAct17 {α : Type} {l : List α} (h : l.length = 2) : ∃ c0 c1, l = [c0, c1] := by
  match l, h with
  | [c0, c1], _ => exact ⟨c0, c1, rfl⟩
theorem Act17.of {fuel : Nat} {cs : List Value} {x : DataW H × List MemPlace} (h : DataW.trod enc Try.prog W base spare held fuel 32 cs = some x) : ∃ y : Act17, cs = y.cells ∧ y.fine := by
  obtain ⟨xs, n, _, _, hlen, hxl, hf⟩ := DataW.trod_struct Try.underlying32 h
  rw [cellsAct17] at hlen
  obtain ⟨c0, c1, rfl⟩ := listAct17 hlen
  obtain ⟨x0, x1, rfl⟩ := listAct17 (l := xs) hxl
  have g0 : DataW.trod enc Try.prog W base spare held n 5 (([c0, c1].drop 0).take (Try.prog.cellsOf 5)) = some x0 := hf 0 _ rfl
  rw [cellsU8] at g0
  have g1 : DataW.trod enc Try.prog W base spare held n 5 (([c0, c1].drop 1).take (Try.prog.cellsOf 5)) = some x1 := hf 1 _ rfl
  rw [cellsU8] at g1
  obtain ⟨i0, e0, _, u0⟩ := DataW.trod_int Try.underlying5 (show DataW.trod enc Try.prog W base spare held n 5 [c0] = some x0 from g0)
  obtain ⟨v0, rfl, w0⟩ := u8_nat u0
  obtain rfl := List.head_eq_of_cons_eq e0
  obtain ⟨i1, e1, _, u1⟩ := DataW.trod_int Try.underlying5 (show DataW.trod enc Try.prog W base spare held n 5 [c1] = some x1 from g1)
  obtain ⟨v1, rfl, w1⟩ := u8_nat u1
  obtain rfl := List.head_eq_of_cons_eq e1
  exact ⟨⟨v0, v1⟩, rfl, ⟨w0, w1⟩⟩
instance : Inhabited Act17 := ⟨⟨0, 0⟩⟩
/-- A row of them. -/
def Act17s (w : World) (B : Nat) (A : Option Addr) (T : List Act17) : Prop :=
  ∀ i y, T[i]? = some y → ∃ b off, A = some ⟨b, off, none⟩ ∧ b < B ∧ w.cell? ⟨b, off + i * 2, none⟩ = some (.int .u8 (y.kd : Int)) ∧ w.cell? ⟨b, off + i * 2 + 1, none⟩ = some (.int .u8 (y.id : Int))
theorem Act17s.keep {w w' : World} {B : Nat} {A : Option Addr} {T : List Act17} (h : Act17s w B A T) (hb : Below B w w') : Act17s w' B A T := fun i y hy => by
  obtain ⟨b, off, h1, h2, q0, q1⟩ := h i y hy
  exact ⟨b, off, h1, h2, (hb.cell (p := ⟨b, off + i * 2, none⟩) h2).trans q0, (hb.cell (p := ⟨b, off + i * 2 + 1, none⟩) h2).trans q1⟩
theorem Act17s.of {fuel : Nat} {a0 : Option Addr} {len cap : Nat} {x : DataW H × List MemPlace} (h : DataW.trod enc Try.prog W base spare held fuel 22 [.slice a0 len cap] = some x) :
    ∃ L : List Act17, L.length = len ∧ Act17s W W.heap.size a0 L ∧ (∀ y ∈ L, y.fine) ∧ len ≤ 9223372036854775807 := by
  obtain ⟨L, h1, h2, h3⟩ := row_of 2 Act17.cells Act17.fine Try.underlying22 cellsAct17 (fun y => by simp [Act17.cells]) (fun f cs x hv => Act17.of hv) h
  refine ⟨L, h1, fun i y hy => ?_, fun y hy => by obtain ⟨i, hi⟩ := List.mem_iff_getElem?.1 hy; exact (h2 i y hi).2, h3⟩
  obtain ⟨⟨b, off, e1, e2, e3⟩, _⟩ := h2 i y hy
  exact ⟨b, off, e1, e2, e3 0 _ rfl, e3 1 _ rfl⟩
end
end Go.Proofs.Ythmehalkijbpdaa.gat
