/- How a socagetop.Kept that came in is read, and rows of them. No condition. -/
import Derived.Test.YthhcbmljckgncaaPlnArgs
import Derived.Test.YthhcbmljckgncaaWhoItem
namespace Go.Proofs.Ythhcbmljckgncaa.who
set_option maxRecDepth 100000
open Go.ChangeShapes Go.WideShapes Go.RowKit Go.Proofs.Ythhcbmljckgncaa.words Go.Proofs.Ythhcbmljckgncaa.lru Go.Proofs.Ythhcbmljckgncaa.pln

section
variable {H : Type} {enc : TypeId × Value → H} {W : World} {base : Nat} {spare : Nat → Bool} {held : Bool}
def Item.cells (y : Item) : List Value := [.string y.nm, .int .u8 (y.ep : Int), .bool y.li]
def Item.fine (y : Item) : Prop := y.nm.size ≤ 9223372036854775807 ∧ y.ep ≤ 255
theorem cellsItem : Try.prog.cellsOf 95 = 3 := by kernel_rfl
theorem listItem {α : Type} {l : List α} (h : l.length = 3) : ∃ c0 c1 c2, l = [c0, c1, c2] := by
  match l, h with
  | [c0, c1, c2], _ => exact ⟨c0, c1, c2, rfl⟩
theorem Item.of {fuel : Nat} {cs : List Value} {x : DataW H × List MemPlace} (h : DataW.trod enc Try.prog W base spare held fuel 95 cs = some x) : ∃ y : Item, cs = y.cells ∧ y.fine := by
  obtain ⟨xs, n, _, _, hlen, hxl, hf⟩ := DataW.trod_struct Try.underlying95 h
  rw [cellsItem] at hlen
  obtain ⟨c0, c1, c2, rfl⟩ := listItem hlen
  obtain ⟨x0, x1, x2, rfl⟩ := listItem (l := xs) hxl
  have g0 : DataW.trod enc Try.prog W base spare held n 9 (([c0, c1, c2].drop 0).take (Try.prog.cellsOf 9)) = some x0 := hf 0 _ rfl
  rw [cellsStr] at g0
  have g1 : DataW.trod enc Try.prog W base spare held n 5 (([c0, c1, c2].drop 1).take (Try.prog.cellsOf 5)) = some x1 := hf 1 _ rfl
  rw [cellsU8] at g1
  have g2 : DataW.trod enc Try.prog W base spare held n 4 (([c0, c1, c2].drop 2).take (Try.prog.cellsOf 4)) = some x2 := hf 2 _ rfl
  rw [cellsBool] at g2
  obtain ⟨v0, e0, _, w0⟩ := DataW.trod_string Try.underlying9 (show DataW.trod enc Try.prog W base spare held n 9 [c0] = some x0 from g0)
  obtain rfl := List.head_eq_of_cons_eq e0
  obtain ⟨i1, e1, _, u1⟩ := DataW.trod_int Try.underlying5 (show DataW.trod enc Try.prog W base spare held n 5 [c1] = some x1 from g1)
  obtain ⟨v1, rfl, w1⟩ := u8_nat u1
  obtain rfl := List.head_eq_of_cons_eq e1
  obtain ⟨v2, e2, _⟩ := DataW.trod_bool Try.underlying4 (show DataW.trod enc Try.prog W base spare held n 4 [c2] = some x2 from g2)
  obtain rfl := List.head_eq_of_cons_eq e2
  exact ⟨⟨v0, v1, v2⟩, rfl, ⟨(by unfold maxLen at w0; exact w0), w1⟩⟩
instance : Inhabited Item := ⟨⟨⟨#[]⟩, 0, false⟩⟩
/-- A row of them. -/
def Items (w : World) (B : Nat) (A : Option Addr) (T : List Item) : Prop :=
  ∀ i y, T[i]? = some y → ∃ b off, A = some ⟨b, off, none⟩ ∧ b < B ∧ w.cell? ⟨b, off + i * 3, none⟩ = some (.string y.nm) ∧ w.cell? ⟨b, off + i * 3 + 1, none⟩ = some (.int .u8 (y.ep : Int)) ∧ w.cell? ⟨b, off + i * 3 + 2, none⟩ = some (.bool y.li)
theorem Items.keep {w w' : World} {B : Nat} {A : Option Addr} {T : List Item} (h : Items w B A T) (hb : Below B w w') : Items w' B A T := fun i y hy => by
  obtain ⟨b, off, h1, h2, q0, q1, q2⟩ := h i y hy
  exact ⟨b, off, h1, h2, (hb.cell (p := ⟨b, off + i * 3, none⟩) h2).trans q0, (hb.cell (p := ⟨b, off + i * 3 + 1, none⟩) h2).trans q1, (hb.cell (p := ⟨b, off + i * 3 + 2, none⟩) h2).trans q2⟩
theorem Items.of {fuel : Nat} {a0 : Option Addr} {len cap : Nat} {x : DataW H × List MemPlace} (h : DataW.trod enc Try.prog W base spare held fuel 92 [.slice a0 len cap] = some x) :
    ∃ L : List Item, L.length = len ∧ Items W W.heap.size a0 L ∧ (∀ y ∈ L, y.fine) ∧ len ≤ 9223372036854775807 := by
  obtain ⟨L, h1, h2, h3⟩ := row_of 3 Item.cells Item.fine Try.underlying92 cellsItem (fun y => by simp [Item.cells]) (fun f cs x hv => Item.of hv) h
  refine ⟨L, h1, fun i y hy => ?_, fun y hy => by obtain ⟨i, hi⟩ := List.mem_iff_getElem?.1 hy; exact (h2 i y hi).2, h3⟩
  obtain ⟨⟨b, off, e1, e2, e3⟩, _⟩ := h2 i y hy
  exact ⟨b, off, e1, e2, e3 0 _ rfl, e3 1 _ rfl, e3 2 _ rfl⟩
end
end Go.Proofs.Ythhcbmljckgncaa.who
