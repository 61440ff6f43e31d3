/- How what came in is read: rows of plain values. No condition. -/
import Derived.Test.YtkigkdiphhecaaaGreatRows
import Derived.Test.YtkigkdiphhecaaaGreatLruRow
import Derived.Test.YtkigkdiphhecaaaGreatChecked
import Derived.ProofKit
import Derived.OpenShut
import Derived.Deep.Slices
namespace Go.Proofs.YtkigkdiphhecaaaGreat.pln
set_option maxRecDepth 100000
open Go.ChangeShapes Go.WideShapes Go.RowKit Go.Proofs.YtkigkdiphhecaaaGreat.words Go.Proofs.YtkigkdiphhecaaaGreat.lru

theorem two {α : Type} {l : List α} (h : l.length = 2) : ∃ a b, l = [a, b] := by
  match l, h with
  | [a, b], _ => exact ⟨a, b, rfl⟩
section
variable {H : Type} {enc : TypeId × Value → H} {W : World} {base : Nat} {spare : Nat → Bool} {held : Bool}
theorem cellsInt : Tryz.prog.cellsOf 3 = 1 := by kernel_rfl
theorem cellsStr : Tryz.prog.cellsOf 9 = 1 := by kernel_rfl
theorem cellsBool : Tryz.prog.cellsOf 4 = 1 := by kernel_rfl
theorem cellsU8 : Tryz.prog.cellsOf 5 = 1 := by kernel_rfl
def big (x : Int) : Prop := -9223372036854775808 ≤ x ∧ x ≤ 9223372036854775807
theorem int_big {n : Int} (h : (Lit.int .i64 n).wf = true) : big n := by
  simp [Lit.wf, IntKind.min, IntKind.max, IntKind.signed, IntKind.bits] at h
  unfold big
  omega
theorem u8_nat {n : Int} (h : (Lit.int .u8 n).wf = true) : ∃ k : Nat, n = (k : Int) ∧ k ≤ 255 := by
  simp [Lit.wf, IntKind.min, IntKind.max, IntKind.signed, IntKind.bits] at h
  exact ⟨n.toNat, by omega, by omega⟩
theorem u16_nat {n : Int} (h : (Lit.int .u16 n).wf = true) : ∃ k : Nat, n = (k : Int) ∧ k ≤ 65535 := by
  simp [Lit.wf, IntKind.min, IntKind.max, IntKind.signed, IntKind.bits] at h
  exact ⟨n.toNat, by omega, by omega⟩
/-- A row of structs of m cells. -/
theorem row_of {fuel : Nat} {a0 : Option Addr} {len cap : Nat} {e t : TypeId} {α : Type} [Inhabited α] (m : Nat) (C : α → List Value) (Q : α → Prop) (hu : Tryz.prog.underlying t = some (.slice e)) (hm0 : Tryz.prog.cellsOf e = m) (hpos : ∀ y, 0 < (C y).length ∧ (C y).length ≤ m)
    (hone : ∀ (f : Nat) (cs : List Value) x, DataW.trod enc Tryz.prog W base spare held f e cs = some x → ∃ y, cs = C y ∧ Q y) {x : DataW H × List MemPlace} (h : DataW.trod enc Tryz.prog W base spare held fuel t [.slice a0 len cap] = some x) :
    ∃ L : List α, L.length = len ∧ (∀ i y, L[i]? = some y → (∃ b off, a0 = some ⟨b, off, none⟩ ∧ b < W.heap.size ∧ ∀ j v, (C y)[j]? = some v → W.cell? ⟨b, off + i * m + j, none⟩ = some v) ∧ Q y) ∧ len ≤ 9223372036854775807 := by
  rcases Deep.open_slice hu h with ⟨hc, _⟩ | ⟨a, l, c, mm, n, D, Pl, hc, _, hl, hm, hmm, _, hi⟩
  · simp at hc
    obtain ⟨rfl, rfl, rfl⟩ := hc
    exact ⟨[], rfl, fun i x hx => by simp at hx, by omega⟩
  · simp at hc
    obtain ⟨rfl, rfl, rfl⟩ := hc
    have hlm : len ≤ mm := by rw [hmm]; split <;> omega
    have each : ∀ i, i < len → ∃ y : α, Q y ∧ ∀ j v, (C y)[j]? = some v → W.cell? ((a.add (i * m)).add j) = some v := fun i hlt => by
      obtain ⟨cs, hcs, ht⟩ := hi i (by omega)
      rw [hm0] at hcs
      obtain ⟨y, rfl, hq⟩ := hone _ _ _ ht
      obtain ⟨_, _, hat⟩ := World.cells?_some hcs
      exact ⟨y, hq, fun j v hj => (hat j (by have := (List.getElem?_eq_some_iff.1 hj).1; have := (hpos y).2; omega)).trans hj⟩
    obtain ⟨f, hfl⟩ := Deep.choose_lt each
    refine ⟨(List.range len).map f, by simp, fun i x hx => ?_, by unfold maxLen at hm; omega⟩
    have hlt : i < len := by
      have := (List.getElem?_eq_some_iff.1 hx).1
      simpa using this
    have hxe : x = f i := by
      rw [List.getElem?_map, List.getElem?_range hlt] at hx
      simpa using hx.symm
    subst hxe
    obtain ⟨b, off, spot⟩ := a
    obtain ⟨v0, hv0⟩ : ∃ v, (C (f 0))[0]? = some v := ⟨_, List.getElem?_eq_getElem (hpos _).1⟩
    have h0 := (hfl 0 (by omega)).2 0 _ hv0
    have hspot : spot = none := by simpa [Addr.add] using World.cell?_spot h0
    subst hspot
    have hcell := (hfl i hlt).2
    simp only [add_place] at hcell
    obtain ⟨v1, hv1⟩ : ∃ v, (C (f i))[0]? = some v := ⟨_, List.getElem?_eq_getElem (hpos _).1⟩
    exact ⟨⟨b, off, rfl, World.block_lt_of_cell? W _ (hcell 0 _ hv1), hcell⟩, (hfl i hlt).1⟩
instance : Inhabited ByteArray := ⟨⟨#[]⟩⟩
/-- A row of values of one cell. -/
def OneRow {α : Type} (V : α → Value) (w : World) (B : Nat) (A : Option Addr) (T : List α) : Prop := ∀ i x, T[i]? = some x → ∃ b off, A = some ⟨b, off, none⟩ ∧ b < B ∧ w.cell? ⟨b, off + i, none⟩ = some (V x)
theorem OneRow.keep {α : Type} {V : α → Value} {w w' : World} {B : Nat} {A : Option Addr} {T : List α} (h : OneRow V w B A T) (hb : Below B w w') : OneRow V w' B A T := fun i x hx => by
  obtain ⟨b, off, h1, h2, h3⟩ := h i x hx
  exact ⟨b, off, h1, h2, (hb.cell (p := ⟨b, off + i, none⟩) h2).trans h3⟩
theorem u8s_of {fuel : Nat} {a0 : Option Addr} {len cap : Nat} {x : DataW H × List MemPlace} (h : DataW.trod enc Tryz.prog W base spare held fuel 247 [.slice a0 len cap] = some x) : ∃ L : List Nat, L.length = len ∧ OneRow (fun k : Nat => Value.int .u8 (k : Int)) W W.heap.size a0 L ∧ (∀ y ∈ L, y ≤ 255) ∧ len ≤ 9223372036854775807 := by
  obtain ⟨L, h1, h2, h3⟩ := row_of 1 (fun k : Nat => [Value.int .u8 (k : Int)]) (· ≤ 255) Tryz.underlying247 cellsU8 (fun y => by simp) (fun f cs x hv => by
    obtain ⟨s, hs, _, hw⟩ := DataW.trod_int Tryz.underlying5 hv
    obtain ⟨k, rfl, hk⟩ := u8_nat hw
    exact ⟨k, hs, hk⟩) h
  exact ⟨L, h1, fun i y hy => by
    obtain ⟨⟨b, off, e1, e2, e3⟩, _⟩ := h2 i y hy
    exact ⟨b, off, e1, e2, by have := e3 0 _ rfl; rwa [Nat.mul_one, Nat.add_zero] at this⟩, fun y hy => by obtain ⟨i, hi⟩ := List.mem_iff_getElem?.1 hy; exact (h2 i y hi).2, h3⟩
theorem texts_of {fuel : Nat} {a0 : Option Addr} {len cap : Nat} {x : DataW H × List MemPlace} (h : DataW.trod enc Tryz.prog W base spare held fuel 24 [.slice a0 len cap] = some x) : ∃ L : List ByteArray, L.length = len ∧ OneRow Value.string W W.heap.size a0 L ∧ (∀ y ∈ L, y.size ≤ 9223372036854775807) ∧ len ≤ 9223372036854775807 := by
  obtain ⟨L, h1, h2, h3⟩ := row_of 1 (fun s : ByteArray => [Value.string s]) (fun s => s.size ≤ 9223372036854775807) Tryz.underlying24 cellsStr (fun y => by simp) (fun f cs x hv => by
    obtain ⟨s, hs, _, hz⟩ := DataW.trod_string Tryz.underlying9 hv
    exact ⟨s, hs, by unfold maxLen at hz; exact hz⟩) h
  exact ⟨L, h1, fun i y hy => by
    obtain ⟨⟨b, off, e1, e2, e3⟩, _⟩ := h2 i y hy
    exact ⟨b, off, e1, e2, by have := e3 0 _ rfl; rwa [Nat.mul_one, Nat.add_zero] at this⟩, fun y hy => by obtain ⟨i, hi⟩ := List.mem_iff_getElem?.1 hy; exact (h2 i y hi).2, h3⟩
end
end Go.Proofs.YtkigkdiphhecaaaGreat.pln
