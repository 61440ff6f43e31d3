/- How what came in is read: rows of what is asked, of ints, of texts. No condition. -/
import Derived.Test.YtllebfkodklehaaRows
import Derived.Test.YtllebfkodklehaaLruLawDoes
import Derived.ProofKit
import Derived.OpenShut
import Derived.Deep.Slices
namespace Go.Proofs.Ytllebfkodklehaa.lrs
set_option maxRecDepth 100000
open Go.ChangeShapes Go.WideShapes Go.RowKit Go.Proofs.Ytllebfkodklehaa.words Go.Proofs.Ytllebfkodklehaa.lru

theorem two {α : Type} {l : List α} (h : l.length = 2) : ∃ a b, l = [a, b] := by
  match l, h with
  | [a, b], _ => exact ⟨a, b, rfl⟩
section
variable {H : Type} {enc : TypeId × Value → H} {W : World} {base : Nat} {spare : Nat → Bool} {held : Bool}
theorem cellsInt : Try.prog.cellsOf 3 = 1 := by kernel_rfl
theorem cellsStr : Try.prog.cellsOf 9 = 1 := by kernel_rfl
def big (x : Int) : Prop := -9223372036854775808 ≤ x ∧ x ≤ 9223372036854775807
theorem int_big {n : Int} (h : (Lit.int .i64 n).wf = true) : big n := by
  simp [Lit.wf, IntKind.min, IntKind.max, IntKind.signed, IntKind.bits] at h
  unfold big
  omega
theorem cellsAct13 : Try.prog.cellsOf 28 = 2 := by kernel_rfl
theorem act13_of {fuel : Nat} {cs : List Value} {x : DataW H × List MemPlace} (h : DataW.trod enc Try.prog W base spare held fuel 28 cs = some x) : ∃ y : ByteArray × Int, cs = [.string y.1, .int .i64 y.2] ∧ y.1.size ≤ 9223372036854775807 := by
  obtain ⟨xs, n, _, _, hlen, hxl, hf⟩ := DataW.trod_struct Try.underlying28 h
  rw [cellsAct13] at hlen
  obtain ⟨c0, c1, rfl⟩ := two hlen
  obtain ⟨x0, x1, rfl⟩ := two hxl
  have g0 : DataW.trod enc Try.prog W base spare held n 9 (([c0, c1].drop 0).take (Try.prog.cellsOf 9)) = some x0 := hf 0 _ rfl
  have g1 : DataW.trod enc Try.prog W base spare held n 3 (([c0, c1].drop 1).take (Try.prog.cellsOf 3)) = some x1 := hf 1 _ rfl
  rw [cellsStr] at g0
  rw [cellsInt] at g1
  obtain ⟨S, e0, _, wS⟩ := DataW.trod_string Try.underlying9 (show DataW.trod enc Try.prog W base spare held n 9 [c0] = some x0 from g0)
  obtain ⟨N, e1, _, _⟩ := DataW.trod_int Try.underlying3 (show DataW.trod enc Try.prog W base spare held n 3 [c1] = some x1 from g1)
  exact ⟨(S, N), by simp_all, by unfold maxLen at wS; exact wS⟩
theorem acts13_of {fuel : Nat} {a0 : Option Addr} {len cap : Nat} {x : DataW H × List MemPlace} (h : DataW.trod enc Try.prog W base spare held fuel 22 [.slice a0 len cap] = some x) :
    ∃ L : List (ByteArray × Int), L.length = len ∧ Acts W W.heap.size a0 L ∧ (∀ y ∈ L, y.1.size ≤ 9223372036854775807) ∧ len ≤ 9223372036854775807 := by
  rcases Deep.open_slice Try.underlying22 h with ⟨hc, _⟩ | ⟨a, l, c, m, n, D, Pl, hc, _, hl, hm, hmm, _, hi⟩
  · simp at hc
    obtain ⟨rfl, rfl, rfl⟩ := hc
    exact ⟨[], rfl, fun i x hx => by simp at hx, fun y hy => (by cases hy), by omega⟩
  · simp at hc
    obtain ⟨rfl, rfl, rfl⟩ := hc
    have hlm : len ≤ m := by rw [hmm]; split <;> omega
    have each : ∀ i, i < len → ∃ y : ByteArray × Int, y.1.size ≤ 9223372036854775807 ∧ ∀ j v, ([.string y.1, .int .i64 y.2] : List Value)[j]? = some v → W.cell? ((a.add (i * 2)).add j) = some v := fun i hlt => by
      obtain ⟨cs, hcs, ht⟩ := hi i (by omega)
      rw [cellsAct13] at hcs
      obtain ⟨y, rfl, hq⟩ := act13_of ht
      obtain ⟨_, _, hat⟩ := World.cells?_some hcs
      exact ⟨y, hq, fun j v hj => (hat j (by have := (List.getElem?_eq_some_iff.1 hj).1; simpa using this)).trans hj⟩
    obtain ⟨f, hfl⟩ := Deep.choose_lt each
    refine ⟨(List.range len).map f, by simp, fun i x hx => ?_, fun y hy => ?_, by unfold maxLen at hm; omega⟩
    · have hlt : i < len := by
        have := (List.getElem?_eq_some_iff.1 hx).1
        simpa using this
      have hxe : x = f i := by
        rw [List.getElem?_map, List.getElem?_range hlt] at hx
        simpa using hx.symm
      subst hxe
      obtain ⟨b, off, spot⟩ := a
      have h0 := (hfl 0 (by omega)).2 0 _ rfl
      have hspot : spot = none := by simpa [Addr.add] using World.cell?_spot h0
      subst hspot
      have hc := (hfl i hlt).2
      simp only [add_place] at hc
      exact ⟨b, off, rfl, World.block_lt_of_cell? W _ (hc 0 _ rfl), hc 0 _ rfl, hc 1 _ rfl⟩
    · obtain ⟨i, hi, rfl⟩ := List.mem_map.1 hy
      exact (hfl i (List.mem_range.1 hi)).1
theorem cellsAct14 : Try.prog.cellsOf 61 = 2 := by kernel_rfl
theorem act14_of {fuel : Nat} {cs : List Value} {x : DataW H × List MemPlace} (h : DataW.trod enc Try.prog W base spare held fuel 61 cs = some x) : ∃ y : ByteArray × Int, cs = [.string y.1, .int .i64 y.2] ∧ y.1.size ≤ 9223372036854775807 := by
  obtain ⟨xs, n, _, _, hlen, hxl, hf⟩ := DataW.trod_struct Try.underlying61 h
  rw [cellsAct14] at hlen
  obtain ⟨c0, c1, rfl⟩ := two hlen
  obtain ⟨x0, x1, rfl⟩ := two hxl
  have g0 : DataW.trod enc Try.prog W base spare held n 9 (([c0, c1].drop 0).take (Try.prog.cellsOf 9)) = some x0 := hf 0 _ rfl
  have g1 : DataW.trod enc Try.prog W base spare held n 3 (([c0, c1].drop 1).take (Try.prog.cellsOf 3)) = some x1 := hf 1 _ rfl
  rw [cellsStr] at g0
  rw [cellsInt] at g1
  obtain ⟨S, e0, _, wS⟩ := DataW.trod_string Try.underlying9 (show DataW.trod enc Try.prog W base spare held n 9 [c0] = some x0 from g0)
  obtain ⟨N, e1, _, _⟩ := DataW.trod_int Try.underlying3 (show DataW.trod enc Try.prog W base spare held n 3 [c1] = some x1 from g1)
  exact ⟨(S, N), by simp_all, by unfold maxLen at wS; exact wS⟩
theorem acts14_of {fuel : Nat} {a0 : Option Addr} {len cap : Nat} {x : DataW H × List MemPlace} (h : DataW.trod enc Try.prog W base spare held fuel 59 [.slice a0 len cap] = some x) :
    ∃ L : List (ByteArray × Int), L.length = len ∧ Acts W W.heap.size a0 L ∧ (∀ y ∈ L, y.1.size ≤ 9223372036854775807) ∧ len ≤ 9223372036854775807 := by
  rcases Deep.open_slice Try.underlying59 h with ⟨hc, _⟩ | ⟨a, l, c, m, n, D, Pl, hc, _, hl, hm, hmm, _, hi⟩
  · simp at hc
    obtain ⟨rfl, rfl, rfl⟩ := hc
    exact ⟨[], rfl, fun i x hx => by simp at hx, fun y hy => (by cases hy), by omega⟩
  · simp at hc
    obtain ⟨rfl, rfl, rfl⟩ := hc
    have hlm : len ≤ m := by rw [hmm]; split <;> omega
    have each : ∀ i, i < len → ∃ y : ByteArray × Int, y.1.size ≤ 9223372036854775807 ∧ ∀ j v, ([.string y.1, .int .i64 y.2] : List Value)[j]? = some v → W.cell? ((a.add (i * 2)).add j) = some v := fun i hlt => by
      obtain ⟨cs, hcs, ht⟩ := hi i (by omega)
      rw [cellsAct14] at hcs
      obtain ⟨y, rfl, hq⟩ := act14_of ht
      obtain ⟨_, _, hat⟩ := World.cells?_some hcs
      exact ⟨y, hq, fun j v hj => (hat j (by have := (List.getElem?_eq_some_iff.1 hj).1; simpa using this)).trans hj⟩
    obtain ⟨f, hfl⟩ := Deep.choose_lt each
    refine ⟨(List.range len).map f, by simp, fun i x hx => ?_, fun y hy => ?_, by unfold maxLen at hm; omega⟩
    · have hlt : i < len := by
        have := (List.getElem?_eq_some_iff.1 hx).1
        simpa using this
      have hxe : x = f i := by
        rw [List.getElem?_map, List.getElem?_range hlt] at hx
        simpa using hx.symm
      subst hxe
      obtain ⟨b, off, spot⟩ := a
      have h0 := (hfl 0 (by omega)).2 0 _ rfl
      have hspot : spot = none := by simpa [Addr.add] using World.cell?_spot h0
      subst hspot
      have hc := (hfl i hlt).2
      simp only [add_place] at hc
      exact ⟨b, off, rfl, World.block_lt_of_cell? W _ (hc 0 _ rfl), hc 0 _ rfl, hc 1 _ rfl⟩
    · obtain ⟨i, hi, rfl⟩ := List.mem_map.1 hy
      exact (hfl i (List.mem_range.1 hi)).1
/-- The slice with address A holds the texts T, below block B. -/
def Txts (w : World) (B : Nat) (A : Option Addr) (T : List ByteArray) : Prop := ∀ i x, T[i]? = some x → ∃ b off, A = some ⟨b, off, none⟩ ∧ b < B ∧ w.cell? ⟨b, off + i, none⟩ = some (.string x)
theorem Txts.keep {w w' : World} {B : Nat} {A : Option Addr} {T : List ByteArray} (h : Txts w B A T) (hb : Below B w w') : Txts w' B A T := fun i x hx => by
  obtain ⟨b, off, h1, h2, h3⟩ := h i x hx
  exact ⟨b, off, h1, h2, (hb.cell (p := ⟨b, off + i, none⟩) h2).trans h3⟩
def Ints (w : World) (B : Nat) (A : Option Addr) (T : List Int) : Prop := ∀ i x, T[i]? = some x → (∃ b off, A = some ⟨b, off, none⟩ ∧ b < B ∧ w.cell? ⟨b, off + i, none⟩ = some (.int .i64 x)) ∧ big x
theorem Ints.keep {w w' : World} {B : Nat} {A : Option Addr} {T : List Int} (h : Ints w B A T) (hb : Below B w w') : Ints w' B A T := fun i x hx => by
  obtain ⟨⟨b, off, h1, h2, h3⟩, h4⟩ := h i x hx
  exact ⟨⟨b, off, h1, h2, (hb.cell (p := ⟨b, off + i, none⟩) h2).trans h3⟩, h4⟩
theorem one_row {fuel : Nat} {a0 : Option Addr} {len cap : Nat} {e t : TypeId} {α : Type} [Inhabited α] (V : α → Value) (Q : α → Prop) (hu : Try.prog.underlying t = some (.slice e)) (hc1 : Try.prog.cellsOf e = 1)
    (hone : ∀ (f : Nat) (v : Value) x, DataW.trod enc Try.prog W base spare held f e [v] = some x → ∃ y, v = V y ∧ Q y) {x : DataW H × List MemPlace} (h : DataW.trod enc Try.prog W base spare held fuel t [.slice a0 len cap] = some x) :
    ∃ L : List α, L.length = len ∧ (∀ i y, L[i]? = some y → (∃ b off, a0 = some ⟨b, off, none⟩ ∧ b < W.heap.size ∧ W.cell? ⟨b, off + i, none⟩ = some (V y)) ∧ Q y) ∧ len ≤ 9223372036854775807 := by
  rcases Deep.open_slice hu h with ⟨hc, _⟩ | ⟨a, l, c, m, n, D, Pl, hc, _, hl, hm, hmm, _, hi⟩
  · simp at hc
    obtain ⟨rfl, rfl, rfl⟩ := hc
    exact ⟨[], rfl, fun i x hx => by simp at hx, by omega⟩
  · simp at hc
    obtain ⟨rfl, rfl, rfl⟩ := hc
    have hlm : len ≤ m := by rw [hmm]; split <;> omega
    have each : ∀ i, i < len → ∃ y : α, Q y ∧ W.cell? (a.add i) = some (V y) := fun i hlt => by
      obtain ⟨cs, hcs, ht⟩ := hi i (by omega)
      rw [hc1, Nat.mul_one] at hcs
      obtain ⟨hlen, hcl, hat⟩ := World.cells?_some hcs
      obtain ⟨v, rfl⟩ : ∃ v, cs = [v] := by
        match cs, hcl with
        | [v], _ => exact ⟨v, rfl⟩
      obtain ⟨y, rfl, hq⟩ := hone _ _ _ ht
      have h0 := hat 0 (by omega)
      have e : (a.add i).add 0 = a.add i := by simp [Addr.add]
      rw [e] at h0
      exact ⟨y, hq, h0⟩
    obtain ⟨f, hfl⟩ := Deep.choose_lt each
    refine ⟨(List.range len).map f, by simp, fun i x hx => ?_, by unfold maxLen at hm; omega⟩
    have hlt : i < len := by
      have := (List.getElem?_eq_some_iff.1 hx).1
      simpa using this
    have hxe : x = f i := by
      rw [List.getElem?_map, List.getElem?_range hlt] at hx
      simpa using hx.symm
    subst hxe
    obtain ⟨b, off, spot⟩ := a
    have h0 := (hfl 0 (by omega)).2
    have hspot : spot = none := by simpa [Addr.add] using World.cell?_spot h0
    subst hspot
    have hcell := (hfl i hlt).2
    rw [add_place] at hcell
    exact ⟨⟨b, off, rfl, World.block_lt_of_cell? W _ hcell, hcell⟩, (hfl i hlt).1⟩
instance : Inhabited ByteArray := ⟨⟨#[]⟩⟩
theorem texts_of {fuel : Nat} {a0 : Option Addr} {len cap : Nat} {x : DataW H × List MemPlace} (h : DataW.trod enc Try.prog W base spare held fuel 38 [.slice a0 len cap] = some x) : ∃ L : List ByteArray, L.length = len ∧ Txts W W.heap.size a0 L ∧ (∀ y ∈ L, y.size ≤ 9223372036854775807) ∧ len ≤ 9223372036854775807 := by
  obtain ⟨L, h1, h2, h3⟩ := one_row Value.string (fun y => y.size ≤ 9223372036854775807) Try.underlying38 cellsStr (fun f v x hv => by
    obtain ⟨s, hs, _, hz⟩ := DataW.trod_string Try.underlying9 hv
    exact ⟨s, by simpa using hs, by unfold maxLen at hz; exact hz⟩) h
  exact ⟨L, h1, fun i y hy => (h2 i y hy).1, fun y hy => by obtain ⟨i, hi⟩ := List.mem_iff_getElem?.1 hy; exact (h2 i y hi).2, h3⟩
theorem ints_of {fuel : Nat} {a0 : Option Addr} {len cap : Nat} {x : DataW H × List MemPlace} (h : DataW.trod enc Try.prog W base spare held fuel 43 [.slice a0 len cap] = some x) : ∃ L : List Int, L.length = len ∧ Ints W W.heap.size a0 L ∧ len ≤ 9223372036854775807 := by
  obtain ⟨L, h1, h2, h3⟩ := one_row (Value.int .i64) big Try.underlying43 cellsInt (fun f v x hv => by
    obtain ⟨s, hs, _, hw⟩ := DataW.trod_int Try.underlying3 hv
    exact ⟨s, by simpa using hs, int_big hw⟩) h
  exact ⟨L, h1, h2, h3⟩
end
end Go.Proofs.Ytllebfkodklehaa.lrs
