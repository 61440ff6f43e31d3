/- Nodes that were written: what a store of a node's cells changes, and what a row that is being copied holds. No condition. -/
import Derived.Test.YtniklphdnakehaaDoorTreCopy
import Derived.Laws.IdiomCopy
import Derived.Deep.Upon
namespace Go.Proofs.YtniklphdnakehaaDoor.tre
set_option maxRecDepth 100000
open Go.RowKit Go.Proofs.YtniklphdnakehaaDoor.words Go.Proofs.YtniklphdnakehaaDoor.ext Go.Proofs.YtniklphdnakehaaDoor.name

def nd0 : Nd := .mk 0 false [] [] 0 [] ⟨#[]⟩
def raw0 : Raw := ⟨none, 0, none, 0, none, 0⟩
theorem TxtIn.keep {w w' : World} {P P' : Nat → Prop} {A : Option Addr} {Q : List ByteArray} (h : TxtIn w P A Q) (hk : ∀ b, P b → w'.heap[b]? = w.heap[b]? ∧ P' b) : TxtIn w' P' A Q := fun i x hx => by
  obtain ⟨⟨b, off, h1, h2, h3⟩, h4⟩ := h i x hx
  exact ⟨⟨b, off, h1, (hk b h2).2, (World.cell?_of_block (hk b h2).1).trans h3⟩, h4⟩
theorem ExtIn.keep {w w' : World} {P P' : Nat → Prop} {A : Option Addr} {L : List Ex} (h : ExtIn w P A L) (hk : ∀ b, P b → w'.heap[b]? = w.heap[b]? ∧ P' b) : ExtIn w' P' A L := fun i x hx => by
  obtain ⟨⟨b, off, h1, h2, h3, h3'⟩, h4⟩ := h i x hx
  exact ⟨⟨b, off, h1, (hk b h2).2, (World.cell?_of_block (hk b h2).1).trans h3, (World.cell?_of_block (hk b h2).1).trans h3'⟩, h4⟩

/-- The cells of a row of one's own. -/
theorem own_cell {w : World} {B n c size : Nat} {E : TypeId} {A : Option Addr} {xs : List Value} (h : w.ownsRow B E size (.slice A n c) n xs) {j : Nat} {u : Value} (hj : xs[j]? = some u) :
    ∃ g cur, A = some ⟨g, 0, none⟩ ∧ B ≤ g ∧ g < w.heap.size ∧ w.heap[g]? = some (.cells cur E (0, 0)) ∧ w.cell? ⟨g, j, none⟩ = some u := by
  rcases h.2 with ⟨_, h0⟩ | ⟨g, cap, cur, hv, h1, h2, _, _, _, h6⟩
  · have := (List.getElem?_eq_some_iff.1 hj).1
    rw [h.1, h0, Nat.zero_mul] at this
    omega
  · injection hv with hA
    refine ⟨g, cur, hA, h1, lt_of_some h2, h2, ?_⟩
    have hlt := (List.getElem?_eq_some_iff.1 hj).1
    rw [h.1] at hlt
    rw [← h6, List.getElem?_take_of_lt hlt, Array.getElem?_toList] at hj
    unfold World.cell?
    rw [h2]
    simpa using hj
theorem own_txt {w : World} {B n c : Nat} {E : TypeId} {A : Option Addr} {N : List ByteArray} (h : w.ownsRow B E 1 (.slice A n c) n (N.map Value.string)) (hs : ∀ (i : Nat) (x : ByteArray), N[i]? = some x → x.size ≤ 140737488355328) :
    TxtIn w (fun b => B ≤ b ∧ b < w.heap.size) A N := fun i x hx => by
  obtain ⟨g, cur, h1, h2, h3, _, h5⟩ := own_cell h (j := i) (u := .string x) (by rw [List.getElem?_map, hx]; rfl)
  exact ⟨⟨g, 0, h1, ⟨h2, h3⟩, by rw [Nat.zero_add]; exact h5⟩, hs i x hx⟩
theorem own_ext {w : World} {B n c : Nat} {E : TypeId} {A : Option Addr} {L : List Ex} (h : w.ownsRow B E 2 (.slice A n c) n (exCells L)) (hs : ∀ (i : Nat) (x : Ex), L[i]? = some x → -9223372036854775808 ≤ x.O ∧ x.O ≤ 9223372036854775807 ∧ x.D.size ≤ 140737488355328) :
    ExtIn w (fun b => B ≤ b ∧ b < w.heap.size) A L := fun i x hx => by
  obtain ⟨e0, e1⟩ := exCells_at hx
  obtain ⟨g, cur, h1, h2, h3, _, h5⟩ := own_cell h e0
  obtain ⟨g', _, h1', _, _, _, h5'⟩ := own_cell h e1
  rw [h1] at h1'
  injection h1' with h1'
  injection h1' with h1'
  subst h1'
  exact ⟨⟨g, 0, h1, ⟨h2, h3⟩, by rw [Nat.zero_add]; exact h5, by rw [Nat.zero_add]; exact h5'⟩, hs i x hx⟩

/-! A node's cells written into a row -/
theorem size_setCells (b : Nat) : ∀ (vs : List Value) (o : Nat) (w : World), (w.setCells b o vs).heap.size = w.heap.size
  | [], _, _ => rfl
  | v :: r, o, w => by rw [World.setCells, size_setCells b r, World.size_setCell]
theorem heap_setCells_same (g : Nat) (T : TypeId) : ∀ (vs : List Value) (o : Nat) (w : World) (cur : Array Value), w.heap[g]? = some (.cells cur T (0, 0)) → ∃ cur', (w.setCells g o vs).heap[g]? = some (.cells cur' T (0, 0))
  | [], _, _, cur, h => ⟨cur, h⟩
  | v :: r, o, w, cur, h => by
    rw [World.setCells]
    exact heap_setCells_same g T r (o + 1) _ _ (heap_setCell_same w g o cur T v h)

/-- What holds while a row of nodes is being copied: the first j entries are copies. -/
structure Kept (w wr : World) (n : Nd) (q : Raw) (g j : Nat) : Prop where
  box : Box wr w.heap.size n q
  out : Box wr (w.heap.size + 1) nd0 raw0
  below : Below w.heap.size w wr
  big : w.heap.size + 1 < g
  small : g ≤ wr.heap.size
  names : TxtIn wr (fun b => w.heap.size + 1 < b ∧ b < g) q.An n.N
  exts : ExtIn wr (fun b => w.heap.size + 1 < b ∧ b < g) q.Ae n.E
  row : ∀ i x, n.I[i]? = some x → q.Ai = some ⟨g, 0, none⟩ ∧ (∃ cur, wr.heap[g]? = some (.cells cur 27 (0, 0))) ∧
    ∃ rx, (i < j → NdIn wr (fun b => g < b ∧ b < wr.heap.size) x rx) ∧ (j ≤ i → NdAt w w.heap.size x rx) ∧ ∀ k v, (rawCells x rx)[k]? = some v → wr.cell? ⟨g, i * 7 + k, none⟩ = some v
  fit : Fit n q
theorem Kept.later {w wr w' : World} {n : Nd} {q : Raw} {g j : Nat} (h : Kept w wr n q g j) (hb : Below wr.heap.size wr w') : Kept w w' n q g j := by
  refine ⟨h.box.below hb, h.out.below hb, h.below.trans (hb.mono h.below.size), h.big, Nat.le_trans h.small hb.size, ?_, ?_, ?_, h.fit⟩
  · exact h.names.keep fun b hk => ⟨hb.block b (Nat.lt_of_lt_of_le hk.2 h.small), hk⟩
  · exact h.exts.keep fun b hk => ⟨hb.block b (Nat.lt_of_lt_of_le hk.2 h.small), hk⟩
  · intro i x hx
    obtain ⟨h1, ⟨cur, h2⟩, rx, h3, h4, h5⟩ := h.row i x hx
    have hg := lt_of_some h2
    exact ⟨h1, ⟨cur, (hb.block g hg).trans h2⟩, rx, fun hi => (h3 hi).keep fun b hk => ⟨hb.block b hk.2, hk.1, Nat.lt_of_lt_of_le hk.2 hb.size⟩, h4,
      fun k v hk => (hb.cell (p := ⟨g, i * 7 + k, none⟩) hg).trans (h5 k v hk)⟩
theorem Kept.store {w wr : World} {n x : Nd} {q rx : Raw} {g j : Nat} (h : Kept w wr n q g j) (hx : n.I[j]? = some x) (hn : NdIn wr (fun b => g < b ∧ b < wr.heap.size) x rx) :
    Kept w (wr.setCells g (j * 7) (rawCells x rx).toList) n q g (j + 1) := by
  obtain ⟨_, ⟨cur, hcur⟩, ry, _, _, hcell⟩ := h.row j x hx
  have hg := lt_of_some hcur
  have hb1 := h.big
  have oth : ∀ b, b < wr.heap.size → b ≠ g → (wr.setCells g (j * 7) (rawCells x rx).toList).heap[b]? = wr.heap[b]? := fun b h1 h2 => World.heap_setCells_other wr g _ _ h1 h2
  have hbx := h.box.lt
  have hox := h.out.lt
  have hs := size_setCells g (rawCells x rx).toList (j * 7) wr
  refine ⟨(oth _ hbx (by omega)).trans h.box, (oth _ hox (by omega)).trans h.out, ?_, h.big, by rw [hs]; exact h.small, ?_, ?_, ?_, h.fit⟩
  · have hi : (∀ vs o (w1 : World), Below w.heap.size w w1 → Below w.heap.size w (w1.setCells g o vs)) := by
      intro vs
      induction vs with
      | nil => intro o w1 h1; exact h1
      | cons v vs ih => intro o w1 h1; rw [World.setCells]; exact ih _ _ (h1.setCell (p := ⟨g, o, none⟩) (by show w.heap.size ≤ g; omega) v)
    exact hi _ _ _ h.below
  · exact h.names.keep fun b hk => ⟨oth b (by have := h.small; omega) (by omega), hk⟩
  · exact h.exts.keep fun b hk => ⟨oth b (by have := h.small; omega) (by omega), hk⟩
  · intro i y hy
    obtain ⟨h1, _, ri, h3, h4, h5⟩ := h.row i y hy
    refine ⟨h1, heap_setCells_same g _ _ _ _ cur hcur, ?_⟩
    by_cases hij : i = j
    · subst hij
      obtain rfl : x = y := Option.some.inj (hx.symm.trans hy)
      refine ⟨rx, fun _ => hn.keep fun b hk => ⟨oth b hk.2 (by omega), hk.1, by rw [hs]; exact hk.2⟩, fun hle => by omega, fun k v hk => ?_⟩
      have hlt : k < (rawCells x rx).toList.length := by rw [Array.length_toList]; exact (Array.getElem?_eq_some_iff.1 hk).1
      rw [World.cell?_setCells_in g (rawCells x rx).toList (i * 7) wr (fun k' hk' => by
        have hk'' : k' < (rawCells x ri).size := hk'
        rw [h5 k' _ (Array.getElem?_eq_getElem (xs := rawCells x ri) (i := k') hk'')]
        rfl) k hlt, ← Array.getElem?_toList.trans hk]
      exact (List.getElem?_eq_getElem hlt).symm
    · refine ⟨ri, fun hlt => (h3 (by omega)).keep fun b hk => ⟨oth b hk.2 (by omega), hk.1, by rw [hs]; exact hk.2⟩, fun hle => h4 (by omega), fun k v hk => ?_⟩
      have hlt : k < 7 := (Array.getElem?_eq_some_iff.1 hk).1
      rw [World.cell?_setCells_out g (rawCells x rx).toList (j * 7) wr ⟨g, i * 7 + k, none⟩ (fun _ _ => by
        show i * 7 + k < j * 7 ∨ j * 7 + 7 ≤ i * 7 + k
        omega)]
      exact h5 k v hk
/-- The result's cell written at the end. -/
theorem Kept.done {w wr : World} {n : Nd} {q : Raw} {g j : Nat} (h : Kept w wr n q g j) (hj : n.I.length ≤ j) :
    NdIn (wr.setCells (w.heap.size + 1) 0 (rawCells n q).toList) (fun b => w.heap.size ≤ b ∧ b < (wr.setCells (w.heap.size + 1) 0 (rawCells n q).toList).heap.size) n q ∧
      Below w.heap.size w (wr.setCells (w.heap.size + 1) 0 (rawCells n q).toList) := by
  have hs := size_setCells (w.heap.size + 1) (rawCells n q).toList 0 wr
  have hb1 := h.big
  have hsm := h.small
  have oth : ∀ b, b < wr.heap.size → b ≠ w.heap.size + 1 → (wr.setCells (w.heap.size + 1) 0 (rawCells n q).toList).heap[b]? = wr.heap[b]? := fun b h1 h2 => World.heap_setCells_other wr _ _ _ h1 h2
  have hrow : ∀ i x, n.I[i]? = some x → ∃ rx, NdIn wr (fun b => g < b ∧ b < wr.heap.size) x rx ∧ q.Ai = some ⟨g, 0, none⟩ ∧ g < wr.heap.size ∧ ∀ k v, (rawCells x rx)[k]? = some v → wr.cell? ⟨g, i * 7 + k, none⟩ = some v := fun i x hx => by
    obtain ⟨h1, ⟨cur, h2⟩, rx, h3, _, h5⟩ := h.row i x hx
    have hlt := (List.getElem?_eq_some_iff.1 hx).1
    exact ⟨rx, h3 (by omega), h1, lt_of_some h2, h5⟩
  have hch : ∃ rs : Nat → Raw, ∀ i x, n.I[i]? = some x → NdIn wr (fun b => g < b ∧ b < wr.heap.size) x (rs i) ∧ q.Ai = some ⟨g, 0, none⟩ ∧ g < wr.heap.size ∧ ∀ k v, (rawCells x (rs i))[k]? = some v → wr.cell? ⟨g, i * 7 + k, none⟩ = some v := by
    have : ∀ i, ∃ rx : Raw, ∀ x, n.I[i]? = some x → NdIn wr (fun b => g < b ∧ b < wr.heap.size) x rx ∧ q.Ai = some ⟨g, 0, none⟩ ∧ g < wr.heap.size ∧ ∀ k v, (rawCells x rx)[k]? = some v → wr.cell? ⟨g, i * 7 + k, none⟩ = some v := fun i => by
      rcases hi : n.I[i]? with _ | x
      · exact ⟨raw0, fun x hx => by cases hx⟩
      · obtain ⟨rx, hrx⟩ := hrow i x hi
        exact ⟨rx, fun y hy => by cases hy; exact hrx⟩
    exact ⟨fun i => (this i).choose, fun i => (this i).choose_spec⟩
  have hbe : Below w.heap.size w (wr.setCells (w.heap.size + 1) 0 (rawCells n q).toList) := by
    have hi : (∀ vs o (w1 : World), Below w.heap.size w w1 → Below w.heap.size w (w1.setCells (w.heap.size + 1) o vs)) := by
      intro vs
      induction vs with
      | nil => intro o w1 h1; exact h1
      | cons v vs ih => intro o w1 h1; rw [World.setCells]; exact ih _ _ (h1.setCell (p := ⟨w.heap.size + 1, o, none⟩) (by show w.heap.size ≤ w.heap.size + 1; omega) v)
    exact hi _ _ _ h.below
  obtain ⟨rs, hrs⟩ := hch
  generalize wr.setCells (w.heap.size + 1) 0 (rawCells n q).toList = w' at hs oth hbe ⊢
  refine ⟨.mk rs h.fit (h.names.keep fun b hk => ⟨oth b (by omega) (by omega), by omega, by rw [hs]; omega⟩) (h.exts.keep fun b hk => ⟨oth b (by omega) (by omega), by omega, by rw [hs]; omega⟩) (fun i x hx => ?_) (fun i x hx => ?_), hbe⟩
  · obtain ⟨_, h2, h3, h4⟩ := hrs i x hx
    refine ⟨g, 0, h2, ⟨by omega, by rw [hs]; omega⟩, fun k v hk => ?_⟩
    have := (World.cell?_of_block (a := ⟨g, i * 7 + k, none⟩) (oth g h3 (by omega))).trans (h4 k v hk)
    rw [show 0 + i * 7 + k = i * 7 + k by omega]
    exact this
  · exact (hrs i x hx).1.keep fun b hk => ⟨oth b hk.2 (by omega), by omega, by rw [hs]; exact hk.2⟩
end Go.Proofs.YtniklphdnakehaaDoor.tre
