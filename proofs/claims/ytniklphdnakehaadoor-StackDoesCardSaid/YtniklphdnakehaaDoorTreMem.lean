/- Nodes as they are read in a walk: seven cells a node, its texts, entries and extents elsewhere. No condition. -/
import Derived.Test.YtniklphdnakehaaDoorExtMem
import Derived.Test.YtniklphdnakehaaDoorTreMath
namespace Go.Proofs.YtniklphdnakehaaDoor.tre
set_option maxRecDepth 100000
open Go.RowKit Go.Proofs.YtniklphdnakehaaDoor.words Go.Proofs.YtniklphdnakehaaDoor.ext Go.Proofs.YtniklphdnakehaaDoor.name

/-- The slice with address A holds the texts Q, below block B. -/
def Txts (w : World) (B : Nat) (A : Option Addr) (Q : List ByteArray) : Prop :=
  ∀ i x, Q[i]? = some x → (∃ b off, A = some ⟨b, off, none⟩ ∧ b < B ∧ w.cell? ⟨b, off + i, none⟩ = some (.string x)) ∧ x.size ≤ 140737488355328
theorem Txts.keep {w w' : World} {B : Nat} {A : Option Addr} {Q : List ByteArray} (h : Txts w B A Q) (hb : Below B w w') : Txts w' B A Q := fun i x hx => by
  obtain ⟨⟨b, off, hA, hB, c0⟩, h1⟩ := h i x hx
  exact ⟨⟨b, off, hA, hB, (hb.cell (p := ⟨b, off + i, none⟩) hB).trans c0⟩, h1⟩
theorem Txts.more {w : World} {B B' : Nat} {A : Option Addr} {Q : List ByteArray} (h : Txts w B A Q) (hB' : B ≤ B') : Txts w B' A Q := fun i x hx => by
  obtain ⟨⟨b, off, hA, hB, c⟩, h1⟩ := h i x hx
  exact ⟨⟨b, off, hA, Nat.lt_of_lt_of_le hB hB', c⟩, h1⟩

/-- A node's seven cells. -/
structure Raw where
  An : Option Addr
  cn : Nat
  Ai : Option Addr
  ci : Nat
  Ae : Option Addr
  ce : Nat
def rawCells (n : Nd) (r : Raw) : Array Value :=
  #[.int .i64 n.K, .bool n.O, .slice r.An n.N.length r.cn, .slice r.Ai n.I.length r.ci, .int .i64 n.S, .slice r.Ae n.E.length r.ce, .string n.T]
/-- The bounds of what is read. -/
structure Fit (n : Nd) (r : Raw) : Prop where
  k1 : -9223372036854775808 ≤ n.K
  k2 : n.K ≤ 9223372036854775807
  s1 : -9223372036854775808 ≤ n.S
  s2 : n.S ≤ 9223372036854775807
  t : n.T.size ≤ 140737488355328
  ln : n.N.length * 16 ≤ 140737488355328
  li : n.I.length * 112 ≤ 140737488355328
  le : n.E.length * 24 ≤ 140737488355328
  cn : n.N.length ≤ r.cn
  ci : n.I.length ≤ r.ci
  ce : n.E.length ≤ r.ce
  zn : r.An = none → n.N.length = 0 ∧ r.cn = 0
  zi : r.Ai = none → n.I.length = 0 ∧ r.ci = 0
  ze : r.Ae = none → n.E.length = 0 ∧ r.ce = 0
/-- A node in memory, below block B: it and all in it. -/
inductive NdAt (w : World) (B : Nat) : Nd → Raw → Prop
  | mk {n : Nd} {r : Raw} (rs : Nat → Raw) (fit : Fit n r) (names : Txts w B r.An n.N) (exts : Exts w B r.Ae n.E)
      (cells : ∀ i x, n.I[i]? = some x → ∃ b off, r.Ai = some ⟨b, off, none⟩ ∧ b < B ∧ ∀ j v, (rawCells x (rs i))[j]? = some v → w.cell? ⟨b, off + i * 7 + j, none⟩ = some v)
      (items : ∀ i x, n.I[i]? = some x → NdAt w B x (rs i)) : NdAt w B n r
section
variable {w w' : World} {B B' : Nat} {n : Nd} {r : Raw}
theorem NdAt.fit (h : NdAt w B n r) : Fit n r := by cases h; assumption
theorem NdAt.names (h : NdAt w B n r) : Txts w B r.An n.N := by cases h; assumption
theorem NdAt.exts (h : NdAt w B n r) : Exts w B r.Ae n.E := by cases h; assumption
theorem NdAt.item (h : NdAt w B n r) {i : Nat} {x : Nd} (hx : n.I[i]? = some x) :
    ∃ r', NdAt w B x r' ∧ ∃ b off, r.Ai = some ⟨b, off, none⟩ ∧ b < B ∧ ∀ j v, (rawCells x r')[j]? = some v → w.cell? ⟨b, off + i * 7 + j, none⟩ = some v := by
  cases h with
  | mk rs _ _ _ hc hi =>
    obtain ⟨b, off, h1, h2, h3⟩ := hc i x hx
    exact ⟨rs i, hi i x hx, b, off, h1, h2, h3⟩
theorem NdAt.keep (h : NdAt w B n r) (hb : Below B w w') : NdAt w' B n r := by
  induction h with
  | mk rs fit names exts cells items ih =>
    refine .mk rs fit (names.keep hb) (exts.keep hb) (fun i x hx => ?_) ih
    obtain ⟨b, off, h1, h2, h3⟩ := cells i x hx
    exact ⟨b, off, h1, h2, fun j v hj => (hb.cell (p := ⟨b, off + i * 7 + j, none⟩) h2).trans (h3 j v hj)⟩
theorem NdAt.more (h : NdAt w B n r) (hB : B ≤ B') : NdAt w B' n r := by
  induction h with
  | mk rs fit names exts cells items ih =>
    refine .mk rs fit (names.more hB) (exts.more hB) (fun i x hx => ?_) ih
    obtain ⟨b, off, h1, h2, h3⟩ := cells i x hx
    exact ⟨b, off, h1, Nat.lt_of_lt_of_le h2 hB, h3⟩
theorem NdAt.later (h : NdAt w w.heap.size n r) (hb : Below w.heap.size w w') : NdAt w' w'.heap.size n r := (h.keep hb).more hb.size
/-- The seven cells of an entry, each by itself. -/
theorem NdAt.entry (h : NdAt w B n r) {i : Nat} {x : Nd} (hx : n.I[i]? = some x) (hb : Below B w w') :
    ∃ r', NdAt w B x r' ∧ ∃ b off, r.Ai = some ⟨b, off, none⟩ ∧ b < B ∧ w'.cell? ⟨b, off + i * 7, none⟩ = some (.int .i64 x.K) ∧ w'.cell? ⟨b, off + i * 7 + 1, none⟩ = some (.bool x.O) ∧
      w'.cell? ⟨b, off + i * 7 + 2, none⟩ = some (.slice r'.An x.N.length r'.cn) ∧ w'.cell? ⟨b, off + i * 7 + 3, none⟩ = some (.slice r'.Ai x.I.length r'.ci) ∧ w'.cell? ⟨b, off + i * 7 + 4, none⟩ = some (.int .i64 x.S) ∧
      w'.cell? ⟨b, off + i * 7 + 5, none⟩ = some (.slice r'.Ae x.E.length r'.ce) ∧ w'.cell? ⟨b, off + i * 7 + 6, none⟩ = some (.string x.T) := by
  obtain ⟨r', hr, b, off, h1, h2, h3⟩ := h.item hx
  have g := fun j v hj => (hb.cell (p := ⟨b, off + i * 7 + j, none⟩) h2).trans (h3 j v hj)
  exact ⟨r', hr, b, off, h1, h2, g 0 _ rfl, g 1 _ rfl, g 2 _ rfl, g 3 _ rfl, g 4 _ rfl, g 5 _ rfl, g 6 _ rfl⟩
end
/-- A box that holds a node. -/
def Box (w : World) (g : Nat) (n : Nd) (r : Raw) : Prop := w.heap[g]? = some (.cells (rawCells n r) 27 (0, 0))
theorem Box.cells {w : World} {g : Nat} {n : Nd} {r : Raw} (h : Box w g n r) : w.cell? ⟨g, 0, none⟩ = some (.int .i64 n.K) ∧ w.cell? ⟨g, 1, none⟩ = some (.bool n.O) ∧ w.cell? ⟨g, 2, none⟩ = some (.slice r.An n.N.length r.cn) ∧
    w.cell? ⟨g, 3, none⟩ = some (.slice r.Ai n.I.length r.ci) ∧ w.cell? ⟨g, 4, none⟩ = some (.int .i64 n.S) ∧ w.cell? ⟨g, 5, none⟩ = some (.slice r.Ae n.E.length r.ce) ∧ w.cell? ⟨g, 6, none⟩ = some (.string n.T) :=
  ⟨cell_of_blk h 0, cell_of_blk h 1, cell_of_blk h 2, cell_of_blk h 3, cell_of_blk h 4, cell_of_blk h 5, cell_of_blk h 6⟩
theorem Box.new (w : World) (n : Nd) (r : Raw) : Box (w.alloc (.cells (rawCells n r) 27)) w.heap.size n r := heap_alloc_new w _
theorem Box.lt {w : World} {g : Nat} {n : Nd} {r : Raw} (h : Box w g n r) : g < w.heap.size := lt_of_some h
theorem Box.below {w w' : World} {g : Nat} {n : Nd} {r : Raw} (h : Box w g n r) (hb : Below w.heap.size w w') : Box w' g n r := (hb.block g h.lt).trans h
theorem Box.grown {w w' : World} {g : Nat} {n : Nd} {r : Raw} {row : Option Nat} (h : Box w g n r) (hb : w.grownBy w' row) (hne : some g ≠ row) : Box w' g n r := (hb.block g h.lt hne).trans h
theorem Box.alloc {w : World} {g : Nat} {n : Nd} {r : Raw} (h : Box w g n r) (o : Obj) : Box (w.alloc o) g n r := (Below.heap_alloc _ _ _ h.lt).trans h
def ndV (n : Nd) (r : Raw) : Value := .agg (rawCells n r)
end Go.Proofs.YtniklphdnakehaaDoor.tre
