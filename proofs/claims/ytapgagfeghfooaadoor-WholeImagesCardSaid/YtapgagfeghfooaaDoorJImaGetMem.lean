/- A directory that the image's reference reads, in memory: its boxes, its row of names, its row of entries. No program's call, no condition. -/
import Derived.Test.YtapgagfeghfooaaDoorJImaGetDir
namespace Go.Proofs.YtapgagfeghfooaaDoor.ima
set_option maxRecDepth 100000
open Go.RowKit Go.Proofs.YtapgagfeghfooaaDoor.words Go.Proofs.YtapgagfeghfooaaDoor.ext Go.Proofs.YtapgagfeghfooaaDoor.name Go.Proofs.YtapgagfeghfooaaDoor.tre

/-- A block of an entry's. -/
def Qg (W : World) (g : Nat) (vn vi : Value) (b : Nat) : Prop := g + 3 ≤ b ∧ b < W.heap.size ∧ vn.ownBlock ≠ some b ∧ vi.ownBlock ≠ some b
/-- The boxes, and the rows so far; bn, bi: what the box holds of the rows; J: what the entries are (one more than I while one is put in). -/
structure Dg (w W : World) (g : Nat) (O : Bool) (bn bi vn vi : Value) (N : List ByteArray) (I J : List Nd) (rs : Nat → Raw) : Prop where
  m : GotM w g W
  box : W.heap[g + 2]? = some (.cells #[.int .i64 2, .bool O, bn, bi, .int .i64 0, .slice none 0 0, .string ⟨#[]⟩] 27 (0, 0))
  nrow : W.ownsRow (g + 3) 9 1 vn N.length (N.map Value.string)
  irow : W.ownsRow (g + 3) 27 7 vi I.length (rowCells I rs)
  small : ∀ (i : Nat) (x : ByteArray), N[i]? = some x → x.size ≤ 140737488355328
  items : ∀ (i : Nat) (x : Nd), J[i]? = some x → NdIn W (Qg W g vn vi) x (rs i)
section
variable {w W W' : World} {g : Nat} {O : Bool} {bn bi vn vi vn' vi' : Value} {N : List ByteArray} {I J : List Nd} {rs : Nat → Raw}
theorem Dg.lt (h : Dg w W g O bn bi vn vi N I J rs) : g + 2 < W.heap.size := lt_of_some h.box
theorem Dg.low (h : Dg w W g O bn bi vn vi N I J rs) : (∀ b, b < g + 3 → vn.ownBlock ≠ some b) ∧ ∀ b, b < g + 3 → vi.ownBlock ≠ some b :=
  ⟨fun b hb e => by have := (h.nrow.lt b e).1; omega, fun b hb e => by have := (h.irow.lt b e).1; omega⟩
theorem Dg.later (h : Dg w W g O bn bi vn vi N I J rs) (hb : Below W.heap.size W W') : Dg w W' g O bn bi vn vi N I J rs :=
  ⟨h.m.later hb, (hb.block _ (lt_of_some h.box)).trans h.box, row_later h.nrow hb, row_later h.irow hb, h.small, fun i x hx => (h.items i x hx).keep fun b hq => ⟨hb.block b hq.2.1, hq.1, Nat.lt_of_lt_of_le hq.2.1 hb.size, hq.2.2⟩⟩
theorem Dg.apart (h : Dg w W g O bn bi vn vi N I J rs) {b : Nat} (h1 : vn.ownBlock = some b) : vi.ownBlock ≠ some b := by
  rcases h.nrow.2 with ⟨rfl, _⟩ | ⟨g1, cap, cur, rfl, _, h3, _⟩
  · simp [Value.ownBlock] at h1
  · have e : g1 = b := by simpa [Value.ownBlock] using h1
    subst e
    exact own_ne h.irow h3 (by decide)
theorem GotM.grown {row : Option Nat} (h : GotM w g W) (hg : W.grownBy W' row) (hr : ∀ b, b < g + 3 → some b ≠ row) : GotM w g W' :=
  ⟨(hg.block _ (lt_of_some h.ans) (hr _ (by omega))).trans h.ans, (hg.block _ (lt_of_some h.non) (hr _ (by omega))).trans h.non, ⟨hg.os.trans h.below.os, hg.tape.trans h.below.tape, hg.output.trans h.below.output, Nat.le_trans h.below.size hg.size, fun k hk => (hg.block k (Nat.lt_of_lt_of_le hk h.below.size) (hr k (by have := h.size; omega))).trans (h.below.block k hk)⟩, h.size⟩
theorem Dg.nstay (h : Dg w W g O bn bi vn vi N I J rs) (hg : W.grownBy W' vn.ownBlock) : W'.heap[g + 2]? = some (.cells #[.int .i64 2, .bool O, bn, bi, .int .i64 0, .slice none 0 0, .string ⟨#[]⟩] 27 (0, 0)) :=
  (hg.block _ (lt_of_some h.box) (h.low.1 _ (by omega)).symm).trans h.box
theorem Dg.names (h : Dg w W g O bn bi vn vi N I J rs) {x : ByteArray} (hx : x.size ≤ 140737488355328) (hown : W'.ownsRow (g + 3) 9 1 vn' (N.length + 1) (N.map Value.string ++ [.string x])) (hg : W.grownBy W' vn.ownBlock)
    (hat : vn.ownBlock = vn'.ownBlock ∨ vn'.ownBlock = some W.heap.size) : Dg w W' g O bn bi vn' vi (N ++ [x]) I J rs := by
  refine ⟨h.m.grown hg fun b hb => (h.low.1 b hb).symm, h.nstay hg, ?_, row_grown h.irow hg fun b hb e => h.apart e.symm hb, fun i y hy => ?_, fun i y hy => ?_⟩
  · rw [List.length_append, List.map_append]
    exact hown
  · rcases Nat.lt_or_ge i N.length with hi | hi
    · rw [List.getElem?_append_left hi] at hy
      exact h.small i y hy
    · rw [List.getElem?_append_right hi] at hy
      rw [← List.mem_singleton.1 (List.mem_of_getElem? hy)] at hx
      exact hx
  · refine (h.items i y hy).keep fun b hq => ?_
    have e := hg.block b hq.2.1 fun e => hq.2.2.1 e.symm
    refine ⟨e, hq.1, Nat.lt_of_lt_of_le hq.2.1 hg.size, fun e2 => ?_, hq.2.2.2⟩
    rcases hat with hat | hat
    · exact hq.2.2.1 (hat.trans e2)
    · rw [hat] at e2
      injection e2 with e2
      have := hq.2.1
      omega
theorem Dg.entry (h : Dg w W g O bn bi vn vi N I J rs) {y : Nd} (hown : W'.ownsRow (g + 3) 27 7 vi' (I.length + 1) (rowCells (I ++ [y]) rs)) (hg : W.grownBy W' vi.ownBlock)
    (hat : vi.ownBlock = vi'.ownBlock ∨ vi'.ownBlock = some W.heap.size) : Dg w W' g O bn bi vn vi' N (I ++ [y]) J rs := by
  refine ⟨h.m.grown hg fun b hb => (h.low.2 b hb).symm, (hg.block _ (lt_of_some h.box) (h.low.2 _ (by omega)).symm).trans h.box, row_grown h.nrow hg fun b hb e => h.apart hb e.symm, ?_, h.small, fun i x hx => ?_⟩
  · rw [List.length_append]
    exact hown
  · refine (h.items i x hx).keep fun b hq => ?_
    have e := hg.block b hq.2.1 fun e => hq.2.2.2 e.symm
    refine ⟨e, hq.1, Nat.lt_of_lt_of_le hq.2.1 hg.size, hq.2.2.1, fun e2 => ?_⟩
    rcases hat with hat | hat
    · exact hq.2.2.2 (hat.trans e2)
    · rw [hat] at e2
      injection e2 with e2
      have := hq.2.1
      omega
/-- A cell of the box is written. -/
theorem Dg.set (h : Dg w W g O bn bi vn vi N I J rs) (j : Nat) (u : Value) {O' : Bool} {bn' bi' : Value} (hc : (#[.int .i64 2, .bool O, bn, bi, .int .i64 0, .slice none 0 0, .string ⟨#[]⟩] : Array Value).setIfInBounds j u = #[.int .i64 2, .bool O', bn', bi', .int .i64 0, .slice none 0 0, .string ⟨#[]⟩]) :
    Dg w (W.setCell ⟨g + 2, j, none⟩ u) g O' bn' bi' vn vi N I J rs := by
  have hsz := h.m.size
  refine ⟨⟨by rw [heap_setCell_other _ _ _ _ (by show g ≠ g + 2; omega)]; exact h.m.ans, by rw [heap_setCell_other _ _ _ _ (by show g + 1 ≠ g + 2; omega)]; exact h.m.non, h.m.below.setCell (p := ⟨g + 2, j, none⟩) (by show w.heap.size ≤ g + 2; omega) _, hsz⟩, ?_, own_setCell (p := ⟨g + 2, j, none⟩) h.nrow (h.low.1 _ (by show g + 2 < g + 3; omega)) u, own_setCell (p := ⟨g + 2, j, none⟩) h.irow (h.low.2 _ (by show g + 2 < g + 3; omega)) u, h.small, fun i x hx => ?_⟩
  · rw [heap_setCell_same W (g + 2) j _ _ u h.box, hc]
  · refine (h.items i x hx).keep fun b hq => ?_
    have hne : b ≠ g + 2 := by have := hq.1; omega
    exact ⟨Below.heap_setCell W ⟨g + 2, j, none⟩ u b hne, hq.1, by have := hq.2.1; simpa [World.setCell] using this, hq.2.2⟩
/-- An entry that was made behind W0 is to be put in. -/
theorem Dg.pend {W0 : World} (h : Dg w W g O bn bi vn vi N I I rs) (h0 : Dg w W0 g O bn bi vn vi N I I rs) {y : Nd} {r : Raw} (hy : NdIn W (fun b => W0.heap.size ≤ b ∧ b < W.heap.size) y r) : Dg w W g O bn bi vn vi N I (I ++ [y]) (rsPut rs I.length r) := by
  refine ⟨h.m, h.box, h.nrow, ?_, h.small, fun i x hx => ?_⟩
  · rw [rowCells_like (rs' := rs) fun i hi => by unfold rsPut; rw [if_neg (by omega)]]
    exact h.irow
  · rcases Nat.lt_or_ge i I.length with hi | hi
    · rw [List.getElem?_append_left hi] at hx
      have := h.items i x hx
      unfold rsPut
      rw [if_neg (by omega)]
      exact this
    · have hi2 : i = I.length := by
        have := (List.getElem?_eq_some_iff.1 hx).1
        simp at this
        omega
      subst hi2
      rw [List.getElem?_append_right (Nat.le_refl _), Nat.sub_self] at hx
      have e : y = x := by simpa using hx
      subst e
      unfold rsPut
      rw [if_pos rfl]
      refine hy.keep fun b hb => ⟨rfl, by have := h0.lt; omega, hb.2, fun e => ?_, fun e => ?_⟩
      · have := (h0.nrow.lt b e).2
        omega
      · have := (h0.irow.lt b e).2
        omega
/-- The answer that is made of it. -/
theorem Dg.node {An Ai : Option Addr} {cn ci : Nat} {w' : World} (h : Dg w W g O bn bi (.slice An N.length cn) (.slice Ai I.length ci) N I I rs) (hl : N.length ≤ 100000 ∧ I.length ≤ 100000) (hk : ∀ b, g + 3 ≤ b → b < W.heap.size → w'.heap[b]? = W.heap[b]?) (hs : W.heap.size ≤ w'.heap.size) :
    NdIn w' (Fresh w w') (.mk 2 O N I 0 [] ⟨#[]⟩) ⟨An, cn, Ai, ci, none, 0⟩ := by
  have hsz := h.m.size
  obtain ⟨An', cn', en, hcn, hzn⟩ := own_facts h.nrow
  obtain ⟨Ai', ci', ei, hci, hzi⟩ := own_facts h.irow
  injection en with e1 _ e2
  injection ei with e3 _ e4
  subst e1 e2 e3 e4
  have hq : ∀ b, g + 3 ≤ b ∧ b < W.heap.size → w'.heap[b]? = W.heap[b]? ∧ Fresh w w' b := fun b hb => ⟨hk b hb.1 hb.2, by omega, by omega⟩
  refine .mk rs ⟨show (-9223372036854775808 : Int) ≤ 2 by decide, show (2 : Int) ≤ 9223372036854775807 by decide, show (-9223372036854775808 : Int) ≤ 0 by decide, show (0 : Int) ≤ 9223372036854775807 by decide, show 0 ≤ 140737488355328 by decide, by show N.length * 16 ≤ 140737488355328; omega, by show I.length * 112 ≤ 140737488355328; omega, show 0 * 24 ≤ 140737488355328 by decide, hcn, hci, Nat.le_refl _, hzn, hzi, fun _ => ⟨rfl, rfl⟩⟩ ?_ (fun _ _ hx => (no_at hx).elim) ?_ ?_
  · exact (own_txt h.nrow h.small).keep hq
  · intro i x hx
    have hx' : I[i]? = some x := hx
    have h00 := rowCells_at (rs := rs) hx' 0 _ (show (rawCells x (rs i))[0]? = some _ from rfl)
    obtain ⟨b, cur, hA, hB, hlt, _, _⟩ := own_cell h.irow h00
    refine ⟨b, 0, hA, (hq b ⟨hB, hlt⟩).2, fun j v hj => ?_⟩
    have h7 := rowCells_at (rs := rs) hx' j v hj
    obtain ⟨b', _, hA', _, _, _, hc⟩ := own_cell h.irow h7
    rw [hA] at hA'
    injection hA' with hA'
    injection hA' with hA'
    subst hA'
    rw [Nat.zero_add]
    exact (World.cell?_of_block (hk b hB hlt)).trans hc
  · intro i x hx
    exact (h.items i x hx).keep fun b hb => hq b ⟨hb.1, hb.2.1⟩
end
end Go.Proofs.YtapgagfeghfooaaDoor.ima
