/- Plain words for branches: a tree's nodes one behind the other, and the numbers of what is in them. No program, no condition. A branch's table in memory: eight cells an entry, its names, extents and numbers elsewhere. No condition. What branch's alone hands back: a node without its entries, with names and extents of its own. Condition: the node is one that was read. -/
import Derived.Test.YthpnmkfgodmnfaaDoorTreMath
import Derived.Test.YthpnmkfgodmnfaaDoorTreMakes
import Derived.Deep.RegionLaw
import Derived.Deep.Draws
namespace Go.Proofs.YthpnmkfgodmnfaaDoor.tre
set_option maxRecDepth 100000
open Go.RowKit Go.Proofs.YthpnmkfgodmnfaaDoor.ext Go.Proofs.YthpnmkfgodmnfaaDoor.name

mutual
def preN : Nd → List Nd
  | .mk K O N I S E T => .mk K O N I S E T :: preL I
def preL : List Nd → List Nd
  | [] => []
  | x :: L => preN x ++ preL L
end
theorem preN_eq (n : Nd) : preN n = n :: preL n.I := by cases n; rw [preN]; rfl
theorem preL_nil : preL [] = [] := by rw [preL]
theorem preL_cons (x : Nd) (L : List Nd) : preL (x :: L) = preN x ++ preL L := by rw [preL]
mutual
theorem preN_length : ∀ n : Nd, (preN n).length = count n
  | .mk K O N I S E T => by rw [preN, count, List.length_cons, preL_length I]; omega
theorem preL_length : ∀ L : List Nd, (preL L).length = countL L
  | [] => by rw [preL_nil, countL_nil]; rfl
  | x :: L => by rw [preL_cons, countL_cons, List.length_append, preN_length x, preL_length L]
end
theorem preL_snoc (L : List Nd) (x : Nd) : preL (L ++ [x]) = preL L ++ preN x := by
  induction L with
  | nil => rw [List.nil_append, preL_cons, preL_nil, List.append_nil, List.nil_append]
  | cons y L ih => rw [List.cons_append, preL_cons, preL_cons, ih, List.append_assoc]
theorem countL_snoc (L : List Nd) (x : Nd) : countL (L ++ [x]) = countL L + count x := by
  induction L with
  | nil => rw [List.nil_append, countL_cons, countL_nil]; omega
  | cons y L ih => rw [List.cons_append, countL_cons, countL_cons, ih]; omega
theorem countL_len : ∀ L : List Nd, L.length ≤ countL L
  | [] => Nat.zero_le _
  | x :: L => by
    have := countL_len L
    rw [countL_cons, List.length_cons, count_eq]
    omega
theorem count_pos (n : Nd) : 1 ≤ count n := by rw [count_eq]; omega
def kidsL : Nat → List Nd → List Nat
  | _, [] => []
  | k, x :: L => k :: kidsL (k + count x) L
theorem kidsL_length : ∀ (L : List Nd) (k : Nat), (kidsL k L).length = L.length
  | [], _ => rfl
  | x :: L, k => by rw [kidsL, List.length_cons, List.length_cons, kidsL_length L]
theorem kidsL_at : ∀ {L : List Nd} {k j : Nat}, j < L.length → (kidsL k L)[j]? = some (k + countL (L.take j))
  | [], k, j, h => by simp at h
  | x :: L, k, 0, _ => by rw [List.take_zero, countL_nil]; rfl
  | x :: L, k, j + 1, h => by
    rw [kidsL, List.getElem?_cons_succ, kidsL_at (L := L) (k := k + count x) (j := j) (by simpa using h), List.take_succ_cons, countL_cons]
    congr 1
    omega
def aloneN : Nd → Nd
  | .mk K O N _ S E T => .mk K O N [] S E T
/-- An entry of the table. -/
structure Ent where
  x : Nd
  ids : List Nat
def entOf (k : Nat) (x : Nd) : Ent := ⟨aloneN x, kidsL (k + 1) x.I⟩
def ents : Nat → List Nd → List Ent
  | _, [] => []
  | k, x :: L => entOf k x :: ents (k + 1) L
theorem ents_length : ∀ (L : List Nd) (k : Nat), (ents k L).length = L.length
  | [], _ => rfl
  | x :: L, k => by rw [ents, List.length_cons, List.length_cons, ents_length L]
theorem ents_append : ∀ (L M : List Nd) (k : Nat), ents k (L ++ M) = ents k L ++ ents (k + L.length) M
  | [], M, k => by rw [List.nil_append, ents, List.nil_append]; rfl
  | x :: L, M, k => by
    rw [List.cons_append, ents, ents_append L M, ents, List.cons_append, List.length_cons]
    rw [show k + 1 + L.length = k + (L.length + 1) by omega]
theorem ents_at : ∀ {L : List Nd} {k j : Nat} {x : Nd}, L[j]? = some x → (ents k L)[j]? = some (entOf (k + j) x)
  | [], k, j, x, h => by simp at h
  | y :: L, k, 0, x, h => by
    obtain rfl : y = x := by simpa using h
    rfl
  | y :: L, k, j + 1, x, h => by
    rw [ents, List.getElem?_cons_succ, ents_at (L := L) (k := k + 1) (j := j) (by simpa using h)]
    rw [show k + 1 + j = k + (j + 1) by omega]
def flatN (k : Nat) (n : Nd) : List Ent := ents k (preN n)
def flatL (k : Nat) (L : List Nd) : List Ent := ents k (preL L)
theorem flatN_eq (k : Nat) (n : Nd) : flatN k n = entOf k n :: flatL (k + 1) n.I := by
  unfold flatN flatL
  rw [preN_eq, ents]
theorem flatL_nil (k : Nat) : flatL k [] = [] := by unfold flatL; rw [preL_nil]; rfl
theorem flatL_snoc (k : Nat) (L : List Nd) (x : Nd) : flatL k (L ++ [x]) = flatL k L ++ flatN (k + countL L) x := by
  unfold flatL flatN
  rw [preL_snoc, ents_append, preL_length]
theorem flatN_length (k : Nat) (n : Nd) : (flatN k n).length = count n := by unfold flatN; rw [ents_length, preN_length]
theorem flatL_length (k : Nat) (L : List Nd) : (flatL k L).length = countL L := by unfold flatL; rw [ents_length, preL_length]
end Go.Proofs.YthpnmkfgodmnfaaDoor.tre

namespace Go.Proofs.YthpnmkfgodmnfaaDoor.tre
set_option maxRecDepth 100000
open Go.RowKit Go.Proofs.YthpnmkfgodmnfaaDoor.words Go.Proofs.YthpnmkfgodmnfaaDoor.ext Go.Proofs.YthpnmkfgodmnfaaDoor.name

/-- What a walk over a branch under way may turn: the branch's own cell, and its table. -/
abbrev Sb : TypeId → Prop := fun t => t = 92 ∨ t = 95
/-- From block lo on, of another type. -/
def Qs (w : World) (lo b : Nat) : Prop := lo ≤ b ∧ ∃ cs t, w.heap[b]? = some (.cells cs t (0, 0)) ∧ ¬ Sb t
theorem Qs.lt {w : World} {lo b : Nat} (h : Qs w lo b) : b < w.heap.size := by
  obtain ⟨_, cs, t, h, _⟩ := h
  exact lt_of_some h
theorem Qs.kept {B : Nat} {w w' : World} {lo b : Nat} (h : Qs w lo b) (hk : words.Kept Sb B w w') : w'.heap[b]? = w.heap[b]? ∧ Qs w' lo b := by
  obtain ⟨h1, cs, t, h, hn⟩ := h
  have e := hk.blk h hn
  exact ⟨e.trans h.symm, h1, cs, t, e, hn⟩
theorem Qs.less {w : World} {lo lo' b : Nat} (h : Qs w lo b) (hl : lo' ≤ lo) : Qs w lo' b := ⟨Nat.le_trans hl h.1, h.2⟩
def IntIn (w : World) (P : Nat → Prop) (A : Option Addr) (ids : List Nat) : Prop :=
  ∀ i (id : Nat), ids[i]? = some id → ∃ b off, A = some ⟨b, off, none⟩ ∧ P b ∧ w.cell? ⟨b, off + i, none⟩ = some (.int .i64 (id : Int))
theorem IntIn.keep {w w' : World} {P P' : Nat → Prop} {A : Option Addr} {ids : List Nat} (h : IntIn w P A ids) (hk : ∀ b, P b → w'.heap[b]? = w.heap[b]? ∧ P' b) : IntIn w' P' A ids := fun i id hi => by
  obtain ⟨b, off, h1, h2, h3⟩ := h i id hi
  exact ⟨b, off, h1, (hk b h2).2, (World.cell?_of_block (a := ⟨b, off + i, none⟩) (hk b h2).1).trans h3⟩
def entCells (x : Nd) (r : Raw) (A : Option Addr) (l c : Nat) : List Value := (rawCells x r).toList ++ [.slice A l c]
def entV (x : Nd) (r : Raw) (A : Option Addr) (l c : Nat) : Value := .agg (entCells x r A l c).toArray
/-- One entry's cells, and what they lead to. -/
def EntAt (w : World) (P : Nat → Prop) (cs : List Value) (e : Ent) (i : Nat) : Prop :=
  ∃ r A c, NdIn w P e.x r ∧ IntIn w P A e.ids ∧ e.ids.length ≤ c ∧ ∀ j v, (entCells e.x r A e.ids.length c)[j]? = some v → cs[i * 8 + j]? = some v
def Ents (w : World) (P : Nat → Prop) (cs : List Value) (L : List Ent) : Prop := cs.length = L.length * 8 ∧ ∀ i e, L[i]? = some e → EntAt w P cs e i
theorem Ents.nil (w : World) (P : Nat → Prop) : Ents w P [] [] := ⟨rfl, fun i e h => by simp at h⟩
theorem Ents.keep {w w' : World} {P P' : Nat → Prop} {cs : List Value} {L : List Ent} (h : Ents w P cs L) (hk : ∀ b, P b → w'.heap[b]? = w.heap[b]? ∧ P' b) : Ents w' P' cs L := ⟨h.1, fun i e he => by
  obtain ⟨r, A, c, h1, h2, h3, h4⟩ := h.2 i e he
  exact ⟨r, A, c, h1.keep hk, h2.keep hk, h3, h4⟩⟩
theorem Ents.app {w : World} {P : Nat → Prop} {cs ds : List Value} {L M : List Ent} (h : Ents w P cs L) (k : Ents w P ds M) : Ents w P (cs ++ ds) (L ++ M) := by
  refine ⟨by rw [List.length_append, List.length_append, h.1, k.1]; omega, fun i e he => ?_⟩
  rcases Nat.lt_or_ge i L.length with hi | hi
  · rw [List.getElem?_append_left hi] at he
    obtain ⟨r, A, c, h1, h2, h3, h4⟩ := h.2 i e he
    refine ⟨r, A, c, h1, h2, h3, fun j v hj => ?_⟩
    have h5 := h4 j v hj
    rw [List.getElem?_append_left (List.getElem?_eq_some_iff.1 h5).1]
    exact h5
  · rw [List.getElem?_append_right hi] at he
    obtain ⟨r, A, c, h1, h2, h3, h4⟩ := k.2 _ e he
    refine ⟨r, A, c, h1, h2, h3, fun j v hj => ?_⟩
    have h5 := h4 j v hj
    rw [List.getElem?_append_right (by rw [h.1]; omega), h.1, show i * 8 + j - L.length * 8 = (i - L.length) * 8 + j by omega]
    exact h5
theorem entCells_length (x : Nd) (r : Raw) (A : Option Addr) (l c : Nat) : (entCells x r A l c).length = 8 := rfl
theorem Ents.one {w : World} {P : Nat → Prop} {e : Ent} {r : Raw} {A : Option Addr} {c : Nat} (h1 : NdIn w P e.x r) (h2 : IntIn w P A e.ids) (h3 : e.ids.length ≤ c) : Ents w P (entCells e.x r A e.ids.length c) [e] :=
  ⟨rfl, fun i f hf => by
    have hi : i = 0 := by have := (List.getElem?_eq_some_iff.1 hf).1; simp at this; omega
    subst hi
    obtain rfl : e = f := by simpa using hf
    exact ⟨r, A, c, h1, h2, h3, fun j v hj => by rw [Nat.zero_mul, Nat.zero_add]; exact hj⟩⟩

/-! Kept, at new blocks -/
theorem keptB_setNew {S : TypeId → Prop} {B : Nat} {a w : World} {p : Addr} (h : words.Kept S B a w) (hp : a.heap.size ≤ p.block) (u : Value) : words.Kept S B a (w.setCell p u) :=
  ⟨h.os, h.tape, h.output, by simpa [World.setCell] using h.size, fun k hk hc => (Below.heap_setCell w p u k (by omega)).trans (h.block k hk hc)⟩
theorem own_txtQ {w : World} {B n c : Nat} {A : Option Addr} {N : List ByteArray} (h : w.ownsRow B 9 1 (.slice A n c) n (N.map Value.string)) (hs : ∀ (i : Nat) (x : ByteArray), N[i]? = some x → x.size ≤ 140737488355328) : TxtIn w (Qs w B) A N := fun i x hx => by
  obtain ⟨g, cur, h1, h2, h3, h4, h5⟩ := own_cell h (j := i) (u := .string x) (by rw [List.getElem?_map, hx]; rfl)
  exact ⟨⟨g, 0, h1, ⟨h2, cur, _, h4, by decide⟩, by rw [Nat.zero_add]; exact h5⟩, hs i x hx⟩
theorem own_extQ {w : World} {B n c : Nat} {A : Option Addr} {L : List Ex} (h : w.ownsRow B 86 2 (.slice A n c) n (exCells L)) (hs : ∀ (i : Nat) (x : Ex), L[i]? = some x → -9223372036854775808 ≤ x.O ∧ x.O ≤ 9223372036854775807 ∧ x.D.size ≤ 140737488355328) : ExtIn w (Qs w B) A L := fun i x hx => by
  obtain ⟨e0, e1⟩ := exCells_at hx
  obtain ⟨g, cur, h1, h2, h3, h4, h5⟩ := own_cell h e0
  obtain ⟨g', _, h1', _, _, _, h5'⟩ := own_cell h e1
  rw [h1] at h1'
  injection h1' with h1'
  injection h1' with h1'
  subst h1'
  exact ⟨⟨g, 0, h1, ⟨h2, cur, _, h4, by decide⟩, by rw [Nat.zero_add]; exact h5, by rw [Nat.zero_add]; exact h5'⟩, hs i x hx⟩
end Go.Proofs.YthpnmkfgodmnfaaDoor.tre

namespace Go.Proofs.YthpnmkfgodmnfaaDoor.tre
set_option maxRecDepth 100000
open Go.RowKit Go.Proofs.YthpnmkfgodmnfaaDoor.words Go.Proofs.YthpnmkfgodmnfaaDoor.ext Go.Proofs.YthpnmkfgodmnfaaDoor.name

def Alone (n : Nd) (w : World) (e : Ending) (w' : World) : Prop := ∃ r', e = .returned (ndV (aloneN n) r') ∧ NdIn w' (Qs w' w.heap.size) (aloneN n) r' ∧ Below w.heap.size w w'
theorem fitAlone {n : Nd} {r : Raw} (h : Fit n r) (A A' : Option Addr) (c c' : Nat) (h1 : n.N.length ≤ c) (h2 : A = none → n.N.length = 0 ∧ c = 0) (h3 : n.E.length ≤ c') (h4 : A' = none → n.E.length = 0 ∧ c' = 0) : Fit (aloneN n) ⟨A, c, none, 0, A', c'⟩ := by
  cases n
  exact ⟨h.k1, h.k2, h.s1, h.s2, h.t, h.ln, show 0 * 112 ≤ 140737488355328 by decide, h.le, h1, Nat.zero_le _, h3, h2, fun _ => ⟨rfl, rfl⟩, h4⟩
theorem alone_NdIn {w : World} {P : Nat → Prop} {n : Nd} {A A' : Option Addr} {c c' : Nat} (hf : Fit (aloneN n) ⟨A, c, none, 0, A', c'⟩) (h1 : TxtIn w P A n.N) (h2 : ExtIn w P A' n.E) : NdIn w P (aloneN n) ⟨A, c, none, 0, A', c'⟩ := by
  cases n
  exact .mk (fun _ => raw0) hf h1 h2 (fun _ _ hx => (no_at hx).elim) (fun _ _ hx => (no_at hx).elim)
set_option maxHeartbeats 3200000 in
theorem alone_any (n : Nd) (r : Raw) (w : World) (hN : NdAt w w.heap.size n r) : Calls Tryd.prog 85 #[ndV n r] w (Alone n w) := by
  have fit := hN.fit
  have HFit := Lib.hid fit
  obtain ⟨W1, hW1⟩ : ∃ W1, W1 = (w.alloc (.cells (rawCells n r) 26)).alloc (.cells (rawCells nd0 raw0) 26) := ⟨_, rfl⟩
  have hT := Two.new w n r nd0 raw0
  rw [← hW1] at hT
  have HT := Lib.hid hT
  have HN := Lib.hid (hN.later hT.b)
  have hz1 : w.heap.size + 1 < W1.heap.size := hT.y.lt
  have hW1' : W1 = (w.alloc (.cells #[.int .i64 n.K, .bool n.O, .slice r.An n.N.length r.cn, .slice r.Ai n.I.length r.ci, .int .i64 n.S, .slice r.Ae n.E.length r.ce, .string n.T] 26)).alloc (.cells #[.int .i64 0, .bool false, .slice none 0 0, .slice none 0 0, .int .i64 0, .slice none 0 0, .string ⟨#[]⟩] 26) := hW1
  have HW1 := Lib.hid hW1'
  have HC1 := Lib.hid ((copy_txt r.An n.N.length r.cn _ W1.drew (lies_txt HN.out.names) fit.zn fit.ln (by rw [List.length_map, Nat.mul_one]) (txtCells_one n.N)).mono fun _ _ h => own_of h)
  have HC2 : Hid (∀ w' : World, Below W1.heap.size W1 w' → Calls Tryd.prog 96 #[.slice r.Ae n.E.length r.ce] w' (Copied 86 2 n.E.length (exCells n.E) w')) := Lib.hid fun w' hb =>
    copy_ext r.Ae n.E.length r.ce _ w' (lies_ext (HN.out.later hb).exts) HFit.out.ze HFit.out.le (exCells_length n.E) (exCells_one n.E)
  clear hN hT hW1 hW1' fit
  unfold ndV rawCells
  go_enter Tryd.func85, Tryd.ntmps85
  go_upto_region 1 with fail
  rw [← HW1.out]
  obtain ⟨b0, b1, b2, b3, b4, b5, b6⟩ := HT.out.x.cells
  clear HW1
  go_region_law (first
    | (go_simp; go_at_call 59; refine HC1.out.mono ?_; rintro e w2 ⟨A3, c3, rfl, h31, h32, ho3, hb2⟩; have hb12 : Below W1.heap.size W1 w2 := (Below.refl W1.heap.size W1).drew.trans hb2; obtain ⟨m0, m1, m2, m3, m4, m5, m6⟩ := (HT.out.x.below hb12).cells)
    | (go_simp; go_at_call 96; refine ((HC2.out _ hb12).mono fun _ _ h => own_of h).mono ?_; rintro e w4 ⟨A4, c4, rfl, h41, h42, ho4, hb4⟩; have hx4 := (HT.out.x.below hb12).below hb4; have f2 := free_of_blk hx4 2; have f3 := free_of_blk hx4 3; have f5 := free_of_blk hx4 5; obtain ⟨l0, l1, l2, l3, l4, l5, l6⟩ := hx4.cells))
  all_goals
    have hb14 : Below W1.heap.size W1 w4 := hb12.trans (hb4.mono hb12.size)
    have hB4 : Below w.heap.size w w4 := HT.out.b.trans (hb14.mono HT.out.b.size)
    have hs12 := hb12.size
    have hs4 := hb4.size
    obtain ⟨W5, hW5⟩ : ∃ W5, W5 = ((w4.setCell ⟨w.heap.size, 2, none⟩ (.slice A3 n.N.length c3)).setCell ⟨w.heap.size, 3, none⟩ (.slice none 0 0)).setCell ⟨w.heap.size, 5, none⟩ (.slice A4 n.E.length c4) := ⟨_, rfl⟩
    have hx5 : Box W5 w.heap.size (aloneN n) ⟨A3, c3, none, 0, A4, c4⟩ := by
      have h1 := heap_setCell_same w4 w.heap.size 2 _ _ (.slice A3 n.N.length c3) hx4
      have h2 := heap_setCell_same _ w.heap.size 3 _ _ (.slice none 0 0) h1
      have h3 := heap_setCell_same _ w.heap.size 5 _ _ (.slice A4 n.E.length c4) h2
      rw [hW5]
      refine h3.trans ?_
      cases n
      rfl
    have hfr : ∀ b, b ≠ w.heap.size → W5.heap[b]? = w4.heap[b]? := fun b hb => by
      rw [hW5]
      exact (Below.heap_setCell _ ⟨w.heap.size, 5, none⟩ _ b hb).trans ((Below.heap_setCell _ ⟨w.heap.size, 3, none⟩ _ b hb).trans (Below.heap_setCell _ ⟨w.heap.size, 2, none⟩ _ b hb))
    have hB5 : Below w.heap.size w W5 := by
      rw [hW5]
      exact ((hB4.setCell (p := ⟨w.heap.size, 2, none⟩) (Nat.le_refl _) _).setCell (p := ⟨w.heap.size, 3, none⟩) (Nat.le_refl _) _).setCell (p := ⟨w.heap.size, 5, none⟩) (Nat.le_refl _) _
    have hy5 : Box W5 (w.heap.size + 1) nd0 raw0 := (hfr _ (by omega)).trans ((HT.out.y.below hb12).below hb4)
    have hsz5 : W5.heap.size = w4.heap.size := by rw [hW5]; simp [World.setCell]
    have z0 := free_of_blk hy5 0
    have z1 := free_of_blk hy5 1
    have z2 := free_of_blk hy5 2
    have z3 := free_of_blk hy5 3
    have z4 := free_of_blk hy5 4
    have z5 := free_of_blk hy5 5
    have z6 := free_of_blk hy5 6
    obtain ⟨d0, d1, d2, d3, d4, d5, d6⟩ := hy5.cells
    have hob := hy5.over (m := aloneN n) (q := ⟨A3, c3, none, 0, A4, c4⟩)
    have hsz6 := size_setCells (w.heap.size + 1) (rawCells (aloneN n) ⟨A3, c3, none, 0, A4, c4⟩).toList 0 W5
    have hBd := below_setCells (w := w) (B := w.heap.size) (g := w.heap.size + 1) (Nat.le_succ _) (rawCells (aloneN n) ⟨A3, c3, none, 0, A4, c4⟩).toList 0 W5 hB5
    obtain ⟨Wd, hWd⟩ : ∃ Wd, Wd = W5.setCells (w.heap.size + 1) 0 (rawCells (aloneN n) ⟨A3, c3, none, 0, A4, c4⟩).toList := ⟨_, rfl⟩
    rw [← hWd] at hob hsz6 hBd
    have hfd : ∀ b, W1.heap.size ≤ b → b < w4.heap.size → Wd.heap[b]? = w4.heap[b]? := fun b k1 k2 => by
      rw [hWd]
      exact (World.heap_setCells_other W5 _ _ _ (by omega) (by omega)).trans (hfr b (by omega))
    have hQ : ∀ (b : Nat) (wx : World), Below wx.heap.size wx w4 → Qs wx W1.heap.size b → Wd.heap[b]? = wx.heap[b]? ∧ Qs Wd w.heap.size b := fun b wx hbx hq => by
      obtain ⟨k1, cs, t, k2, k3⟩ := hq
      have hlt := lt_of_some k2
      have e := (hfd b k1 (Nat.lt_of_lt_of_le hlt hbx.size)).trans (hbx.block b hlt)
      exact ⟨e, by omega, cs, t, e.trans k2, k3⟩
    have hNm : TxtIn Wd (Qs Wd w.heap.size) A3 n.N := (own_txtQ (B := W1.heap.size) ho3 fun i x hx => (HN.out.names i x hx).2).keep fun b hb => hQ b w2 hb4 hb
    have hEx : ExtIn Wd (Qs Wd w.heap.size) A4 n.E := (own_extQ (B := w2.heap.size) ho4 fun i x hx => (HN.out.exts i x hx).2).keep fun b hb => hQ b w4 (Below.refl _ _) (hb.less hs12)
    have hND := alone_NdIn (fitAlone HFit.out A3 A4 c3 c4 h31 h32 h41 h42) hNm hEx
    have hWd' := (set_all W5 (w.heap.size + 1) (aloneN n) ⟨A3, c3, none, 0, A4, c4⟩).trans hWd.symm
    have HND := Lib.hid hND
    have HBd := Lib.hid hBd
    have HWd := Lib.hid hWd'
    have HOb := Lib.hid hob
    clear hNm hEx hND hBd hWd hWd' hob hQ hfd hB5 hfr hB4 hb14 hs12 hs4 hx4 hb12 hb4 ho3 ho4 h31 h32 h41 h42 b0 b1 b2 b3 b4 b5 b6 m0 m1 m2 m3 m4 m5 m6 l0 l1 l2 l3 l4 l5 l6 HC1 HC2 f2 f3 f5
    rw [← hW5]
    clear hW5
    obtain ⟨b0, b1, b2, b3, b4, b5, b6⟩ := hx5.cells
    go_wp2_with fail
    rw [HWd.out]
    obtain ⟨p0, p1, p2, p3, p4, p5, p6⟩ := HOb.out.cells
    exact bodyPost_ret (v := ndV (aloneN n) ⟨A3, c3, none, 0, A4, c4⟩) (by unfold ndV rawCells; simp [results, Tryd.results85, go_sem, p0, p1, p2, p3, p4, p5, p6]) rfl ⟨_, rfl, HND.out, HBd.out⟩
end Go.Proofs.YthpnmkfgodmnfaaDoor.tre
