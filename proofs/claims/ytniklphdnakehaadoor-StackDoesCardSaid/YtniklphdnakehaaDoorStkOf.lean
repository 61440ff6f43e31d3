/- What branch.New answers, once more: all that a branch has lies in memory that the call made. Conditions: as in BraRead. What stack.Of answers: the stack of some trees; or why there is none. Conditions: the trees lie in memory; the library's MaxLen holds a number. What stack.Of answers, walked. Conditions: the trees lie in memory; the library's MaxLen holds a number. -/
import Derived.Test.YtniklphdnakehaaDoorBraRead
import Derived.Test.YtniklphdnakehaaDoorStkRemove
namespace Go.Proofs.YtniklphdnakehaaDoor.tre
set_option maxRecDepth 100000
open Go.RowKit Go.Proofs.YtniklphdnakehaaDoor.words Go.Proofs.YtniklphdnakehaaDoor.ext Go.Proofs.YtniklphdnakehaaDoor.name

/-- A branch in memory, all of it in blocks of which P holds. -/
def BrnP (w : World) (P : Nat → Prop) (g : Nat) (L : List Ent) : Prop :=
  P g ∧ ∃ A c cs, w.heap[g]? = some (.cells #[.slice A L.length c] 115 (0, 0)) ∧ (∀ j v, cs[j]? = some v → ∃ b off, A = some ⟨b, off, none⟩ ∧ P b ∧ w.cell? ⟨b, off + j, none⟩ = some v) ∧ Ents w P cs L
theorem BrnP.keep {w w' : World} {P P' : Nat → Prop} {g : Nat} {L : List Ent} (h : BrnP w P g L) (hk : ∀ b, P b → w'.heap[b]? = w.heap[b]? ∧ P' b) : BrnP w' P' g L := by
  obtain ⟨h1, A, c, cs, h2, h3, h4⟩ := h
  refine ⟨(hk g h1).2, A, c, cs, (hk g h1).1.trans h2, fun j v hj => ?_, h4.keep hk⟩
  obtain ⟨b, off, e1, e2, e3⟩ := h3 j v hj
  exact ⟨b, off, e1, (hk b e2).2, (World.cell?_of_block (hk b e2).1).trans e3⟩
theorem BrnP.brn {w : World} {P : Nat → Prop} {B g : Nat} {L : List Ent} (h : BrnP w P g L) (hP : ∀ b, P b → b < B) : Brn w B g L := h.keep (P' := fun b => b < B) fun b hb => ⟨rfl, hP b hb⟩
theorem Tb.fresh {w : World} {B g m : Nat} {v : Value} {cs : List Value} {L : List Ent} {lo : Nat} (h : Tb w B g v m cs) (hlo : B ≤ lo) (he : Ents w (Qs w lo) cs L) (hm : m = L.length) : BrnP w (fun b => B ≤ b ∧ b < w.heap.size) g L := by
  subst hm
  obtain ⟨h1, h2, h3⟩ := h
  obtain ⟨A, c, rfl, _, _⟩ := own_facts h3
  refine ⟨⟨h1, lt_of_some h2⟩, A, c, cs, h2, fun j v hj => ?_, he.keep fun b hb => ⟨rfl, Nat.le_trans hlo hb.1, hb.lt⟩⟩
  obtain ⟨b, cur, e1, e2, e3, _, e5⟩ := own_cell h3 hj
  exact ⟨b, 0, e1, ⟨e2, e3⟩, by rw [Nat.zero_add]; exact e5⟩
def Fresh (n : Nd) (w : World) (e : Ending) (w' : World) : Prop := (∃ g, e = .returned (.tuple #[.pointer (some ⟨g, 0, none⟩), .int .i64 0]) ∧ BrnP w' (fun b => w.heap.size ≤ b ∧ b < w'.heap.size) g (flatN 0 n)) ∧ Below w.heap.size w w'
set_option maxHeartbeats 3200000 in
theorem new_fresh (n : Nd) (r : Raw) (m : Int) (w : World) (hN : NdAt w w.heap.size n r) (hm : w.cell? ⟨0, 0, none⟩ = some (.int .i64 m)) (hd : depth n ≤ 1000) (ht : treeB n = true) (hc : countC n = (count n : Int)) (hc4 : count n ≤ 4096) :
    Calls Tryd.prog 19 #[ndV n r] w (Fresh n w) := by
  obtain ⟨W1, hW1⟩ : ∃ W1, W1 = w.alloc (.cells (rawCells n r) 27) := ⟨_, rfl⟩
  have hb1 : Below w.heap.size w W1 := by rw [hW1]; exact (Below.refl _ _).alloc (Nat.le_refl _) _
  have hx1 : Box W1 w.heap.size n r := by rw [hW1]; exact Box.new w n r
  have hr := treeright_any n r m W1 (hN.later hb1) (below_cell hm hb1) hd
  rw [ht] at hr
  unfold ndV rawCells at hr
  have HR := Lib.hid hr
  have HN := Lib.hid hN
  have HX1 := Lib.hid hx1
  have Hc := Lib.hid hc
  unfold rawCells at hW1
  have HW1 := Lib.hid hW1
  have HB1 := Lib.hid hb1
  obtain ⟨i1, hi', hw0, hw1, hw2⟩ := info_parts infoBn
  obtain ⟨C, hC⟩ : ∃ C, C = count n := ⟨_, rfl⟩
  have hmk : ∀ u : World, (Instr.makeSlice 113 (.int .i64 0) (.int .i64 (C : Int))).run Tryd.prog u =
      .ok (.slice (some ⟨u.heap.size, 0, none⟩) 0 C) (u.alloc (.cells (madeCells #[.int .i64 0, .bool false, .slice none 0 0, .slice none 0 0, .int .i64 0, .slice none 0 0, .string ⟨#[]⟩, .slice none 0 0] (C * 8)) 119)) := fun u => by
    have h := run_make (P := Tryd.prog) u 113 119 i1 _ Tryd.underlying113 hi' hw0 .i64 .i64 0 (C : Int) (by omega) (by omega) (by rw [hw2]; omega) (by omega)
    simpa [hw1, Value.cells] using h
  obtain ⟨M, hM⟩ : ∃ M, M = madeCells #[.int .i64 0, .bool false, .slice none 0 0, .slice none 0 0, .int .i64 0, .slice none 0 0, .string ⟨#[]⟩, .slice none 0 0] (C * 8) := ⟨_, rfl⟩
  rw [← hM] at hmk
  have hMs : M.size = C * 8 := by rw [hM, size_madeCells]
  have HMs := Lib.hid hMs
  have HC := Lib.hid hC
  obtain ⟨b0, b1, b2, b3, b4, b5, b6⟩ := hx1.cells
  clear hN hm hr hW1 hb1 hx1 hc hM hMs hC hi' hw0 hw1 hw2
  unfold ndV rawCells
  go_enter Tryd.func19, Tryd.ntmps19
  go_upto_region 1 with fail
  rw [← HW1.out]
  go_wp2_with fail
  refine HR.out.mono ?_
  rintro e w2 ⟨rfl, hb2⟩
  have hb12 : Below w.heap.size w w2 := HB1.out.trans (hb2.mono HB1.out.size)
  have hcc := treecount_any n r w2 ((HN.out.later HB1.out).later hb2) hd
  rw [Hc.out, ← HC.out] at hcc
  unfold ndV rawCells at hcc
  have HCC := Lib.hid hcc
  have HX2 := Lib.hid (HX1.out.below hb2)
  have HB2 := Lib.hid hb12
  clear hb2 hb12 hcc HR HW1 HX1 b0 b1 b2 b3 b4 b5 b6
  obtain ⟨b0, b1, b2, b3, b4, b5, b6⟩ := HX2.out.cells
  go_wp2_with fail
  refine HCC.out.mono ?_
  rintro e w3 ⟨rfl, hb3⟩
  have HX3 := Lib.hid (HX2.out.below hb3)
  have HB3 := Lib.hid (HB2.out.trans (hb3.mono HB2.out.size))
  clear hb3 HCC HX2 HB2 b0 b1 b2 b3 b4 b5 b6
  obtain ⟨W4, hW4⟩ : ∃ W4, W4 = (w3.alloc (.cells M 119)).alloc (.cells #[.slice (some ⟨w3.heap.size, 0, none⟩) 0 C] 115) := ⟨_, rfl⟩
  have ha : Below w3.heap.size w3 (w3.alloc (.cells M 119)) := (Below.refl _ _).alloc (Nat.le_refl _) _
  have hb34 : Below w3.heap.size w3 W4 := by rw [hW4]; exact ha.alloc ha.size _
  have hx4 := HX3.out.below hb34
  have hb4 : Below w.heap.size w W4 := HB3.out.trans (hb34.mono HB3.out.size)
  have hsz : (w3.alloc (.cells M 119)).heap.size = w3.heap.size + 1 := by simp
  have htb : Tb W4 w.heap.size (w3.heap.size + 1) (.slice (some ⟨w3.heap.size, 0, none⟩) 0 C) 0 [] := by
    have hge := HB3.out.size
    refine ⟨by omega, ?_, ?_⟩
    · rw [hW4, ← hsz]
      exact heap_alloc_new _ _
    · rw [hW4]
      exact (World.ownsRow_made w3 M C hge (by have := HC.out; simp only [maxLen]; omega) HMs.out).alloc _
  have hcall := add_at w w.heap.size (depth n + 1) n r W4 (w3.heap.size + 1) _ 0 [] (Nat.lt_succ_self _) HN.out hb4 htb (by omega)
  unfold ndV rawCells at hcall
  have HCall := Lib.hid hcall
  have HX4 := Lib.hid hx4
  have HB4 := Lib.hid hb4
  have HW4 := Lib.hid hW4
  clear ha hb34 hx4 hb4 hcall htb hW4 HX3 HB3
  go_upto_region 4 with fail
  rw [← HW4.out]
  clear hsz
  obtain ⟨b0, b1, b2, b3, b4, b5, b6⟩ := HX4.out.cells
  go_wp2_with fail
  refine HCall.out.mono ?_
  rintro e w5 ⟨v5, ds, rfl, t5, e5, k5⟩
  have hbr := t5.fresh (L := flatN 0 n) HB4.out.size (by simpa using e5) (by rw [flatN_length, Nat.zero_add])
  have HBr := Lib.hid hbr
  have HB5 := Lib.hid (HB4.out.trans (k5.below HB4.out.size))
  clear t5 e5 k5 hbr HCall HW4 b0 b1 b2 b3 b4 b5 b6
  go_wp2_with fail
  exact bodyPost_ret (v := .tuple #[.pointer (some ⟨w3.heap.size + 1, 0, none⟩), .int .i64 0]) (by simp [results, Tryd.results19, go_sem]) rfl ⟨⟨_, rfl, HBr.out⟩, HB5.out⟩
end Go.Proofs.YtniklphdnakehaaDoor.tre

namespace Go.Proofs.YtniklphdnakehaaDoor.stk
set_option maxRecDepth 100000
open Go.RowKit Go.Proofs.YtniklphdnakehaaDoor.words Go.Proofs.YtniklphdnakehaaDoor.ext Go.Proofs.YtniklphdnakehaaDoor.name Go.Proofs.YtniklphdnakehaaDoor.tre

/-- Trees in a slice. -/
def Trees (w : World) (B : Nat) (A : Option Addr) (T : List Nd) (rs : Nat → Raw) : Prop :=
  ∀ (i : Nat) (x : Nd), T[i]? = some x → (∃ b off, A = some ⟨b, off, none⟩ ∧ b < B ∧ ∀ (j : Nat) (v : Value), (rawCells x (rs i))[j]? = some v → w.cell? ⟨b, off + i * 7 + j, none⟩ = some v) ∧ NdAt w B x (rs i)
theorem Trees.keep {w w' : World} {B : Nat} {A : Option Addr} {T : List Nd} {rs : Nat → Raw} (h : Trees w B A T rs) (hb : Below B w w') : Trees w' B A T rs := fun i x hx => by
  obtain ⟨⟨b, off, h1, h2, h3⟩, h4⟩ := h i x hx
  exact ⟨⟨b, off, h1, h2, fun j v hj => (hb.cell (p := ⟨b, off + i * 7 + j, none⟩) h2).trans (h3 j v hj)⟩, h4.keep hb⟩
theorem Trees.later {w w' : World} {A : Option Addr} {T : List Nd} {rs : Nat → Raw} (h : Trees w w.heap.size A T rs) (hb : Below w.heap.size w w') : Trees w' w'.heap.size A T rs := fun i x hx => by
  obtain ⟨⟨b, off, h1, h2, h3⟩, h4⟩ := (h.keep hb) i x hx
  exact ⟨⟨b, off, h1, Nat.lt_of_lt_of_le h2 hb.size, h3⟩, h4.more hb.size⟩
/-- Rows all of which lie in blocks of which P holds. -/
def RowsP (w : World) (P : Nat → Prop) (A : Option Addr) (L : List (Nat × Int)) : Prop :=
  ∀ (i : Nat) (x : Nat × Int), L[i]? = some x → ∃ b off, A = some ⟨b, off, none⟩ ∧ P b ∧ w.cell? ⟨b, off + i * 2, none⟩ = some (.pointer (some ⟨x.1, 0, none⟩)) ∧ w.cell? ⟨b, off + i * 2 + 1, none⟩ = some (.int .i64 x.2)
theorem RowsP.keep {w w' : World} {P P' : Nat → Prop} {A : Option Addr} {L : List (Nat × Int)} (h : RowsP w P A L) (hk : ∀ b, P b → w'.heap[b]? = w.heap[b]? ∧ P' b) : RowsP w' P' A L := fun i x hx => by
  obtain ⟨b, off, h1, h2, h3, h4⟩ := h i x hx
  exact ⟨b, off, h1, (hk b h2).2, (World.cell?_of_block (hk b h2).1).trans h3, (World.cell?_of_block (hk b h2).1).trans h4⟩
/-- A slice of rows, and where it lies. -/
structure SlcP (w : World) (P : Nat → Prop) (A : Option Addr) (c : Nat) (L : List (Nat × Int)) : Prop where
  rows : RowsP w P A L
  cap : L.length ≤ c
  max : c ≤ maxLen
  nil : A = none → L = [] ∧ c = 0
theorem SlcP.keep {w w' : World} {P P' : Nat → Prop} {A : Option Addr} {c : Nat} {L : List (Nat × Int)} (h : SlcP w P A c L) (hk : ∀ b, P b → w'.heap[b]? = w.heap[b]? ∧ P' b) : SlcP w' P' A c L := ⟨h.rows.keep hk, h.cap, h.max, h.nil⟩
theorem SlcP.slc {w : World} {P : Nat → Prop} {A : Option Addr} {c : Nat} {L : List (Nat × Int)} (h : SlcP w P A c L) {B : Nat} (hP : ∀ b, P b → b < B) : Slc w B A c L := ⟨h.rows.keep (P' := fun b => b < B) fun b hb => ⟨rfl, hP b hb⟩, h.cap, h.max, h.nil⟩
theorem Owned.slcP {w : World} {B n : Nat} {A : Option Addr} {l c : Nat} {L : List (Nat × Int)} (h : Owned w B n (.slice A l c) L) : SlcP w (fun b => B ≤ b ∧ b < w.heap.size) A c L := by
  have hs := h.slc.2.2
  refine ⟨fun i x hx => ?_, hs.cap, hs.max, hs.nil⟩
  obtain ⟨b, off, h1, h2, h3, h4⟩ := hs.rows i x hx
  refine ⟨b, off, h1, ⟨?_, h2⟩, h3, h4⟩
  exact (World.ownsRow.lt h b (by rw [h1]; rfl)).1

def Pn (w wr : World) (b : Nat) : Prop := w.heap.size + 2 ≤ b ∧ b < wr.heap.size
/-- Behind the k-th tree. -/
structure InO (w : World) (T : List Nd) (k : Nat) (A : Option Addr) (c : Nat) (L : List (Nat × Int)) (wr : World) : Prop where
  res : wr.heap[w.heap.size]? = some (.cells #[.slice none 0 0, .int .i64 0] 54 (0, 0))
  box : wr.heap[w.heap.size + 1]? = some (.cells #[.slice A L.length c, .int .i64 (k : Int)] 54 (0, 0))
  len : L.length = k
  le : k ≤ 64
  slc : SlcP wr (Pn w wr) A c L
  brs : ∀ (j : Nat) (x : Nat × Int), L[j]? = some x → x.2 = (k : Int) - 1 - j ∧ ∃ t, T[k - 1 - j]? = some t ∧ BrnP wr (Pn w wr) x.1 (flatN 0 t)
  right : ∀ t ∈ T.take k, treeB t = true
  below : Below w.heap.size w wr
theorem InO.big {w : World} {T : List Nd} {k : Nat} {A : Option Addr} {c : Nat} {L : List (Nat × Int)} {wr : World} (h : InO w T k A c L wr) : w.heap.size + 2 ≤ wr.heap.size := by
  have := lt_of_some h.box
  omega
theorem InO.later {w : World} {T : List Nd} {k : Nat} {A : Option Addr} {c : Nat} {L : List (Nat × Int)} {wr w2 : World} (h : InO w T k A c L wr) (hb : Below wr.heap.size wr w2) : InO w T k A c L w2 := by
  have hk : ∀ b, Pn w wr b → w2.heap[b]? = wr.heap[b]? ∧ Pn w w2 b := fun b hp => ⟨hb.block b hp.2, hp.1, Nat.lt_of_lt_of_le hp.2 hb.size⟩
  exact ⟨(hb.block _ (lt_of_some h.res)).trans h.res, (hb.block _ (lt_of_some h.box)).trans h.box, h.len, h.le, h.slc.keep hk, fun j x hx => by
    obtain ⟨h1, t, h2, h3⟩ := h.brs j x hx
    exact ⟨h1, t, h2, h3.keep hk⟩, h.right, h.below.trans (hb.mono h.below.size)⟩
/-- A tree more. -/
theorem InO.next {w : World} {T : List Nd} {k g : Nat} {A A' : Option Addr} {c c' : Nat} {L : List (Nat × Int)} {w2 w3 : World} {t : Nd} {lo : Nat} (h : InO w T k A c L w2) (hlt : k < 64) (ht : T[k]? = some t) (hr : treeB t = true)
    (hg : BrnP w2 (fun b => lo ≤ b ∧ b < w2.heap.size) g (flatN 0 t)) (hlo : w.heap.size + 2 ≤ lo) (ho : Owned w3 w2.heap.size (L.length + 1) (.slice A' (L.length + 1) c') ((g, (k : Int)) :: L)) (hb : Below w2.heap.size w2 w3) :
    InO w T (k + 1) A' c' ((g, (k : Int)) :: L) ((w3.setCell ⟨w.heap.size + 1, 0, none⟩ (.slice A' (L.length + 1) c')).setCell ⟨w.heap.size + 1, 1, none⟩ (.int .i64 ((k : Int) + 1))) := by
  obtain ⟨w4, hw4⟩ : ∃ w4, w4 = (w3.setCell ⟨w.heap.size + 1, 0, none⟩ (.slice A' (L.length + 1) c')).setCell ⟨w.heap.size + 1, 1, none⟩ (.int .i64 ((k : Int) + 1)) := ⟨_, rfl⟩
  rw [← hw4]
  have h3 := h.later hb
  have hbig := h.big
  have hsz : w4.heap.size = w3.heap.size := by rw [hw4]; simp
  have hblk : ∀ b, b ≠ w.heap.size + 1 → w4.heap[b]? = w3.heap[b]? := fun b hne => by
    rw [hw4, heap_setCell_other _ _ _ _ hne, heap_setCell_other _ _ _ _ hne]
  have hP : ∀ b, Pn w w3 b → w4.heap[b]? = w3.heap[b]? ∧ Pn w w4 b := fun b hp => ⟨hblk b (by have := hp.1; omega), hp.1, by rw [hsz]; exact hp.2⟩
  refine ⟨(hblk _ (by omega)).trans h3.res, ?_, by rw [List.length_cons, h.len], hlt, ?_, fun j x hx => ?_, fun s hs => ?_, ?_⟩
  · rw [hw4]
    exact over2 h3.box
  · exact ho.slcP.keep fun b hb' => hP b ⟨Nat.le_trans hbig hb'.1, hb'.2⟩
  · rcases j with _ | j
    · obtain rfl : (g, (k : Int)) = x := by simpa using hx
      refine ⟨by show (k : Int) = _; omega, t, by rw [show k + 1 - 1 - 0 = k by omega]; exact ht, hg.keep fun b hb' => ?_⟩
      have e := hP b ⟨Nat.le_trans hlo hb'.1, Nat.lt_of_lt_of_le hb'.2 hb.size⟩
      exact ⟨e.1.trans (hb.block b hb'.2), e.2⟩
    · obtain ⟨q1, s, q2, q3⟩ := h3.brs j x (by simpa using hx)
      exact ⟨by omega, s, by rw [show k + 1 - 1 - (j + 1) = k - 1 - j by omega]; exact q2, q3.keep hP⟩
  · obtain ⟨hk, htt⟩ := List.getElem?_eq_some_iff.1 ht
    rw [List.take_succ_eq_append_getElem hk, htt] at hs
    rcases List.mem_append.1 hs with hs | hs
    · exact h.right s hs
    · obtain rfl : s = t := by simpa using hs
      exact hr
  · rw [hw4]
    exact (h3.below.setCell (p := ⟨w.heap.size + 1, 0, none⟩) (by show w.heap.size ≤ w.heap.size + 1; omega) _).setCell (p := ⟨w.heap.size + 1, 1, none⟩) (by show w.heap.size ≤ w.heap.size + 1; omega) _
/-- A stack of trees, in memory. -/
structure StkOk (w : World) (A : Option Addr) (c : Nat) (L : List (Nat × Int)) (T : List Nd) : Prop where
  slc : Slc w w.heap.size A c L
  len : L.length = T.length
  brs : ∀ (j : Nat) (x : Nat × Int), L[j]? = some x → x.2 = (T.length : Int) - 1 - j ∧ ∃ t, T[T.length - 1 - j]? = some t ∧ Brn w w.heap.size x.1 (flatN 0 t)
def OfOut (T : List Nd) (w : World) (e : Ending) (w' : World) : Prop :=
  (∃ A c L, e = .returned (.tuple #[stkV A T.length c (T.length : Int), .int .i64 0]) ∧ StkOk w' A c L T ∧ (∀ t ∈ T, treeB t = true) ∧ T.length ≤ 64 ∧ Below w.heap.size w w') ∨
  (∃ er : Int, e = .returned (.tuple #[stkV none 0 0 0, .int .i64 er]) ∧ ((er = 1 ∧ ∃ t ∈ T, treeB t = false) ∨ (er = 6 ∧ 64 < T.length)) ∧ Below w.heap.size w w')
theorem InO.fin {w : World} {T : List Nd} {A : Option Addr} {c : Nat} {L : List (Nat × Int)} {wr : World} (h : InO w T T.length A c L wr) :
    OfOut T w (.returned (.tuple #[.agg #[.slice A L.length c, .int .i64 (T.length : Int)], .int .i64 0])) ((wr.setCell ⟨w.heap.size, 0, none⟩ (.slice A L.length c)).setCell ⟨w.heap.size, 1, none⟩ (.int .i64 (T.length : Int))) := by
  obtain ⟨w4, hw4⟩ : ∃ w4, w4 = (wr.setCell ⟨w.heap.size, 0, none⟩ (.slice A L.length c)).setCell ⟨w.heap.size, 1, none⟩ (.int .i64 (T.length : Int)) := ⟨_, rfl⟩
  rw [← hw4]
  have hsz : w4.heap.size = wr.heap.size := by rw [hw4]; simp
  have hP : ∀ b, Pn w wr b → w4.heap[b]? = wr.heap[b]? ∧ b < w4.heap.size := fun b hp => ⟨by
    have hne : b ≠ w.heap.size := by have := hp.1; omega
    rw [hw4, heap_setCell_other _ _ _ _ hne, heap_setCell_other _ _ _ _ hne], by rw [hsz]; exact hp.2⟩
  refine .inl ⟨A, c, L, by rw [h.len]; rfl, ⟨(h.slc.keep hP).slc fun b hb => hb, h.len, fun j x hx => ?_⟩, by have := h.right; rwa [List.take_length] at this, h.le, ?_⟩
  · obtain ⟨q1, t, q2, q3⟩ := h.brs j x hx
    exact ⟨q1, t, q2, (q3.keep hP).brn fun b hb => hb⟩
  · rw [hw4]
    exact (h.below.setCell (p := ⟨w.heap.size, 0, none⟩) (by show w.heap.size ≤ w.heap.size; omega) _).setCell (p := ⟨w.heap.size, 1, none⟩) (by show w.heap.size ≤ w.heap.size; omega) _
end Go.Proofs.YtniklphdnakehaaDoor.stk

namespace Go.Proofs.YtniklphdnakehaaDoor.stk
set_option maxRecDepth 100000
open Go.RowKit Go.Proofs.YtniklphdnakehaaDoor.words Go.Proofs.YtniklphdnakehaaDoor.ext Go.Proofs.YtniklphdnakehaaDoor.name Go.Proofs.YtniklphdnakehaaDoor.tre

set_option maxHeartbeats 12800000 in
theorem of_any (A : Option Addr) (c : Nat) (T : List Nd) (rs : Nat → Raw) (m : Int) (w : World) (hT : Trees w w.heap.size A T rs) (hm : w.cell? ⟨0, 0, none⟩ = some (.int .i64 m))
    (hd : ∀ t ∈ T, depth t ≤ 1000 ∧ (treeB t = true → countC t = (count t : Int) ∧ count t ≤ 4096)) (hlen : T.length ≤ 1000) :
    Calls Tryd.prog 32 #[.slice A T.length c] w (OfOut T w) := by
  obtain ⟨Wa, hWa⟩ : ∃ Wa, Wa = w.alloc (.cells #[.slice none 0 0, .int .i64 0] 54) := ⟨_, rfl⟩
  obtain ⟨W1, hW1⟩ : ∃ W1, W1 = Wa.alloc (.cells #[.slice none 0 0, .int .i64 0] 54) := ⟨_, rfl⟩
  have hz : Wa.heap.size = w.heap.size + 1 := by rw [hWa]; simp
  have hba : Below w.heap.size w Wa := by rw [hWa]; exact (Below.refl _ _).alloc (Nat.le_refl _) _
  have hb1 : Below w.heap.size w W1 := by rw [hW1]; exact hba.alloc hba.size _
  have hs1 : W1.heap[w.heap.size]? = some (.cells #[.slice none 0 0, .int .i64 0] 54 (0, 0)) := by
    rw [hW1]
    refine (Below.heap_alloc Wa _ _ (by omega)).trans ?_
    rw [hWa]
    exact heap_alloc_new w _
  have hr1 : W1.heap[w.heap.size + 1]? = some (.cells #[.slice none 0 0, .int .i64 0] 54 (0, 0)) := by rw [hW1, ← hz]; exact heap_alloc_new Wa _
  have H1 : Hid (InO w T 0 none 0 [] W1) := Lib.hid ⟨hs1, hr1, rfl, by omega, ⟨fun i x hx => by simp at hx, Nat.le_refl _, by unfold maxLen; omega, fun _ => ⟨rfl, rfl⟩⟩, fun j x hx => by simp at hx, fun t ht => by simp at ht, hb1⟩
  have HT := Lib.hid hT
  have HM := Lib.hid hm
  have HD := Lib.hid hd
  rw [hWa] at hW1
  have HW1 := Lib.hid hW1
  clear hT hm hd hba hb1 hs1 hr1 hW1 hWa hz
  go_enter Tryd.func32, Tryd.ntmps32
  go_upto_region 2 with fail
  rw [← HW1.out]
  go_wp2_with fail
  go_loopw [11] (fun v wr => ∃ (k : Nat) (A1 : Option Addr) (c1 : Nat) (L : List (Nat × Int)), v = .int .i64 (k : Int) ∧ k ≤ T.length ∧ Hid (InO w T k A1 c1 L wr)) (fun v _ => T.length - (intOf v).toNat)
  case atStart => exact ⟨0, none, 0, [], rfl, Nat.zero_le _, H1⟩
  case round =>
    obtain ⟨k, A1, c1, L, rfl, hk, HI⟩ := hrel
    by_cases hlt : k < T.length
    · obtain ⟨t, ht⟩ : ∃ t, T[k]? = some t := ⟨_, List.getElem?_eq_getElem hlt⟩
      obtain ⟨⟨b, off, hA, hb, hcl⟩, hN⟩ := (HT.out.keep HI.out.below) k t ht
      obtain ⟨rx, hrx⟩ : ∃ rx, rx = rs k := ⟨_, rfl⟩
      rw [← hrx] at hcl hN
      subst hA
      have c0 : wr.cell? ⟨b, off + k * 7, none⟩ = some (.int .i64 t.K) := hcl 0 _ rfl
      have c1' : wr.cell? ⟨b, off + k * 7 + 1, none⟩ = some (.bool t.O) := hcl 1 _ rfl
      have c2 : wr.cell? ⟨b, off + k * 7 + 2, none⟩ = some (.slice rx.An t.N.length rx.cn) := hcl 2 _ rfl
      have c3 : wr.cell? ⟨b, off + k * 7 + 3, none⟩ = some (.slice rx.Ai t.I.length rx.ci) := hcl 3 _ rfl
      have c4 : wr.cell? ⟨b, off + k * 7 + 4, none⟩ = some (.int .i64 t.S) := hcl 4 _ rfl
      have c5 : wr.cell? ⟨b, off + k * 7 + 5, none⟩ = some (.slice rx.Ae t.E.length rx.ce) := hcl 5 _ rfl
      have c6 : wr.cell? ⟨b, off + k * 7 + 6, none⟩ = some (.string t.T) := hcl 6 _ rfl
      have i0 : (0 : Int) ≤ (k : Int) := by omega
      have i1 : (k : Int) < (T.length : Int) := by omega
      obtain ⟨W2, hW2⟩ : ∃ W2, W2 = wr.alloc (.cells (rawCells t rx) 27) := ⟨_, rfl⟩
      have hb2 : Below wr.heap.size wr W2 := by rw [hW2]; exact (Below.refl _ _).alloc (Nat.le_refl _) _
      have hx2 : Box W2 wr.heap.size t rx := by rw [hW2]; exact Box.new wr t rx
      have hI2 := HI.out.later hb2
      have hN2 : NdAt W2 W2.heap.size t rx := (hN.more HI.out.below.size).later hb2
      have hm2 := below_cell HM.out hI2.below
      obtain ⟨d1, d2⟩ := HD.out t (List.mem_of_getElem? ht)
      have Ht := Lib.hid ht
      have HI2 := Lib.hid hI2
      have HX2 := Lib.hid hx2
      have hbig := hI2.big
      rcases htr : treeB t with _ | _
      · have hC := new_no t rx m W2 hN2 hm2 d1 htr
        unfold ndV rawCells at hC
        have HC := Lib.hid hC
        have HTr := Lib.hid htr
        unfold rawCells at hW2
        have HW2 := Lib.hid hW2
        clear hcl hN hb2 hx2 hI2 hN2 hm2 d1 d2 ht htr hC hW2 hrx HI
        go_upto_region 5 with fail
        rw [← HW2.out]
        clear c0 c1' c2 c3 c4 c5 c6
        obtain ⟨b0, b1, b2, b3, b4, b5, b6⟩ := HX2.out.cells
        go_wp2_with fail
        refine HC.out.mono ?_
        rintro e w3 ⟨rfl, hb3⟩
        have hI3 := HI2.out.later hb3
        have r0 : w3.cell? ⟨w.heap.size, 0, none⟩ = some (.slice none 0 0) := cell_of_blk hI3.res 0
        have r1 : w3.cell? ⟨w.heap.size, 1, none⟩ = some (.int .i64 0) := cell_of_blk hI3.res 1
        have f0 := free_of_blk hI3.res 0
        have f1 := free_of_blk hI3.res 1
        obtain ⟨W4, hW4⟩ : ∃ W4, W4 = (w3.setCell ⟨w.heap.size, 0, none⟩ (.slice none 0 0)).setCell ⟨w.heap.size, 1, none⟩ (.int .i64 0) := ⟨_, rfl⟩
        have h4 := over2 (u0 := .slice none 0 0) (u1 := .int .i64 0) hI3.res
        rw [← hW4] at h4
        have p0 : W4.cell? ⟨w.heap.size, 0, none⟩ = some (.slice none 0 0) := cell_of_blk h4 0
        have p1 : W4.cell? ⟨w.heap.size, 1, none⟩ = some (.int .i64 0) := cell_of_blk h4 1
        have hb4 : Below w.heap.size w W4 := by rw [hW4]; exact (hI3.below.setCell (p := ⟨w.heap.size, 0, none⟩) (Nat.le_refl _) _).setCell (p := ⟨w.heap.size, 1, none⟩) (Nat.le_refl _) _
        have HE : Hid (OfOut T w (.returned (.tuple #[.agg #[.slice none 0 0, .int .i64 0], .int .i64 1])) W4) := Lib.hid (.inr ⟨1, rfl, .inl ⟨rfl, t, List.mem_of_getElem? Ht.out, HTr.out⟩, hb4⟩)
        have HW4 := Lib.hid hW4
        clear hb3 hI3 h4 hb4 hW4 HC HW2 HX2 HI2 b0 b1 b2 b3 b4 b5 b6
        go_wp2_with fail
        rw [← HW4.out]
        exact bodyPost_ret (v := .tuple #[.agg #[.slice none 0 0, .int .i64 0], .int .i64 1]) (by simp [results, Tryd.results32, go_sem, p0, p1]) rfl HE.out
      · obtain ⟨d3, d4⟩ := d2 htr
        have hC := new_fresh t rx m W2 hN2 hm2 d1 htr d3 d4
        unfold ndV rawCells at hC
        have HC := Lib.hid hC
        have HTr := Lib.hid htr
        unfold rawCells at hW2
        have HW2 := Lib.hid hW2
        clear hcl hN hb2 hx2 hI2 hN2 hm2 d1 d2 d3 d4 ht htr hC hW2 hrx HI
        go_upto_region 5 with fail
        rw [← HW2.out]
        clear c0 c1' c2 c3 c4 c5 c6
        obtain ⟨b0, b1, b2, b3, b4, b5, b6⟩ := HX2.out.cells
        go_wp2_with fail
        refine HC.out.mono ?_
        rintro e w3 ⟨⟨g, rfl, hg⟩, hb3⟩
        have hI3 := HI2.out.later hb3
        have hle := hI3.le
        have hLl : L.length ≤ k ∧ k ≤ L.length := by have := hI3.len; omega
        obtain ⟨hL1, hL2⟩ := hLl
        have s0 : w3.cell? ⟨w.heap.size + 1, 0, none⟩ = some (.slice A1 L.length c1) := cell_of_blk hI3.box 0
        have s1 : w3.cell? ⟨w.heap.size + 1, 1, none⟩ = some (.int .i64 (k : Int)) := cell_of_blk hI3.box 1
        by_cases h64 : k < 64
        · have hA := add_yes A1 c1 (k : Int) g L w3 (hI3.slc.slc fun b hb => hb.2) (by omega) (by omega) (by omega)
          unfold stkV at hA
          have HA := Lib.hid hA
          have HG := Lib.hid hg
          have HI3 := Lib.hid hI3
          clear hA hg hb3 hI3 HC HW2 HX2 HI2 b0 b1 b2 b3 b4 b5 b6
          go_wp2_with fail
          refine HA.out.mono ?_
          rintro e w4 ⟨A4, c4, rfl, ho4, hb4⟩
          have hI4 := HI3.out.later hb4
          have t0 : w4.cell? ⟨w.heap.size + 1, 0, none⟩ = some (.slice A1 L.length c1) := cell_of_blk hI4.box 0
          have t1 : w4.cell? ⟨w.heap.size + 1, 1, none⟩ = some (.int .i64 (k : Int)) := cell_of_blk hI4.box 1
          have f0 := free_of_blk hI4.box 0
          have f1 := free_of_blk hI4.box 1
          have HN := Lib.hid (HI3.out.next h64 Ht.out HTr.out HG.out hbig ho4 hb4)
          unfold stkV
          rw [List.length_cons]
          clear ho4 hb4 hI4 HA HG HI3 s0 s1
          go_wp2_with fail
          go_roundw
          case rel => exact ⟨k + 1, A4, c4, _, by go_num, by omega, HN⟩
          case measure => simp [intOf]; omega
        · have hA := add_no A1 L.length c1 (k : Int) (some ⟨g, 0, none⟩) w3 (by omega)
          unfold stkV at hA
          have HA := Lib.hid hA
          have HI3 := Lib.hid hI3
          clear hA hg hb3 hI3 HC HW2 HX2 HI2 b0 b1 b2 b3 b4 b5 b6
          go_wp2_with fail
          refine HA.out.mono ?_
          rintro e w4 ⟨rfl, hb4⟩
          have hI4 := HI3.out.later hb4
          have t0 : w4.cell? ⟨w.heap.size + 1, 0, none⟩ = some (.slice A1 L.length c1) := cell_of_blk hI4.box 0
          have t1 : w4.cell? ⟨w.heap.size + 1, 1, none⟩ = some (.int .i64 (k : Int)) := cell_of_blk hI4.box 1
          have f0 := free_of_blk hI4.box 0
          have f1 := free_of_blk hI4.box 1
          obtain ⟨W5, hW5⟩ : ∃ W5, W5 = (w4.setCell ⟨w.heap.size + 1, 0, none⟩ (.slice A1 L.length c1)).setCell ⟨w.heap.size + 1, 1, none⟩ (.int .i64 (k : Int)) := ⟨_, rfl⟩
          have hn5 : ∀ b, b ≠ w.heap.size + 1 → W5.heap[b]? = w4.heap[b]? := fun b hne => by rw [hW5, heap_setCell_other _ _ _ _ hne, heap_setCell_other _ _ _ _ hne]
          have hr5 := (hn5 w.heap.size (by omega)).trans hI4.res
          have r0 : W5.cell? ⟨w.heap.size, 0, none⟩ = some (.slice none 0 0) := cell_of_blk hr5 0
          have r1 : W5.cell? ⟨w.heap.size, 1, none⟩ = some (.int .i64 0) := cell_of_blk hr5 1
          have g0 := free_of_blk hr5 0
          have g1 := free_of_blk hr5 1
          obtain ⟨W6, hW6⟩ : ∃ W6, W6 = (W5.setCell ⟨w.heap.size, 0, none⟩ (.slice none 0 0)).setCell ⟨w.heap.size, 1, none⟩ (.int .i64 0) := ⟨_, rfl⟩
          have h6 := over2 (u0 := .slice none 0 0) (u1 := .int .i64 0) hr5
          rw [← hW6] at h6
          have p0 : W6.cell? ⟨w.heap.size, 0, none⟩ = some (.slice none 0 0) := cell_of_blk h6 0
          have p1 : W6.cell? ⟨w.heap.size, 1, none⟩ = some (.int .i64 0) := cell_of_blk h6 1
          have hb5 : Below w.heap.size w W5 := by rw [hW5]; exact (hI4.below.setCell (p := ⟨w.heap.size + 1, 0, none⟩) (by show w.heap.size ≤ w.heap.size + 1; omega) _).setCell (p := ⟨w.heap.size + 1, 1, none⟩) (by show w.heap.size ≤ w.heap.size + 1; omega) _
          have hb6 : Below w.heap.size w W6 := by rw [hW6]; exact (hb5.setCell (p := ⟨w.heap.size, 0, none⟩) (Nat.le_refl _) _).setCell (p := ⟨w.heap.size, 1, none⟩) (Nat.le_refl _) _
          have HE : Hid (OfOut T w (.returned (.tuple #[.agg #[.slice none 0 0, .int .i64 0], .int .i64 6])) W6) := Lib.hid (.inr ⟨6, rfl, .inr ⟨rfl, by omega⟩, hb6⟩)
          have HW5 := Lib.hid hW5
          have HW6 := Lib.hid hW6
          clear hb4 hI4 hn5 hr5 h6 hb5 hb6 hW5 hW6 HA HI3 s0 s1
          go_upto_region 8 with fail
          rw [← HW5.out]
          go_wp2_with fail
          rw [← HW6.out]
          exact bodyPost_ret (v := .tuple #[.agg #[.slice none 0 0, .int .i64 0], .int .i64 6]) (by simp [results, Tryd.results32, go_sem, p0, p1]) rfl HE.out
    · obtain rfl : k = T.length := by omega
      have s0 : wr.cell? ⟨w.heap.size + 1, 0, none⟩ = some (.slice A1 L.length c1) := cell_of_blk HI.out.box 0
      have s1 : wr.cell? ⟨w.heap.size + 1, 1, none⟩ = some (.int .i64 (T.length : Int)) := cell_of_blk HI.out.box 1
      have r0 : wr.cell? ⟨w.heap.size, 0, none⟩ = some (.slice none 0 0) := cell_of_blk HI.out.res 0
      have r1 : wr.cell? ⟨w.heap.size, 1, none⟩ = some (.int .i64 0) := cell_of_blk HI.out.res 1
      have f0 := free_of_blk HI.out.res 0
      have f1 := free_of_blk HI.out.res 1
      obtain ⟨W4, hW4⟩ : ∃ W4, W4 = (wr.setCell ⟨w.heap.size, 0, none⟩ (.slice A1 L.length c1)).setCell ⟨w.heap.size, 1, none⟩ (.int .i64 (T.length : Int)) := ⟨_, rfl⟩
      have h4 := over2 (u0 := .slice A1 L.length c1) (u1 := .int .i64 (T.length : Int)) HI.out.res
      have hE := HI.out.fin
      rw [← hW4] at h4 hE
      have p0 : W4.cell? ⟨w.heap.size, 0, none⟩ = some (.slice A1 L.length c1) := cell_of_blk h4 0
      have p1 : W4.cell? ⟨w.heap.size, 1, none⟩ = some (.int .i64 (T.length : Int)) := cell_of_blk h4 1
      have HE := Lib.hid hE
      have HW4 := Lib.hid hW4
      clear h4 hE hW4 HI
      go_wp2_with fail
      rw [← HW4.out]
      exact bodyPost_ret (v := .tuple #[.agg #[.slice A1 L.length c1, .int .i64 (T.length : Int)], .int .i64 0]) (by simp [results, Tryd.results32, go_sem, p0, p1]) rfl HE.out
end Go.Proofs.YtniklphdnakehaaDoor.stk
