/- What the law of stacks keeps while it adds and removes: a stack, its numbers, the branches, and all that was. No program is walked. -/
import Derived.Test.YtniklphdnakehaaDoorStkSame
namespace Go.Proofs.YtniklphdnakehaaDoor.stk
set_option maxRecDepth 100000
open Go.RowKit Go.Proofs.YtniklphdnakehaaDoor.words Go.Proofs.YtniklphdnakehaaDoor.ext Go.Proofs.YtniklphdnakehaaDoor.name Go.Proofs.YtniklphdnakehaaDoor.tre

/-- Types whose rows the law writes anew. -/
def SD (T : TypeId) : Prop := T = 54 ∨ T = 39 ∨ T = 55
theorem notSD_row : ¬ SD 123 := by unfold SD; decide
theorem notSD_int : ¬ SD 3 := by unfold SD; decide
def KR (w : World) (b : Nat) : Prop := ∃ cs T f, w.heap[b]? = some (.cells cs T f) ∧ ¬ SD T
theorem KR.keep {B : Nat} {w w' : World} (h : Kept SD B w w') {b : Nat} (hb : KR w b) : w'.heap[b]? = w.heap[b]? ∧ KR w' b := by
  obtain ⟨cs, T, f, h1, h2⟩ := hb
  have := h.blk h1 h2
  exact ⟨this.trans h1.symm, cs, T, f, this, h2⟩
theorem KR.lt {w : World} {b : Nat} (h : KR w b) : b < w.heap.size := by
  obtain ⟨_, _, _, h, _⟩ := h
  exact lt_of_some h
theorem widen {S S' : TypeId → Prop} {B : Nat} {a w : World} (hs : ∀ T, S T → S' T) (h : Kept S B a w) : Kept S' B a w :=
  ⟨h.os, h.tape, h.output, h.size, fun k hk hc => h.block k hk (hc.imp id fun hc cs t f hw hS => hc cs t f hw (hs t hS))⟩
theorem ownL {w w' : World} {B size n : Nat} {E : TypeId} {v : Value} {xs : List Value} (h : w.ownsRow B E size v n xs) (hb : Below w.heap.size w w') : w'.ownsRow B E size v n xs := by
  refine ⟨h.1, ?_⟩
  rcases h.2 with h0 | ⟨g, cap, cur, h1, h2, h3, h4⟩
  · exact .inl h0
  · exact .inr ⟨g, cap, cur, h1, h2, (hb.block g (lt_of_some h3)).trans h3, h4⟩
theorem ownB {w : World} {B B' size n : Nat} {E : TypeId} {v : Value} {xs : List Value} (h : w.ownsRow B E size v n xs) (hB : B' ≤ B) : w.ownsRow B' E size v n xs := by
  refine ⟨h.1, ?_⟩
  rcases h.2 with h0 | ⟨g, cap, cur, h1, h2, h3⟩
  · exact .inl h0
  · exact .inr ⟨g, cap, cur, h1, Nat.le_trans hB h2, h3⟩
theorem Owned.slcT {w : World} {B n : Nat} {A : Option Addr} {l c : Nat} {L : List (Nat × Int)} (h : Owned w B n (.slice A l c) L) : SlcP w (KR w) A c L := by
  have hs := h.slc.2.2
  refine ⟨fun i x hx => ?_, hs.cap, hs.max, hs.nil⟩
  obtain ⟨b, off, h1, h2, h3, h4⟩ := hs.rows i x hx
  refine ⟨b, off, h1, ?_, h3, h4⟩
  rcases h.2 with ⟨e, _⟩ | ⟨g, cap, cur, e, h5, h6, _⟩
  · injection e with e1
    rw [h1] at e1
    cases e1
  · injection e with e1
    rw [h1] at e1
    injection e1 with e1
    injection e1 with e1
    subst e1
    exact ⟨_, _, _, h6, notSD_row⟩
def NumsP (w : World) (A : Option Addr) (L : List (Nat × Int)) : Prop :=
  ∀ (i : Nat) (x : Nat × Int), L[i]? = some x → ∃ b off, A = some ⟨b, off, none⟩ ∧ KR w b ∧ w.cell? ⟨b, off + i, none⟩ = some (.int .i64 x.2)
theorem NumsP.keep {B : Nat} {w w' : World} {A : Option Addr} {L : List (Nat × Int)} (h : NumsP w A L) (hk : Kept SD B w w') : NumsP w' A L := fun i x hx => by
  obtain ⟨b, off, h1, h2, h3⟩ := h i x hx
  have h4 := h2.keep hk
  exact ⟨b, off, h1, h4.2, (World.cell?_of_block h4.1).trans h3⟩
theorem NumsP.nums {w : World} {A : Option Addr} {L : List (Nat × Int)} (h : NumsP w A L) : Nums w w.heap.size A L := fun i x hx => by
  obtain ⟨b, off, h1, h2, h3⟩ := h i x hx
  exact ⟨b, off, h1, h2.lt, h3⟩
def idC (x : Nat × Int) : Value := .int .i64 x.2
theorem own_nums {w : World} {B n c : Nat} {A : Option Addr} {L : List (Nat × Int)} (h : w.ownsRow B 3 1 (.slice A n c) n (L.map idC)) : NumsP w A L := fun i x hx => by
  obtain ⟨g, cur, h1, h2, h3, h4, h5⟩ := own_cell h (j := i) (u := idC x) (by rw [List.getElem?_map, hx]; rfl)
  exact ⟨g, 0, h1, ⟨cur, _, _, h4, notSD_int⟩, by rw [Nat.zero_add]; exact h5⟩
def ptrC (g : Nat) : Value := .pointer (some ⟨g, 0, none⟩)
theorem own_ptrs {w : World} {B n c : Nat} {A : Option Addr} {G : List Nat} (h : w.ownsRow B 39 1 (.slice A n c) n (G.map ptrC)) : Ptrs w w.heap.size A G := fun i g hg => by
  obtain ⟨b, cur, h1, h2, h3, h4, h5⟩ := own_cell h (j := i) (u := ptrC g) (by rw [List.getElem?_map, hg]; rfl)
  exact ⟨b, 0, h1, h3, by rw [Nat.zero_add]; exact h5⟩
theorem NumsP.lies {w : World} {A : Option Addr} {L : List (Nat × Int)} (h : NumsP w A L) : Lies w A (L.map idC) := fun j u hj => by
  obtain ⟨x, hx, rfl⟩ : ∃ x, L[j]? = some x ∧ idC x = u := by rwa [List.getElem?_map, Option.map_eq_some_iff] at hj
  obtain ⟨b, off, h1, h2, h3⟩ := h j x hx
  exact ⟨b, off, h1, h2.lt, h3⟩
/-- What was: a stack and its numbers. -/
structure Hst where
  A : Option Addr
  c : Nat
  ad : Int
  L : List (Nat × Int)
  Ai : Option Addr
  ci : Nat
def stC (h : Hst) : List Value := [.slice h.A h.L.length h.c, .int .i64 h.ad]
def hdC (h : Hst) : Value := .slice h.Ai h.L.length h.ci
structure HOk (w : World) (G : List Nat) (h : Hst) : Prop where
  rows : RowsP w (KR w) h.A h.L
  nums : NumsP w h.Ai h.L
  told : Told h.L G
  len : h.L.length ≤ 64
theorem HOk.keep {B : Nat} {w w' : World} {G : List Nat} {h : Hst} (x : HOk w G h) (hk : Kept SD B w w') : HOk w' G h := ⟨x.rows.keep fun _ hb => hb.keep hk, x.nums.keep hk, x.told, x.len⟩
theorem Told.more {L : List (Nat × Int)} {G : List Nat} (h : Told L G) (g : Nat) : Told L (G ++ [g]) := fun x hx => by
  obtain ⟨j, h1, h2⟩ := h x hx
  exact ⟨j, h1, by rw [List.getElem?_append_left (List.getElem?_eq_some_iff.1 h2).1]; exact h2⟩
/-- The law's memory: W0 the world ahead of the stack's box. -/
structure InS (W0 : World) (A : Option Addr) (c : Nat) (ad : Int) (L : List (Nat × Int)) (v4 v5 v6 v7 : Value) (G : List Nat) (H : List Hst) (wr : World) : Prop where
  box : wr.heap[W0.heap.size]? = some (.cells #[.slice A L.length c, .int .i64 ad] 54 (0, 0))
  slc : SlcP wr (KR wr) A c L
  ids : wr.ownsRow (W0.heap.size + 1) 3 1 v4 L.length (L.map idC)
  brs : wr.ownsRow (W0.heap.size + 1) 39 1 v5 G.length (G.map ptrC)
  was : wr.ownsRow (W0.heap.size + 1) 54 2 v6 H.length (H.flatMap stC)
  had : wr.ownsRow (W0.heap.size + 1) 55 1 v7 H.length (H.map hdC)
  hist : ∀ h ∈ H, HOk wr G h
  told : Told L G
  nodup : (L.map (·.2)).Nodup
  len : L.length ≤ 64
  below : Below W0.heap.size W0 wr
section
variable {W0 : World} {A : Option Addr} {c : Nat} {ad : Int} {L : List (Nat × Int)} {v4 v5 v6 v7 : Value} {G : List Nat} {H : List Hst} {wr : World}
theorem InS.later {w2 : World} (h : InS W0 A c ad L v4 v5 v6 v7 G H wr) (hb : Below wr.heap.size wr w2) : InS W0 A c ad L v4 v5 v6 v7 G H w2 := by
  have hk := Kept.of_below hb SD 0
  exact ⟨(hb.block _ (lt_of_some h.box)).trans h.box, h.slc.keep fun _ hb => hb.keep hk, ownL h.ids hb, ownL h.brs hb, ownL h.was hb, ownL h.had hb, fun x hx => (h.hist x hx).keep hk, h.told, h.nodup, h.len, h.below.trans (hb.mono h.below.size)⟩
theorem InS.turn {A' : Option Addr} {c' : Nat} {ad' : Int} {L' : List (Nat × Int)} {v4' : Value} (h : InS W0 A c ad L v4 v5 v6 v7 G H wr) (hs : SlcP wr (KR wr) A' c' L') (hi : wr.ownsRow (W0.heap.size + 1) 3 1 v4' L'.length (L'.map idC)) (ht : Told L' G) (hn : (L'.map (·.2)).Nodup) (hl : L'.length ≤ 64) :
    InS W0 A' c' ad' L' v4' v5 v6 v7 G H ((wr.setCell ⟨W0.heap.size, 0, none⟩ (.slice A' L'.length c')).setCell ⟨W0.heap.size, 1, none⟩ (.int .i64 ad')) := by
  have hb := over2 (u0 := .slice A' L'.length c') (u1 := .int .i64 ad') h.box
  have hk1 : Kept SD W0.heap.size wr (wr.setCell ⟨W0.heap.size, 0, none⟩ (.slice A' L'.length c')) := (Kept.refl SD W0.heap.size wr).setCell (p := ⟨W0.heap.size, 0, none⟩) (Nat.le_refl _) ⟨_, _, _, h.box, .inl rfl⟩ _
  have hx : ∃ cs t f, (wr.setCell ⟨W0.heap.size, 0, none⟩ (.slice A' L'.length c')).heap[W0.heap.size]? = some (.cells cs t f) ∧ SD t := by
    refine ⟨#[.slice A' L'.length c', .int .i64 ad], 54, (0, 0), ?_, .inl rfl⟩
    simp [World.setCell, Array.getElem?_modify, h.box]
  have hk := hk1.setCell (p := ⟨W0.heap.size, 1, none⟩) (Nat.le_refl _) hx (.int .i64 ad')
  have ow : ∀ {E : TypeId} {size n : Nat} {v : Value} {xs : List Value}, wr.ownsRow (W0.heap.size + 1) E size v n xs → ((wr.setCell ⟨W0.heap.size, 0, none⟩ (.slice A' L'.length c')).setCell ⟨W0.heap.size, 1, none⟩ (.int .i64 ad')).ownsRow (W0.heap.size + 1) E size v n xs := fun hh =>
    own_setCell (p := ⟨W0.heap.size, 1, none⟩) (own_setCell (p := ⟨W0.heap.size, 0, none⟩) hh (fun e => by have : W0.heap.size + 1 ≤ W0.heap.size := (World.ownsRow.lt hh _ e).1; omega) _) (fun e => by have : W0.heap.size + 1 ≤ W0.heap.size := (World.ownsRow.lt hh _ e).1; omega) _
  exact ⟨hb, hs.keep fun _ hb => hb.keep hk, ow hi, ow h.brs, ow h.was, ow h.had, fun x hx => (h.hist x hx).keep hk, ht, hn, hl, (h.below.setCell (p := ⟨W0.heap.size, 0, none⟩) (Nat.le_refl _) _).setCell (p := ⟨W0.heap.size, 1, none⟩) (Nat.le_refl _) _⟩
theorem InS.six {wa w6 : World} (h : InS W0 A c ad L v4 v5 v6 v7 G H wr) (hba : Below wr.heap.size wr wa) (hg6 : wa.grownBy w6 v6.ownBlock) : Kept (· = 54) (W0.heap.size + 1) wa w6 :=
  (Kept.refl _ _ wa).grown hg6 (h.later hba).was (Nat.le_refl _) rfl
theorem InS.had6 {wa w6 wb : World} (h : InS W0 A c ad L v4 v5 v6 v7 G H wr) (hba : Below wr.heap.size wr wa) (hg6 : wa.grownBy w6 v6.ownBlock) (hbb : Below w6.heap.size w6 wb) : wb.ownsRow (W0.heap.size + 1) 55 1 v7 H.length (H.map hdC) :=
  ownL ((h.six hba hg6).own (h.later hba).had (by decide)) hbb
theorem InS.noted {wa w6 wb w7 : World} {v6' v7' : Value} {Ai : Option Addr} {ci : Nat} (h : InS W0 A c ad L (.slice Ai L.length ci) v5 v6 v7 G H wr) (hba : Below wr.heap.size wr wa) (hg6 : wa.grownBy w6 v6.ownBlock) (hbb : Below w6.heap.size w6 wb)
    (ho6 : w6.ownsRow (W0.heap.size + 1) 54 2 v6' (H.length + 1) (H.flatMap stC ++ [.slice A L.length c, .int .i64 ad])) (ho7 : w7.ownsRow (W0.heap.size + 1) 55 1 v7' (H.length + 1) (H.map hdC ++ [.slice Ai L.length ci])) (hg7 : wb.grownBy w7 v7.ownBlock) :
    InS W0 A c ad L (.slice Ai L.length ci) v5 v6' v7' G (H ++ [⟨A, c, ad, L, Ai, ci⟩]) w7 := by
  have ha := h.later hba
  have k6 := h.six hba hg6
  have k7 : Kept (· = 55) (W0.heap.size + 1) wb w7 := (Kept.refl _ _ wb).grown hg7 (h.had6 hba hg6 hbb) (Nat.le_refl _) rfl
  have hk : Kept SD (W0.heap.size + 1) wa w7 := ((widen (fun T e => .inl e) k6).trans (Kept.of_below hbb SD _)).trans (widen (fun T e => .inr (.inr e)) k7)
  have ow : ∀ {E : TypeId} {size n : Nat} {v : Value} {xs : List Value}, E ≠ 54 → E ≠ 55 → wa.ownsRow (W0.heap.size + 1) E size v n xs → w7.ownsRow (W0.heap.size + 1) E size v n xs := fun n1 n2 hh => k7.own (ownL (k6.own hh n1) hbb) n2
  have hsz : W0.heap.size + 1 ≤ wa.heap.size := lt_of_some ha.box
  refine ⟨(hk.block _ (lt_of_some ha.box) (.inl (Nat.lt_succ_self _))).trans ha.box, ha.slc.keep fun _ hb => hb.keep hk, ow (by decide) (by decide) ha.ids, ow (by decide) (by decide) ha.brs, ?_, ?_, fun x hx => ?_, ha.told, ha.nodup, ha.len, ha.below.trans ((hk.below hsz).mono (Nat.le_succ _))⟩
  · have := k7.own (ownL ho6 hbb) (by decide)
    simpa [stC] using this
  · simpa [hdC] using ho7
  · rcases List.mem_append.1 hx with hx | hx
    · exact (ha.hist x hx).keep hk
    · obtain rfl : x = _ := List.mem_singleton.1 hx
      exact HOk.keep ⟨ha.slc.rows, own_nums ha.ids, ha.told, ha.len⟩ hk
theorem InS.act {wa w6 wb w7 : World} {b : Nat} {cs : Array Value} (h : InS W0 A c ad L v4 v5 v6 v7 G H wr) (hk : wr.heap[b]? = some (.cells cs 60 (0, 0))) (hba : Below wr.heap.size wr wa) (hg6 : wa.grownBy w6 v6.ownBlock) (hbb : Below w6.heap.size w6 wb) (hg7 : wb.grownBy w7 v7.ownBlock) : w7.heap[b]? = some (.cells cs 60 (0, 0)) := by
  have k6 := h.six hba hg6
  have k7 : Kept (· = 55) (W0.heap.size + 1) wb w7 := (Kept.refl _ _ wb).grown hg7 (h.had6 hba hg6 hbb) (Nat.le_refl _) rfl
  have h1 := k6.blk ((hba.block _ (lt_of_some hk)).trans hk) (by decide)
  exact k7.blk ((hbb.block _ (lt_of_some h1)).trans h1) (by decide)
/-- A branch more. -/
theorem InS.more {wa w5 : World} {v5' : Value} {g : Nat} (h : InS W0 A c ad L v4 v5 v6 v7 G H wr) (hba : Below wr.heap.size wr wa) (ho : w5.ownsRow (W0.heap.size + 1) 39 1 v5' (G.length + 1) (G.map ptrC ++ [ptrC g])) (hg : wa.grownBy w5 v5.ownBlock) :
    InS W0 A c ad L v4 v5' v6 v7 (G ++ [g]) H w5 ∧ Kept (· = 39) (W0.heap.size + 1) wa w5 := by
  have ha := h.later hba
  have k5 : Kept (· = 39) (W0.heap.size + 1) wa w5 := (Kept.refl _ _ wa).grown hg ha.brs (Nat.le_refl _) rfl
  have hk : Kept SD (W0.heap.size + 1) wa w5 := widen (fun T e => .inr (.inl e)) k5
  have hsz : W0.heap.size + 1 ≤ wa.heap.size := lt_of_some ha.box
  refine ⟨⟨(hk.block _ (lt_of_some ha.box) (.inl (Nat.lt_succ_self _))).trans ha.box, ha.slc.keep fun _ hb => hb.keep hk, k5.own ha.ids (by decide), by simpa using ho, k5.own ha.was (by decide), k5.own ha.had (by decide), fun x hx => ?_, ha.told.more g, ha.nodup, ha.len, ha.below.trans ((hk.below hsz).mono (Nat.le_succ _))⟩, k5⟩
  have := (ha.hist x hx).keep hk
  exact ⟨this.rows, this.nums, this.told.more g, this.len⟩
end
theorem InS.start (W0 W1 : World) (hW : W1 = W0.alloc (.cells #[.slice none 0 0, .int .i64 0] 54)) : InS W0 none 0 0 [] (.slice none 0 0) (.slice none 0 0) (.slice none 0 0) (.slice none 0 0) [] [] W1 := by
  subst hW
  exact ⟨heap_alloc_new W0 _, ⟨fun i x hx => by simp at hx, Nat.le_refl _, by unfold maxLen; omega, fun _ => ⟨rfl, rfl⟩⟩, World.ownsRow_nil _ _ _ _, World.ownsRow_nil _ _ _ _, World.ownsRow_nil _ _ _ _, World.ownsRow_nil _ _ _ _, fun h hh => by simp at hh, fun x hx => by simp at hx, by simp, by simp, (Below.refl _ _).alloc (Nat.le_refl _) _⟩
/-- A row of one. -/
theorem own_one (w : World) (v : Value) (E : TypeId) (B : Nat) (hB : B ≤ w.heap.size) : (w.alloc (.cells #[v] E)).ownsRow B E 1 (.slice (some ⟨w.heap.size, 0, none⟩) 1 1) 1 [v] :=
  ⟨rfl, .inr ⟨w.heap.size, 1, #[v], rfl, hB, heap_alloc_new w _, Nat.le_refl _, by decide, rfl, rfl⟩⟩
/-- What is left without a number. -/
def left (L : List (Nat × Int)) (id : Int) : List (Nat × Int) := L.filter fun x => x.2 != id
theorem left_next {L : List (Nat × Int)} {k : Nat} {x : Nat × Int} (id : Int) (hx : L[k]? = some x) : left (L.take (k + 1)) id = left (L.take k) id ++ (if (x.2 != id) = true then [x] else []) := by
  obtain ⟨hk, rfl⟩ := List.getElem?_eq_some_iff.1 hx
  unfold left
  rw [List.take_succ_eq_append_getElem hk, List.filter_append]
  congr 1
  simp only [List.filter_cons, List.filter_nil]
theorem left_all {L : List (Nat × Int)} {id : Int} (h : ∀ x ∈ L, x.2 ≠ id) : left L id = L := by
  unfold left
  rw [List.filter_eq_self]
  intro x hx
  simpa using h x hx
theorem left_one {L : List (Nat × Int)} {id : Int} {i : Nat} {x : Nat × Int} (hn : (L.map (·.2)).Nodup) (hx : L[i]? = some x) (hid : x.2 = id) : left L id = L.take i ++ L.drop (i + 1) ∧ (L.take i ++ L.drop (i + 1)).length < L.length := by
  obtain ⟨hk, rfl⟩ := List.getElem?_eq_some_iff.1 hx
  have hsplit : L = L.take i ++ L[i] :: L.drop (i + 1) := by rw [← List.drop_eq_getElem_cons hk, List.take_append_drop]
  have hn' := hn
  rw [hsplit, List.map_append, List.map_cons] at hn'
  have hn2 := List.nodup_append.1 hn'
  have h1 : ∀ y ∈ L.take i, y.2 ≠ id := fun y hy e => hn2.2.2 y.2 (List.mem_map_of_mem hy) L[i].2 (List.mem_cons_self ..) (e.trans hid.symm)
  have h2 : ∀ y ∈ L.drop (i + 1), y.2 ≠ id := fun y hy e => by
    have := (List.nodup_cons.1 hn2.2.1).1
    exact this (by rw [hid, ← e]; exact List.mem_map_of_mem hy)
  refine ⟨?_, ?_⟩
  · conv => lhs; rw [hsplit]
    unfold left
    rw [List.filter_append, List.filter_cons]
    have e1 := left_all h1
    have e2 := left_all h2
    unfold left at e1 e2
    rw [e1, e2]
    simp [hid]
  · rw [List.length_append, List.length_take, List.length_drop]
    omega
theorem Told.sub {L L' : List (Nat × Int)} {G : List Nat} (h : Told L G) (hs : ∀ x ∈ L', x ∈ L) : Told L' G := fun x hx => h x (hs x hx)
theorem left_mem {L : List (Nat × Int)} {id : Int} : ∀ x ∈ left L id, x ∈ L := fun _ hx => (List.mem_filter.1 hx).1
theorem left_nodup {L : List (Nat × Int)} {id : Int} (h : (L.map (·.2)).Nodup) : ((left L id).map (·.2)).Nodup := by
  unfold left
  exact List.Sublist.nodup (List.Sublist.map _ List.filter_sublist) h
theorem nodup_more {L : List (Nat × Int)} {G : List Nat} {g : Nat} (h : (L.map (·.2)).Nodup) (ht : Told L G) : (((g, (G.length : Int)) :: L).map (·.2)).Nodup := by
  rw [List.map_cons, List.nodup_cons]
  refine ⟨fun hm => ?_, h⟩
  obtain ⟨x, hx, e⟩ := List.mem_map.1 hm
  obtain ⟨j, h1, h2⟩ := ht x hx
  have := (List.getElem?_eq_some_iff.1 h2).1
  have e' : x.2 = (G.length : Int) := e
  omega
theorem told_more {L : List (Nat × Int)} {G : List Nat} {g : Nat} (ht : Told L G) : Told ((g, (G.length : Int)) :: L) (G ++ [g]) := fun x hx => by
  rcases List.mem_cons.1 hx with rfl | hx
  · exact ⟨G.length, rfl, by simp⟩
  · exact ht.more g x hx
end Go.Proofs.YtniklphdnakehaaDoor.stk
