/- The heads' Swap, Push and Pop. Condition: the heads lie in memory. -/
import Derived.Test.YtnokmhoaaancgaaGreatDoorJW4
import Derived.BigRegion
import Derived.ChangeAlike
import Derived.Deep.RegionLaw
import Derived.Deep.AppendLies
namespace Go.Proofs.YtnokmhoaaancgaaGreatDoor.heap
set_option maxRecDepth 100000
open Go.RowKit Go.Proofs.YtnokmhoaaancgaaGreatDoor.words

/-- The element types of what the heads' calls write. -/
def HS (t : TypeId) : Prop := t = 181 ∨ t = 178
def Done (Q : World → Prop) (e : Ending) (w' : World) : Prop := (∃ u, e = .returned u) ∧ Q w'

theorem cell?_setCell_some {w : World} {p q : Addr} {x v : Value} (h : w.cell? q = some v) : ∃ v', (w.setCell p x).cell? q = some v' := by
  by_cases e : p = q
  · subst e; exact ⟨x, World.cell?_setCell_same w p x h⟩
  · exact ⟨v, (World.cell?_setCell_other w p q x e).trans h⟩
theorem Heaps.drew {w : World} {B g : Nat} {K : List Hd} (h : Heaps w B g K) : Heaps w.drew B g K := h
/-- A head is stored. -/
theorem Heaps.put {w : World} {B g b c k : Nat} {K : List Hd} (h : Heaps w B g K) (hc : w.cell? ⟨g, 0, none⟩ = some (.slice (some ⟨b, 0, none⟩) K.length c)) (hbg : b ≠ g) (hk : k < K.length) (x : Hd) :
    Heaps (((w.setCell ⟨b, k * 3, none⟩ (.string x.s)).setCell ⟨b, k * 3 + 1, none⟩ (.int .i64 (x.r : Int))).setCell ⟨b, k * 3 + 2, none⟩ (.slice x.A x.t.length x.c)) B g (K.set k x) ∧
    Kept HS B w (((w.setCell ⟨b, k * 3, none⟩ (.string x.s)).setCell ⟨b, k * 3 + 1, none⟩ (.int .i64 (x.r : Int))).setCell ⟨b, k * 3 + 2, none⟩ (.slice x.A x.t.length x.c)) := by
  obtain ⟨h1, v, h2, h3⟩ := h
  have hv : v = .slice (some ⟨b, 0, none⟩) K.length c := by
    have e := (cell_of_blk h2 0).symm.trans hc
    exact Option.some.inj e
  subst hv
  have hg : ∀ (W : World) (j : Nat) (u : Value), (W.setCell ⟨b, j, none⟩ u).heap[g]? = W.heap[g]? := fun W j u => Below.heap_setCell W ⟨b, j, none⟩ u g (fun e => hbg e.symm)
  have o0 := own_store h3 (k * 3) (.string x.s)
  have o1 := own_store o0 (k * 3 + 1) (.int .i64 (x.r : Int))
  have o2 := own_store o1 (k * 3 + 2) (.slice x.A x.t.length x.c)
  rw [cells_set x hk] at o2
  have hT : ∀ {W : World} {xs : List Value}, W.ownsRow B 178 3 (.slice (some ⟨b, 0, none⟩) K.length c) K.length xs → B ≤ b ∧ ∃ cs t f, W.heap[b]? = some (.cells cs t f) ∧ HS t := fun {W} {xs} ho => by
    rcases ho.2 with ⟨h0, _⟩ | ⟨b', cap, cur, e, hB, hh, _⟩
    · injection h0 with h0
      cases h0
    · injection e with e1 _ _
      injection e1 with e1
      injection e1 with e1
      subst e1
      exact ⟨hB, _, _, _, hh, .inr rfl⟩
  refine ⟨⟨h1, _, (hg _ _ _).trans ((hg _ _ _).trans ((hg _ _ _).trans h2)), ?_⟩, ?_⟩
  · rw [List.length_set]
    exact o2
  · exact (((Kept.refl HS B w).setCell (p := ⟨b, k * 3, none⟩) (hT h3).1 (hT h3).2 _).setCell (p := ⟨b, k * 3 + 1, none⟩) (hT o0).1 (hT o0).2 _).setCell (p := ⟨b, k * 3 + 2, none⟩) (hT o1).1 (hT o1).2 _
theorem Kept.cell {S : TypeId → Prop} {B : Nat} {w w' : World} (h : Kept S B w w') {a : Addr} {v : Value} (hc : w.cell? a = some v) (hn : ∀ cs t f, w.heap[a.block]? = some (.cells cs t f) → ¬ S t) : w'.cell? a = some v :=
  (World.cell?_of_block (h.block a.block (World.block_lt_of_cell? w a hc) (.inr hn))).trans hc

theorem swap_done {w : World} {B g b c i j : Nat} {K : List Hd} {x y : Hd} (hx : K[i]? = some x) (hy : K[j]? = some y) (h : Heaps w B g K) (hc : w.cell? ⟨g, 0, none⟩ = some (.slice (some ⟨b, 0, none⟩) K.length c)) (hbg : b ≠ g) (hi : i < K.length) (hj : j < K.length) :
    Heaps ((((((w.setCell ⟨b, i * 3, none⟩ (.string y.s)).setCell ⟨b, i * 3 + 1, none⟩ (.int .i64 (y.r : Int))).setCell ⟨b, i * 3 + 2, none⟩ (.slice y.A y.t.length y.c)).setCell ⟨b, j * 3, none⟩ (.string x.s)).setCell ⟨b, j * 3 + 1, none⟩ (.int .i64 (x.r : Int))).setCell ⟨b, j * 3 + 2, none⟩ (.slice x.A x.t.length x.c)).drew B g (swapL K i j hi hj) ∧
    Kept HS B w ((((((w.setCell ⟨b, i * 3, none⟩ (.string y.s)).setCell ⟨b, i * 3 + 1, none⟩ (.int .i64 (y.r : Int))).setCell ⟨b, i * 3 + 2, none⟩ (.slice y.A y.t.length y.c)).setCell ⟨b, j * 3, none⟩ (.string x.s)).setCell ⟨b, j * 3 + 1, none⟩ (.int .i64 (x.r : Int))).setCell ⟨b, j * 3 + 2, none⟩ (.slice x.A x.t.length x.c)).drew := by
  obtain ⟨hw1, hk1⟩ := h.put hc hbg hi y
  have c0' : ∀ (W : World) (k : Nat) (u : Value), (W.setCell ⟨b, k, none⟩ u).cell? ⟨g, 0, none⟩ = W.cell? ⟨g, 0, none⟩ := fun W k u => World.cell?_of_block (Below.heap_setCell W ⟨b, k, none⟩ u g (fun e => hbg e.symm))
  obtain ⟨hw2, hk2⟩ := hw1.put (k := j) (c := c) (by rw [c0', c0', c0', List.length_set]; exact hc) hbg (by rw [List.length_set]; exact hj) x
  have hxx : K[i] = x := (List.getElem?_eq_some_iff.1 hx).2
  have hyy : K[j] = y := (List.getElem?_eq_some_iff.1 hy).2
  rw [← hxx, ← hyy] at hw2
  have hs : (K.set i K[j]).set j K[i] = swapL K i j hi hj := rfl
  have hw3 := hw2
  rw [hs] at hw3
  subst hxx hyy
  exact ⟨hw3.drew, (hk1.trans hk2).drew⟩
set_option maxHeartbeats 3200000 in
theorem hswap_any (B g i j : Nat) (K : List Hd) (w : World) (h : Heaps w B g K) (hi : i < K.length) (hj : j < K.length) :
    Calls Tryz.prog 194 #[.pointer (some ⟨g, 0, none⟩), .int .i64 (i : Int), .int .i64 (j : Int)] w (Done fun w' => Heaps w' B g (swapL K i j hi hj) ∧ Kept HS B w w') := by
  obtain ⟨x, hx⟩ : ∃ x, K[i]? = some x := ⟨_, List.getElem?_eq_getElem hi⟩
  obtain ⟨y, hy⟩ : ∃ y, K[j]? = some y := ⟨_, List.getElem?_eq_getElem hj⟩
  obtain ⟨b, c, c0, c1, _, _, hbg, _, _, hc⟩ := h.cells (by omega)
  obtain ⟨x0, x1, x2⟩ := hc i x hx
  obtain ⟨y0, y1, y2⟩ := hc j y hy
  have i0 : (0 : Int) ≤ (i : Int) := by omega
  have i1 : (i : Int) < (K.length : Int) := by omega
  have j0 : (0 : Int) ≤ (j : Int) := by omega
  have j1 : (j : Int) < (K.length : Int) := by omega
  have hfz : ∀ k, w.frozen? ⟨b, k, none⟩ = false := fun k => by
    obtain ⟨_, v, h2, h3⟩ := h
    rcases h3.2 with ⟨_, h0⟩ | ⟨b', cap, cur, rfl, _, hh, _⟩
    · omega
    · have e := (cell_of_blk h2 0).symm.trans c0
      injection e with e
      injection e with e
      injection e with e
      injection e with e
      subst e
      exact free_of_blk hh k
  have f0 := hfz (i * 3)
  have f1 := hfz (i * 3 + 1)
  have f2 := hfz (i * 3 + 2)
  have f3 := hfz (j * 3)
  have f4 := hfz (j * 3 + 1)
  have f5 := hfz (j * 3 + 2)
  have hex : ∀ (k : Nat) (W : World), (∃ v, W.cell? ⟨b, k, none⟩ = some v) → ∀ p u, ∃ v, (W.setCell p u).cell? ⟨b, k, none⟩ = some v := fun k W hv p u => by
    obtain ⟨v, hv⟩ := hv
    exact cell?_setCell_some hv
  obtain ⟨W3, hW3⟩ : ∃ W3, W3 = ((w.setCell ⟨b, i * 3, none⟩ (.string y.s)).setCell ⟨b, i * 3 + 1, none⟩ (.int .i64 (y.r : Int))).setCell ⟨b, i * 3 + 2, none⟩ (.slice y.A y.t.length y.c) := ⟨_, rfl⟩
  obtain ⟨z0, e0⟩ : ∃ v, W3.cell? ⟨b, j * 3, none⟩ = some v := by rw [hW3]; exact hex _ _ (hex _ _ (hex _ _ ⟨_, y0⟩ _ _) _ _) _ _
  obtain ⟨z1, e1⟩ : ∃ v, (W3.setCell ⟨b, j * 3, none⟩ (.string x.s)).cell? ⟨b, j * 3 + 1, none⟩ = some v := by rw [hW3]; exact hex _ _ (hex _ _ (hex _ _ (hex _ _ ⟨_, y1⟩ _ _) _ _) _ _) _ _
  obtain ⟨z2, e2⟩ : ∃ v, ((W3.setCell ⟨b, j * 3, none⟩ (.string x.s)).setCell ⟨b, j * 3 + 1, none⟩ (.int .i64 (x.r : Int))).cell? ⟨b, j * 3 + 2, none⟩ = some v := by rw [hW3]; exact hex _ _ (hex _ _ (hex _ _ (hex _ _ (hex _ _ ⟨_, y2⟩ _ _) _ _) _ _) _ _) _ _
  rw [hW3] at e0 e1 e2
  have HE := Lib.hid (swap_done hx hy h c0 hbg hi hj)
  have HW3 := Lib.hid hW3
  clear h hx hy hc c1 hfz hex hW3
  go_enter Tryz.func194, Tryz.ntmps194
  go_region
  go_end0
  exact ⟨⟨_, rfl⟩, HE.out⟩
theorem infoHd : (Tryz.prog.info? 178).map (fun i => (i.zero, i.size, i.bytes)) = some (some (.agg #[.string ⟨#[]⟩, .int .i64 0, .slice none 0 0]), 3, 48) := by kernel_rfl
theorem info_three {P : Program} {t : TypeId} {z : Option Value} {n b : Nat} (h : (P.info? t).map (fun i => (i.zero, i.size, i.bytes)) = some (z, n, b)) : ∃ i, P.info? t = some i ∧ i.zero = z ∧ i.size = n ∧ i.bytes = b := by
  rcases hi : P.info? t with _ | i
  · rw [hi] at h; cases h
  · rw [hi] at h
    injection h with h
    injection h with h1 h2
    injection h2 with h2 h3
    exact ⟨i, rfl, h1, h2, h3⟩
theorem hdCells_one (h : Hd) : ∀ u ∈ hdCells h, u.oneCell' = true := fun u hu => by
  simp only [hdCells, List.mem_cons, List.mem_nil_iff, or_false] at hu
  rcases hu with rfl | rfl | rfl <;> rfl
/-- Behind an append and its store. -/
theorem Heaps.push {w w1 : World} {B g : Nat} {K : List Hd} {v v' : Value} {x : Hd} (hB : B ≤ g) (hb : w.heap[g]? = some (.cells #[v, fnV] 181 (0, 0))) (ho : w.ownsRow B 178 3 v K.length (K.flatMap hdCells))
    (ho' : w1.ownsRow B 178 3 v' (K.length + 1) (K.flatMap hdCells ++ hdCells x)) (hg : w.grownBy w1 v.ownBlock) :
    Heaps (w1.setCell ⟨g, 0, none⟩ v') B g (K ++ [x]) ∧ Kept HS B w (w1.setCell ⟨g, 0, none⟩ v') := by
  have h1 : w1.heap[g]? = some (.cells #[v, fnV] 181 (0, 0)) := (hg.block g (lt_of_some hb) (fun e => own_ne ho hb (by decide) e.symm)).trans hb
  refine ⟨⟨hB, v', heap_setCell_same w1 g 0 _ _ v' h1, ?_⟩, ?_⟩
  · rw [List.length_append, List.flatMap_append, List.flatMap_singleton]
    exact own_setCell ho' (own_ne ho' h1 (by decide)) v'
  · exact ((Kept.refl HS B w).grown hg ho (Nat.le_refl _) (.inr rfl)).setCell hB ⟨_, _, _, h1, .inl rfl⟩ v'
theorem push_stay {w w1 : World} {B g n : Nat} {xs : List Value} {v v0 : Value} (hb : w.heap[g]? = some (.cells #[v0, fnV] 181 (0, 0))) (ho : w.ownsRow B 178 3 v n xs) (hg : w.grownBy w1 v.ownBlock) : w1.heap[g]? = some (.cells #[v0, fnV] 181 (0, 0)) :=
  (hg.block g (lt_of_some hb) (fun e => own_ne ho hb (by decide) e.symm)).trans hb
set_option maxHeartbeats 3200000 in
theorem hpush_any (B g : Nat) (K : List Hd) (x : Hd) (w : World) (h : Heaps w B g K) (hB : B ≤ w.heap.size) (hlen : K.length ≤ 100000) :
    Calls Tryz.prog 193 #[.pointer (some ⟨g, 0, none⟩), .iface 178 (hdV x)] w (Done fun w' => Heaps w' B g (K ++ [x]) ∧ Kept HS B w w') := by
  obtain ⟨i1, hi', hw0, hw1, hw2⟩ := info_three infoHd
  obtain ⟨hBg, v, hb, ho⟩ := h
  obtain ⟨A, l, c, rfl⟩ := own_slice ho
  have c0 : w.cell? ⟨g, 0, none⟩ = some (.slice A l c) := cell_of_blk hb 0
  have f0 : w.frozen? ⟨g, 0, none⟩ = false := free_of_blk hb 0
  obtain ⟨W1, hW1⟩ : ∃ W1, W1 = w.alloc (.cells #[.string x.s, .int .i64 (x.r : Int), .slice x.A x.t.length x.c] 178) := ⟨_, rfl⟩
  have hb1 : Below w.heap.size w W1 := by rw [hW1]; exact (Below.refl _ _).alloc (Nat.le_refl _) _
  have hbk1 := (hb1.block _ (lt_of_some hb)).trans hb
  have ho1 : W1.ownsRow B 178 3 (.slice A l c) K.length (K.flatMap hdCells) := (Kept.of_below hb1 (fun _ => False) B).own ho (by simp)
  have d0 : W1.cell? ⟨g, 0, none⟩ = some (.slice A l c) := cell_of_blk hbk1 0
  have hn1 : ∀ j u, (hdCells x)[j]? = some u → W1.cell? ((⟨w.heap.size, 0, none⟩ : Addr).add j) = some u := by
    rw [hW1]
    exact World.news_of_block (cs := #[.string x.s, .int .i64 (x.r : Int), .slice x.A x.t.length x.c]) (heap_alloc_new w _)
  have hz1 : W1.heap.size = w.heap.size + 1 := by rw [hW1]; simp
  have hOne := hdCells_one x
  have HW1 := Lib.hid hW1
  have HO1 := Lib.hid ho1
  have HBK := Lib.hid hbk1
  have HN := Lib.hid hn1
  have HB1 := Lib.hid hb1
  clear hW1 hb ho hbk1 ho1 hn1 hb1 
  have hcg : ∀ o : Obj, (w.alloc o).cell? ⟨g, 0, none⟩ = some (.slice A l c) := fun o => (World.cell?_of_block (Below.heap_alloc w o g (World.block_lt_of_cell? w _ c0))).trans c0
  have hta : ∀ w' : World, Sem.run Tryz.prog (Instr.typeAssert (.iface 178 (.agg #[.string x.s, .int .i64 (x.r : Int), .slice x.A x.t.length x.c])) 20 178 false) w' = .ok (.agg #[.string x.s, .int .i64 (x.r : Int), .slice x.A x.t.length x.c]) w' := fun _ => by kernel_rfl
  unfold hdV
  go_enter Tryz.func193, Tryz.ntmps193
  go_region_law (first
    | (refine step_append_lies _ (by rfl) _ _ _ (by rfl) B 178 i1 _ 3 48 Tryz.underlying179 hi' hw0 hw1 hw2 rfl (by omega) (.slice A l c) K.length (K.flatMap hdCells) (by rfl) (by first | exact HW1.out ▸ HO1.out)
          ⟨w.heap.size, 0, none⟩ 1 1 (hdCells x) (by rfl) (by rfl) (by first | exact HW1.out ▸ HN.out) hOne
          (by omega) (by simp only [maxLen]; omega) (by omega) (by simp; omega) (w.heap.size + 1) (by simp) ?_; intro gg cap w5 hown5 hgrow5 hat5 hlt5; have hg5 := push_stay (HW1.out ▸ HBK.out) (HW1.out ▸ HO1.out) hgrow5; have hc5 := cell_of_blk hg5 0; have hf5 := free_of_blk hg5 0))
  all_goals
    have hE := Heaps.push (x := x) hBg (HW1.out ▸ HBK.out) (HW1.out ▸ HO1.out) hown5 hgrow5
    have hk := ((Kept.refl HS B w).alloc (.cells #[.string x.s, .int .i64 (x.r : Int), .slice x.A x.t.length x.c] 178)).drew.trans hE.2
    have HE := Lib.hid (And.intro hE.1 hk)
    clear hE hk hown5 hgrow5
    go_end0
    exact ⟨⟨_, rfl⟩, HE.out⟩

/-- The last one is cut off. -/
theorem Heaps.pop {w : World} {B g b c : Nat} {K : List Hd} {x : Hd} (h : Heaps w B g (K ++ [x])) (hc : w.cell? ⟨g, 0, none⟩ = some (.slice (some ⟨b, 0, none⟩) (K.length + 1) c)) :
    Heaps (w.setCell ⟨g, 0, none⟩ (.slice (some ⟨b, 0, none⟩) K.length c)) B g K ∧ Kept HS B w (w.setCell ⟨g, 0, none⟩ (.slice (some ⟨b, 0, none⟩) K.length c)) := by
  obtain ⟨h1, v, h2, h3⟩ := h
  have hv : v = .slice (some ⟨b, 0, none⟩) (K.length + 1) c := Option.some.inj ((cell_of_blk h2 0).symm.trans hc)
  subst hv
  rw [List.length_append] at h3
  have h4 := own_cut h3 K.length (Nat.le_add_right _ _)
  rw [take_cells, List.take_left] at h4
  have hne : (Value.slice (some ⟨b, 0, none⟩) K.length c).ownBlock ≠ some g := fun e => own_ne h3 h2 (by decide) e
  exact ⟨⟨h1, _, heap_setCell_same w g 0 _ _ _ h2, own_setCell h4 hne _⟩, (Kept.refl HS B w).setCell (p := ⟨g, 0, none⟩) h1 ⟨_, _, _, h2, .inl rfl⟩ _⟩
def Popped (B g : Nat) (K : List Hd) (x : Hd) (w : World) (e : Ending) (w' : World) : Prop := e = .returned (.iface 178 (hdV x)) ∧ Heaps w' B g K ∧ Kept HS B w w'
set_option maxHeartbeats 3200000 in
theorem hpop_any (B g : Nat) (K : List Hd) (x : Hd) (w : World) (h : Heaps w B g (K ++ [x])) (hlen : K.length ≤ 100000) :
    Calls Tryz.prog 192 #[.pointer (some ⟨g, 0, none⟩)] w (Popped B g K x w) := by
  obtain ⟨b, c, c0, _, _, _, hbg, hlc, hcm, hc⟩ := h.cells (by simp)
  have hl : (K ++ [x]).length = K.length + 1 := by simp
  rw [hl] at c0 hlc
  obtain ⟨x0, x1, x2⟩ := hc K.length x (by simp)
  have f0 : w.frozen? ⟨g, 0, none⟩ = false := free_of_blk h.2.choose_spec.1 0
  have i0 : (0 : Int) ≤ (K.length : Int) := by omega
  have i1 : (K.length : Int) < ((K.length + 1 : Nat) : Int) := by omega
  have i2 : (K.length : Int) ≤ (c : Int) := by omega
  have i3 : IntKind.i64.wrap (((K.length + 1 : Nat) : Int) - 1) = (K.length : Int) := by rw [IntWalk.i64_in _ (by omega)]; omega
  obtain ⟨W1, hW1⟩ : ∃ W1, W1 = w.alloc (.cells #[.string x.s, .int .i64 (x.r : Int), .slice x.A x.t.length x.c] 178) := ⟨_, rfl⟩
  have hb1 : Below w.heap.size w W1 := by rw [hW1]; exact (Below.refl _ _).alloc (Nat.le_refl _) _
  have hgl := World.block_lt_of_cell? w _ c0
  have d0 : W1.cell? ⟨g, 0, none⟩ = some (.slice (some ⟨b, 0, none⟩) (K.length + 1) c) := (hb1.cell (p := ⟨g, 0, none⟩) hgl).trans c0
  have e0 : W1.frozen? ⟨g, 0, none⟩ = false := (hb1.frozen (p := ⟨g, 0, none⟩) hgl).trans f0
  obtain ⟨W2, hW2⟩ : ∃ W2, W2 = W1.setCell ⟨g, 0, none⟩ (.slice (some ⟨b, 0, none⟩) K.length c) := ⟨_, rfl⟩
  have hx2 : W2.heap[w.heap.size]? = some (.cells #[.string x.s, .int .i64 (x.r : Int), .slice x.A x.t.length x.c] 178 (0, 0)) := by
    rw [hW2, heap_setCell_other W1 ⟨g, 0, none⟩ w.heap.size _ (Nat.ne_of_gt hgl), hW1]
    exact heap_alloc_new w _
  have y0 : W2.cell? ⟨w.heap.size, 0, none⟩ = some (.string x.s) := cell_of_blk hx2 0
  have y1 : W2.cell? ⟨w.heap.size, 1, none⟩ = some (.int .i64 (x.r : Int)) := cell_of_blk hx2 1
  have y2 : W2.cell? ⟨w.heap.size, 2, none⟩ = some (.slice x.A x.t.length x.c) := cell_of_blk hx2 2
  have hE := (h.later hb1).pop d0
  rw [← hW2] at hE
  have HE := Lib.hid (And.intro hE.1 ((Kept.of_below hb1 HS B).trans hE.2))
  have HW1 := Lib.hid hW1
  have HW2 := Lib.hid hW2
  clear h hc hl hE hx2 hW1 hW2 hb1
  go_enter Tryz.func192, Tryz.ntmps192
  go_upto_region 3 with fail
  rw [← HW1.out]
  clear c0 f0 x0 x1 x2
  go_upto_region 4 with fail
  rw [← HW2.out]
  go_wp2_with fail
  go_ret
  exact ⟨rfl, HE.out⟩
end Go.Proofs.YtnokmhoaaancgaaGreatDoor.heap
