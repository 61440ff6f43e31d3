/- What a head's 'ahead' answers, and the heads' Len and Less: which one comes first. Condition: the heads lie in memory. -/
import Derived.Test.YtnokmhoaaancgaaGreatDoorJW2
import Derived.Deep.Cut
namespace Go.Proofs.YtnokmhoaaancgaaGreatDoor.heap
set_option maxRecDepth 100000
open Go.RowKit Go.Proofs.YtnokmhoaaancgaaGreatDoor.words

def hdV (h : Hd) : Value := .agg #[.string h.s, .int .i64 (h.r : Int), .slice h.A h.t.length h.c]
set_option maxHeartbeats 1600000 in
theorem ahead_any (a b : Hd) (w : World) : Calls Tryz.prog 115 #[hdV a, hdV b] w fun e w' => e = .returned (.bool (ltHB a b)) ∧ Below w.heap.size w w' := by
  obtain ⟨Wa, hWa⟩ : ∃ Wa, Wa = w.alloc (.cells #[.string a.s, .int .i64 (a.r : Int), .slice a.A a.t.length a.c] 178) := ⟨_, rfl⟩
  obtain ⟨W1, hW1⟩ : ∃ W1, W1 = Wa.alloc (.cells #[.string b.s, .int .i64 (b.r : Int), .slice b.A b.t.length b.c] 178) := ⟨_, rfl⟩
  have hz : Wa.heap.size = w.heap.size + 1 := by rw [hWa]; simp
  have hz1 : W1.heap.size = w.heap.size + 2 := by rw [hW1]; simp [hz]
  have hba : Below w.heap.size w Wa := by rw [hWa]; exact (Below.refl _ _).alloc (Nat.le_refl _) _
  have hb1 : Below w.heap.size w W1 := by rw [hW1]; exact hba.alloc hba.size _
  have ha1 : W1.heap[w.heap.size]? = some (.cells #[.string a.s, .int .i64 (a.r : Int), .slice a.A a.t.length a.c] 178 (0, 0)) := by
    rw [hW1]
    refine (Below.heap_alloc Wa _ _ (by omega)).trans ?_
    rw [hWa]
    exact heap_alloc_new w _
  have hc1 : W1.heap[w.heap.size + 1]? = some (.cells #[.string b.s, .int .i64 (b.r : Int), .slice b.A b.t.length b.c] 178 (0, 0)) := by rw [hW1, ← hz]; exact heap_alloc_new Wa _
  have a0 : W1.cell? ⟨w.heap.size, 0, none⟩ = some (.string a.s) := cell_of_blk ha1 0
  have a1 : W1.cell? ⟨w.heap.size, 1, none⟩ = some (.int .i64 (a.r : Int)) := cell_of_blk ha1 1
  have b0 : W1.cell? ⟨w.heap.size + 1, 0, none⟩ = some (.string b.s) := cell_of_blk hc1 0
  have b1 : W1.cell? ⟨w.heap.size + 1, 1, none⟩ = some (.int .i64 (b.r : Int)) := cell_of_blk hc1 1
  have HF := Lib.hid (or_less a b)
  rw [hWa] at hW1
  have HW1 := Lib.hid hW1
  have HB1 := Lib.hid hb1
  clear ha1 hc1 hba hb1 hW1 hWa hz
  unfold hdV
  go_enter Tryz.func115, Tryz.ntmps115
  go_upto_region 1 with fail
  rw [← HW1.out]
  have hor : ∀ (x y : Int) (W : World), W.heap.size = w.heap.size + 2 → Calls Tryz.prog 139 #[.slice (some ⟨w.heap.size + 2, 0, none⟩) 2 2] (W.alloc (.cells #[.int .i64 x, .int .i64 y] 3)).drew fun e w' => e = .returned (.int .i64 (orInt x y)) ∧ (W.alloc (.cells #[.int .i64 x, .int .i64 y] 3)).drew = w' := fun x y W hW => by
    have h := heap_alloc_new W (.cells #[.int .i64 x, .int .i64 y] 3)
    rw [hW] at h
    exact or_two _ _ x y _ (cell_of_blk (w := (W.alloc (.cells #[.int .i64 x, .int .i64 y] 3)).drew) h 0) (cell_of_blk (w := (W.alloc (.cells #[.int .i64 x, .int .i64 y] 3)).drew) h 1)
  have HOR := Lib.hid hor
  have HZ1 := Lib.hid hz1
  clear hor
  go_region_held3 (fun w' => w'.cell? ⟨w.heap.size, 0, none⟩ = some (.string a.s) ∧ w'.cell? ⟨w.heap.size, 1, none⟩ = some (.int .i64 (a.r : Int)) ∧ w'.cell? ⟨w.heap.size + 1, 0, none⟩ = some (.string b.s) ∧ w'.cell? ⟨w.heap.size + 1, 1, none⟩ = some (.int .i64 (b.r : Int)))
    (go_keep)
    (first | (go_at_call 140; refine (compare_text _ _ _).mono ?_; rintro e w' ⟨rfl, rfl⟩) | (go_at_call 141; refine (compare_int _ _ _).mono ?_; rintro e w' ⟨rfl, rfl⟩) | (go_at_call 139; refine (HOR.out _ _ _ HZ1.out).mono ?_; rintro e w' ⟨rfl, rfl⟩))
  have HBn : Hid (Below w.heap.size w (W1.alloc (.cells #[.int .i64 (Lib.compareBytes a.s.data.toList b.s.data.toList), .int .i64 (Lib.compareInt (a.r : Int) (b.r : Int))] 3)).drew) := Lib.hid ((HB1.out.alloc HB1.out.size _).drew)
  clear HOR a0 a1 b0 b1
  go_wp2_with fail
  go_ret
  exact ⟨ret_bool HF.out, HBn.out⟩

def fnV : Value := .func (.func 115) #[] #[]
/-- Block g has the heads K, which a block from B on holds. -/
def Heaps (w : World) (B g : Nat) (K : List Hd) : Prop :=
  B ≤ g ∧ ∃ v, w.heap[g]? = some (.cells #[v, fnV] 181 (0, 0)) ∧ w.ownsRow B 178 3 v K.length (K.flatMap hdCells)
theorem Heaps.later {w w' : World} {B g : Nat} {K : List Hd} (h : Heaps w B g K) (hb : Below w.heap.size w w') : Heaps w' B g K := by
  obtain ⟨h1, v, h2, h3⟩ := h
  refine ⟨h1, v, (hb.block _ (lt_of_some h2)).trans h2, h3.1, ?_⟩
  rcases h3.2 with h0 | ⟨g', cap, cur, hv, hbg, hh, hr⟩
  · exact .inl h0
  · exact .inr ⟨g', cap, cur, hv, hbg, (hb.block _ (lt_of_some hh)).trans hh, hr⟩
theorem Heaps.len {w : World} {B g : Nat} {K : List Hd} (h : Heaps w B g K) : ∃ A c, w.cell? ⟨g, 0, none⟩ = some (.slice A K.length c) := by
  obtain ⟨_, v, h2, h3⟩ := h
  have hc : w.cell? ⟨g, 0, none⟩ = some v := cell_of_blk h2 0
  rcases h3.2 with ⟨rfl, h0⟩ | ⟨g', cap, cur, rfl, _⟩
  · exact ⟨_, _, by rw [hc, h0]⟩
  · exact ⟨_, _, hc⟩
theorem Heaps.cells {w : World} {B g : Nat} {K : List Hd} (h : Heaps w B g K) (h0 : 0 < K.length) :
    ∃ b c, w.cell? ⟨g, 0, none⟩ = some (.slice (some ⟨b, 0, none⟩) K.length c) ∧ w.cell? ⟨g, 1, none⟩ = some fnV ∧ B ≤ b ∧ b < w.heap.size ∧ b ≠ g ∧ K.length ≤ c ∧ c ≤ maxLen ∧
      ∀ k h, K[k]? = some h → w.cell? ⟨b, k * 3, none⟩ = some (.string h.s) ∧ w.cell? ⟨b, k * 3 + 1, none⟩ = some (.int .i64 (h.r : Int)) ∧ w.cell? ⟨b, k * 3 + 2, none⟩ = some (.slice h.A h.t.length h.c) := by
  obtain ⟨_, v, h2, h3⟩ := h
  obtain ⟨x, hx⟩ : ∃ x, K[0]? = some x := ⟨_, List.getElem?_eq_getElem h0⟩
  obtain ⟨b, c, rfl, hb, hl, h4, h5, _⟩ := own_cell h3 (cells_at hx 0 (by omega))
  refine ⟨b, c, cell_of_blk h2 0, cell_of_blk h2 1, hb, hl, fun e => ?_, h4, h5, fun k y hy => ?_⟩
  · exact own_ne h3 h2 (by decide) (by rw [e]; rfl)
  · have hc : ∀ j u, (hdCells y)[j]? = some u → j < 3 → w.cell? ⟨b, k * 3 + j, none⟩ = some u := fun j u hu hj => by
      obtain ⟨b', c', e1, _, _, _, _, h6, _⟩ := own_cell h3 ((cells_at hy j hj).trans hu)
      injection e1 with e1
      injection e1 with e1
      injection e1 with e1
      subst e1
      exact h6
    exact ⟨hc 0 _ rfl (by omega), hc 1 _ rfl (by omega), hc 2 _ rfl (by omega)⟩

theorem hlen_any (B g : Nat) (K : List Hd) (w : World) (h : Heaps w B g K) : Calls Tryz.prog 117 #[.pointer (some ⟨g, 0, none⟩)] w fun e w' => e = .returned (.int .i64 (K.length : Int)) ∧ w = w' := by
  obtain ⟨A, c, hc⟩ := h.len
  clear h
  go_enter Tryz.func117, Tryz.ntmps117
  go_wp2_with fail
  go_ret
  exact ⟨rfl, rfl⟩
set_option maxHeartbeats 3200000 in
theorem hless_any (B g i j : Nat) (K : List Hd) (x y : Hd) (w : World) (h : Heaps w B g K) (hx : K[i]? = some x) (hy : K[j]? = some y) :
    Calls Tryz.prog 191 #[.pointer (some ⟨g, 0, none⟩), .int .i64 (i : Int), .int .i64 (j : Int)] w fun e w' => e = .returned (.bool (ltHB x y)) ∧ Below w.heap.size w w' := by
  have hi := (List.getElem?_eq_some_iff.1 hx).1
  have hj := (List.getElem?_eq_some_iff.1 hy).1
  obtain ⟨b, c, c0, c1, _, _, _, _, _, hc⟩ := h.cells (by omega)
  obtain ⟨x0, x1, x2⟩ := hc i x hx
  obtain ⟨y0, y1, y2⟩ := hc j y hy
  have i0 : (0 : Int) ≤ (i : Int) := by omega
  have i1 : (i : Int) < (K.length : Int) := by omega
  have j0 : (0 : Int) ≤ (j : Int) := by omega
  have j1 : (j : Int) < (K.length : Int) := by omega
  have hA : ∀ W : World, Below w.heap.size w W → Calls Tryz.prog 115 #[.agg #[.string x.s, .int .i64 (x.r : Int), .slice x.A x.t.length x.c], .agg #[.string y.s, .int .i64 (y.r : Int), .slice y.A y.t.length y.c]] W fun e w' => e = .returned (.bool (ltHB x y)) ∧ Below w.heap.size w w' := fun W hW => (ahead_any x y W).mono fun e w' ⟨h1, h2⟩ => ⟨h1, hW.trans (h2.mono hW.size)⟩
  have HA := Lib.hid hA
  have HB0 := Lib.hid (Below.refl w.heap.size w).drew
  unfold fnV at c1
  have HS : Hid (∀ w' : World, Below w.heap.size w w' → (w'.cell? ⟨g, 0, none⟩ = some (.slice (some ⟨b, 0, none⟩) K.length c) ∧ w'.cell? ⟨g, 1, none⟩ = some (.func (.func 115) #[] #[]) ∧
      w'.cell? ⟨b, i * 3, none⟩ = some (.string x.s) ∧ w'.cell? ⟨b, i * 3 + 1, none⟩ = some (.int .i64 (x.r : Int)) ∧ w'.cell? ⟨b, i * 3 + 2, none⟩ = some (.slice x.A x.t.length x.c) ∧
      w'.cell? ⟨b, j * 3, none⟩ = some (.string y.s) ∧ w'.cell? ⟨b, j * 3 + 1, none⟩ = some (.int .i64 (y.r : Int)) ∧ w'.cell? ⟨b, j * 3 + 2, none⟩ = some (.slice y.A y.t.length y.c) ∧ Below w.heap.size w w')) :=
    Lib.hid fun w' hb' => ⟨(hb'.cell (p := ⟨g, 0, none⟩) (World.block_lt_of_cell? w _ c0)).trans c0, (hb'.cell (p := ⟨g, 1, none⟩) (World.block_lt_of_cell? w _ c1)).trans c1,
      (hb'.cell (p := ⟨b, i * 3, none⟩) (World.block_lt_of_cell? w _ x0)).trans x0, (hb'.cell (p := ⟨b, i * 3 + 1, none⟩) (World.block_lt_of_cell? w _ x1)).trans x1, (hb'.cell (p := ⟨b, i * 3 + 2, none⟩) (World.block_lt_of_cell? w _ x2)).trans x2,
      (hb'.cell (p := ⟨b, j * 3, none⟩) (World.block_lt_of_cell? w _ y0)).trans y0, (hb'.cell (p := ⟨b, j * 3 + 1, none⟩) (World.block_lt_of_cell? w _ y1)).trans y1, (hb'.cell (p := ⟨b, j * 3 + 2, none⟩) (World.block_lt_of_cell? w _ y2)).trans y2, hb'⟩
  clear h hc hx hy hA
  go_enter Tryz.func191, Tryz.ntmps191
  go_wp2_with fail
  go_region_held3 (fun w' => w'.cell? ⟨g, 0, none⟩ = some (.slice (some ⟨b, 0, none⟩) K.length c) ∧ w'.cell? ⟨g, 1, none⟩ = some (.func (.func 115) #[] #[]) ∧
      w'.cell? ⟨b, i * 3, none⟩ = some (.string x.s) ∧ w'.cell? ⟨b, i * 3 + 1, none⟩ = some (.int .i64 (x.r : Int)) ∧ w'.cell? ⟨b, i * 3 + 2, none⟩ = some (.slice x.A x.t.length x.c) ∧
      w'.cell? ⟨b, j * 3, none⟩ = some (.string y.s) ∧ w'.cell? ⟨b, j * 3 + 1, none⟩ = some (.int .i64 (y.r : Int)) ∧ w'.cell? ⟨b, j * 3 + 2, none⟩ = some (.slice y.A y.t.length y.c) ∧ Below w.heap.size w w')
    (first | exact HS.out _ (by assumption) | exact HS.out _ HB0.out)
    (first | (go_at_call 115; refine (HA.out _ (by first | assumption | exact HB0.out)).mono ?_; rintro e w' ⟨rfl, hb'⟩))
  all_goals
    have HF := Lib.hid hb'
    clear hb'
    go_wp2_with fail
    go_ret
    exact ⟨rfl, HF.out⟩
end Go.Proofs.YtnokmhoaaancgaaGreatDoor.heap
