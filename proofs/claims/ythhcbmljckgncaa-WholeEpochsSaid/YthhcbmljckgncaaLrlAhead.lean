/- A pair comes to the front. Condition: the cache lies in memory. -/
import Derived.Test.YthhcbmljckgncaaLrlAt
import Derived.BigRegion
import Derived.ChangeAlike
namespace Go.Proofs.Ythhcbmljckgncaa.lrl
set_option maxRecDepth 100000
open Go.RowKit Go.Proofs.Ythhcbmljckgncaa.words Go.Proofs.Ythhcbmljckgncaa.lru

def Done (Q : World → Prop) (e : Ending) (w' : World) : Prop := (∃ u, e = .returned u) ∧ Q w'
theorem infoPair : (Try.prog.info? 136).map (·.size) = some 3 := by kernel_rfl
theorem storeRow {w : World} {b : Nat} {cur : Array Value} {t : TypeId} (h : w.heap[b]? = some (.cells cur t (0, 0))) (j : Nat) (u : Value) : (w.setCell ⟨b, j, none⟩ u).heap[b]? = some (.cells (cur.setIfInBounds j u) t (0, 0)) := heap_setCell_same w b j cur t u h
/-- The world behind the copy and the stores. -/
theorem front_left {w W3 : World} {B g i r : Nat} {bo : Option Nat} {L : List (ByteArray × Lst)} {b c : Nat} {cur : Array Value} (p : ByteArray × Lst) (h : Lru w B g bo r L) (hi : i < L.length) (hbo : bo = some b) (hW : Tn (Its g bo) w W3)
    (hg : W3.heap[g]? = some (.cells #[.int .i64 (r : Int), .slice (some ⟨b, 0, none⟩) L.length c] 129 (0, 0))) (hb3 : W3.heap[b]? = some (.cells (cur.toList.take 3 ++ (L.take i).flatMap pC ++ cur.toList.drop (3 + ((L.take i).flatMap pC).length)).toArray 136 (0, 0))) (hBb : B ≤ b) (h1 : L.length ≤ c) (h2 : c ≤ maxLen) (h3 : cur.size = c * 3) (h4 : cur.toList.take (L.length * 3) = L.flatMap pC) :
    Lru (((W3.setCell ⟨b, 0, none⟩ (.string p.1)).setCell ⟨b, 1, none⟩ (.int .i64 p.2.ep)).setCell ⟨b, 2, none⟩ (.slice p.2.a p.2.n p.2.c)) B g bo r (p :: (L.take i ++ L.drop (i + 1))) ∧ Tn (Its g bo) w (((W3.setCell ⟨b, 0, none⟩ (.string p.1)).setCell ⟨b, 1, none⟩ (.int .i64 p.2.ep)).setCell ⟨b, 2, none⟩ (.slice p.2.a p.2.n p.2.c)) := by
  have hlt := h.lt
  have hbg : b ≠ g := (hlt.2.2 b hbo).2.2
  have hIb : Its g bo b := .inr hbo.symm
  have hll : (L.take i).length = i := by rw [List.length_take]; omega
  have hfl : ((L.take i).flatMap pC).length = i * 3 := by rw [pC_len, hll]
  have hcl : cur.toList.length = c * 3 := by simpa using h3
  refine ⟨⟨hlt.1, .slice (some ⟨b, 0, none⟩) L.length c, by rw [hbo]; rfl, ?_, ?_⟩, ?_⟩
  · rw [Below.heap_setCell _ _ _ _ hbg.symm, Below.heap_setCell _ _ _ _ hbg.symm, Below.heap_setCell _ _ _ _ hbg.symm]
    exact hg
  · have hL : (p :: (L.take i ++ L.drop (i + 1))).length = L.length := by simp; omega
    rw [hL]
    have hs := (storeRow (storeRow (storeRow hb3 0 (.string p.1)) 1 (.int .i64 p.2.ep)) 2 (.slice p.2.a p.2.n p.2.c))
    refine ⟨by rw [pC_len, hL], .inr ⟨b, c, _, rfl, hBb, hs, h1, h2, ?_, ?_⟩⟩
    · simp only [Array.size_setIfInBounds, List.size_toArray, List.length_append, List.length_take, List.length_drop]
      rw [hfl, hcl]
      omega
    · rw [Array.toList_setIfInBounds, Array.toList_setIfInBounds, Array.toList_setIfInBounds]
      exact front_cells p hi h4
  · exact (((hW.setCell (p := ⟨b, 0, none⟩) (.inr hIb) _).setCell (p := ⟨b, 1, none⟩) (.inr hIb) _).setCell (p := ⟨b, 2, none⟩) (.inr hIb) _)
def Front (w : World) (B g i r : Nat) (bo : Option Nat) (L : List (ByteArray × Lst)) (p : ByteArray × Lst) (w' : World) : Prop := Lru w' B g bo r (p :: (L.take i ++ L.drop (i + 1))) ∧ Tn (Its g bo) w w'
set_option maxHeartbeats 3200000 in
theorem ahead_any (B g i : Nat) (bo : Option Nat) (r : Nat) (L : List (ByteArray × Lst)) (p : ByteArray × Lst) (w : World) (h : Lru w B g bo r L) (hi : i < L.length) (hl : L.length ≤ 1000) :
    Calls Try.prog 69 #[.pointer (some ⟨g, 0, none⟩), .int .i64 (i : Int), .agg #[.string p.1, .int .i64 p.2.ep, .slice p.2.a p.2.n p.2.c]] w (Done (Front w B g i r bo L p)) := by
  obtain ⟨b, c, cur, hbo, hg, hb, hBb, h1, h2, h3, h4⟩ := h.row (by omega)
  have hbg : b ≠ g := (h.lt.2.2 b hbo).2.2
  obtain ⟨W1, hW1⟩ : ∃ W1, W1 = w.alloc (.cells #[.string p.1, .int .i64 p.2.ep, .slice p.2.a p.2.n p.2.c] 136) := ⟨_, rfl⟩
  have hb1 : Below w.heap.size w W1 := by rw [hW1]; exact (Below.refl _ _).alloc (Nat.le_refl _) _
  have hT := Tn.of_below hb1 (fun _ => False)
  have hpk : W1.heap[w.heap.size]? = some (.cells #[.string p.1, .int .i64 p.2.ep, .slice p.2.a p.2.n p.2.c] 136 (0, 0)) := by rw [hW1]; exact heap_alloc_new w _
  have hgk := (hb1.block _ (lt_of_some hg)).trans hg
  have hbk := (hb1.block _ (lt_of_some hb)).trans hb
  have cg : W1.cell? ⟨g, 1, none⟩ = some (.slice (some ⟨b, 0, none⟩) L.length c) := cell_of_blk hgk 1
  obtain ⟨D, hD⟩ : ∃ D : Option Addr, D = if c = 1 then some ⟨b, 0, none⟩ else (some ⟨b, 0, none⟩ : Option Addr).map (·.add (1 * 3)) := ⟨_, rfl⟩
  have hi1 : IntKind.i64.wrap ((i : Int) + 1) = (i : Int) + 1 := IntWalk.i64_in _ (by omega)
  unfold maxLen at h2
  have hsl : ∀ W : World, (Instr.slice 127 (.slice (some ⟨b, 0, none⟩) L.length c) (some (.int .i64 1)) (some (.int .i64 ((i : Int) + 1))) none).run Try.prog W = .ok (.slice D i (c - 1)) W := fun W => by
    have he : Try.prog.elem 127 = 136 := by kernel_rfl
    rw [run_slice_lh (P := Try.prog) W 127 _ _ _ (by kernel_rfl) .i64 .i64 1 ((i : Int) + 1) (by omega) (by omega) (by omega), he, hD]
    rcases hq : Try.prog.info? 136 with _ | y
    · have := infoPair; rw [hq] at this; cases this
    · have hy : y.size = 3 := by have := infoPair; rw [hq] at this; simpa using this
      simp [sizeOf, typeInfo, hq, hy, Result.andThen, sliced]
  obtain ⟨X, hX⟩ : ∃ X, X = (L.take i).flatMap pC := ⟨_, rfl⟩
  have hXl : X.length = i * 3 := by rw [hX, pC_len, List.length_take]; congr 1; omega
  obtain ⟨W2, hW2⟩ : ∃ W2, W2 = W1.drew.setRow b (cur.toList.take 3 ++ X ++ cur.toList.drop (3 + X.length)).toArray := ⟨_, rfl⟩
  have hcl : cur.toList.length = c * 3 := by simpa using h3
  have hpos : 0 < i → D = some ⟨b, 3, none⟩ ∧ ∃ a, (some ⟨b, 0, none⟩ : Option Addr) = some a ∧ ∀ j v, X[j]? = some v → W1.cell? (a.add j) = some v := fun h0 => by
    refine ⟨?_, _, rfl, fun j v hj => ?_⟩
    · rw [hD, if_neg (by omega), Option.map_some]
      congr 1
    · have hjl : j < X.length := (List.getElem?_eq_some_iff.1 hj).1
      rw [show (⟨b, 0, none⟩ : Addr).add j = ⟨b, j, none⟩ by unfold Addr.add; split <;> simp_all, cell_of_blk hbk, ← Array.getElem?_toList]
      rw [hX, ← pC_take, ← h4, List.getElem?_take, List.getElem?_take] at hj
      split at hj
      · split at hj
        · exact hj
        · cases hj
      · cases hj
  have hfit : 3 + X.length ≤ cur.size := by rw [hXl]; omega
  have hone : ∀ v ∈ X, v.oneCell' = true := fun v hv => pCs_one _ v (by rw [hX] at hv; exact hv)
  have hmin : i = Nat.min i i := by simp
  have hg2 : W2.heap[g]? = W1.heap[g]? := by rw [hW2, setRow_other _ _ _ _ hbg.symm]; rfl
  have cg2 : W2.cell? ⟨g, 1, none⟩ = some (.slice (some ⟨b, 0, none⟩) L.length c) := cell_of_blk (hg2.trans hgk) 1
  have hbk2 : W2.heap[b]? = some (.cells (cur.toList.take 3 ++ X ++ cur.toList.drop (3 + X.length)).toArray 136 (0, 0)) := by rw [hW2]; exact setRow_heap W1.drew b cur _ _ _ hbk
  have hpb : w.heap.size ≠ b := Nat.ne_of_gt (h.lt.2.2 b hbo).2.1
  have hpk2 : W2.heap[w.heap.size]? = some (.cells #[.string p.1, .int .i64 p.2.ep, .slice p.2.a p.2.n p.2.c] 136 (0, 0)) := by rw [hW2, setRow_other _ _ _ _ hpb]; exact hpk
  have p0 : W2.cell? ⟨w.heap.size, 0, none⟩ = some (.string p.1) := cell_of_blk hpk2 0
  have p1 : W2.cell? ⟨w.heap.size, 1, none⟩ = some (.int .i64 p.2.ep) := cell_of_blk hpk2 1
  have p2 : W2.cell? ⟨w.heap.size, 2, none⟩ = some (.slice p.2.a p.2.n p.2.c) := cell_of_blk hpk2 2
  have hlen2 : 3 ≤ (cur.toList.take 3 ++ X ++ cur.toList.drop (3 + X.length)).length := by simp; omega
  obtain ⟨v0, d0⟩ : ∃ v, W2.cell? ⟨b, 0, none⟩ = some v := ⟨_, (cell_of_blk hbk2 0).trans (Array.getElem?_eq_getElem (by rw [List.size_toArray]; omega))⟩
  obtain ⟨v1, d1⟩ : ∃ v, W2.cell? ⟨b, 1, none⟩ = some v := ⟨_, (cell_of_blk hbk2 1).trans (Array.getElem?_eq_getElem (by rw [List.size_toArray]; omega))⟩
  obtain ⟨v2, d2⟩ : ∃ v, W2.cell? ⟨b, 2, none⟩ = some v := ⟨_, (cell_of_blk hbk2 2).trans (Array.getElem?_eq_getElem (by rw [List.size_toArray]; omega))⟩
  have f0 : W2.frozen? ⟨b, 0, none⟩ = false := free_of_blk hbk2 0
  have f1 : W2.frozen? ⟨b, 1, none⟩ = false := free_of_blk hbk2 1
  have f2 : W2.frozen? ⟨b, 2, none⟩ = false := free_of_blk hbk2 2
  have hTW : Tn (Its g bo) w W2 := by
    rw [hW2]
    exact (hT.drew.mono fun _ hc => hc.elim).setRow (.inr (.inr hbo.symm)) _
  have hE := front_left (W3 := W2) p h hi hbo hTW (hg2.trans hgk) (by rw [hX] at hbk2; exact hbk2) hBb h1 (by unfold maxLen; omega) h3 h4
  have i0 : (0 : Int) ≤ (i : Int) := by omega
  have i1 : (i : Int) ≤ (c : Int) := by omega
  have i2 : (0 : Int) < (L.length : Int) := by omega
  have i3 : 0 < L.length := by omega
  have HE := Lib.hid hE
  have HW1 := Lib.hid hW1
  have HW2 := Lib.hid hW2
  have HXl := Lib.hid hXl
  have HBK := Lib.hid hbk
  have HPOS := Lib.hid hpos
  have HMIN := Lib.hid hmin
  have HONE := Lib.hid hone
  have HFIT := Lib.hid hfit
  clear hE hTW hW1 hW2 hXl hbk hpos hmin hone hfit hX hD hg hb hg2 hbk2 hpk hpk2 hgk hcl h3 h4 hlen2 hT hb1 h hbo hpb
  go_enter Try.func69, Try.ntmps69
  go_upto_region 1 with fail
  rw [← HW1.out]
  go_region_law (refine step_copy_rows _ rfl (.tmp 12) (.tmp 18) 127 127 rfl 136 i 3 D (some ⟨b, 0, none⟩) i (c - 1) i c Try.underlying127 infoPair HMIN.out rfl rfl b 3 cur 136 (by first | exact HBK.out) X HXl.out HPOS.out HFIT.out HONE.out ?_; rw [← HW2.out])
  all_goals
    go_wp2_with fail
    go_region
  all_goals
    go_end0
    exact ⟨⟨_, rfl⟩, HE.out.1.drewn, HE.out.2.drew⟩
end Go.Proofs.Ythhcbmljckgncaa.lrl
