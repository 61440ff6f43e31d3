/- A pair comes to the front. Condition: the cache lies in memory. -/
import Derived.Test.YthhcbmljckgncaaLrdAt
import Derived.BigRegion
import Derived.ChangeAlike
namespace Go.Proofs.Ythhcbmljckgncaa.lrd
set_option maxRecDepth 100000
open Go.RowKit Go.Proofs.Ythhcbmljckgncaa.words Go.Proofs.Ythhcbmljckgncaa.lru

def Done (Q : World → Prop) (e : Ending) (w' : World) : Prop := (∃ u, e = .returned u) ∧ Q w'
theorem infoPair : (Try.prog.info? 131).map (·.size) = some 8 := by kernel_rfl
theorem storeRow {w : World} {b : Nat} {cur : Array Value} {t : TypeId} (h : w.heap[b]? = some (.cells cur t (0, 0))) (j : Nat) (u : Value) : (w.setCell ⟨b, j, none⟩ u).heap[b]? = some (.cells (cur.setIfInBounds j u) t (0, 0)) := heap_setCell_same w b j cur t u h
/-- The world behind the copy and the stores. -/
theorem front_left {w W3 : World} {B g i r : Nat} {bo : Option Nat} {L : List (ByteArray × Ent)} {b c : Nat} {cur : Array Value} (p : ByteArray × Ent) (h : Lru w B g bo r L) (hi : i < L.length) (hbo : bo = some b) (hW : Tn (Its g bo) w W3)
    (hg : W3.heap[g]? = some (.cells #[.int .i64 (r : Int), .slice (some ⟨b, 0, none⟩) L.length c] 125 (0, 0))) (hb3 : W3.heap[b]? = some (.cells (cur.toList.take 8 ++ (L.take i).flatMap pC ++ cur.toList.drop (8 + ((L.take i).flatMap pC).length)).toArray 131 (0, 0))) (hBb : B ≤ b) (h1 : L.length ≤ c) (h2 : c ≤ maxLen) (h3 : cur.size = c * 8) (h4 : cur.toList.take (L.length * 8) = L.flatMap pC) :
    Lru ((((((((W3.setCell ⟨b, 0, none⟩ (.string p.1)).setCell ⟨b, 1, none⟩ (.int .i64 p.2.ep)).setCell ⟨b, 2, none⟩ (.bool p.2.th)).setCell ⟨b, 3, none⟩ (.int .i64 p.2.kd)).setCell ⟨b, 4, none⟩ (.int .i64 p.2.lv)).setCell ⟨b, 5, none⟩ (.int .i64 p.2.nd)).setCell ⟨b, 6, none⟩ (.slice p.2.da p.2.dn p.2.dc)).setCell ⟨b, 7, none⟩ (.string p.2.tg)) B g bo r (p :: (L.take i ++ L.drop (i + 1))) ∧ Tn (Its g bo) w ((((((((W3.setCell ⟨b, 0, none⟩ (.string p.1)).setCell ⟨b, 1, none⟩ (.int .i64 p.2.ep)).setCell ⟨b, 2, none⟩ (.bool p.2.th)).setCell ⟨b, 3, none⟩ (.int .i64 p.2.kd)).setCell ⟨b, 4, none⟩ (.int .i64 p.2.lv)).setCell ⟨b, 5, none⟩ (.int .i64 p.2.nd)).setCell ⟨b, 6, none⟩ (.slice p.2.da p.2.dn p.2.dc)).setCell ⟨b, 7, none⟩ (.string p.2.tg)) := by
  have hlt := h.lt
  have hbg : b ≠ g := (hlt.2.2 b hbo).2.2
  have hIb : Its g bo b := .inr hbo.symm
  have hll : (L.take i).length = i := by rw [List.length_take]; omega
  have hfl : ((L.take i).flatMap pC).length = i * 8 := by rw [pC_len, hll]
  have hcl : cur.toList.length = c * 8 := by simpa using h3
  refine ⟨⟨hlt.1, .slice (some ⟨b, 0, none⟩) L.length c, by rw [hbo]; rfl, ?_, ?_⟩, ?_⟩
  · rw [Below.heap_setCell _ _ _ _ hbg.symm, Below.heap_setCell _ _ _ _ hbg.symm, Below.heap_setCell _ _ _ _ hbg.symm, Below.heap_setCell _ _ _ _ hbg.symm, Below.heap_setCell _ _ _ _ hbg.symm, Below.heap_setCell _ _ _ _ hbg.symm, Below.heap_setCell _ _ _ _ hbg.symm, Below.heap_setCell _ _ _ _ hbg.symm]
    exact hg
  · have hL : (p :: (L.take i ++ L.drop (i + 1))).length = L.length := by simp; omega
    rw [hL]
    have hs := (storeRow (storeRow (storeRow (storeRow (storeRow (storeRow (storeRow (storeRow hb3 0 (.string p.1)) 1 (.int .i64 p.2.ep)) 2 (.bool p.2.th)) 3 (.int .i64 p.2.kd)) 4 (.int .i64 p.2.lv)) 5 (.int .i64 p.2.nd)) 6 (.slice p.2.da p.2.dn p.2.dc)) 7 (.string p.2.tg))
    refine ⟨by rw [pC_len, hL], .inr ⟨b, c, _, rfl, hBb, hs, h1, h2, ?_, ?_⟩⟩
    · simp only [Array.size_setIfInBounds, List.size_toArray, List.length_append, List.length_take, List.length_drop]
      rw [hfl, hcl]
      omega
    · rw [Array.toList_setIfInBounds, Array.toList_setIfInBounds, Array.toList_setIfInBounds, Array.toList_setIfInBounds, Array.toList_setIfInBounds, Array.toList_setIfInBounds, Array.toList_setIfInBounds, Array.toList_setIfInBounds]
      exact front_cells p hi h4
  · exact ((((((((hW.setCell (p := ⟨b, 0, none⟩) (.inr hIb) _).setCell (p := ⟨b, 1, none⟩) (.inr hIb) _).setCell (p := ⟨b, 2, none⟩) (.inr hIb) _).setCell (p := ⟨b, 3, none⟩) (.inr hIb) _).setCell (p := ⟨b, 4, none⟩) (.inr hIb) _).setCell (p := ⟨b, 5, none⟩) (.inr hIb) _).setCell (p := ⟨b, 6, none⟩) (.inr hIb) _).setCell (p := ⟨b, 7, none⟩) (.inr hIb) _)
def Front (w : World) (B g i r : Nat) (bo : Option Nat) (L : List (ByteArray × Ent)) (p : ByteArray × Ent) (w' : World) : Prop := Lru w' B g bo r (p :: (L.take i ++ L.drop (i + 1))) ∧ Tn (Its g bo) w w'
set_option maxHeartbeats 3200000 in
theorem ahead_any (B g i : Nat) (bo : Option Nat) (r : Nat) (L : List (ByteArray × Ent)) (p : ByteArray × Ent) (w : World) (h : Lru w B g bo r L) (hi : i < L.length) (hl : L.length ≤ 1000) :
    Calls Try.prog 66 #[.pointer (some ⟨g, 0, none⟩), .int .i64 (i : Int), .agg #[.string p.1, .int .i64 p.2.ep, .bool p.2.th, .int .i64 p.2.kd, .int .i64 p.2.lv, .int .i64 p.2.nd, .slice p.2.da p.2.dn p.2.dc, .string p.2.tg]] w (Done (Front w B g i r bo L p)) := by
  obtain ⟨b, c, cur, hbo, hg, hb, hBb, h1, h2, h3, h4⟩ := h.row (by omega)
  have hbg : b ≠ g := (h.lt.2.2 b hbo).2.2
  obtain ⟨W1, hW1⟩ : ∃ W1, W1 = w.alloc (.cells #[.string p.1, .int .i64 p.2.ep, .bool p.2.th, .int .i64 p.2.kd, .int .i64 p.2.lv, .int .i64 p.2.nd, .slice p.2.da p.2.dn p.2.dc, .string p.2.tg] 131) := ⟨_, rfl⟩
  have hb1 : Below w.heap.size w W1 := by rw [hW1]; exact (Below.refl _ _).alloc (Nat.le_refl _) _
  have hT := Tn.of_below hb1 (fun _ => False)
  have hpk : W1.heap[w.heap.size]? = some (.cells #[.string p.1, .int .i64 p.2.ep, .bool p.2.th, .int .i64 p.2.kd, .int .i64 p.2.lv, .int .i64 p.2.nd, .slice p.2.da p.2.dn p.2.dc, .string p.2.tg] 131 (0, 0)) := by rw [hW1]; exact heap_alloc_new w _
  have hgk := (hb1.block _ (lt_of_some hg)).trans hg
  have hbk := (hb1.block _ (lt_of_some hb)).trans hb
  have cg : W1.cell? ⟨g, 1, none⟩ = some (.slice (some ⟨b, 0, none⟩) L.length c) := cell_of_blk hgk 1
  obtain ⟨D, hD⟩ : ∃ D : Option Addr, D = if c = 1 then some ⟨b, 0, none⟩ else (some ⟨b, 0, none⟩ : Option Addr).map (·.add (1 * 8)) := ⟨_, rfl⟩
  have hi1 : IntKind.i64.wrap ((i : Int) + 1) = (i : Int) + 1 := IntWalk.i64_in _ (by omega)
  unfold maxLen at h2
  have hsl : ∀ W : World, (Instr.slice 123 (.slice (some ⟨b, 0, none⟩) L.length c) (some (.int .i64 1)) (some (.int .i64 ((i : Int) + 1))) none).run Try.prog W = .ok (.slice D i (c - 1)) W := fun W => by
    have he : Try.prog.elem 123 = 131 := by kernel_rfl
    rw [run_slice_lh (P := Try.prog) W 123 _ _ _ (by kernel_rfl) .i64 .i64 1 ((i : Int) + 1) (by omega) (by omega) (by omega), he, hD]
    rcases hq : Try.prog.info? 131 with _ | y
    · have := infoPair; rw [hq] at this; cases this
    · have hy : y.size = 8 := by have := infoPair; rw [hq] at this; simpa using this
      simp [sizeOf, typeInfo, hq, hy, Result.andThen, sliced]
  obtain ⟨X, hX⟩ : ∃ X, X = (L.take i).flatMap pC := ⟨_, rfl⟩
  have hXl : X.length = i * 8 := by rw [hX, pC_len, List.length_take]; congr 1; omega
  obtain ⟨W2, hW2⟩ : ∃ W2, W2 = W1.drew.setRow b (cur.toList.take 8 ++ X ++ cur.toList.drop (8 + X.length)).toArray := ⟨_, rfl⟩
  have hcl : cur.toList.length = c * 8 := by simpa using h3
  have hpos : 0 < i → D = some ⟨b, 8, none⟩ ∧ ∃ a, (some ⟨b, 0, none⟩ : Option Addr) = some a ∧ ∀ j v, X[j]? = some v → W1.cell? (a.add j) = some v := fun h0 => by
    refine ⟨?_, _, rfl, fun j v hj => ?_⟩
    · rw [hD, if_neg (by omega), Option.map_some]
      congr 1
    · have hjl : j < X.length := (List.getElem?_eq_some_iff.1 hj).1
      rw [show (⟨b, 0, none⟩ : Addr).add j = ⟨b, j, none⟩ by unfold Addr.add; split <;> simp_all, cell_of_blk hbk, ← Array.getElem?_toList]
      rw [hX, ← pC_take, ← h4, List.getElem?_take, List.getElem?_take] at hj
      split at hj
      · split at hj
        · exact hj
        · cases hj
      · cases hj
  have hfit : 8 + X.length ≤ cur.size := by rw [hXl]; omega
  have hone : ∀ v ∈ X, v.oneCell' = true := fun v hv => pCs_one _ v (by rw [hX] at hv; exact hv)
  have hmin : i = Nat.min i i := by simp
  have hg2 : W2.heap[g]? = W1.heap[g]? := by rw [hW2, setRow_other _ _ _ _ hbg.symm]; rfl
  have cg2 : W2.cell? ⟨g, 1, none⟩ = some (.slice (some ⟨b, 0, none⟩) L.length c) := cell_of_blk (hg2.trans hgk) 1
  have hbk2 : W2.heap[b]? = some (.cells (cur.toList.take 8 ++ X ++ cur.toList.drop (8 + X.length)).toArray 131 (0, 0)) := by rw [hW2]; exact setRow_heap W1.drew b cur _ _ _ hbk
  have hpb : w.heap.size ≠ b := Nat.ne_of_gt (h.lt.2.2 b hbo).2.1
  have hpk2 : W2.heap[w.heap.size]? = some (.cells #[.string p.1, .int .i64 p.2.ep, .bool p.2.th, .int .i64 p.2.kd, .int .i64 p.2.lv, .int .i64 p.2.nd, .slice p.2.da p.2.dn p.2.dc, .string p.2.tg] 131 (0, 0)) := by rw [hW2, setRow_other _ _ _ _ hpb]; exact hpk
  have p0 : W2.cell? ⟨w.heap.size, 0, none⟩ = some (.string p.1) := cell_of_blk hpk2 0
  have p1 : W2.cell? ⟨w.heap.size, 1, none⟩ = some (.int .i64 p.2.ep) := cell_of_blk hpk2 1
  have p2 : W2.cell? ⟨w.heap.size, 2, none⟩ = some (.bool p.2.th) := cell_of_blk hpk2 2
  have p3 : W2.cell? ⟨w.heap.size, 3, none⟩ = some (.int .i64 p.2.kd) := cell_of_blk hpk2 3
  have p4 : W2.cell? ⟨w.heap.size, 4, none⟩ = some (.int .i64 p.2.lv) := cell_of_blk hpk2 4
  have p5 : W2.cell? ⟨w.heap.size, 5, none⟩ = some (.int .i64 p.2.nd) := cell_of_blk hpk2 5
  have p6 : W2.cell? ⟨w.heap.size, 6, none⟩ = some (.slice p.2.da p.2.dn p.2.dc) := cell_of_blk hpk2 6
  have p7 : W2.cell? ⟨w.heap.size, 7, none⟩ = some (.string p.2.tg) := cell_of_blk hpk2 7
  have hlen2 : 8 ≤ (cur.toList.take 8 ++ X ++ cur.toList.drop (8 + X.length)).length := by simp; omega
  obtain ⟨v0, d0⟩ : ∃ v, W2.cell? ⟨b, 0, none⟩ = some v := ⟨_, (cell_of_blk hbk2 0).trans (Array.getElem?_eq_getElem (by rw [List.size_toArray]; omega))⟩
  obtain ⟨v1, d1⟩ : ∃ v, W2.cell? ⟨b, 1, none⟩ = some v := ⟨_, (cell_of_blk hbk2 1).trans (Array.getElem?_eq_getElem (by rw [List.size_toArray]; omega))⟩
  obtain ⟨v2, d2⟩ : ∃ v, W2.cell? ⟨b, 2, none⟩ = some v := ⟨_, (cell_of_blk hbk2 2).trans (Array.getElem?_eq_getElem (by rw [List.size_toArray]; omega))⟩
  obtain ⟨v3, d3⟩ : ∃ v, W2.cell? ⟨b, 3, none⟩ = some v := ⟨_, (cell_of_blk hbk2 3).trans (Array.getElem?_eq_getElem (by rw [List.size_toArray]; omega))⟩
  obtain ⟨v4, d4⟩ : ∃ v, W2.cell? ⟨b, 4, none⟩ = some v := ⟨_, (cell_of_blk hbk2 4).trans (Array.getElem?_eq_getElem (by rw [List.size_toArray]; omega))⟩
  obtain ⟨v5, d5⟩ : ∃ v, W2.cell? ⟨b, 5, none⟩ = some v := ⟨_, (cell_of_blk hbk2 5).trans (Array.getElem?_eq_getElem (by rw [List.size_toArray]; omega))⟩
  obtain ⟨v6, d6⟩ : ∃ v, W2.cell? ⟨b, 6, none⟩ = some v := ⟨_, (cell_of_blk hbk2 6).trans (Array.getElem?_eq_getElem (by rw [List.size_toArray]; omega))⟩
  obtain ⟨v7, d7⟩ : ∃ v, W2.cell? ⟨b, 7, none⟩ = some v := ⟨_, (cell_of_blk hbk2 7).trans (Array.getElem?_eq_getElem (by rw [List.size_toArray]; omega))⟩
  have f0 : W2.frozen? ⟨b, 0, none⟩ = false := free_of_blk hbk2 0
  have f1 : W2.frozen? ⟨b, 1, none⟩ = false := free_of_blk hbk2 1
  have f2 : W2.frozen? ⟨b, 2, none⟩ = false := free_of_blk hbk2 2
  have f3 : W2.frozen? ⟨b, 3, none⟩ = false := free_of_blk hbk2 3
  have f4 : W2.frozen? ⟨b, 4, none⟩ = false := free_of_blk hbk2 4
  have f5 : W2.frozen? ⟨b, 5, none⟩ = false := free_of_blk hbk2 5
  have f6 : W2.frozen? ⟨b, 6, none⟩ = false := free_of_blk hbk2 6
  have f7 : W2.frozen? ⟨b, 7, none⟩ = false := free_of_blk hbk2 7
  have hTW : Tn (Its g bo) w W2 := by
    rw [hW2]
    exact (hT.drew.mono fun _ hc => hc.elim).setRow (.inr (.inr hbo.symm)) _
  have hE := front_left (W3 := W2) p h hi hbo hTW (hg2.trans hgk) (by rw [hX] at hbk2; exact hbk2) hBb h1 (by unfold maxLen; omega) h3 h4
  have i0 : (0 : Int) ≤ (i : Int) := by omega
  have i1 : (i : Int) ≤ (c : Int) := by omega
  have i2 : (0 : Int) < (L.length : Int) := by omega
  have i3 : 0 < L.length := by omega
  have HE := Lib.hid hE
  have HW1 := Lib.hid hW1
  have HW2 := Lib.hid hW2
  have HXl := Lib.hid hXl
  have HBK := Lib.hid hbk
  have HPOS := Lib.hid hpos
  have HMIN := Lib.hid hmin
  have HONE := Lib.hid hone
  have HFIT := Lib.hid hfit
  clear hE hTW hW1 hW2 hXl hbk hpos hmin hone hfit hX hD hg hb hg2 hbk2 hpk hpk2 hgk hcl h3 h4 hlen2 hT hb1 h hbo hpb
  go_enter Try.func66, Try.ntmps66
  go_upto_region 1 with fail
  rw [← HW1.out]
  go_region_law (refine step_copy_rows _ rfl (.tmp 12) (.tmp 18) 123 123 rfl 131 i 8 D (some ⟨b, 0, none⟩) i (c - 1) i c Try.underlying123 infoPair HMIN.out rfl rfl b 8 cur 131 (by first | exact HBK.out) X HXl.out HPOS.out HFIT.out HONE.out ?_; rw [← HW2.out])
  all_goals
    go_wp2_with fail
    go_region
  all_goals
    go_end0
    exact ⟨⟨_, rfl⟩, HE.out.1.drewn, HE.out.2.drew⟩
end Go.Proofs.Ythhcbmljckgncaa.lrd
