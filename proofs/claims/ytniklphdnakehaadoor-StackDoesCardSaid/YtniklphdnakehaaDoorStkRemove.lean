/- What a stack's row, At, ID and Len answer: the branch that k others are upon, and its number; nil and -1, if there is none. Condition: the rows were read. What slices.Grow, slices.Concat and slices.IndexFunc answer at a stack's rows. Condition: the rows lie in memory. What slices.Concat and slices.IndexFunc answer at a stack's rows. Condition: the rows lie in memory. What a stack's Add answers: a stack with a branch upon all others; or that there are too many. Condition: the rows lie in memory. What a stack's Remove answers: a stack without a branch; or that there is none such. Condition: the rows lie in memory. -/
import Derived.Test.YtniklphdnakehaaDoorTreSees
import Derived.Test.YtniklphdnakehaaDoorBraEntry
import Derived.Lib.AppendZeros
import Derived.Deep.RegionHeld3
namespace Go.Proofs.YtniklphdnakehaaDoor.stk
set_option maxRecDepth 100000
open Go.RowKit Go.Proofs.YtniklphdnakehaaDoor.words Go.Proofs.YtniklphdnakehaaDoor.ext Go.Proofs.YtniklphdnakehaaDoor.name Go.Proofs.YtniklphdnakehaaDoor.tre

/-- The rows of a stack: where each branch lies, and its number. -/
def Rows (w : World) (B : Nat) (A : Option Addr) (L : List (Nat × Int)) : Prop :=
  ∀ (i : Nat) (x : Nat × Int), L[i]? = some x → ∃ b off, A = some ⟨b, off, none⟩ ∧ b < B ∧ w.cell? ⟨b, off + i * 2, none⟩ = some (.pointer (some ⟨x.1, 0, none⟩)) ∧ w.cell? ⟨b, off + i * 2 + 1, none⟩ = some (.int .i64 x.2)
theorem Rows.keep {w w' : World} {B : Nat} {A : Option Addr} {L : List (Nat × Int)} (h : Rows w B A L) (hb : Below B w w') : Rows w' B A L := fun i x hx => by
  obtain ⟨b, off, h1, h2, h3, h4⟩ := h i x hx
  exact ⟨b, off, h1, h2, (hb.cell (p := ⟨b, off + i * 2, none⟩) h2).trans h3, (hb.cell (p := ⟨b, off + i * 2 + 1, none⟩) h2).trans h4⟩
theorem Rows.more {w : World} {B B' : Nat} {A : Option Addr} {L : List (Nat × Int)} (h : Rows w B A L) (hB : B ≤ B') : Rows w B' A L := fun i x hx => by
  obtain ⟨b, off, h1, h2, h3⟩ := h i x hx
  exact ⟨b, off, h1, Nat.lt_of_lt_of_le h2 hB, h3⟩
def stkV (A : Option Addr) (n c : Nat) (ad : Int) : Value := .agg #[.slice A n c, .int .i64 ad]
set_option maxHeartbeats 1600000 in
theorem row_yes (A : Option Addr) (n c k : Nat) (ad : Int) (L : List (Nat × Int)) (x : Nat × Int) (w : World) (h : Rows w w.heap.size A L) (hn : L.length = n) (hx : L[k]? = some x) :
    Calls Tryd.prog 77 #[stkV A n c ad, .int .i64 (k : Int)] w fun e w' => e = .returned (.agg #[.pointer (some ⟨x.1, 0, none⟩), .int .i64 x.2]) ∧ Below w.heap.size w w' := by
  obtain ⟨Wa, hWa⟩ : ∃ Wa, Wa = w.alloc (.cells #[.slice A n c, .int .i64 ad] 54) := ⟨_, rfl⟩
  obtain ⟨W1, hW1⟩ : ∃ W1, W1 = Wa.alloc (.cells #[.pointer none, .int .i64 0] 123) := ⟨_, rfl⟩
  have hz : Wa.heap.size = w.heap.size + 1 := by rw [hWa]; simp
  have hba : Below w.heap.size w Wa := by rw [hWa]; exact (Below.refl _ _).alloc (Nat.le_refl _) _
  have hb1 : Below w.heap.size w W1 := by rw [hW1]; exact hba.alloc hba.size _
  have hs1 : W1.heap[w.heap.size]? = some (.cells #[.slice A n c, .int .i64 ad] 54 (0, 0)) := by
    rw [hW1]
    refine (Below.heap_alloc Wa _ _ (by omega)).trans ?_
    rw [hWa]
    exact heap_alloc_new w _
  have hr1 : W1.heap[w.heap.size + 1]? = some (.cells #[.pointer none, .int .i64 0] 123 (0, 0)) := by rw [hW1, ← hz]; exact heap_alloc_new Wa _
  obtain ⟨b, off, rfl, hlt, e0, e1⟩ := (h.keep hb1) k x hx
  have hkn : k < n := by rw [← hn]; exact (List.getElem?_eq_some_iff.1 hx).1
  have g0 : ¬ (k : Int) < 0 := by omega
  have g1 : (k : Int) < (n : Int) := by omega
  have s0 : W1.cell? ⟨w.heap.size, 0, none⟩ = some (.slice (some ⟨b, off, none⟩) n c) := cell_of_blk hs1 0
  have r0 : W1.cell? ⟨w.heap.size + 1, 0, none⟩ = some (.pointer none) := cell_of_blk hr1 0
  have r1 : W1.cell? ⟨w.heap.size + 1, 1, none⟩ = some (.int .i64 0) := cell_of_blk hr1 1
  have f0 := free_of_blk hr1 0
  have f1 := free_of_blk hr1 1
  obtain ⟨W2, hW2⟩ : ∃ W2, W2 = (W1.setCell ⟨w.heap.size + 1, 0, none⟩ (.pointer (some ⟨x.1, 0, none⟩))).setCell ⟨w.heap.size + 1, 1, none⟩ (.int .i64 x.2) := ⟨_, rfl⟩
  have h20 := heap_setCell_same W1 (w.heap.size + 1) 0 _ _ (.pointer (some ⟨x.1, 0, none⟩)) hr1
  have h21 := heap_setCell_same _ (w.heap.size + 1) 1 _ _ (.int .i64 x.2) h20
  rw [← hW2] at h21
  have p0 : W2.cell? ⟨w.heap.size + 1, 0, none⟩ = some (.pointer (some ⟨x.1, 0, none⟩)) := cell_of_blk h21 0
  have p1 : W2.cell? ⟨w.heap.size + 1, 1, none⟩ = some (.int .i64 x.2) := cell_of_blk h21 1
  have hb2 : Below w.heap.size w W2 := by rw [hW2]; exact (hb1.setCell (p := ⟨w.heap.size + 1, 0, none⟩) (by show w.heap.size ≤ w.heap.size + 1; omega) _).setCell (p := ⟨w.heap.size + 1, 1, none⟩) (by show w.heap.size ≤ w.heap.size + 1; omega) _
  rw [hWa] at hW1
  have HW1 := Lib.hid hW1
  have HW2 := Lib.hid hW2
  have HB2 := Lib.hid hb2
  clear hba hb1 hs1 hr1 h20 h21 hW1 hWa hW2 hb2 hz h hx hlt hn
  unfold stkV
  go_enter Tryd.func77, Tryd.ntmps77
  go_upto_region 1 with fail
  rw [← HW1.out]
  go_wp2_with fail
  rw [← HW2.out]
  exact bodyPost_ret (v := .agg #[.pointer (some ⟨x.1, 0, none⟩), .int .i64 x.2]) (by simp [results, Tryd.results77, go_sem, p0, p1]) rfl ⟨rfl, HB2.out⟩
set_option maxHeartbeats 1600000 in
theorem row_no (A : Option Addr) (n c : Nat) (k ad : Int) (w : World) (hk : k < 0 ∨ (n : Int) ≤ k) :
    Calls Tryd.prog 77 #[stkV A n c ad, .int .i64 k] w fun e w' => e = .returned (.agg #[.pointer none, .int .i64 (-1)]) ∧ Below w.heap.size w w' := by
  obtain ⟨Wa, hWa⟩ : ∃ Wa, Wa = w.alloc (.cells #[.slice A n c, .int .i64 ad] 54) := ⟨_, rfl⟩
  obtain ⟨W1, hW1⟩ : ∃ W1, W1 = Wa.alloc (.cells #[.pointer none, .int .i64 0] 123) := ⟨_, rfl⟩
  have hz : Wa.heap.size = w.heap.size + 1 := by rw [hWa]; simp
  have hba : Below w.heap.size w Wa := by rw [hWa]; exact (Below.refl _ _).alloc (Nat.le_refl _) _
  have hb1 : Below w.heap.size w W1 := by rw [hW1]; exact hba.alloc hba.size _
  have hs1 : W1.heap[w.heap.size]? = some (.cells #[.slice A n c, .int .i64 ad] 54 (0, 0)) := by
    rw [hW1]
    refine (Below.heap_alloc Wa _ _ (by omega)).trans ?_
    rw [hWa]
    exact heap_alloc_new w _
  have hr1 : W1.heap[w.heap.size + 1]? = some (.cells #[.pointer none, .int .i64 0] 123 (0, 0)) := by rw [hW1, ← hz]; exact heap_alloc_new Wa _
  have s0 : W1.cell? ⟨w.heap.size, 0, none⟩ = some (.slice A n c) := cell_of_blk hs1 0
  have r0 : W1.cell? ⟨w.heap.size + 1, 0, none⟩ = some (.pointer none) := cell_of_blk hr1 0
  have r1 : W1.cell? ⟨w.heap.size + 1, 1, none⟩ = some (.int .i64 0) := cell_of_blk hr1 1
  have f0 := free_of_blk hr1 0
  have f1 := free_of_blk hr1 1
  obtain ⟨W2, hW2⟩ : ∃ W2, W2 = (W1.setCell ⟨w.heap.size + 1, 0, none⟩ (.pointer none)).setCell ⟨w.heap.size + 1, 1, none⟩ (.int .i64 (-1)) := ⟨_, rfl⟩
  have h20 := heap_setCell_same W1 (w.heap.size + 1) 0 _ _ (.pointer none) hr1
  have h21 := heap_setCell_same _ (w.heap.size + 1) 1 _ _ (.int .i64 (-1)) h20
  rw [← hW2] at h21
  have p0 : W2.cell? ⟨w.heap.size + 1, 0, none⟩ = some (.pointer none) := cell_of_blk h21 0
  have p1 : W2.cell? ⟨w.heap.size + 1, 1, none⟩ = some (.int .i64 (-1)) := cell_of_blk h21 1
  have hb2 : Below w.heap.size w W2 := by rw [hW2]; exact (hb1.setCell (p := ⟨w.heap.size + 1, 0, none⟩) (by show w.heap.size ≤ w.heap.size + 1; omega) _).setCell (p := ⟨w.heap.size + 1, 1, none⟩) (by show w.heap.size ≤ w.heap.size + 1; omega) _
  rw [hWa] at hW1
  have HW1 := Lib.hid hW1
  have HW2 := Lib.hid hW2
  have HB2 := Lib.hid hb2
  clear hba hb1 hs1 hr1 h20 h21 hW1 hWa hW2 hb2 hz
  unfold stkV
  by_cases h0 : k < 0
  · skip
    go_enter Tryd.func77, Tryd.ntmps77
    go_upto_region 1 with fail
    rw [← HW1.out]
    go_wp2_with fail
    rw [← HW2.out]
    exact bodyPost_ret (v := .agg #[.pointer none, .int .i64 (-1)]) (by simp [results, Tryd.results77, go_sem, p0, p1]) rfl ⟨rfl, HB2.out⟩
  · have h1 : (n : Int) ≤ k := by omega
    go_enter Tryd.func77, Tryd.ntmps77
    go_upto_region 1 with fail
    rw [← HW1.out]
    go_wp2_with fail
    rw [← HW2.out]
    exact bodyPost_ret (v := .agg #[.pointer none, .int .i64 (-1)]) (by simp [results, Tryd.results77, go_sem, p0, p1]) rfl ⟨rfl, HB2.out⟩
theorem sat_yes (A : Option Addr) (n c k : Nat) (ad : Int) (L : List (Nat × Int)) (x : Nat × Int) (w : World) (h : Rows w w.heap.size A L) (hn : L.length = n) (hx : L[k]? = some x) :
    Calls Tryd.prog 34 #[stkV A n c ad, .int .i64 (k : Int)] w fun e w' => e = .returned (.pointer (some ⟨x.1, 0, none⟩)) ∧ Below w.heap.size w w' := by
  obtain ⟨W1, hW1⟩ : ∃ W1, W1 = w.alloc (.cells #[.slice A n c, .int .i64 ad] 54) := ⟨_, rfl⟩
  have hb1 : Below w.heap.size w W1 := by rw [hW1]; exact (Below.refl _ _).alloc (Nat.le_refl _) _
  have hs1 : W1.heap[w.heap.size]? = some (.cells #[.slice A n c, .int .i64 ad] 54 (0, 0)) := by rw [hW1]; exact heap_alloc_new w _
  have s0 : W1.cell? ⟨w.heap.size, 0, none⟩ = some (.slice A n c) := cell_of_blk hs1 0
  have s1 : W1.cell? ⟨w.heap.size, 1, none⟩ = some (.int .i64 ad) := cell_of_blk hs1 1
  have HR := row_yes A n c k ad L x W1 ((h.keep hb1).more hb1.size) hn hx
  unfold stkV at HR ⊢
  have HR := Lib.hid HR
  have HW1 := Lib.hid hW1
  have HB1 := Lib.hid hb1
  clear hW1 hb1 hs1 h hx hn
  go_enter Tryd.func34, Tryd.ntmps34
  go_upto_region 1 with fail
  rw [← HW1.out]
  go_wp2_with fail
  refine HR.out.mono ?_
  rintro e w2 ⟨rfl, hb2⟩
  have HB2 := Lib.hid (HB1.out.trans (hb2.mono HB1.out.size))
  have hf : ∀ w' : World, Sem.run Tryd.prog (Instr.field 123 (.agg #[.pointer (some ⟨x.1, 0, none⟩), .int .i64 x.2]) 0) w' = .ok (.pointer (some ⟨x.1, 0, none⟩)) w' := fun _ => by kernel_rfl
  clear hb2 HR s0 s1
  go_wp2_with fail
  go_ret
  exact ⟨rfl, HB2.out⟩
theorem sat_no (A : Option Addr) (n c : Nat) (k ad : Int) (w : World) (hk : k < 0 ∨ (n : Int) ≤ k) :
    Calls Tryd.prog 34 #[stkV A n c ad, .int .i64 k] w fun e w' => e = .returned (.pointer none) ∧ Below w.heap.size w w' := by
  obtain ⟨W1, hW1⟩ : ∃ W1, W1 = w.alloc (.cells #[.slice A n c, .int .i64 ad] 54) := ⟨_, rfl⟩
  have hb1 : Below w.heap.size w W1 := by rw [hW1]; exact (Below.refl _ _).alloc (Nat.le_refl _) _
  have hs1 : W1.heap[w.heap.size]? = some (.cells #[.slice A n c, .int .i64 ad] 54 (0, 0)) := by rw [hW1]; exact heap_alloc_new w _
  have s0 : W1.cell? ⟨w.heap.size, 0, none⟩ = some (.slice A n c) := cell_of_blk hs1 0
  have s1 : W1.cell? ⟨w.heap.size, 1, none⟩ = some (.int .i64 ad) := cell_of_blk hs1 1
  have HR := row_no A n c k ad W1 hk
  unfold stkV at HR ⊢
  have HR := Lib.hid HR
  have HW1 := Lib.hid hW1
  have HB1 := Lib.hid hb1
  clear hW1 hb1 hs1 hk
  go_enter Tryd.func34, Tryd.ntmps34
  go_upto_region 1 with fail
  rw [← HW1.out]
  go_wp2_with fail
  refine HR.out.mono ?_
  rintro e w2 ⟨rfl, hb2⟩
  have HB2 := Lib.hid (HB1.out.trans (hb2.mono HB1.out.size))
  have hf : ∀ w' : World, Sem.run Tryd.prog (Instr.field 123 (.agg #[.pointer none, .int .i64 (-1)]) 0) w' = .ok (.pointer none) w' := fun _ => by kernel_rfl
  clear hb2 HR s0 s1
  go_wp2_with fail
  go_ret
  exact ⟨rfl, HB2.out⟩
theorem sid_yes (A : Option Addr) (n c k : Nat) (ad : Int) (L : List (Nat × Int)) (x : Nat × Int) (w : World) (h : Rows w w.heap.size A L) (hn : L.length = n) (hx : L[k]? = some x) :
    Calls Tryd.prog 35 #[stkV A n c ad, .int .i64 (k : Int)] w fun e w' => e = .returned (.int .i64 x.2) ∧ Below w.heap.size w w' := by
  obtain ⟨W1, hW1⟩ : ∃ W1, W1 = w.alloc (.cells #[.slice A n c, .int .i64 ad] 54) := ⟨_, rfl⟩
  have hb1 : Below w.heap.size w W1 := by rw [hW1]; exact (Below.refl _ _).alloc (Nat.le_refl _) _
  have hs1 : W1.heap[w.heap.size]? = some (.cells #[.slice A n c, .int .i64 ad] 54 (0, 0)) := by rw [hW1]; exact heap_alloc_new w _
  have s0 : W1.cell? ⟨w.heap.size, 0, none⟩ = some (.slice A n c) := cell_of_blk hs1 0
  have s1 : W1.cell? ⟨w.heap.size, 1, none⟩ = some (.int .i64 ad) := cell_of_blk hs1 1
  have HR := row_yes A n c k ad L x W1 ((h.keep hb1).more hb1.size) hn hx
  unfold stkV at HR ⊢
  have HR := Lib.hid HR
  have HW1 := Lib.hid hW1
  have HB1 := Lib.hid hb1
  clear hW1 hb1 hs1 h hx hn
  go_enter Tryd.func35, Tryd.ntmps35
  go_upto_region 1 with fail
  rw [← HW1.out]
  go_wp2_with fail
  refine HR.out.mono ?_
  rintro e w2 ⟨rfl, hb2⟩
  have HB2 := Lib.hid (HB1.out.trans (hb2.mono HB1.out.size))
  have hf : ∀ w' : World, Sem.run Tryd.prog (Instr.field 123 (.agg #[.pointer (some ⟨x.1, 0, none⟩), .int .i64 x.2]) 1) w' = .ok (.int .i64 x.2) w' := fun _ => by kernel_rfl
  clear hb2 HR s0 s1
  go_wp2_with fail
  go_ret
  exact ⟨rfl, HB2.out⟩
theorem sid_no (A : Option Addr) (n c : Nat) (k ad : Int) (w : World) (hk : k < 0 ∨ (n : Int) ≤ k) :
    Calls Tryd.prog 35 #[stkV A n c ad, .int .i64 k] w fun e w' => e = .returned (.int .i64 (-1)) ∧ Below w.heap.size w w' := by
  obtain ⟨W1, hW1⟩ : ∃ W1, W1 = w.alloc (.cells #[.slice A n c, .int .i64 ad] 54) := ⟨_, rfl⟩
  have hb1 : Below w.heap.size w W1 := by rw [hW1]; exact (Below.refl _ _).alloc (Nat.le_refl _) _
  have hs1 : W1.heap[w.heap.size]? = some (.cells #[.slice A n c, .int .i64 ad] 54 (0, 0)) := by rw [hW1]; exact heap_alloc_new w _
  have s0 : W1.cell? ⟨w.heap.size, 0, none⟩ = some (.slice A n c) := cell_of_blk hs1 0
  have s1 : W1.cell? ⟨w.heap.size, 1, none⟩ = some (.int .i64 ad) := cell_of_blk hs1 1
  have HR := row_no A n c k ad W1 hk
  unfold stkV at HR ⊢
  have HR := Lib.hid HR
  have HW1 := Lib.hid hW1
  have HB1 := Lib.hid hb1
  clear hW1 hb1 hs1 hk
  go_enter Tryd.func35, Tryd.ntmps35
  go_upto_region 1 with fail
  rw [← HW1.out]
  go_wp2_with fail
  refine HR.out.mono ?_
  rintro e w2 ⟨rfl, hb2⟩
  have HB2 := Lib.hid (HB1.out.trans (hb2.mono HB1.out.size))
  have hf : ∀ w' : World, Sem.run Tryd.prog (Instr.field 123 (.agg #[.pointer none, .int .i64 (-1)]) 1) w' = .ok (.int .i64 (-1)) w' := fun _ => by kernel_rfl
  clear hb2 HR s0 s1
  go_wp2_with fail
  go_ret
  exact ⟨rfl, HB2.out⟩
theorem slen_any (A : Option Addr) (n c : Nat) (ad : Int) (w : World) : Calls Tryd.prog 33 #[stkV A n c ad] w fun e w' => e = .returned (.int .i64 (n : Int)) ∧ Below w.heap.size w w' := by
  obtain ⟨W1, hW1⟩ : ∃ W1, W1 = w.alloc (.cells #[.slice A n c, .int .i64 ad] 54) := ⟨_, rfl⟩
  have hb1 : Below w.heap.size w W1 := by rw [hW1]; exact (Below.refl _ _).alloc (Nat.le_refl _) _
  have hs1 : W1.heap[w.heap.size]? = some (.cells #[.slice A n c, .int .i64 ad] 54 (0, 0)) := by rw [hW1]; exact heap_alloc_new w _
  have s0 : W1.cell? ⟨w.heap.size, 0, none⟩ = some (.slice A n c) := cell_of_blk hs1 0
  have HW1 := Lib.hid hW1
  have HB1 := Lib.hid hb1
  clear hW1 hb1 hs1
  unfold stkV
  go_enter Tryd.func33, Tryd.ntmps33
  go_upto_region 1 with fail
  rw [← HW1.out]
  go_wp2_with fail
  go_ret
  exact ⟨rfl, HB1.out⟩
end Go.Proofs.YtniklphdnakehaaDoor.stk

namespace Go.Proofs.YtniklphdnakehaaDoor.stk
set_option maxRecDepth 100000
open Go.RowKit Go.Proofs.YtniklphdnakehaaDoor.words Go.Proofs.YtniklphdnakehaaDoor.ext Go.Proofs.YtniklphdnakehaaDoor.name Go.Proofs.YtniklphdnakehaaDoor.tre

theorem infoRow : (Tryd.prog.info? 123).map (fun i => (i.zero, i.size, i.bytes)) = some (some (.agg #[.pointer none, .int .i64 0]), 2, 16) := by kernel_rfl
def rowC (x : Nat × Int) : List Value := [.pointer (some ⟨x.1, 0, none⟩), .int .i64 x.2]
theorem rowC_one (L : List (Nat × Int)) : ∀ u ∈ L.flatMap rowC, u.oneCell' = true := fun u hu => by
  obtain ⟨x, _, hx⟩ := List.mem_flatMap.1 hu
  simp only [rowC, List.mem_cons, List.mem_nil_iff, or_false] at hx
  rcases hx with rfl | rfl <;> rfl
theorem rowC_length (L : List (Nat × Int)) : (L.flatMap rowC).length = L.length * 2 := by
  induction L with
  | nil => rfl
  | cons h K ih => rw [List.flatMap_cons, List.length_append, ih, List.length_cons]; simp [rowC]; omega
theorem rowC_at : ∀ {L : List (Nat × Int)} {k : Nat} {x : Nat × Int}, L[k]? = some x → ∀ j, j < 2 → (L.flatMap rowC)[k * 2 + j]? = (rowC x)[j]?
  | [], k, x, hk, _, _ => by simp at hk
  | y :: L, k, x, hk, j, hj => by
    rw [List.flatMap_cons]
    rcases k with _ | k
    · obtain rfl : y = x := by simpa using hk
      rw [List.getElem?_append_left (by simp [rowC]; omega), Nat.zero_mul, Nat.zero_add]
    · rw [List.getElem?_append_right (by simp [rowC]; omega), ← rowC_at (L := L) (k := k) (by simpa using hk) j hj]
      congr 1
      simp [rowC]; omega
def Owned (w : World) (B : Nat) (n : Nat) (v : Value) (L : List (Nat × Int)) : Prop := w.ownsRow B 123 2 v n (L.flatMap rowC)
def Grown (w : World) (e : Ending) (w' : World) : Prop := ∃ v, e = .returned v ∧ Owned w' w.heap.size 0 v [] ∧ Below w.heap.size w w'
set_option maxHeartbeats 1600000 in
theorem grow_nil (n : Nat) (w : World) (hn : n ≤ 1000) : Calls Tryd.prog 109 #[.slice none 0 0, .int .i64 (n : Int)] w (Grown w) := by
  obtain ⟨i0, hi, hz0, hy1, hy2⟩ := info_parts infoRow
  rcases Nat.eq_zero_or_pos n with rfl | hpos
  · have HE : Hid (Grown w (.returned (.slice none 0 0)) w) := Lib.hid ⟨_, rfl, World.ownsRow_nil _ _ _ _, Below.refl _ _⟩
    go_enter Tryd.func109, Tryd.ntmps109
    go_wp2_with fail
    go_ret
    exact HE.out
  · have h := fun ty => Lib.run_append_nil_zeros w 52 3 ty 123 i0 (.agg #[.pointer none, .int .i64 0]) .i64 .i64 Tryd.underlying52 Tryd.underlying3 hi hz0 n hpos (by omega) (by omega) (by rw [hy2]; omega)
    obtain ⟨G, hG⟩ : ∃ G, G = grownCap w n 0 123 := ⟨_, rfl⟩
    obtain ⟨cs, hcs⟩ : ∃ cs, cs = Builtin.zeroCells (Value.agg #[.pointer none, .int .i64 0]).cells n ++ Builtin.zeroCells (Value.agg #[.pointer none, .int .i64 0]).cells (G - n) := ⟨_, rfl⟩
    have hGn : n ≤ G := by rw [hG]; exact grownCap_ge w _ _ _
    have hGm : G ≤ maxLen := by rw [hG]; exact grownCap_le_maxLen w n 0 _ (by unfold maxLen; omega)
    rw [← hG, ← hcs] at h
    have hsz : cs.size = G * 2 := by rw [hcs]; simp [Builtin.zeroCells, Value.cells]; omega
    have hown : (w.drew.alloc (.cells cs 123)).ownsRow w.heap.size 123 2 (.slice (some ⟨w.heap.size, 0, none⟩) 0 G) 0 [] := World.ownsRow_made w.drew cs G (Nat.le_refl _) hGm hsz
    have HE : Hid (Grown w (.returned (.slice (some ⟨w.heap.size, 0, none⟩) 0 G)) (w.drew.alloc (.cells cs 123))) := Lib.hid ⟨_, rfl, hown, (Below.refl _ _).drew.alloc (Nat.le_refl _) _⟩
    have HH := Lib.hid h
    have p0 : (0 : Int) < (n : Int) := by omega
    have p1 : (n : Int) ≤ 1000 := by omega
    have p2 : (G : Int) ≤ 9223372036854775807 := by unfold maxLen at hGm; omega
    clear h hown hG hcs hsz hGm
    go_enter Tryd.func109, Tryd.ntmps109
    go_wp2_with (at_builtin; refine Lib.wpList_append_run _ rfl _ _ _ _ rfl _ _ rfl rfl _ _ (HH.out _) ?_)
    go_ret
    exact HE.out
end Go.Proofs.YtniklphdnakehaaDoor.stk

namespace Go.Proofs.YtniklphdnakehaaDoor.stk
set_option maxRecDepth 100000
open Go.RowKit Go.Proofs.YtniklphdnakehaaDoor.words Go.Proofs.YtniklphdnakehaaDoor.ext Go.Proofs.YtniklphdnakehaaDoor.name Go.Proofs.YtniklphdnakehaaDoor.tre

/-- A slice of rows as it is read: what lies behind it, and its bounds. -/
structure Slc (w : World) (B : Nat) (A : Option Addr) (c : Nat) (L : List (Nat × Int)) : Prop where
  rows : Rows w B A L
  cap : L.length ≤ c
  max : c ≤ maxLen
  nil : A = none → L = [] ∧ c = 0
theorem Slc.keep {w w' : World} {B : Nat} {A : Option Addr} {c : Nat} {L : List (Nat × Int)} (h : Slc w B A c L) (hb : Below B w w') : Slc w' B A c L := ⟨h.rows.keep hb, h.cap, h.max, h.nil⟩
theorem Slc.more {w : World} {B B' : Nat} {A : Option Addr} {c : Nat} {L : List (Nat × Int)} (h : Slc w B A c L) (hB : B ≤ B') : Slc w B' A c L := ⟨h.rows.more hB, h.cap, h.max, h.nil⟩
theorem Slc.later {w w' : World} {A : Option Addr} {c : Nat} {L : List (Nat × Int)} (h : Slc w w.heap.size A c L) (hb : Below w.heap.size w w') : Slc w' w'.heap.size A c L := (h.keep hb).more hb.size
theorem Slc.none (w : World) (B : Nat) : Slc w B none 0 [] := ⟨fun i x hx => by simp at hx, Nat.le_refl _, by unfold maxLen; omega, fun _ => ⟨rfl, rfl⟩⟩
theorem Rows.lies {w : World} {A : Option Addr} {L : List (Nat × Int)} (h : Rows w w.heap.size A L) : Lies w A (L.flatMap rowC) := fun j u hj => by
  have hlt := (List.getElem?_eq_some_iff.1 hj).1
  rw [rowC_length] at hlt
  obtain ⟨x, hx⟩ : ∃ x, L[j / 2]? = some x := ⟨_, List.getElem?_eq_getElem (by omega)⟩
  obtain ⟨b, off, h1, h2, h3, h4⟩ := h _ x hx
  refine ⟨b, off, h1, h2, ?_⟩
  have e := rowC_at hx (j % 2) (Nat.mod_lt _ (by omega))
  rw [show j / 2 * 2 + j % 2 = j by omega, hj] at e
  rcases (show j % 2 = 0 ∨ j % 2 = 1 by omega) with hm | hm
  · rw [hm] at e
    rw [show off + j = off + j / 2 * 2 by omega, h3]
    exact e.symm
  · rw [hm] at e
    rw [show off + j = off + j / 2 * 2 + 1 by omega, h4]
    exact e.symm
/-- What a call's own row is, as a slice. -/
theorem Owned.slc {w : World} {B n : Nat} {A : Option Addr} {l c : Nat} {L : List (Nat × Int)} (h : Owned w B n (.slice A l c) L) : l = L.length ∧ n = L.length ∧ Slc w w.heap.size A c L := by
  have hn : n = L.length := by
    have := h.1
    rw [rowC_length] at this
    omega
  subst hn
  rcases h.2 with ⟨h0, h1⟩ | ⟨g, cap, cur, hv, _, hh, h1, h2, h3, h4⟩
  · injection h0 with e1 e2 e3
    subst e1 e2 e3
    have hL := List.eq_nil_of_length_eq_zero h1
    subst hL
    exact ⟨rfl, rfl, Slc.none _ _⟩
  · injection hv with e1 e2 e3
    subst e1 e2 e3
    refine ⟨rfl, rfl, fun i x hx => ?_, h1, h2, fun e => by cases e⟩
    have key : ∀ j u, (rowC x)[j]? = some u → j < 2 → w.cell? ⟨g, i * 2 + j, none⟩ = some u := fun j u hu hj => by
      have e := (rowC_at hx j hj).trans hu
      rw [← h4] at e
      have hlt := (List.getElem?_eq_some_iff.1 e).1
      rw [cell_of_blk hh, ← Array.getElem?_toList]
      rw [List.getElem?_take] at e
      split at e
      · exact e
      · cases e
    exact ⟨g, 0, rfl, lt_of_some hh, by rw [Nat.zero_add]; exact key 0 _ rfl (by omega), by rw [Nat.zero_add]; exact key 1 _ rfl (by omega)⟩
/-- Slices of rows, in a slice. -/
def Slcs (w : World) (B : Nat) (A : Option Addr) (Ls : List (List (Nat × Int))) : Prop :=
  ∀ i l, Ls[i]? = some l → ∃ b off Ai ci, A = some ⟨b, off, none⟩ ∧ b < B ∧ w.cell? ⟨b, off + i, none⟩ = some (.slice Ai l.length ci) ∧ Slc w B Ai ci l
theorem Slcs.keep {w w' : World} {B : Nat} {A : Option Addr} {Ls : List (List (Nat × Int))} (h : Slcs w B A Ls) (hb : Below B w w') : Slcs w' B A Ls := fun i l hl => by
  obtain ⟨b, off, Ai, ci, h1, h2, h3, h4⟩ := h i l hl
  exact ⟨b, off, Ai, ci, h1, h2, (hb.cell (p := ⟨b, off + i, none⟩) h2).trans h3, h4.keep hb⟩
theorem Owned.base {w : World} {B B' n : Nat} {v : Value} {L : List (Nat × Int)} (h : Owned w B n v L) (hB : B' ≤ B) : Owned w B' n v L := by
  refine ⟨h.1, ?_⟩
  rcases h.2 with h0 | ⟨g, cap, cur, e1, e2, e3⟩
  · exact .inl h0
  · exact .inr ⟨g, cap, cur, e1, Nat.le_trans hB e2, e3⟩
theorem Owned.store {w : World} {B n : Nat} {v : Value} {L : List (Nat × Int)} (h : Owned w B n v L) {g : Nat} (hg : g < B) (i : Nat) (u : Value) : Owned (w.setCell ⟨g, i, none⟩ u) B n v L :=
  own_setCell h (fun e => by have := (World.ownsRow.lt h g e).1; omega) u
def Joined (w : World) (L : List (Nat × Int)) (e : Ending) (w' : World) : Prop := ∃ A c, e = .returned (.slice A L.length c) ∧ Owned w' w.heap.size L.length (.slice A L.length c) L ∧ Below w.heap.size w w'
structure InC (w : World) (L : List (Nat × Int)) (v : Value) (wr : World) : Prop where
  own : Owned wr w.heap.size L.length v L
  below : Below w.heap.size w wr
theorem InC.fin {w wr : World} {L : List (Nat × Int)} {v : Value} (h : InC w L v wr) : Joined w L (.returned v) wr := by
  obtain ⟨A, l, c, rfl⟩ := own_slice h.own
  obtain ⟨rfl, _, e3⟩ := h.own.slc
  exact ⟨A, c, rfl, h.own, h.below⟩
set_option maxHeartbeats 3200000 in
theorem concat_any (A : Option Addr) (c : Nat) (Ls : List (List (Nat × Int))) (w : World) (hL : Slcs w w.heap.size A Ls) (hn : Ls.length ≤ 10) (ht : ∀ l ∈ Ls, l.length ≤ 100) :
    Calls Tryd.prog 74 #[.slice A Ls.length c] w (Joined w Ls.flatten) := by
  obtain ⟨i0, hi, hz0, hy1, hy2⟩ := info_parts infoRow
  have hfl : ∀ k, k ≤ Ls.length → (Ls.take k).flatten.length ≤ k * 100 := by
    intro k
    induction k with
    | zero => intro _; simp
    | succ k ih =>
      intro hk
      rw [List.take_succ_eq_append_getElem (by omega), List.flatten_append, List.length_append, List.flatten_cons, List.flatten_nil, List.append_nil, Nat.succ_mul]
      have h1 := ih (by omega)
      have h2 := ht Ls[k] (List.getElem_mem _)
      omega
  have HL := Lib.hid hL
  have HFl := Lib.hid hfl
  have HT := Lib.hid ht
  clear hL hfl ht
  go_enter Tryd.func74, Tryd.ntmps74
  go_wp2_with fail
  go_loop [11, 3] (fun v v3 => ∃ k s : Nat, v = .int .i64 (k : Int) ∧ k ≤ Ls.length ∧ v3 = .int .i64 (s : Int) ∧ s = (Ls.take k).flatten.length) (fun v _ => Ls.length - (intOf v).toNat)
  case atStart => exact ⟨0, 0, rfl, Nat.zero_le _, rfl, rfl⟩
  case round =>
    obtain ⟨k, s, rfl, hk, rfl, hs⟩ := hrel
    have hsb := HFl.out k hk
    rw [← hs] at hsb
    have HS := Lib.hid hs
    clear hs
    by_cases hlt : k < Ls.length
    · obtain ⟨l, hl⟩ : ∃ l, Ls[k]? = some l := ⟨_, List.getElem?_eq_getElem hlt⟩
      obtain ⟨b, off, Ai, ci, hA, hB, c0, _⟩ := HL.out k l hl
      subst hA
      have hll := HT.out l (List.mem_of_getElem? hl)
      have i0' : (0 : Int) ≤ (k : Int) := by omega
      have i1 : (k : Int) < (Ls.length : Int) := by omega
      have i2 : (s : Int) ≤ 1000 := by omega
      have i3 : (l.length : Int) ≤ 100 := by omega
      have HN := Lib.hid (show s + l.length = (Ls.take (k + 1)).flatten.length by
        obtain ⟨hk', rfl⟩ := List.getElem?_eq_some_iff.1 hl
        rw [List.take_succ_eq_append_getElem hk', List.flatten_append, List.length_append, ← HS.out]; simp)
      clear hl
      go_wp2_with fail
      go_round
      case rel => exact ⟨k + 1, s + l.length, by go_num, by omega, by go_num, HN.out⟩
      case measure => simp [intOf]; omega
    · obtain rfl : k = Ls.length := by omega
      have hse : s = Ls.flatten.length := by rw [HS.out, List.take_length]
      have HG := Lib.hid (grow_nil s w (by omega))
      have i2 : (s : Int) ≤ 1000 := by omega
      clear hse
      go_wp2_with fail
      refine HG.out.mono ?_
      rintro e w1 ⟨v1, rfl, hown1, hb1⟩
      have HI : Hid (InC w (Ls.take 0).flatten v1 w1) := Lib.hid ⟨hown1, hb1⟩
      clear hown1 hb1 HG
      go_wp2_with fail
      go_loopw [27, 6] (fun v v6 wr => ∃ k : Nat, v = .int .i64 (k : Int) ∧ k ≤ Ls.length ∧ Hid (InC w (Ls.take k).flatten v6 wr)) (fun v _ _ => Ls.length - (intOf v).toNat)
      case atStart => exact ⟨0, rfl, Nat.zero_le _, HI⟩
      case round =>
        obtain ⟨k, rfl, hk2, HC⟩ := hrel
        by_cases hlt2 : k < Ls.length
        · obtain ⟨l, hl⟩ : ∃ l, Ls[k]? = some l := ⟨_, List.getElem?_eq_getElem hlt2⟩
          obtain ⟨b, off, Ai, ci, hA, hB, c0, hsl⟩ := HL.out k l hl
          subst hA
          have hll := HT.out l (List.mem_of_getElem? hl)
          have hkb := HFl.out k hk2
          have cw : wr.cell? ⟨b, off + k, none⟩ = some (.slice Ai l.length ci) := (HC.out.below.cell (p := ⟨b, off + k, none⟩) hB).trans c0
          have i0' : (0 : Int) ≤ (k : Int) := by omega
          have i1 : (k : Int) < (Ls.length : Int) := by omega
          have hlies := ((hsl.keep HC.out.below).more HC.out.below.size).rows.lies
          have HLi := Lib.hid hlies
          have HNil := Lib.hid (show Ai = none → l.length = 0 ∧ ci = 0 from fun e => by obtain ⟨e1, e2⟩ := hsl.nil e; rw [e1]; exact ⟨rfl, e2⟩)
          have HOw := Lib.hid HC.out.own
          have HB := Lib.hid HC.out.below
          have HZ := Lib.hid HC.out.below.size
          have HE := Lib.hid (show (Ls.take (k + 1)).flatten = (Ls.take k).flatten ++ l by
            obtain ⟨hk', rfl⟩ := List.getElem?_eq_some_iff.1 hl
            rw [List.take_succ_eq_append_getElem hk', List.flatten_append]; simp)
          unfold Owned at HOw
          clear hl hsl hlies c0
          go_wp2_with (at_builtin; refine wpList_append_opt rfl (.tmp 31) (.tmp 32) 52 rfl w.heap.size 123 i0 _ 2 16 Tryd.underlying52 hi hz0 hy1 hy2 rfl (by omega) u6 (Ls.take k).flatten.length ((Ls.take k).flatten.flatMap rowC) rfl HOw.out Ai l.length ci (l.flatMap rowC) HNil.out rfl (rowC_length l) HLi.out (rowC_one l) (by simp only [maxLen]; omega) (by omega) HZ.out ?_; intro v5 w5 hown5 hgrow5)
          have HN : Hid (InC w (Ls.take (k + 1)).flatten v5 w5) := Lib.hid ⟨by
            unfold Owned
            rw [HE.out, List.length_append, List.flatMap_append]
            exact hown5, HB.out.trans ((Kept.refl (fun t => t = 123) w.heap.size wr |>.grown hgrow5 HOw.out (Nat.le_refl _) rfl).below HZ.out)⟩
          clear hown5 hgrow5
          go_roundw
          case rel => exact ⟨k + 1, by go_num, by omega, HN⟩
          case measure => simp [intOf]; omega
        · obtain rfl : k = Ls.length := by omega
          have hf := HC.out
          rw [List.take_length] at hf
          have HF := Lib.hid hf.fin
          clear hf HC
          go_wp2_with fail
          go_ret
          exact HF.out
end Go.Proofs.YtniklphdnakehaaDoor.stk

namespace Go.Proofs.YtniklphdnakehaaDoor.stk
set_option maxRecDepth 100000
open Go.RowKit Go.Proofs.YtniklphdnakehaaDoor.words Go.Proofs.YtniklphdnakehaaDoor.ext Go.Proofs.YtniklphdnakehaaDoor.name Go.Proofs.YtniklphdnakehaaDoor.tre

theorem over2 {w : World} {g : Nat} {T : TypeId} {c0 c1 u0 u1 : Value} (h : w.heap[g]? = some (.cells #[c0, c1] T (0, 0))) :
    ((w.setCell ⟨g, 0, none⟩ u0).setCell ⟨g, 1, none⟩ u1).heap[g]? = some (.cells #[u0, u1] T (0, 0)) :=
  heap_setCell_same _ g 1 _ _ u1 (heap_setCell_same w g 0 _ _ u0 h)
set_option maxHeartbeats 1600000 in
theorem add_no (A : Option Addr) (n c : Nat) (ad : Int) (p : Option Addr) (w : World) (hn : 64 ≤ n) :
    Calls Tryd.prog 30 #[stkV A n c ad, .pointer p] w fun e w' => e = .returned (.tuple #[stkV A n c ad, .int .i64 0, .int .i64 6]) ∧ Below w.heap.size w w' := by
  obtain ⟨Wa, hWa⟩ : ∃ Wa, Wa = w.alloc (.cells #[.slice A n c, .int .i64 ad] 54) := ⟨_, rfl⟩
  obtain ⟨W1, hW1⟩ : ∃ W1, W1 = Wa.alloc (.cells #[.slice none 0 0, .int .i64 0] 54) := ⟨_, rfl⟩
  have hz : Wa.heap.size = w.heap.size + 1 := by rw [hWa]; simp
  have hba : Below w.heap.size w Wa := by rw [hWa]; exact (Below.refl _ _).alloc (Nat.le_refl _) _
  have hb1 : Below w.heap.size w W1 := by rw [hW1]; exact hba.alloc hba.size _
  have hs1 : W1.heap[w.heap.size]? = some (.cells #[.slice A n c, .int .i64 ad] 54 (0, 0)) := by
    rw [hW1]
    refine (Below.heap_alloc Wa _ _ (by omega)).trans ?_
    rw [hWa]
    exact heap_alloc_new w _
  have hr1 : W1.heap[w.heap.size + 1]? = some (.cells #[.slice none 0 0, .int .i64 0] 54 (0, 0)) := by rw [hW1, ← hz]; exact heap_alloc_new Wa _
  have s0 : W1.cell? ⟨w.heap.size, 0, none⟩ = some (.slice A n c) := cell_of_blk hs1 0
  have s1 : W1.cell? ⟨w.heap.size, 1, none⟩ = some (.int .i64 ad) := cell_of_blk hs1 1
  have r0 : W1.cell? ⟨w.heap.size + 1, 0, none⟩ = some (.slice none 0 0) := cell_of_blk hr1 0
  have r1 : W1.cell? ⟨w.heap.size + 1, 1, none⟩ = some (.int .i64 0) := cell_of_blk hr1 1
  have f0 := free_of_blk hr1 0
  have f1 := free_of_blk hr1 1
  obtain ⟨W2, hW2⟩ : ∃ W2, W2 = (W1.setCell ⟨w.heap.size + 1, 0, none⟩ (.slice A n c)).setCell ⟨w.heap.size + 1, 1, none⟩ (.int .i64 ad) := ⟨_, rfl⟩
  have h21 := over2 (u0 := .slice A n c) (u1 := .int .i64 ad) hr1
  rw [← hW2] at h21
  have p0 : W2.cell? ⟨w.heap.size + 1, 0, none⟩ = some (.slice A n c) := cell_of_blk h21 0
  have p1 : W2.cell? ⟨w.heap.size + 1, 1, none⟩ = some (.int .i64 ad) := cell_of_blk h21 1
  have hb2 : Below w.heap.size w W2 := by rw [hW2]; exact (hb1.setCell (p := ⟨w.heap.size + 1, 0, none⟩) (by show w.heap.size ≤ w.heap.size + 1; omega) _).setCell (p := ⟨w.heap.size + 1, 1, none⟩) (by show w.heap.size ≤ w.heap.size + 1; omega) _
  have g : (64 : Int) ≤ (n : Int) := by omega
  rw [hWa] at hW1
  have HW1 := Lib.hid hW1
  have HW2 := Lib.hid hW2
  have HB2 := Lib.hid hb2
  clear hba hb1 hs1 hr1 h21 hW1 hWa hW2 hb2 hz
  unfold stkV
  go_enter Tryd.func30, Tryd.ntmps30
  go_upto_region 1 with fail
  rw [← HW1.out]
  go_wp2_with fail
  rw [← HW2.out]
  exact bodyPost_ret (v := .tuple #[.agg #[.slice A n c, .int .i64 ad], .int .i64 0, .int .i64 6]) (by simp [results, Tryd.results30, go_sem, p0, p1]) rfl ⟨rfl, HB2.out⟩

/-- A branch more. -/
def Added (ad : Int) (L : List (Nat × Int)) (w : World) (e : Ending) (w' : World) : Prop :=
  ∃ A c, e = .returned (.tuple #[stkV A L.length c (ad + 1), .int .i64 ad, .int .i64 0]) ∧ Owned w' w.heap.size L.length (.slice A L.length c) L ∧ Below w.heap.size w w'
set_option maxHeartbeats 3200000 in
theorem add_yes (A : Option Addr) (c : Nat) (ad : Int) (g : Nat) (L : List (Nat × Int)) (w : World) (hL : Slc w w.heap.size A c L) (hn : L.length < 64) (ha0 : 0 ≤ ad) (ha1 : ad ≤ 1000000) :
    Calls Tryd.prog 30 #[stkV A L.length c ad, .pointer (some ⟨g, 0, none⟩)] w (Added ad ((g, ad) :: L) w) := by
  obtain ⟨Wa, hWa⟩ : ∃ Wa, Wa = w.alloc (.cells #[.slice A L.length c, .int .i64 ad] 54) := ⟨_, rfl⟩
  obtain ⟨W1, hW1⟩ : ∃ W1, W1 = Wa.alloc (.cells #[.slice none 0 0, .int .i64 0] 54) := ⟨_, rfl⟩
  obtain ⟨W2, hW2⟩ : ∃ W2, W2 = W1.alloc (.cells #[.pointer (some ⟨g, 0, none⟩), .int .i64 ad] 123) := ⟨_, rfl⟩
  obtain ⟨W3, hW3⟩ : ∃ W3, W3 = W2.alloc (.cells #[.slice (some ⟨w.heap.size + 2, 0, none⟩) 1 1, .slice A L.length c] 52) := ⟨_, rfl⟩
  have hz : Wa.heap.size = w.heap.size + 1 := by rw [hWa]; simp
  have hz1 : W1.heap.size = w.heap.size + 2 := by rw [hW1]; simp [hz]
  have hz2 : W2.heap.size = w.heap.size + 3 := by rw [hW2]; simp [hz1]
  have hz3 : W3.heap.size = w.heap.size + 4 := by rw [hW3]; simp [hz2]
  have hba : Below w.heap.size w Wa := by rw [hWa]; exact (Below.refl _ _).alloc (Nat.le_refl _) _
  have hb1 : Below w.heap.size w W1 := by rw [hW1]; exact hba.alloc hba.size _
  have hb2 : Below w.heap.size w W2 := by rw [hW2]; exact hb1.alloc hb1.size _
  have hb3 : Below w.heap.size w W3 := by rw [hW3]; exact hb2.alloc hb2.size _
  have hs2 : W2.heap[w.heap.size]? = some (.cells #[.slice A L.length c, .int .i64 ad] 54 (0, 0)) := by
    rw [hW2]
    refine (Below.heap_alloc W1 _ _ (by omega)).trans ?_
    rw [hW1]
    refine (Below.heap_alloc Wa _ _ (by omega)).trans ?_
    rw [hWa]
    exact heap_alloc_new w _
  have hr2 : W2.heap[w.heap.size + 1]? = some (.cells #[.slice none 0 0, .int .i64 0] 54 (0, 0)) := by
    rw [hW2]
    refine (Below.heap_alloc W1 _ _ (by omega)).trans ?_
    rw [hW1, ← hz]
    exact heap_alloc_new Wa _
  have hu2 : W2.heap[w.heap.size + 2]? = some (.cells #[.pointer (some ⟨g, 0, none⟩), .int .i64 ad] 123 (0, 0)) := by rw [hW2, ← hz1]; exact heap_alloc_new W1 _
  have hk3 : W3.heap[w.heap.size + 3]? = some (.cells #[.slice (some ⟨w.heap.size + 2, 0, none⟩) 1 1, .slice A L.length c] 52 (0, 0)) := by rw [hW3, ← hz2]; exact heap_alloc_new W2 _
  have hb23 : Below W2.heap.size W2 W3 := by rw [hW3]; exact (Below.refl _ _).alloc (Nat.le_refl _) _
  have hu3 := (hb23.block _ (lt_of_some hu2)).trans hu2
  have hone : Slc W3 W3.heap.size (some ⟨w.heap.size + 2, 0, none⟩) 1 [(g, ad)] := ⟨fun i x hx => by
    rcases i with _ | i
    · obtain rfl : (g, ad) = x := by simpa using hx
      exact ⟨_, _, rfl, lt_of_some hu3, cell_of_blk hu3 0, cell_of_blk hu3 1⟩
    · simp at hx, Nat.le_refl _, by decide, fun e => by cases e⟩
  have hSl : Slcs W3 W3.heap.size (some ⟨w.heap.size + 3, 0, none⟩) [[(g, ad)], L] := fun i l hl => by
    rcases i with _ | _ | i
    · obtain rfl : [(g, ad)] = l := by simpa using hl
      exact ⟨_, _, _, _, rfl, lt_of_some hk3, cell_of_blk hk3 0, hone⟩
    · obtain rfl : L = l := by simpa using hl
      exact ⟨_, _, _, _, rfl, lt_of_some hk3, cell_of_blk hk3 1, hL.later hb3⟩
    · simp at hl
  have hC : ∀ W4 : World, W4 = W3.drew → Calls Tryd.prog 74 #[.slice (some ⟨w.heap.size + 3, 0, none⟩) 2 2] W4 fun e w' => ∃ A' c', e = .returned (.slice A' (L.length + 1) c') ∧ Owned w' W3.heap.size (L.length + 1) (.slice A' (L.length + 1) c') ((g, ad) :: L) ∧ Below W2.heap.size W2 w' ∧ Below w.heap.size w w' := fun W4 hW4 => by
    have h := concat_any (some ⟨w.heap.size + 3, 0, none⟩) 2 [[(g, ad)], L] W3.drew (hSl.keep (Below.refl _ _).drew) (by simp) (fun l hl => by
      simp only [List.mem_cons, List.mem_nil_iff, or_false] at hl
      rcases hl with rfl | rfl
      · simp
      · omega)
    rw [hW4]
    refine h.mono fun e w' ⟨A', c', e1, e2, e3⟩ => ⟨A', c', ?_, ?_, hb23.drew.trans (e3.mono hb23.size), hb3.drew.trans (e3.mono hb3.size)⟩
    · rw [e1]; simp
    · simpa using e2
  have s0 : W2.cell? ⟨w.heap.size, 0, none⟩ = some (.slice A L.length c) := cell_of_blk hs2 0
  have s1 : W2.cell? ⟨w.heap.size, 1, none⟩ = some (.int .i64 ad) := cell_of_blk hs2 1
  have gg : ¬ (64 : Int) ≤ (L.length : Int) := by omega
  have ga : IntKind.i64.wrap (ad + 1) = ad + 1 := IntWalk.i64_in _ (by omega)
  rw [hWa] at hW1
  rw [hW1] at hW2
  have HZ3 := Lib.hid hz3
  have HW2 := Lib.hid hW2
  have HW3 := Lib.hid hW3
  have HC := Lib.hid hC
  have HR2 := Lib.hid hr2
  have HS2 := Lib.hid hs2
  clear hba hb1 hb2 hb3 hs2 hr2 hu2 hk3 hb23 hu3 hone hSl hC hW1 hWa hW2 hW3 hz hz1 hz3 hL
  unfold stkV
  go_enter Tryd.func30, Tryd.ntmps30
  go_upto_region 4 with fail
  rw [← HW2.out]
  have HSk : Hid (∀ w' : World, Below W2.heap.size W2 w' → w'.cell? ⟨w.heap.size, 0, none⟩ = some (.slice A L.length c) ∧ w'.cell? ⟨w.heap.size, 1, none⟩ = some (.int .i64 ad)) := Lib.hid fun w' hb => by
    have e := (hb.block _ (lt_of_some HS2.out)).trans HS2.out
    exact ⟨cell_of_blk e 0, cell_of_blk e 1⟩
  have HSd := Lib.hid (HSk.out _ (Below.refl W2.heap.size W2).drew)
  have ne1 : w.heap.size + 1 ≠ w.heap.size := by omega
  go_region_held3 (fun w' => w'.cell? ⟨w.heap.size, 0, none⟩ = some (.slice A L.length c) ∧ w'.cell? ⟨w.heap.size, 1, none⟩ = some (.int .i64 ad))
    (first | with_reducible exact HSd.out | with_reducible exact HSk.out _ hb25 | go_keep)
    (first | (go_at_call 74; refine (HC.out _ (by rw [HW3.out])).mono ?_; rintro e w5 ⟨A', c', rfl, hsl5, hb25, hb5⟩; have hr5 := (hb25.block _ (lt_of_some HR2.out)).trans HR2.out; have t0 := cell_of_blk hr5 0; have t1 := cell_of_blk hr5 1; have v0 := free_of_blk hr5 0; have v1 := free_of_blk hr5 1))
  obtain ⟨W6, hW6⟩ : ∃ W6, W6 = (w5.setCell ⟨w.heap.size + 1, 0, none⟩ (.slice A' (L.length + 1) c')).setCell ⟨w.heap.size + 1, 1, none⟩ (.int .i64 (ad + 1)) := ⟨_, rfl⟩
  have h6 := over2 (u0 := .slice A' (L.length + 1) c') (u1 := .int .i64 (ad + 1)) hr5
  have ho6 := (hsl5.store (g := w.heap.size + 1) (by have := HZ3.out; omega) 0 (.slice A' (L.length + 1) c')).store (g := w.heap.size + 1) (by have := HZ3.out; omega) 1 (.int .i64 (ad + 1))
  rw [← hW6] at h6 ho6 ⊢
  have q0 : W6.cell? ⟨w.heap.size + 1, 0, none⟩ = some (.slice A' (L.length + 1) c') := cell_of_blk h6 0
  have q1 : W6.cell? ⟨w.heap.size + 1, 1, none⟩ = some (.int .i64 (ad + 1)) := cell_of_blk h6 1
  have hb6 : Below w.heap.size w W6 := by rw [hW6]; exact (hb5.setCell (p := ⟨w.heap.size + 1, 0, none⟩) (by show w.heap.size ≤ w.heap.size + 1; omega) _).setCell (p := ⟨w.heap.size + 1, 1, none⟩) (by show w.heap.size ≤ w.heap.size + 1; omega) _
  have HE : Hid (Added ad ((g, ad) :: L) w (.returned (.tuple #[.agg #[.slice A' (L.length + 1) c', .int .i64 (ad + 1)], .int .i64 ad, .int .i64 0])) W6) := Lib.hid ⟨A', c', rfl, ho6.base (by have := HZ3.out; omega), hb6⟩
  clear hsl5 hb25 hb5 hr5 t0 t1 v0 v1 h6 ho6 hb6 hW6 HSk HSd HC HW2 HW3 HR2 HS2 s0 s1
  go_wp2_with fail
  exact bodyPost_ret (v := .tuple #[.agg #[.slice A' (L.length + 1) c', .int .i64 (ad + 1)], .int .i64 ad, .int .i64 0]) (by simp [results, Tryd.results30, go_sem, q0, q1]) rfl HE.out
end Go.Proofs.YtniklphdnakehaaDoor.stk

namespace Go.Proofs.YtniklphdnakehaaDoor.stk
set_option maxRecDepth 100000
open Go.RowKit Go.Proofs.YtniklphdnakehaaDoor.words Go.Proofs.YtniklphdnakehaaDoor.ext Go.Proofs.YtniklphdnakehaaDoor.name Go.Proofs.YtniklphdnakehaaDoor.tre

theorem asks_any (x : Nat × Int) (id : Int) (bl : Nat) (r : Bool) (w : World) (hc : w.cell? ⟨bl, 0, none⟩ = some (.int .i64 id)) (hr : (x.2 == id) = r) :
    Calls Tryd.prog 73 #[.agg #[.pointer (some ⟨x.1, 0, none⟩), .int .i64 x.2], .pointer (some ⟨bl, 0, none⟩)] w fun e w' => e = .returned (.bool r) ∧ Below w.heap.size w w' := by
  obtain ⟨W1, hW1⟩ : ∃ W1, W1 = w.alloc (.cells #[.pointer (some ⟨x.1, 0, none⟩), .int .i64 x.2] 123) := ⟨_, rfl⟩
  have hb1 : Below w.heap.size w W1 := by rw [hW1]; exact (Below.refl _ _).alloc (Nat.le_refl _) _
  have hk : W1.heap[w.heap.size]? = some (.cells #[.pointer (some ⟨x.1, 0, none⟩), .int .i64 x.2] 123 (0, 0)) := by rw [hW1]; exact heap_alloc_new w _
  have c1 : W1.cell? ⟨w.heap.size, 1, none⟩ = some (.int .i64 x.2) := cell_of_blk hk 1
  have c2 : W1.cell? ⟨bl, 0, none⟩ = some (.int .i64 id) := (hb1.cell (p := ⟨bl, 0, none⟩) (World.block_lt_of_cell? w _ hc)).trans hc
  have HW1 := Lib.hid hW1
  have HB1 := Lib.hid hb1
  clear hW1 hb1 hk hc
  go_enter Tryd.func73, Tryd.ntmps73
  go_upto_region 1 with fail
  rw [← HW1.out]
  have HR := Lib.hid hr
  clear hr
  go_wp2_with fail
  go_ret
  exact ⟨ret_bool HR.out, HB1.out⟩
/-- Where a number is. -/
def IdxOf (L : List (Nat × Int)) (id : Int) (k : Int) : Prop := (k = -1 ∧ ∀ x ∈ L, x.2 ≠ id) ∨ ∃ (i : Nat) (x : Nat × Int), k = (i : Int) ∧ L[i]? = some x ∧ x.2 = id
def Found (L : List (Nat × Int)) (id : Int) (w : World) (e : Ending) (w' : World) : Prop := (∃ k : Int, e = .returned (.int .i64 k) ∧ IdxOf L id k) ∧ Below w.heap.size w w'
set_option maxHeartbeats 1600000 in
theorem index_any (A : Option Addr) (c : Nat) (L : List (Nat × Int)) (id : Int) (bl : Nat) (w : World) (hL : Slc w w.heap.size A c L) (hc : w.cell? ⟨bl, 0, none⟩ = some (.int .i64 id)) (hlen : L.length ≤ 1000) :
    Calls Tryd.prog 72 #[.slice A L.length c, .func (.func 73) #[] #[.pointer (some ⟨bl, 0, none⟩)]] w (Found L id w) := by
  have HL := Lib.hid hL
  have HC := Lib.hid hc
  clear hL hc
  go_enter Tryd.func72, Tryd.ntmps72
  go_wp2_with fail
  go_loopw [8] (fun v wr => ∃ k : Nat, v = .int .i64 (k : Int) ∧ k ≤ L.length ∧ Hid (∀ (j : Nat) (x : Nat × Int), j < k → L[j]? = some x → x.2 ≠ id) ∧ Hid (Below w.heap.size w wr)) (fun v _ => L.length - (intOf v).toNat)
  case atStart => exact ⟨0, rfl, Nat.zero_le _, Lib.hid fun _ _ h => absurd h (Nat.not_lt_zero _), Lib.hid (Below.refl _ _)⟩
  case round =>
    obtain ⟨k, rfl, hk, HN, HB⟩ := hrel
    by_cases hlt : k < L.length
    · obtain ⟨x, hx⟩ : ∃ x, L[k]? = some x := ⟨_, List.getElem?_eq_getElem hlt⟩
      obtain ⟨b, off, hA, hB, c0, c1⟩ := HL.out.rows k x hx
      subst hA
      have d0 : wr.cell? ⟨b, off + k * 2, none⟩ = some (.pointer (some ⟨x.1, 0, none⟩)) := (HB.out.cell (p := ⟨b, off + k * 2, none⟩) hB).trans c0
      have d1 : wr.cell? ⟨b, off + k * 2 + 1, none⟩ = some (.int .i64 x.2) := (HB.out.cell (p := ⟨b, off + k * 2 + 1, none⟩) hB).trans c1
      have hcw : wr.cell? ⟨bl, 0, none⟩ = some (.int .i64 id) := (HB.out.cell (p := ⟨bl, 0, none⟩) (World.block_lt_of_cell? w _ HC.out)).trans HC.out
      have i0 : (0 : Int) ≤ (k : Int) := by omega
      have i1 : (k : Int) < (L.length : Int) := by omega
      rcases hr : (x.2 == id) with _ | _
      · have HA := Lib.hid (asks_any x id bl false wr hcw hr)
        have HN' : Hid (∀ (j : Nat) (y : Nat × Int), j < k + 1 → L[j]? = some y → y.2 ≠ id) := Lib.hid fun j y hj hy => by
          rcases Nat.lt_or_ge j k with h | h
          · exact HN.out j y h hy
          · obtain rfl : j = k := by omega
            rw [hx] at hy
            rw [← Option.some.inj hy]
            exact beq_eq_false_iff_ne.1 hr
        clear hx hr hcw c0 c1
        go_wp2_with fail
        refine HA.out.mono ?_
        rintro e w2 ⟨rfl, hb2⟩
        have HB2 := Lib.hid (HB.out.trans (hb2.mono HB.out.size))
        clear hb2 HA
        go_wp2_with fail
        go_roundw
        case rel => exact ⟨k + 1, by go_num, by omega, HN', HB2⟩
        case measure => simp [intOf]; omega
      · have HA := Lib.hid (asks_any x id bl true wr hcw hr)
        have HF : Hid (IdxOf L id (k : Int)) := Lib.hid (.inr ⟨k, x, rfl, hx, eq_of_beq hr⟩)
        clear hx hr hcw c0 c1
        go_wp2_with fail
        refine HA.out.mono ?_
        rintro e w2 ⟨rfl, hb2⟩
        have HB2 := Lib.hid (HB.out.trans (hb2.mono HB.out.size))
        clear hb2 HA
        go_wp2_with fail
        go_ret
        exact ⟨⟨_, rfl, HF.out⟩, HB2.out⟩
    · obtain rfl : k = L.length := by omega
      have HF : Hid (IdxOf L id (-1)) := Lib.hid (.inl ⟨rfl, fun x hx => by
        obtain ⟨j, hj⟩ := List.mem_iff_getElem?.1 hx
        exact HN.out j x (List.getElem?_eq_some_iff.1 hj).1 hj⟩)
      go_wp2_with fail
      go_ret
      exact ⟨⟨_, rfl, HF.out⟩, HB.out⟩

theorem cut_row (A : Option Addr) (n cap i : Nat) (h : i ≤ n) (wx : World) :
    (Instr.slice 52 (.slice A n cap) (some (.int .i64 (i : Int))) none none).run Tryd.prog wx = .ok (.slice (if cap = i then A else A.map (·.add (i * 2))) (n - i) (cap - i)) wx := by
  obtain ⟨i0, hi, hz0, hz1, hz2⟩ := info_parts infoRow
  have he : Tryd.prog.elem 52 = 123 := by kernel_rfl
  rw [run_slice_l (P := Tryd.prog) wx 52 A n cap (by kernel_rfl) .i64 (i : Int) (by omega) (by omega), he]
  simp [sizeOf, typeInfo, hi, hz1, Result.andThen, sliced]
theorem cut_head (A : Option Addr) (n cap i : Nat) (h : i ≤ cap) (wx : World) :
    (Instr.slice 52 (.slice A n cap) none (some (.int .i64 (i : Int))) none).run Tryd.prog wx = .ok (.slice A i cap) wx := by
  obtain ⟨i0, hi, hz0, hz1, hz2⟩ := info_parts infoRow
  have he : Tryd.prog.elem 52 = 123 := by kernel_rfl
  rw [run_slice_h (P := Tryd.prog) wx 52 A n cap (by kernel_rfl) .i64 (i : Int) (by omega) (by omega), he]
  simp [sizeOf, typeInfo, hi, hz1, Result.andThen, sliced]
  rcases A with _ | A
  · intro _; rfl
  · simp [Addr.add]
theorem Slc.take {w : World} {B : Nat} {A : Option Addr} {c : Nat} {L : List (Nat × Int)} (h : Slc w B A c L) (i : Nat) : Slc w B A c (L.take i) :=
  ⟨fun j x hx => h.rows j x (by rw [List.getElem?_take] at hx; split at hx <;> first | exact hx | cases hx), by rw [List.length_take]; have := h.cap; omega, h.max, fun e => by obtain ⟨e1, e2⟩ := h.nil e; rw [e1]; exact ⟨List.take_nil, e2⟩⟩
theorem Slc.drop {w : World} {B : Nat} {A : Option Addr} {c : Nat} {L : List (Nat × Int)} (h : Slc w B A c L) {i : Nat} (hi : i ≤ L.length) : Slc w B (if c = i then A else A.map (·.add (i * 2))) (c - i) (L.drop i) := by
  have hc := h.cap
  by_cases hci : c = i
  · rw [if_pos hci]
    have hd : L.drop i = [] := List.drop_of_length_le (by omega)
    rw [hd]
    exact ⟨fun j x hx => by simp at hx, Nat.zero_le _, by have := h.max; omega, fun _ => ⟨rfl, by omega⟩⟩
  · rw [if_neg hci]
    rcases A with _ | ⟨b, off, sp⟩
    · obtain ⟨e1, e2⟩ := h.nil rfl
      rw [e1] at hi
      have hi0 : i = 0 := by simpa using hi
      exact absurd (by omega) hci
    · refine ⟨fun j x hx => ?_, by rw [List.length_drop]; omega, by have := h.max; omega, fun e => by cases e⟩
      rw [List.getElem?_drop] at hx
      obtain ⟨b', off', h1, h2, h3, h4⟩ := h.rows (i + j) x hx
      injection h1 with h1
      injection h1 with e1 e2 e3
      subst e1 e2 e3
      refine ⟨b, off + i * 2, by rw [Option.map_some, add_place], h2, by rw [show off + i * 2 + j * 2 = off + (i + j) * 2 by omega]; exact h3, by rw [show off + i * 2 + j * 2 + 1 = off + (i + j) * 2 + 1 by omega]; exact h4⟩
def RemovedOk (ad : Int) (L : List (Nat × Int)) (w : World) (e : Ending) (w' : World) : Prop :=
  ∃ A c, e = .returned (.tuple #[stkV A L.length c ad, .int .i64 0]) ∧ Owned w' w.heap.size L.length (.slice A L.length c) L ∧ Below w.heap.size w w'
def RemoveOut (A : Option Addr) (c : Nat) (ad : Int) (L : List (Nat × Int)) (id : Int) (w : World) (e : Ending) (w' : World) : Prop :=
  (∃ (i : Nat) (x : Nat × Int), L[i]? = some x ∧ x.2 = id ∧ RemovedOk ad (L.take i ++ L.drop (i + 1)) w e w') ∨
  ((∀ x ∈ L, x.2 ≠ id) ∧ e = .returned (.tuple #[stkV A L.length c ad, .int .i64 2]) ∧ Below w.heap.size w w')
set_option maxHeartbeats 6400000 in
theorem remove_any (A : Option Addr) (c : Nat) (ad id : Int) (L : List (Nat × Int)) (w : World) (hL : Slc w w.heap.size A c L) (hn : L.length ≤ 64) :
    Calls Tryd.prog 28 #[stkV A L.length c ad, .int .i64 id] w (RemoveOut A c ad L id w) := by
  obtain ⟨Wa, hWa⟩ : ∃ Wa, Wa = w.alloc (.cells #[.slice A L.length c, .int .i64 ad] 54) := ⟨_, rfl⟩
  obtain ⟨Wb, hWb⟩ : ∃ Wb, Wb = Wa.alloc (.cells #[.int .i64 id] 3) := ⟨_, rfl⟩
  obtain ⟨W1, hW1⟩ : ∃ W1, W1 = Wb.alloc (.cells #[.slice none 0 0, .int .i64 0] 54) := ⟨_, rfl⟩
  have hz : Wa.heap.size = w.heap.size + 1 := by rw [hWa]; simp
  have hzb : Wb.heap.size = w.heap.size + 2 := by rw [hWb]; simp [hz]
  have hz1 : W1.heap.size = w.heap.size + 3 := by rw [hW1]; simp [hzb]
  have hba : Below w.heap.size w Wa := by rw [hWa]; exact (Below.refl _ _).alloc (Nat.le_refl _) _
  have hbb : Below w.heap.size w Wb := by rw [hWb]; exact hba.alloc hba.size _
  have hb1 : Below w.heap.size w W1 := by rw [hW1]; exact hbb.alloc hbb.size _
  have hs1 : W1.heap[w.heap.size]? = some (.cells #[.slice A L.length c, .int .i64 ad] 54 (0, 0)) := by
    rw [hW1]
    refine (Below.heap_alloc Wb _ _ (by omega)).trans ?_
    rw [hWb]
    refine (Below.heap_alloc Wa _ _ (by omega)).trans ?_
    rw [hWa]
    exact heap_alloc_new w _
  have hi1 : W1.heap[w.heap.size + 1]? = some (.cells #[.int .i64 id] 3 (0, 0)) := by
    rw [hW1]
    refine (Below.heap_alloc Wb _ _ (by omega)).trans ?_
    rw [hWb, ← hz]
    exact heap_alloc_new Wa _
  have hr1 : W1.heap[w.heap.size + 2]? = some (.cells #[.slice none 0 0, .int .i64 0] 54 (0, 0)) := by rw [hW1, ← hzb]; exact heap_alloc_new Wb _
  have s0 : W1.cell? ⟨w.heap.size, 0, none⟩ = some (.slice A L.length c) := cell_of_blk hs1 0
  have hI := index_any A c L id (w.heap.size + 1) W1 (hL.later hb1) (cell_of_blk hi1 0) (by omega)
  have HI := Lib.hid hI
  have HL := Lib.hid hL
  rw [hWa] at hWb
  rw [hWb] at hW1
  have HW1 := Lib.hid hW1
  have HB1 := Lib.hid hb1
  have HS1 := Lib.hid hs1
  have HR1 := Lib.hid hr1
  have HZ1 := Lib.hid hz1
  clear hba hbb hb1 hs1 hi1 hr1 hW1 hWa hWb hz hzb hz1 hI hL
  unfold stkV
  go_enter Tryd.func28, Tryd.ntmps28
  go_upto_region 1 with fail
  rw [← HW1.out]
  go_wp2_with fail
  refine HI.out.mono ?_
  rintro e W2 ⟨⟨kx, rfl, hidx⟩, hb2⟩
  have HB2 := Lib.hid (HB1.out.trans (hb2.mono HB1.out.size))
  have HZ2 := Lib.hid (show w.heap.size + 3 ≤ W2.heap.size from by rw [← HZ1.out]; exact hb2.size)
  have hs2 := (hb2.block _ (lt_of_some HS1.out)).trans HS1.out
  have hr2 := (hb2.block _ (lt_of_some HR1.out)).trans HR1.out
  have c0 : W2.cell? ⟨w.heap.size, 0, none⟩ = some (.slice A L.length c) := cell_of_blk hs2 0
  have c1 : W2.cell? ⟨w.heap.size, 1, none⟩ = some (.int .i64 ad) := cell_of_blk hs2 1
  have r0 : W2.cell? ⟨w.heap.size + 2, 0, none⟩ = some (.slice none 0 0) := cell_of_blk hr2 0
  have r1 : W2.cell? ⟨w.heap.size + 2, 1, none⟩ = some (.int .i64 0) := cell_of_blk hr2 1
  have f0 := free_of_blk hr2 0
  have f1 := free_of_blk hr2 1
  rcases hidx with ⟨rfl, hno⟩ | ⟨i, x, rfl, hx, hxi⟩
  · obtain ⟨W3, hW3⟩ : ∃ W3, W3 = (W2.setCell ⟨w.heap.size + 2, 0, none⟩ (.slice A L.length c)).setCell ⟨w.heap.size + 2, 1, none⟩ (.int .i64 ad) := ⟨_, rfl⟩
    have h3 := over2 (u0 := .slice A L.length c) (u1 := .int .i64 ad) hr2
    rw [← hW3] at h3
    have p0 : W3.cell? ⟨w.heap.size + 2, 0, none⟩ = some (.slice A L.length c) := cell_of_blk h3 0
    have p1 : W3.cell? ⟨w.heap.size + 2, 1, none⟩ = some (.int .i64 ad) := cell_of_blk h3 1
    have hb3 : Below w.heap.size w W3 := by rw [hW3]; exact (HB2.out.setCell (p := ⟨w.heap.size + 2, 0, none⟩) (by show w.heap.size ≤ w.heap.size + 2; omega) _).setCell (p := ⟨w.heap.size + 2, 1, none⟩) (by show w.heap.size ≤ w.heap.size + 2; omega) _
    have HE : Hid (RemoveOut A c ad L id w (.returned (.tuple #[.agg #[.slice A L.length c, .int .i64 ad], .int .i64 2])) W3) := Lib.hid (.inr ⟨hno, rfl, hb3⟩)
    have HW3 := Lib.hid hW3
    clear hno hb2 hs2 hr2 h3 hb3 hW3 HI HW1 HS1 HR1 s0
    go_wp2_with fail
    rw [← HW3.out]
    exact bodyPost_ret (v := .tuple #[.agg #[.slice A L.length c, .int .i64 ad], .int .i64 2]) (by simp [results, Tryd.results28, go_sem, p0, p1]) rfl HE.out
  · have hil := (List.getElem?_eq_some_iff.1 hx).1
    have hcap := HL.out.cap
    have q0 : ¬ (i : Int) < 0 := by omega
    have q1 : (0 : Int) ≤ (i : Int) := by omega
    have q2 : IntKind.i64.wrap ((i : Int) + 1) = (i : Int) + 1 := IntWalk.i64_in _ (by omega)
    have hs1 := cut_head A L.length c i (by omega)
    have hs2' := cut_row A L.length c (i + 1) (by omega)
    have hSd := HL.out.drop (i := i + 1) hil
    obtain ⟨A', hA'⟩ : ∃ A' : Option Addr, A' = if c = i + 1 then A else A.map (·.add ((i + 1) * 2)) := ⟨_, rfl⟩
    rw [← hA'] at hs2' hSd
    rw [show ((i + 1 : Nat) : Int) = (i : Int) + 1 by omega] at hs2'
    obtain ⟨W3, hW3⟩ : ∃ W3, W3 = W2.alloc (.cells #[.slice A i c, .slice A' (L.length - (i + 1)) (c - (i + 1))] 52) := ⟨_, rfl⟩
    have hk3 : W3.heap[W2.heap.size]? = some (.cells #[.slice A i c, .slice A' (L.length - (i + 1)) (c - (i + 1))] 52 (0, 0)) := by rw [hW3]; exact heap_alloc_new W2 _
    have hb23 : Below W2.heap.size W2 W3 := by rw [hW3]; exact (Below.refl _ _).alloc (Nat.le_refl _) _
    have hb3 : Below w.heap.size w W3 := HB2.out.trans (hb23.mono HB2.out.size)
    have hSl : Slcs W3 W3.heap.size (some ⟨W2.heap.size, 0, none⟩) [L.take i, L.drop (i + 1)] := fun j l hl => by
      rcases j with _ | _ | j
      · obtain rfl : L.take i = l := by simpa using hl
        exact ⟨_, _, A, c, rfl, lt_of_some hk3, by rw [List.length_take, Nat.min_eq_left (by omega)]; exact cell_of_blk hk3 0, (HL.out.later hb3).take i⟩
      · obtain rfl : L.drop (i + 1) = l := by simpa using hl
        exact ⟨_, _, A', c - (i + 1), rfl, lt_of_some hk3, by rw [List.length_drop]; exact cell_of_blk hk3 1, hSd.later hb3⟩
      · simp at hl
    obtain ⟨M, hM⟩ : ∃ M, M = L.take i ++ L.drop (i + 1) := ⟨_, rfl⟩
    have hC : ∀ W4 : World, W4 = W3.drew → Calls Tryd.prog 74 #[.slice (some ⟨W2.heap.size, 0, none⟩) 2 2] W4 fun e w' => ∃ A' c', e = .returned (.slice A' M.length c') ∧ Owned w' W3.heap.size M.length (.slice A' M.length c') M ∧ Below W2.heap.size W2 w' ∧ Below w.heap.size w w' := fun W4 hW4 => by
      have h := concat_any (some ⟨W2.heap.size, 0, none⟩) 2 [L.take i, L.drop (i + 1)] W3.drew (hSl.keep (Below.refl _ _).drew) (by simp) (fun l hl => by
        simp only [List.mem_cons, List.mem_nil_iff, or_false] at hl
        rcases hl with rfl | rfl
        · rw [List.length_take]; omega
        · rw [List.length_drop]; omega)
      rw [hW4]
      have e0 : [L.take i, L.drop (i + 1)].flatten = M := by rw [hM]; simp
      rw [e0] at h
      exact h.mono fun e w' ⟨A', c', e1, e2, e3⟩ => ⟨A', c', e1, e2, hb23.drew.trans (e3.mono hb23.size), hb3.drew.trans (e3.mono hb3.size)⟩
    have HC := Lib.hid hC
    have HW3 := Lib.hid hW3
    have HZ3 := Lib.hid (show w.heap.size + 3 ≤ W3.heap.size from Nat.le_trans HZ2.out hb23.size)
    have HS2 := Lib.hid hs2
    have HR2 := Lib.hid hr2
    have HX := Lib.hid (And.intro hx hxi)
    have HM := Lib.hid hM
    have HSk : Hid (∀ w' : World, Below W2.heap.size W2 w' → w'.cell? ⟨w.heap.size, 0, none⟩ = some (.slice A L.length c) ∧ w'.cell? ⟨w.heap.size, 1, none⟩ = some (.int .i64 ad)) := Lib.hid fun w' hb => by
      have e := (hb.block _ (lt_of_some HS2.out)).trans HS2.out
      exact ⟨cell_of_blk e 0, cell_of_blk e 1⟩
    have HSd := Lib.hid (HSk.out _ (Below.refl W2.heap.size W2).drew)
    have ne1 : w.heap.size + 2 ≠ w.heap.size := by omega
    clear hb2 hs2 hr2 hx hxi hSd hA' hk3 hb23 hb3 hSl hM hC hW3 HI HW1 HS1 HR1 s0 r0 r1 f0 f1
    go_wp2_with fail
    go_region_held3 (fun w' => w'.cell? ⟨w.heap.size, 0, none⟩ = some (.slice A L.length c) ∧ w'.cell? ⟨w.heap.size, 1, none⟩ = some (.int .i64 ad))
      (first | with_reducible exact HSd.out | with_reducible exact HSk.out _ hb25 | go_keep)
      (first | (go_at_call 74; refine (HC.out _ (by rw [HW3.out])).mono ?_; rintro e w5 ⟨A5, c5, rfl, hsl5, hb25, hb5⟩; have hr5 := (hb25.block _ (lt_of_some HR2.out)).trans HR2.out; have t0 := cell_of_blk hr5 0; have t1 := cell_of_blk hr5 1; have v0 := free_of_blk hr5 0; have v1 := free_of_blk hr5 1))
    obtain ⟨W6, hW6⟩ : ∃ W6, W6 = (w5.setCell ⟨w.heap.size + 1 + 1, 0, none⟩ (.slice A5 M.length c5)).setCell ⟨w.heap.size + 1 + 1, 1, none⟩ (.int .i64 ad) := ⟨_, rfl⟩
    have h6 := over2 (u0 := .slice A5 M.length c5) (u1 := .int .i64 ad) hr5
    have ho6 := (hsl5.store (g := w.heap.size + 1 + 1) (by have := HZ3.out; omega) 0 (.slice A5 M.length c5)).store (g := w.heap.size + 1 + 1) (by have := HZ3.out; omega) 1 (.int .i64 ad)
    rw [← hW6] at h6 ho6 ⊢
    have p0 : W6.cell? ⟨w.heap.size + 1 + 1, 0, none⟩ = some (.slice A5 M.length c5) := cell_of_blk h6 0
    have p1 : W6.cell? ⟨w.heap.size + 1 + 1, 1, none⟩ = some (.int .i64 ad) := cell_of_blk h6 1
    have hb6 : Below w.heap.size w W6 := by rw [hW6]; exact (hb5.setCell (p := ⟨w.heap.size + 1 + 1, 0, none⟩) (by show w.heap.size ≤ w.heap.size + 1 + 1; omega) _).setCell (p := ⟨w.heap.size + 1 + 1, 1, none⟩) (by show w.heap.size ≤ w.heap.size + 1 + 1; omega) _
    have HE : Hid (RemoveOut A c ad L id w (.returned (.tuple #[.agg #[.slice A5 M.length c5, .int .i64 ad], .int .i64 0])) W6) := Lib.hid (.inl ⟨i, x, HX.out.1, HX.out.2, A5, c5, by rw [HM.out]; rfl, by rw [← HM.out]; exact ho6.base (by have := HZ3.out; omega), hb6⟩)
    clear hsl5 hb25 hb5 hr5 t0 t1 v0 v1 h6 ho6 hb6 hW6 HSk HSd HC HW3 HR2 HS2 c0 c1 hs1 hs2' q2
    go_wp2_with fail
    exact bodyPost_ret (v := .tuple #[.agg #[.slice A5 M.length c5, .int .i64 ad], .int .i64 0]) (by simp [results, Tryd.results28, go_sem, p0, p1]) rfl HE.out
end Go.Proofs.YtniklphdnakehaaDoor.stk
