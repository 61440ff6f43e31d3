/- What call's read answers. Condition: at most a million bytes; what the listed variables hold. -/
import Derived.Test.YtfbgnafnpeeonaaDoorCalRead
namespace Go.Proofs.YtfbgnafnpeeonaaDoor.cal
set_option maxRecDepth 100000
open Go.RowKit Go.Proofs.YtfbgnafnpeeonaaDoor.words

/-- What read answers: a call, or none. -/
def ReadO (k : Int) (s : ByteArray) (w : World) (e : Ending) (w' : World) : Prop :=
  (∃ (p : ByteArray) (o n i : Int) (g : ByteArray) (f : Bool), e = .returned (.tuple #[opV k p o n i g, .bool f]) ∧ ((f = true ∧ readM k s.data.toList = some (opM k p o n i g) ∧ OpFit o n i p g) ∨ (f = false ∧ readM k s.data.toList = none))) ∧ Below w.heap.size w w'
theorem i64_0 : I64 0 := by unfold I64; omega
theorem nums_fit {a b : List UInt8} {x y : Int} (h : numsM a b = some (x, y)) : I64 x ∧ I64 y := by
  unfold numsM at h
  cases ha : numP a with
  | none => rw [ha] at h; cases h
  | some u =>
    cases hb : numP b with
    | none => rw [ha, hb] at h; cases h
    | some v =>
      rw [ha, hb] at h
      injection h with h
      injection h with h1 h2
      subst h1
      subst h2
      exact ⟨(numP_some ha).2, (numP_some hb).2⟩
theorem at_fit {s : List UInt8} {x y : Int} {p : List UInt8} (h : atM s = some (x, y, p)) : I64 x ∧ I64 y := by
  unfold atM at h
  split at h
  · obtain ⟨⟨a, b⟩, ha, hb⟩ := Option.map_eq_some_iff.1 h
    injection hb with e1 e2
    injection e2 with e2 e3
    subst e1
    subst e2
    exact nums_fit ha
  · cases h
theorem unH_size {l r : List UInt8} (h : unH l = some r) : r.length ≤ l.length := by
  have h1 := hexL_unH h
  unfold hexL at h1
  split at h1
  · rename_i h2
    rw [h2]
    simp
  · rw [← h1, hexP_len]
    omega
theorem read_4 (s : List UInt8) : readM 4 s = (atM s).map fun x => ⟨4, x.2.2, x.1, x.2.1, 0, []⟩ := by
  unfold readM atM
  rw [if_pos rfl]
  split
  · rw [Option.map_map]; rfl
  · rfl
theorem read_6 (s : List UInt8) : readM 6 s = (numsM (cutL s).1 (cutL s).2.1).map fun x => ⟨6, [], 0, x.2, x.1, []⟩ := rfl
theorem put_read {w W1 : World} {b : Nat} {k : Int} {s : ByteArray} (hb : Below w.heap.size w W1) (hbb : w.heap.size ≤ b) {u0 u1 u2 u3 u4 u5 : Value} (hr : W1.heap[b]? = some (.cells #[u0, u1, u2, u3, u4, u5] 45 (0, 0))) (p : ByteArray) (o n i : Int) (g : ByteArray) (f : Bool)
    (hm : (f = true ∧ readM k s.data.toList = some (opM k p o n i g) ∧ OpFit o n i p g) ∨ (f = false ∧ readM k s.data.toList = none)) :
    ∀ W, W = set6 W1 b (.int .i64 k) (.string p) (.int .i64 o) (.int .i64 n) (.int .i64 i) (.string g) → W.cell? ⟨b, 0, none⟩ = some (.int .i64 k) ∧ W.cell? ⟨b, 1, none⟩ = some (.string p) ∧ W.cell? ⟨b, 2, none⟩ = some (.int .i64 o) ∧ W.cell? ⟨b, 3, none⟩ = some (.int .i64 n) ∧ W.cell? ⟨b, 4, none⟩ = some (.int .i64 i) ∧ W.cell? ⟨b, 5, none⟩ = some (.string g) ∧
      ReadO k s w (.returned (.tuple #[.agg #[.int .i64 k, .string p, .int .i64 o, .int .i64 n, .int .i64 i, .string g], .bool f])) W := fun W hW => by
  have ho := over6 (u0 := .int .i64 k) (u1 := .string p) (u2 := .int .i64 o) (u3 := .int .i64 n) (u4 := .int .i64 i) (u5 := .string g) hr
  have hbd := below6 hb hbb (.int .i64 k) (.string p) (.int .i64 o) (.int .i64 n) (.int .i64 i) (.string g)
  rw [← hW] at ho hbd
  exact ⟨cell_of_blk ho 0, cell_of_blk ho 1, cell_of_blk ho 2, cell_of_blk ho 3, cell_of_blk ho 4, cell_of_blk ho 5, ⟨p, o, n, i, g, f, rfl, hm⟩, hbd⟩
theorem blk6 {w : World} {b : Nat} {T : TypeId} {u0 u1 u2 u3 u4 u5 : Value} (h : w.heap[b]? = some (.cells #[u0, u1, u2, u3, u4, u5] T (0, 0))) (j : Nat) (v : Value) :
    (w.setCell ⟨b, j, none⟩ v).heap[b]? = some (.cells (#[u0, u1, u2, u3, u4, u5].setIfInBounds j v) T (0, 0)) := by
  simp [World.setCell, Array.getElem?_modify, h]
set_option maxHeartbeats 6400000 in
theorem read_any (m : Int) (k : Int) (s : ByteArray) (w : World) (hs : s.size ≤ 1000000) (hE : Env m w) : Calls Tryd.prog 65 #[.int .i64 k, .string s] w (ReadO k s w) := by
  obtain ⟨W1, hW1⟩ : ∃ W1, W1 = w.alloc (.cells #[.int .i64 0, .string ⟨#[]⟩, .int .i64 0, .int .i64 0, .int .i64 0, .string ⟨#[]⟩] 45) := ⟨_, rfl⟩
  have hb1 : Below w.heap.size w W1 := by rw [hW1]; exact (Below.refl _ _).alloc (Nat.le_refl _) _
  have hx1 : W1.heap[w.heap.size]? = some (opB 0 ⟨#[]⟩ 0 0 0 ⟨#[]⟩) := by rw [hW1]; exact heap_alloc_new w _
  unfold opB at hx1
  obtain ⟨W2, hW2⟩ : ∃ W2, W2 = W1.setCell ⟨w.heap.size, 0, none⟩ (.int .i64 k) := ⟨_, rfl⟩
  have hx2 : W2.heap[w.heap.size]? = some (.cells #[.int .i64 k, .string ⟨#[]⟩, .int .i64 0, .int .i64 0, .int .i64 0, .string ⟨#[]⟩] 45 (0, 0)) := by rw [hW2]; exact blk6 hx1 0 _
  have hb2 : Below w.heap.size w W2 := by rw [hW2]; exact hb1.setCell (p := ⟨w.heap.size, 0, none⟩) (Nat.le_refl _) _
  have HX2 := Lib.hid hx2
  have HB2 := Lib.hid hb2
  have HE2 := Lib.hid (hE.later hb2)
  have HW1 := Lib.hid hW1.symm
  have HW2 := Lib.hid hW2.symm
  have a0 := cell_of_blk hx1 0
  have y0 := free_of_blk hx1 0
  clear hW1 hb1 hx1 hW2 hx2 hb2 hE
  go_enter Tryd.func65, Tryd.ntmps65
  go_upto_region 1 with fail
  rw [HW1.out]
  go_upto_region 2 with fail
  rw [HW2.out]
  clear HW1 HW2 a0 y0
  by_cases h4 : k = 4
  · subst h4
    have HC := Lib.hid (readat_any m s W2 hs HE2.out)
    go_wp2_with fail
    refine HC.out.mono ?_
    rintro e w3 ⟨⟨x, y, p, hp, ho⟩, hb3⟩
    have hx3 := (hb3.block _ (lt_of_some HX2.out)).trans HX2.out
    have hw3 := HB2.out.trans (hb3.mono HB2.out.size)
    rcases ho with ⟨h1, rfl⟩ | ⟨h1, rfl⟩
    · have hfit := at_fit h1
      have hs0 : (w3.setCell ⟨w.heap.size, 2, none⟩ (.int .i64 x)).heap[w.heap.size]? = some (.cells #[.int .i64 4, .string ⟨#[]⟩, .int .i64 x, .int .i64 0, .int .i64 0, .string ⟨#[]⟩] 45 (0, 0)) := blk6 hx3 2 _
      have hq0 : Below w.heap.size w (w3.setCell ⟨w.heap.size, 2, none⟩ (.int .i64 x)) := hw3.setCell (p := ⟨w.heap.size, 2, none⟩) (Nat.le_refl _) _
      have hs1 : ((w3.setCell ⟨w.heap.size, 2, none⟩ (.int .i64 x)).setCell ⟨w.heap.size, 3, none⟩ (.int .i64 y)).heap[w.heap.size]? = some (.cells #[.int .i64 4, .string ⟨#[]⟩, .int .i64 x, .int .i64 y, .int .i64 0, .string ⟨#[]⟩] 45 (0, 0)) := blk6 hs0 3 _
      have hq1 : Below w.heap.size w ((w3.setCell ⟨w.heap.size, 2, none⟩ (.int .i64 x)).setCell ⟨w.heap.size, 3, none⟩ (.int .i64 y)) := hq0.setCell (p := ⟨w.heap.size, 3, none⟩) (Nat.le_refl _) _
      have hs2 : (((w3.setCell ⟨w.heap.size, 2, none⟩ (.int .i64 x)).setCell ⟨w.heap.size, 3, none⟩ (.int .i64 y)).setCell ⟨w.heap.size, 1, none⟩ (.string p)).heap[w.heap.size]? = some (.cells #[.int .i64 4, .string p, .int .i64 x, .int .i64 y, .int .i64 0, .string ⟨#[]⟩] 45 (0, 0)) := blk6 hs1 1 _
      have hq2 : Below w.heap.size w (((w3.setCell ⟨w.heap.size, 2, none⟩ (.int .i64 x)).setCell ⟨w.heap.size, 3, none⟩ (.int .i64 y)).setCell ⟨w.heap.size, 1, none⟩ (.string p)) := hq1.setCell (p := ⟨w.heap.size, 1, none⟩) (Nat.le_refl _) _
      have a2 := cell_of_blk hx3 2
      have y2 := free_of_blk hx3 2
      have a3 := cell_of_blk hx3 3
      have y3 := free_of_blk hx3 3
      have a1 := cell_of_blk hx3 1
      have y1 := free_of_blk hx3 1
      have a0_3 := cell_of_blk hs0 3
      have y0_3 := free_of_blk hs0 3
      have a0_1 := cell_of_blk hs0 1
      have y0_1 := free_of_blk hs0 1
      have a1_1 := cell_of_blk hs1 1
      have y1_1 := free_of_blk hs1 1
      obtain ⟨W4, hW4⟩ : ∃ W4, W4 = (((w3.setCell ⟨w.heap.size, 2, none⟩ (.int .i64 x)).setCell ⟨w.heap.size, 3, none⟩ (.int .i64 y)).setCell ⟨w.heap.size, 1, none⟩ (.string p)) := ⟨_, rfl⟩
      have hx4 := hs2
      have hbW := hq2
      rw [← hW4] at hx4 hbW
      have HW4 := Lib.hid hW4.symm
      have HP := Lib.hid (put_read (k := 4) (s := s) hbW (Nat.le_refl _) hx4 p x y 0 ⟨#[]⟩ true (.inl ⟨rfl, by rw [read_4, h1]; rfl, hfit.1, hfit.2, i64_0, by omega, by decide⟩))
      have d0 : W4.cell? ⟨w.heap.size, 0, none⟩ = some (.int .i64 4) := cell_of_blk hx4 0
      have z0 := free_of_blk hx4 0
      have d1 : W4.cell? ⟨w.heap.size, 1, none⟩ = some (.string p) := cell_of_blk hx4 1
      have z1 := free_of_blk hx4 1
      have d2 : W4.cell? ⟨w.heap.size, 2, none⟩ = some (.int .i64 x) := cell_of_blk hx4 2
      have z2 := free_of_blk hx4 2
      have d3 : W4.cell? ⟨w.heap.size, 3, none⟩ = some (.int .i64 y) := cell_of_blk hx4 3
      have z3 := free_of_blk hx4 3
      have d4 : W4.cell? ⟨w.heap.size, 4, none⟩ = some (.int .i64 0) := cell_of_blk hx4 4
      have z4 := free_of_blk hx4 4
      have d5 : W4.cell? ⟨w.heap.size, 5, none⟩ = some (.string ⟨#[]⟩) := cell_of_blk hx4 5
      have z5 := free_of_blk hx4 5
      clear hs0 hq0 hs1 hq1 hs2 hq2 hW4 hx4 hbW hb3 hx3 hw3 h1 hfit HC
      go_upto_region 14 with fail
      rw [HW4.out]
      clear HW4
      go_wp2_with fail
      obtain ⟨p0, p1, p2, p3, p4, p5, HE⟩ := HP.out _ rfl
      unfold set6 at p0 p1 p2 p3 p4 p5 HE
      exact bodyPost_ret (v := .tuple #[.agg #[.int .i64 4, .string p, .int .i64 x, .int .i64 y, .int .i64 0, .string ⟨#[]⟩], .bool true]) (by simp [results, Tryd.results65, go_sem, p0, p1, p2, p3, p4, p5]) rfl HE
    · have hs0 : (w3.setCell ⟨w.heap.size, 2, none⟩ (.int .i64 x)).heap[w.heap.size]? = some (.cells #[.int .i64 4, .string ⟨#[]⟩, .int .i64 x, .int .i64 0, .int .i64 0, .string ⟨#[]⟩] 45 (0, 0)) := blk6 hx3 2 _
      have hq0 : Below w.heap.size w (w3.setCell ⟨w.heap.size, 2, none⟩ (.int .i64 x)) := hw3.setCell (p := ⟨w.heap.size, 2, none⟩) (Nat.le_refl _) _
      have hs1 : ((w3.setCell ⟨w.heap.size, 2, none⟩ (.int .i64 x)).setCell ⟨w.heap.size, 3, none⟩ (.int .i64 y)).heap[w.heap.size]? = some (.cells #[.int .i64 4, .string ⟨#[]⟩, .int .i64 x, .int .i64 y, .int .i64 0, .string ⟨#[]⟩] 45 (0, 0)) := blk6 hs0 3 _
      have hq1 : Below w.heap.size w ((w3.setCell ⟨w.heap.size, 2, none⟩ (.int .i64 x)).setCell ⟨w.heap.size, 3, none⟩ (.int .i64 y)) := hq0.setCell (p := ⟨w.heap.size, 3, none⟩) (Nat.le_refl _) _
      have hs2 : (((w3.setCell ⟨w.heap.size, 2, none⟩ (.int .i64 x)).setCell ⟨w.heap.size, 3, none⟩ (.int .i64 y)).setCell ⟨w.heap.size, 1, none⟩ (.string p)).heap[w.heap.size]? = some (.cells #[.int .i64 4, .string p, .int .i64 x, .int .i64 y, .int .i64 0, .string ⟨#[]⟩] 45 (0, 0)) := blk6 hs1 1 _
      have hq2 : Below w.heap.size w (((w3.setCell ⟨w.heap.size, 2, none⟩ (.int .i64 x)).setCell ⟨w.heap.size, 3, none⟩ (.int .i64 y)).setCell ⟨w.heap.size, 1, none⟩ (.string p)) := hq1.setCell (p := ⟨w.heap.size, 1, none⟩) (Nat.le_refl _) _
      have a2 := cell_of_blk hx3 2
      have y2 := free_of_blk hx3 2
      have a3 := cell_of_blk hx3 3
      have y3 := free_of_blk hx3 3
      have a1 := cell_of_blk hx3 1
      have y1 := free_of_blk hx3 1
      have a0_3 := cell_of_blk hs0 3
      have y0_3 := free_of_blk hs0 3
      have a0_1 := cell_of_blk hs0 1
      have y0_1 := free_of_blk hs0 1
      have a1_1 := cell_of_blk hs1 1
      have y1_1 := free_of_blk hs1 1
      obtain ⟨W4, hW4⟩ : ∃ W4, W4 = (((w3.setCell ⟨w.heap.size, 2, none⟩ (.int .i64 x)).setCell ⟨w.heap.size, 3, none⟩ (.int .i64 y)).setCell ⟨w.heap.size, 1, none⟩ (.string p)) := ⟨_, rfl⟩
      have hx4 := hs2
      have hbW := hq2
      rw [← hW4] at hx4 hbW
      have HW4 := Lib.hid hW4.symm
      have HP := Lib.hid (put_read (k := 4) (s := s) hbW (Nat.le_refl _) hx4 p x y 0 ⟨#[]⟩ false (.inr ⟨rfl, by rw [read_4, h1]; rfl⟩))
      have d0 : W4.cell? ⟨w.heap.size, 0, none⟩ = some (.int .i64 4) := cell_of_blk hx4 0
      have z0 := free_of_blk hx4 0
      have d1 : W4.cell? ⟨w.heap.size, 1, none⟩ = some (.string p) := cell_of_blk hx4 1
      have z1 := free_of_blk hx4 1
      have d2 : W4.cell? ⟨w.heap.size, 2, none⟩ = some (.int .i64 x) := cell_of_blk hx4 2
      have z2 := free_of_blk hx4 2
      have d3 : W4.cell? ⟨w.heap.size, 3, none⟩ = some (.int .i64 y) := cell_of_blk hx4 3
      have z3 := free_of_blk hx4 3
      have d4 : W4.cell? ⟨w.heap.size, 4, none⟩ = some (.int .i64 0) := cell_of_blk hx4 4
      have z4 := free_of_blk hx4 4
      have d5 : W4.cell? ⟨w.heap.size, 5, none⟩ = some (.string ⟨#[]⟩) := cell_of_blk hx4 5
      have z5 := free_of_blk hx4 5
      clear hs0 hq0 hs1 hq1 hs2 hq2 hW4 hx4 hbW hb3 hx3 hw3 h1 HC
      go_upto_region 14 with fail
      rw [HW4.out]
      clear HW4
      go_wp2_with fail
      obtain ⟨p0, p1, p2, p3, p4, p5, HE⟩ := HP.out _ rfl
      unfold set6 at p0 p1 p2 p3 p4 p5 HE
      exact bodyPost_ret (v := .tuple #[.agg #[.int .i64 4, .string p, .int .i64 x, .int .i64 y, .int .i64 0, .string ⟨#[]⟩], .bool false]) (by simp [results, Tryd.results65, go_sem, p0, p1, p2, p3, p4, p5]) rfl HE
  have g4 : (k == 4) = false := by rw [beq_eq_false_iff_ne]; exact h4
  by_cases h6 : k = 6
  · subst h6
    clear h4
    have HC := Lib.hid (cut_any m s W2 hs HE2.out)
    go_wp2_with fail
    refine HC.out.mono ?_
    rintro e w3 ⟨⟨a, b, f, rfl, hc⟩, hb3⟩
    have hz := cut_size hc
    have HN := Lib.hid (numbers_any m a b w3 (by omega) (by omega) (HE2.out.later hb3))
    have HB3 := Lib.hid hb3
    have HCt := Lib.hid hc
    clear hc hb3 hz HC
    go_wp2_with fail
    refine HN.out.mono ?_
    rintro e w4 ⟨ho, hb4⟩
    have hb3 := HB3.out.trans (hb4.mono HB3.out.size)
    have hx3 := (hb3.block _ (lt_of_some HX2.out)).trans HX2.out
    have hw3 := HB2.out.trans (hb3.mono HB2.out.size)
    rcases ho with ⟨⟨x, y⟩, h1, rfl⟩ | ⟨h1, x, y, rfl⟩
    · have hfit := nums_fit h1
      have hs0 : (w4.setCell ⟨w.heap.size, 4, none⟩ (.int .i64 x)).heap[w.heap.size]? = some (.cells #[.int .i64 6, .string ⟨#[]⟩, .int .i64 0, .int .i64 0, .int .i64 x, .string ⟨#[]⟩] 45 (0, 0)) := blk6 hx3 4 _
      have hq0 : Below w.heap.size w (w4.setCell ⟨w.heap.size, 4, none⟩ (.int .i64 x)) := hw3.setCell (p := ⟨w.heap.size, 4, none⟩) (Nat.le_refl _) _
      have hs1 : ((w4.setCell ⟨w.heap.size, 4, none⟩ (.int .i64 x)).setCell ⟨w.heap.size, 3, none⟩ (.int .i64 y)).heap[w.heap.size]? = some (.cells #[.int .i64 6, .string ⟨#[]⟩, .int .i64 0, .int .i64 y, .int .i64 x, .string ⟨#[]⟩] 45 (0, 0)) := blk6 hs0 3 _
      have hq1 : Below w.heap.size w ((w4.setCell ⟨w.heap.size, 4, none⟩ (.int .i64 x)).setCell ⟨w.heap.size, 3, none⟩ (.int .i64 y)) := hq0.setCell (p := ⟨w.heap.size, 3, none⟩) (Nat.le_refl _) _
      have a4 := cell_of_blk hx3 4
      have y4 := free_of_blk hx3 4
      have a3 := cell_of_blk hx3 3
      have y3 := free_of_blk hx3 3
      have a0_3 := cell_of_blk hs0 3
      have y0_3 := free_of_blk hs0 3
      obtain ⟨W4, hW4⟩ : ∃ W4, W4 = ((w4.setCell ⟨w.heap.size, 4, none⟩ (.int .i64 x)).setCell ⟨w.heap.size, 3, none⟩ (.int .i64 y)) := ⟨_, rfl⟩
      have hx4 := hs1
      have hbW := hq1
      rw [← hW4] at hx4 hbW
      have HW4 := Lib.hid hW4.symm
      have HP := Lib.hid (put_read (k := 6) (s := s) hbW (Nat.le_refl _) hx4 ⟨#[]⟩ 0 y x ⟨#[]⟩ true (.inl ⟨rfl, by rw [read_6, HCt.out, h1]; rfl, i64_0, hfit.2, hfit.1, by decide, by decide⟩))
      have d0 : W4.cell? ⟨w.heap.size, 0, none⟩ = some (.int .i64 6) := cell_of_blk hx4 0
      have z0 := free_of_blk hx4 0
      have d1 : W4.cell? ⟨w.heap.size, 1, none⟩ = some (.string ⟨#[]⟩) := cell_of_blk hx4 1
      have z1 := free_of_blk hx4 1
      have d2 : W4.cell? ⟨w.heap.size, 2, none⟩ = some (.int .i64 0) := cell_of_blk hx4 2
      have z2 := free_of_blk hx4 2
      have d3 : W4.cell? ⟨w.heap.size, 3, none⟩ = some (.int .i64 y) := cell_of_blk hx4 3
      have z3 := free_of_blk hx4 3
      have d4 : W4.cell? ⟨w.heap.size, 4, none⟩ = some (.int .i64 x) := cell_of_blk hx4 4
      have z4 := free_of_blk hx4 4
      have d5 : W4.cell? ⟨w.heap.size, 5, none⟩ = some (.string ⟨#[]⟩) := cell_of_blk hx4 5
      have z5 := free_of_blk hx4 5
      clear hs0 hq0 hs1 hq1 hW4 hx4 hbW hb3 hb4 hx3 hw3 h1 hfit HN
      go_upto_region 14 with fail
      rw [HW4.out]
      clear HW4
      go_wp2_with fail
      obtain ⟨p0, p1, p2, p3, p4, p5, HE⟩ := HP.out _ rfl
      unfold set6 at p0 p1 p2 p3 p4 p5 HE
      exact bodyPost_ret (v := .tuple #[.agg #[.int .i64 6, .string ⟨#[]⟩, .int .i64 0, .int .i64 y, .int .i64 x, .string ⟨#[]⟩], .bool true]) (by simp [results, Tryd.results65, go_sem, p0, p1, p2, p3, p4, p5]) rfl HE
    · have hs0 : (w4.setCell ⟨w.heap.size, 4, none⟩ (.int .i64 x)).heap[w.heap.size]? = some (.cells #[.int .i64 6, .string ⟨#[]⟩, .int .i64 0, .int .i64 0, .int .i64 x, .string ⟨#[]⟩] 45 (0, 0)) := blk6 hx3 4 _
      have hq0 : Below w.heap.size w (w4.setCell ⟨w.heap.size, 4, none⟩ (.int .i64 x)) := hw3.setCell (p := ⟨w.heap.size, 4, none⟩) (Nat.le_refl _) _
      have hs1 : ((w4.setCell ⟨w.heap.size, 4, none⟩ (.int .i64 x)).setCell ⟨w.heap.size, 3, none⟩ (.int .i64 y)).heap[w.heap.size]? = some (.cells #[.int .i64 6, .string ⟨#[]⟩, .int .i64 0, .int .i64 y, .int .i64 x, .string ⟨#[]⟩] 45 (0, 0)) := blk6 hs0 3 _
      have hq1 : Below w.heap.size w ((w4.setCell ⟨w.heap.size, 4, none⟩ (.int .i64 x)).setCell ⟨w.heap.size, 3, none⟩ (.int .i64 y)) := hq0.setCell (p := ⟨w.heap.size, 3, none⟩) (Nat.le_refl _) _
      have a4 := cell_of_blk hx3 4
      have y4 := free_of_blk hx3 4
      have a3 := cell_of_blk hx3 3
      have y3 := free_of_blk hx3 3
      have a0_3 := cell_of_blk hs0 3
      have y0_3 := free_of_blk hs0 3
      obtain ⟨W4, hW4⟩ : ∃ W4, W4 = ((w4.setCell ⟨w.heap.size, 4, none⟩ (.int .i64 x)).setCell ⟨w.heap.size, 3, none⟩ (.int .i64 y)) := ⟨_, rfl⟩
      have hx4 := hs1
      have hbW := hq1
      rw [← hW4] at hx4 hbW
      have HW4 := Lib.hid hW4.symm
      have HP := Lib.hid (put_read (k := 6) (s := s) hbW (Nat.le_refl _) hx4 ⟨#[]⟩ 0 y x ⟨#[]⟩ false (.inr ⟨rfl, by rw [read_6, HCt.out, h1]; rfl⟩))
      have d0 : W4.cell? ⟨w.heap.size, 0, none⟩ = some (.int .i64 6) := cell_of_blk hx4 0
      have z0 := free_of_blk hx4 0
      have d1 : W4.cell? ⟨w.heap.size, 1, none⟩ = some (.string ⟨#[]⟩) := cell_of_blk hx4 1
      have z1 := free_of_blk hx4 1
      have d2 : W4.cell? ⟨w.heap.size, 2, none⟩ = some (.int .i64 0) := cell_of_blk hx4 2
      have z2 := free_of_blk hx4 2
      have d3 : W4.cell? ⟨w.heap.size, 3, none⟩ = some (.int .i64 y) := cell_of_blk hx4 3
      have z3 := free_of_blk hx4 3
      have d4 : W4.cell? ⟨w.heap.size, 4, none⟩ = some (.int .i64 x) := cell_of_blk hx4 4
      have z4 := free_of_blk hx4 4
      have d5 : W4.cell? ⟨w.heap.size, 5, none⟩ = some (.string ⟨#[]⟩) := cell_of_blk hx4 5
      have z5 := free_of_blk hx4 5
      clear hs0 hq0 hs1 hq1 hW4 hx4 hbW hb3 hb4 hx3 hw3 h1 HN
      go_upto_region 14 with fail
      rw [HW4.out]
      clear HW4
      go_wp2_with fail
      obtain ⟨p0, p1, p2, p3, p4, p5, HE⟩ := HP.out _ rfl
      unfold set6 at p0 p1 p2 p3 p4 p5 HE
      exact bodyPost_ret (v := .tuple #[.agg #[.int .i64 6, .string ⟨#[]⟩, .int .i64 0, .int .i64 y, .int .i64 x, .string ⟨#[]⟩], .bool false]) (by simp [results, Tryd.results65, go_sem, p0, p1, p2, p3, p4, p5]) rfl HE
  have g6 : (k == 6) = false := by rw [beq_eq_false_iff_ne]; exact h6
  by_cases h7 : k = 7
  · subst h7
    clear h4 h6
    have HC := Lib.hid (number_any m s W2 (by omega) HE2.out)
    have HRd : Hid (readM 7 s.data.toList = (numP s.data.toList).map fun x => ⟨7, [], 0, 0, x, []⟩) := Lib.hid rfl
    go_wp2_with fail
    refine HC.out.mono ?_
    rintro e w3 ⟨ho, hb3⟩
    have hx3 := (hb3.block _ (lt_of_some HX2.out)).trans HX2.out
    have hw3 := HB2.out.trans (hb3.mono HB2.out.size)
    rcases ho with ⟨h1, rfl⟩ | ⟨x, h1, rfl⟩
    · have hs0 : (w3.setCell ⟨w.heap.size, 4, none⟩ (.int .i64 0)).heap[w.heap.size]? = some (.cells #[.int .i64 7, .string ⟨#[]⟩, .int .i64 0, .int .i64 0, .int .i64 0, .string ⟨#[]⟩] 45 (0, 0)) := blk6 hx3 4 _
      have hq0 : Below w.heap.size w (w3.setCell ⟨w.heap.size, 4, none⟩ (.int .i64 0)) := hw3.setCell (p := ⟨w.heap.size, 4, none⟩) (Nat.le_refl _) _
      have a4 := cell_of_blk hx3 4
      have y4 := free_of_blk hx3 4
      obtain ⟨W4, hW4⟩ : ∃ W4, W4 = (w3.setCell ⟨w.heap.size, 4, none⟩ (.int .i64 0)) := ⟨_, rfl⟩
      have hx4 := hs0
      have hbW := hq0
      rw [← hW4] at hx4 hbW
      have HW4 := Lib.hid hW4.symm
      have HP := Lib.hid (put_read (k := 7) (s := s) hbW (Nat.le_refl _) hx4 ⟨#[]⟩ 0 0 0 ⟨#[]⟩ false (.inr ⟨rfl, by rw [HRd.out, h1]; rfl⟩))
      have d0 : W4.cell? ⟨w.heap.size, 0, none⟩ = some (.int .i64 7) := cell_of_blk hx4 0
      have z0 := free_of_blk hx4 0
      have d1 : W4.cell? ⟨w.heap.size, 1, none⟩ = some (.string ⟨#[]⟩) := cell_of_blk hx4 1
      have z1 := free_of_blk hx4 1
      have d2 : W4.cell? ⟨w.heap.size, 2, none⟩ = some (.int .i64 0) := cell_of_blk hx4 2
      have z2 := free_of_blk hx4 2
      have d3 : W4.cell? ⟨w.heap.size, 3, none⟩ = some (.int .i64 0) := cell_of_blk hx4 3
      have z3 := free_of_blk hx4 3
      have d4 : W4.cell? ⟨w.heap.size, 4, none⟩ = some (.int .i64 0) := cell_of_blk hx4 4
      have z4 := free_of_blk hx4 4
      have d5 : W4.cell? ⟨w.heap.size, 5, none⟩ = some (.string ⟨#[]⟩) := cell_of_blk hx4 5
      have z5 := free_of_blk hx4 5
      clear hs0 hq0 hW4 hx4 hbW hb3 hx3 hw3 h1 HC
      go_upto_region 14 with fail
      rw [HW4.out]
      clear HW4
      go_wp2_with fail
      obtain ⟨p0, p1, p2, p3, p4, p5, HE⟩ := HP.out _ rfl
      unfold set6 at p0 p1 p2 p3 p4 p5 HE
      exact bodyPost_ret (v := .tuple #[.agg #[.int .i64 7, .string ⟨#[]⟩, .int .i64 0, .int .i64 0, .int .i64 0, .string ⟨#[]⟩], .bool false]) (by simp [results, Tryd.results65, go_sem, p0, p1, p2, p3, p4, p5]) rfl HE
    · have hfit := (numP_some h1).2
      have hs0 : (w3.setCell ⟨w.heap.size, 4, none⟩ (.int .i64 x)).heap[w.heap.size]? = some (.cells #[.int .i64 7, .string ⟨#[]⟩, .int .i64 0, .int .i64 0, .int .i64 x, .string ⟨#[]⟩] 45 (0, 0)) := blk6 hx3 4 _
      have hq0 : Below w.heap.size w (w3.setCell ⟨w.heap.size, 4, none⟩ (.int .i64 x)) := hw3.setCell (p := ⟨w.heap.size, 4, none⟩) (Nat.le_refl _) _
      have a4 := cell_of_blk hx3 4
      have y4 := free_of_blk hx3 4
      obtain ⟨W4, hW4⟩ : ∃ W4, W4 = (w3.setCell ⟨w.heap.size, 4, none⟩ (.int .i64 x)) := ⟨_, rfl⟩
      have hx4 := hs0
      have hbW := hq0
      rw [← hW4] at hx4 hbW
      have HW4 := Lib.hid hW4.symm
      have HP := Lib.hid (put_read (k := 7) (s := s) hbW (Nat.le_refl _) hx4 ⟨#[]⟩ 0 0 x ⟨#[]⟩ true (.inl ⟨rfl, by rw [HRd.out, h1]; rfl, i64_0, i64_0, hfit, by decide, by decide⟩))
      have d0 : W4.cell? ⟨w.heap.size, 0, none⟩ = some (.int .i64 7) := cell_of_blk hx4 0
      have z0 := free_of_blk hx4 0
      have d1 : W4.cell? ⟨w.heap.size, 1, none⟩ = some (.string ⟨#[]⟩) := cell_of_blk hx4 1
      have z1 := free_of_blk hx4 1
      have d2 : W4.cell? ⟨w.heap.size, 2, none⟩ = some (.int .i64 0) := cell_of_blk hx4 2
      have z2 := free_of_blk hx4 2
      have d3 : W4.cell? ⟨w.heap.size, 3, none⟩ = some (.int .i64 0) := cell_of_blk hx4 3
      have z3 := free_of_blk hx4 3
      have d4 : W4.cell? ⟨w.heap.size, 4, none⟩ = some (.int .i64 x) := cell_of_blk hx4 4
      have z4 := free_of_blk hx4 4
      have d5 : W4.cell? ⟨w.heap.size, 5, none⟩ = some (.string ⟨#[]⟩) := cell_of_blk hx4 5
      have z5 := free_of_blk hx4 5
      clear hs0 hq0 hW4 hx4 hbW hb3 hx3 hw3 h1 hfit HC
      go_upto_region 14 with fail
      rw [HW4.out]
      clear HW4
      go_wp2_with fail
      obtain ⟨p0, p1, p2, p3, p4, p5, HE⟩ := HP.out _ rfl
      unfold set6 at p0 p1 p2 p3 p4 p5 HE
      exact bodyPost_ret (v := .tuple #[.agg #[.int .i64 7, .string ⟨#[]⟩, .int .i64 0, .int .i64 0, .int .i64 x, .string ⟨#[]⟩], .bool true]) (by simp [results, Tryd.results65, go_sem, p0, p1, p2, p3, p4, p5]) rfl HE
  have g7 : (k == 7) = false := by rw [beq_eq_false_iff_ne]; exact h7
  by_cases h9 : k = 9
  · subst h9
    clear h4 h6 h7
    have HC := Lib.hid (number_any m s W2 (by omega) HE2.out)
    have HRd : Hid (readM 9 s.data.toList = (numP s.data.toList).map fun x => ⟨9, [], 0, 0, x, []⟩) := Lib.hid rfl
    go_wp2_with fail
    refine HC.out.mono ?_
    rintro e w3 ⟨ho, hb3⟩
    have hx3 := (hb3.block _ (lt_of_some HX2.out)).trans HX2.out
    have hw3 := HB2.out.trans (hb3.mono HB2.out.size)
    rcases ho with ⟨h1, rfl⟩ | ⟨x, h1, rfl⟩
    · have hs0 : (w3.setCell ⟨w.heap.size, 4, none⟩ (.int .i64 0)).heap[w.heap.size]? = some (.cells #[.int .i64 9, .string ⟨#[]⟩, .int .i64 0, .int .i64 0, .int .i64 0, .string ⟨#[]⟩] 45 (0, 0)) := blk6 hx3 4 _
      have hq0 : Below w.heap.size w (w3.setCell ⟨w.heap.size, 4, none⟩ (.int .i64 0)) := hw3.setCell (p := ⟨w.heap.size, 4, none⟩) (Nat.le_refl _) _
      have a4 := cell_of_blk hx3 4
      have y4 := free_of_blk hx3 4
      obtain ⟨W4, hW4⟩ : ∃ W4, W4 = (w3.setCell ⟨w.heap.size, 4, none⟩ (.int .i64 0)) := ⟨_, rfl⟩
      have hx4 := hs0
      have hbW := hq0
      rw [← hW4] at hx4 hbW
      have HW4 := Lib.hid hW4.symm
      have HP := Lib.hid (put_read (k := 9) (s := s) hbW (Nat.le_refl _) hx4 ⟨#[]⟩ 0 0 0 ⟨#[]⟩ false (.inr ⟨rfl, by rw [HRd.out, h1]; rfl⟩))
      have d0 : W4.cell? ⟨w.heap.size, 0, none⟩ = some (.int .i64 9) := cell_of_blk hx4 0
      have z0 := free_of_blk hx4 0
      have d1 : W4.cell? ⟨w.heap.size, 1, none⟩ = some (.string ⟨#[]⟩) := cell_of_blk hx4 1
      have z1 := free_of_blk hx4 1
      have d2 : W4.cell? ⟨w.heap.size, 2, none⟩ = some (.int .i64 0) := cell_of_blk hx4 2
      have z2 := free_of_blk hx4 2
      have d3 : W4.cell? ⟨w.heap.size, 3, none⟩ = some (.int .i64 0) := cell_of_blk hx4 3
      have z3 := free_of_blk hx4 3
      have d4 : W4.cell? ⟨w.heap.size, 4, none⟩ = some (.int .i64 0) := cell_of_blk hx4 4
      have z4 := free_of_blk hx4 4
      have d5 : W4.cell? ⟨w.heap.size, 5, none⟩ = some (.string ⟨#[]⟩) := cell_of_blk hx4 5
      have z5 := free_of_blk hx4 5
      clear hs0 hq0 hW4 hx4 hbW hb3 hx3 hw3 h1 HC
      go_upto_region 14 with fail
      rw [HW4.out]
      clear HW4
      go_wp2_with fail
      obtain ⟨p0, p1, p2, p3, p4, p5, HE⟩ := HP.out _ rfl
      unfold set6 at p0 p1 p2 p3 p4 p5 HE
      exact bodyPost_ret (v := .tuple #[.agg #[.int .i64 9, .string ⟨#[]⟩, .int .i64 0, .int .i64 0, .int .i64 0, .string ⟨#[]⟩], .bool false]) (by simp [results, Tryd.results65, go_sem, p0, p1, p2, p3, p4, p5]) rfl HE
    · have hfit := (numP_some h1).2
      have hs0 : (w3.setCell ⟨w.heap.size, 4, none⟩ (.int .i64 x)).heap[w.heap.size]? = some (.cells #[.int .i64 9, .string ⟨#[]⟩, .int .i64 0, .int .i64 0, .int .i64 x, .string ⟨#[]⟩] 45 (0, 0)) := blk6 hx3 4 _
      have hq0 : Below w.heap.size w (w3.setCell ⟨w.heap.size, 4, none⟩ (.int .i64 x)) := hw3.setCell (p := ⟨w.heap.size, 4, none⟩) (Nat.le_refl _) _
      have a4 := cell_of_blk hx3 4
      have y4 := free_of_blk hx3 4
      obtain ⟨W4, hW4⟩ : ∃ W4, W4 = (w3.setCell ⟨w.heap.size, 4, none⟩ (.int .i64 x)) := ⟨_, rfl⟩
      have hx4 := hs0
      have hbW := hq0
      rw [← hW4] at hx4 hbW
      have HW4 := Lib.hid hW4.symm
      have HP := Lib.hid (put_read (k := 9) (s := s) hbW (Nat.le_refl _) hx4 ⟨#[]⟩ 0 0 x ⟨#[]⟩ true (.inl ⟨rfl, by rw [HRd.out, h1]; rfl, i64_0, i64_0, hfit, by decide, by decide⟩))
      have d0 : W4.cell? ⟨w.heap.size, 0, none⟩ = some (.int .i64 9) := cell_of_blk hx4 0
      have z0 := free_of_blk hx4 0
      have d1 : W4.cell? ⟨w.heap.size, 1, none⟩ = some (.string ⟨#[]⟩) := cell_of_blk hx4 1
      have z1 := free_of_blk hx4 1
      have d2 : W4.cell? ⟨w.heap.size, 2, none⟩ = some (.int .i64 0) := cell_of_blk hx4 2
      have z2 := free_of_blk hx4 2
      have d3 : W4.cell? ⟨w.heap.size, 3, none⟩ = some (.int .i64 0) := cell_of_blk hx4 3
      have z3 := free_of_blk hx4 3
      have d4 : W4.cell? ⟨w.heap.size, 4, none⟩ = some (.int .i64 x) := cell_of_blk hx4 4
      have z4 := free_of_blk hx4 4
      have d5 : W4.cell? ⟨w.heap.size, 5, none⟩ = some (.string ⟨#[]⟩) := cell_of_blk hx4 5
      have z5 := free_of_blk hx4 5
      clear hs0 hq0 hW4 hx4 hbW hb3 hx3 hw3 h1 hfit HC
      go_upto_region 14 with fail
      rw [HW4.out]
      clear HW4
      go_wp2_with fail
      obtain ⟨p0, p1, p2, p3, p4, p5, HE⟩ := HP.out _ rfl
      unfold set6 at p0 p1 p2 p3 p4 p5 HE
      exact bodyPost_ret (v := .tuple #[.agg #[.int .i64 9, .string ⟨#[]⟩, .int .i64 0, .int .i64 0, .int .i64 x, .string ⟨#[]⟩], .bool true]) (by simp [results, Tryd.results65, go_sem, p0, p1, p2, p3, p4, p5]) rfl HE
  have g9 : (k == 9) = false := by rw [beq_eq_false_iff_ne]; exact h9
  by_cases h8 : k = 8
  · subst h8
    clear h4 h6 h7 h9
    have HC := Lib.hid (bytes_any s W2 (by omega))
    have HRd : Hid (readM 8 s.data.toList = (unH s.data.toList).map fun x => ⟨8, [], 0, 0, 0, x⟩) := Lib.hid rfl
    go_wp2_with fail
    refine HC.out.mono ?_
    rintro e w3 ⟨ho, hb3⟩
    have hx3 := (hb3.block _ (lt_of_some HX2.out)).trans HX2.out
    have hw3 := HB2.out.trans (hb3.mono HB2.out.size)
    rcases ho with ⟨h1, rfl⟩ | ⟨r, h1, rfl⟩
    · have hs0 : (w3.setCell ⟨w.heap.size, 5, none⟩ (.string ⟨#[]⟩)).heap[w.heap.size]? = some (.cells #[.int .i64 8, .string ⟨#[]⟩, .int .i64 0, .int .i64 0, .int .i64 0, .string ⟨#[]⟩] 45 (0, 0)) := blk6 hx3 5 _
      have hq0 : Below w.heap.size w (w3.setCell ⟨w.heap.size, 5, none⟩ (.string ⟨#[]⟩)) := hw3.setCell (p := ⟨w.heap.size, 5, none⟩) (Nat.le_refl _) _
      have a5 := cell_of_blk hx3 5
      have y5 := free_of_blk hx3 5
      obtain ⟨W4, hW4⟩ : ∃ W4, W4 = (w3.setCell ⟨w.heap.size, 5, none⟩ (.string ⟨#[]⟩)) := ⟨_, rfl⟩
      have hx4 := hs0
      have hbW := hq0
      rw [← hW4] at hx4 hbW
      have HW4 := Lib.hid hW4.symm
      have HP := Lib.hid (put_read (k := 8) (s := s) hbW (Nat.le_refl _) hx4 ⟨#[]⟩ 0 0 0 ⟨#[]⟩ false (.inr ⟨rfl, by rw [HRd.out, h1]; rfl⟩))
      have d0 : W4.cell? ⟨w.heap.size, 0, none⟩ = some (.int .i64 8) := cell_of_blk hx4 0
      have z0 := free_of_blk hx4 0
      have d1 : W4.cell? ⟨w.heap.size, 1, none⟩ = some (.string ⟨#[]⟩) := cell_of_blk hx4 1
      have z1 := free_of_blk hx4 1
      have d2 : W4.cell? ⟨w.heap.size, 2, none⟩ = some (.int .i64 0) := cell_of_blk hx4 2
      have z2 := free_of_blk hx4 2
      have d3 : W4.cell? ⟨w.heap.size, 3, none⟩ = some (.int .i64 0) := cell_of_blk hx4 3
      have z3 := free_of_blk hx4 3
      have d4 : W4.cell? ⟨w.heap.size, 4, none⟩ = some (.int .i64 0) := cell_of_blk hx4 4
      have z4 := free_of_blk hx4 4
      have d5 : W4.cell? ⟨w.heap.size, 5, none⟩ = some (.string ⟨#[]⟩) := cell_of_blk hx4 5
      have z5 := free_of_blk hx4 5
      clear hs0 hq0 hW4 hx4 hbW hb3 hx3 hw3 h1 HC
      go_upto_region 14 with fail
      rw [HW4.out]
      clear HW4
      go_wp2_with fail
      obtain ⟨p0, p1, p2, p3, p4, p5, HE⟩ := HP.out _ rfl
      unfold set6 at p0 p1 p2 p3 p4 p5 HE
      exact bodyPost_ret (v := .tuple #[.agg #[.int .i64 8, .string ⟨#[]⟩, .int .i64 0, .int .i64 0, .int .i64 0, .string ⟨#[]⟩], .bool false]) (by simp [results, Tryd.results65, go_sem, p0, p1, p2, p3, p4, p5]) rfl HE
    · have hfit : r.size ≤ 1000000 := by have := unH_size h1; rw [size_list, size_list] at this; omega
      have hs0 : (w3.setCell ⟨w.heap.size, 5, none⟩ (.string r)).heap[w.heap.size]? = some (.cells #[.int .i64 8, .string ⟨#[]⟩, .int .i64 0, .int .i64 0, .int .i64 0, .string r] 45 (0, 0)) := blk6 hx3 5 _
      have hq0 : Below w.heap.size w (w3.setCell ⟨w.heap.size, 5, none⟩ (.string r)) := hw3.setCell (p := ⟨w.heap.size, 5, none⟩) (Nat.le_refl _) _
      have a5 := cell_of_blk hx3 5
      have y5 := free_of_blk hx3 5
      obtain ⟨W4, hW4⟩ : ∃ W4, W4 = (w3.setCell ⟨w.heap.size, 5, none⟩ (.string r)) := ⟨_, rfl⟩
      have hx4 := hs0
      have hbW := hq0
      rw [← hW4] at hx4 hbW
      have HW4 := Lib.hid hW4.symm
      have HP := Lib.hid (put_read (k := 8) (s := s) hbW (Nat.le_refl _) hx4 ⟨#[]⟩ 0 0 0 r true (.inl ⟨rfl, by rw [HRd.out, h1]; rfl, i64_0, i64_0, i64_0, by decide, hfit⟩))
      have d0 : W4.cell? ⟨w.heap.size, 0, none⟩ = some (.int .i64 8) := cell_of_blk hx4 0
      have z0 := free_of_blk hx4 0
      have d1 : W4.cell? ⟨w.heap.size, 1, none⟩ = some (.string ⟨#[]⟩) := cell_of_blk hx4 1
      have z1 := free_of_blk hx4 1
      have d2 : W4.cell? ⟨w.heap.size, 2, none⟩ = some (.int .i64 0) := cell_of_blk hx4 2
      have z2 := free_of_blk hx4 2
      have d3 : W4.cell? ⟨w.heap.size, 3, none⟩ = some (.int .i64 0) := cell_of_blk hx4 3
      have z3 := free_of_blk hx4 3
      have d4 : W4.cell? ⟨w.heap.size, 4, none⟩ = some (.int .i64 0) := cell_of_blk hx4 4
      have z4 := free_of_blk hx4 4
      have d5 : W4.cell? ⟨w.heap.size, 5, none⟩ = some (.string r) := cell_of_blk hx4 5
      have z5 := free_of_blk hx4 5
      clear hs0 hq0 hW4 hx4 hbW hb3 hx3 hw3 h1 hfit HC
      go_upto_region 14 with fail
      rw [HW4.out]
      clear HW4
      go_wp2_with fail
      obtain ⟨p0, p1, p2, p3, p4, p5, HE⟩ := HP.out _ rfl
      unfold set6 at p0 p1 p2 p3 p4 p5 HE
      exact bodyPost_ret (v := .tuple #[.agg #[.int .i64 8, .string ⟨#[]⟩, .int .i64 0, .int .i64 0, .int .i64 0, .string r], .bool true]) (by simp [results, Tryd.results65, go_sem, p0, p1, p2, p3, p4, p5]) rfl HE
  have g8 : (k == 8) = false := by rw [beq_eq_false_iff_ne]; exact h8
  have HRd : Hid (readM k s.data.toList = some ⟨k, s.data.toList, 0, 0, 0, []⟩) := Lib.hid (by unfold readM; rw [if_neg h4, if_neg h6, if_neg (fun h => h.elim h7 h9), if_neg h8])
  have hx3 := HX2.out
  have hw3 := HB2.out
  clear h4 h6 h7 h9 h8
  have hs0 : (W2.setCell ⟨w.heap.size, 1, none⟩ (.string s)).heap[w.heap.size]? = some (.cells #[.int .i64 k, .string s, .int .i64 0, .int .i64 0, .int .i64 0, .string ⟨#[]⟩] 45 (0, 0)) := blk6 hx3 1 _
  have hq0 : Below w.heap.size w (W2.setCell ⟨w.heap.size, 1, none⟩ (.string s)) := hw3.setCell (p := ⟨w.heap.size, 1, none⟩) (Nat.le_refl _) _
  have a1 := cell_of_blk hx3 1
  have y1 := free_of_blk hx3 1
  obtain ⟨W4, hW4⟩ : ∃ W4, W4 = (W2.setCell ⟨w.heap.size, 1, none⟩ (.string s)) := ⟨_, rfl⟩
  have hx4 := hs0
  have hbW := hq0
  rw [← hW4] at hx4 hbW
  have HW4 := Lib.hid hW4.symm
  have HP := Lib.hid (put_read (k := k) (s := s) hbW (Nat.le_refl _) hx4 s 0 0 0 ⟨#[]⟩ true (.inl ⟨rfl, HRd.out, i64_0, i64_0, i64_0, hs, by decide⟩))
  have d0 : W4.cell? ⟨w.heap.size, 0, none⟩ = some (.int .i64 k) := cell_of_blk hx4 0
  have z0 := free_of_blk hx4 0
  have d1 : W4.cell? ⟨w.heap.size, 1, none⟩ = some (.string s) := cell_of_blk hx4 1
  have z1 := free_of_blk hx4 1
  have d2 : W4.cell? ⟨w.heap.size, 2, none⟩ = some (.int .i64 0) := cell_of_blk hx4 2
  have z2 := free_of_blk hx4 2
  have d3 : W4.cell? ⟨w.heap.size, 3, none⟩ = some (.int .i64 0) := cell_of_blk hx4 3
  have z3 := free_of_blk hx4 3
  have d4 : W4.cell? ⟨w.heap.size, 4, none⟩ = some (.int .i64 0) := cell_of_blk hx4 4
  have z4 := free_of_blk hx4 4
  have d5 : W4.cell? ⟨w.heap.size, 5, none⟩ = some (.string ⟨#[]⟩) := cell_of_blk hx4 5
  have z5 := free_of_blk hx4 5
  clear hs0 hq0 hW4 hx4 hbW hx3 hw3
  go_upto_region 14 with fail
  rw [HW4.out]
  clear HW4
  go_wp2_with fail
  obtain ⟨p0, p1, p2, p3, p4, p5, HE⟩ := HP.out _ rfl
  unfold set6 at p0 p1 p2 p3 p4 p5 HE
  exact bodyPost_ret (v := .tuple #[.agg #[.int .i64 k, .string s, .int .i64 0, .int .i64 0, .int .i64 0, .string ⟨#[]⟩], .bool true]) (by simp [results, Tryd.results65, go_sem, p0, p1, p2, p3, p4, p5]) rfl HE
end Go.Proofs.YtfbgnafnpeeonaaDoor.cal
