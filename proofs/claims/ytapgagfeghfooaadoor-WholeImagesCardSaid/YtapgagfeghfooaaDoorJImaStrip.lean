/- What socagetop's strip answers: a tree without its files' extents. Condition: the node lies in memory. -/
import Derived.Test.YtapgagfeghfooaaDoorJImaGetAll
import Derived.Test.YtapgagfeghfooaaDoorJH
namespace Go.Proofs.YtapgagfeghfooaaDoor.ima
set_option maxRecDepth 100000
open Go.RowKit Go.Proofs.YtapgagfeghfooaaDoor.words Go.Proofs.YtapgagfeghfooaaDoor.ext Go.Proofs.YtapgagfeghfooaaDoor.name Go.Proofs.YtapgagfeghfooaaDoor.tre

mutual
/-- A tree without extents. -/
def stripN : Nd → Nd
  | .mk K O N I S _ T => .mk K O N (stripL I) S [] T
def stripL : List Nd → List Nd
  | [] => []
  | x :: L => stripN x :: stripL L
end
theorem stripN_eq (n : Nd) : stripN n = .mk n.K n.O n.N (stripL n.I) n.S [] n.T := by
  cases n
  rw [stripN]
  rfl
theorem stripL_map : ∀ (L : List Nd), stripL L = L.map stripN
  | [] => by rw [stripL]; rfl
  | x :: L => by rw [stripL, stripL_map L]; rfl
theorem stripL_len (L : List Nd) : (stripL L).length = L.length := by rw [stripL_map, List.length_map]
theorem stripL_snoc {L : List Nd} {j : Nat} {x : Nd} (h : L[j]? = some x) : stripL (L.take (j + 1)) = stripL (L.take j) ++ [stripN x] := by
  obtain ⟨hj, rfl⟩ := List.getElem?_eq_some_iff.1 h
  rw [stripL_map, stripL_map, List.take_succ_eq_append_getElem hj, List.map_append]
  rfl
/-- The boxes of a call of strip, and its row so far. -/
structure Sd (B : Nat) (w W : World) (n : Nd) (r : Raw) (bi : Value) (be : Value) (v : Value) (j : Nat) (I : List Nd) (J : List Nd) (rs : Nat → Raw) : Prop where
  box : W.heap[w.heap.size]? = some (.cells #[.int .i64 n.K, .bool n.O, .slice r.An n.N.length r.cn, bi, .int .i64 n.S, be, .string n.T] 27 (0, 0))
  ans : W.heap[w.heap.size + 1]? = some (.cells #[.int .i64 0, .bool false, .slice none 0 0, .slice none 0 0, .int .i64 0, .slice none 0 0, .string ⟨#[]⟩] 27 (0, 0))
  below : Below w.heap.size w W
  row : W.ownsRow (w.heap.size + 2) 27 7 v j (rowCells I rs)
  len : I.length = j
  items : ∀ (i : Nat) (x : Nd), J[i]? = some x → NdIn W (fun b => b < B ∨ (w.heap.size + 2 ≤ b ∧ b < W.heap.size ∧ v.ownBlock ≠ some b)) x (rs i)
section
variable {B : Nat} {w W W' : World} {n : Nd} {r : Raw} {bi be v v' : Value} {j : Nat} {I J : List Nd} {rs : Nat → Raw}
theorem Sd.later (h : Sd B w W n r bi be v j I J rs) (hB : B ≤ w.heap.size) (hb : Below W.heap.size W W') : Sd B w W' n r bi be v j I J rs :=
  ⟨(hb.block _ (lt_of_some h.box)).trans h.box, (hb.block _ (lt_of_some h.ans)).trans h.ans, h.below.trans (hb.mono h.below.size), row_later h.row hb, h.len, fun i x hx => (h.items i x hx).keep fun b hq => by
    have hlt : b < W.heap.size := by
      have := h.below.size
      rcases hq with hq | hq
      · omega
      · exact hq.2.1
    exact ⟨hb.block b hlt, hq.imp_right fun hq => ⟨hq.1, Nat.lt_of_lt_of_le hq.2.1 hb.size, hq.2.2⟩⟩⟩
theorem Sd.pend {W0 : World} (h : Sd B w W n r bi be v j I I rs) (h0 : Sd B w W0 n r bi be v j I I rs) {y : Nd} {r' : Raw} (hy : NdIn W (fun b => b < B ∨ (W0.heap.size ≤ b ∧ b < W.heap.size)) y r') : Sd B w W n r bi be v j I (I ++ [y]) (rsPut rs I.length r') := by
  refine ⟨h.box, h.ans, h.below, ?_, h.len, fun i x hx => ?_⟩
  · rw [rowCells_like (rs' := rs) fun i hi => by unfold rsPut; rw [if_neg (by omega)]]
    exact h.row
  · rcases Nat.lt_or_ge i I.length with hi | hi
    · rw [List.getElem?_append_left hi] at hx
      have := h.items i x hx
      unfold rsPut
      rw [if_neg (by omega)]
      exact this
    · have hi2 : i = I.length := by
        have := (List.getElem?_eq_some_iff.1 hx).1
        simp at this
        omega
      subst hi2
      rw [List.getElem?_append_right (Nat.le_refl _), Nat.sub_self] at hx
      have e : y = x := by simpa using hx
      subst e
      unfold rsPut
      rw [if_pos rfl]
      refine hy.keep fun b hb => ⟨rfl, hb.imp_right fun hb => ⟨by have := lt_of_some h0.ans; omega, hb.2, fun e => ?_⟩⟩
      have := (h0.row.lt b e).2
      omega
theorem Sd.low (h : Sd B w W n r bi be v j I J rs) : ∀ b, b < w.heap.size + 2 → v.ownBlock ≠ some b := fun b hb e => by have := (h.row.lt b e).1; omega
theorem Sd.entry (h : Sd B w W n r bi be v j I J rs) (hB : B ≤ w.heap.size) {y : Nd} (hown : W'.ownsRow (w.heap.size + 2) 27 7 v' (j + 1) (rowCells (I ++ [y]) rs)) (hg : W.grownBy W' v.ownBlock)
    (hat : v.ownBlock = v'.ownBlock ∨ v'.ownBlock = some W.heap.size) : Sd B w W' n r bi be v' (j + 1) (I ++ [y]) J rs := by
  have hz := h.below.size
  refine ⟨(hg.block _ (lt_of_some h.box) (h.low _ (by omega)).symm).trans h.box, (hg.block _ (lt_of_some h.ans) (h.low _ (by omega)).symm).trans h.ans, ⟨hg.os.trans h.below.os, hg.tape.trans h.below.tape, hg.output.trans h.below.output, Nat.le_trans hz hg.size, fun k hk => (hg.block k (Nat.lt_of_lt_of_le hk hz) (h.low k (by omega)).symm).trans (h.below.block k hk)⟩, hown, by rw [List.length_append, h.len]; rfl, fun i x hx => ?_⟩
  refine (h.items i x hx).keep fun b hq => ?_
  have hne : v.ownBlock ≠ some b := by
    rcases hq with hq | hq
    · exact h.low b (by omega)
    · exact hq.2.2
  have hlt : b < W.heap.size := by
    rcases hq with hq | hq
    · omega
    · exact hq.2.1
  refine ⟨hg.block b hlt fun e => hne e.symm, hq.imp_right fun hq => ⟨hq.1, Nat.lt_of_lt_of_le hlt hg.size, fun e2 => ?_⟩⟩
  rcases hat with hat | hat
  · exact hne (hat.trans e2)
  · rw [hat] at e2
    injection e2 with e2
    omega
theorem Sd.set (h : Sd B w W n r bi be v j I J rs) (hB : B ≤ w.heap.size) (k : Nat) (u : Value) {bi' be' : Value} (hc : (#[.int .i64 n.K, .bool n.O, .slice r.An n.N.length r.cn, bi, .int .i64 n.S, be, .string n.T] : Array Value).setIfInBounds k u = #[.int .i64 n.K, .bool n.O, .slice r.An n.N.length r.cn, bi', .int .i64 n.S, be', .string n.T]) :
    Sd B w (W.setCell ⟨w.heap.size, k, none⟩ u) n r bi' be' v j I J rs := by
  refine ⟨by rw [heap_setCell_same W w.heap.size k _ _ u h.box, hc], by rw [heap_setCell_other _ _ _ _ (by show w.heap.size + 1 ≠ w.heap.size; omega)]; exact h.ans, h.below.setCell (p := ⟨w.heap.size, k, none⟩) (Nat.le_refl _) _, own_setCell (p := ⟨w.heap.size, k, none⟩) h.row (h.low _ (by show w.heap.size < w.heap.size + 2; omega)) u, h.len, fun i x hx => (h.items i x hx).keep fun b hq => ?_⟩
  have hne : b ≠ w.heap.size := by
    rcases hq with hq | hq <;> omega
  exact ⟨Below.heap_setCell W ⟨w.heap.size, k, none⟩ u b hne, by simpa [World.setCell] using hq⟩
end
def StripOut (B : Nat) (n : Nd) (w : World) (e : Ending) (w' : World) : Prop := ∃ r', e = .returned (ndV (stripN n) r') ∧ NdIn w' (fun b => b < B ∨ (w.heap.size ≤ b ∧ b < w'.heap.size)) (stripN n) r' ∧ Below w.heap.size w w'
/-- The answer. -/
theorem Sd.node {B : Nat} {w W w' : World} {n : Nd} {r : Raw} {be : Value} {Ai : Option Addr} {ci : Nat} {rs : Nat → Raw} (h : Sd B w W n r (.slice Ai n.I.length ci) be (.slice Ai n.I.length ci) n.I.length (stripL n.I) (stripL n.I) rs) (hN : NdIn w (· < B) n r) (hB : B ≤ w.heap.size)
    (hk : ∀ b, b < W.heap.size → b ≠ w.heap.size + 1 → w'.heap[b]? = W.heap[b]?) (hs : W.heap.size ≤ w'.heap.size) : NdIn w' (fun b => b < B ∨ (w.heap.size ≤ b ∧ b < w'.heap.size)) (stripN n) ⟨r.An, r.cn, Ai, ci, none, 0⟩ := by
  have hz := h.below.size
  obtain ⟨rs0, fit, names, _, _, _⟩ := hN
  have hq : ∀ b, w.heap.size + 2 ≤ b ∧ b < W.heap.size → w'.heap[b]? = W.heap[b]? ∧ (b < B ∨ (w.heap.size ≤ b ∧ b < w'.heap.size)) := fun b hb => ⟨hk b hb.2 (by omega), .inr ⟨by omega, by omega⟩⟩
  have hl := stripL_len n.I
  have hrow := h.row
  obtain ⟨Ai', ci', ei, hci, hzi⟩ := own_facts hrow
  injection ei with e3 _ e4
  subst e3 e4
  rw [stripN_eq]
  refine .mk rs ⟨fit.k1, fit.k2, fit.s1, fit.s2, fit.t, fit.ln, by show (stripL n.I).length * 112 ≤ 140737488355328; rw [hl]; exact fit.li, show 0 * 24 ≤ 140737488355328 by decide, fit.cn, by show (stripL n.I).length ≤ ci; rw [hl]; exact hci, Nat.le_refl _, fit.zn, by show Ai = none → (stripL n.I).length = 0 ∧ ci = 0; rw [hl]; exact hzi, fun _ => ⟨rfl, rfl⟩⟩ ?_ (fun _ _ hx => (no_at hx).elim) ?_ ?_
  · exact names.keep fun b hb => ⟨(hk b (by omega) (by omega)).trans (h.below.block b (by omega)), .inl hb⟩
  · intro i x hx
    have hx' : (stripL n.I)[i]? = some x := hx
    have h00 := rowCells_at (rs := rs) hx' 0 _ (show (rawCells x (rs i))[0]? = some _ from rfl)
    obtain ⟨b, cur, hA, hB2, hlt, _, _⟩ := own_cell hrow h00
    refine ⟨b, 0, hA, (hq b ⟨hB2, hlt⟩).2, fun j v hj => ?_⟩
    have h7 := rowCells_at (rs := rs) hx' j v hj
    obtain ⟨b', _, hA', _, _, _, hc⟩ := own_cell hrow h7
    rw [hA] at hA'
    injection hA' with hA'
    injection hA' with hA'
    subst hA'
    rw [Nat.zero_add]
    exact (World.cell?_of_block (hq b ⟨hB2, hlt⟩).1).trans hc
  · intro i x hx
    refine (h.items i x hx).keep fun b hb => ?_
    rcases hb with hb | hb
    · exact ⟨hk b (by omega) (by omega), .inl hb⟩
    · exact hq b ⟨hb.1, hb.2.1⟩
theorem infoNode2 : (Tryd.prog.info? 27).map (fun i => (i.zero, i.size, i.bytes)) = some (some (.agg #[.int .i64 0, .bool false, .slice none 0 0, .slice none 0 0, .int .i64 0, .slice none 0 0, .string ⟨#[]⟩]), 7, 112) := by kernel_rfl
set_option maxHeartbeats 12800000 in
theorem strip_in (B : Nat) : ∀ (k : Nat) (n : Nd) (r : Raw) (w : World), depth n < k → NdIn w (· < B) n r → B ≤ w.heap.size → Calls Tryd.prog 15 #[ndV n r] w (StripOut B n w) := by
  intro k
  induction k with
  | zero => intro n r w hk; omega
  | succ k ih =>
    intro n r w hk hN hB
    obtain ⟨An, cn, Ai, ci, Ae, ce⟩ := r
    obtain ⟨iX, hiX, zX0, zX1, zX2⟩ := info_parts infoNode2
    obtain ⟨rs0, fit, names, exts, cells, items⟩ := id hN
    obtain ⟨W1, hW1⟩ : ∃ W1, W1 = w.alloc (.cells (rawCells n ⟨An, cn, Ai, ci, Ae, ce⟩) 27) := ⟨_, rfl⟩
    obtain ⟨W2, hW2⟩ : ∃ W2, W2 = W1.alloc (.cells #[.int .i64 0, .bool false, .slice none 0 0, .slice none 0 0, .int .i64 0, .slice none 0 0, .string ⟨#[]⟩] 27) := ⟨_, rfl⟩
    have hb1 : Below w.heap.size w W1 := by rw [hW1]; exact (Below.refl _ _).alloc (Nat.le_refl _) _
    have hb2 : Below W1.heap.size W1 W2 := by rw [hW2]; exact (Below.refl _ _).alloc (Nat.le_refl _) _
    have hz1 : W1.heap.size = w.heap.size + 1 := by rw [hW1]; simp
    have k1 : W1.heap[w.heap.size]? = some (.cells (rawCells n ⟨An, cn, Ai, ci, Ae, ce⟩) 27 (0, 0)) := by rw [hW1]; exact heap_alloc_new w _
    have k2 : W2.heap[w.heap.size + 1]? = some (.cells #[.int .i64 0, .bool false, .slice none 0 0, .slice none 0 0, .int .i64 0, .slice none 0 0, .string ⟨#[]⟩] 27 (0, 0)) := by rw [hW2, ← hz1]; exact heap_alloc_new W1 _
    have k12 := (hb2.block _ (lt_of_some k1)).trans k1
    have hb12 := hb1.trans (hb2.mono hb1.size)
    have hS2 : Sd B w W2 n ⟨An, cn, Ai, ci, Ae, ce⟩ (.slice Ai n.I.length ci) (.slice Ae n.E.length ce) (.slice none 0 0) 0 [] [] (fun _ => raw0) :=
      ⟨k12, k2, hb12, World.ownsRow_nil _ _ _ _, rfl, fun i x hx => by simp at hx⟩
    have hS3 := hS2.set hB 5 (.slice none 0 0) (bi' := .slice Ai n.I.length ci) (be' := .slice none 0 0) rfl
    obtain ⟨W3, hW3⟩ : ∃ W3, W3 = W2.setCell ⟨w.heap.size, 5, none⟩ (.slice none 0 0) := ⟨_, rfl⟩
    rw [← hW3] at hS3
    have HS3 := Lib.hid hS3
    have f5 := free_of_blk k12 5
    have e5 : W2.cell? ⟨w.heap.size, 5, none⟩ = some (.slice Ae n.E.length ce) := cell_of_blk k12 5
    have c3 : W3.cell? ⟨w.heap.size, 3, none⟩ = some (.slice Ai n.I.length ci) := cell_of_blk hS3.box 3
    unfold rawCells at hW1
    have HW1 := Lib.hid hW1
    have HW2 := Lib.hid hW2
    have HW3 := Lib.hid hW3
    have HC := Lib.hid cells
    have HI := Lib.hid items
    have HN := Lib.hid hN
    have HIH := Lib.hid ih
    have HBB := Lib.hid hB
    have HK := Lib.hid hk
    have hli := fit.li
    obtain ⟨g, hg⟩ : ∃ g, g = w.heap.size := ⟨_, rfl⟩
    have HG := Lib.hid hg
    rw [← hg] at f5 e5 c3
    have HZ1 := Lib.hid hz1
    unfold ndV rawCells
    clear hW1 hW2 hW3 hb1 hb2 hz1 k1 k2 k12 hb12 hS2 hS3 cells items hN ih exts names fit hk
    go_enter Tryd.func15, Tryd.ntmps15
    go_upto_region 1 with fail
    rw [← HW1.out, ← HW2.out]
    rw [← hg]
    clear hg
    go_upto_region 2 with fail
    rw [HG.out, ← HW3.out, ← HG.out]
    clear f5 e5
    go_wp2_with fail
    go_loopw [10, 3] (fun v10 v3 wr => ∃ (j : Nat) (rs : Nat → Raw), v10 = .int .i64 (j : Int) ∧ j ≤ n.I.length ∧ Hid (Sd B w wr n ⟨An, cn, Ai, ci, Ae, ce⟩ (.slice Ai n.I.length ci) (.slice none 0 0) v3 j (stripL (n.I.take j)) (stripL (n.I.take j)) rs)) (fun v _ _ => n.I.length - (intOf v).toNat)
    case atStart => exact ⟨0, _, rfl, Nat.zero_le _, HS3⟩
    case round =>
      clear HS3 c3
      obtain ⟨j, rs, rfl, hj, HS⟩ := hrel
      obtain ⟨Ar, cr, rfl, hcr, _⟩ := own_facts HS.out.row
      have j0 : (0 : Int) ≤ (j : Int) := by omega
      by_cases hjl : j < n.I.length
      · have j1 : (j : Int) < (n.I.length : Int) := by omega
        obtain ⟨x, hx⟩ : ∃ x, n.I[j]? = some x := ⟨_, List.getElem?_eq_getElem hjl⟩
        obtain ⟨b, off, hA, hbB, hcell⟩ := HC.out j x hx
        have hbw : Below w.heap.size w wr := HS.out.below
        have hBB := HBB.out
        have hcw : ∀ q v, (rawCells x (rs0 j))[q]? = some v → wr.cell? ⟨b, off + j * 7 + q, none⟩ = some v := fun q v hq => (hbw.cell (p := ⟨b, off + j * 7 + q, none⟩) (by show b < w.heap.size; omega)).trans (hcell q v hq)
        have x0 : wr.cell? ⟨b, off + j * 7, none⟩ = some (.int .i64 x.K) := hcw 0 _ rfl
        have x1 : wr.cell? ⟨b, off + j * 7 + 1, none⟩ = some (.bool x.O) := hcw 1 _ rfl
        have x2 : wr.cell? ⟨b, off + j * 7 + 2, none⟩ = some (.slice (rs0 j).An x.N.length (rs0 j).cn) := hcw 2 _ rfl
        have x3 : wr.cell? ⟨b, off + j * 7 + 3, none⟩ = some (.slice (rs0 j).Ai x.I.length (rs0 j).ci) := hcw 3 _ rfl
        have x4 : wr.cell? ⟨b, off + j * 7 + 4, none⟩ = some (.int .i64 x.S) := hcw 4 _ rfl
        have x5 : wr.cell? ⟨b, off + j * 7 + 5, none⟩ = some (.slice (rs0 j).Ae x.E.length (rs0 j).ce) := hcw 5 _ rfl
        have x6 : wr.cell? ⟨b, off + j * 7 + 6, none⟩ = some (.string x.T) := hcw 6 _ rfl
        have hxi : NdIn w (· < B) x (rs0 j) := HI.out j x hx
        have hxd : depth x < k := by
          have h1 := depth_at hx
          have h2 := depth_eq n
          have := HK.out
          omega
        obtain ⟨W5, hW5⟩ : ∃ W5, W5 = wr.alloc (.cells (rawCells x (rs0 j)) 27) := ⟨_, rfl⟩
        have hb5 : Below wr.heap.size wr W5 := by rw [hW5]; exact (Below.refl _ _).alloc (Nat.le_refl _) _
        have hk5 : W5.heap[wr.heap.size]? = some (.cells (rawCells x (rs0 j)) 27 (0, 0)) := by rw [hW5]; exact heap_alloc_new wr _
        have hS5 := HS.out.later hBB hb5
        have hx5 : NdIn W5 (· < B) x (rs0 j) := hxi.keep fun b hb => ⟨(hb5.block b (by have := hbw.size; omega)).trans (hbw.block b (by omega)), hb⟩
        have hih := HIH.out x (rs0 j) W5 hxd hx5 (by have := hbw.size; have := hb5.size; omega)
        have HS5 := Lib.hid hS5
        have y0 : W5.cell? ⟨wr.heap.size, 0, none⟩ = some (.int .i64 x.K) := cell_of_blk hk5 0
        have y1 : W5.cell? ⟨wr.heap.size, 1, none⟩ = some (.bool x.O) := cell_of_blk hk5 1
        have y2 : W5.cell? ⟨wr.heap.size, 2, none⟩ = some (.slice (rs0 j).An x.N.length (rs0 j).cn) := cell_of_blk hk5 2
        have y3 : W5.cell? ⟨wr.heap.size, 3, none⟩ = some (.slice (rs0 j).Ai x.I.length (rs0 j).ci) := cell_of_blk hk5 3
        have y4 : W5.cell? ⟨wr.heap.size, 4, none⟩ = some (.int .i64 x.S) := cell_of_blk hk5 4
        have y5 : W5.cell? ⟨wr.heap.size, 5, none⟩ = some (.slice (rs0 j).Ae x.E.length (rs0 j).ce) := cell_of_blk hk5 5
        have y6 : W5.cell? ⟨wr.heap.size, 6, none⟩ = some (.string x.T) := cell_of_blk hk5 6
        unfold ndV rawCells at hih
        unfold rawCells at hW5
        have HIC := Lib.hid hih
        have HW5 := Lib.hid hW5
        have HX := Lib.hid hx
        have hA' : Ai = some ⟨b, off, none⟩ := hA
        subst hA'
        clear hA hih hW5 hb5 hk5 hS5 hx5 hxi hxd hcw hcell hbw hx HS
        go_upto_region 6 with fail
        rw [← HW5.out]
        clear x0 x1 x2 x3 x4 x5 x6
        go_wp2_with fail
        refine HIC.out.mono ?_
        rintro e w6 ⟨r', rfl, hnd, hb6⟩
        unfold ndV
        obtain ⟨W7, hW7⟩ : ∃ W7, W7 = w6.alloc (.cells (rawCells (stripN x) r') 27) := ⟨_, rfl⟩
        have hb7 : Below w6.heap.size w6 W7 := by rw [hW7]; exact (Below.refl _ _).alloc (Nat.le_refl _) _
        have hk7 : W7.heap[w6.heap.size]? = some (.cells (rawCells (stripN x) r') 27 (0, 0)) := by rw [hW7]; exact heap_alloc_new w6 _
        have hS7 := (HS5.out.later hBB hb6).later hBB hb7
        have hw5 : w.heap.size ≤ W5.heap.size := HS5.out.below.size
        have hnd7 : NdIn W7 (fun b => b < B ∨ (W5.heap.size ≤ b ∧ b < W7.heap.size)) (stripN x) r' := hnd.keep fun b hb => by
          have h6 := hb6.size
          rcases hb with hb | hb
          · exact ⟨hb7.block b (by omega), .inl hb⟩
          · exact ⟨hb7.block b hb.2, .inr ⟨hb.1, Nat.lt_of_lt_of_le hb.2 hb7.size⟩⟩
        have HD7 := Lib.hid (hS7.pend HS5.out hnd7)
        have HNW := Lib.hid (World.news_of_block hk7)
        have HIO := Lib.hid (raw_one (stripN x) r')
        have hjj : (stripL (n.I.take j)).length = j := HS5.out.len
        have HRC := Lib.hid (rowCells_rsPut (stripL (n.I.take j)) (stripN x) rs r')
        have HTK := Lib.hid (stripL_snoc HX.out)
        have hbs : w.heap.size + 2 ≤ W7.heap.size := by have := lt_of_some HD7.out.ans; omega
        have HW7 := Lib.hid hW7.symm
        unfold rawCells at HW7
        clear hnd hb6 hb7 hk7 hS7 hnd7 hW7 y0 y1 y2 y3 y4 y5 y6 HIC HS5
        unfold rawCells
        obtain ⟨rsN, hrsN⟩ : ∃ rsN, rsN = rsPut rs (stripL (n.I.take j)).length r' := ⟨_, rfl⟩
        rw [← hrsN] at HD7 HRC
        go_wp2_with (at_builtin; rw [HW7.out]; refine wpList_append_lies _ rfl (.tmp 14) (.tmp 17) 24 rfl (w.heap.size + 2) 27 iX _ 7 112 Tryd.underlying24 hiX zX0 zX1 zX2 rfl (by omega) (.slice Ar j cr) j (rowCells (stripL (n.I.take j)) rsN) rfl HD7.out.row ⟨w6.heap.size, 0, none⟩ 1 1 (rawCells (stripN x) r').toList rfl rfl HNW.out HIO.out (by omega) (by simp only [maxLen]; omega) (by omega) (by omega) W7.heap.size rfl ?_; intro g2 cap2 w10 hown2 hgrow2 hat2 hlt2)
        have hSn := HD7.out.entry hBB (y := stripN x) (v' := .slice (some ⟨g2, 0, none⟩) (j + 1) cap2) (by rw [HRC.out]; exact hown2) hgrow2 (by rcases hat2 with e | e; exact .inl e; exact .inr (by rw [e]; rfl))
        rw [← HTK.out] at hSn
        have HSn := Lib.hid hSn
        clear hown2 hgrow2 hat2 hlt2 hSn
        go_wp2_with fail
        go_roundw
        case rel => exact ⟨j + 1, rsN, by go_num, by omega, HSn⟩
        case measure => simp [intOf]; omega
      · obtain rfl : j = n.I.length := by omega
        have hSE := HS.out
        rw [List.take_length] at hSE
        have hBB := HBB.out
        have hz := HG.out
        have b3 := cell_of_blk hSE.box 3
        have f3 := free_of_blk hSE.box 3
        rw [← hz] at b3 f3
        have hS8 := hSE.set hBB 3 (.slice Ar n.I.length cr) (bi' := .slice Ar n.I.length cr) (be' := .slice none 0 0) rfl
        obtain ⟨W8, hW8⟩ : ∃ W8, W8 = wr.setCell ⟨w.heap.size, 3, none⟩ (.slice Ar n.I.length cr) := ⟨_, rfl⟩
        rw [← hW8] at hS8
        rw [← hz] at hW8
        have hbx := hS8.box
        have han := hS8.ans
        rw [← hz] at hbx han
        have x0 := cell_of_blk hbx 0
        have x1 := cell_of_blk hbx 1
        have x2 := cell_of_blk hbx 2
        have x3 := cell_of_blk hbx 3
        have x4 := cell_of_blk hbx 4
        have x5 := cell_of_blk hbx 5
        have x6 := cell_of_blk hbx 6
        have y0 := cell_of_blk han 0
        have y1 := cell_of_blk han 1
        have y2 := cell_of_blk han 2
        have y3 := cell_of_blk han 3
        have y4 := cell_of_blk han 4
        have y5 := cell_of_blk han 5
        have y6 := cell_of_blk han 6
        have z0 := free_of_blk han 0
        have z1 := free_of_blk han 1
        have z2 := free_of_blk han 2
        have z3 := free_of_blk han 3
        have z4 := free_of_blk han 4
        have z5 := free_of_blk han 5
        have z6 := free_of_blk han 6
        have HAN := Lib.hid han
        have HS8 := Lib.hid hS8
        have HW8 := Lib.hid hW8
        clear hSE hS8 hW8 hbx han HS hz
        go_upto_region 9 with fail
        rw [← HW8.out]
        clear b3 f3
        go_wp2_with fail
        obtain ⟨W9, hW9⟩ : ∃ W9, W9 = set7 W8 (g + 1) (.int .i64 n.K) (.bool n.O) (.slice An n.N.length cn) (.slice Ar n.I.length cr) (.int .i64 n.S) (.slice none 0 0) (.string n.T) := ⟨_, rfl⟩
        have hk9 : W9.heap[g + 1]? = some (.cells #[.int .i64 n.K, .bool n.O, .slice An n.N.length cn, .slice Ar n.I.length cr, .int .i64 n.S, .slice none 0 0, .string n.T] 27 (0, 0)) := by rw [hW9]; exact over7 HAN.out
        have hz := HG.out
        have HF : Hid (StripOut B n w (.returned (ndV (stripN n) ⟨An, cn, Ar, cr, none, 0⟩)) W9) := Lib.hid ⟨_, rfl, HS8.out.node HN.out hBB (fun b _ hne => by rw [hW9]; exact set7_other (by omega) _ _ _ _ _ _ _) (by rw [hW9]; exact set7_size ..), by rw [hW9]; exact Below.set7 HS8.out.below (by omega) _ _ _ _ _ _ _⟩
        have p0 := cell_of_blk hk9 0
        have p1 := cell_of_blk hk9 1
        have p2 := cell_of_blk hk9 2
        have p3 := cell_of_blk hk9 3
        have p4 := cell_of_blk hk9 4
        have p5 := cell_of_blk hk9 5
        have p6 := cell_of_blk hk9 6
        have hv : ndV (stripN n) ⟨An, cn, Ar, cr, none, 0⟩ = .agg #[.int .i64 n.K, .bool n.O, .slice An n.N.length cn, .slice Ar n.I.length cr, .int .i64 n.S, .slice none 0 0, .string n.T] := by
          rw [stripN_eq]
          show Value.agg #[.int .i64 n.K, .bool n.O, .slice An n.N.length cn, .slice Ar (stripL n.I).length cr, .int .i64 n.S, .slice none 0 0, .string n.T] = _
          rw [stripL_len]
        rw [hv] at HF
        unfold set7 at hW9
        rw [← hW9]
        exact bodyPost_ret (v := .agg #[.int .i64 n.K, .bool n.O, .slice An n.N.length cn, .slice Ar n.I.length cr, .int .i64 n.S, .slice none 0 0, .string n.T]) (by simp [results, Tryd.results15, go_sem, p0, p1, p2, p3, p4, p5, p6]) rfl HF.out
end Go.Proofs.YtapgagfeghfooaaDoor.ima
