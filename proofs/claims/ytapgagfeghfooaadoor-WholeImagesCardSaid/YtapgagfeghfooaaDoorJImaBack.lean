/- What socagetop's back answers: a branch's nodes, gone through by names, as a tree. Condition: the branch lies in memory, of a tree that may be. -/
import Derived.Test.YtapgagfeghfooaaDoorJImaOwn
namespace Go.Proofs.YtapgagfeghfooaaDoor.ima
set_option maxRecDepth 100000
open Go.RowKit Go.Proofs.YtapgagfeghfooaaDoor.words Go.Proofs.YtapgagfeghfooaaDoor.ext Go.Proofs.YtapgagfeghfooaaDoor.name Go.Proofs.YtapgagfeghfooaaDoor.tre

/-- The boxes of a call of back, its names, and its row so far. -/
structure Bk (w W : World) (gb : Nat) (n : Nd) (An : Option Addr) (cn : Nat) (bi v : Value) (j : Nat) (I J : List Nd) (rs : Nat → Raw) : Prop where
  lt : w.heap.size < gb
  box : W.heap[gb]? = some (.cells #[.int .i64 n.K, .bool n.O, .slice An n.N.length cn, bi, .int .i64 n.S, .slice none 0 0, .string n.T] 27 (0, 0))
  ans : W.heap[w.heap.size]? = some (.cells #[.int .i64 0, .bool false, .slice none 0 0, .slice none 0 0, .int .i64 0, .slice none 0 0, .string ⟨#[]⟩] 27 (0, 0))
  below : Below w.heap.size w W
  nrow : W.ownsRow (w.heap.size + 1) 9 1 (.slice An n.N.length cn) n.N.length (n.N.map Value.string)
  nlt : ∀ b, (Value.slice An n.N.length cn).ownBlock = some b → b < gb
  row : W.ownsRow (gb + 1) 27 7 v j (rowCells I rs)
  len : I.length = j
  items : ∀ (i : Nat) (x : Nd), J[i]? = some x → NdIn W (fun b => gb + 1 ≤ b ∧ b < W.heap.size ∧ v.ownBlock ≠ some b) x (rs i)
section
variable {w W W' : World} {gb : Nat} {n : Nd} {An : Option Addr} {cn : Nat} {bi v v' : Value} {j : Nat} {I J : List Nd} {rs : Nat → Raw}
theorem Bk.low (h : Bk w W gb n An cn bi v j I J rs) : ∀ b, b < gb + 1 → v.ownBlock ≠ some b := fun b hb e => by have := (h.row.lt b e).1; omega
theorem Bk.later (h : Bk w W gb n An cn bi v j I J rs) (hb : Below W.heap.size W W') : Bk w W' gb n An cn bi v j I J rs :=
  ⟨h.lt, (hb.block _ (lt_of_some h.box)).trans h.box, (hb.block _ (lt_of_some h.ans)).trans h.ans, h.below.trans (hb.mono h.below.size), row_later h.nrow hb, h.nlt, row_later h.row hb, h.len, fun i x hx => (h.items i x hx).keep fun b hq => ⟨hb.block b hq.2.1, hq.1, Nat.lt_of_lt_of_le hq.2.1 hb.size, hq.2.2⟩⟩
theorem Bk.pend {W0 : World} (h : Bk w W gb n An cn bi v j I I rs) (h0 : Bk w W0 gb n An cn bi v j I I rs) {y : Nd} {r' : Raw} (hy : NdIn W (fun b => W0.heap.size ≤ b ∧ b < W.heap.size) y r') : Bk w W gb n An cn bi v j I (I ++ [y]) (rsPut rs I.length r') := by
  refine ⟨h.lt, h.box, h.ans, h.below, h.nrow, h.nlt, ?_, h.len, fun i x hx => ?_⟩
  · rw [rowCells_like (rs' := rs) fun i hi => by unfold rsPut; rw [if_neg (by omega)]]
    exact h.row
  · rcases Nat.lt_or_ge i I.length with hi | hi
    · rw [List.getElem?_append_left hi] at hx
      have := h.items i x hx
      unfold rsPut
      rw [if_neg (by omega)]
      exact this
    · have hi2 : i = I.length := by
        have := (List.getElem?_eq_some_iff.1 hx).1
        simp at this
        omega
      subst hi2
      rw [List.getElem?_append_right (Nat.le_refl _), Nat.sub_self] at hx
      have e : y = x := by simpa using hx
      subst e
      unfold rsPut
      rw [if_pos rfl]
      refine hy.keep fun b hb => ⟨rfl, by have := lt_of_some h0.box; omega, hb.2, fun e => ?_⟩
      have := (h0.row.lt b e).2
      omega
theorem Bk.entry (h : Bk w W gb n An cn bi v j I J rs) {y : Nd} (hown : W'.ownsRow (gb + 1) 27 7 v' (j + 1) (rowCells (I ++ [y]) rs)) (hg : W.grownBy W' v.ownBlock)
    (hat : v.ownBlock = v'.ownBlock ∨ v'.ownBlock = some W.heap.size) : Bk w W' gb n An cn bi v' (j + 1) (I ++ [y]) J rs := by
  have hz := h.below.size
  have hlt := h.lt
  refine ⟨h.lt, (hg.block _ (lt_of_some h.box) (h.low _ (by omega)).symm).trans h.box, (hg.block _ (lt_of_some h.ans) (h.low _ (by omega)).symm).trans h.ans, ⟨hg.os.trans h.below.os, hg.tape.trans h.below.tape, hg.output.trans h.below.output, Nat.le_trans hz hg.size, fun k hk => (hg.block k (Nat.lt_of_lt_of_le hk hz) (h.low k (by omega)).symm).trans (h.below.block k hk)⟩, row_grown h.nrow hg fun b hb e => h.low b (by have := h.nlt b hb; omega) e.symm, h.nlt, hown, by rw [List.length_append, h.len]; rfl, fun i x hx => ?_⟩
  refine (h.items i x hx).keep fun b hq => ⟨hg.block b hq.2.1 fun e => hq.2.2 e.symm, hq.1, Nat.lt_of_lt_of_le hq.2.1 hg.size, fun e2 => ?_⟩
  rcases hat with hat | hat
  · exact hq.2.2 (hat.trans e2)
  · rw [hat] at e2
    injection e2 with e2
    have := hq.2.1
    omega
theorem Bk.nstay (h : Bk w W gb n An cn bi v j I J rs) (hg : W.grownBy W' v.ownBlock) : W'.heap[gb]? = some (.cells #[.int .i64 n.K, .bool n.O, .slice An n.N.length cn, bi, .int .i64 n.S, .slice none 0 0, .string n.T] 27 (0, 0)) :=
  (hg.block _ (lt_of_some h.box) (h.low _ (by omega)).symm).trans h.box
theorem Bk.set (h : Bk w W gb n An cn bi v j I J rs) (u : Value) : Bk w (W.setCell ⟨gb, 3, none⟩ u) gb n An cn u v j I J rs := by
  have hlt := h.lt
  refine ⟨h.lt, by rw [heap_setCell_same W gb 3 _ _ u h.box]; rfl, by rw [heap_setCell_other _ _ _ _ (by show w.heap.size ≠ gb; omega)]; exact h.ans, h.below.setCell (p := ⟨gb, 3, none⟩) (by show w.heap.size ≤ gb; omega) _, own_setCell (p := ⟨gb, 3, none⟩) h.nrow (fun e => by have := h.nlt _ e; simp at this) u, h.nlt, own_setCell (p := ⟨gb, 3, none⟩) h.row (h.low _ (by show gb < gb + 1; omega)) u, h.len, fun i x hx => (h.items i x hx).keep fun b hq => ?_⟩
  have hne : b ≠ gb := by have := hq.1; omega
  exact ⟨Below.heap_setCell W ⟨gb, 3, none⟩ u b hne, by simpa [World.setCell] using hq⟩
end
def BackOut (x : Nd) (w : World) (e : Ending) (w' : World) : Prop := ∃ r', e = .returned (ndV (stripN x) r') ∧ NdIn w' (fun b => w.heap.size ≤ b ∧ b < w'.heap.size) (stripN x) r' ∧ Below w.heap.size w w'
/-- The answer. -/
theorem Bk.node {w W w' : World} {gb : Nat} {n : Nd} {An Ai : Option Addr} {cn ci : Nat} {bi : Value} {rs : Nat → Raw} (h : Bk w W gb n An cn bi (.slice Ai n.I.length ci) n.I.length (stripL n.I) (stripL n.I) rs)
    (hk : ∀ b, b < W.heap.size → b ≠ w.heap.size → w'.heap[b]? = W.heap[b]?) (hs : W.heap.size ≤ w'.heap.size) (hsm : ∀ (i : Nat) (s : ByteArray), n.N[i]? = some s → s.size ≤ 140737488355328) (hn : n.N.length * 16 ≤ 140737488355328 ∧ n.I.length * 112 ≤ 140737488355328) (hkk : -9223372036854775808 ≤ n.K ∧ n.K ≤ 9223372036854775807 ∧ -9223372036854775808 ≤ n.S ∧ n.S ≤ 9223372036854775807 ∧ n.T.size ≤ 140737488355328) : NdIn w' (fun b => w.heap.size ≤ b ∧ b < w'.heap.size) (stripN n) ⟨An, cn, Ai, ci, none, 0⟩ := by
  have hz := h.below.size
  have hlt := h.lt
  have hq : ∀ b, w.heap.size + 1 ≤ b ∧ b < W.heap.size → w'.heap[b]? = W.heap[b]? ∧ (w.heap.size ≤ b ∧ b < w'.heap.size) := fun b hb => ⟨hk b hb.2 (by omega), by omega, by omega⟩
  have hl := stripL_len n.I
  have hrow := h.row
  have hnrow := h.nrow
  obtain ⟨Ai', ci', ei, hci, hzi⟩ := own_facts hrow
  injection ei with e3 _ e4
  subst e3 e4
  obtain ⟨An', cn', en, hcn, hzn⟩ := own_facts hnrow
  injection en with e1 _ e2
  subst e1 e2
  rw [stripN_eq]
  refine .mk rs ⟨hkk.1, hkk.2.1, hkk.2.2.1, hkk.2.2.2.1, hkk.2.2.2.2, hn.1, by show (stripL n.I).length * 112 ≤ 140737488355328; rw [hl]; exact hn.2, show 0 * 24 ≤ 140737488355328 by decide, hcn, by show (stripL n.I).length ≤ ci; rw [hl]; exact hci, Nat.le_refl _, hzn, by show Ai = none → (stripL n.I).length = 0 ∧ ci = 0; rw [hl]; exact hzi, fun _ => ⟨rfl, rfl⟩⟩ ?_ (fun _ _ hx => (no_at hx).elim) ?_ ?_
  · exact (own_txt hnrow hsm).keep hq
  · intro i x hx
    have hx' : (stripL n.I)[i]? = some x := hx
    have h00 := rowCells_at (rs := rs) hx' 0 _ (show (rawCells x (rs i))[0]? = some _ from rfl)
    obtain ⟨b, cur, hA, hB2, hlt2, _, _⟩ := own_cell hrow h00
    refine ⟨b, 0, hA, (hq b ⟨by omega, hlt2⟩).2, fun j v hj => ?_⟩
    have h7 := rowCells_at (rs := rs) hx' j v hj
    obtain ⟨b', _, hA', _, _, _, hc⟩ := own_cell hrow h7
    rw [hA] at hA'
    injection hA' with hA'
    injection hA' with hA'
    subst hA'
    rw [Nat.zero_add]
    exact (World.cell?_of_block (hq b ⟨by omega, hlt2⟩).1).trans hc
  · intro i x hx
    exact (h.items i x hx).keep fun b hb => hq b ⟨by omega, hb.2.1⟩
theorem all_facts {x : Nd} (h : allB x = true) : oneB x = true := by
  rw [allB_eq, Bool.and_eq_true] at h
  exact h.2
set_option maxHeartbeats 25600000 in
theorem back_in (n : Nd) (g : Nat) (hall : allB n = true) (hcnt : count n ≤ 4096) (hfit : ∀ x ∈ preN n, -9223372036854775808 ≤ x.K ∧ x.K ≤ 9223372036854775807 ∧ -9223372036854775808 ≤ x.S ∧ x.S ≤ 9223372036854775807 ∧ x.T.size ≤ 140737488355328) (hnam : ∀ x ∈ preN n, ∀ (i : Nat) (s : ByteArray), x.N[i]? = some s → s.size ≤ 140737488355328) :
    ∀ (f : Nat) (k : Nat) (x : Nd) (w : World), depth x < f → (preN n)[k]? = some x → Brn w w.heap.size g (flatN 0 n) → Calls Tryd.prog 14 #[.pointer (some ⟨g, 0, none⟩), .int .i64 (k : Int)] w (BackOut x w) := by
  intro f
  induction f with
  | zero => intro k x w hk; omega
  | succ f ih =>
    intro k x w hd hx hbr
    obtain ⟨iX, hiX, zX0, zX1, zX2⟩ := info_parts infoNode2
    have hin := preN_in n x (List.mem_of_getElem? hx)
    have hax := hin.2.2 hall
    obtain ⟨hasc, hNI, _⟩ := one_right (all_facts hax)
    have hcx : count x ≤ 4096 := by omega
    have hIl : x.I.length ≤ 4096 := by have := count_eq x; have := countL_len x.I; omega
    have hkl : k < 4096 := by have := (List.getElem?_eq_some_iff.1 hx).1; rw [preN_length] at this; omega
    obtain ⟨W1, hW1⟩ : ∃ W1, W1 = w.alloc (.cells #[.int .i64 0, .bool false, .slice none 0 0, .slice none 0 0, .int .i64 0, .slice none 0 0, .string ⟨#[]⟩] 27) := ⟨_, rfl⟩
    have hb1 : Below w.heap.size w W1 := by rw [hW1]; exact (Below.refl _ _).alloc (Nat.le_refl _) _
    have hz1 : W1.heap.size = w.heap.size + 1 := by rw [hW1]; simp
    have hk1 : W1.heap[w.heap.size]? = some (.cells #[.int .i64 0, .bool false, .slice none 0 0, .slice none 0 0, .int .i64 0, .slice none 0 0, .string ⟨#[]⟩] 27 (0, 0)) := by rw [hW1]; exact heap_alloc_new w _
    have hbr1 := hbr.later hb1
    have HBR := Lib.hid (fun w' (hb : Below w.heap.size w w') => hbr.later hb)
    have HFX := Lib.hid (And.intro (hfit x (List.mem_of_getElem? hx)) (hnam x (List.mem_of_getElem? hx)))
    have hN4 : x.N.length ≤ 4096 := by omega
    have HF := Lib.hid (fun w' (hb : Below W1.heap.size W1 w') => (hbr1.later hb))
    have HE := Lib.hid (flat_at hx)
    have HB1 := Lib.hid hb1
    have HK1 := Lib.hid hk1
    have HZ1 := Lib.hid hz1
    have HW1 := Lib.hid hW1
    have HIH := Lib.hid ih
    have HX := Lib.hid hx
    have HD := Lib.hid hd
    have HAX := Lib.hid (And.intro hax (And.intro hasc hNI))
    obtain ⟨ki, hki⟩ : ∃ ki : Int, ki = (k : Int) := ⟨_, rfl⟩
    have HKI := Lib.hid hki
    have HC1 : Hid (∀ w', Below W1.heap.size W1 w' → Calls Tryd.prog 34 #[.pointer (some ⟨g, 0, none⟩), .int .i64 ki] w' fun en w'' => en = .returned (.int .i64 x.K) ∧ Below w'.heap.size w' w'') := Lib.hid fun w' hb => by have := bkind_yes g k _ _ w' (HF.out w' hb) HE.out; rw [show (entOf k x).x.K = x.K from alone_K x, ← hki] at this; exact this
    have HC2 : Hid (∀ w', Below W1.heap.size W1 w' → Calls Tryd.prog 35 #[.pointer (some ⟨g, 0, none⟩), .int .i64 ki] w' fun en w'' => en = .returned (.bool x.O) ∧ Below w'.heap.size w' w'') := Lib.hid fun w' hb => by have := bopaq_yes g k _ _ w' (HF.out w' hb) HE.out; rw [show (entOf k x).x.O = x.O from alone_O x, ← hki] at this; exact this
    have HC3 : Hid (∀ w', Below W1.heap.size W1 w' → Calls Tryd.prog 36 #[.pointer (some ⟨g, 0, none⟩), .int .i64 ki] w' fun en w'' => en = .returned (.int .i64 x.S) ∧ Below w'.heap.size w' w'') := Lib.hid fun w' hb => by have := bsize_yes g k _ _ w' (HF.out w' hb) HE.out; rw [show (entOf k x).x.S = x.S from alone_S x, ← hki] at this; exact this
    have HC4 : Hid (∀ w', Below W1.heap.size W1 w' → Calls Tryd.prog 37 #[.pointer (some ⟨g, 0, none⟩), .int .i64 ki] w' fun en w'' => en = .returned (.string x.T) ∧ Below w'.heap.size w' w'') := Lib.hid fun w' hb => by have := btarget_yes g k _ _ w' (HF.out w' hb) HE.out; rw [show (entOf k x).x.T = x.T from alone_T x, ← hki] at this; exact this
    have HC5 : Hid (∀ w', Below W1.heap.size W1 w' → Calls Tryd.prog 38 #[.pointer (some ⟨g, 0, none⟩), .int .i64 ki] w' (NamesOwn x.N w')) := Lib.hid fun w' hb => by have := bnames_own g k _ _ w' (HF.out w' hb) HE.out; rw [show (entOf k x).x.N = x.N from alone_N x, ← hki] at this; exact this
    rw [← hki]
    clear hW1 hb1 hk1 hbr hbr1 hin hax hasc hx hd ih hki hz1 hNI hcx
    go_enter Tryd.func14, Tryd.ntmps14
    go_upto_region 1 with fail
    rw [← HW1.out]
    go_wp2_with fail
    refine (HC1.out W1 (Below.refl _ _)).mono ?_
    rintro e w2 ⟨rfl, hb2⟩
    have HB2 := Lib.hid hb2
    clear hb2
    go_wp2_with fail
    refine (HC2.out w2 HB2.out).mono ?_
    rintro e w3 ⟨rfl, hb3⟩
    have HB3 := Lib.hid (HB2.out.trans (hb3.mono HB2.out.size))
    clear hb3
    go_wp2_with fail
    refine (HC3.out w3 HB3.out).mono ?_
    rintro e w4 ⟨rfl, hb4⟩
    have HB4 := Lib.hid (HB3.out.trans (hb4.mono HB3.out.size))
    clear hb4
    go_wp2_with fail
    refine (HC4.out w4 HB4.out).mono ?_
    rintro e w5 ⟨rfl, hb5⟩
    have HB5 := Lib.hid (HB4.out.trans (hb5.mono HB4.out.size))
    clear hb5
    go_wp2_with fail
    refine (HC5.out w5 HB5.out).mono ?_
    rintro e w6 ⟨An, cn, rfl, hcn1, hcn2, hnr, hb6⟩
    obtain ⟨W7, hW7⟩ : ∃ W7, W7 = w6.alloc (.cells #[.int .i64 x.K, .bool x.O, .slice An x.N.length cn, .slice none 0 0, .int .i64 x.S, .slice none 0 0, .string x.T] 27) := ⟨_, rfl⟩
    have hb7 : Below w6.heap.size w6 W7 := by rw [hW7]; exact (Below.refl _ _).alloc (Nat.le_refl _) _
    have hk7 : W7.heap[w6.heap.size]? = some (.cells #[.int .i64 x.K, .bool x.O, .slice An x.N.length cn, .slice none 0 0, .int .i64 x.S, .slice none 0 0, .string x.T] 27 (0, 0)) := by rw [hW7]; exact heap_alloc_new w6 _
    obtain ⟨gb, hgb⟩ : ∃ gb, gb = w6.heap.size := ⟨_, rfl⟩
    have hb16 := HB5.out.trans (hb6.mono HB5.out.size)
    have hz := HZ1.out
    have hz16 := hb16.size
    have hz5 := HB5.out.size
    have hS7 : Bk w W7 gb x An cn (.slice none 0 0) (.slice none 0 0) 0 [] [] (fun _ => raw0) :=
      ⟨by omega, by rw [hgb]; exact hk7, (hb7.block _ (by have := lt_of_some HK1.out; omega)).trans ((hb16.block _ (lt_of_some HK1.out)).trans HK1.out), (HB1.out.trans (hb16.mono HB1.out.size)).trans (hb7.mono (by have := HB1.out.size; omega)), row_later (tre.own_base hnr (by omega)) hb7, fun b hb => by have := (hnr.lt b hb).2; omega, World.ownsRow_nil _ _ _ _, rfl, fun i x hx => by simp at hx⟩
    have HS7 := Lib.hid hS7
    have c2 : W7.cell? ⟨gb, 2, none⟩ = some (.slice An x.N.length cn) := cell_of_blk hS7.box 2
    have HW7 := Lib.hid hW7
    have HGB := Lib.hid hgb
    clear hW7 hb7 hk7 hb16 hz hz16 hz5 hS7 hb6 hnr hgb HC1 HC2 HC3 HC4 HC5
    go_upto_region 2 with fail
    rw [← HW7.out, ← HGB.out]
    go_wp2_with fail
    go_loopw [29] (fun v29 wr => ∃ (j : Nat) (rs : Nat → Raw) (v : Value), v29 = .int .i64 (j : Int) ∧ j ≤ x.N.length ∧ Hid (Bk w wr gb x An cn v v j (stripL (x.I.take j)) (stripL (x.I.take j)) rs)) (fun v _ => x.N.length - (intOf v).toNat)
    case atStart => exact ⟨0, _, _, rfl, Nat.zero_le _, HS7⟩
    case round =>
      clear HS7 c2
      obtain ⟨j, rs, v, rfl, hj, HS⟩ := hrel
      have j0 : (0 : Int) ≤ (j : Int) := by omega
      by_cases hjl : j < x.N.length
      · have j1 : (j : Int) < (x.N.length : Int) := by omega
        obtain ⟨y, hy⟩ : ∃ y, x.N[j]? = some y := ⟨_, List.getElem?_eq_getElem hjl⟩
        obtain ⟨z, hz⟩ : ∃ z, x.I[j]? = some z := ⟨_, List.getElem?_eq_getElem (by have := HAX.out.2.2; omega)⟩
        obtain ⟨ga, cur, hA, hga1, hga2, _, hcell⟩ := tre.own_cell HS.out.nrow (show (x.N.map Value.string)[j]? = some (.string y) by rw [List.getElem?_map, hy]; rfl)
        subst hA
        have HLK : Hid (Calls Tryd.prog 39 #[.pointer (some ⟨g, 0, none⟩), .int .i64 ki, .string y] wr (Looked x k y wr)) := Lib.hid (by
          have h := looked_any g k n x y wr (HBR.out wr HS.out.below) HX.out (all_facts HAX.out.1)
          rw [← HKI.out] at h
          exact h)
        have hdz : depth z < f := by
          have h1 := depth_at hz
          have h2 := depth_eq x
          have := HD.out
          omega
        have HDZ := Lib.hid hdz
        have HY := Lib.hid hy
        have HZ := Lib.hid hz
        clear hy hz hga1 hga2 hdz
        go_upto_region 5 with fail
        clear hcell
        go_wp2_with fail
        refine HLK.out.mono ?_
        rintro e wl ⟨(⟨q, hq1, hq2, rfl⟩ | ⟨rfl, hno⟩), hbl⟩
        · obtain rfl : j = q := HAX.out.2.1.one HY.out hq1
          obtain ⟨c, hc⟩ : ∃ c : Nat, c = k + 1 + countL (x.I.take j) := ⟨_, rfl⟩
          rw [← hc]
          obtain ⟨cI, hcI⟩ : ∃ cI : Int, cI = (c : Int) := ⟨_, rfl⟩
          rw [← hcI]
          have hgt : ki < cI := by have := HKI.out; omega
          have hkid : (preN n)[c]? = some z := by rw [hc]; exact preN_kid HX.out HZ.out
          have hSl := HS.out.later hbl
          have hSd := hSl.later (Below.refl _ _).drew
          have HIC : Hid (Calls Tryd.prog 14 #[.pointer (some ⟨g, 0, none⟩), .int .i64 cI] wl.drew (BackOut z wl.drew)) := Lib.hid (by
            rw [hcI]
            exact HIH.out c z wl.drew HDZ.out hkid (HBR.out wl.drew hSd.below))
          have HDP := Lib.hid (fun (w6 : World) (r' : Raw) (hb6 : Below wl.drew.heap.size wl.drew w6) (hnd : NdIn w6 (fun b => wl.drew.heap.size ≤ b ∧ b < w6.heap.size) (stripN z) r') (o : Obj) =>
            (((hSd.later hb6).later ((Below.refl _ _).alloc (Nat.le_refl _) o)).pend hSd (hnd.keep fun b hb => ⟨Below.heap_alloc w6 o b hb.2, hb.1, by rw [World.size_alloc]; exact Nat.lt_succ_of_lt hb.2⟩) : Bk w (w6.alloc o) gb x (some ⟨ga, 0, none⟩) cn v v j (stripL (x.I.take j)) (stripL (x.I.take j) ++ [stripN z]) (rsPut rs (stripL (x.I.take j)).length r')))
          have HCE := Lib.hid (fun (w6 : World) (hb6 : Below wl.drew.heap.size wl.drew w6) => (show w6.cell? ⟨gb, 3, none⟩ = some v ∧ (∀ o : Obj, (w6.alloc o).cell? ⟨gb, 3, none⟩ = some v) ∧ gb + 1 ≤ w6.heap.size from
            ⟨cell_of_blk (hSd.later hb6).box 3, fun o => cell_of_blk ((hSd.later hb6).later ((Below.refl _ _).alloc (Nat.le_refl _) o)).box 3, lt_of_some (hSd.later hb6).box⟩))
          have b3 : wl.cell? ⟨gb, 3, none⟩ = some v := cell_of_blk hSl.box 3
          have HTK := Lib.hid (stripL_snoc HZ.out)
          have hj4 : j ≤ 4096 := by omega
          clear hq1 hq2 hc hcI hkid hSl hSd hbl HIH HS HLK
          go_upto_region 7 with fail
          go_region_law (first
            | (go_simp; go_at_call 14; refine HIC.out.mono ?_; rintro e w6 ⟨r', rfl, hnd, hb6⟩; unfold ndV; unfold rawCells; obtain ⟨e3, e3o, hz6⟩ := HCE.out w6 hb6; have HDA := Lib.hid (HDP.out w6 r' hb6 hnd); clear hnd hb6)
            | (refine step_append_lies _ (by rfl) _ _ _ (by rfl) (gb + 1) 27 iX _ 7 112 Tryd.underlying24 hiX zX0 zX1 zX2 rfl (by omega) v j (rowCells (stripL (x.I.take j)) (rsPut rs (stripL (x.I.take j)).length r')) (by rfl) (HDA.out _).row
                  ⟨w6.heap.size, 0, none⟩ 1 1 (rawCells (stripN z) r').toList (by rfl) (by rfl) (World.news_of_block (cs := rawCells (stripN z) r') (t := 27) (fr := (0, 0)) (heap_alloc_new w6 _)) (raw_one (stripN z) r')
                  (by omega) (by simp only [maxLen]; omega) (by omega) (by simp; omega) (w6.heap.size + 1) (by simp) ?_; intro gg cap w10 hown hgrow hat hlt10; have hc3 := cell_of_blk ((HDA.out _).nstay hgrow) 3; have hf3 := free_of_blk ((HDA.out _).nstay hgrow) 3))
          all_goals
            have hSn := ((HDA.out _).entry (y := stripN z) (v' := .slice (some ⟨gg, 0, none⟩) (j + 1) cap) (by rw [rowCells_rsPut]; exact hown) hgrow (hat.imp (fun e => e) fun e => by rw [e]; simp [Value.ownBlock])).set (.slice (some ⟨gg, 0, none⟩) (j + 1) cap)
            rw [← HTK.out] at hSn
            have HSn := Lib.hid hSn
            clear hown hgrow hat hlt10 hSn e3 e3o hz6 b3
            go_wp2_with fail
            go_roundw
            case rel => exact ⟨j + 1, _, _, by go_num, by omega, HSn⟩
            case measure => simp [intOf]; omega
        · exact absurd HY.out (hno j)
      · obtain rfl : j = x.I.length := by have := HAX.out.2.2; omega
        have j2 : ¬ (x.I.length : Int) < (x.N.length : Int) := by omega
        obtain ⟨Ai, ci, rfl, _, _⟩ := tre.own_facts HS.out.row
        have hSE := HS.out
        rw [List.take_length] at hSE
        have hbx := hSE.box
        have han := hSE.ans
        have hglt := hSE.lt
        have x0 := cell_of_blk hbx 0
        have x1 := cell_of_blk hbx 1
        have x2 := cell_of_blk hbx 2
        have x3 := cell_of_blk hbx 3
        have x4 := cell_of_blk hbx 4
        have x5 := cell_of_blk hbx 5
        have x6 := cell_of_blk hbx 6
        have y0 := cell_of_blk han 0
        have y1 := cell_of_blk han 1
        have y2 := cell_of_blk han 2
        have y3 := cell_of_blk han 3
        have y4 := cell_of_blk han 4
        have y5 := cell_of_blk han 5
        have y6 := cell_of_blk han 6
        have z0 := free_of_blk han 0
        have z1 := free_of_blk han 1
        have z2 := free_of_blk han 2
        have z3 := free_of_blk han 3
        have z4 := free_of_blk han 4
        have z5 := free_of_blk han 5
        have z6 := free_of_blk han 6
        obtain ⟨W9, hW9⟩ : ∃ W9, W9 = set7 wr w.heap.size (.int .i64 x.K) (.bool x.O) (.slice An x.N.length cn) (.slice Ai x.I.length ci) (.int .i64 x.S) (.slice none 0 0) (.string x.T) := ⟨_, rfl⟩
        have hk9 : W9.heap[w.heap.size]? = some (.cells #[.int .i64 x.K, .bool x.O, .slice An x.N.length cn, .slice Ai x.I.length ci, .int .i64 x.S, .slice none 0 0, .string x.T] 27 (0, 0)) := by rw [hW9]; exact over7 han
        have HF : Hid (BackOut x w (.returned (ndV (stripN x) ⟨An, cn, Ai, ci, none, 0⟩)) W9) := Lib.hid ⟨_, rfl, hSE.node (fun b _ hne => by rw [hW9]; exact set7_other hne _ _ _ _ _ _ _) (by rw [hW9]; exact set7_size ..) HFX.out.2 (by omega) HFX.out.1, by rw [hW9]; exact Below.set7 hSE.below (Nat.le_refl _) _ _ _ _ _ _ _⟩
        have p0 := cell_of_blk hk9 0
        have p1 := cell_of_blk hk9 1
        have p2 := cell_of_blk hk9 2
        have p3 := cell_of_blk hk9 3
        have p4 := cell_of_blk hk9 4
        have p5 := cell_of_blk hk9 5
        have p6 := cell_of_blk hk9 6
        have hv : ndV (stripN x) ⟨An, cn, Ai, ci, none, 0⟩ = .agg #[.int .i64 x.K, .bool x.O, .slice An x.N.length cn, .slice Ai x.I.length ci, .int .i64 x.S, .slice none 0 0, .string x.T] := by
          rw [stripN_eq]
          show Value.agg #[.int .i64 x.K, .bool x.O, .slice An x.N.length cn, .slice Ai (stripL x.I).length ci, .int .i64 x.S, .slice none 0 0, .string x.T] = _
          rw [stripL_len]
        rw [hv] at HF
        unfold set7 at hW9
        have HW9 := Lib.hid hW9
        clear hW9 hk9 hSE hbx han HS
        go_wp2_with fail
        rw [← HW9.out]
        exact bodyPost_ret (v := .agg #[.int .i64 x.K, .bool x.O, .slice An x.N.length cn, .slice Ai x.I.length ci, .int .i64 x.S, .slice none 0 0, .string x.T]) (by simp [results, Tryd.results14, go_sem, p0, p1, p2, p3, p4, p5, p6]) rfl HF.out
end Go.Proofs.YtapgagfeghfooaaDoor.ima
