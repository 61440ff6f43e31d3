/- The reference's In, Read, Write, Leave. Condition: the rows lie in memory. -/
import Derived.Test.YthmehalkijbpdaaGatRef
import Derived.Test.YthmehalkijbpdaaLrvBox
namespace Go.Proofs.Ythmehalkijbpdaa.gat
set_option maxRecDepth 100000
open Go.RowKit Go.Proofs.Ythmehalkijbpdaa.words Go.Proofs.Ythmehalkijbpdaa.lru Go.Proofs.Ythmehalkijbpdaa.mpi

/-- The reference's gate: three rows. -/
structure Rf (w : World) (B : Nat) (a1 a2 a3 : Value) (R : List Int) (o : Option Int) (W : List Int) : Prop where
  r1 : Rw w B a1 R
  r2 : Rw w B a2 o.toList
  r3 : Rw w B a3 W
theorem Rf.later {w w' : World} {B : Nat} {a1 a2 a3 : Value} {R : List Int} {o : Option Int} {W : List Int} (h : Rf w B a1 a2 a3 R o W) (hb : Below w.heap.size w w') : Rf w' B a1 a2 a3 R o W := ⟨h.r1.later hb, h.r2.later hb, h.r3.later hb⟩
theorem opt_le (o : Option Int) : o.toList.length ≤ 1 := by cases o <;> simp
theorem opt_has (o : Option Int) (x : Int) : hasB o.toList x = (o == some x) := by
  rcases o with _ | y
  · rfl
  · unfold hasB
    by_cases h : y = x
    · subst h; simp
    · have h2 : (some y == some x) = false := by simpa using h
      rw [h2]
      simp
      exact fun e => h e.symm
/-- A block that is a reference's gate. -/
def Bx (w : World) (b : Nat) (a1 a2 a3 : Value) : Prop := w.heap[b]? = some (.cells #[a1, a2, a3] 30 (0, 0))
theorem Bx.later {w w' : World} {b : Nat} {a1 a2 a3 : Value} (h : Bx w b a1 a2 a3) (hb : Below w.heap.size w w') : Bx w' b a1 a2 a3 := (hb.block b (lt_of_some h)).trans h

section
variable (B : Nat) (a1 a2 a3 : Value) (R : List Int) (o : Option Int) (W : List Int) (x : Int) (w : World)
theorem refin_any (h : Rf w B a1 a2 a3 R o W) (hl : R.length ≤ 1000) :
    Calls Try.prog 19 #[.agg #[a1, a2, a3], .int .i64 x] w fun e w' => e = .returned (.bool (inB R o x)) ∧ Below w.heap.size w w' := by
  obtain ⟨W1, hW1⟩ : ∃ W1, W1 = w.alloc (.cells #[a1, a2, a3] 30) := ⟨_, rfl⟩
  have hb1 : Below w.heap.size w W1 := by rw [hW1]; exact (Below.refl _ _).alloc (Nat.le_refl _) _
  have hk1 : W1.heap[w.heap.size]? = some (.cells #[a1, a2, a3] 30 (0, 0)) := by rw [hW1]; exact heap_alloc_new w _
  have c0 := cell_of_blk hk1 0
  have c1 := cell_of_blk hk1 1
  have H1 := Lib.hid (h.later hb1)
  have HB1 := Lib.hid hb1
  have HW1 := Lib.hid hW1
  have HA := Lib.hid (has_any B a1 R x W1 H1.out.r1 hl)
  have HC := Lib.hid (has_any B a2 o.toList x W1 H1.out.r2 (by have := opt_le o; omega))
  have he : inB R o x = (hasB R x || hasB o.toList x) := by rw [opt_has]; rfl
  rw [he]
  clear h hb1 hW1 hk1 he
  rcases hA : hasB R x with _ | _
  · rw [hA] at HA
    clear hA
    go_enter Try.func19, Try.ntmps19
    go_upto_region 1 with fail
    rw [← HW1.out]
    go_wp2_with fail
    refine HA.out.mono ?_
    rintro e w1 ⟨rfl, e1⟩
    subst e1
    go_wp2_with fail
    refine HC.out.mono ?_
    rintro e w1 ⟨rfl, e1⟩
    subst e1
    go_wp2
    go_ret
    exact ⟨rfl, HB1.out⟩
  · rw [hA] at HA
    clear hA
    go_enter Try.func19, Try.ntmps19
    go_upto_region 1 with fail
    rw [← HW1.out]
    go_wp2_with fail
    refine HA.out.mono ?_
    rintro e w1 ⟨rfl, e1⟩
    subst e1
    go_wp2
    go_ret
    exact ⟨rfl, HB1.out⟩

def RefIn (w : World) (B : Nat) (R : List Int) (o : Option Int) (W : List Int) (b : Bool) (e : Ending) (w' : World) : Prop := ∃ u1 u2 u3, e = .returned (.tuple #[.agg #[u1, u2, u3], .bool b]) ∧ Rf w' B u1 u2 u3 R o W ∧ Below w.heap.size w w'
/-- A call's own boxes: what came in, and what it answers. -/
structure Two (w wr : World) (q1 q2 : Nat) (a1 a2 a3 : Value) : Prop where
  below : Below w.heap.size w wr
  l1 : w.heap.size ≤ q1
  l2 : w.heap.size ≤ q2
  ne : q1 ≠ q2
  b1 : Bx wr q1 a1 a2 a3
  b2 : Bx wr q2 (.slice none 0 0) (.slice none 0 0) (.slice none 0 0)
section
variable {w wr w' : World} {q1 q2 : Nat} {a1 a2 a3 : Value}
theorem Two.made {W1 W2 : World} (h1 : W1 = w.alloc (.cells #[a1, a2, a3] 30)) (h2 : W2 = W1.alloc (.cells #[.slice none 0 0, .slice none 0 0, .slice none 0 0] 30)) : Two w W2 w.heap.size (w.heap.size + 1) a1 a2 a3 := by
  have hb1 : Below w.heap.size w W1 := by rw [h1]; exact (Below.refl _ _).alloc (Nat.le_refl _) _
  have hz : W1.heap.size = w.heap.size + 1 := by rw [h1]; simp
  have hb2 : Below W1.heap.size W1 W2 := by rw [h2]; exact (Below.refl _ _).alloc (Nat.le_refl _) _
  have k1 : Bx W1 w.heap.size a1 a2 a3 := by rw [h1]; exact heap_alloc_new w _
  refine ⟨hb1.trans (hb2.mono hb1.size), Nat.le_refl _, Nat.le_succ _, by omega, k1.later hb2, ?_⟩
  rw [← hz, h2]
  exact heap_alloc_new W1 _
theorem Two.later (h : Two w wr q1 q2 a1 a2 a3) (hb : Below wr.heap.size wr w') : Two w w' q1 q2 a1 a2 a3 :=
  ⟨h.below.trans (hb.mono h.below.size), h.l1, h.l2, h.ne, h.b1.later hb, h.b2.later hb⟩
theorem below_set {S q i : Nat} {u : Value} (hq : S ≤ q) (h : Below S w wr) : Below S w (wr.setCell ⟨q, i, none⟩ u) :=
  ⟨h.os, h.tape, h.output, by simpa [World.setCell] using h.size, fun k hk => (Below.heap_setCell wr ⟨q, i, none⟩ u k (fun e => by have e' : k = q := e; omega)).trans (h.block k hk)⟩
theorem Two.set0 (h : Two w wr q1 q2 a1 a2 a3) (u : Value) : Two w (wr.setCell ⟨q1, 0, none⟩ u) q1 q2 u a2 a3 :=
  ⟨below_set h.l1 h.below, h.l1, h.l2, h.ne, heap_setCell_same wr q1 0 _ _ _ h.b1, (Below.heap_setCell wr ⟨q1, 0, none⟩ u q2 (fun e => h.ne e.symm)).trans h.b2⟩
theorem Two.set1 (h : Two w wr q1 q2 a1 a2 a3) (u : Value) : Two w (wr.setCell ⟨q1, 1, none⟩ u) q1 q2 a1 u a3 :=
  ⟨below_set h.l1 h.below, h.l1, h.l2, h.ne, heap_setCell_same wr q1 1 _ _ _ h.b1, (Below.heap_setCell wr ⟨q1, 1, none⟩ u q2 (fun e => h.ne e.symm)).trans h.b2⟩
theorem Two.set2 (h : Two w wr q1 q2 a1 a2 a3) (u : Value) : Two w (wr.setCell ⟨q1, 2, none⟩ u) q1 q2 a1 a2 u :=
  ⟨below_set h.l1 h.below, h.l1, h.l2, h.ne, heap_setCell_same wr q1 2 _ _ _ h.b1, (Below.heap_setCell wr ⟨q1, 2, none⟩ u q2 (fun e => h.ne e.symm)).trans h.b2⟩
theorem Two.ends (h : Two w wr q1 q2 a1 a2 a3) (u1 u2 u3 : Value) (hw : w' = ((wr.setCell ⟨q2, 0, none⟩ u1).setCell ⟨q2, 1, none⟩ u2).setCell ⟨q2, 2, none⟩ u3) : Bx w' q2 u1 u2 u3 ∧ Below w.heap.size w w' ∧ Tn (fun k => k = q2) wr w' := by
  refine ⟨?_, by rw [hw]; exact below_set h.l2 (below_set h.l2 (below_set h.l2 h.below)), ?_⟩
  · have e := setsV_all (vs := [u1, u2, u3]) h.b2 rfl
    rw [hw]
    exact e
  · rw [hw]
    exact (((Tn.refl (fun j => j = q2) wr).setCell (p := ⟨q2, 0, none⟩) (.inr rfl) _).setCell (p := ⟨q2, 1, none⟩) (.inr rfl) _).setCell (p := ⟨q2, 2, none⟩) (.inr rfl) _
end
/-- The rows are no boxes. -/
theorem Rf.over {w w' : World} {B q : Nat} {a1 a2 a3 u1 u2 u3 : Value} {R : List Int} {o : Option Int} {W : List Int} (h : Rf w B a1 a2 a3 R o W) (hb : Bx w q u1 u2 u3) (ht : Tn (fun k => k = q) w w') : Rf w' B a1 a2 a3 R o W := by
  have hne : ∀ {v : Value} {L : List Int}, Rw w B v L → ∀ k, v.ownBlock = some k → ¬ (k = q) := fun hr k hk e => by
    subst e
    exact own_ne hr hb (by decide) hk
  exact ⟨h.r1.tn ht (hne h.r1), h.r2.tn ht (hne h.r2), h.r3.tn ht (hne h.r3)⟩
theorem Rf.slices {w : World} {B : Nat} {a1 a2 a3 : Value} {R : List Int} {o : Option Int} {W : List Int} (h : Rf w B a1 a2 a3 R o W) : ∃ A1 c1 A2 c2 A3 c3, a1 = .slice A1 R.length c1 ∧ a2 = .slice A2 o.toList.length c2 ∧ a3 = .slice A3 W.length c3 := by
  obtain ⟨A1, c1, h1⟩ := h.r1.slice
  obtain ⟨A2, c2, h2⟩ := h.r2.slice
  obtain ⟨A3, c3, h3⟩ := h.r3.slice
  exact ⟨A1, c1, A2, c2, A3, c3, h1, h2, h3⟩

set_option maxHeartbeats 800000 in
theorem refread_no (h : Rf w B a1 a2 a3 R o W) (hl : R.length ≤ 1000) (hno : inB R o x = true ∨ o.isSome = true ∨ W ≠ []) :
    Calls Try.prog 10 #[.agg #[a1, a2, a3], .int .i64 x] w (RefIn w B R o W false) := by
  obtain ⟨W1, hW1⟩ : ∃ W1, W1 = w.alloc (.cells #[a1, a2, a3] 30) := ⟨_, rfl⟩
  obtain ⟨W2, hW2⟩ : ∃ W2, W2 = W1.alloc (.cells #[.slice none 0 0, .slice none 0 0, .slice none 0 0] 30) := ⟨_, rfl⟩
  have h2 := Two.made hW1 hW2
  have HW1 := Lib.hid hW1
  have HW2 := Lib.hid hW2
  obtain ⟨q1, hq1⟩ : ∃ q1, q1 = w.heap.size := ⟨_, rfl⟩
  obtain ⟨q2, hq2⟩ : ∃ q2, q2 = w.heap.size + 1 := ⟨_, rfl⟩
  rw [← hq2, ← hq1] at h2
  have HQ1 := Lib.hid hq1.symm
  have HQ2 := Lib.hid hq2.symm
  have HF := Lib.hid (h.later h2.below)
  have HI := Lib.hid (refin_any B a1 a2 a3 R o W x W2 HF.out hl)
  have HT := Lib.hid h2
  obtain ⟨A1, c1, A2, c2, A3, c3, rfl, rfl, rfl⟩ := h.slices
  obtain ⟨n1, hn1⟩ : ∃ n, n = R.length := ⟨_, rfl⟩
  obtain ⟨n2, hn2⟩ : ∃ n, n = o.toList.length := ⟨_, rfl⟩
  obtain ⟨n3, hn3⟩ : ∃ n, n = W.length := ⟨_, rfl⟩
  rw [← hn1, ← hn2, ← hn3] at HF HI HT HW1 ⊢
  have hdec : inB R o x = true ∨ (0 : Int) < (n2 : Int) ∨ ((n2 : Int) = 0 ∧ (0 : Int) < (n3 : Int)) := by
    rcases hno with hw | hw | hw
    · exact .inl hw
    · rcases o with _ | z
      · cases hw
      · right; left; rw [hn2]; exact Int.one_pos
    · rcases o with _ | z
      · right; right
        have := List.length_pos_iff.2 hw
        rw [hn2, hn3]
        exact ⟨rfl, by omega⟩
      · right; left; rw [hn2]; exact Int.one_pos
  have HE : Hid (∀ w3 w9, Below W2.heap.size W2 w3 → w9 = ((w3.setCell ⟨q2, 0, none⟩ (.slice A1 n1 c1)).setCell ⟨q2, 1, none⟩ (.slice A2 n2 c2)).setCell ⟨q2, 2, none⟩ (.slice A3 n3 c3) → Bx w9 q2 (.slice A1 n1 c1) (.slice A2 n2 c2) (.slice A3 n3 c3) ∧ RefIn w B R o W false (.returned (.tuple #[.agg #[.slice A1 n1 c1, .slice A2 n2 c2, .slice A3 n3 c3], .bool false])) w9) := Lib.hid fun w3 w9 hb hw => by
    have h3 := HT.out.later hb
    obtain ⟨k1, k2, k3⟩ := h3.ends _ _ _ hw
    exact ⟨k1, _, _, _, rfl, (HF.out.later hb).over h3.b2 k3, k2⟩
  clear h hl hno h2 hW1 hW2 hq1 hq2 hn1 hn2 hn3
  go_enter Try.func10, Try.ntmps10
  go_upto_region 1 with fail
  rw [← HW1.out, ← HW2.out, HQ2.out, HQ1.out]
  have g0 := cell_of_blk HT.out.b1 0
  have g1 := cell_of_blk HT.out.b1 1
  have g2 := cell_of_blk HT.out.b1 2
  go_wp2_with fail
  refine HI.out.mono ?_
  rintro e w3 ⟨rfl, hb3⟩
  have h3 := HT.out.later hb3
  have p0 := cell_of_blk h3.b1 0
  have p1 := cell_of_blk h3.b1 1
  have p2 := cell_of_blk h3.b1 2
  have z0 := cell_of_blk h3.b2 0
  have z1 := cell_of_blk h3.b2 1
  have z2 := cell_of_blk h3.b2 2
  have fz0 := free_of_blk h3.b2 0
  have fz1 := free_of_blk h3.b2 1
  have fz2 := free_of_blk h3.b2 2
  have HB3 := Lib.hid hb3
  clear h3 hb3
  obtain ⟨W9, hW9⟩ : ∃ W9, W9 = ((w3.setCell ⟨q2, 0, none⟩ (.slice A1 n1 c1)).setCell ⟨q2, 1, none⟩ (.slice A2 n2 c2)).setCell ⟨q2, 2, none⟩ (.slice A3 n3 c3) := ⟨_, rfl⟩
  obtain ⟨k1, k2⟩ := HE.out w3 W9 HB3.out hW9
  have y0 := cell_of_blk k1 0
  have y1 := cell_of_blk k1 1
  have y2 := cell_of_blk k1 2
  have HK2 := Lib.hid k2
  clear k1 k2
  rcases hi : inB R o x with _ | _
  · rcases hdec with h | h | ⟨h, h'⟩
    · rw [hi] at h; cases h
    · clear hi
      go_wp2
      rw [← hW9]
      exact bodyPost_ret (v := .tuple #[.agg #[.slice A1 n1 c1, .slice A2 n2 c2, .slice A3 n3 c3], .bool false]) (by simp [results, Try.results10, go_sem, y0, y1, y2]) rfl HK2.out
    · clear hi
      go_wp2
      rw [← hW9]
      exact bodyPost_ret (v := .tuple #[.agg #[.slice A1 n1 c1, .slice A2 n2 c2, .slice A3 n3 c3], .bool false]) (by simp [results, Try.results10, go_sem, y0, y1, y2]) rfl HK2.out
  · clear hi hdec
    go_wp2
    rw [← hW9]
    exact bodyPost_ret (v := .tuple #[.agg #[.slice A1 n1 c1, .slice A2 n2 c2, .slice A3 n3 c3], .bool false]) (by simp [results, Try.results10, go_sem, y0, y1, y2]) rfl HK2.out

set_option maxHeartbeats 1600000 in
theorem refread_yes (h : Rf w B a1 a2 a3 R none []) (hl : R.length ≤ 900) (hin : inB R none x = false) (hB : B ≤ w.heap.size) :
    Calls Try.prog 10 #[.agg #[a1, a2, a3], .int .i64 x] w (RefIn w B (R ++ [x]) none [] true) := by
  obtain ⟨W1, hW1⟩ : ∃ W1, W1 = w.alloc (.cells #[a1, a2, a3] 30) := ⟨_, rfl⟩
  obtain ⟨W2, hW2⟩ : ∃ W2, W2 = W1.alloc (.cells #[.slice none 0 0, .slice none 0 0, .slice none 0 0] 30) := ⟨_, rfl⟩
  have h2 := Two.made hW1 hW2
  have HW1 := Lib.hid hW1
  have HW2 := Lib.hid hW2
  obtain ⟨q1, hq1⟩ : ∃ q1, q1 = w.heap.size := ⟨_, rfl⟩
  obtain ⟨q2, hq2⟩ : ∃ q2, q2 = w.heap.size + 1 := ⟨_, rfl⟩
  rw [← hq2, ← hq1] at h2
  have HQ1 := Lib.hid hq1.symm
  have HQ2 := Lib.hid hq2.symm
  obtain ⟨iE, hiE, zE0, zE1, zE2⟩ := info_three infoInt
  have HF := Lib.hid (h.later h2.below)
  have HI := Lib.hid (refin_any B a1 a2 a3 R none [] x W2 HF.out (by omega))
  rw [hin] at HI
  have HT := Lib.hid h2
  obtain ⟨A1, c1, A2, c2, A3, c3, rfl, rfl, rfl⟩ := h.slices
  have k2 : ((none : Option Int).toList.length) = 0 := rfl
  rw [k2] at HF HI HT HW1 ⊢
  have k3 : (([] : List Int).length) = 0 := rfl
  rw [k3] at HF HI HT HW1 ⊢
  obtain ⟨n1, hn1⟩ : ∃ n, n = R.length := ⟨_, rfl⟩
  have hn9 : n1 ≤ 900 := by omega
  have HN1 := Lib.hid hn1
  rw [← hn1] at HF HI HT HW1 ⊢
  have HB0 := Lib.hid hB
  clear h hl h2 hW1 hW2 hq1 hq2 hn1 hin k2 k3 hB
  go_enter Try.func10, Try.ntmps10
  go_upto_region 1 with fail
  rw [← HW1.out, ← HW2.out, HQ2.out, HQ1.out]
  have g0 := cell_of_blk HT.out.b1 0
  have g1 := cell_of_blk HT.out.b1 1
  have g2 := cell_of_blk HT.out.b1 2
  go_wp2_with fail
  refine HI.out.mono ?_
  rintro e w3 ⟨rfl, hb3⟩
  have h3 := HT.out.later hb3
  have p0 := cell_of_blk h3.b1 0
  have p1 := cell_of_blk h3.b1 1
  have p2 := cell_of_blk h3.b1 2
  have hF3 := HF.out.later hb3
  have HT3 := Lib.hid h3
  have HF3 := Lib.hid hF3
  clear h3 hb3 hF3 g0 g1 g2
  go_upto_region 3 with fail
  obtain ⟨W4, hW4⟩ : ∃ W4, W4 = w3.alloc (.cells #[] 3) := ⟨_, rfl⟩
  have hb4 : Below w3.heap.size w3 W4 := by rw [hW4]; exact (Below.refl _ _).alloc (Nat.le_refl _) _
  have HO4 : Hid (W4.ownsRow w3.heap.size 3 1 (.slice (some ⟨w3.heap.size, 0, none⟩) 0 0) 0 []) := Lib.hid (by rw [hW4]; exact own_full w3 w3.heap.size 1 0 3 [] (Nat.le_refl _) (by decide) rfl)
  have HB4 := Lib.hid hb4
  have HW4 := Lib.hid hW4.symm
  have HONE := Lib.hid (iC_one R)
  have HONEx := Lib.hid (iC_one [x])
  have e0 := cell_of_blk (HT3.out.later hb4).b1 0
  have hR4 := (HF3.out.later hb4).r1
  unfold Rw at hR4
  rw [← HN1.out] at hR4
  have HR4 := Lib.hid hR4
  have ex0 : (w3.alloc (.cells #[] 3)).cell? ⟨q1, 0, none⟩ = some (.slice A1 n1 c1) := by rw [HW4.out]; exact e0
  clear hW4 hb4 hR4
  go_upto_region 4 with (first
    | (at_builtin; rw [HW4.out]; refine wpList_append_row rfl (.tmp 22) (.tmp 24) 28 rfl w3.heap.size 3 iE _ 1 8 Try.underlying28 hiE zE0 zE1 zE2 rfl (by decide) (.slice (some ⟨w3.heap.size, 0, none⟩) 0 0) 0 [] rfl HO4.out B (.slice A1 n1 c1) n1 (iC R) rfl HR4.out HONE.out (by simp only [maxLen]; omega) (by omega) HB4.out.size ?_; intro v5 w5 ho5 hg5; have hB5 := keep_grown HB4.out HO4.out hg5 (Nat.le_refl _) (Nat.le_refl _); rw [List.nil_append, Nat.zero_add] at ho5; obtain ⟨A5, c5, rfl, _⟩ := own_facts ho5; obtain ⟨W6, hW6⟩ : ∃ W6, W6 = w5.alloc (.cells #[.int .i64 x] 3) := ⟨_, rfl⟩; have hb6 : Below w5.heap.size w5 W6 := by { rw [hW6]; exact (Below.refl _ _).alloc (Nat.le_refl _) _ }; have HN6 : Hid (∀ (i : Nat) (u : Value), (iC [x])[i]? = some u → W6.cell? ((⟨w5.heap.size, 0, none⟩ : Addr).add i) = some u) := Lib.hid fun i u hi => by { rw [hW6, new_cell]; simpa [iC] using hi }; have HO6 := Lib.hid (ownL ho5 hb6); have HB6 := Lib.hid (hB5.trans (hb6.mono hB5.size)); have HW6 := Lib.hid hW6.symm; clear hW6 hb6 hB5 ho5 hg5)
    | (at_builtin; rw [HW6.out]; refine wpList_append_own _ rfl (.tmp 25) (.tmp 27) 28 rfl w3.heap.size 3 iE _ 1 8 Try.underlying28 hiE zE0 zE1 zE2 rfl (by decide) (.slice A5 n1 c5) n1 (iC R) rfl HO6.out ⟨w5.heap.size, 0, none⟩ 1 1 (iC [x]) rfl rfl HN6.out HONEx.out (by simp only [maxLen]; omega) (by omega) HB6.out.size ?_; intro v7 w7 ho7 hg7 hnil7; have hB7 := keep_grown HB6.out HO6.out hg7 (Nat.le_refl _) (Nat.le_refl _); have hT7 := HT3.out.later hB7; obtain ⟨A7, c7, rfl, _⟩ := own_facts ho7; have z0 := cell_of_blk hT7.b1 0; have fz0 := free_of_blk hT7.b1 0; have HT7 := Lib.hid hT7; have HO7 := Lib.hid ho7; have HB7 := Lib.hid hB7; clear hnil7 ho7 hg7 hT7 hB7))
  obtain ⟨W8, hW8⟩ : ∃ W8, W8 = w7.setCell ⟨q1, 0, none⟩ (.slice A7 (n1 + 1) c7) := ⟨_, rfl⟩
  rw [← hW8]
  have hF7 := HF3.out.later HB7.out
  have hF7' : Rf w7 B (.slice A7 (n1 + 1) c7) (.slice A2 0 c2) (.slice A3 0 c3) (R ++ [x]) none [] := ⟨by
    have h := HO7.out
    have e1 : n1 + 1 = (R ++ [x]).length := by rw [List.length_append, HN1.out]; rfl
    have e2 : iC R ++ iC [x] = iC (R ++ [x]) := by unfold iC; rw [List.map_append]
    rw [e2] at h
    unfold Rw
    rw [← e1]
    exact own_mono h (Nat.le_trans HB0.out HT3.out.below.size), hF7.r2, hF7.r3⟩
  have hT8 := HT7.out.set0 (.slice A7 (n1 + 1) c7)
  rw [← hW8] at hT8
  have hF8 := hF7'.over HT7.out.b1 (w' := W8) (by rw [hW8]; exact (Tn.refl (fun j => j = q1) w7).setCell (p := ⟨q1, 0, none⟩) (.inr rfl) _)
  obtain ⟨W9, hW9⟩ : ∃ W9, W9 = ((W8.setCell ⟨q2, 0, none⟩ (.slice A7 (n1 + 1) c7)).setCell ⟨q2, 1, none⟩ (.slice A2 0 c2)).setCell ⟨q2, 2, none⟩ (.slice A3 0 c3) := ⟨_, rfl⟩
  obtain ⟨k1, k2, k3⟩ := hT8.ends _ _ _ hW9
  have hF9 := hF8.over hT8.b2 k3
  have HE : Hid (RefIn w B (R ++ [x]) none [] true (.returned (.tuple #[.agg #[.slice A7 (n1 + 1) c7, .slice A2 0 c2, .slice A3 0 c3], .bool true])) W9) := Lib.hid ⟨_, _, _, rfl, hF9, k2⟩
  have y0 := cell_of_blk k1 0
  have y1 := cell_of_blk k1 1
  have y2 := cell_of_blk k1 2
  have r0 := cell_of_blk hT8.b1 0
  have r1 := cell_of_blk hT8.b1 1
  have r2 := cell_of_blk hT8.b1 2
  have s0 := cell_of_blk hT8.b2 0
  have s1 := cell_of_blk hT8.b2 1
  have s2 := cell_of_blk hT8.b2 2
  have fs0 := free_of_blk hT8.b2 0
  have fs1 := free_of_blk hT8.b2 1
  have fs2 := free_of_blk hT8.b2 2
  clear k1 k2 k3 hF9 hF8 hF7 hF7' hT8 hW8 HB7 HO7 HT7 z0 fz0
  go_wp2
  rw [← hW9]
  exact bodyPost_ret (v := .tuple #[.agg #[.slice A7 (n1 + 1) c7, .slice A2 0 c2, .slice A3 0 c3], .bool true]) (by simp [results, Try.results10, go_sem, y0, y1, y2]) rfl HE.out
end
end Go.Proofs.Ythmehalkijbpdaa.gat
