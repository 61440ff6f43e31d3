/- A script that is read: where it lies; what the law's own form of it is (of). Condition: none. -/
import Derived.Test.YtfbgnafnpeeonaaDoorScrParse
import Derived.Test.YtfbgnafnpeeonaaDoorCalOnly
namespace Go.Proofs.YtfbgnafnpeeonaaDoor.scr
set_option maxRecDepth 100000
open Go.RowKit Go.Proofs.YtfbgnafnpeeonaaDoor.words Go.Proofs.YtfbgnafnpeeonaaDoor.cal

/-- Where a script lies. -/
structure Scr (w : World) (S : ScB) (Ai Ac Ap : Option Addr) : Prop where
  im : ∀ (i : Nat) x, S.im[i]? = some x → ∃ b off, Ai = some ⟨b, off, none⟩ ∧ b < w.heap.size ∧ w.cell? ⟨b, off + i, none⟩ = some (.string x)
  cl : ∀ (i : Nat) l, S.cl[i]? = some l → ∃ b off A2 c2, Ac = some ⟨b, off, none⟩ ∧ b < w.heap.size ∧ w.cell? ⟨b, off + i, none⟩ = some (.slice A2 l.length c2) ∧
    ∀ (j : Nat) o, l[j]? = some o → ∃ b2 off2, A2 = some ⟨b2, off2, none⟩ ∧ b2 < w.heap.size ∧ ∀ (k : Nat) u, o.c[k]? = some u → w.cell? ⟨b2, off2 + j * 6 + k, none⟩ = some u
  pk : ∀ (i : Nat) x, S.pk[i]? = some x → ∃ b off, Ap = some ⟨b, off, none⟩ ∧ b < w.heap.size ∧ w.cell? ⟨b, off + i, none⟩ = some (.int .i64 x)
theorem Scr.later {w w' : World} {S : ScB} {Ai Ac Ap : Option Addr} (h : Scr w S Ai Ac Ap) (hb : Below w.heap.size w w') : Scr w' S Ai Ac Ap := by
  have k : ∀ {b o : Nat} {v : Value}, b < w.heap.size → w.cell? ⟨b, o, none⟩ = some v → w'.cell? ⟨b, o, none⟩ = some v := fun {b o v} hl hv => (hb.cell (p := ⟨b, o, none⟩) hl).trans hv
  refine ⟨fun i x hx => ?_, fun i l hl => ?_, fun i x hx => ?_⟩
  · obtain ⟨b, off, h1, h2, h3⟩ := h.im i x hx
    exact ⟨b, off, h1, Nat.lt_of_lt_of_le h2 hb.size, k h2 h3⟩
  · obtain ⟨b, off, A2, c2, h1, h2, h3, h4⟩ := h.cl i l hl
    refine ⟨b, off, A2, c2, h1, Nat.lt_of_lt_of_le h2 hb.size, k h2 h3, fun j o ho => ?_⟩
    obtain ⟨b2, off2, h5, h6, h7⟩ := h4 j o ho
    exact ⟨b2, off2, h5, Nat.lt_of_lt_of_le h6 hb.size, fun q u hu => k h6 (h7 q u hu)⟩
  · obtain ⟨b, off, h1, h2, h3⟩ := h.pk i x hx
    exact ⟨b, off, h1, Nat.lt_of_lt_of_le h2 hb.size, k h2 h3⟩
theorem op_cell {l : List OpB} {j : Nat} {o : OpB} (h : l[j]? = some o) {k : Nat} {u : Value} (hu : o.c[k]? = some u) : (opCells l)[j * 6 + k]? = some u := by
  have hk : k < 6 := by
    have := (List.getElem?_eq_some_iff.1 hu).1
    simpa [OpB.c] using this
  induction l generalizing j with
  | nil => cases h
  | cons x l ih =>
    have hlen : x.c.length = 6 := rfl
    show (x.c ++ opCells l)[j * 6 + k]? = some u
    cases j with
    | zero =>
      obtain rfl : x = o := by simpa using h
      rw [List.getElem?_append_left (by omega)]
      simpa using hu
    | succ j =>
      rw [List.getElem?_append_right (by omega)]
      have : (j + 1) * 6 + k - x.c.length = j * 6 + k := by omega
      rw [this]
      exact ih (by simpa using h)
theorem Own.form {w : World} {B : Nat} {S : ScB} {vi vc vp : Value} (h : Own w B S vi vc vp) : ∃ Ai ci Ac cc Ap cp, vi = .slice Ai S.im.length ci ∧ vc = .slice Ac S.cl.length cc ∧ vp = .slice Ap S.pk.length cp ∧ Scr w S Ai Ac Ap := by
  obtain ⟨vs, h1, h2, h3, _⟩ := h.cl
  obtain ⟨Ai, ci, e1, _⟩ := lru.own_facts h.im
  obtain ⟨Ac, cc, e2, _⟩ := lru.own_facts h1
  obtain ⟨Ap, cp, e3, _⟩ := lru.own_facts h.pk
  refine ⟨Ai, ci, Ac, cc, Ap, cp, e1, e2, e3, fun i x hx => ?_, fun i l hl => ?_, fun i x hx => ?_⟩
  · obtain ⟨g, c, q1, _, q2, q3⟩ := lru.own_at h.im (j := i) (u := .string x) (by rw [List.getElem?_map, hx]; rfl)
    rw [e1] at q1
    injection q1 with q1
    exact ⟨g, 0, q1, q2, by rw [Nat.zero_add]; exact q3⟩
  · have hi : i < S.cl.length := (List.getElem?_eq_some_iff.1 hl).1
    obtain ⟨v, hv⟩ : ∃ v, vs[i]? = some v := ⟨_, List.getElem?_eq_getElem (by omega)⟩
    obtain ⟨g, c, q1, _, q2, q3⟩ := lru.own_at h1 hv
    rw [e2] at q1
    injection q1 with q1
    have hr := h3 i v l hv hl
    obtain ⟨A2, c2, e4, _⟩ := lru.own_facts hr
    subst e4
    refine ⟨g, 0, A2, c2, q1, q2, by rw [Nat.zero_add]; exact q3, fun j o ho => ?_⟩
    obtain ⟨g2, _, q4, _, q5, _⟩ := lru.own_at hr (j := j * 6 + 0) (u := .int .i64 o.K) (op_cell ho rfl)
    injection q4 with q4
    refine ⟨g2, 0, q4, q5, fun k u hu => ?_⟩
    obtain ⟨g3, _, q6, _, _, q7⟩ := lru.own_at hr (j := j * 6 + k) (u := u) (op_cell ho hu)
    injection q6 with q6
    rw [q4] at q6
    injection q6 with q6
    injection q6 with q6
    subst q6
    rw [Nat.zero_add]
    exact q7
  · obtain ⟨g, c, q1, _, q2, q3⟩ := lru.own_at h.pk (j := i) (u := .int .i64 x) (by rw [List.getElem?_map, hx]; rfl)
    rw [e3] at q1
    injection q1 with q1
    exact ⟨g, 0, q1, q2, by rw [Nat.zero_add]; exact q3⟩
theorem add_off (b o j : Nat) : (⟨b, o, none⟩ : Addr).add j = ⟨b, o + j, none⟩ := lru.add_place b o j
set_option maxHeartbeats 3200000 in
theorem of_any (S : ScB) (vi vc vp : Value) (hi : ∃ A l c, vi = .slice A l c) (hc : ∃ A l c, vc = .slice A l c) (hp : ∃ A l c, vp = .slice A l c) (w : World) :
    Calls Tryd.prog 8 #[scV S vi vc vp] w fun e w' => e = .returned (scV S vi vc vp) ∧ Below w.heap.size w w' := by
  obtain ⟨A1, l1, c1, rfl⟩ := hi
  obtain ⟨A2, l2, c2, rfl⟩ := hc
  obtain ⟨A3, l3, c3, rfl⟩ := hp
  obtain ⟨W1, hW1⟩ : ∃ W1, W1 = (w.alloc (.cells #[.int .i64 S.sh, .int .i64 S.rm, .int .i64 S.cu, .slice A1 l1 c1, .slice A2 l2 c2, .slice A3 l3 c3] 28)).alloc (.cells #[.int .i64 0, .int .i64 0, .int .i64 0, .slice none 0 0, .slice none 0 0, .slice none 0 0] 33) := ⟨_, rfl⟩
  have hs1 : (w.alloc (.cells #[.int .i64 S.sh, .int .i64 S.rm, .int .i64 S.cu, .slice A1 l1 c1, .slice A2 l2 c2, .slice A3 l3 c3] 28)).heap.size = w.heap.size + 1 := by simp
  have hb1 : Below w.heap.size w W1 := by rw [hW1]; exact ((Below.refl _ _).alloc (Nat.le_refl _) _).alloc (by rw [hs1]; omega) _
  have x1 : W1.heap[w.heap.size]? = some (.cells #[.int .i64 S.sh, .int .i64 S.rm, .int .i64 S.cu, .slice A1 l1 c1, .slice A2 l2 c2, .slice A3 l3 c3] 28 (0, 0)) := by
    rw [hW1]
    exact (Below.heap_alloc _ _ _ (by rw [hs1]; omega)).trans (heap_alloc_new w _)
  have x2 : W1.heap[w.heap.size + 1]? = some (.cells #[.int .i64 0, .int .i64 0, .int .i64 0, .slice none 0 0, .slice none 0 0, .slice none 0 0] 33 (0, 0)) := by rw [hW1, ← hs1]; exact heap_alloc_new _ _
  have HW1 := Lib.hid hW1
  have y0 := cell_of_blk x1 0
  have y1 := cell_of_blk x1 1
  have y2 := cell_of_blk x1 2
  have y3 := cell_of_blk x1 3
  have y4 := cell_of_blk x1 4
  have y5 := cell_of_blk x1 5
  have q0 := cell_of_blk x2 0
  have q1 := cell_of_blk x2 1
  have q2 := cell_of_blk x2 2
  have q3 := cell_of_blk x2 3
  have q4 := cell_of_blk x2 4
  have q5 := cell_of_blk x2 5
  have z0 := free_of_blk x2 0
  have z1 := free_of_blk x2 1
  have z2 := free_of_blk x2 2
  have z3 := free_of_blk x2 3
  have z4 := free_of_blk x2 4
  have z5 := free_of_blk x2 5
  have x3 := put6_at x2 (.int .i64 S.sh) (.int .i64 S.rm) (.int .i64 S.cu) (.slice A1 l1 c1) (.slice A2 l2 c2) (.slice A3 l3 c3)
  have p0 := cell_of_blk x3 0
  have p1 := cell_of_blk x3 1
  have p2 := cell_of_blk x3 2
  have p3 := cell_of_blk x3 3
  have p4 := cell_of_blk x3 4
  have p5 := cell_of_blk x3 5
  have HF : Hid (Below w.heap.size w (put6 W1 (w.heap.size + 1) (.int .i64 S.sh) (.int .i64 S.rm) (.int .i64 S.cu) (.slice A1 l1 c1) (.slice A2 l2 c2) (.slice A3 l3 c3))) := Lib.hid (put6_below hb1 (by omega) _ _ _ _ _ _)
  unfold put6 at p0 p1 p2 p3 p4 p5 HF
  clear hW1 hs1 hb1 x1 x2 x3
  unfold scV
  go_enter Tryd.func8, Tryd.ntmps8
  go_upto_region 1 with fail
  rw [← HW1.out]
  clear HW1
  go_wp2_with fail
  exact bodyPost_ret (v := .agg #[.int .i64 S.sh, .int .i64 S.rm, .int .i64 S.cu, .slice A1 l1 c1, .slice A2 l2 c2, .slice A3 l3 c3]) (by simp [results, Tryd.results8, go_sem, p0, p1, p2, p3, p4, p5]) rfl ⟨rfl, HF.out⟩
end Go.Proofs.YtfbgnafnpeeonaaDoor.scr
