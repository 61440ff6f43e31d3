/- What the image's reference reads of too few bytes, or too deep. No condition. -/
import Derived.Test.YtapgagfeghfooaaDoorJImaNum
namespace Go.Proofs.YtapgagfeghfooaaDoor.ima
set_option maxRecDepth 100000
open Go.RowKit Go.Proofs.YtapgagfeghfooaaDoor.words Go.Proofs.YtapgagfeghfooaaDoor.ext Go.Proofs.YtapgagfeghfooaaDoor.name Go.Proofs.YtapgagfeghfooaaDoor.tre

def gotN : Value := .agg #[.int .i64 0, .bool false, .slice none 0 0, .slice none 0 0, .int .i64 0, .slice none 0 0, .string ⟨#[]⟩, .int .i64 (-1)]
def got0 : Array Value := #[.int .i64 0, .bool false, .slice none 0 0, .slice none 0 0, .int .i64 0, .slice none 0 0, .string ⟨#[]⟩, .int .i64 0]
def gotM : Array Value := #[.int .i64 0, .bool false, .slice none 0 0, .slice none 0 0, .int .i64 0, .slice none 0 0, .string ⟨#[]⟩, .int .i64 (-1)]
/-- The two boxes of an answer: the answer's own, and the one that says none. -/
structure GotM (w : World) (g : Nat) (W : World) : Prop where
  ans : W.heap[g]? = some (.cells got0 54 (0, 0))
  non : W.heap[g + 1]? = some (.cells gotM 54 (0, 0))
  below : Below w.heap.size w W
  size : g = w.heap.size
theorem GotM.start (w : World) : GotM w w.heap.size ((w.alloc (.cells got0 54)).alloc (.cells gotM 54)) := by
  have h1 := heap_alloc_new w (.cells got0 54)
  have hs : (w.alloc (.cells got0 54)).heap.size = w.heap.size + 1 := by simp
  have hb := (Below.refl (w.alloc (.cells got0 54)).heap.size (w.alloc (.cells got0 54))).alloc (Nat.le_refl _) (.cells gotM 54)
  refine ⟨(hb.block _ (lt_of_some h1)).trans h1, ?_, ((Below.refl _ _).alloc (Nat.le_refl _) _).alloc (by simp) _, rfl⟩
  have h2 := heap_alloc_new (w.alloc (.cells got0 54)) (.cells gotM 54)
  rw [hs] at h2
  exact h2
theorem GotM.later {w W W' : World} {g : Nat} (h : GotM w g W) (hb : Below W.heap.size W W') : GotM w g W' :=
  ⟨(hb.block _ (lt_of_some h.ans)).trans h.ans, (hb.block _ (lt_of_some h.non)).trans h.non, h.below.trans (hb.mono h.below.size), h.size⟩
theorem over8 {w : World} {g : Nat} {T : TypeId} {c0 c1 c2 c3 c4 c5 c6 c7 u0 u1 u2 u3 u4 u5 u6 u7 : Value} (h : w.heap[g]? = some (.cells #[c0, c1, c2, c3, c4, c5, c6, c7] T (0, 0))) :
    ((((((((w.setCell ⟨g, 0, none⟩ u0).setCell ⟨g, 1, none⟩ u1).setCell ⟨g, 2, none⟩ u2).setCell ⟨g, 3, none⟩ u3).setCell ⟨g, 4, none⟩ u4).setCell ⟨g, 5, none⟩ u5).setCell ⟨g, 6, none⟩ u6).setCell ⟨g, 7, none⟩ u7).heap[g]? = some (.cells #[u0, u1, u2, u3, u4, u5, u6, u7] T (0, 0)) := by
  simp [World.setCell, Array.getElem?_modify, h]
theorem GotM.nons {w W : World} {g : Nat} (h : GotM w g W) : W.cell? ⟨g + 1, 0, none⟩ = some (.int .i64 0) ∧ W.cell? ⟨g + 1, 1, none⟩ = some (.bool false) ∧ W.cell? ⟨g + 1, 2, none⟩ = some (.slice none 0 0) ∧ W.cell? ⟨g + 1, 3, none⟩ = some (.slice none 0 0) ∧ W.cell? ⟨g + 1, 4, none⟩ = some (.int .i64 0) ∧ W.cell? ⟨g + 1, 5, none⟩ = some (.slice none 0 0) ∧ W.cell? ⟨g + 1, 6, none⟩ = some (.string ⟨#[]⟩) ∧ W.cell? ⟨g + 1, 7, none⟩ = some (.int .i64 (-1)) :=
  ⟨cell_of_blk h.non 0, cell_of_blk h.non 1, cell_of_blk h.non 2, cell_of_blk h.non 3, cell_of_blk h.non 4, cell_of_blk h.non 5, cell_of_blk h.non 6, cell_of_blk h.non 7⟩
theorem GotM.anss {w W : World} {g : Nat} (h : GotM w g W) : W.cell? ⟨g, 0, none⟩ = some (.int .i64 0) ∧ W.cell? ⟨g, 1, none⟩ = some (.bool false) ∧ W.cell? ⟨g, 2, none⟩ = some (.slice none 0 0) ∧ W.cell? ⟨g, 3, none⟩ = some (.slice none 0 0) ∧ W.cell? ⟨g, 4, none⟩ = some (.int .i64 0) ∧ W.cell? ⟨g, 5, none⟩ = some (.slice none 0 0) ∧ W.cell? ⟨g, 6, none⟩ = some (.string ⟨#[]⟩) ∧ W.cell? ⟨g, 7, none⟩ = some (.int .i64 0) :=
  ⟨cell_of_blk h.ans 0, cell_of_blk h.ans 1, cell_of_blk h.ans 2, cell_of_blk h.ans 3, cell_of_blk h.ans 4, cell_of_blk h.ans 5, cell_of_blk h.ans 6, cell_of_blk h.ans 7⟩
theorem GotM.free {w W : World} {g : Nat} (h : GotM w g W) (i : Nat) : W.frozen? ⟨g, i, none⟩ = false := free_of_blk h.ans i
def set8 (w : World) (g : Nat) (u0 u1 u2 u3 u4 u5 u6 u7 : Value) : World := ((((((((w.setCell ⟨g, 0, none⟩ u0).setCell ⟨g, 1, none⟩ u1).setCell ⟨g, 2, none⟩ u2).setCell ⟨g, 3, none⟩ u3).setCell ⟨g, 4, none⟩ u4).setCell ⟨g, 5, none⟩ u5).setCell ⟨g, 6, none⟩ u6).setCell ⟨g, 7, none⟩ u7)
theorem Below.set8 {S g : Nat} {a w : World} (h : Below S a w) (hg : S ≤ g) (u0 u1 u2 u3 u4 u5 u6 u7 : Value) : Below S a (set8 w g u0 u1 u2 u3 u4 u5 u6 u7) :=
  (((((((h.setCell (p := ⟨g, 0, none⟩) hg _).setCell (p := ⟨g, 1, none⟩) hg _).setCell (p := ⟨g, 2, none⟩) hg _).setCell (p := ⟨g, 3, none⟩) hg _).setCell (p := ⟨g, 4, none⟩) hg _).setCell (p := ⟨g, 5, none⟩) hg _).setCell (p := ⟨g, 6, none⟩) hg _).setCell (p := ⟨g, 7, none⟩) hg _
/-- The answer says none. -/
theorem GotM.none {w W : World} {g : Nat} (h : GotM w g W) : ∃ Wd, Wd = ima.set8 W g (.int .i64 0) (.bool false) (.slice none 0 0) (.slice none 0 0) (.int .i64 0) (.slice none 0 0) (.string ⟨#[]⟩) (.int .i64 (-1)) ∧ Below w.heap.size w Wd ∧ Wd.heap[g]? = some (.cells gotM 54 (0, 0)) :=
  ⟨_, rfl, Below.set8 h.below (by rw [h.size]; exact Nat.le_refl _) _ _ _ _ _ _ _ _, over8 h.ans⟩
set_option maxHeartbeats 1600000 in
theorem get_few (s : ByteArray) (d : Int) (w : World) (h : 15 < d ∨ s.size = 0) :
    Calls Tryd.prog 23 #[.string s, .int .i64 d] w fun e w' => e = .returned gotN ∧ Below w.heap.size w w' := by
  obtain ⟨W2, hW2⟩ : ∃ W2, W2 = (w.alloc (.cells got0 54)).alloc (.cells gotM 54) := ⟨_, rfl⟩
  have hG : GotM w w.heap.size W2 := by rw [hW2]; exact GotM.start w
  have HG := Lib.hid hG
  obtain ⟨g, hg⟩ : ∃ g, g = w.heap.size := ⟨_, rfl⟩
  unfold got0 gotM at hW2
  have HW2 := Lib.hid hW2
  clear hG hW2
  go_enter Tryd.func23, Tryd.ntmps23
  go_upto_region 2 with fail
  rw [← HW2.out]
  rw [← hg] at HG ⊢
  clear HW2 hg
  obtain ⟨n0, n1, n2, n3, n4, n5, n6, n7⟩ := HG.out.nons
  obtain ⟨a0, a1, a2, a3, a4, a5, a6, a7⟩ := HG.out.anss
  have z0 := HG.out.free 0
  have z1 := HG.out.free 1
  have z2 := HG.out.free 2
  have z3 := HG.out.free 3
  have z4 := HG.out.free 4
  have z5 := HG.out.free 5
  have z6 := HG.out.free 6
  have z7 := HG.out.free 7
  by_cases h1 : 15 < d
  · clear h
    go_wp2_with fail
    obtain ⟨Wd, hWd, hbd, hkd⟩ := HG.out.none
    have p0 := cell_of_blk hkd 0
    have p1 := cell_of_blk hkd 1
    have p2 := cell_of_blk hkd 2
    have p3 := cell_of_blk hkd 3
    have p4 := cell_of_blk hkd 4
    have p5 := cell_of_blk hkd 5
    have p6 := cell_of_blk hkd 6
    have p7 := cell_of_blk hkd 7
    unfold set8 at hWd
    unfold gotM at p0 p1 p2 p3 p4 p5 p6 p7
    rw [← hWd]
    exact bodyPost_ret (v := gotN) (by simp [results, Tryd.results23, go_sem, gotN, p0, p1, p2, p3, p4, p5, p6, p7]) rfl ⟨rfl, hbd⟩
  · have h0 : s.size = 0 := by omega
    have h2 : (s.size : Int) < 1 := by omega
    clear h h0
    go_wp2_with fail
    obtain ⟨Wd, hWd, hbd, hkd⟩ := HG.out.none
    have p0 := cell_of_blk hkd 0
    have p1 := cell_of_blk hkd 1
    have p2 := cell_of_blk hkd 2
    have p3 := cell_of_blk hkd 3
    have p4 := cell_of_blk hkd 4
    have p5 := cell_of_blk hkd 5
    have p6 := cell_of_blk hkd 6
    have p7 := cell_of_blk hkd 7
    unfold set8 at hWd
    unfold gotM at p0 p1 p2 p3 p4 p5 p6 p7
    rw [← hWd]
    exact bodyPost_ret (v := gotN) (by simp [results, Tryd.results23, go_sem, gotN, p0, p1, p2, p3, p4, p5, p6, p7]) rfl ⟨rfl, hbd⟩
/-- What a call has made. -/
abbrev Fresh (w w' : World) : Nat → Prop := fun b => w.heap.size ≤ b ∧ b < w'.heap.size
theorem bare_in (w : World) (P : Nat → Prop) (K : Int) (t : ByteArray) (h : Fit (.mk K false [] [] 0 [] t) raw0) : NdIn w P (.mk K false [] [] 0 [] t) raw0 :=
  .mk (fun _ => raw0) h (fun _ _ hx => (no_at hx).elim) (fun _ _ hx => (no_at hx).elim) (fun _ _ hx => (no_at hx).elim) (fun _ _ hx => (no_at hx).elim)
def gotV (n : Nd) (r : Raw) (k : Int) : Value := .agg #[.int .i64 n.K, .bool n.O, .slice r.An n.N.length r.cn, .slice r.Ai n.I.length r.ci, .int .i64 n.S, .slice r.Ae n.E.length r.ce, .string n.T, .int .i64 k]
/-- The answer says a node. -/
theorem GotM.put {w W : World} {g : Nat} (h : GotM w g W) (u0 u1 u2 u3 u4 u5 u6 u7 : Value) : ∃ Wd, Wd = ima.set8 W g u0 u1 u2 u3 u4 u5 u6 u7 ∧ Below w.heap.size w Wd ∧ Wd.heap[g]? = some (.cells #[u0, u1, u2, u3, u4, u5, u6, u7] 54 (0, 0)) :=
  ⟨_, rfl, Below.set8 h.below (by rw [h.size]; exact Nat.le_refl _) _ _ _ _ _ _ _ _, over8 h.ans⟩
set_option maxHeartbeats 1600000 in
theorem get_white (s : ByteArray) (d : Int) (w : World) (h1 : ¬ 15 < d) (h2 : 0 < s.size) (hkk : s[0].toNat = 4) :
    Calls Tryd.prog 23 #[.string s, .int .i64 d] w fun e w' => (∃ r, e = .returned (gotV whiteN r 1) ∧ NdIn w' (Fresh w w') whiteN r) ∧ Below w.heap.size w w' := by
  obtain ⟨W2, hW2⟩ : ∃ W2, W2 = (w.alloc (.cells got0 54)).alloc (.cells gotM 54) := ⟨_, rfl⟩
  have hG : GotM w w.heap.size W2 := by rw [hW2]; exact GotM.start w
  have HG := Lib.hid hG
  obtain ⟨g, hg⟩ : ∃ g, g = w.heap.size := ⟨_, rfl⟩
  have hs2 : W2.heap.size = w.heap.size + 2 := by rw [hW2]; simp
  unfold got0 gotM at hW2
  have HW2 := Lib.hid hW2
  clear hG hW2
  go_enter Tryd.func23, Tryd.ntmps23
  go_upto_region 2 with fail
  rw [← HW2.out]
  rw [← hg] at HG hs2 ⊢
  clear HW2 hg
  have l1 : ¬ (s.size : Int) < 1 := by omega
  have l2 : (0 : Int) < (s.size : Int) := by omega
  have hu : (s[0].toNat : Int) < 256 := by have := s[0].toNat_lt; omega
  go_upto_region 6 with fail
  obtain ⟨W3, hW3⟩ : ∃ W3, W3 = W2.alloc (.cells #[.int .i64 4, .bool false, .slice none 0 0, .slice none 0 0, .int .i64 0, .slice none 0 0, .string ⟨#[]⟩] 27) := ⟨_, rfl⟩
  rw [← hW3]
  have hb3 : Below W2.heap.size W2 W3 := by rw [hW3]; exact (Below.refl _ _).alloc (Nat.le_refl _) _
  have hk3 : W3.heap[W2.heap.size]? = some (.cells #[.int .i64 4, .bool false, .slice none 0 0, .slice none 0 0, .int .i64 0, .slice none 0 0, .string ⟨#[]⟩] 27 (0, 0)) := by rw [hW3]; exact heap_alloc_new W2 _
  rw [hs2] at hk3
  replace HG := Lib.hid (HG.out.later hb3)
  have HK := Lib.hid hk3
  clear hW3 hb3 hk3 hs2 hu
  clear hkk
  have b0 := cell_of_blk HK.out 0
  have b1 := cell_of_blk HK.out 1
  have b2 := cell_of_blk HK.out 2
  have b3 := cell_of_blk HK.out 3
  have b4 := cell_of_blk HK.out 4
  have b5 := cell_of_blk HK.out 5
  have b6 := cell_of_blk HK.out 6
  obtain ⟨n0, n1, n2, n3, n4, n5, n6, n7⟩ := HG.out.nons
  obtain ⟨a0, a1, a2, a3, a4, a5, a6, a7⟩ := HG.out.anss
  have z0 := HG.out.free 0
  have z1 := HG.out.free 1
  have z2 := HG.out.free 2
  have z3 := HG.out.free 3
  have z4 := HG.out.free 4
  have z5 := HG.out.free 5
  have z6 := HG.out.free 6
  have z7 := HG.out.free 7
  go_wp2_with fail
  obtain ⟨Wd, hWd, hbd, hkd⟩ := HG.out.put (.int .i64 4) (.bool false) (.slice none 0 0) (.slice none 0 0) (.int .i64 0) (.slice none 0 0) (.string ⟨#[]⟩) (.int .i64 1)
  have p0 := cell_of_blk hkd 0
  have p1 := cell_of_blk hkd 1
  have p2 := cell_of_blk hkd 2
  have p3 := cell_of_blk hkd 3
  have p4 := cell_of_blk hkd 4
  have p5 := cell_of_blk hkd 5
  have p6 := cell_of_blk hkd 6
  have p7 := cell_of_blk hkd 7
  unfold set8 at hWd
  rw [← hWd]
  exact bodyPost_ret (v := gotV whiteN raw0 1) (by simp [results, Tryd.results23, go_sem, gotV, whiteN, raw0, p0, p1, p2, p3, p4, p5, p6, p7, Nd.K, Nd.O, Nd.N, Nd.I, Nd.S, Nd.E, Nd.T]) rfl ⟨⟨raw0, rfl, bare_in _ _ _ _ (fit0 4 ⟨#[]⟩ (by decide) (by decide) (by decide))⟩, hbd⟩
set_option maxHeartbeats 1600000 in
theorem get_other (s : ByteArray) (d : Int) (w : World) (h1 : ¬ 15 < d) (h2 : 0 < s.size) (hkk : s[0].toNat ≠ 1 ∧ s[0].toNat ≠ 2 ∧ s[0].toNat ≠ 3 ∧ s[0].toNat ≠ 4) :
    Calls Tryd.prog 23 #[.string s, .int .i64 d] w fun e w' => e = .returned gotN ∧ Below w.heap.size w w' := by
  obtain ⟨W2, hW2⟩ : ∃ W2, W2 = (w.alloc (.cells got0 54)).alloc (.cells gotM 54) := ⟨_, rfl⟩
  have hG : GotM w w.heap.size W2 := by rw [hW2]; exact GotM.start w
  have HG := Lib.hid hG
  obtain ⟨g, hg⟩ : ∃ g, g = w.heap.size := ⟨_, rfl⟩
  have hs2 : W2.heap.size = w.heap.size + 2 := by rw [hW2]; simp
  unfold got0 gotM at hW2
  have HW2 := Lib.hid hW2
  clear hG hW2
  go_enter Tryd.func23, Tryd.ntmps23
  go_upto_region 2 with fail
  rw [← HW2.out]
  rw [← hg] at HG hs2 ⊢
  clear HW2 hg
  have l1 : ¬ (s.size : Int) < 1 := by omega
  have l2 : (0 : Int) < (s.size : Int) := by omega
  have hu : (s[0].toNat : Int) < 256 := by have := s[0].toNat_lt; omega
  obtain ⟨k, hk⟩ : ∃ k : Nat, k = s[0].toNat := ⟨_, rfl⟩
  go_upto_region 6 with fail
  rw [← hk]
  rw [← hk] at hu hkk
  obtain ⟨W3, hW3⟩ : ∃ W3, W3 = W2.alloc (.cells #[.int .i64 (k : Int), .bool false, .slice none 0 0, .slice none 0 0, .int .i64 0, .slice none 0 0, .string ⟨#[]⟩] 27) := ⟨_, rfl⟩
  rw [← hW3]
  have hb3 : Below W2.heap.size W2 W3 := by rw [hW3]; exact (Below.refl _ _).alloc (Nat.le_refl _) _
  have hk3 : W3.heap[W2.heap.size]? = some (.cells #[.int .i64 (k : Int), .bool false, .slice none 0 0, .slice none 0 0, .int .i64 0, .slice none 0 0, .string ⟨#[]⟩] 27 (0, 0)) := by rw [hW3]; exact heap_alloc_new W2 _
  rw [hs2] at hk3
  replace HG := Lib.hid (HG.out.later hb3)
  have HK := Lib.hid hk3
  clear hW3 hb3 hk3 hs2 hu
  have q1 : ((k : Int) == 1) = false := by rw [beq_eq_false_iff_ne]; omega
  have q2 : ((k : Int) == 2) = false := by rw [beq_eq_false_iff_ne]; omega
  have q3 : ((k : Int) == 3) = false := by rw [beq_eq_false_iff_ne]; omega
  have q4 : ((k : Int) != 4) = true := by rw [bne_iff_ne]; omega
  clear hkk hk
  have b0 := cell_of_blk HK.out 0
  have b1 := cell_of_blk HK.out 1
  have b2 := cell_of_blk HK.out 2
  have b3 := cell_of_blk HK.out 3
  have b4 := cell_of_blk HK.out 4
  have b5 := cell_of_blk HK.out 5
  have b6 := cell_of_blk HK.out 6
  obtain ⟨n0, n1, n2, n3, n4, n5, n6, n7⟩ := HG.out.nons
  obtain ⟨a0, a1, a2, a3, a4, a5, a6, a7⟩ := HG.out.anss
  have z0 := HG.out.free 0
  have z1 := HG.out.free 1
  have z2 := HG.out.free 2
  have z3 := HG.out.free 3
  have z4 := HG.out.free 4
  have z5 := HG.out.free 5
  have z6 := HG.out.free 6
  have z7 := HG.out.free 7
  go_wp2_with fail
  obtain ⟨Wd, hWd, hbd, hkd⟩ := HG.out.none
  have p0 := cell_of_blk hkd 0
  have p1 := cell_of_blk hkd 1
  have p2 := cell_of_blk hkd 2
  have p3 := cell_of_blk hkd 3
  have p4 := cell_of_blk hkd 4
  have p5 := cell_of_blk hkd 5
  have p6 := cell_of_blk hkd 6
  have p7 := cell_of_blk hkd 7
  unfold set8 at hWd
  unfold gotM at p0 p1 p2 p3 p4 p5 p6 p7
  rw [← hWd]
  exact bodyPost_ret (v := gotN) (by simp [results, Tryd.results23, go_sem, gotN, p0, p1, p2, p3, p4, p5, p6, p7]) rfl ⟨rfl, hbd⟩
theorem numB_bounds (s : ByteArray) (p z : Nat) (hz : z ≤ 2) : -1 ≤ numB s p z ∧ numB s p z < 65536 := by
  unfold numB
  split
  · have h := num_lt z ((s.data.toList.drop p).take z) (by have hl : s.data.toList.length = s.size := rfl; rw [List.length_take, List.length_drop, hl]; omega)
    have h2 : 256 ^ z ≤ 256 ^ 2 := Nat.pow_le_pow_right (by omega) hz
    omega
  · omega
def linkAt (s : ByteArray) (z : Nat) : Nd := .mk 3 false [] [] 0 [] (s.extract 3 (3 + z))
set_option maxHeartbeats 1600000 in
theorem get_link (s : ByteArray) (d : Int) (w : World) (h1 : ¬ 15 < d) (h2 : 0 < s.size) (hsm : s.size ≤ 1000000) (hkk : s[0].toNat = 3) (q : Int) (hq : numB s 1 2 = q) :
    Calls Tryd.prog 23 #[.string s, .int .i64 d] w fun e w' => ((¬ (0 ≤ q ∧ 3 + q ≤ (s.size : Int)) ∧ e = .returned gotN) ∨ (∃ z : Nat, q = (z : Int) ∧ 3 + z ≤ s.size ∧ ∃ r, e = .returned (gotV (linkAt s z) r (3 + q)) ∧ NdIn w' (Fresh w w') (linkAt s z) r)) ∧ Below w.heap.size w w' := by
  obtain ⟨W2, hW2⟩ : ∃ W2, W2 = (w.alloc (.cells got0 54)).alloc (.cells gotM 54) := ⟨_, rfl⟩
  have hG : GotM w w.heap.size W2 := by rw [hW2]; exact GotM.start w
  have HG := Lib.hid hG
  obtain ⟨g, hg⟩ : ∃ g, g = w.heap.size := ⟨_, rfl⟩
  have hs2 : W2.heap.size = w.heap.size + 2 := by rw [hW2]; simp
  unfold got0 gotM at hW2
  have HW2 := Lib.hid hW2
  clear hG hW2
  go_enter Tryd.func23, Tryd.ntmps23
  go_upto_region 2 with fail
  rw [← HW2.out]
  rw [← hg] at HG hs2 ⊢
  clear HW2 hg
  have l1 : ¬ (s.size : Int) < 1 := by omega
  have l2 : (0 : Int) < (s.size : Int) := by omega
  have hu : (s[0].toNat : Int) < 256 := by have := s[0].toNat_lt; omega
  go_upto_region 6 with fail
  obtain ⟨W3, hW3⟩ : ∃ W3, W3 = W2.alloc (.cells #[.int .i64 3, .bool false, .slice none 0 0, .slice none 0 0, .int .i64 0, .slice none 0 0, .string ⟨#[]⟩] 27) := ⟨_, rfl⟩
  rw [← hW3]
  have hb3 : Below W2.heap.size W2 W3 := by rw [hW3]; exact (Below.refl _ _).alloc (Nat.le_refl _) _
  have hk3 : W3.heap[W2.heap.size]? = some (.cells #[.int .i64 3, .bool false, .slice none 0 0, .slice none 0 0, .int .i64 0, .slice none 0 0, .string ⟨#[]⟩] 27 (0, 0)) := by rw [hW3]; exact heap_alloc_new W2 _
  rw [hs2] at hk3
  replace HG := Lib.hid (HG.out.later hb3)
  have HK := Lib.hid hk3
  clear hW3 hb3 hk3 hs2 hu
  clear hkk
  have HN1 := Lib.hid (show Calls Tryd.prog 49 #[.string s, .int .i64 1, .int .i64 2] W3 _ from number_any s 1 2 W3 (by decide) (by decide))
  rw [hq] at HN1
  have hqb : -1 ≤ q ∧ q < 65536 := by rw [← hq]; exact numB_bounds s 1 2 (by decide)
  obtain ⟨hq0, hq1⟩ := hqb
  clear hq
  have b0 := cell_of_blk HK.out 0
  have b1 := cell_of_blk HK.out 1
  have b2 := cell_of_blk HK.out 2
  have b3 := cell_of_blk HK.out 3
  have b4 := cell_of_blk HK.out 4
  have b5 := cell_of_blk HK.out 5
  have b6 := cell_of_blk HK.out 6
  obtain ⟨n0, n1, n2, n3, n4, n5, n6, n7⟩ := HG.out.nons
  obtain ⟨a0, a1, a2, a3, a4, a5, a6, a7⟩ := HG.out.anss
  have z0 := HG.out.free 0
  have z1 := HG.out.free 1
  have z2 := HG.out.free 2
  have z3 := HG.out.free 3
  have z4 := HG.out.free 4
  have z5 := HG.out.free 5
  have z6 := HG.out.free 6
  have z7 := HG.out.free 7
  go_wp2_with fail
  refine HN1.out.mono ?_
  rintro e w4 ⟨rfl, rfl⟩
  by_cases hz : q < 0
  · have HE := Lib.hid (show ¬ (0 ≤ q ∧ 3 + q ≤ (s.size : Int)) by omega)
    go_wp2_with fail
    obtain ⟨Wd, hWd, hbd, hkd⟩ := HG.out.none
    have p0 := cell_of_blk hkd 0
    have p1 := cell_of_blk hkd 1
    have p2 := cell_of_blk hkd 2
    have p3 := cell_of_blk hkd 3
    have p4 := cell_of_blk hkd 4
    have p5 := cell_of_blk hkd 5
    have p6 := cell_of_blk hkd 6
    have p7 := cell_of_blk hkd 7
    unfold set8 at hWd
    unfold gotM at p0 p1 p2 p3 p4 p5 p6 p7
    rw [← hWd]
    exact bodyPost_ret (v := gotN) (by simp [results, Tryd.results23, go_sem, gotN, p0, p1, p2, p3, p4, p5, p6, p7]) rfl ⟨.inl ⟨HE.out, rfl⟩, hbd⟩
  · have r0 : -9223372036854775808 ≤ 3 + q := by omega
    have r1 : 3 + q < 9223372036854775808 := by omega
    by_cases hz2 : (s.size : Int) < 3 + q
    · have HE := Lib.hid (show ¬ (0 ≤ q ∧ 3 + q ≤ (s.size : Int)) by omega)
      go_wp2_with fail
      obtain ⟨Wd, hWd, hbd, hkd⟩ := HG.out.none
      have p0 := cell_of_blk hkd 0
      have p1 := cell_of_blk hkd 1
      have p2 := cell_of_blk hkd 2
      have p3 := cell_of_blk hkd 3
      have p4 := cell_of_blk hkd 4
      have p5 := cell_of_blk hkd 5
      have p6 := cell_of_blk hkd 6
      have p7 := cell_of_blk hkd 7
      unfold set8 at hWd
      unfold gotM at p0 p1 p2 p3 p4 p5 p6 p7
      rw [← hWd]
      exact bodyPost_ret (v := gotN) (by simp [results, Tryd.results23, go_sem, gotN, p0, p1, p2, p3, p4, p5, p6, p7]) rfl ⟨.inl ⟨HE.out, rfl⟩, hbd⟩
    · obtain ⟨z, hzq⟩ : ∃ z : Nat, q = (z : Int) := ⟨q.toNat, by omega⟩
      have HQ := Lib.hid hzq
      obtain ⟨t, ht⟩ : ∃ t, t = s.extract 3 (3 + z) := ⟨_, rfl⟩
      have hsl : ∀ wx : World, (Instr.slice 9 (.string s) (some (.int .i64 3)) (some (.int .i64 (3 + q))) none).run Tryd.prog wx = .ok (.string t) wx := fun wx => by
        rw [run_slice_string_if (P := Tryd.prog) (w := wx) 9 s .i64 .i64 3 (3 + q) Tryd.underlying9, if_pos ⟨by omega, by omega⟩, if_pos ⟨by omega, by omega⟩, ht, show (3 + q).toNat = 3 + z by omega]
        rfl
      have HT := Lib.hid ht
      have hts : t.size ≤ 1000000 := by rw [ht, ByteArray.size_extract]; omega
      have f6 := free_of_blk HK.out 6
      obtain ⟨W5, hW5⟩ : ∃ W5, W5 = w4.setCell ⟨g + 2, 6, none⟩ (.string t) := ⟨_, rfl⟩
      have hk5 : W5.heap[g + 2]? = some (.cells #[.int .i64 3, .bool false, .slice none 0 0, .slice none 0 0, .int .i64 0, .slice none 0 0, .string t] 27 (0, 0)) := by
        rw [hW5, heap_setCell_same w4 (g + 2) 6 _ _ (.string t) HK.out]
        rfl
      have HG5 := Lib.hid (show GotM w g W5 by
        have hsz := HG.out.size
        exact ⟨by rw [hW5, heap_setCell_other _ _ _ _ (by show g ≠ g + 2; omega)]; exact HG.out.ans, by rw [hW5, heap_setCell_other _ _ _ _ (by show g + 1 ≠ g + 2; omega)]; exact HG.out.non, by rw [hW5]; exact HG.out.below.setCell (p := ⟨g + 2, 6, none⟩) (by show w.heap.size ≤ g + 2; omega) _, hsz⟩)
      have HK5 := Lib.hid hk5
      have HW5 := Lib.hid hW5
      have HZ := Lib.hid (show 3 + z ≤ s.size by omega)
      have HF2 := Lib.hid (show t.size ≤ 140737488355328 by omega)
      clear hW5 hk5 ht hts hzq HG HK a0 a1 a2 a3 a4 a5 a6 a7 n0 n1 n2 n3 n4 n5 n6 n7 z0 z1 z2 z3 z4 z5 z6 z7 HN1
      go_upto_region 44 with fail
      rw [← HW5.out]
      clear HW5 b0 b1 b2 b3 b4 b5 b6 f6 hsl
      have b0 := cell_of_blk HK5.out 0
      have b1 := cell_of_blk HK5.out 1
      have b2 := cell_of_blk HK5.out 2
      have b3 := cell_of_blk HK5.out 3
      have b4 := cell_of_blk HK5.out 4
      have b5 := cell_of_blk HK5.out 5
      have b6 := cell_of_blk HK5.out 6
      obtain ⟨n0, n1, n2, n3, n4, n5, n6, n7⟩ := HG5.out.nons
      obtain ⟨a0, a1, a2, a3, a4, a5, a6, a7⟩ := HG5.out.anss
      have z0 := HG5.out.free 0
      have z1 := HG5.out.free 1
      have z2 := HG5.out.free 2
      have z3 := HG5.out.free 3
      have z4 := HG5.out.free 4
      have z5 := HG5.out.free 5
      have z6 := HG5.out.free 6
      have z7 := HG5.out.free 7
      go_wp2_with fail
      obtain ⟨Wd, hWd, hbd, hkd⟩ := HG5.out.put (.int .i64 3) (.bool false) (.slice none 0 0) (.slice none 0 0) (.int .i64 0) (.slice none 0 0) (.string t) (.int .i64 (3 + q))
      have p0 := cell_of_blk hkd 0
      have p1 := cell_of_blk hkd 1
      have p2 := cell_of_blk hkd 2
      have p3 := cell_of_blk hkd 3
      have p4 := cell_of_blk hkd 4
      have p5 := cell_of_blk hkd 5
      have p6 := cell_of_blk hkd 6
      have p7 := cell_of_blk hkd 7
      unfold set8 at hWd
      rw [← hWd]
      exact bodyPost_ret (v := gotV (linkAt s z) raw0 (3 + q)) (by simp [results, Tryd.results23, go_sem, gotV, linkAt, ← HT.out, raw0, p0, p1, p2, p3, p4, p5, p6, p7, Nd.K, Nd.O, Nd.N, Nd.I, Nd.S, Nd.E, Nd.T]) rfl ⟨.inr ⟨z, HQ.out, HZ.out, raw0, rfl, by unfold linkAt; rw [← HT.out]; exact bare_in _ _ 3 t (fit0 3 t (by decide) (by decide) HF2.out)⟩, hbd⟩
end Go.Proofs.YtapgagfeghfooaaDoor.ima
