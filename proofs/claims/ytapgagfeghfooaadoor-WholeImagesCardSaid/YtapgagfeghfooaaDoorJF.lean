/- Whether two texts, or two rows of texts, are one, by the document's own Same; extents, held against one another. Conditions: the rows are such as were read. What tree.Same answers of any two nodes. Conditions: the nodes are such as were read, and no deeper than a thousand. What the reference's Same answers of any two nodes. Conditions: the nodes are such as were read. -/
import Derived.Test.YtapgagfeghfooaaDoorJE
import Derived.Laws.StructEq
import Derived.StillTailTactics
namespace Go.Proofs.YtapgagfeghfooaaDoor.tre
set_option maxRecDepth 100000
open Go.RowKit Go.Proofs.YtapgagfeghfooaaDoor.words Go.Proofs.YtapgagfeghfooaaDoor.ext Go.Proofs.YtapgagfeghfooaaDoor.name

theorem take_both {α : Type} {L M : List α} {k : Nat} {x : α} (h : L.take k = M.take k) (hx : L[k]? = some x) (hy : M[k]? = some x) : L.take (k + 1) = M.take (k + 1) := by
  rw [take_at hx, take_at hy, h]
theorem take_diff {α : Type} {L M : List α} {k : Nat} {x y : α} (hx : L[k]? = some x) (hy : M[k]? = some y) (hne : x ≠ y) : L ≠ M := by
  rintro rfl
  rw [hx] at hy
  exact hne (Option.some.inj hy)
theorem take_full {α : Type} {L M : List α} {k : Nat} (h : L.take k = M.take k) (h1 : L.length ≤ k) (h2 : M.length ≤ k) : L = M := by
  rwa [List.take_of_length_le h1, List.take_of_length_le h2] at h
theorem text_ne {x y : ByteArray} (h : x ≠ y) : (x.toList != y.toList) = true := by
  rw [bne_iff_ne, name.to_list, name.to_list]
  intro e
  refine h ?_
  obtain ⟨⟨a⟩⟩ := x
  obtain ⟨⟨b⟩⟩ := y
  simp only at e
  rw [e]

set_option maxHeartbeats 1600000 in
theorem refsame_txt (A A' : Option Addr) (c c' : Nat) (N M : List ByteArray) (w : World) (h1 : Txts w w.heap.size A N) (h2 : Txts w w.heap.size A' M) (hl : N.length ≤ 140737488355328) :
    Calls Tryd.prog 24 #[.slice A N.length c, .slice A' M.length c'] w fun e w' => e = .returned (.bool (decide (N = M))) ∧ Below w.heap.size w w' := by
  have H1 := Lib.hid h1
  have H2 := Lib.hid h2
  clear h1 h2
  by_cases hlen : N.length = M.length
  · have g0 : ((N.length : Int) != (M.length : Int)) = false := by rw [hlen]; simp
    have HLn := Lib.hid hlen
    clear hlen
    go_enter Tryd.func24, Tryd.ntmps24
    go_wp2_with fail
    clear g0
    go_loopw [5] (fun v wr => ∃ k : Nat, k ≤ N.length ∧ v = .int .i64 k ∧ Hid (N.take k = M.take k) ∧ Qt w wr) (fun v _ => N.length - (intOf v).toNat)
    case atStart => exact ⟨0, Nat.zero_le _, rfl, Lib.hid rfl, Qt.refl _⟩
    case round =>
      obtain ⟨k, hk, rfl, HT, hqt⟩ := hrel
      have HQ := Lib.hid hqt
      have hb := hqt.below w.heap.size
      have HB := Lib.hid hb
      clear hqt
      by_cases hlt : k < N.length
      · obtain ⟨x, hx⟩ : ∃ x, N[k]? = some x := ⟨_, List.getElem?_eq_getElem hlt⟩
        obtain ⟨y, hy⟩ : ∃ y, M[k]? = some y := ⟨_, List.getElem?_eq_getElem (by rw [← HLn.out]; exact hlt)⟩
        obtain ⟨⟨b1, o1, hA1, _, d1⟩, _⟩ := (H1.out.keep hb) k x hx
        obtain ⟨⟨b2, o2, hA2, _, d2⟩, _⟩ := (H2.out.keep hb) k y hy
        subst hA1 hA2
        have i0 : (0 : Int) ≤ (k : Int) := by omega
        have i1 : (k : Int) < (N.length : Int) := by omega
        have i2 : (k : Int) < (M.length : Int) := by have := HLn.out; omega
        by_cases hxy : x = y
        · subst hxy
          have g1 : (x.toList != x.toList) = false := by simp
          have HN := Lib.hid (take_both HT.out hx hy)
          clear hx hy hb
          go_wp2_with fail
          go_quiet (fail)
          go_wp2_with fail
          go_roundw
          case rel => exact ⟨k + 1, by omega, by go_num, HN, HQ.out.drewN _⟩
          case measure => simp [intOf]; omega
        · have g1 := text_ne hxy
          have g2 : (x.toList == y.toList) = false := by simpa using g1
          have HF := Lib.hid (show false = decide (N = M) from (decide_eq_false (take_diff hx hy hxy)).symm)
          clear hx hy hb hxy
          go_wp2_with fail
          go_quiet (fail)
          go_wp2_with fail
          go_ret
          exact ⟨ret_bool HF.out, below_drewN HB.out _⟩
      · have HF := Lib.hid (show true = decide (N = M) from (decide_eq_true (take_full HT.out (by omega) (by rw [← HLn.out]; omega))).symm)
        clear hb
        go_wp2_with fail
        go_ret
        exact ⟨ret_bool HF.out, HB.out⟩
  · have g0 : ((N.length : Int) != (M.length : Int)) = true := by rw [bne_iff_ne]; omega
    have HF := Lib.hid (show false = decide (N = M) from (decide_eq_false (fun e => hlen (by rw [e]))).symm)
    clear hlen
    go_enter Tryd.func24, Tryd.ntmps24
    go_wp2_with fail
    go_ret
    exact ⟨ret_bool HF.out, Below.refl _ _⟩

/-! Extents -/
def pr (x : Ex) : Int × ByteArray := (x.O, x.D)
theorem pr_inj {x y : Ex} (h : pr x = pr y) : x = y := by
  cases x; cases y
  unfold pr at h
  injection h with h1 h2
  simp only at h1 h2
  rw [h1, h2]
def sameE (E F : List Ex) : Bool := decide (E.map (fun x => (x.O, x.D)) = F.map (fun x => (x.O, x.D)))
theorem sameE_iff {E F : List Ex} : sameE E F = true ↔ E = F := by
  unfold sameE
  rw [decide_eq_true_iff]
  constructor
  · intro h
    refine List.ext_getElem? fun i => ?_
    have := congrArg (fun l => l[i]?) h
    simp only [List.getElem?_map] at this
    rcases h1 : E[i]? with _ | x <;> rcases h2 : F[i]? with _ | y <;> rw [h1, h2] at this <;> simp at this
    exact congrArg some (pr_inj (by unfold pr; rw [this.1, this.2]))
  · rintro rfl
    rfl
theorem neq_ext (x y : Ex) (w : World) : (binOp .neq 58 (.agg #[.int .i64 x.O, .string x.D]) (.agg #[.int .i64 y.O, .string y.D])).run Tryd.prog w = .ok (.bool (!(x.O == y.O && x.D.toList == y.D.toList))) w := by
  have u3 := Tryd.underlying3
  have hS : Tryd.prog.underlying 58 = some (.struct (Tryd.prog.fieldsOf 58)) := by kernel_rfl
  have hp : Tryd.prog.stoodInHeld 58 = false := by kernel_rfl
  rw [run_neq_struct, show (10000 : Nat) = 9999 + 1 from rfl, run_equalIn_agg w 9999 58 _ _ hS hp]
  simp only [Program.fieldsOf, Tryd.underlying58]
  go_simp
  by_cases h1 : x.O = y.O <;> by_cases h2 : x.D.toList = y.D.toList <;> simp [h1, h2]
theorem guard_ext (op : BinOp) (a b : Operand) (xs ys : Array Value) (w : World) : (eqGuard op 58 a b (.agg xs) (.agg ys)).run Tryd.prog w = .ok () w := run_eqGuard_agg w op _ a b xs ys (by kernel_rfl)
theorem neq_same (x : Ex) (w : World) : (binOp .neq 58 (.agg #[.int .i64 x.O, .string x.D]) (.agg #[.int .i64 x.O, .string x.D])).run Tryd.prog w = .ok (.bool false) w := by
  rw [neq_ext]; simp
theorem neq_diff {x y : Ex} (h : x ≠ y) (w : World) : (binOp .neq 58 (.agg #[.int .i64 x.O, .string x.D]) (.agg #[.int .i64 y.O, .string y.D])).run Tryd.prog w = .ok (.bool true) w := by
  rw [neq_ext]
  have : (x.O == y.O && x.D.toList == y.D.toList) = false := by
    rw [Bool.and_eq_false_iff]
    by_cases h1 : x.O = y.O
    · right
      have h2 : x.D ≠ y.D := fun e => h (pr_inj (by unfold pr; rw [h1, e]))
      simpa using text_ne h2
    · left
      rw [beq_eq_false_iff_ne]
      exact h1
  rw [this]
  rfl

end Go.Proofs.YtapgagfeghfooaaDoor.tre

namespace Go.Proofs.YtapgagfeghfooaaDoor.tre
set_option maxRecDepth 100000
open Go.RowKit Go.Proofs.YtapgagfeghfooaaDoor.words Go.Proofs.YtapgagfeghfooaaDoor.ext Go.Proofs.YtapgagfeghfooaaDoor.name

def outB (a b : Nd) : Bool := a.K == b.K && a.O == b.O && a.S == b.S && decide (a.T = b.T) && decide (a.N = b.N) && sameE a.E b.E
theorem sameB_eq (a b : Nd) : sameB a b = (outB a b && sameL a.I b.I) := by
  cases a; cases b
  rw [sameB]
  rfl
theorem sameL_nil : sameL [] [] = true := by rw [sameL]
theorem sameL_cons (x y : Nd) (L M : List Nd) : sameL (x :: L) (y :: M) = (sameB x y && sameL L M) := by rw [sameL]
theorem sameL_len : ∀ {L M : List Nd}, sameL L M = true → L.length = M.length
  | [], [], _ => rfl
  | [], _ :: _, h => by simp [sameL] at h
  | _ :: _, [], h => by simp [sameL] at h
  | x :: L, y :: M, h => by
    rw [sameL_cons, Bool.and_eq_true] at h
    rw [List.length_cons, List.length_cons, sameL_len h.2]
mutual
theorem sameB_self : ∀ a : Nd, sameB a a = true
  | .mk K O N I S E T => by
    rw [sameB_eq]
    unfold outB
    rw [show sameL (Nd.I (.mk K O N I S E T)) (Nd.I (.mk K O N I S E T)) = true from sameL_self I, sameE_iff.2 rfl]
    simp
theorem sameL_self : ∀ L : List Nd, sameL L L = true
  | [] => sameL_nil
  | x :: L => by rw [sameL_cons, sameB_self x, sameL_self L]; rfl
end
/-- Two boxes, one behind the other. -/
structure Two (w W1 : World) (n : Nd) (r : Raw) (m : Nd) (q : Raw) : Prop where
  x : Box W1 w.heap.size n r
  y : Box W1 (w.heap.size + 1) m q
  b : Below w.heap.size w W1
theorem Two.new (w : World) (n : Nd) (r : Raw) (m : Nd) (q : Raw) : Two w ((w.alloc (.cells (rawCells n r) 27)).alloc (.cells (rawCells m q) 27)) n r m q :=
  ⟨(Box.new w n r).alloc _, heap_two _ _ _, ((Below.refl _ _).alloc (Nat.le_refl _) _).alloc (by simp) _⟩
theorem Two.later {w W1 w2 : World} {n m : Nd} {r q : Raw} (h : Two w W1 n r m q) (hb : Below W1.heap.size W1 w2) : Two w w2 n r m q :=
  ⟨h.x.below hb, h.y.below hb, h.b.trans (hb.mono h.b.size)⟩

end Go.Proofs.YtapgagfeghfooaaDoor.tre

namespace Go.Proofs.YtapgagfeghfooaaDoor.tre
set_option maxRecDepth 100000
open Go.RowKit Go.Proofs.YtapgagfeghfooaaDoor.words Go.Proofs.YtapgagfeghfooaaDoor.ext Go.Proofs.YtapgagfeghfooaaDoor.name

theorem refsame_txt_is (b : Bool) (A A' : Option Addr) (c c' : Nat) (N M : List ByteArray) (w : World) (h1 : Txts w w.heap.size A N) (h2 : Txts w w.heap.size A' M) (hl : N.length ≤ 140737488355328) (hb : decide (N = M) = b) :
    Calls Tryd.prog 24 #[.slice A N.length c, .slice A' M.length c'] w fun e w' => e = .returned (.bool b) ∧ Below w.heap.size w w' :=
  (refsame_txt A A' c c' N M w h1 h2 hl).mono fun _ _ ⟨he, hw⟩ => ⟨by rw [he, hb], hw⟩
theorem outB_parts {a b : Nd} (h1 : a.K = b.K) (h2 : a.O = b.O) (h3 : a.S = b.S) (h4 : a.T = b.T) (h5 : a.N = b.N) : outB a b = sameE a.E b.E := by
  unfold outB
  rw [h1, h2, h3, h4, h5, decide_eq_true rfl, decide_eq_true rfl]
  simp
theorem sameB_no {a b : Nd} (h : outB a b = false) : false = sameB a b := by rw [sameB_eq, h, Bool.false_and]
theorem sameL_no {a b : Nd} (h : a.I.length ≠ b.I.length) : false = sameB a b := by
  rw [sameB_eq]
  rcases hl : sameL a.I b.I with _ | _
  · rw [Bool.and_false]
  · exact absurd (sameL_len hl) h
theorem sameE_no {E F : List Ex} (h : E ≠ F) : sameE E F = false := by
  rcases hl : sameE E F with _ | _
  · rfl
  · exact absurd (sameE_iff.1 hl) h

set_option maxRecDepth 100000 in
set_option maxHeartbeats 12800000 in
theorem rsame_at (W0 : World) : ∀ (k : Nat) (n m : Nd) (r q : Raw) (w : World), depth n < k → NdAt W0 W0.heap.size n r → NdAt W0 W0.heap.size m q → Below W0.heap.size W0 w →
    Calls Tryd.prog 8 #[ndV n r, ndV m q] w fun e w' => e = .returned (.bool (sameB n m)) ∧ Below w.heap.size w w' := by
  intro k
  induction k with
  | zero => intro n m r q w hk; omega
  | succ k ih =>
    intro n m r q w hk hN hM hb
    have IH := Lib.hid ih
    have f1 := hN.fit.ln
    have f2 := hN.fit.le
    have f3 := hN.fit.li
    have f4 := hM.fit.li
    have f5 := hM.fit.le
    obtain ⟨W1, hW1⟩ : ∃ W1, W1 = (w.alloc (.cells (rawCells n r) 27)).alloc (.cells (rawCells m q) 27) := ⟨_, rfl⟩
    have hT : Two w W1 n r m q := by rw [hW1]; exact Two.new w n r m q
    have HT := Lib.hid hT
    have HN := Lib.hid hN
    have HM := Lib.hid hM
    have HB := Lib.hid hb
    have HN1 := Lib.hid ((hN.later hb).later hT.b)
    have HM1 := Lib.hid ((hM.later hb).later hT.b)
    unfold rawCells at hW1
    have HW1 := Lib.hid hW1
    have hdn := depth_eq n
    have hdk : depthL n.I ≤ k := by omega
    clear hN hM hb hT hW1 ih hdn
    unfold ndV rawCells
    go_enter Tryd.func8, Tryd.ntmps8
    go_upto_region 1 with fail
    rw [← HW1.out]
    obtain ⟨b0, b1, b2, b3, b4, b5, b6⟩ := HT.out.x.cells
    obtain ⟨e0, e1, e2, e3, e4, e5, e6⟩ := HT.out.y.cells
    by_cases h1 : n.K = m.K
    case neg =>
      have g1 : (n.K != m.K) = true := by rw [bne_iff_ne]; exact h1
      have HF := Lib.hid (sameB_no (a := n) (b := m) (by unfold outB; rw [show (n.K == m.K) = false by rw [beq_eq_false_iff_ne]; exact h1]; simp))
      clear h1
      go_wp2_with fail
      go_ret
      exact ⟨ret_bool HF.out, HT.out.b⟩
    have g1 : (n.K != m.K) = false := by rw [h1]; simp
    by_cases h2 : n.O = m.O
    case neg =>
      have g2 : (n.O != m.O) = true := by rw [bne_iff_ne]; exact h2
      have g2' : (n.O == m.O) = false := by rw [beq_eq_false_iff_ne]; exact h2
      have HF := Lib.hid (sameB_no (a := n) (b := m) (by unfold outB; rw [show (n.O == m.O) = false by rw [beq_eq_false_iff_ne]; exact h2]; simp))
      have HO := Lib.hid h2
      clear h1 h2
      go_wp2_with fail
      go_ret
      exact ⟨ret_bool HF.out, HT.out.b⟩
    have g2 : (n.O != m.O) = false := by rw [h2]; simp
    have g2' : (n.O == m.O) = true := by rw [h2]; simp
    by_cases h3 : n.S = m.S
    case neg =>
      have g3 : (n.S != m.S) = true := by rw [bne_iff_ne]; exact h3
      have HF := Lib.hid (sameB_no (a := n) (b := m) (by unfold outB; rw [show (n.S == m.S) = false by rw [beq_eq_false_iff_ne]; exact h3]; simp))
      clear h1 h2 h3
      go_wp2_with fail
      go_ret
      exact ⟨ret_bool HF.out, HT.out.b⟩
    have g3 : (n.S != m.S) = false := by rw [h3]; simp
    by_cases h4 : n.T = m.T
    case neg =>
      have g4 := text_ne h4
      have g4' : (n.T.toList == m.T.toList) = false := by simpa using g4
      have HF := Lib.hid (sameB_no (a := n) (b := m) (by unfold outB; rw [decide_eq_false h4]; simp))
      clear h1 h2 h3 h4
      go_wp2_with fail
      go_ret
      exact ⟨ret_bool HF.out, HT.out.b⟩
    have g4 : (n.T.toList != m.T.toList) = false := by rw [h4]; simp
    have g4' : (n.T.toList == m.T.toList) = true := by rw [h4]; simp
    obtain ⟨q1, hq1⟩ : ∃ q1, q1 = decide (n.N = m.N) := ⟨_, rfl⟩
    have HQ1 := Lib.hid hq1
    have HOut := Lib.hid (fun h5 => outB_parts (a := n) (b := m) h1 h2 h3 h4 h5)
    clear h1 h2 h3 h4 hq1
    go_wp2_with fail
    refine (refsame_txt_is q1 r.An q.An r.cn q.cn n.N m.N _ HN1.out.names HM1.out.names (by omega) HQ1.out.symm).mono ?_
    rintro e w2 ⟨rfl, hb2⟩
    have HT2 := Lib.hid (HT.out.later hb2)
    clear hb2 b0 b1 b2 b3 b4 b5 b6 e0 e1 e2 e3 e4 e5 e6
    cases q1
    · have HF := Lib.hid (sameB_no (a := n) (b := m) (by unfold outB; rw [← HQ1.out]; simp))
      go_wp2_with fail
      go_ret
      exact ⟨ret_bool HF.out, HT2.out.b⟩
    have HOu := Lib.hid (HOut.out (of_decide_eq_true HQ1.out.symm))
    obtain ⟨b0, b1, b2, b3, b4, b5, b6⟩ := HT2.out.x.cells
    obtain ⟨e0, e1, e2, e3, e4, e5, e6⟩ := HT2.out.y.cells
    by_cases h6 : n.I.length = m.I.length
    case neg =>
      have g6 : ((n.I.length : Int) != (m.I.length : Int)) = true := by rw [bne_iff_ne]; omega
      have HF := Lib.hid (sameL_no h6)
      clear h6
      go_wp2_with fail
      go_ret
      exact ⟨ret_bool HF.out, HT2.out.b⟩
    have g6 : ((n.I.length : Int) != (m.I.length : Int)) = false := by rw [h6]; simp
    by_cases h7 : n.E.length = m.E.length
    case neg =>
      have g7 : ((n.E.length : Int) != (m.E.length : Int)) = true := by rw [bne_iff_ne]; omega
      have HF := Lib.hid (sameB_no (a := n) (b := m) (by rw [HOu.out]; exact sameE_no (fun e => h7 (by rw [e]))))
      clear h6 h7
      go_wp2_with fail
      go_ret
      exact ⟨ret_bool HF.out, HT2.out.b⟩
    have g7 : ((n.E.length : Int) != (m.E.length : Int)) = false := by rw [h7]; simp
    have HLi := Lib.hid h6
    have HLe := Lib.hid h7
    clear h6 h7
    go_wp2_with fail
    clear b0 b1 b2 b3 b4 b5 b6 e0 e1 e2 e3 e4 e5 e6 g1 g2 g3 g4 g4' g6 g7
    have HB2 := Lib.hid (HB.out.trans (HT2.out.b.mono HB.out.size))
    go_loopw [5] (fun v wr => ∃ j : Nat, j ≤ n.E.length ∧ v = .int .i64 j ∧ Hid (n.E.take j = m.E.take j) ∧ Qt w2 wr) (fun v _ => n.E.length - (intOf v).toNat)
    case atStart => exact ⟨0, Nat.zero_le _, rfl, Lib.hid rfl, Qt.refl _⟩
    case round =>
      obtain ⟨j, hj, rfl, HTk, hqt⟩ := hrel
      have HQ := Lib.hid hqt
      have HT3 := Lib.hid (HT2.out.later (hqt.below _))
      have HB3 := Lib.hid (HB2.out.trans (hqt.below W0.heap.size))
      clear hqt
      obtain ⟨b0, b1, b2, b3, b4, b5, b6⟩ := HT3.out.x.cells
      obtain ⟨e0, e1, e2, e3, e4, e5, e6⟩ := HT3.out.y.cells
      by_cases hlt : j < n.E.length
      · obtain ⟨x, hx⟩ : ∃ x, n.E[j]? = some x := ⟨_, List.getElem?_eq_getElem hlt⟩
        obtain ⟨y, hy⟩ : ∃ y, m.E[j]? = some y := ⟨_, List.getElem?_eq_getElem (by rw [← HLe.out]; exact hlt)⟩
        obtain ⟨⟨a1, o1, hA1, _, d1, d2⟩, _⟩ := (HN.out.exts.keep HB3.out) j x hx
        obtain ⟨⟨a2, o2, hA2, _, d3, d4⟩, _⟩ := (HM.out.exts.keep HB3.out) j y hy
        rw [hA1] at b5
        rw [hA2] at e5
        have i0 : (0 : Int) ≤ (j : Int) := by omega
        have i1 : (j : Int) < (n.E.length : Int) := by omega
        have i2 : (j : Int) < (m.E.length : Int) := by have := HLe.out; omega
        have hgd := guard_ext
        clear hA1 hA2
        by_cases hxy : x = y
        · subst hxy
          have hne := neq_same x
          have HNx := Lib.hid (take_both HTk.out hx hy)
          clear hx hy
          go_wp2_with fail
          go_quiet (fail)
          go_wp2_with fail
          go_roundw
          case rel => exact ⟨j + 1, by omega, by go_num, HNx, HQ.out.drewN _⟩
          case measure => simp [intOf]; omega
        · have hne := neq_diff hxy
          have HF := Lib.hid (sameB_no (a := n) (b := m) (by rw [HOu.out]; exact sameE_no (take_diff hx hy hxy)))
          clear hx hy hxy
          go_wp2_with fail
          go_quiet (fail)
          go_wp2_with fail
          go_ret
          exact ⟨ret_bool HF.out, below_drewN HT3.out.b _⟩
      · have HS := Lib.hid (show sameB n m = sameL n.I m.I by rw [sameB_eq, HOu.out, sameE_iff.2 (take_full HTk.out (by omega) (by rw [← HLe.out]; omega)), Bool.true_and])
        go_wp2_with fail
        clear b0 b1 b2 b3 b4 b5 b6 e0 e1 e2 e3 e4 e5 e6
        go_loopw [6] (fun v wq => ∃ i : Nat, i ≤ n.I.length ∧ v = .int .i64 i ∧ Hid (sameL n.I m.I = sameL (n.I.drop i) (m.I.drop i)) ∧ Below wr.heap.size wr wq) (fun v _ => n.I.length - (intOf v).toNat)
        case atStart => exact ⟨0, Nat.zero_le _, rfl, Lib.hid rfl, Below.refl _ _⟩
        case round =>
          obtain ⟨i, hi, rfl, HL, hbq⟩ := hrel
          rename World => wq
          have HBq := Lib.hid hbq
          have HT4 := Lib.hid (HT3.out.later hbq)
          have HB4 := Lib.hid (HB3.out.trans (hbq.mono HB3.out.size))
          clear hbq
          obtain ⟨b0, b1, b2, b3, b4, b5, b6⟩ := HT4.out.x.cells
          obtain ⟨e0, e1, e2, e3, e4, e5, e6⟩ := HT4.out.y.cells
          by_cases hlt2 : i < n.I.length
          · obtain ⟨x, hx⟩ : ∃ x, n.I[i]? = some x := ⟨_, List.getElem?_eq_getElem hlt2⟩
            obtain ⟨y, hy⟩ : ∃ y, m.I[i]? = some y := ⟨_, List.getElem?_eq_getElem (by rw [← HLi.out]; exact hlt2)⟩
            obtain ⟨rx, hrx, a1, o1, hA1, _, c0, c1, c2, c3, c4, c5, c6⟩ := HN.out.entry hx HB4.out
            obtain ⟨ry, hry, a2, o2, hA2, _, d0, d1, d2, d3, d4, d5, d6⟩ := HM.out.entry hy HB4.out
            have hdx : depth x < k := by have := depth_at hx; omega
            obtain ⟨p1, hp1⟩ : ∃ p1, p1 = sameB x y := ⟨_, rfl⟩
            have HLX := Lib.hid (show sameL (n.I.drop i) (m.I.drop i) = (p1 && sameL (n.I.drop (i + 1)) (m.I.drop (i + 1))) by rw [drop_at hx, drop_at hy, sameL_cons, ← hp1])
            have HI := Lib.hid (fun wx hbx => IH.out x y rx ry wx hdx hrx hry hbx)
            rw [← hp1] at HI
            rw [hA1] at b3
            rw [hA2] at e3
            have i0 : (0 : Int) ≤ (i : Int) := by omega
            have i1 : (i : Int) < (n.I.length : Int) := by omega
            have i2 : (i : Int) < (m.I.length : Int) := by have := HLi.out; omega
            unfold ndV rawCells at HI
            clear hx hy hrx hry hp1 hA1 hA2
            go_wp2_with fail
            go_still_tail 10, (by kernel_rfl)
            change wpList _ _ _ _ _ (World.drew _)
            generalize hw3 : wq.drew = w3
            have HB5 : Hid (Below wr.heap.size wr w3) := by rw [← hw3]; exact Lib.hid HBq.out.drew
            clear hw3 b0 b1 b2 b3 b4 b5 b6 e0 e1 e2 e3 e4 e5 e6 c0 c1 c2 c3 c4 c5 c6 d0 d1 d2 d3 d4 d5 d6 HB4 HT4
            go_wp2_with fail
            refine (HI.out w3 (HB3.out.trans (HB5.out.mono HB3.out.size))).mono ?_
            rintro e w4 ⟨rfl, hb4⟩
            have HB6 := Lib.hid (HB5.out.trans (hb4.mono HB5.out.size))
            clear hb4 HI
            cases p1
            · have HF := Lib.hid (show false = sameB n m by rw [HS.out, HL.out, HLX.out]; rfl)
              go_wp2_with fail
              go_ret
              exact ⟨ret_bool HF.out, (HT3.out.later HB6.out).b⟩
            · have HN2 := Lib.hid (show sameL n.I m.I = sameL (n.I.drop (i + 1)) (m.I.drop (i + 1)) by rw [HL.out, HLX.out, Bool.true_and])
              go_wp2_with fail
              go_roundw
              case rel => exact ⟨i + 1, by omega, by go_num, HN2, HB6.out⟩
              case measure => simp [intOf]; omega
          · have HF := Lib.hid (show true = sameB n m by rw [HS.out, HL.out, List.drop_of_length_le (by omega), List.drop_of_length_le (by rw [← HLi.out]; omega), sameL_nil])
            go_wp2_with fail
            go_ret
            exact ⟨ret_bool HF.out, HT4.out.b⟩
end Go.Proofs.YtapgagfeghfooaaDoor.tre
