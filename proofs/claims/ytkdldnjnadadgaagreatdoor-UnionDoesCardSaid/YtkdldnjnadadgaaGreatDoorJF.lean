/- Whether two texts, or two rows of texts, are one, by the document's own Same; extents, held against one another. Conditions: the rows are such as were read. What tree.Same answers of any two nodes. Conditions: the nodes are such as were read, and no deeper than a thousand. What the reference's Same answers of any two nodes. Conditions: the nodes are such as were read. -/
import Derived.Test.YtkdldnjnadadgaaGreatDoorJE
import Derived.Laws.StructEq
import Derived.StillTailTactics
namespace Go.Proofs.YtkdldnjnadadgaaGreatDoor.tre
set_option maxRecDepth 100000
open Go.RowKit Go.Proofs.YtkdldnjnadadgaaGreatDoor.words Go.Proofs.YtkdldnjnadadgaaGreatDoor.ext Go.Proofs.YtkdldnjnadadgaaGreatDoor.name

theorem take_both {α : Type} {L M : List α} {k : Nat} {x : α} (h : L.take k = M.take k) (hx : L[k]? = some x) (hy : M[k]? = some x) : L.take (k + 1) = M.take (k + 1) := by
  rw [take_at hx, take_at hy, h]
theorem take_diff {α : Type} {L M : List α} {k : Nat} {x y : α} (hx : L[k]? = some x) (hy : M[k]? = some y) (hne : x ≠ y) : L ≠ M := by
  rintro rfl
  rw [hx] at hy
  exact hne (Option.some.inj hy)
theorem take_full {α : Type} {L M : List α} {k : Nat} (h : L.take k = M.take k) (h1 : L.length ≤ k) (h2 : M.length ≤ k) : L = M := by
  rwa [List.take_of_length_le h1, List.take_of_length_le h2] at h
theorem text_ne {x y : ByteArray} (h : x ≠ y) : (x.toList != y.toList) = true := by
  rw [bne_iff_ne, name.to_list, name.to_list]
  intro e
  refine h ?_
  obtain ⟨⟨a⟩⟩ := x
  obtain ⟨⟨b⟩⟩ := y
  simp only at e
  rw [e]

set_option maxHeartbeats 1600000 in
theorem refsame_txt (A A' : Option Addr) (c c' : Nat) (N M : List ByteArray) (w : World) (h1 : Txts w w.heap.size A N) (h2 : Txts w w.heap.size A' M) (hl : N.length ≤ 140737488355328) :
    Calls Tryz.prog 78 #[.slice A N.length c, .slice A' M.length c'] w fun e w' => e = .returned (.bool (decide (N = M))) ∧ Below w.heap.size w w' := by
  have H1 := Lib.hid h1
  have H2 := Lib.hid h2
  clear h1 h2
  by_cases hlen : N.length = M.length
  · have g0 : ((N.length : Int) != (M.length : Int)) = false := by rw [hlen]; simp
    have HLn := Lib.hid hlen
    clear hlen
    go_enter Tryz.func78, Tryz.ntmps78
    go_wp2_with fail
    clear g0
    go_loopw [5] (fun v wr => ∃ k : Nat, k ≤ N.length ∧ v = .int .i64 k ∧ Hid (N.take k = M.take k) ∧ Qt w wr) (fun v _ => N.length - (intOf v).toNat)
    case atStart => exact ⟨0, Nat.zero_le _, rfl, Lib.hid rfl, Qt.refl _⟩
    case round =>
      obtain ⟨k, hk, rfl, HT, hqt⟩ := hrel
      have HQ := Lib.hid hqt
      have hb := hqt.below w.heap.size
      have HB := Lib.hid hb
      clear hqt
      by_cases hlt : k < N.length
      · obtain ⟨x, hx⟩ : ∃ x, N[k]? = some x := ⟨_, List.getElem?_eq_getElem hlt⟩
        obtain ⟨y, hy⟩ : ∃ y, M[k]? = some y := ⟨_, List.getElem?_eq_getElem (by rw [← HLn.out]; exact hlt)⟩
        obtain ⟨⟨b1, o1, hA1, _, d1⟩, _⟩ := (H1.out.keep hb) k x hx
        obtain ⟨⟨b2, o2, hA2, _, d2⟩, _⟩ := (H2.out.keep hb) k y hy
        subst hA1 hA2
        have i0 : (0 : Int) ≤ (k : Int) := by omega
        have i1 : (k : Int) < (N.length : Int) := by omega
        have i2 : (k : Int) < (M.length : Int) := by have := HLn.out; omega
        by_cases hxy : x = y
        · subst hxy
          have g1 : (x.toList != x.toList) = false := by simp
          have HN := Lib.hid (take_both HT.out hx hy)
          clear hx hy hb
          go_wp2_with fail
          go_quiet (fail)
          go_wp2_with fail
          go_roundw
          case rel => exact ⟨k + 1, by omega, by go_num, HN, HQ.out.drewN _⟩
          case measure => simp [intOf]; omega
        · have g1 := text_ne hxy
          have g2 : (x.toList == y.toList) = false := by simpa using g1
          have HF := Lib.hid (show false = decide (N = M) from (decide_eq_false (take_diff hx hy hxy)).symm)
          clear hx hy hb hxy
          go_wp2_with fail
          go_quiet (fail)
          go_wp2_with fail
          go_ret
          exact ⟨ret_bool HF.out, below_drewN HB.out _⟩
      · have HF := Lib.hid (show true = decide (N = M) from (decide_eq_true (take_full HT.out (by omega) (by rw [← HLn.out]; omega))).symm)
        clear hb
        go_wp2_with fail
        go_ret
        exact ⟨ret_bool HF.out, HB.out⟩
  · have g0 : ((N.length : Int) != (M.length : Int)) = true := by rw [bne_iff_ne]; omega
    have HF := Lib.hid (show false = decide (N = M) from (decide_eq_false (fun e => hlen (by rw [e]))).symm)
    clear hlen
    go_enter Tryz.func78, Tryz.ntmps78
    go_wp2_with fail
    go_ret
    exact ⟨ret_bool HF.out, Below.refl _ _⟩

/-! Extents -/
def pr (x : Ex) : Int × ByteArray := (x.O, x.D)
theorem pr_inj {x y : Ex} (h : pr x = pr y) : x = y := by
  cases x; cases y
  unfold pr at h
  injection h with h1 h2
  simp only at h1 h2
  rw [h1, h2]
def sameE (E F : List Ex) : Bool := decide (E.map (fun x => (x.O, x.D)) = F.map (fun x => (x.O, x.D)))
theorem sameE_iff {E F : List Ex} : sameE E F = true ↔ E = F := by
  unfold sameE
  rw [decide_eq_true_iff]
  constructor
  · intro h
    refine List.ext_getElem? fun i => ?_
    have := congrArg (fun l => l[i]?) h
    simp only [List.getElem?_map] at this
    rcases h1 : E[i]? with _ | x <;> rcases h2 : F[i]? with _ | y <;> rw [h1, h2] at this <;> simp at this
    exact congrArg some (pr_inj (by unfold pr; rw [this.1, this.2]))
  · rintro rfl
    rfl
theorem neq_ext (x y : Ex) (w : World) : (binOp .neq 252 (.agg #[.int .i64 x.O, .string x.D]) (.agg #[.int .i64 y.O, .string y.D])).run Tryz.prog w = .ok (.bool (!(x.O == y.O && x.D.toList == y.D.toList))) w := by
  have u3 := Tryz.underlying3
  have hS : Tryz.prog.underlying 252 = some (.struct (Tryz.prog.fieldsOf 252)) := by kernel_rfl
  have hp : Tryz.prog.stoodInHeld 252 = false := by kernel_rfl
  rw [run_neq_struct, show (10000 : Nat) = 9999 + 1 from rfl, run_equalIn_agg w 9999 252 _ _ hS hp]
  simp only [Program.fieldsOf, Tryz.underlying252]
  go_simp
  by_cases h1 : x.O = y.O <;> by_cases h2 : x.D.toList = y.D.toList <;> simp [h1, h2]
theorem guard_ext (op : BinOp) (a b : Operand) (xs ys : Array Value) (w : World) : (eqGuard op 252 a b (.agg xs) (.agg ys)).run Tryz.prog w = .ok () w := run_eqGuard_agg w op _ a b xs ys (by kernel_rfl)
theorem neq_same (x : Ex) (w : World) : (binOp .neq 252 (.agg #[.int .i64 x.O, .string x.D]) (.agg #[.int .i64 x.O, .string x.D])).run Tryz.prog w = .ok (.bool false) w := by
  rw [neq_ext]; simp
theorem neq_diff {x y : Ex} (h : x ≠ y) (w : World) : (binOp .neq 252 (.agg #[.int .i64 x.O, .string x.D]) (.agg #[.int .i64 y.O, .string y.D])).run Tryz.prog w = .ok (.bool true) w := by
  rw [neq_ext]
  have : (x.O == y.O && x.D.toList == y.D.toList) = false := by
    rw [Bool.and_eq_false_iff]
    by_cases h1 : x.O = y.O
    · right
      have h2 : x.D ≠ y.D := fun e => h (pr_inj (by unfold pr; rw [h1, e]))
      simpa using text_ne h2
    · left
      rw [beq_eq_false_iff_ne]
      exact h1
  rw [this]
  rfl

end Go.Proofs.YtkdldnjnadadgaaGreatDoor.tre

namespace Go.Proofs.YtkdldnjnadadgaaGreatDoor.tre
set_option maxRecDepth 100000
open Go.RowKit Go.Proofs.YtkdldnjnadadgaaGreatDoor.words Go.Proofs.YtkdldnjnadadgaaGreatDoor.ext Go.Proofs.YtkdldnjnadadgaaGreatDoor.name

def outB (a b : Nd) : Bool := a.K == b.K && a.O == b.O && a.S == b.S && decide (a.T = b.T) && decide (a.N = b.N) && sameE a.E b.E
theorem sameB_eq (a b : Nd) : sameB a b = (outB a b && sameL a.I b.I) := by
  cases a; cases b
  rw [sameB]
  rfl
theorem sameL_nil : sameL [] [] = true := by rw [sameL]
theorem sameL_cons (x y : Nd) (L M : List Nd) : sameL (x :: L) (y :: M) = (sameB x y && sameL L M) := by rw [sameL]
theorem sameL_len : ∀ {L M : List Nd}, sameL L M = true → L.length = M.length
  | [], [], _ => rfl
  | [], _ :: _, h => by simp [sameL] at h
  | _ :: _, [], h => by simp [sameL] at h
  | x :: L, y :: M, h => by
    rw [sameL_cons, Bool.and_eq_true] at h
    rw [List.length_cons, List.length_cons, sameL_len h.2]
mutual
theorem sameB_self : ∀ a : Nd, sameB a a = true
  | .mk K O N I S E T => by
    rw [sameB_eq]
    unfold outB
    rw [show sameL (Nd.I (.mk K O N I S E T)) (Nd.I (.mk K O N I S E T)) = true from sameL_self I, sameE_iff.2 rfl]
    simp
theorem sameL_self : ∀ L : List Nd, sameL L L = true
  | [] => sameL_nil
  | x :: L => by rw [sameL_cons, sameB_self x, sameL_self L]; rfl
end
/-- Two boxes, one behind the other. -/
structure Two (w W1 : World) (n : Nd) (r : Raw) (m : Nd) (q : Raw) : Prop where
  x : Box W1 w.heap.size n r
  y : Box W1 (w.heap.size + 1) m q
  b : Below w.heap.size w W1
theorem Two.new (w : World) (n : Nd) (r : Raw) (m : Nd) (q : Raw) : Two w ((w.alloc (.cells (rawCells n r) 125)).alloc (.cells (rawCells m q) 125)) n r m q :=
  ⟨(Box.new w n r).alloc _, heap_two _ _ _, ((Below.refl _ _).alloc (Nat.le_refl _) _).alloc (by simp) _⟩
theorem Two.later {w W1 w2 : World} {n m : Nd} {r q : Raw} (h : Two w W1 n r m q) (hb : Below W1.heap.size W1 w2) : Two w w2 n r m q :=
  ⟨h.x.below hb, h.y.below hb, h.b.trans (hb.mono h.b.size)⟩

end Go.Proofs.YtkdldnjnadadgaaGreatDoor.tre

namespace Go.Proofs.YtkdldnjnadadgaaGreatDoor.tre
set_option maxRecDepth 100000
open Go.RowKit Go.Proofs.YtkdldnjnadadgaaGreatDoor.words Go.Proofs.YtkdldnjnadadgaaGreatDoor.ext Go.Proofs.YtkdldnjnadadgaaGreatDoor.name

theorem refsame_txt_is (b : Bool) (A A' : Option Addr) (c c' : Nat) (N M : List ByteArray) (w : World) (h1 : Txts w w.heap.size A N) (h2 : Txts w w.heap.size A' M) (hl : N.length ≤ 140737488355328) (hb : decide (N = M) = b) :
    Calls Tryz.prog 78 #[.slice A N.length c, .slice A' M.length c'] w fun e w' => e = .returned (.bool b) ∧ Below w.heap.size w w' :=
  (refsame_txt A A' c c' N M w h1 h2 hl).mono fun _ _ ⟨he, hw⟩ => ⟨by rw [he, hb], hw⟩
theorem outB_parts {a b : Nd} (h1 : a.K = b.K) (h2 : a.O = b.O) (h3 : a.S = b.S) (h4 : a.T = b.T) (h5 : a.N = b.N) : outB a b = sameE a.E b.E := by
  unfold outB
  rw [h1, h2, h3, h4, h5, decide_eq_true rfl, decide_eq_true rfl]
  simp
theorem sameB_no {a b : Nd} (h : outB a b = false) : false = sameB a b := by rw [sameB_eq, h, Bool.false_and]
theorem sameL_no {a b : Nd} (h : a.I.length ≠ b.I.length) : false = sameB a b := by
  rw [sameB_eq]
  rcases hl : sameL a.I b.I with _ | _
  · rw [Bool.and_false]
  · exact absurd (sameL_len hl) h
theorem sameE_no {E F : List Ex} (h : E ≠ F) : sameE E F = false := by
  rcases hl : sameE E F with _ | _
  · rfl
  · exact absurd (sameE_iff.1 hl) h

end Go.Proofs.YtkdldnjnadadgaaGreatDoor.tre
