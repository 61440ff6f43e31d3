/- What tree.Same answers of any two nodes. Conditions: the nodes are such as were read, and no deeper than a thousand. -/
import Derived.Test.YtniklphdnakehaaDoorTreListB
namespace Go.Proofs.YtniklphdnakehaaDoor.tre
set_option maxRecDepth 100000
open Go.RowKit Go.Proofs.YtniklphdnakehaaDoor.words Go.Proofs.YtniklphdnakehaaDoor.ext Go.Proofs.YtniklphdnakehaaDoor.name

def outB (a b : Nd) : Bool := a.K == b.K && a.O == b.O && a.S == b.S && decide (a.T = b.T) && decide (a.N = b.N) && sameE a.E b.E
theorem sameB_eq (a b : Nd) : sameB a b = (outB a b && sameL a.I b.I) := by
  cases a; cases b
  rw [sameB]
  rfl
theorem sameL_nil : sameL [] [] = true := by rw [sameL]
theorem sameL_cons (x y : Nd) (L M : List Nd) : sameL (x :: L) (y :: M) = (sameB x y && sameL L M) := by rw [sameL]
theorem sameL_len : ∀ {L M : List Nd}, sameL L M = true → L.length = M.length
  | [], [], _ => rfl
  | [], _ :: _, h => by simp [sameL] at h
  | _ :: _, [], h => by simp [sameL] at h
  | x :: L, y :: M, h => by
    rw [sameL_cons, Bool.and_eq_true] at h
    rw [List.length_cons, List.length_cons, sameL_len h.2]
mutual
theorem sameB_self : ∀ a : Nd, sameB a a = true
  | .mk K O N I S E T => by
    rw [sameB_eq]
    unfold outB
    rw [show sameL (Nd.I (.mk K O N I S E T)) (Nd.I (.mk K O N I S E T)) = true from sameL_self I, sameE_iff.2 rfl]
    simp
theorem sameL_self : ∀ L : List Nd, sameL L L = true
  | [] => sameL_nil
  | x :: L => by rw [sameL_cons, sameB_self x, sameL_self L]; rfl
end
/-- Two boxes, one behind the other. -/
structure Two (w W1 : World) (n : Nd) (r : Raw) (m : Nd) (q : Raw) : Prop where
  x : Box W1 w.heap.size n r
  y : Box W1 (w.heap.size + 1) m q
  b : Below w.heap.size w W1
theorem Two.new (w : World) (n : Nd) (r : Raw) (m : Nd) (q : Raw) : Two w ((w.alloc (.cells (rawCells n r) 27)).alloc (.cells (rawCells m q) 27)) n r m q :=
  ⟨(Box.new w n r).alloc _, heap_two _ _ _, ((Below.refl _ _).alloc (Nat.le_refl _) _).alloc (by simp) _⟩
theorem Two.later {w W1 w2 : World} {n m : Nd} {r q : Raw} (h : Two w W1 n r m q) (hb : Below W1.heap.size W1 w2) : Two w w2 n r m q :=
  ⟨h.x.below hb, h.y.below hb, h.b.trans (hb.mono h.b.size)⟩

end Go.Proofs.YtniklphdnakehaaDoor.tre
