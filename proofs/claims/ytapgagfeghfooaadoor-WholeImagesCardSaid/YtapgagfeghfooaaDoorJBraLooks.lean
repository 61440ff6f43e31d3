/- What the law BranchLooks answers: true. Conditions: the node is one that was read, and the text; the library's MaxLen holds a number. -/
import Derived.Test.YtapgagfeghfooaaDoorJBraEntry
namespace Go.Proofs.YtapgagfeghfooaaDoor.tre
set_option maxRecDepth 100000
open Go.RowKit Go.Proofs.YtapgagfeghfooaaDoor.words Go.Proofs.YtapgagfeghfooaaDoor.ext Go.Proofs.YtapgagfeghfooaaDoor.name

theorem infoText : (Tryd.prog.info? 9).map (fun i => (i.zero, i.size, i.bytes)) = some (some (.string ⟨#[]⟩), 1, 16) := by kernel_rfl
def Looked (x : Nd) (k : Nat) (y : ByteArray) (w : World) (e : Ending) (w' : World) : Prop :=
  ((∃ q : Nat, x.N[q]? = some y ∧ q < x.I.length ∧ e = .returned (.tuple #[.int .i64 ((k + 1 + countL (x.I.take q) : Nat) : Int), .bool true])) ∨ (e = .returned (.tuple #[.int .i64 0, .bool false]) ∧ ∀ j : Nat, x.N[j]? ≠ some y)) ∧ Below w.heap.size w w'
theorem looked_any (g k : Nat) (n x : Nd) (y : ByteArray) (w : World) (h : Brn w w.heap.size g (flatN 0 n)) (hx : (preN n)[k]? = some x) (ho : oneB x = true) :
    Calls Tryd.prog 39 #[.pointer (some ⟨g, 0, none⟩), .int .i64 (k : Int), .string y] w (Looked x k y w) := by
  obtain ⟨h1, h2, _⟩ := one_right ho
  have hl : (entOf k x).ids.length = x.I.length := kidsL_length _ _
  have hN : (entOf k x).x.N = x.N := alone_N x
  refine (blook_yes g k _ _ y w h (flat_at hx) (by rw [hN]; exact h1) (by rw [hl, hN]; exact h2.symm)).mono fun e w' ⟨hh, hb⟩ => ⟨?_, hb⟩
  rw [hN] at hh
  rcases hh with ⟨q, id, e1, e2, e3⟩ | ⟨e1, e2⟩
  · have hq : q < x.I.length := by rw [← h2]; exact (List.getElem?_eq_some_iff.1 e1).1
    have e4 := kidsL_at (k := k + 1) hq
    rw [show (entOf k x).ids = kidsL (k + 1) x.I from rfl, e4] at e2
    obtain rfl := Option.some.inj e2
    exact .inl ⟨q, e1, hq, e3⟩
  · exact .inr ⟨e1, e2⟩

end Go.Proofs.YtapgagfeghfooaaDoor.tre
