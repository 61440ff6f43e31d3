/- What Find hands back of a node's name: the entry's node in memory of its own, or that there is none. Conditions: the node is one that was read, its names rise, there is an entry for each name, and it is no deeper than a thousand. -/
import Derived.Test.YtniklphdnakehaaDoorTreSearch
namespace Go.Proofs.YtniklphdnakehaaDoor.tre
set_option maxRecDepth 100000
open Go.RowKit Go.Proofs.YtniklphdnakehaaDoor.words Go.Proofs.YtniklphdnakehaaDoor.ext Go.Proofs.YtniklphdnakehaaDoor.name

def Found (n : Nd) (s : ByteArray) (w : World) (e : Ending) (w' : World) : Prop :=
  ((∃ (i : Nat) (x : Nd) (r' : Raw), n.N[i]? = some s ∧ n.I[i]? = some x ∧ e = .returned (.tuple #[ndV x r', .bool true]) ∧ NdIn w' (fun b => w.heap.size ≤ b ∧ b < w'.heap.size) x r') ∨
    (e = .returned (.tuple #[ndV nd0 raw0, .bool false]) ∧ ∀ j : Nat, n.N[j]? ≠ some s)) ∧ Below w.heap.size w w'
theorem below_setCells {w : World} {B g : Nat} (hg : B ≤ g) : ∀ (vs : List Value) (o : Nat) (w1 : World), Below B w w1 → Below B w (w1.setCells g o vs)
  | [], _, _, h => h
  | v :: vs, o, w1, h => by
    rw [World.setCells]
    exact below_setCells hg vs (o + 1) _ (h.setCell (p := ⟨g, o, none⟩) hg v)

end Go.Proofs.YtniklphdnakehaaDoor.tre
