/- A node's box as it is seen behind calls; and whether a node is small. Condition: the node is one that was read. -/
import Derived.Test.YtniklphdnakehaaDoorTreMakes
import Derived.Test.YtniklphdnakehaaDoorTreRSame
namespace Go.Proofs.YtniklphdnakehaaDoor.tre
set_option maxRecDepth 100000
open Go.RowKit Go.Proofs.YtniklphdnakehaaDoor.words Go.Proofs.YtniklphdnakehaaDoor.ext Go.Proofs.YtniklphdnakehaaDoor.name

/-- A node's box, and all that was. -/
def Sees (w' W1 : World) (g : Nat) (n : Nd) (r : Raw) : Prop :=
  w'.cell? ⟨g, 0, none⟩ = some (.int .i64 n.K) ∧ w'.cell? ⟨g, 1, none⟩ = some (.bool n.O) ∧ w'.cell? ⟨g, 2, none⟩ = some (.slice r.An n.N.length r.cn) ∧
    w'.cell? ⟨g, 3, none⟩ = some (.slice r.Ai n.I.length r.ci) ∧ w'.cell? ⟨g, 4, none⟩ = some (.int .i64 n.S) ∧ w'.cell? ⟨g, 5, none⟩ = some (.slice r.Ae n.E.length r.ce) ∧ w'.cell? ⟨g, 6, none⟩ = some (.string n.T) ∧ Below W1.heap.size W1 w'
theorem Box.sees {w' W1 : World} {g : Nat} {n : Nd} {r : Raw} (h : Box W1 g n r) (hb : Below W1.heap.size W1 w') : Sees w' W1 g n r := by
  obtain ⟨b0, b1, b2, b3, b4, b5, b6⟩ := (h.below hb).cells
  exact ⟨b0, b1, b2, b3, b4, b5, b6, hb⟩
theorem small_is (c : Int) (n : Nd) (r : Raw) (w : World) (hN : NdAt w w.heap.size n r) (hc : (if smallB n = true then 1 else 0 : Int) = c) :
    Calls Tryd.prog 17 #[ndV n r] w fun e w' => e = .returned (.int .i64 c) ∧ Below w.heap.size w w' :=
  (small_node n r w hN).mono fun _ _ ⟨he, hw⟩ => ⟨by rw [he, hc], hw⟩

end Go.Proofs.YtniklphdnakehaaDoor.tre
