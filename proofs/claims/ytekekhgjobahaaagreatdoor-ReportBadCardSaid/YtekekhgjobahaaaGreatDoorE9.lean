import Derived.Test.YtekekhgjobahaaaGreatDoorD9
set_option maxRecDepth 100000
namespace Go.Proofs.YtekekhgjobahaaaGreatDoor.scr
open Go.RowKit words cal


theorem Jjp {α:Type} (f:α→List UInt8) (b:Nat):∀(l:List α),(∀x∈l,(f x).length≤b)→(textT (l.map f)).length≤l.length*(b+1)
 |[],_=>by simp [textT]
 |x::l,h=>by
  have ih:=Jjp f b l fun y hy=>h y (List.mem_cons_of_mem _ hy);have hx:=h x (List.mem_cons_self ..);unfold textT at ih ⊢;simp at ih ⊢;rw [Nat.add_mul];omega
end Go.Proofs.YtekekhgjobahaaaGreatDoor.scr
