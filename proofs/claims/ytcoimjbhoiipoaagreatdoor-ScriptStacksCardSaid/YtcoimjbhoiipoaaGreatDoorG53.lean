import Derived.Test.YtcoimjbhoiipoaaGreatDoorG52
import Derived.Test.YtcoimjbhoiipoaaGreatDoorG50
set_option maxRecDepth 100000
namespace Go.Proofs.YtcoimjbhoiipoaaGreatDoor.seen
open Go.RowKit words ext name tre stk





def At (R:List Nd) (x:Nat×Nat) (d:Nd):Prop:=∃t,R[x.1]?=some t∧(preN t)[x.2]?=some d
theorem At.one {R:List Nd} {x:Nat×Nat} {d:Nd} (h:At R x d) (hall:∀t∈R,allB t=true):oneB d=true:=by
 obtain⟨t,h1,h2⟩:=h;exact Jeu ((Jnt t d (List.mem_of_getElem? h2)).2.2 (hall t (List.mem_of_getElem? h1)))

end Go.Proofs.YtcoimjbhoiipoaaGreatDoor.seen
