/- What the laws of layer 8 ask ahead: whether trees may be, the trees from above, and their stack. Conditions: the trees lie in memory; the library's MaxLen holds a number. The stack of trees that may be, as the laws of layer 8 make it. Conditions: the trees lie in memory; the library's MaxLen holds a number. That seen speaks: a whiteout upon a file, and a file below it. Condition: the library's MaxLen holds a number. -/
import Derived.Test.YtckjkndegjklnaaGreatDoorJM
import Derived.Laws.StructEq
namespace Go.Proofs.YtckjkndegjklnaaGreatDoor.seen
set_option maxRecDepth 100000
open Go.RowKit words ext name tre stk



theorem Jjb {R:List Nd}:∀E∈tabs R,∃e,E[0]?=some e:=fun E hE=>by
 unfold tabs at hE
 obtain⟨t,ht,rfl⟩:=List.mem_map.1 hE
 exact⟨_,Jbx (k:=0) (x:=t) (by rw [Jct];rfl)⟩
end Go.Proofs.YtckjkndegjklnaaGreatDoor.seen
