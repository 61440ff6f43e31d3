/- What the reference's At and Read answer of extents that are right. Conditions: the places are those of a file that is looked at. -/
import Derived.Test.YtckjkndegjklnaaGreatDoorJB3
import Derived.Deep.AppendLies
import Derived.Lib.BufferRead
namespace Go.Proofs.YtckjkndegjklnaaGreatDoor.ext
set_option maxRecDepth 100000
open Go.RowKit words

theorem Jqd (x:Ex) (q:Nat) (h:q<x.D.size):((x.D[q]'h).toNat:Int)=((x.D.data.toList.getD q 0).toNat:Int):=by
 have:x.D[q]'h=x.D.data.toList[q]'(by rw [size_list];exact h):=rfl
 rw [this,List.getD_eq_getElem?_getD,List.getElem?_eq_getElem (by rw [size_list];exact h)]
 rfl
theorem Jqb {a b:Int} (h:a=b):Ending.returned (.int .u8 a)= .returned (.int .u8 b):=by rw [h]

end Go.Proofs.YtckjkndegjklnaaGreatDoor.ext
