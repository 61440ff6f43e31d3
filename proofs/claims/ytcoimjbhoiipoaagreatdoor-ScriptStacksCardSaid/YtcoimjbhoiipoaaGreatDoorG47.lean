import Derived.Test.YtcoimjbhoiipoaaGreatDoorG44
set_option maxRecDepth 100000
namespace Go.Proofs.YtcoimjbhoiipoaaGreatDoor.cal
open Go.RowKit words

theorem Jsw {k o n i:Int} {p g:ByteArray} (h:10∈p.data.toList):onlyM (opM k p o n i g)=false:=by
 unfold onlyM opM;simp only;rw [decide_eq_true h];rfl
theorem Jkz (s:ByteArray) (k:Nat) (h:k<s.size):s[k]∈s.data.toList:=by
 have h1:=Jbn s k h;have h2:s[k]∈s.data.toList.take (k+1):=by rw [h1];simp
 exact List.mem_of_mem_take h2
def AnsB (b:Bool) (w:World) (e:Ending) (w':World):Prop:=e= .returned (.bool b)∧Below w.heap.size w w'
end Go.Proofs.YtcoimjbhoiipoaaGreatDoor.cal
