import Derived.Test.YtekekhgjobahaaaGreatDoorA1
set_option maxRecDepth 100000
namespace Go.Proofs.YtekekhgjobahaaaGreatDoor.sha
open Go.RowKit words lru

theorem Ja7 (s:ByteArray) (k:Nat) (h:k<s.size):s.data.toList.take (k+1)=s.data.toList.take k++[s[k]]:=by
 rw [List.take_succ_eq_append_getElem (by simpa using h)];rfl

def ptrC (g:Nat):Value:= .pointer (some ⟨g,0,none⟩)
end Go.Proofs.YtekekhgjobahaaaGreatDoor.sha
