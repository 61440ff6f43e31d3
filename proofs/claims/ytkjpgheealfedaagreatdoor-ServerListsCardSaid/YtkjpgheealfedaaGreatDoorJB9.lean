import Derived.Test.YtkjpgheealfedaaGreatDoorJB6
import Derived.Test.YtkjpgheealfedaaGreatDoorJB4
import Derived.Test.YtkjpgheealfedaaGreatDoorShelf
set_option maxRecDepth 100000
namespace Go.Proofs.YtkjpgheealfedaaGreatDoor.ext
open Go.RowKit words

theorem own_below {w w':World} {base:Nat} {e:TypeId} {size n:Nat} {v:Value} {xs:List Value} (h:w.ownsRow base e size v n xs) (hb:Below w.heap.size w w'):w'.ownsRow base e size v n xs:=
 (Kept.of_below hb (fun _=>False) 0).own h (by simp)
theorem byte_at (s:ByteArray) (k:Nat) (h:k<s.size):byteAt s k=s[k]'h:=by
 have:s[k]'h=s.data.toList[k]'(by rw [size_list];exact h):=rfl;unfold byteAt;rw [this,List.getD_eq_getElem?_getD,List.getElem?_eq_getElem (by rw [size_list];exact h)];rfl
theorem Jts {s:ByteArray} {k f:Nat} {L:List Ex} (hk:k≤s.size+1) (h:ofSt s k=(f,L)):f≤k∧L.length≤f:=by
 have hi:=ofInv s k hk;rw [h] at hi;exact⟨hi.le,hi.count⟩

end Go.Proofs.YtkjpgheealfedaaGreatDoor.ext
