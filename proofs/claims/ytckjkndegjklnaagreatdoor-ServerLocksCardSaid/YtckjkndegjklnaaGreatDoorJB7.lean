/- What extent's lay does: the bytes of an extent stand in the buffer at their places. Conditions: the buffer is a row of the call's own; the extent begins ahead of its end. -/
import Derived.Test.YtckjkndegjklnaaGreatDoorJB6
import Derived.Lib.BufferWrite
import Derived.Laws.CopyOwn
namespace Go.Proofs.YtckjkndegjklnaaGreatDoor.ext
set_option maxRecDepth 100000
open Go.RowKit words

theorem Jat {a b c:World} {row:Option Nat} (h:a.grownBy b row) (k:b.grownBy c row):a.grownBy c row:=
 ⟨k.os.trans h.os,k.tape.trans h.tape,k.output.trans h.output,Nat.le_trans h.size k.size,fun i hi hne=>(k.block i (Nat.lt_of_lt_of_le hi h.size) hne).trans (h.block i hi hne)⟩
theorem Jch {a w:World} (h:Below a.heap.size a w) (row:Option Nat):a.grownBy w row:=⟨h.os,h.tape,h.output,h.size,fun i hi _=>h.block i hi⟩
end Go.Proofs.YtckjkndegjklnaaGreatDoor.ext
