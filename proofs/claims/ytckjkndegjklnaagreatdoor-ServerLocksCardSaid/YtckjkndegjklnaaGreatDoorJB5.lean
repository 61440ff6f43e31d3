/- What the reference's Read answers of extents that are right: the bytes of the document. Condition: the file is one that is looked at. -/
import Derived.Test.YtckjkndegjklnaaGreatDoorJB4
namespace Go.Proofs.YtckjkndegjklnaaGreatDoor.ext
set_option maxRecDepth 100000
open Go.RowKit words

theorem Jal {S:Nat} {a w w':World} {v:Value} {base n sz:Nat} {e:TypeId} {xs:List Value} (h:Below S a w) (ho:w.ownsRow base e sz v n xs) (hg:w.grownBy w' v.ownBlock) (hB:S≤base) (hs:S≤a.heap.size):Below S a w':=
 h.trans ⟨hg.os,hg.tape,hg.output,hg.size,fun k hk=>hg.block k (Nat.lt_of_lt_of_le (Nat.lt_of_lt_of_le hk hs) h.size) (fun e=>by have:=(ho.lt k e.symm).1;omega)⟩
end Go.Proofs.YtckjkndegjklnaaGreatDoor.ext
