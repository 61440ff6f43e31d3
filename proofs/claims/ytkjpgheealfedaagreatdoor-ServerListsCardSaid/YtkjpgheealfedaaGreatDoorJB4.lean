import Derived.Test.YtkjpgheealfedaaGreatDoorJB1
import Derived.Lib.BufferRead
set_option maxRecDepth 100000
namespace Go.Proofs.YtkjpgheealfedaaGreatDoor.ext
open Go.RowKit words

theorem Jtn (x:Ex) (q:Nat) (h:q<x.D.size):((x.D[q]'h).toNat:Int)=((x.D.data.toList.getD q 0).toNat:Int):=by
 have:x.D[q]'h=x.D.data.toList[q]'(by rw [size_list];exact h):=rfl;rw [this,List.getD_eq_getElem?_getD,List.getElem?_eq_getElem (by rw [size_list];exact h)];rfl
theorem Jtk {a b:Int} (h:a=b):Ending.returned (.int .u8 a)= .returned (.int .u8 b):=by rw [h]


theorem Jad {S:Nat} {a w w':World} {v:Value} {base n sz:Nat} {e:TypeId} {xs:List Value} (h:Below S a w) (ho:w.ownsRow base e sz v n xs) (hg:w.grownBy w' v.ownBlock) (hB:S≤base) (hs:S≤a.heap.size):Below S a w':=
 h.trans ⟨hg.os,hg.tape,hg.output,hg.size,fun k hk=>hg.block k (Nat.lt_of_lt_of_le (Nat.lt_of_lt_of_le hk hs) h.size) (fun e=>by have:=(ho.lt k e.symm).1;omega)⟩
end Go.Proofs.YtkjpgheealfedaaGreatDoor.ext
