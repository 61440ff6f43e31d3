import Derived.Test.YtekekhgjobahaaaGreatDoorA8
import Derived.Lib.BufferRead
set_option maxRecDepth 100000
namespace Go.Proofs.YtekekhgjobahaaaGreatDoor.ext
open Go.RowKit words


theorem Jrf {P:Program} {w:World} {B:Nat} {E:TypeId} {v:Value} {bs:List UInt8} {src dst:TypeId} {n:Nat} (hn:n=bs.length) (ho:w.ownsRow B E 1 v n (Lib.byteCells bs)) (hs:P.underlying src=some (.slice E)) (he:P.underlying E=some (.int .u8))
  (hd:P.underlying dst=some .string):(convert src dst v).run P w= .ok (.string ⟨bs.toArray⟩) w:=by
 subst hn;rcases ho.2 with⟨rfl,h0⟩ |⟨g,cap,cur,rfl,hb,hh,hcap,hmax,hcs,hcur⟩
 ·have hbs:bs=[]:=List.eq_nil_of_length_eq_zero h0
  subst hbs;exact Lib.run_convert_nil_bytes w src dst E 0 hs he hd
 ·refine run_convert_bytes_back w src dst E ⟨g,0,none⟩ cap bs hs he hd fun j hj=>?_
  exact ho.cells (g:=g) rfl j _ (by simp [Lib.byteCells,hj])
theorem keep_grown {S:Nat} {a w w':World} {v:Value} {base n sz:Nat} {e:TypeId} {xs:List Value} (h:Below S a w) (ho:w.ownsRow base e sz v n xs) (hg:w.grownBy w' v.ownBlock) (hB:S≤base) (hs:S≤a.heap.size):Below S a w':=
 h.trans ⟨hg.os,hg.tape,hg.output,hg.size,fun k hk=>hg.block k (Nat.lt_of_lt_of_le (Nat.lt_of_lt_of_le hk hs) h.size) (fun e=>by have:=(ho.lt k e.symm).1;omega)⟩
end Go.Proofs.YtekekhgjobahaaaGreatDoor.ext
