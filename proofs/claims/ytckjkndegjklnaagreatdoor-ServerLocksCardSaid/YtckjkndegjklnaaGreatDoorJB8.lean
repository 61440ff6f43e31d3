/- What extent.Read answers of extents that are right: the bytes of the document. Conditions: the numbers are ints. -/
import Derived.Test.YtckjkndegjklnaaGreatDoorJB7
import Derived.Lib.BufferRead
import Derived.Laws.MakeOwn
import Derived.Laws.Small
namespace Go.Proofs.YtckjkndegjklnaaGreatDoor.ext
set_option maxRecDepth 100000
open Go.RowKit words

theorem Exts.cut {w:World} {B:Nat} {A:Option Addr} {L:List Ex} {cap:Nat} (h:Exts w B A L) (i:Nat) (hc:L.length≤cap):Exts w B (if cap=i then A else A.map (·.add (i*2))) (L.drop i):=fun j x hx=>by
 rw [List.getElem?_drop] at hx
 have hlt:i+j<L.length:=(List.getElem?_eq_some_iff.1 hx).1
 obtain⟨⟨b,off,hA,hB,c0,c1⟩,h1⟩:=h (i+j) x hx
 subst hA
 rw [if_neg (by omega)]
 have add0:(⟨b,off,none⟩:Addr).add (i*2)=⟨b,off+i*2,none⟩:=by
  unfold Addr.add
  split<;>simp_all
 rw [show off+(i+j)*2=off+i*2+j*2 by omega] at c0 c1
 exact⟨⟨b,off+i*2,by rw [Option.map_some,add0],hB,c0,c1⟩,h1⟩
theorem infoExt:(Tryz.prog.info? 202).map (fun i=>(i.zero,i.size,i.bytes))=some (some (.agg #[.int .i64 0,.string ⟨#[]⟩]),2,24):=by kernel_rfl
end Go.Proofs.YtckjkndegjklnaaGreatDoor.ext
