import Derived.Test.YtkjpgheealfedaaGreatDoorJB1
import Derived.StillTailTactics
import Derived.Deep.LoopGhost
import Derived.Laws.CopyOwn
import Derived.Lib.BufferRead
set_option maxRecDepth 100000
namespace Go.Proofs.YtkjpgheealfedaaGreatDoor.ext
open Go.RowKit words


structure Asks (w:World) (A:Option Addr) (cap:Nat) (L:List Ex) (off:Int) (bl bo:Nat):Prop where
 l:w.heap[bl]?=some (.cells #[.slice A L.length cap] 68 (0,0))
 o:w.heap[bo]?=some (.cells #[.int .i64 off] 3 (0,0))
 e:Exts w w.heap.size A L
theorem Asks.keep {w w':World} {A:Option Addr} {cap:Nat} {L:List Ex} {off:Int} {bl bo:Nat} (h:Asks w A cap L off bl bo) (hb:Below w.heap.size w w'):Asks w' A cap L off bl bo:=
 ⟨(hb.block bl (lt_of_some h.l)).trans h.l,(hb.block bo (lt_of_some h.o)).trans h.o,(h.e.keep hb).more hb.size⟩




theorem Jah {a b c:World} {row:Option Nat} (h:a.grownBy b row) (k:b.grownBy c row):a.grownBy c row:=
 ⟨k.os.trans h.os,k.tape.trans h.tape,k.output.trans h.output,Nat.le_trans h.size k.size,fun i hi hne=>(k.block i (Nat.lt_of_lt_of_le hi h.size) hne).trans (h.block i hi hne)⟩
theorem Ja2 {a w:World} (h:Below a.heap.size a w) (row:Option Nat):a.grownBy w row:=⟨h.os,h.tape,h.output,h.size,fun i hi _=>h.block i hi⟩

theorem Exts.cut {w:World} {B:Nat} {A:Option Addr} {L:List Ex} {cap:Nat} (h:Exts w B A L) (i:Nat) (hc:L.length≤cap):Exts w B (if cap=i then A else A.map (·.add (i*2))) (L.drop i):=fun j x hx=>by
 rw [List.getElem?_drop] at hx;have hlt:i+j<L.length:=(List.getElem?_eq_some_iff.1 hx).1;obtain⟨⟨b,off,hA,hB,c0,c1⟩,h1⟩:=h (i+j) x hx;subst hA;rw [if_neg (by omega)];have add0:(⟨b,off,none⟩:Addr).add (i*2)=⟨b,off+i*2,none⟩:=by
  unfold Addr.add;split<;>simp_all
 rw [show off+(i+j)*2=off+i*2+j*2 by omega] at c0 c1;exact⟨⟨b,off+i*2,by rw [Option.map_some,add0],hB,c0,c1⟩,h1⟩
theorem infoExt:(Tryz.prog.info? 190).map (fun i=>(i.zero,i.size,i.bytes))=some (some (.agg #[.int .i64 0,.string ⟨#[]⟩]),2,24):=by kernel_rfl
end Go.Proofs.YtkjpgheealfedaaGreatDoor.ext
