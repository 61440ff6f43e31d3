/- What extent's search for the first extent behind a place answers: a place ahead of which all extents end no later. Conditions: the extents are right. -/
import Derived.Test.YtckjkndegjklnaaGreatDoorJB2
import Derived.StillTailTactics
import Derived.Deep.LoopGhost
namespace Go.Proofs.YtckjkndegjklnaaGreatDoor.ext
set_option maxRecDepth 100000
open Go.RowKit words


structure Asks (w:World) (A:Option Addr) (cap:Nat) (L:List Ex) (off:Int) (bl bo:Nat):Prop where
 l:w.heap[bl]?=some (.cells #[.slice A L.length cap] 79 (0,0))
 o:w.heap[bo]?=some (.cells #[.int .i64 off] 3 (0,0))
 e:Exts w w.heap.size A L
theorem Asks.keep {w w':World} {A:Option Addr} {cap:Nat} {L:List Ex} {off:Int} {bl bo:Nat} (h:Asks w A cap L off bl bo) (hb:Below w.heap.size w w'):Asks w' A cap L off bl bo:=
 ⟨(hb.block bl (lt_of_some h.l)).trans h.l,(hb.block bo (lt_of_some h.o)).trans h.o,(h.e.keep hb).more hb.size⟩



end Go.Proofs.YtckjkndegjklnaaGreatDoor.ext
