/- Whether two texts, or two rows of texts, are one, by the document's own Same; extents, held against one another. Conditions: the rows are such as were read. What tree.Same answers of any two nodes. Conditions: the nodes are such as were read, and no deeper than a thousand. What the reference's Same answers of any two nodes. Conditions: the nodes are such as were read. -/
import Derived.Test.YtckjkndegjklnaaGreatDoorJE
import Derived.Laws.StructEq
import Derived.StillTailTactics
namespace Go.Proofs.YtckjkndegjklnaaGreatDoor.tre
set_option maxRecDepth 100000
open Go.RowKit words ext name

theorem Jhh {x y:ByteArray} (h:x≠y):(x.toList !=y.toList)=true:=by
 rw [bne_iff_ne,name.to_list,name.to_list]
 intro e
 refine h ?_
 obtain⟨⟨a⟩⟩:=x
 obtain⟨⟨b⟩⟩:=y
 simp only at e
 rw [e]

/-! Extents -/

structure Two (w W1:World) (n:Nd) (r:Raw) (m:Nd) (q:Raw):Prop where
 x:Box W1 w.heap.size n r
 y:Box W1 (w.heap.size+1) m q
 b:Below w.heap.size w W1
theorem Two.new (w:World) (n:Nd) (r:Raw) (m:Nd) (q:Raw):Two w ((w.alloc (.cells (rawCells n r) 81)).alloc (.cells (rawCells m q) 81)) n r m q:=
 ⟨(Box.new w n r).alloc _,Jf5 _ _ _,((Below.refl _ _).alloc (Nat.le_refl _) _).alloc (by simp) _⟩
theorem Two.later {w W1 w2:World} {n m:Nd} {r q:Raw} (h:Two w W1 n r m q) (hb:Below W1.heap.size W1 w2):Two w w2 n r m q:=
 ⟨h.x.below hb,h.y.below hb,h.b.trans (hb.mono h.b.size)⟩


end Go.Proofs.YtckjkndegjklnaaGreatDoor.tre
