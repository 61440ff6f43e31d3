import Derived.Test.YtkjpgheealfedaaGreatDoorJE
set_option maxRecDepth 100000
namespace Go.Proofs.YtkjpgheealfedaaGreatDoor.tre
open Go.RowKit words ext name

theorem Jhv {x y:ByteArray} (h:x≠y):(x.toList !=y.toList)=true:=by
 rw [bne_iff_ne,name.to_list,name.to_list];intro e;refine h ?_;obtain⟨⟨a⟩⟩:=x;obtain⟨⟨b⟩⟩:=y;simp only at e;rw [e]


structure Two (w W1:World) (n:Nd) (r:Raw) (m:Nd) (q:Raw):Prop where
 x:Box W1 w.heap.size n r
 y:Box W1 (w.heap.size+1) m q
 b:Below w.heap.size w W1
theorem Two.new (w:World) (n:Nd) (r:Raw) (m:Nd) (q:Raw):Two w ((w.alloc (.cells (rawCells n r) 70)).alloc (.cells (rawCells m q) 70)) n r m q:=
 ⟨(Box.new w n r).alloc _,Jfb _ _ _,((Below.refl _ _).alloc (Nat.le_refl _) _).alloc (by simp) _⟩
theorem Two.later {w W1 w2:World} {n m:Nd} {r q:Raw} (h:Two w W1 n r m q) (hb:Below W1.heap.size W1 w2):Two w w2 n r m q:=
 ⟨h.x.below hb,h.y.below hb,h.b.trans (hb.mono h.b.size)⟩


end Go.Proofs.YtkjpgheealfedaaGreatDoor.tre
