import Derived.Test.YtekekhgjobahaaaGreatDoorG16
import Derived.Test.YtekekhgjobahaaaGreatDoorShelf
import Derived.BigQuiet
set_option maxRecDepth 100000
open Go.Proofs.Tryz
namespace Go.Proofs.YtekekhgjobahaaaGreatDoor.name
open Go.RowKit words


theorem info9:(Tryz.prog.info? 9).map (fun i=>(i.zero,i.size,i.bytes))=some (some (.string ByteArray.empty),1,16):=by kernel_rfl

theorem Jci (s:ByteArray) (m:Int) (w:World) (hs:s.size<4294967281) (hm:w.cell? ⟨1,0,none⟩=some (.int .i64 m)):
  Calls prog 234 #[.string s,.string ⟨#[47]⟩] w fun e w'=>∃P:List ByteArray,e= .returned (.slice (some ⟨w.heap.size,0,none⟩) P.length P.length)∧P.map (fun x=>x.data.toList)=cut s.data.toList∧
   P.length≤s.size+1∧w.alloc (.cells (P.map Value.string).toArray 9)=w':=
 (Tryz.strings_Split s ⟨#[47]⟩ m w hs hm (by decide)).mono fun e w' ⟨he,hw⟩=>by
  have hl:(Lib.splitB ⟨#[47]⟩ 0 (Lib.countB s ⟨#[47]⟩) s).length=Lib.countB s ⟨#[47]⟩+1:=Lib.splitB_all ⟨#[47]⟩ (by decide) 0 _ s rfl;have hc:=Lib.countB_le ⟨#[47]⟩ (by decide) s.size s (Nat.le_refl _);exact⟨_,by rw [hl];exact he,Jhm s,by rw [hl];omega,hw.symm⟩

theorem Jbt {w:World} {B B':Nat} {e:TypeId} {size n:Nat} {v:Value} {xs:List Value} (h:w.ownsRow B e size v n xs) (hB:B'≤B):w.ownsRow B' e size v n xs:=
 ⟨h.1,h.2.imp id fun⟨g,cap,cur,hv,hb,hr⟩=>⟨g,cap,cur,hv,Nat.le_trans hB hb,hr⟩⟩


end Go.Proofs.YtekekhgjobahaaaGreatDoor.name
