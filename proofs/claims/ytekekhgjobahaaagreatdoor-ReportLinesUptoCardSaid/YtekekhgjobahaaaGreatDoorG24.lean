import Derived.Test.YtekekhgjobahaaaGreatDoorG22
import Derived.Test.YtekekhgjobahaaaGreatDoorG67
set_option maxRecDepth 100000
namespace Go.Proofs.YtekekhgjobahaaaGreatDoor.tre
open Go.RowKit words ext name

theorem ExtIn.exts {w:World} {P:Nat→Prop} {B:Nat} {A:Option Addr} {L:List Ex} (h:ExtIn w P A L) (hP:∀b,P b→b<B):Exts w B A L:=fun i x hx=>by
 obtain⟨⟨b,off,h1,h2,h3,h3'⟩,h4⟩:=h i x hx;exact⟨⟨b,off,h1,hP b h2,h3,h3'⟩,h4⟩
def whiteN:Nd:= .mk 4 false [] [] 0 [] ⟨#[]⟩
def textN (s:ByteArray):Nd:= .mk 1 false [] [] (s.size:Int) (ofB s) ⟨#[]⟩
def dirN (N:List ByteArray) (I:List Nd):Nd:= .mk 2 false N I 0 [] ⟨#[]⟩

end Go.Proofs.YtekekhgjobahaaaGreatDoor.tre
