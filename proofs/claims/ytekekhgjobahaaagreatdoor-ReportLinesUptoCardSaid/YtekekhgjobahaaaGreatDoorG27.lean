import Derived.Test.YtekekhgjobahaaaGreatDoorG25
import Derived.Test.YtekekhgjobahaaaGreatDoorG26
import Derived.Laws.AppendOwnNone
set_option maxRecDepth 100000
namespace Go.Proofs.YtekekhgjobahaaaGreatDoor.tre
open Go.RowKit words ext name

theorem Jbt {w:World} {B B' size n:Nat} {E:TypeId} {v:Value} {xs:List Value} (h:w.ownsRow B E size v n xs) (hB:B'≤B):w.ownsRow B' E size v n xs:=by
 refine⟨h.1,?_⟩;rcases h.2 with h0 |⟨g,cap,cur,h1,h2,h3⟩
 ·exact .inl h0
 ·exact .inr ⟨g,cap,cur,h1,Nat.le_trans hB h2,h3⟩

def cb:ByteArray:=⟨#[99]⟩
def xyz:ByteArray:=⟨#[120,121,122]⟩
def dC:Nd:=dirN [cb] [whiteN]
def dT:Nd:=dirN [ab,bb] [dC,textN xyz]


end Go.Proofs.YtekekhgjobahaaaGreatDoor.tre
