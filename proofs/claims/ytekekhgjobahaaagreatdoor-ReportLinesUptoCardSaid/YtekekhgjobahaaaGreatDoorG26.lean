import Derived.Test.YtekekhgjobahaaaGreatDoorG24
set_option maxRecDepth 100000
namespace Go.Proofs.YtekekhgjobahaaaGreatDoor.tre
open Go.RowKit words ext name

def ab:ByteArray:=⟨#[97]⟩
def bb:ByteArray:=⟨#[98]⟩
def xb:ByteArray:=⟨#[120]⟩
def As (n:Nd) (v:Raw→Value) (w:World) (e:Ending) (w':World):Prop:=∃r',e= .returned (v r')∧NdAt w' w'.heap.size n r'∧Below w.heap.size w w'
end Go.Proofs.YtekekhgjobahaaaGreatDoor.tre
