/- The directory at which one is, and the way to it. No condition. -/
import Derived.Test.YtckjkndegjklnaaGreatDoorJXJ
namespace Go.Proofs.YtckjkndegjklnaaGreatDoor.uni
set_option maxRecDepth 100000
open Go.RowKit words ext name tre stk Go.Proofs.YtckjkndegjklnaaGreatDoor.seen wlk

def dirN:Nd:= .mk 2 false [] [] 0 [] ⟨#[]⟩
def hdN:List Nd→Nd
 |[]=>dirN
 |d::_=>d
structure An where
 e:Int
 k:Int
 z:Int
 wh:Int
 x:List UInt8
end Go.Proofs.YtckjkndegjklnaaGreatDoor.uni
