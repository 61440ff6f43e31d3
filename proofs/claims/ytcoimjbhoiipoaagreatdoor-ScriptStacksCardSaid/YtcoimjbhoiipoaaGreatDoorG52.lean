import Derived.Test.YtcoimjbhoiipoaaGreatDoorG29
set_option maxRecDepth 100000
namespace Go.Proofs.YtcoimjbhoiipoaaGreatDoor.stk
open Go.RowKit words ext name tre


end Go.Proofs.YtcoimjbhoiipoaaGreatDoor.stk
