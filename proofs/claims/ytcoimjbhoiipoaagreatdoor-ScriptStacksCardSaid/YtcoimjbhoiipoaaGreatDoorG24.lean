import Derived.Test.YtcoimjbhoiipoaaGreatDoorG23
import Derived.Test.YtcoimjbhoiipoaaGreatDoorG19
set_option maxRecDepth 100000
namespace Go.Proofs.YtcoimjbhoiipoaaGreatDoor.ext
open Go.RowKit words


end Go.Proofs.YtcoimjbhoiipoaaGreatDoor.ext
