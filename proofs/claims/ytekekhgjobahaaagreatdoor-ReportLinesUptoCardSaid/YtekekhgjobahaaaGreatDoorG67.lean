import Derived.Test.YtekekhgjobahaaaGreatDoorG23
import Derived.Test.YtekekhgjobahaaaGreatDoorG21
import Derived.Test.YtekekhgjobahaaaGreatDoorShelf
set_option maxRecDepth 100000
namespace Go.Proofs.YtekekhgjobahaaaGreatDoor.ext
open Go.RowKit words


end Go.Proofs.YtekekhgjobahaaaGreatDoor.ext
