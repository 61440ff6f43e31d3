import Derived.Test.YtekekhgjobahaaaGreatDoorB2
import Derived.Test.YtekekhgjobahaaaGreatDoorB0
import Derived.Test.YtekekhgjobahaaaGreatDoorShelf
set_option maxRecDepth 100000
namespace Go.Proofs.YtekekhgjobahaaaGreatDoor.ext
open Go.RowKit words


end Go.Proofs.YtekekhgjobahaaaGreatDoor.ext
