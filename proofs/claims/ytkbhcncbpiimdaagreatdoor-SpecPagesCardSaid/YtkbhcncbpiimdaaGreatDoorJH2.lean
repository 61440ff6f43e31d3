/- What Link and Opaque hand back: nodes. Condition: the text is such as was read. -/
import Derived.Test.YtkbhcncbpiimdaaGreatDoorJH
namespace Go.Proofs.YtkbhcncbpiimdaaGreatDoor.tre
set_option maxRecDepth 100000
open Go.RowKit Go.Proofs.YtkbhcncbpiimdaaGreatDoor.words Go.Proofs.YtkbhcncbpiimdaaGreatDoor.ext Go.Proofs.YtkbhcncbpiimdaaGreatDoor.name

end Go.Proofs.YtkbhcncbpiimdaaGreatDoor.tre
