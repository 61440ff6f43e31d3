/- That the nodes of a place are the document's directories. Conditions: the place, the stack and the directories lie in memory, and hang together. -/
import Derived.Test.YtkbhcncbpiimdaaGreatDoorJN
namespace Go.Proofs.YtkbhcncbpiimdaaGreatDoor.seen
set_option maxRecDepth 100000
open Go.RowKit Go.Proofs.YtkbhcncbpiimdaaGreatDoor.words Go.Proofs.YtkbhcncbpiimdaaGreatDoor.ext Go.Proofs.YtkbhcncbpiimdaaGreatDoor.name Go.Proofs.YtkbhcncbpiimdaaGreatDoor.tre Go.Proofs.YtkbhcncbpiimdaaGreatDoor.stk

end Go.Proofs.YtkbhcncbpiimdaaGreatDoor.seen
