/- That the nodes of a place are the document's directories. Conditions: the place, the stack and the directories lie in memory, and hang together. -/
import Derived.Test.YtkdldnjnadadgaaGreatDoorJN
namespace Go.Proofs.YtkdldnjnadadgaaGreatDoor.seen
set_option maxRecDepth 100000
open Go.RowKit Go.Proofs.YtkdldnjnadadgaaGreatDoor.words Go.Proofs.YtkdldnjnadadgaaGreatDoor.ext Go.Proofs.YtkdldnjnadadgaaGreatDoor.name Go.Proofs.YtkdldnjnadadgaaGreatDoor.tre Go.Proofs.YtkdldnjnadadgaaGreatDoor.stk

end Go.Proofs.YtkdldnjnadadgaaGreatDoor.seen
