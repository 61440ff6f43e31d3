/- That the nodes of a place are the document's directories. Conditions: the place, the stack and the directories lie in memory, and hang together. -/
import Derived.Test.YtnokmhoaaancgaaGreatDoorJN
namespace Go.Proofs.YtnokmhoaaancgaaGreatDoor.seen
set_option maxRecDepth 100000
open Go.RowKit Go.Proofs.YtnokmhoaaancgaaGreatDoor.words Go.Proofs.YtnokmhoaaancgaaGreatDoor.ext Go.Proofs.YtnokmhoaaancgaaGreatDoor.name Go.Proofs.YtnokmhoaaancgaaGreatDoor.tre Go.Proofs.YtnokmhoaaancgaaGreatDoor.stk

end Go.Proofs.YtnokmhoaaancgaaGreatDoor.seen
