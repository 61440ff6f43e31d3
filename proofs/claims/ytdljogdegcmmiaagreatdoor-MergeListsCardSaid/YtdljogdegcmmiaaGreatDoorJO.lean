/- That the nodes of a place are the document's directories. Conditions: the place, the stack and the directories lie in memory, and hang together. -/
import Derived.Test.YtdljogdegcmmiaaGreatDoorJN
namespace Go.Proofs.YtdljogdegcmmiaaGreatDoor.seen
set_option maxRecDepth 100000
open Go.RowKit Go.Proofs.YtdljogdegcmmiaaGreatDoor.words Go.Proofs.YtdljogdegcmmiaaGreatDoor.ext Go.Proofs.YtdljogdegcmmiaaGreatDoor.name Go.Proofs.YtdljogdegcmmiaaGreatDoor.tre Go.Proofs.YtdljogdegcmmiaaGreatDoor.stk

end Go.Proofs.YtdljogdegcmmiaaGreatDoor.seen
