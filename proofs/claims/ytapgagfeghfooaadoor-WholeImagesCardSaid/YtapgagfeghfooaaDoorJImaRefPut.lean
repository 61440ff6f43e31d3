/- What the reference's text and Put answer: a text's bytes behind its length, a node's bytes. Conditions: the node was read, and may be; there are no more than 4096 nodes; there is room. -/
import Derived.Test.YtapgagfeghfooaaDoorJImaEncode
namespace Go.Proofs.YtapgagfeghfooaaDoor.ima
set_option maxRecDepth 100000
open Go.RowKit Go.Proofs.YtapgagfeghfooaaDoor.words Go.Proofs.YtapgagfeghfooaaDoor.ext Go.Proofs.YtapgagfeghfooaaDoor.name Go.Proofs.YtapgagfeghfooaaDoor.tre

def mkB (l : List UInt8) : ByteArray := ⟨l.toArray⟩
theorem mkB_list (l : List UInt8) : (mkB l).data.toList = l := rfl
theorem mkB_size (l : List UInt8) : (mkB l).size = l.length := rfl
theorem mkB_add (l : List UInt8) (t : ByteArray) : mkB l ++ t = mkB (l ++ t.data.toList) := by
  refine text_eq ?_
  rw [ByteArray.data_append, Array.toList_append]
  rfl

end Go.Proofs.YtapgagfeghfooaaDoor.ima
