/- Three short texts. No condition. -/
import Derived.Test.YthpnmkfgodmnfaaDoorTreMakes
namespace Go.Proofs.YthpnmkfgodmnfaaDoor.tre
set_option maxRecDepth 100000
open Go.RowKit Go.Proofs.YthpnmkfgodmnfaaDoor.words Go.Proofs.YthpnmkfgodmnfaaDoor.ext Go.Proofs.YthpnmkfgodmnfaaDoor.name

def ab : ByteArray := ⟨#[97]⟩
def bb : ByteArray := ⟨#[98]⟩
def xb : ByteArray := ⟨#[120]⟩
end Go.Proofs.YthpnmkfgodmnfaaDoor.tre
