/- WholeEpochs' items, in plain words. No condition. -/
import Derived.Test.YthhcbmljckgncaaWords
namespace Go.Proofs.Ythhcbmljckgncaa.who
/-- A name that was seen, or a list that was made, in an epoch. -/
structure Item where
  nm : ByteArray
  ep : Nat
  li : Bool
end Go.Proofs.Ythhcbmljckgncaa.who
