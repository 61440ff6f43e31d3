/- CursorDoes' acts, in plain words. No condition. -/
import Derived.Test.YthmehalkijbpdaaWords
namespace Go.Proofs.Ythmehalkijbpdaa.cur
/-- Open (0), Move (1), Close (2) or Get (3). -/
structure Act18 where
  kd : Nat
  id : Int
  n : Nat
  dr : ByteArray
end Go.Proofs.Ythmehalkijbpdaa.cur
