/- GateDoes' acts, in plain words. No condition. -/
import Derived.Test.YthmehalkijbpdaaWords
namespace Go.Proofs.Ythmehalkijbpdaa.gat
/-- Read (0), Write (1) or Leave (2), of somebody. -/
structure Act17 where
  kd : Nat
  id : Nat
end Go.Proofs.Ythmehalkijbpdaa.gat
