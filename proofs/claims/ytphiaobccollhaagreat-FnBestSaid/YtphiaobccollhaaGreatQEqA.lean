import Derived.Test.YtphiaobccollhaaGreatQLeaf
import Derived.Deep.RegionHeld3
namespace Go.Proofs.YtphiaobccollhaaGreat
open Go.RowKit
set_option linter.unusedVariables false
set_option maxHeartbeats 16000000
end Go.Proofs.YtphiaobccollhaaGreat
