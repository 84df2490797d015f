import Derived.Test.YtdpfdkihbgmapaaGreatDS
namespace Go.Proofs.YtdpfdkihbgmapaaGreat
open Go.RowKit Go.Sort
set_option linter.unusedVariables false
set_option maxRecDepth 1000000
set_option maxHeartbeats 16000000
end Go.Proofs.YtdpfdkihbgmapaaGreat
