import Derived.Test.YtdpfdkihbgmapaaDS
namespace Go.Proofs.Ytdpfdkihbgmapaa
open Go.RowKit Go.Sort
set_option linter.unusedVariables false
set_option maxRecDepth 1000000
set_option maxHeartbeats 16000000
end Go.Proofs.Ytdpfdkihbgmapaa
