import Derived.Test.YthhkjbfkgdlkmaaGreatDoorKJ
namespace Go.Proofs.YthhkjbfkgdlkmaaGreatDoor
open Go.RowKit Go.Sort Go.Maps
set_option linter.unusedVariables false
set_option maxRecDepth 1000000
set_option maxHeartbeats 16000000
end Go.Proofs.YthhkjbfkgdlkmaaGreatDoor
