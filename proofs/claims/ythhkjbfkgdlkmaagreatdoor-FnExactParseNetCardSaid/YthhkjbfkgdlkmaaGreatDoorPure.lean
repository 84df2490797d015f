import Derived.Test.YthhkjbfkgdlkmaaGreatDoorImK
import Derived.Lib.QuietBelow
namespace Go.Proofs.YthhkjbfkgdlkmaaGreatDoor
open Go.RowKit
set_option linter.unusedVariables false
set_option maxHeartbeats 16000000
end Go.Proofs.YthhkjbfkgdlkmaaGreatDoor
namespace Go.Proofs.YthhkjbfkgdlkmaaGreatDoor
open Go.RowKit Go.Sort
set_option linter.unusedVariables false
set_option maxHeartbeats 16000000
end Go.Proofs.YthhkjbfkgdlkmaaGreatDoor
