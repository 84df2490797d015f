import Derived.Shelf.Strconv.AppendIntPublic10
import Derived.Ground.NamesProg
import Derived.Test.YtmmolhlihhdkcaaGreatDoorProg
namespace Go.Proofs
open Go.Shelf
set_option maxHeartbeats 16000000
end Go.Proofs
