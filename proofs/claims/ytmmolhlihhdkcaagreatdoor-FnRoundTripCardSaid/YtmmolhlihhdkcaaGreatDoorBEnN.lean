import Derived.Test.YtmmolhlihhdkcaaGreatDoorBEnG
namespace Go.Proofs.YtmmolhlihhdkcaaGreatDoor
open Go.RowKit
set_option linter.unusedVariables false
set_option maxRecDepth 1000000
set_option maxHeartbeats 16000000
theorem Gx.drew {B:Nat}{a b:World}(h:Gx B a b):Gx B a b.drew:=⟨Below.drew h.1,h.2⟩
end Go.Proofs.YtmmolhlihhdkcaaGreatDoor
