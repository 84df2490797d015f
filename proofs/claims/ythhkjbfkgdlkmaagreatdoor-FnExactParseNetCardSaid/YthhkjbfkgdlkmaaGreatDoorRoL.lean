import Derived.Test.YthhkjbfkgdlkmaaGreatDoorRoD
import Derived.Test.YthhkjbfkgdlkmaaGreatDoorEqA
namespace Go.Proofs.YthhkjbfkgdlkmaaGreatDoor
open Go.RowKit
set_option linter.unusedVariables false
set_option maxRecDepth 1000000
set_option maxHeartbeats 16000000
structure Rd where
 nodes:List Int
 edges:List Eg
 first:List Int
 out:List Int
def HRoad (B:Nat)(w:World)(v0 v1 v2 v3:Value)(R:Rd):Prop:=HInts B w v0 R.nodes/\HEdges B w v1 R.edges/\HInts B w v2 R.first/\HInts B w v3 R.out
theorem HRoad.keep {B:Nat}{w w':World}{v0 v1 v2 v3:Value}{R:Rd}(h:HRoad B w v0 v1 v2 v3 R)(k:Keeps B w w'):HRoad B w' v0 v1 v2 v3 R:=⟨h.1.keep k,h.2.1.keep k,h.2.2.1.keep k,h.2.2.2.keep k⟩
theorem HRoad.next {B:Nat}{w w':World}{v0 v1 v2 v3:Value}{R:Rd}(h:HRoad B w v0 v1 v2 v3 R)(k:Nx w w'):HRoad B w' v0 v1 v2 v3 R:=h.keep (k.keeps B)
end Go.Proofs.YthhkjbfkgdlkmaaGreatDoor
