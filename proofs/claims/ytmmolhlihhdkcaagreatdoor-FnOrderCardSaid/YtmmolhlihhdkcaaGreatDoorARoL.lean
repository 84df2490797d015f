import Derived.Test.YtmmolhlihhdkcaaGreatDoorARoD
import Derived.Test.YtmmolhlihhdkcaaGreatDoorAEqA
namespace Go.Proofs.YtmmolhlihhdkcaaGreatDoor
open Go.RowKit
set_option linter.unusedVariables false
set_option maxRecDepth 1000000
set_option maxHeartbeats 16000000
structure Rd where
 nodes:List Int
 edges:List Eg
 first:List Int
 out:List Int
def Y7 (B:Nat)(w:World)(v0 v1 v2 v3:Value)(R:Rd):Prop:=Qo B w v0 R.nodes/\Xz B w v1 R.edges/\Qo B w v2 R.first/\Qo B w v3 R.out
theorem Y7.keep {B:Nat}{w w':World}{v0 v1 v2 v3:Value}{R:Rd}(h:Y7 B w v0 v1 v2 v3 R)(k:Xt B w w'):Y7 B w' v0 v1 v2 v3 R:=⟨h.1.keep k,h.2.1.keep k,h.2.2.1.keep k,h.2.2.2.keep k⟩
theorem Y7.next {B:Nat}{w w':World}{v0 v1 v2 v3:Value}{R:Rd}(h:Y7 B w v0 v1 v2 v3 R)(k:Nx w w'):Y7 B w' v0 v1 v2 v3 R:=h.keep (k.keeps B)
end Go.Proofs.YtmmolhlihhdkcaaGreatDoor
