import Derived.Test.YtmmolhlihhdkcaaGreatDoorBRoD
import Derived.Test.YtmmolhlihhdkcaaGreatDoorBEqA
namespace Go.Proofs.YtmmolhlihhdkcaaGreatDoor
open Go.RowKit
set_option linter.unusedVariables false
set_option maxRecDepth 1000000
set_option maxHeartbeats 16000000
structure Rd where
 nodes:List Int
 edges:List Eg
 first:List Int
 out:List Int
def Y8 (B:Nat)(w:World)(v0 v1 v2 v3:Value)(R:Rd):Prop:=Qr B w v0 R.nodes/\Y1 B w v1 R.edges/\Qr B w v2 R.first/\Qr B w v3 R.out
theorem Y8.keep {B:Nat}{w w':World}{v0 v1 v2 v3:Value}{R:Rd}(h:Y8 B w v0 v1 v2 v3 R)(k:Xs B w w'):Y8 B w' v0 v1 v2 v3 R:=⟨h.1.keep k,h.2.1.keep k,h.2.2.1.keep k,h.2.2.2.keep k⟩
theorem Y8.next {B:Nat}{w w':World}{v0 v1 v2 v3:Value}{R:Rd}(h:Y8 B w v0 v1 v2 v3 R)(k:Nx w w'):Y8 B w' v0 v1 v2 v3 R:=h.keep (k.keeps B)
end Go.Proofs.YtmmolhlihhdkcaaGreatDoor
