import Derived.Test.YtahpodmokbdjeaaGreatDoorQRoD
import Derived.Test.YtahpodmokbdjeaaGreatDoorQEqA
namespace Go.Proofs.YtahpodmokbdjeaaGreatDoor
open Go.RowKit
set_option linter.unusedVariables false
set_option maxRecDepth 1000000
set_option maxHeartbeats 16000000
structure Rd where
 nodes:List Int
 edges:List Eg
 first:List Int
 o:List Int
def Zq (B:Nat)(w:World)(v0 v1 v2 v3:Value)(R:Rd):Prop:=Q8 B w v0 R.nodes/\Vh B w v1 R.edges/\Q8 B w v2 R.first/\Q8 B w v3 R.o
theorem Zq.keep {B:Nat}{w w':World}{v0 v1 v2 v3:Value}{R:Rd}(h:Zq B w v0 v1 v2 v3 R)(k:Xh B w w'):Zq B w' v0 v1 v2 v3 R:=⟨h.1.keep k,h.2.1.keep k,h.2.2.1.keep k,h.2.2.2.keep k⟩
theorem Zq.next {B:Nat}{w w':World}{v0 v1 v2 v3:Value}{R:Rd}(h:Zq B w v0 v1 v2 v3 R)(k:Nx w w'):Zq B w' v0 v1 v2 v3 R:=h.keep (k.keeps B)
end Go.Proofs.YtahpodmokbdjeaaGreatDoor
