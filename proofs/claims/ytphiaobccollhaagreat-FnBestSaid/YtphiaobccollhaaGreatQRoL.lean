import Derived.Test.YtphiaobccollhaaGreatQRoD
import Derived.Test.YtphiaobccollhaaGreatQEqA
namespace Go.Proofs.YtphiaobccollhaaGreat
open Go.RowKit
set_option linter.unusedVariables false
set_option maxRecDepth 1000000
set_option maxHeartbeats 16000000
structure Rd where
 nodes:List Int
 edges:List Eg
 first:List Int
 o:List Int
def Vy (B:Nat)(w:World)(v0 v1 v2 v3:Value)(R:Rd):Prop:=Qi B w v0 R.nodes/\Jw B w v1 R.edges/\Qi B w v2 R.first/\Qi B w v3 R.o
theorem Vy.keep {B:Nat}{w w':World}{v0 v1 v2 v3:Value}{R:Rd}(h:Vy B w v0 v1 v2 v3 R)(k:Ym B w w'):Vy B w' v0 v1 v2 v3 R:=⟨h.1.keep k,h.2.1.keep k,h.2.2.1.keep k,h.2.2.2.keep k⟩
theorem Vy.next {B:Nat}{w w':World}{v0 v1 v2 v3:Value}{R:Rd}(h:Vy B w v0 v1 v2 v3 R)(k:Nx w w'):Vy B w' v0 v1 v2 v3 R:=h.keep (k.keeps B)
end Go.Proofs.YtphiaobccollhaaGreat
