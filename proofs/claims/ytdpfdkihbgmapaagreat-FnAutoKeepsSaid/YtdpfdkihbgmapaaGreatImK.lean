import Derived.Test.YtdpfdkihbgmapaaGreatSpB
import Derived.Test.YtdpfdkihbgmapaaGreatImJ
namespace Go.Proofs.YtdpfdkihbgmapaaGreat
open Go.RowKit
set_option linter.unusedVariables false
set_option maxHeartbeats 16000000
def waysOk (N:Nt):Bool:=allN N.ways.length (λi=>wayGood N.nodes (wat N.ways i))
def relTail (N:Nt)(r:Rl):Bool:=
 if r.via then decide (r.ways.length=0)&&hasI N.nodes r.node
 else (r.node==0)&&(decide (1<=r.ways.length)&&(decide (r.ways.length<=4)&&allN r.ways.length (λi=>hasW N.ways (iat r.ways i))))
def relGood (N:Nt)(r:Rl):Bool:=inB r.id&&(hasW N.ways r.frm&&(hasW N.ways r.to&&relTail N r))
end Go.Proofs.YtdpfdkihbgmapaaGreat
