import Derived.Test.YtdpfdkihbgmapaaGreatImI
import Derived.Test.YtdpfdkihbgmapaaGreatNets
namespace Go.Proofs.YtdpfdkihbgmapaaGreat
open Go.RowKit
set_option linter.unusedVariables false
set_option maxHeartbeats 16000000
theorem HWays.slice {B:Nat}{w:World}{v:Value}{zs:List Wy}(h:HWays B w v zs):∃a c,v=.slice a zs.length c/\zs.length<=maxLen:=by
 obtain⟨a,c,h1,h2,_⟩:=h;exact⟨a,c,h1,h2⟩
theorem HRels.slice {B:Nat}{w:World}{v:Value}{zs:List Rl}(h:HRels B w v zs):∃a c,v=.slice a zs.length c/\zs.length<=maxLen:=by
 obtain⟨a,c,h1,h2,_⟩:=h;exact⟨a,c,h1,h2⟩
def counts (N:Nt):Bool:=decide (N.nodes.length<=2000)&&(decide (N.ways.length<=2000)&&(decide (edTo N.ways N.ways.length<=4000)&&(decide (N.rels.length<=1000)&&decide (N.turns.length<=2000))))
end Go.Proofs.YtdpfdkihbgmapaaGreat
