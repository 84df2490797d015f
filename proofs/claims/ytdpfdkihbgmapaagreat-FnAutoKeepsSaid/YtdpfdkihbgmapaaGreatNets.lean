import Derived.Test.YtdpfdkihbgmapaaGreatLeaf
import Derived.Test.YtdpfdkihbgmapaaGreatToA
import Derived.Test.YtdpfdkihbgmapaaGreatEqA
namespace Go.Proofs.YtdpfdkihbgmapaaGreat
open Go.RowKit
set_option linter.unusedVariables false
set_option maxHeartbeats 16000000
theorem HInts.slice {B:Nat}{w:World}{v:Value}{zs:List Int}(h:HInts B w v zs):∃a c,v=.slice a zs.length c/\zs.length<=maxLen:=by
 obtain⟨a,c,h1,h2,_⟩:=h;exact⟨a,c,h1,h2⟩
theorem HTurns.slice {B:Nat}{w:World}{v:Value}{zs:List Tn}(h:HTurns B w v zs):∃a c,v=.slice a zs.length c/\zs.length<=maxLen:=by
 obtain⟨a,c,h1,h2,_⟩:=h;exact⟨a,c,h1,h2⟩
end Go.Proofs.YtdpfdkihbgmapaaGreat
