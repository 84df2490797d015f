import Derived.Test.YtphiaobccollhaaGreatQToA
import Derived.Test.YtphiaobccollhaaGreatQEqA
namespace Go.Proofs.YtphiaobccollhaaGreat
open Go.RowKit
set_option linter.unusedVariables false
set_option maxHeartbeats 16000000
theorem Qi.slice {B:Nat}{w:World}{v:Value}{zs:List Int}(h:Qi B w v zs):∃a c,v=sL a zs.length c/\zs.length<=maxLen:=by
 obtain⟨a,c,h1,h2,_⟩:=h;exact⟨a,c,h1,h2⟩
end Go.Proofs.YtphiaobccollhaaGreat
