import Derived.Test.YthhbdfiopjclcaaGreatDoorLeaf
import Derived.Test.YthhbdfiopjclcaaGreatDoorToA
import Derived.Test.YthhbdfiopjclcaaGreatDoorEqA
namespace Go.Proofs.YthhbdfiopjclcaaGreatDoor
open Go.RowKit
set_option linter.unusedVariables false
set_option maxHeartbeats 16000000
theorem Qo.slice {B:Nat}{w:World}{v:Value}{zs:List Int}(h:Qo B w v zs):∃a c,v=.slice a zs.length c/\zs.length<=maxLen:=by
 obtain⟨a,c,h1,h2,_⟩:=h;exact⟨a,c,h1,h2⟩
theorem Xl.slice {B:Nat}{w:World}{v:Value}{zs:List Tn}(h:Xl B w v zs):∃a c,v=.slice a zs.length c/\zs.length<=maxLen:=by
 obtain⟨a,c,h1,h2,_⟩:=h;exact⟨a,c,h1,h2⟩
end Go.Proofs.YthhbdfiopjclcaaGreatDoor
