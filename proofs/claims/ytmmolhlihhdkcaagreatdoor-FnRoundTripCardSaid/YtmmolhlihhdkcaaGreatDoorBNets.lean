import Derived.Test.YtmmolhlihhdkcaaGreatDoorBToA
import Derived.Test.YtmmolhlihhdkcaaGreatDoorBEqA
namespace Go.Proofs.YtmmolhlihhdkcaaGreatDoor
open Go.RowKit
set_option linter.unusedVariables false
set_option maxHeartbeats 16000000
theorem Qr.slice {B:Nat}{w:World}{v:Value}{zs:List Int}(h:Qr B w v zs):∃a c,v=.slice a zs.length c/\zs.length<=maxLen:=by
 obtain⟨a,c,h1,h2,_⟩:=h;exact⟨a,c,h1,h2⟩
theorem Vn.slice {B:Nat}{w:World}{v:Value}{zs:List Tn}(h:Vn B w v zs):∃a c,v=.slice a zs.length c/\zs.length<=maxLen:=by
 obtain⟨a,c,h1,h2,_⟩:=h;exact⟨a,c,h1,h2⟩
end Go.Proofs.YtmmolhlihhdkcaaGreatDoor
