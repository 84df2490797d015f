import Derived.Test.YthhkjbfkgdlkmaaGreatDoorPD
namespace Go.Proofs.YthhkjbfkgdlkmaaGreatDoor
open Go.RowKit Go.Sort
set_option linter.unusedVariables false
set_option maxRecDepth 1000000
set_option maxHeartbeats 16000000
theorem wrap64 {z:Int}(h0:0<=z)(h1:z<1000):IntKind.i64.wrap z=z:=by rw[IntKind.wrap_i64];omega
def viaT (v:List Int)(i:Nat):List Int:=(v.drop 4).take (i-4)
theorem viaT_succ {v:List Int}{i:Nat}(h4:4<=i)(h:i<v.length):viaT v (i+1)=viaT v i++[iat v i]:=by
 unfold viaT
 have e:i+1-4=(i-4)+1:=by omega
 rw[e,List.take_succ_eq_append_getElem (by rw[List.length_drop];omega),List.getElem_drop]
 have e2:4+(i-4)=i:=by omega
 simp only[e2]
 rw[iat_eq]
end Go.Proofs.YthhkjbfkgdlkmaaGreatDoor
