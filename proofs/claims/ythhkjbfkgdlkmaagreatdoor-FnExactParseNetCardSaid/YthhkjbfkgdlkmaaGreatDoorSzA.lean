import Derived.Test.YthhkjbfkgdlkmaaGreatDoorLeaf
namespace Go.Proofs.YthhkjbfkgdlkmaaGreatDoor
open Go.RowKit
set_option linter.unusedVariables false
set_option maxHeartbeats 16000000
def wsum (xs:List Wy):Nat->Nat
 |0=>0
 |k+1=>wsum xs k+(wat xs k).weights.length
def WFit (xs:List Wy)(k:Nat)(used:Int):Prop:=(∀i,i<k->(wat xs i).nodes.length<=1048576/\(wat xs i).weights.length<=1048576)/\(wsum xs k:Int)<=used
theorem WFit.zero (xs:List Wy)(used:Int)(h:0<=used):WFit xs 0 used:=⟨λi hi=>absurd hi (Nat.not_lt_zero _),by simpa [wsum] using h⟩
theorem WFit.succ {xs:List Wy}{k:Nat}{left l r:Int}(h:WFit xs k (left-l))(hl:l<=1048576)(hr:0<=r)(e:r+(wat xs k).nodes.length+(wat xs k).weights.length=l):WFit xs (k+1) (left-r):=by
 refine⟨λi hi=>?_,?_⟩
 ·rcases Nat.lt_succ_iff_lt_or_eq.1 hi with h1|rfl
  ·exact h.1 i h1
  ·omega
 ·have:=h.2;simp only[wsum];omega
end Go.Proofs.YthhkjbfkgdlkmaaGreatDoor
