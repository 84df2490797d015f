import Derived.Test.YtphiaobccollhaaGreatQToA
import Derived.Test.YtphiaobccollhaaGreatQImA
namespace Go.Proofs.YtphiaobccollhaaGreat
open Go.RowKit
set_option linter.unusedVariables false
set_option maxHeartbeats 16000000
def Wj (xs:List Wy):Nat->Nat
 |0=>0
 |k+1=>Wj xs k+Q12 (wat xs k)
theorem Qe5 (xs:List Wy)(k:Nat):Wj xs k<=2*Wx xs k:=by
 induction k with
 |zero=>simp[Wj]
 |succ k ih=>simp only[Wj,Wx,Q12];split<;>omega
theorem Q8a (xs:List Wy){j k:Nat}(h:j<=k):Wx xs j<=Wx xs k:=by
 induction k with
 |zero=>simp at h;subst h;exact lR
 |succ k ih=>
  rcases Nat.lt_succ_iff_lt_or_eq.1 (Nat.lt_succ_of_le h) with h1|rfl
  ·have:=ih (by omega);simp only[Wx];omega
  ·exact lR
end Go.Proofs.YtphiaobccollhaaGreat
