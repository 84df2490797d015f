import Derived.Test.YtdpfdkihbgmapaaGreatLeaf
import Derived.Test.YtdpfdkihbgmapaaGreatToA
import Derived.Test.YtdpfdkihbgmapaaGreatImA
namespace Go.Proofs.YtdpfdkihbgmapaaGreat
open Go.RowKit
set_option linter.unusedVariables false
set_option maxHeartbeats 16000000
def edTo (xs:List Wy):Nat->Nat
 |0=>0
 |k+1=>edTo xs k+edgeN (wat xs k)
theorem edTo_le (xs:List Wy)(k:Nat):edTo xs k<=2*wsum xs k:=by
 induction k with
 |zero=>simp[edTo]
 |succ k ih=>simp only[edTo,wsum,edgeN];split<;>omega
theorem wsum_mono (xs:List Wy){j k:Nat}(h:j<=k):wsum xs j<=wsum xs k:=by
 induction k with
 |zero=>simp at h;subst h;exact Nat.le_refl _
 |succ k ih=>
  rcases Nat.lt_succ_iff_lt_or_eq.1 (Nat.lt_succ_of_le h) with h1|rfl
  ·have:=ih (by omega);simp only[wsum];omega
  ·exact Nat.le_refl _
end Go.Proofs.YtdpfdkihbgmapaaGreat
