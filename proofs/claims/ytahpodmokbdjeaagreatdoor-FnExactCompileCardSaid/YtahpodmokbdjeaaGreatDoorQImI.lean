import Derived.Test.YtahpodmokbdjeaaGreatDoorQSzA
import Derived.Test.YtahpodmokbdjeaaGreatDoorQToA
import Derived.Test.YtahpodmokbdjeaaGreatDoorQImA
namespace Go.Proofs.YtahpodmokbdjeaaGreatDoor
open Go.RowKit Tryz
set_option linter.unusedVariables false
set_option maxHeartbeats 16000000
def edTo (xs:List Wy):Nat->Nat
 |0=>0
 |k+1=>edTo xs k+Ag (wat xs k)
theorem Q8q (xs:List Wy)(k:Nat):edTo xs k<=2*wsum xs k:=by
 induction k with
 |zero=>simp[edTo]
 |succ k ih=>simp only[edTo,wsum,Ag];split<;>omega
theorem Q0h (xs:List Wy){j k:Nat}(h:j<=k):wsum xs j<=wsum xs k:=by
 induction k with
 |zero=>simp at h;subst h;exact lR
 |succ k ih=>
  rcases Nat.lt_succ_iff_lt_or_eq.1 (Nat.lt_succ_of_le h) with h1|rfl
  ·have:=ih (by omega);simp only[wsum];omega
  ·exact lR
theorem P5 (B:Nat)(v0 v1 v2 v3:Value)(u:Int)(zs:List Wy)(w:World)(h0:Jy B w v1 zs)(hs:wsum zs zs.length<=1048576) :
  Calls prog 105 #[.agg #[v0,v1,v2,v3,iV u]] w λe w'=>e=.returned (iV (edTo zs zs.length:Nat))/\Nx w w':=by
 obtain⟨a,cap,rfl,hn,hk⟩:=h0
 unfold maxLen at hn
 have HS:Z (∀k,k<=zs.length->edTo zs k<=2097152):=λk hk=>by have:=Q8q zs k;have:=Q0h zs hk;omega
 clear hs
 generalize hz:zs.length=n at *
 have HZ:Z (zs.length=n):=hz
 clear hz
 go_enter func105,ntmps105
 go_wp2
 go_loopw [3,5,9] (λe p i wr=>∃k:Nat,k<=n/\i=iV k/\e=iV (edTo zs k:Nat)/\Z (Nx w wr)) (λ_ _ i _=>n-(intOf i).toNat)
 case atStart=>exact⟨0,nZ,rfl,rfl,Q4 _ _⟩
 case round=>
  obtain⟨k,hkn,rfl,rfl,HN⟩:=hrel
  by_cases hlt:k<n
  ·obtain⟨b,off,rfl,hB,hb,hc⟩:=hk (by omega)
   obtain⟨p1,p2,a0,a1,a2,a3,n1,n2⟩:=hc k hlt
   obtain⟨an,cn,rfl,_,_⟩:=n1
   obtain⟨aw,cw,rfl,hnw,_⟩:=n2
   have a0:=Q0 HN.o hb a0
   have a1:=Q0 HN.o hb a1
   have a2:=Q0 HN.o hb a2
   have a3:=Q0 HN.o hb a3
   have hlt':(k:Int)<n:=by omega
   have e1:=HS.o k hkn
   have e2:=HS.o (k+1) (by omega)
   simp only[edTo,Ag] at e2
   have HE:Z (edTo zs (k+1)=edTo zs k+(if (wat zs k).both then 2*(wat zs k).weights.length else (wat zs k).weights.length)):=rfl
   generalize edTo zs k=ek at *
   generalize (wat zs k).weights.length=lw at *
   clear hc hk
   cases hbo:(wat zs k).both
   ·rw[hbo] at e2 HE a1
    simp only[Bool.false_eq_true,if_false] at e2
    clear hbo
    go_wp2
    go_roundw
    case rel=>exact⟨k+1,by omega,by go_num,by rw[HE.o];go_num,HN.o.alloc _⟩
    case measure=>simp[intOf];omega
   ·rw[hbo] at e2 HE a1
    simp only[if_true] at e2
    clear hbo
    go_wp2
    go_roundw
    case rel=>exact⟨k+1,by omega,by go_num,by rw[HE.o];simp only[if_true];congr 1;omega,HN.o.alloc _⟩
    case measure=>simp[intOf];omega
  ·have e:k=n:=by omega
   subst e
   go_wp2
   go_ret
   exact⟨rfl,HN.o⟩
end Go.Proofs.YtahpodmokbdjeaaGreatDoor
