import Derived.Test.YtmmolhlihhdkcaaGreatDoorBImA
namespace Go.Proofs.YtmmolhlihhdkcaaGreatDoor
open Go.RowKit
set_option linter.unusedVariables false
set_option maxHeartbeats 16000000
def ltW (xs:List Wy)(i j:Nat):Bool:=decide ((wat xs i).id<(wat xs j).id)
def Zm (xs:List Wy):Bool:=Pl xs.length (ltW xs)
theorem Qaq (B:Nat)(v:Value)(zs:List Wy)(w:World)(h0:Vh B w v zs) :
  Calls Tryz.prog 48 #[v,.func (.func 49) #[] #[]] w λe w'=>e=.returned (.bool (Zm zs))/\Nx w w':=by
 obtain⟨a,cap,rfl,hn,hk⟩:=h0
 unfold maxLen at hn
 generalize hz:zs.length=n at *
 have HZ:Hid (zs.length=n):=hz
 clear hz
 go_enter Tryz.func48,Tryz.ntmps48
 go_wp2
 go_loopw [5] (λi wr=>∃j:Nat,(j+1<=n\/j=0)/\i=.int .i64 ((j:Int)+1)/\Hid (Vq (Vm (ltW zs)) (j+1))/\Nx w wr) (λi _=>n-(intOf i).toNat)
 case atStart=>exact⟨0,Or.inr rfl,rfl,Tj _,Nx.refl _⟩
 case round=>
  obtain⟨j,hj,rfl,hrel,hnx⟩:=hrel
  have HN:Hid (Nx w wr):=hnx
  clear hnx
  by_cases hlt:j+1<n
  ·obtain⟨b,off,rfl,hB,hb,hc⟩:=hk (by omega)
   obtain⟨p1,p2,a0,a1,a2,a3,_⟩:=hc j (by omega)
   obtain⟨q1,q2,b0,b1,b2,b3,_⟩:=hc (j+1) hlt
   have a0:=Q1 HN.out hb a0
   have a1:=Q1 HN.out hb a1
   have a2:=Q1 HN.out hb a2
   have a3:=Q1 HN.out hb a3
   have b0:=Q1 HN.out hb b0
   have b1:=Q1 HN.out hb b1
   have b2:=Q1 HN.out hb b2
   have b3:=Q1 HN.out hb b3
   have hlt':(j:Int)+1<n:=by omega
   have hlj:(j:Int)<n:=by omega
   have hwj:=W8 j (by omega)
   clear hc hk
   by_cases hab:(wat zs j).id<(wat zs (j+1)).id
   ·have hd:decide (0<=V1 (wat zs j).id (wat zs (j+1)).id)=false:=by rw[Y7];simp[hab]
    have HT:Hid (Vm (ltW zs) (j+1)=true):=by unfold Hid;rw[J3];simp[ltW,hab]
    go_wp2
    go_region_with (go_at_call 49;refine(Y6 _ _ _ _ _ _ _ _ _).mono ?_;rintro e w' ⟨rfl,hx⟩)
    all_goals go_wp2
    all_goals
     go_roundw
     case rel=>exact⟨j+1,by omega,by go_num,Qv hrel HT.out,HN.out.drew.trans hx⟩
     case measure=>simp[intOf];omega
   ·have hd:decide (0<=V1 (wat zs j).id (wat zs (j+1)).id)=true:=by rw[Y7];simp[hab]
    have HT:Hid (Vm (ltW zs) (j+1)=false):=by unfold Hid;rw[J3];simp[ltW];omega
    go_wp2
    go_region_with (go_at_call 49;refine(Y6 _ _ _ _ _ _ _ _ _).mono ?_;rintro e w' ⟨rfl,hx⟩)
    all_goals go_wp2
    all_goals
     go_ret
     exact⟨Qa (by unfold Zm Pl;rw[J7 (by rw[HZ.out];exact hlt) HT.out]),HN.out.drew.trans hx⟩
  ·have hge:(n:Int)<=(j:Int)+1:=by omega
   go_wp2
   go_ret
   exact⟨Qa (by unfold Zm Pl;rw[Jn (by rw[HZ.out];omega) hrel]),HN.out⟩
end Go.Proofs.YtmmolhlihhdkcaaGreatDoor
