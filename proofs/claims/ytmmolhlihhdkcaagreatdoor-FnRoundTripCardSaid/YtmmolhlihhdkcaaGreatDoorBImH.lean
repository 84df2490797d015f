import Derived.Test.YtmmolhlihhdkcaaGreatDoorBImA
namespace Go.Proofs.YtmmolhlihhdkcaaGreatDoor
open Go.RowKit
set_option linter.unusedVariables false
set_option maxHeartbeats 16000000
def ltT (xs:List Tn)(i j:Nat):Bool:=Q0n (tat xs i) (tat xs j)
def T9 (xs:List Tn):Bool:=Pl xs.length (ltT xs)
theorem Qar (B:Nat)(v:Value)(zs:List Tn)(w:World)(h0:Vn B w v zs) :
  Calls Tryz.prog 54 #[v,.func (.func 55) #[] #[]] w λe w'=>e=.returned (.bool (T9 zs))/\Nx w w':=by
 obtain⟨a,cap,rfl,hn,hk⟩:=h0
 unfold maxLen at hn
 generalize hz:zs.length=n at *
 have HZ:Hid (zs.length=n):=hz
 clear hz
 go_enter Tryz.func54,Tryz.ntmps54
 go_wp2
 go_loopw [5] (λi wr=>∃j:Nat,(j+1<=n\/j=0)/\i=.int .i64 ((j:Int)+1)/\Hid (Vq (Vm (ltT zs)) (j+1))/\Nx w wr) (λi _=>n-(intOf i).toNat)
 case atStart=>exact⟨0,Or.inr rfl,rfl,Tj _,Nx.refl _⟩
 case round=>
  obtain⟨j,hj,rfl,hrel,hnx⟩:=hrel
  have HN:Hid (Nx w wr):=hnx
  clear hnx
  by_cases hlt:j+1<n
  ·obtain⟨b,off,rfl,hB,hb,hc⟩:=hk (by omega)
   obtain⟨a0,a1,a2⟩:=hc j (by omega)
   obtain⟨b0,b1,b2⟩:=hc (j+1) hlt
   have a0:=Q1 HN.out hb a0
   have a1:=Q1 HN.out hb a1
   have a2:=Q1 HN.out hb a2
   have b0:=Q1 HN.out hb b0
   have b1:=Q1 HN.out hb b1
   have b2:=Q1 HN.out hb b2
   have hlt':(j:Int)+1<n:=by omega
   have hlj:(j:Int)<n:=by omega
   have hwj:=W8 j (by omega)
   clear hc hk
   by_cases hab:ltT zs j (j+1)=true
   ·have hd:decide (0<=Kh (tat zs j) (tat zs (j+1)))=false:=by rw[Ip];simpa [ltT] using hab
    have HT:Hid (Vm (ltT zs) (j+1)=true):=by unfold Hid;rw[J3];exact hab
    clear hab
    go_wp2
    go_region_with (go_at_call 55;refine(Kg (tat zs j) (tat zs (j+1)) _).mono ?_;rintro e w' ⟨rfl,hx⟩)
    all_goals go_wp2
    all_goals
     go_roundw
     case rel=>exact⟨j+1,by omega,by go_num,Qv hrel HT.out,HN.out.drew.trans hx⟩
     case measure=>simp[intOf];omega
   ·have hd:decide (0<=Kh (tat zs j) (tat zs (j+1)))=true:=by rw[Ip];simpa [ltT] using hab
    have HT:Hid (Vm (ltT zs) (j+1)=false):=by unfold Hid;rw[J3];simpa using hab
    clear hab
    go_wp2
    go_region_with (go_at_call 55;refine(Kg (tat zs j) (tat zs (j+1)) _).mono ?_;rintro e w' ⟨rfl,hx⟩)
    all_goals go_wp2
    all_goals
     go_ret
     exact⟨Qa (by unfold T9 Pl;rw[J7 (by rw[HZ.out];exact hlt) HT.out]),HN.out.drew.trans hx⟩
  ·have hge:(n:Int)<=(j:Int)+1:=by omega
   go_wp2
   go_ret
   exact⟨Qa (by unfold T9 Pl;rw[Jn (by rw[HZ.out];omega) hrel]),HN.out⟩
end Go.Proofs.YtmmolhlihhdkcaaGreatDoor
