import Derived.Test.YtahpodmokbdjeaaGreatDoorQLeaf
namespace Go.Proofs.YtahpodmokbdjeaaGreatDoor
open Go.RowKit Tryz
set_option linter.unusedVariables false
set_option maxHeartbeats 16000000
theorem E8 (left:Int)(n:Nat)(h:0<=left):-1<=szI left n/\szI left n<=left/\(0<=szI left n->szI left n+n=left):=by unfold szI;split<;>omega
theorem Q9g (B:Nat)(id:Int)(both:Bool)(p q:Value)(ns ws:List Int)(left:Int)(w:World)(h0:Q8 B w p ns)(h1:Q8 B w q ws)(hl0:0<=left)(hl1:left<=1048576) :
  Calls prog 49 #[.agg #[iV id,.bool both,p,q],iV left] w λe w'=>(∃r:Int,e=.returned (iV r)/\(r<0\/(0<=r/\r+ns.length+ws.length=left)))/\Nx w w':=by
 obtain⟨a,cap,rfl,hn,_⟩:=h0
 obtain⟨a',cap',rfl,hn',_⟩:=h1
 have b1:=E8 left ns.length hl0
 generalize ns.length=n at *
 generalize ws.length=n' at *
 generalize hr1:szI left n=r1 at *
 have HR1:Z (szI left n=r1):=hr1
 clear hr1
 obtain⟨b1,b2,b3⟩:=b1
 have HB3:Z (0<=r1->r1+n=left):=b3
 clear b3
 go_enter func49,ntmps49
 go_wp2_with fail
 refine(Wr _ _ _ _ _ hn hl0 hl1).mono ?_
 rintro e w1 ⟨rfl,rfl⟩
 rw[HR1.o]
 by_cases hneg:r1<0
 ·go_wp2
  go_ret
  exact⟨⟨-1,rfl,oL (by omega)⟩,Q4 _ _⟩
 ·have hpos:0<=r1:=by omega
  have hle:r1<=1048576:=by omega
  have b2':=E8 r1 n' hpos
  generalize hr2:szI r1 n'=r2 at *
  have HR2:Z (szI r1 n'=r2):=hr2
  clear hr2
  obtain⟨d1,d2,d3⟩:=b2'
  have HD3:Z (0<=r2->r2+n'=r1):=d3
  clear d3
  go_wp2_with fail
  refine(Wr _ _ _ _ _ hn' hpos hle).mono ?_
  rintro e w1 ⟨rfl,rfl⟩
  rw[HR2.o]
  by_cases hneg2:r2<0
  ·go_wp2
   go_ret
   exact⟨⟨-1,rfl,oL (by omega)⟩,Q4 _ _⟩
  ·go_wp2
   go_ret
   exact⟨⟨r2,rfl,oR ⟨by omega,by have:=HB3.o hpos;have:=HD3.o (by omega);omega⟩⟩,Q4 _ _⟩
theorem Q9h (B:Nat)(x:Rl)(p:Value)(left:Int)(w:World)(h0:Q8 B w p x.ways)(hl0:0<=left)(hl1:left<=1048576) :
  Calls prog 50 #[.agg #[iV x.id,.bool x.only,iV x.frm,iV x.to,.bool x.via,iV x.node,p],iV left] w λe w'=>(∃r:Int,e=.returned (iV r)/\(r<0\/(0<=r/\r+x.ways.length=left)))/\Nx w w':=by
 obtain⟨a,cap,rfl,hn,_⟩:=h0
 have b1:=E8 left x.ways.length hl0
 generalize x.ways.length=n at *
 generalize hr1:szI left n=r1 at *
 have HR1:Z (szI left n=r1):=hr1
 clear hr1
 obtain⟨b1,b2,b3⟩:=b1
 have HB3:Z (0<=r1->r1+n=left):=b3
 clear b3
 go_enter func50,ntmps50
 go_wp2_with fail
 refine(Wr _ _ _ _ _ hn hl0 hl1).mono ?_
 rintro e w1 ⟨rfl,rfl⟩
 rw[HR1.o]
 by_cases hneg:r1<0
 ·go_wp2
  go_ret
  exact⟨⟨-1,rfl,oL (by omega)⟩,Q4 _ _⟩
 ·go_wp2
  go_ret
  exact⟨⟨r1,rfl,oR ⟨by omega,by have:=HB3.o (by omega);omega⟩⟩,Q4 _ _⟩
def wsum (xs:List Wy):Nat->Nat
 |0=>0
 |k+1=>wsum xs k+(wat xs k).weights.length
def Q30 (xs:List Wy)(k:Nat)(used:Int):Prop:=(∀i,i<k->(wat xs i).nodes.length<=1048576/\(wat xs i).weights.length<=1048576)/\(wsum xs k:Int)<=used
theorem Q30.zero (xs:List Wy)(used:Int)(h:0<=used):Q30 xs 0 used:=⟨λi hi=>absurd hi (zM _),by simpa [wsum] using h⟩
theorem Q30.succ {xs:List Wy}{k:Nat}{left l r:Int}(h:Q30 xs k (left-l))(hl:l<=1048576)(hr:0<=r)(e:r+(wat xs k).nodes.length+(wat xs k).weights.length=l):Q30 xs (k+1) (left-r):=by
 refine⟨λi hi=>?_,?_⟩
 ·rcases Nat.lt_succ_iff_lt_or_eq.1 hi with h1|rfl
  ·exact h.1 i h1
  ·omega
 ·have:=h.2;simp only[wsum];omega
theorem Q65 (B:Nat)(v:Value)(zs:List Wy)(left:Int)(w:World)(h0:Jy B w v zs)(hl0:0<=left)(hl1:left<=1048576) :
  Calls prog 14 #[v,iV left] w λe w'=>(∃r:Int,e=.returned (iV r)/\(r<0\/(0<=r/\r<=left/\zs.length<=1048576/\Q30 zs zs.length 1048576)))/\Nx w w':=by
 obtain⟨a,cap,rfl,hn,hk⟩:=h0
 unfold maxLen at hn
 generalize hz:zs.length=n at *
 have HZ:Z (zs.length=n):=hz
 clear hz
 by_cases hneg:left-n<0
 ·go_enter func14,ntmps14
  go_wp2
  go_ret
  exact⟨⟨-1,rfl,oL (by omega)⟩,Nx.refl _⟩
 ·have hnn:(n:Int)<=left:=by omega
  go_enter func14,ntmps14
  go_wp2
  go_loopw [1,5] (λl i wr=>∃(k:Nat) (lf:Int),k<=n/\i=iV k/\l=iV lf/\0<=lf/\lf<=left/\Z (Q30 zs k (left-lf))/\Z (Nx w wr)) (λ_ i _=>n-(intOf i).toNat)
  case atStart=>exact⟨0,left-n,nZ,rfl,rfl,by omega,by omega,Q30.zero _ _ (by omega),Nx.refl _⟩
  case round=>
   obtain⟨k,lf,hkn,rfl,rfl,hf0,hf1,HW,HN⟩:=hrel
   by_cases hlt:k<n
   ·obtain⟨b,off,rfl,hB,hb,hc⟩:=hk (by omega)
    obtain⟨p1,p2,a0,a1,a2,a3,n1,n2⟩:=hc k hlt
    have a0:=Q0 HN.o hb a0
    have a1:=Q0 HN.o hb a1
    have a2:=Q0 HN.o hb a2
    have a3:=Q0 HN.o hb a3
    have hlt':(k:Int)<n:=by omega
    clear hc hk
    go_wp2_with fail
    refine(Q9g B _ _ _ _ _ _ _ _ (by exact n1.next HN.o) (by exact n2.next HN.o) hf0 (by omega)).mono ?_
    rintro e w1 ⟨⟨r,rfl,hr⟩,hx⟩
    have HX:Z (Nx wr w1):=hx
    clear hx
    rcases hr with hr|⟨hr,he⟩
    ·go_wp2
     go_ret
     exact⟨⟨-1,rfl,oL (by omega)⟩,HN.o.trans HX.o⟩
    ·have HE:Z (r+(wat zs k).nodes.length+(wat zs k).weights.length=lf):=he
     have hrl:r<=left:=by omega
     clear he
     go_wp2
     go_roundw
     case rel=>exact⟨k+1,r,by omega,by go_num,rfl,hr,hrl,HW.o.succ (by omega) hr HE.o,HN.o.trans HX.o⟩
     case measure=>simp[intOf];omega
   ·go_wp2
    go_ret
    have e:k=n:=by omega
    subst e
    exact⟨⟨lf,rfl,oR ⟨hf0,hf1,by omega,HW.o.1,by have:=HW.o.2;omega⟩⟩,HN.o⟩
theorem Q66 (B:Nat)(v:Value)(zs:List Rl)(left:Int)(w:World)(h0:Ut B w v zs)(hl0:0<=left)(hl1:left<=1048576) :
  Calls prog 15 #[v,iV left] w λe w'=>(∃r:Int,e=.returned (iV r)/\(r<0\/(0<=r/\r<=left/\zs.length<=1048576/\∀i,i<zs.length->(rat zs i).ways.length<=1048576)))/\Nx w w':=by
 obtain⟨a,cap,rfl,hn,hk⟩:=h0
 unfold maxLen at hn
 generalize hz:zs.length=n at *
 have HZ:Z (zs.length=n):=hz
 clear hz
 by_cases hneg:left-n<0
 ·go_enter func15,ntmps15
  go_wp2
  go_ret
  exact⟨⟨-1,rfl,oL (by omega)⟩,Nx.refl _⟩
 ·have hnn:(n:Int)<=left:=by omega
  go_enter func15,ntmps15
  go_wp2
  go_loopw [1,5] (λl i wr=>∃(k:Nat) (lf:Int),k<=n/\i=iV k/\l=iV lf/\0<=lf/\lf<=left/\Z (∀i,i<k->(rat zs i).ways.length<=1048576)/\Z (Nx w wr)) (λ_ i _=>n-(intOf i).toNat)
  case atStart=>exact⟨0,left-n,nZ,rfl,rfl,by omega,by omega,λi hi=>absurd hi (zM _),Nx.refl _⟩
  case round=>
   obtain⟨k,lf,hkn,rfl,rfl,hf0,hf1,HW,HN⟩:=hrel
   by_cases hlt:k<n
   ·obtain⟨b,off,rfl,hB,hb,hc⟩:=hk (by omega)
    obtain⟨p1,a0,a1,a2,a3,a4,a5,a6,n1⟩:=hc k hlt
    have a0:=Q0 HN.o hb a0
    have a1:=Q0 HN.o hb a1
    have a2:=Q0 HN.o hb a2
    have a3:=Q0 HN.o hb a3
    have a4:=Q0 HN.o hb a4
    have a5:=Q0 HN.o hb a5
    have a6:=Q0 HN.o hb a6
    have hlt':(k:Int)<n:=by omega
    clear hc hk
    go_wp2_with fail
    refine(Q9h B (rat zs k) _ _ _ (by exact n1.next HN.o) hf0 (by omega)).mono ?_
    rintro e w1 ⟨⟨r,rfl,hr⟩,hx⟩
    have HX:Z (Nx wr w1):=hx
    clear hx
    rcases hr with hr|⟨hr,he⟩
    ·go_wp2
     go_ret
     exact⟨⟨-1,rfl,oL (by omega)⟩,HN.o.trans HX.o⟩
    ·have HE:Z (∀i,i<k+1->(rat zs i).ways.length<=1048576):=λi hi=>by
      rcases Nat.lt_succ_iff_lt_or_eq.1 hi with h1|rfl
      ·exact HW.o i h1
      ·omega
     have hrl:r<=left:=by omega
     clear he
     go_wp2
     go_roundw
     case rel=>exact⟨k+1,r,by omega,by go_num,rfl,hr,hrl,HE,HN.o.trans HX.o⟩
     case measure=>simp[intOf];omega
   ·go_wp2
    go_ret
    have e:k=n:=by omega
    subst e
    exact⟨⟨lf,rfl,oR ⟨hf0,hf1,by omega,HW.o⟩⟩,HN.o⟩
end Go.Proofs.YtahpodmokbdjeaaGreatDoor
