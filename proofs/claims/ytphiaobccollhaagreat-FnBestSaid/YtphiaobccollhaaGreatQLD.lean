import Derived.Test.YtphiaobccollhaaGreatQLB
import Derived.RangeFuncOwn
import Derived.RangeFuncNested
import Derived.RangeFuncBound
import Derived.RangeFuncCalls
import Derived.RangeFuncLeaves
import Derived.Shelf.Abstract
import Derived.Shelf.RegionOpen
import Derived.LoopIn
import Derived.Lib.AppendIntMem
import Derived.Lib.ItoaLen
import Derived.DeepKeys4
import Derived.Laws.BytesArg
import Derived.Laws.IdiomStrings
import Derived.Laws.IdiomMaps
namespace Go.Proofs.YtphiaobccollhaaGreat
open Go.RowKit Go.Sort Go.Maps
set_option linter.unusedVariables false
set_option maxRecDepth 1000000
set_option maxHeartbeats 16000000
open Go
section
variable {X K:Nat->Prop}{A B C:World}
end
open Go.Shelf
attribute [local go_sem] Oper.semAt_some
attribute [local go_sem] Oper.semAt_some
def Q99 (D:Nat):Deferred:={ target:=.collected D,args:=#[] }
attribute [local go_sem] Oper.semAt_some
section
variable (es:List Eg) (F T:List Nat)
end
attribute [local go_sem] Oper.semAt_some
def Qb5 (zs:List Int):Nat->List UInt8
 |0=>[]
 |k+1=>Qb5 zs k++(32::Lib.decDigits (iat zs k).toNat)
def small (zs:List Int):Prop:=∀i,i<zs.length->0<=iat zs i/\iat zs i<=1048576
open Tryz
theorem Q7k:laidOutB prog=true:=by kernel_rfl
def rkey (b:Bool)(bs:List UInt8):Value:=.agg #[.bool b,.string ⟨bs.toArray⟩]
def rk (x:Ru):Value:=rkey x.only (Qb5 x.seq x.seq.length)
def Xl (ts:List Tn)(a b:Int):Nat->Int
 |0=>0
 |k+1=>Xl ts a b k+if (tat ts k).frm=a/\(tat ts k).to=b then (tat ts k).cost else 0
def Fc (N:Nt)(es:List Eg)(e:Nat):Int:=(wat N.ways (eat es e).way.toNat).id
def Tt (N:Nt)(es:List Eg)(e f:Nat):Int:=Xl N.turns (Fc N es e) (Fc N es f) N.turns.length+if (eat es e).twin=(f:Int) then N.uturn else 0
structure Fb (N:Nt)(es:List Eg):Prop where
 way:∀e,e<es.length->∃i:Nat,i<N.ways.length/\(eat es e).way=i
 cost:∀i,i<N.turns.length->0<=(tat N.turns i).cost/\(tat N.turns i).cost<=1048576
 turns:N.turns.length<=2000
 uturn:0<=N.uturn/\N.uturn<=1048576
 weight:∀e,e<es.length->0<=(eat es e).weight/\(eat es e).weight<=1048576
theorem Gb {N:Nt}{es:List Eg}(h:Fb N es)(a b:Int):∀k,k<=N.turns.length->0<=Xl N.turns a b k/\Xl N.turns a b k<=1048576*k
 |0,_=>by simp[Xl]
 |k+1,hk=>by
  have h1:=Gb h a b k (by omega)
  have h2:=h.cost k (by omega)
  unfold Xl
  split<;>omega
theorem Qa3 {N:Nt}{es:List Eg}(h:Fb N es)(e f:Nat):0<=Tt N es e f/\Tt N es e f<=3000000000:=by
 have h1:=Gb h (Fc N es e) (Fc N es f) N.turns.length lR
 have h2:=h.uturn
 have h3:=h.turns
 unfold Tt
 split<;>omega
theorem Ey (B0 B:Nat)(n0 n1 n2 n3:Value)(N:Nt)(v0 v1 v2 v3:Value)(R:Rd)(e f:Nat)(w:World)(hN:U0 B0 w n0 n1 n2 n3 N)(hR:Vy B w v0 v1 v2 v3 R)(hc:Fb N R.edges)(he:e<R.edges.length)(hf:f<R.edges.length) :
  Calls prog 64 #[.agg #[n0,n1,n2,n3,iV N.uturn],.agg #[v0,v1,v2,v3],iV (e:Int),iV (f:Int)] w λr w'=>r=.returned (iV (Tt N R.edges e f))/\Nx w w':=by
 have HC:=mh hc
 have HN:=mh hN
 have HR:=mh hR
 obtain⟨i,hi,hwi⟩:=hc.way e he
 obtain⟨j,hj,hwj⟩:=hc.way f hf
 have HWE:Z (Fc N R.edges e=(wat N.ways i).id):=by unfold Z Fc;rw[hwi];rfl
 have HWF:Z (Fc N R.edges f=(wat N.ways j).id):=by unfold Z Fc;rw[hwj];rfl
 obtain⟨a1,q1,e1,m1,k1⟩:=hN.2.1
 obtain⟨b1,o1,ea1,_,_,c1⟩:=k1 (by omega)
 obtain⟨a3,q3,e3,m3,k3⟩:=hN.2.2.2
 obtain⟨r1,s1,f1,p1,t1⟩:=hR.2.1
 obtain⟨rb,ro,fa1,_,_,ce⟩:=t1 (by omega)
 subst ea1 fa1
 obtain⟨_,_,x0,_⟩:=c1 i hi
 obtain⟨_,_,x1,_⟩:=c1 j hj
 obtain⟨_,_,_,y0,_,_,y1⟩:=ce e he
 obtain⟨_,_,_,z0,_,_,_⟩:=ce f hf
 rw[hwi] at y0
 rw[hwj] at z0
 unfold maxLen at m1 m3 p1
 generalize hn1:N.ways.length=l1 at *
 generalize hn3:N.turns.length=l3 at *
 generalize hre:R.edges.length=le at *
 have HN3:=mh hn3
 have HTL:Z (∀k,k<=l3->0<=Xl N.turns (wat N.ways i).id (wat N.ways j).id k/\Xl N.turns (wat N.ways i).id (wat N.ways j).id k<=1048576*k):=λk hk=>Gb HC.o _ _ k (by rw[HN3.o];exact hk)
 have hl3:l3<=2000:=by have:=HC.o.turns;rw[HN3.o] at this;exact this
 have hut:=HC.o.uturn
 subst e1 e3 f1
 have h3:(e:Int)<le:=by omega
 have h4:(f:Int)<le:=by omega
 have h5:(i:Int)<l1:=by omega
 have h6:(j:Int)<l1:=by omega
 clear hN hR hc k1 c1 t1 ce hwi hwj hn1 hn3 hre
 generalize hWA:(w.alloc (.cells #[n0,sL (some (aD b1 o1)) l1 q1,n2,sL a3 l3 q3,iV N.uturn] 60)).alloc (.cells #[v0,sL (some (aD rb ro)) le s1,v2,v3] 86)=wA
 have HXA:Z (Nx w wA):=by rw[<-hWA];exact(Qe _ _).trans (Qe _ _)
 have HBN:Z (BT wA w.heap.size #[n0,sL (some (aD b1 o1)) l1 q1,n2,sL a3 l3 q3,iV N.uturn] 60):=by rw[<-hWA];exact(BT.new w _ _ _ rfl).alloc _
 have HBR:Z (BT wA (w.heap.size+1) #[v0,sL (some (aD rb ro)) le s1,v2,v3] 86):=by rw[<-hWA];exact BT.new _ _ _ _ (by simp)
 have HX0:=mh x0
 have HX1:=mh x1
 have HY0:=mh y0
 have HY1:=mh y1
 have HZ0:=mh z0
 generalize (wat N.ways i).id=ide at *
 generalize (wat N.ways j).id=idf at *
 clear x0 x1 y0 y1 z0
 go_enter func64,ntmps64
 go_wp2
 try rw[hWA]
 generalize hbR:w.heap.size+1=bR at *
 clear hWA hbR
 go_loopw [9,10] (λc i wr=>∃k:Nat,k<=l3/\i=iV k/\c=iV (Xl N.turns ide idf k)/\Z (Nx wA wr)) (λ_ i _=>l3-(intOf i).toNat)
 case atStart=>exact⟨0,nZ,rfl,rfl,Nx.refl _⟩
 obtain⟨k,hkl,rfl,rfl,HX⟩:=hrel
 have hck:=HTL.o k hkl
 have HXW:=mh (HXA.o.trans HX.o)
 by_cases hlt:k<l3
 ·obtain⟨tb,tof,rfl,_,_,ct⟩:=k3 (by omega)
  obtain⟨t0,t1,t2⟩:=ct k hlt
  have HST:Z (Xl N.turns ide idf (k+1)=Xl N.turns ide idf k+if (tat N.turns k).frm=ide/\(tat N.turns k).to=idf then (tat N.turns k).cost else 0):=rfl
  have hcb:=HC.o.cost k (by rw[HN3.o];exact hlt)
  have u0:=Q0 HXW.o t0
  have u1:=Q0 HXW.o t1
  have u2:=Q0 HXW.o t2
  have w0:=Q0 HXW.o HX0.o
  have w1:=Q0 HXW.o HX1.o
  have w2:=Q0 HXW.o HY0.o
  have w3:=Q0 HXW.o HZ0.o
  have n1c:=(HBN.o.next HX.o).c 1 rfl
  have n3c:=(HBN.o.next HX.o).c 3 rfl
  have r1c:=(HBR.o.next HX.o).c 1 rfl
  generalize (tat N.turns k).frm=tf at *
  generalize (tat N.turns k).to=tt at *
  generalize (tat N.turns k).cost=tc at *
  generalize Xl N.turns ide idf k=ck at *
  have hlt':(k:Int)<l3:=by omega
  clear ct t0 t1 t2
  by_cases hA:tf=ide
  ·have gA:(tf==ide)=true:=by simpa using hA
   by_cases hB:tt=idf
   ·have gB:(tt==idf)=true:=by simpa using hB
    have HS:Z (Xl N.turns ide idf (k+1)=ck+tc):=by unfold Z;rw[HST.o,if_pos ⟨hA,hB⟩]
    clear hA hB
    go_wp2
    go_quiet (fail)
    have HDQ:Z (Nx wr (wr.drewN nq)):=J3 _ _
    generalize wr.drewN nq=wq at *
    have d2:=Q0 HDQ.o u2
    have d3:=Q0 HDQ.o n3c
    clear u0 u1 u2 w0 w1 w2 w3 n1c n3c r1c
    go_wp2
    go_roundw
    case rel=>exact⟨k+1,by omega,by go_num,by rw[HS.o],HX.o.trans HDQ.o⟩
    case measure=>simp[intOf];omega
   ·have gB:(tt==idf)=false:=by simpa using hB
    have HS:Z (Xl N.turns ide idf (k+1)=ck):=by unfold Z;rw[HST.o,if_neg (λh=>hB h.2)];omega
    clear hA hB
    go_wp2
    go_quiet (fail)
    have HDQ:Z (Nx wr (wr.drewN nq)):=J3 _ _
    generalize wr.drewN nq=wq at *
    clear u0 u1 u2 w0 w1 w2 w3 n1c n3c r1c
    go_wp2
    go_roundw
    case rel=>exact⟨k+1,by omega,by go_num,by rw[HS.o],HX.o.trans HDQ.o⟩
    case measure=>simp[intOf];omega
  ·have gA:(tf==ide)=false:=by simpa using hA
   have HS:Z (Xl N.turns ide idf (k+1)=ck):=by unfold Z;rw[HST.o,if_neg (λh=>hA h.1)];omega
   clear hA
   go_wp2
   go_quiet (fail)
   have HDQ:Z (Nx wr (wr.drewN nq)):=J3 _ _
   generalize wr.drewN nq=wq at *
   clear u0 u1 u2 w0 w1 w2 w3 n1c n3c r1c
   go_wp2
   go_roundw
   case rel=>exact⟨k+1,by omega,by go_num,by rw[HS.o],HX.o.trans HDQ.o⟩
   case measure=>simp[intOf];omega
 ·have ek:k=l3:=by omega
  subst ek
  have HT:Z (Tt N R.edges e f=Xl N.turns ide idf k+if (eat R.edges e).twin=(f:Int) then N.uturn else 0):=by unfold Z Tt;rw[HWE.o,HWF.o,HN3.o]
  have y1:=Q0 HXW.o HY1.o
  have r1c:=(HBR.o.next HX.o).c 1 rfl
  have n4c:=(HBN.o.next HX.o).c 4 rfl
  have n3c:=(HBN.o.next HX.o).c 3 rfl
  generalize Xl N.turns ide idf k=ck at *
  generalize (eat R.edges e).twin=tw at *
  by_cases hA:tw=(f:Int)
  ·have gA:(tw==(f:Int))=true:=by simpa using hA
   have HS:Z (Tt N R.edges e f=ck+N.uturn):=by unfold Z;rw[HT.o,if_pos hA]
   clear hA
   go_wp2
   go_ret
   exact⟨by rw[HS.o];rfl,HXW.o⟩
  ·have gA:(tw==(f:Int))=false:=by simpa using hA
   have HS:Z (Tt N R.edges e f=ck):=by unfold Z;rw[HT.o,if_neg hA];omega
   clear hA
   go_wp2
   go_ret
   exact⟨by rw[HS.o];rfl,HXW.o⟩
theorem Q7y {N:Nt}(hv:J1 N=true):Fb N (E1 N):=by
 have h:=hv
 simp only[J1,Gx,zG,decide_eq_true_eq] at h
 obtain⟨⟨c0,c1,ed,c2,c3⟩,hu,⟨ha,hn⟩,⟨hw,_⟩,⟨hr,_⟩,ht,_⟩:=h
 have hin:∀{v:Int},inB v=true->0<=v/\v<=1048576:=λh=>by simpa [inB] using h
 have hwt:∀i j,i<N.ways.length->j<(wat N.ways i).weights.length->0<=iat (wat N.ways i).weights j/\iat (wat N.ways i).weights j<=1048576:=λi j hi hj=>by
  have:=Jf hw hi
  simp only[Jg,zG] at this
  exact hin (Jf this.1.2 hj)
 have hpl:∀e,e<(E1 N).length->∃i j:Nat,i<N.ways.length/\j<(wat N.ways i).weights.length/\(eat (E1 N) e).way=i/\(eat (E1 N) e).weight=iat (wat N.ways i).weights j:=λe he=>by
  rw[Ti] at he
  obtain⟨i,j,q,hi,hj,hq,he1⟩:=Kn N.ways.length he
  obtain⟨_,a1⟩:=Yc hi hj hq
  rw[<-he1] at a1
  refine⟨i,j,hi,hj,?_,?_⟩
  ·rw[a1];split
   ·rfl
   ·split<;>rfl
  ·rw[a1];split
   ·rfl
   ·split<;>rfl
 refine⟨λe he=>?_,λi hi=>?_,c3,hin hu,λe he=>?_⟩
 ·obtain⟨i,j,hi,_,h1,_⟩:=hpl e he
  exact⟨i,hi,h1⟩
 ·have:=Jf ht hi
  simp only[I6,zG] at this
  exact hin this.2.2
 ·obtain⟨i,j,hi,hj,_,h2⟩:=hpl e he
  rw[h2]
  exact hwt i j hi hj
end Go.Proofs.YtphiaobccollhaaGreat
