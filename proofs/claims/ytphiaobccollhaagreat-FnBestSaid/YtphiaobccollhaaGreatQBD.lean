import Derived.Test.YtphiaobccollhaaGreatQBA
import Derived.Test.YtphiaobccollhaaGreatQDS
namespace Go.Proofs.YtphiaobccollhaaGreat
open Go.RowKit Go.Sort
set_option linter.unusedVariables false
set_option maxRecDepth 1000000
set_option maxHeartbeats 16000000
variable {S:Src}{G:Nat->List Int}{l:List Int}{k:Int}{C D b g ix r t v:Nat}{w w':World}{a:Act}{x0 x1 x2 x3 x4 x5 x6:Value}{c:Bool}
theorem Q4y (ws:List Wy):∀k,(∀i,i<k->(wat ws i).weights.length<=150)->Wx ws k<=150*k
 |0,_=>lR
 |k+1,h=>by
  have h1:=Q4y ws k (λi hi=>h i (by omega))
  have h2:=h k (by omega)
  show Wx ws k+(wat ws k).weights.length<=_
  omega
theorem Qf8 (h:SOk S):SOk (riS S)/\Wx (Yk S).ways (Yk S).ways.length<=1048576:=by
 obtain⟨h1,h2,h3,h4⟩:=Q4i h
 have hw:(Yk S).ways=(Qa S).ways:=by unfold Yk;split<;>rfl
 refine⟨?_,?_⟩
 ·unfold riS
  by_cases e:(Qa S).ways.length=0
  ·rw[if_pos e]
   exact h1
  ·rw[if_neg e]
   have o2:SOk (Aw S):=Qf (Qf h1 _) _
   have v2:=Qv o2 3
   obtain⟨T,hT⟩:∃T,T=Aw S:=⟨_,rfl⟩
   rw[<-hT] at o2 v2
   have q0:Q9w 0 (ns T 3).size ⟨ns T 3,nv T 3,[]⟩:=⟨Qf o2 3,Eq.refl _,by show 0<=nv T 3/\nv T 3<=3+2*((0:Nat):Int);have:=v2.2 (by omega);omega,Eq.refl _,λr hr=>by simp at hr⟩
   have q:Q9w (Ic S).toNat (ns T 3).size (riX S):=by
    unfold riX
    rw[<-hT]
    exact Q1t q0 _
   exact q.ok
 ·rw[hw]
  have:=Q4y (Qa S).ways (Qa S).ways.length (λi hi=>by have:=h4 i hi;omega)
  omega
theorem Qd8 (h:SOk S):SOk (Q0d S)/\Wx (Wr S).ways (Wr S).ways.length<=1048576:=by
 refine⟨Qf (Qf h 3) 4,?_⟩
 have:=Q4y (Wr S).ways 3 (λi hi=>by
  have:i=0\/i=1\/i=2:=by omega
  rcases this with rfl|rfl|rfl
  ·show(lwW 1 99).length<=150;rw[Ij];omega
  ·show(lwW 0 1).length<=150;rw[Ij];omega
  ·show(lwW 2 (1+(nv (ns S 3) 4).toNat%2)).length<=150;rw[Ij];omega)
 show Wx (Wr S).ways 3<=_
 omega
def vnN (S:Src):Nt:=if nv (riS S) 60=0 then Wr (ns (riS S) 60) else Yk S
def vnS (S:Src):Src:=if nv (riS S) 60=0 then Q0d (ns (riS S) 60) else ns (riS S) 60
theorem vn_sm (h:SOk S):SOk (vnS S)/\Wx (vnN S).ways (vnN S).ways.length<=1048576:=by
 obtain⟨h1,h2⟩:=Qf8 h
 unfold vnN vnS
 by_cases e:nv (riS S) 60=0
 ·rw[if_pos e,if_pos e]
  exact Qd8 (Qf h1 60)
 ·rw[if_neg e,if_neg e]
  exact⟨Qf h1 60,h2⟩
def Vg (k:Int)(x:List Int×Src):Nat->List Int×Src
 |0=>x
 |i+1=>if k=0 then ((Vg k x i).1.set i 0,(Vg k x i).2) else if k=1 then ((Vg k x i).1.set i (nv (Vg k x i).2 3),ns (Vg k x i).2 3) else (if nv (Vg k x i).2 3=0 then (Vg k x i).1.set i 3145728 else (Vg k x i).1,ns (Vg k x i).2 3)
theorem Q2f {k:Int}{x:List Int×Src}(h:SOk x.2):∀i,SOk (Vg k x i).2/\(Vg k x i).1.length=x.1.length
 |0=>⟨h,rfl⟩
 |i+1=>by
  obtain⟨h1,h2⟩:=Q2f (k:=k) h i
  rw[Vg]
  split
  ·exact⟨h1,by rw[List.length_set];exact h2⟩
  ·split
   ·exact⟨Qf h1 3,by rw[List.length_set];exact h2⟩
   ·refine⟨Qf h1 3,?_⟩
    dsimp only
    split
    ·rw[List.length_set];exact h2
    ·exact h2
def Gd (eo:List Int)(e:Int)(a:Nat)(x:List Int×Src):Nat->List Int×Src
 |0=>x
 |v+1=>if iat eo v=e then (if nv (Gd eo e a x v).2 2=0 then (Gd eo e a x v).1.set a (v:Int) else (Gd eo e a x v).1,ns (Gd eo e a x v).2 2) else Gd eo e a x v
theorem Qdw (l:List Int)(a:Nat)(z:Int)(i:Nat):iat (l.set a z) i=if a=i/\a<l.length then z else iat l i:=by
 unfold iat
 rw[zD,zD,List.getElem?_set]
 by_cases e:a=i
 ·subst e
  by_cases h:a<l.length
  ·simp[h]
  ·simp[h]
 ·simp[e]
theorem Q1k {eo:List Int}{e:Int}{a n:Nat}{x:List Int×Src}(h:SOk x.2)(hx:∀i,i<x.1.length->0<=iat x.1 i/\iat x.1 i<n):∀v,v<=n->SOk (Gd eo e a x v).2/\(Gd eo e a x v).1.length=x.1.length/\∀i,i<x.1.length->0<=iat (Gd eo e a x v).1 i/\iat (Gd eo e a x v).1 i<n
 |0,_=>⟨h,rfl,hx⟩
 |v+1,hv=>by
  obtain⟨h1,h2,h3⟩:=Q1k (eo:=eo) (e:=e) (a:=a) h hx v (by omega)
  rw[Gd]
  split
  ·dsimp only
   split
   ·refine⟨Qf h1 2,by rw[List.length_set];exact h2,λi hi=>?_⟩
    rw[Qdw]
    split
    ·omega
    ·exact h3 i hi
   ·exact⟨Qf h1 2,h2,h3⟩
  ·exact⟨h1,h2,h3⟩
def dv1 (k:Int)(G:Nat->List Int)(S:Src):(Nat->List Int)×Src:=if k<3 then (upd G 4 (Vg k (G 4,S) (G 4).length).1,(Vg k (G 4,S) (G 4).length).2) else (G,S)
def dv3 (a:Nat)(G:Nat->List Int)(S:Src)(v:Nat):List Int×Src:=Gd (G 0) (iat (G 0) (iat (G 3) a).toNat) a (G 3,S) v
def dv2 (G:Nat->List Int)(S:Src):(Nat->List Int)×Src:=if nv S 4=0/\0<(G 3).length then (upd G 3 (dv3 (nv (ns S 4) (G 3).length).toNat G (ns (ns S 4) (G 3).length) (G 0).length).1,(dv3 (nv (ns S 4) (G 3).length).toNat G (ns (ns S 4) (G 3).length) (G 0).length).2) else (G,ns S 4)
def gz:Nat->List Int:=λk=>if k=2 then [0] else []
def dvX (F:Nt->Nat->List Int)(S:Src):(Nat->List Int)×Src:=if (F (vnN S) 2).length=0 then (gz,vnS S) else dv2 (dv1 (nv (vnS S) 6) (F (vnN S)) (ns (vnS S) 6)).1 (dv1 (nv (vnS S) 6) (F (vnN S)) (ns (vnS S) 6)).2
theorem GIn.set4 (h:GIn G)(hl:l.length=(G 4).length):GIn (upd G 4 l):=⟨h.l1,h.l2,hl.trans h.l4,h.l6,h.tt,h.ne,h.s0,h.s2,h.s3,h.s6⟩
theorem GIn.set3 (h:GIn G)(hl:l.length=(G 3).length)(ht:∀i,i<(G 3).length->0<=iat l i/\iat l i<(G 0).length):GIn (upd G 3 l):=⟨h.l1,h.l2,h.l4.trans hl.symm,h.l6,λi hi=>ht i (by rw[<-hl];exact hi),h.ne,h.s0,h.s2,by show l.length<=_;rw[hl];exact h.s3,h.s6⟩
theorem GIn.z:GIn gz:=⟨rfl,lR,rfl,lR,λi hi=>absurd hi (zK _),λh=>absurd h (zK _),by show 0<=_;omega,by show 1<=_;omega,by show 0<=_;omega,by show 0<=_;omega⟩
theorem Qgc (h:GIn G)(hS:SOk S):GIn (dv1 k G S).1/\SOk (dv1 k G S).2:=by
 unfold dv1
 split
 ·have q:=Q2f (k:=k) (x:=(G 4,S)) hS (G 4).length
  exact⟨h.set4 q.2,q.1⟩
 ·exact⟨h,hS⟩
theorem Qgb (h:GIn G)(hS:SOk S):GIn (dv2 G S).1/\SOk (dv2 G S).2:=by
 unfold dv2
 split
 ·have q:=Q1k (eo:=G 0) (e:=iat (G 0) (iat (G 3) (nv (ns S 4) (G 3).length).toNat).toNat) (a:=(nv (ns S 4) (G 3).length).toNat) (x:=(G 3,ns (ns S 4) (G 3).length)) (Qf (Qf hS 4) (G 3).length) h.tt (G 0).length lR
  exact⟨h.set3 q.2.1 q.2.2,q.1⟩
 ·exact⟨h,Qf hS 4⟩
def n7:Array Value:=#[sN,sN,sN,sN,sN,sN,sN]
def vl (l:List Value):Nat->Value:=λk=>(l[k]?).getD sN
theorem R7.of {C':Nat}{v0 v1 v2 v3 v4 v5 v6:Value}{G:Gc}(h:Q5 C w v0 G.eo/\Q5 C w v1 G.so/\Q5 C w v2 G.fi/\Q5 C w v3 G.tt/\Q5 C w v4 G.co/\Q5 C w v5 G.sa/\Q5 C w v6 G.we)(hap:Aps [v0,v1,v2,v3,v4,v5,v6])(hC:C'<=C):R7 C' w (vl [v0,v1,v2,v3,v4,v5,v6]) (gcR G):=by
 obtain⟨h0,h1,h2,h3,h4,h5,h6⟩:=h
 refine⟨λk=>?_,λj k g hn hj hk=>?_⟩
 ·match k with
  |0=>exact Jb h0 hC
  |1=>exact Jb h1 hC
  |2=>exact Jb h2 hC
  |3=>exact Jb h3 hC
  |4=>exact Jb h4 hC
  |5=>exact Jb h5 hC
  |6=>exact Jb h6 hC
  |k+7=>exact⟨rfl,oL ⟨rfl,rfl⟩⟩
 ·unfold vl at hj hk
  cases ej:([v0,v1,v2,v3,v4,v5,v6]:List Value)[j]? with
  |none=>rw[ej] at hj;simp[Value.ownBlock] at hj
  |some x=>
   cases ek:([v0,v1,v2,v3,v4,v5,v6]:List Value)[k]? with
   |none=>rw[ek] at hk;simp[Value.ownBlock] at hk
   |some y=>
    rw[ej] at hj
    rw[ek] at hk
    exact hap j k x y g hn ej ek hj hk
def VN (D b gn:Nat)(w0 w:World)(S:Src):Prop:=∃C v0 v1 v2 v3,FR D b w0 w (vnS S) [(w0.heap.size,n7,25),(gn,#[v0,v1,v2,v3,iV (vnN S).uturn],60)]/\U0 C w v0 v1 v2 v3 (vnN S)
def VE (D b:Nat)(w w':World)(X:(Nat->List Int)×Src)(e:Ending):Prop:=GE D b w w' X.1 X.2 e/\GIn X.1/\SOk X.2
open Tryz
theorem field_cpl (a0 a1 a2 a3 a4 a5 a6:Option Addr)(z:Int)(n0 n1 n2 n3 n4 n5 n6 c0 c1 c2 c3 c4 c5 c6:Nat)(w:World):(Instr.field 63 (.agg #[iV z,sL a0 n0 c0,sL a1 n1 c1,sL a2 n2 c2,sL a3 n3 c3,sL a4 n4 c4,sL a5 n5 c5,sL a6 n6 c6]) 1).run prog w=.ok (.agg #[sL a0 n0 c0,sL a1 n1 c1,sL a2 n2 c2,sL a3 n3 c3,sL a4 n4 c4,sL a5 n5 c5,sL a6 n6 c6]) w:=by kernel_rfl
theorem Q2y {α:Type}(f:Nat->α)(k:Nat):upd f k (f k)=f:=by
 funext j
 by_cases e:j=k
 ·subst e;rw[Vp]
 ·rw[Jq _ _ e]
theorem Qcz {α:Type}(f:Nat->α)(k:Nat)(a c:α):upd (upd f k a) k c=upd f k c:=by
 funext j
 by_cases e:j=k
 ·subst e;rw[Vp,Vp]
 ·rw[Jq _ _ e,Jq _ _ e,Jq _ _ e]
section
variable {D b g n c i:Nat}{w0 w:World}{S:Src}{bl:List (Nat×Array Value×Nat)}{V:Nat->Value}{G:Nat->List Int}
theorem GP.putU (k:Nat)(h:GP D b w0 w S bl V (upd G k l))(e:V k=sL (sA g) n c)(hi:i<l.length)(x:Int):GP D b w0 (w.setCell (aD g i) (iV x)) S bl V (upd G k (l.set i x)):=by
 have q:=h.put k e (i:=i) (by rw[Vp];exact hi) x
 rw[Vp,Qcz] at q
 exact q
theorem GP.cellU (h:GP D b w0 w S bl V G)(k:Nat)(e:V k=sL (sA g) n c)(hi:i<(G k).length):w.cell? (aD g i)=some (iV (iat (G k) i))/\w.frozen? (aD g i)=false:=by
 obtain⟨g',c',e',hc⟩:=h.r.op k rfl (by omega)
 rw[e] at e'
 simp only[zC,Option.some.injEq,Addr.mk.injEq] at e'
 obtain⟨⟨rfl,-⟩,-⟩:=e'
 exact hc i hi
end
theorem R7.one {v:Value}(h:Q5 C w v [0]):R7 C w (upd (λ_=>sN) 2 v) gz:=by
 refine⟨λk=>?_,λj k g hn hj hk=>?_⟩
 ·by_cases e:k=2
  ·subst e;exact h
  ·rw[Jq _ _ e,gz,if_neg e];exact⟨rfl,oL ⟨rfl,rfl⟩⟩
 ·by_cases e:j=2
  ·subst e;rw[Jq _ _ (Ne.symm hn)] at hk;simp[Value.ownBlock] at hk
  ·rw[Jq _ _ e] at hj;simp[Value.ownBlock] at hj
theorem Q0h {R:Ending->World->Prop}(h2:a.tmps[2]?.getD undef=pT b)(hd:a.defers=[])(hb:BT w b #[x0,x1,x2,x3,x4,x5,x6] t)(hR:R (.returned (.agg #[x0,x1,x2,x3,x4,x5,x6])) w):bodyPost prog Tryz.f20 R .ret a w:=by
 have p0:=hb.c 0 rfl
 have p1:=hb.c 1 rfl
 have p2:=hb.c 2 rfl
 have p3:=hb.c 3 rfl
 have p4:=hb.c 4 rfl
 have p5:=hb.c 5 rfl
 have p6:=hb.c 6 rfl
 exact bodyPost_ret (by simp[results,results20,h2,go_sem,p0,p1,p2,p3,p4,p5,p6]) hd hR
attribute [local go_sem] field_cpl
theorem Fq (D b:Nat)(F:Nt->Nat->List Int)(hF:GcF F)(S:Src)(w:World)(hS:Jj D w b S)(hok:SOk S) :
  Calls prog 20 #[pT b] w λe w'=>VE D b w w' (dvX F S) e:=by
 have hmx:prog.follows .mixedOrders=true:=by kernel_rfl
 have HOK:Z (SOk S):=hok
 have HOR:=mh ((Qf8 hok).1)
 have HVS:=mh (vn_sm hok)
 have HGF:Z (GcF F):=hF
 have HF0:Z (FR D b w (w.alloc (.cells n7 25)) S [(w.heap.size,n7,25)]):=(FR.start hS).alloc n7 25 (by decide)
 obtain⟨X,hX⟩:∃X,X=dvX F S:=⟨_,rfl⟩
 rw[<-hX]
 have HX0:=mh hX
 clear hS hok hF hX
 go_enter func20,ntmps20
 go_upto_region 1 with fail
 generalize hwA:w.alloc (.cells n7 25)=wA at *
 have hwA':w.alloc (.cells #[sN,sN,sN,sN,sN,sN,sN] 25)=wA:=hwA
 rw[hwA']
 clear hwA hwA'
 go_wp2_with fail
 refine(Ez D b S wA HF0.o.src HOK.o).mono ?_
 rintro e w1 ⟨v0,v1,v2,v3,vn,vw,vr,rfl,hN,hs1,hc1⟩
 have HF1:=mh (HF0.o.drawn hs1 hc1)
 obtain⟨a0,c0,rfl⟩:=Qd hN.nodes
 obtain⟨a1,c1,rfl⟩:=Qd hN.ways
 obtain⟨a2,c2,rfl⟩:=Qd hN.rels
 obtain⟨a3,c3,rfl⟩:=Qd hN.turns
 have HN1:=mh hN
 clear hN hs1 hc1 HF0
 generalize hl0:(Yk S).nodes.length=l0 at *
 generalize hl1:(Yk S).ways.length=l1 at *
 generalize hl2:(Yk S).rels.length=l2 at *
 generalize hl3:(Yk S).turns.length=l3 at *
 clear hl0 hl1 hl2 hl3
 have HF2:=mh (HF1.o.alloc #[sL a0 l0 c0,sL a1 l1 c1,sL a2 l2 c2,sL a3 l3 c3,iV (Yk S).uturn] 60 (by decide))
 have HN2:=mh (HN1.o.next (Qe w1 (.cells #[sL a0 l0 c0,sL a1 l1 c1,sL a2 l2 c2,sL a3 l3 c3,iV (Yk S).uturn] 60)))
 clear HF1 HN1
 go_upto_region 2 with fail
 generalize w1.alloc (.cells #[sL a0 l0 c0,sL a1 l1 c1,sL a2 l2 c2,sL a3 l3 c3,iV (Yk S).uturn] 60)=w2 at *
 generalize w1.heap.size=gn at *
 replace HF2:Z (FR D b w w2 (riS S) [(w.heap.size,n7,25),(gn,#[sL a0 l0 c0,sL a1 l1 c1,sL a2 l2 c2,sL a3 l3 c3,iV (Yk S).uturn],60)]):=HF2
 go_wp2_with fail
 refine(Q6 D b (riS S) 60 w2 HF2.o.src HOR.o (by omega)).mono ?_
 rintro e w3 ⟨rfl,hs1,hc1⟩
 have HN3:=mh (HN2.o.src HF2.o.src hc1)
 have HF3:=mh (HF2.o.drawn hs1 hc1)
 clear hs1 hc1 HF2 HN2
 have HVE:Z (vnN S=if nv (riS S) 60=0 then Wr (ns (riS S) 60) else Yk S):=rfl
 have HVT:Z (vnS S=if nv (riS S) 60=0 then Q0d (ns (riS S) 60) else ns (riS S) 60):=rfl
 generalize nv (riS S) 60=d at *
 go_upto_if 14 with fail
 go_cut [] from 15 to 16 (λwq=>Z (VN D b gn w wq S))
 case first=>
  by_cases hd:d=0
  ·rw[if_pos hd] at HVE HVT
   subst hd
   go_wp2_with fail
   refine(Q5x D b (ns (riS S) 60) w3 HF3.o.src (Qf HOR.o 60)).mono ?_
   rintro e w4 ⟨u0,u1,u2,u3,un,uw,ur,rfl,hN,hs1,hc1⟩
   have HF4:=mh (HF3.o.drawn hs1 hc1)
   obtain⟨b0,d0,rfl⟩:=Qd hN.nodes
   obtain⟨b1,d1,rfl⟩:=Qd hN.ways
   obtain⟨b2,d2,rfl⟩:=Qd hN.rels
   obtain⟨b3,d3,rfl⟩:=Qd hN.turns
   have HN4:=mh hN
   clear hN hs1 hc1 HF3 HN3
   generalize hl0:(Wr (ns (riS S) 60)).nodes.length=m0 at *
   generalize hl1:(Wr (ns (riS S) 60)).ways.length=m1 at *
   generalize hl2:(Wr (ns (riS S) 60)).rels.length=m2 at *
   generalize hl3:(Wr (ns (riS S) 60)).turns.length=m3 at *
   clear hl0 hl1 hl2 hl3
   go_wp2_with (refine Ua rfl _ _ rfl rfl rfl (HF4.o.at 1 rfl) rfl rfl rfl ?_)
   intro w5 hb5 hc5
   have HR:Z (VN D b gn w w5 S):=by
    unfold Z VN
    rw[HVE.o,HVT.o]
    exact⟨_,_,_,_,_,HF4.o.turn 1 rfl hc5 hb5,(HN4.o.turnBox (t:=60) (HF4.o.at 1 rfl) (by decide) (λe=>absurd e (by decide)) hc5).held⟩
   clear hb5 hc5 HF4 HN4
   go_wp2
   go_meet
   exact HR
  ·rw[if_neg hd] at HVE HVT
   have HR:Z (VN D b gn w w3 S):=by
    unfold Z VN
    rw[HVE.o,HVT.o]
    exact⟨_,_,_,_,_,HF3.o,HN3.o.held⟩
   have hd':(d==0)=false:=by simp[hd]
   clear HF3 HN3 hd
   go_wp2
   go_meet
   exact HR
 case rest=>
 clear HF3 HN3 HVE HVT
 obtain⟨C,u0,u1,u2,u3,hF,hN⟩:=hcut.o
 clear hcut
 obtain⟨b0,d0,e0,-,-⟩:=hN.1
 obtain⟨b1,d1,e1,-,-⟩:=hN.2.1
 obtain⟨b2,d2,e2,-,-⟩:=hN.2.2.1
 obtain⟨b3,d3,e3,-,-⟩:=hN.2.2.2
 have HF4:=mh hF
 have HN4:=mh hN
 clear hF hN
 generalize hl0:(vnN S).nodes.length=m0 at *
 generalize hl1:(vnN S).ways.length=m1 at e1
 generalize hl2:(vnN S).rels.length=m2 at *
 generalize hl3:(vnN S).turns.length=m3 at *
 clear hl0 hl1 hl2 hl3
 subst e0 e1 e2 e3
 have BN:BT wc gn #[sL b0 m0 d0,sL b1 m1 d1,sL b2 m2 d2,sL b3 m3 d3,iV (vnN S).uturn] 60:=HF4.o.at 1 rfl
 have y0:=BN.c 0 rfl
 have y1:=BN.c 1 rfl
 have y2:=BN.c 2 rfl
 have y3:=BN.c 3 rfl
 have y4:=BN.c 4 rfl
 clear BN
 go_wp2_with fail
 refine(Ei C _ _ _ _ (vnN S) wc HN4.o HVS.o.2).mono ?_
 rintro e w6 ⟨⟨code,p0,p1,p2,p3,p4,p5,p6,Gg,rfl,ho,hap,hC⟩,hx⟩
 obtain⟨f0,h0,e0⟩:=Qd ho.1
 obtain⟨f1,h1,e1⟩:=Qd ho.2.1
 obtain⟨f2,h2,e2⟩:=Qd ho.2.2.1
 obtain⟨f3,h3,e3⟩:=Qd ho.2.2.2.1
 obtain⟨f4,h4,e4⟩:=Qd ho.2.2.2.2.1
 obtain⟨f5,h5,e5⟩:=Qd ho.2.2.2.2.2.1
 obtain⟨f6,h6,e6⟩:=Qd ho.2.2.2.2.2.2
 generalize Gg.eo.length=n0 at *
 generalize Gg.so.length=n1 at *
 generalize Gg.fi.length=n2 at *
 generalize Gg.tt.length=n3 at *
 generalize Gg.co.length=n4 at *
 generalize Gg.sa.length=n5 at *
 generalize Gg.we.length=n6 at *
 subst e0 e1 e2 e3 e4 e5 e6
 have HGI:=mh (Qgd hC)
 have HFE:=mh (HGF.o _ _ _ hC)
 have HR7:=mh (R7.of ho hap (HF4.o.chg.size))
 have HF6:=mh ((HF4.o.next hx).alloc (gx (vl [sL f0 n0 h0,sL f1 n1 h1,sL f2 n2 h2,sL f3 n3 h3,sL f4 n4 h4,sL f5 n5 h5,sL f6 n6 h6])) 25 (by decide))
 clear y0 y1 y2 y3 y4 ho hap hC hx HF4 HN4 HGF
 go_upto_region 5 with fail
 have HP0:Z (GP D b w (w6.alloc (.cells #[sL f0 n0 h0,sL f1 n1 h1,sL f2 n2 h2,sL f3 n3 h3,sL f4 n4 h4,sL f5 n5 h5,sL f6 n6 h6] 25)) (vnS S) [(w.heap.size,n7,25),(gn,#[sL b0 m0 d0,sL b1 m1 d1,sL b2 m2 d2,sL b3 m3 d3,iV (vnN S).uturn],60),(w6.heap.size,gx (vl [sL f0 n0 h0,sL f1 n1 h1,sL f2 n2 h2,sL f3 n3 h3,sL f4 n4 h4,sL f5 n5 h5,sL f6 n6 h6]),25)] (vl [sL f0 n0 h0,sL f1 n1 h1,sL f2 n2 h2,sL f3 n3 h3,sL f4 n4 h4,sL f5 n5 h5,sL f6 n6 h6]) (gcR Gg)):=⟨HF6.o,⟨λj=>(HR7.o.o j).next (Qe _ _),HR7.o.ap⟩⟩
 clear HF6 HR7
 generalize w6.alloc (.cells #[sL f0 n0 h0,sL f1 n1 h1,sL f2 n2 h2,sL f3 n3 h3,sL f4 n4 h4,sL f5 n5 h5,sL f6 n6 h6] 25)=w7 at *
 generalize w6.heap.size=g at *
 generalize (#[sL b0 m0 d0,sL b1 m1 d1,sL b2 m2 d2,sL b3 m3 d3,iV (vnN S).uturn]:Array Value)=nc at *
 generalize (vl [sL f0 n0 h0,sL f1 n1 h1,sL f2 n2 h2,sL f3 n3 h3,sL f4 n4 h4,sL f5 n5 h5,sL f6 n6 h6])=V at *
 have HX:Z (X=if (F (vnN S) 2).length=0 then (gz,vnS S) else dv2 (dv1 (nv (vnS S) 6) (F (vnN S)) (ns (vnS S) 6)).1 (dv1 (nv (vnS S) 6) (F (vnN S)) (ns (vnS S) 6)).2):=HX0.o
 clear HX0
 have HGI:Z ((F (vnN S) 2).length≠0->GIn (F (vnN S))):=λhn=>by
  rw[<-HFE.o] at hn ⊢
  rcases HGI.o with e|e
  ·rw[e] at hn;exact absurd rfl hn
  ·exact e
 have HS2:=mh HVS.o.1
 rw[HFE.o] at HP0
 clear HFE HVS
 generalize F (vnN S)=G0 at *
 generalize vnS S=S2 at *
 have HP:Z (GP D b w w7 (S2) [(w.heap.size,n7,25),(gn,nc,60),(g,gx V,25)] V (G0)):=HP0
 clear HP0
 obtain⟨a2,c2,e2⟩:=(HP.o.r.o 2).slice
 obtain⟨q2,hq2⟩:∃n,(G0 2).length=n:=⟨_,rfl⟩
 rw[hq2] at HX e2
 have y2:w7.cell? (aD g 2)=some (sL a2 q2 c2):=by rw[<-e2];exact(HP.o.f.at 2 rfl).c 2 rfl
 have HQ2:=mh hq2
 clear hq2 e2
 by_cases hz:q2=0
 ·have hx:X=(gz,S2):=by rw[HX.o,if_pos hz]
  subst hx
  subst hz
  have BR:BT (w7.alloc (.cells #[iV 0] 2)) w.heap.size n7 25:=(HP.o.f.at 0 rfl).next (Qe _ _)
  have HF8:=mh (HP.o.f.next (Qe w7 (.cells #[iV 0] 2)))
  have HZ:Z (w.heap.size<w7.heap.size):=(HP.o.f.at 0 rfl).lt
  have HO8:Z (Q5 (w.heap.size+1) (w7.alloc (.cells #[iV 0] 2)) (sL (sA w7.heap.size) 1 1) [0]):=⟨rfl,oR ⟨w7.heap.size,1,#[iV 0],rfl,HZ.o,BT.new _ _ _ _ rfl,lR,by simp[maxLen],rfl,rfl⟩⟩
  clear HX HP HGI HQ2
  go_upto_region 6 with fail
  go_wp2_with (refine Vo rfl _ _ rfl rfl rfl BR rfl rfl rfl ?_)
  intro w9 hb9 hc9
  have H9:=HF8.o.turn 0 rfl hc9 hb9
  have HO9:Q5 w.heap.size w9 (sL (sA w7.heap.size) 1 1) [0]:=Jb (J5 HO8.o hc9 (λx hx ee=>by have e1:x=w.heap.size:=ee;have:=(Q7 HO8.o x hx).1;omega)) (Nat.le_succ _)
  clear BR HF8 HO8 y2
  go_wp2
  refine Q0h rfl rfl hb9 ?_
  exact⟨⟨_,rfl,R7.one HO9,H9.src,H9.chg⟩,GIn.z,HS2.o⟩
 have HG0:=mh (HGI.o (by rw[HQ2.o];exact hz))
 rw[if_neg hz] at HX
 have hz':¬(q2:Int)=0:=by omega
 go_upto_region 7 with fail
 clear y2 hz' hz HGI HQ2
 go_wp2_with fail
 refine(Q6 D b S2 (6) w7 HP.o.f.src HS2.o (by omega)).mono ?_
 rintro e w8 ⟨rfl,hs1,hc1⟩
 have HP8:=mh (HP.o.drawn hs1 hc1)
 clear hs1 hc1 HP
 have hk0:=Qv HS2.o 6
 have hk2:=hk0.2 (by omega)
 have hk1:=hk0.1
 have HS3:=mh (Qf HS2.o 6)
 clear hk0 HS2
 generalize nv S2 6=k at *
 generalize ns S2 6=S3 at *
 have HX1:Z (dv1 k G0 S3=if k<3 then (upd G0 4 (Vg k (G0 4,S3) (G0 4).length).1,(Vg k (G0 4,S3) (G0 4).length).2) else (G0,S3)):=rfl
 have HK1:=mh (Qgc (k:=k) HG0.o HS3.o)
 generalize dv1 k G0 S3=X1 at *
 go_upto_if 29 with fail
 generalize hbk:decide (k<3)=bk
 have HBK:=mh hbk
 clear hbk
 go_cut [6] from 30 to 61 (λs6 wq=>Z (GP D b w wq (X1.2) [(w.heap.size,n7,25),(gn,nc,60),(g,gx V,25)] V (X1.1)))
 case first=>
  cases bk with
  |true=>
   have hk3:=of_decide_eq_true HBK.o
   have hx:X1=(upd G0 4 (Vg k (G0 4,S3) (G0 4).length).1,(Vg k (G0 4,S3) (G0 4).length).2):=by rw[HX1.o,if_pos hk3]
   obtain⟨n4,hn4⟩:∃n,(G0 4).length=n:=⟨_,rfl⟩
   have HN4:=mh hn4
   have hb4:n4<=40000:=by have h1:=HG0.o.l4;have h2:=HG0.o.s3;omega
   obtain⟨x0,hx0⟩:∃x,x=(G0 4,S3):=⟨_,rfl⟩
   rw[<-hx0,hn4] at hx
   have HXE:=mh hx
   have HC0:Z (∀i,SOk (Vg k x0 i).2/\(Vg k x0 i).1.length=n4):=λi=>by rw[hx0,<-hn4];exact Q2f (k:=k) (x:=(G0 4,S3)) HS3.o i
   have HP9:Z (GP D b w w8 ((Vg k x0 0).2) [(w.heap.size,n7,25),(gn,nc,60),(g,gx V,25)] V (upd G0 4 (Vg k x0 0).1)):=by unfold Z;rw[hx0];show GP D b w w8 (S3) [(w.heap.size,n7,25),(gn,nc,60),(g,gx V,25)] V (upd G0 4 (G0 4));rw[Q2y];exact HP8.o
   clear hx hn4 hx0 HX1 HP8 HX HK1 HBK
   go_wp2
   go_loopw [6] (λs6 wr=>∃i:Nat,i<=n4/\s6=iV i/\Z (GP D b w wr ((Vg k x0 i).2) [(w.heap.size,n7,25),(gn,nc,60),(g,gx V,25)] V (upd G0 4 (Vg k x0 i).1))) (λs6 _=>n4-(intOf s6).toNat)
   case atStart=>exact⟨0,nZ,rfl,HP9⟩
   clear HP9
   obtain⟨i,hi,rfl,HL⟩:=hrel
   by_cases hlt:i<n4
   ·have hlt':(i:Int)<n4:=by omega
    have HLI:=mh (HC0.o i)
    obtain⟨r4,c4,e4,hc4⟩:=HL.o.r.op 4 HLI.o.2 (by omega)
    have HE4:=mh e4
    have y4:wr.cell? (aD g 4)=some (sL (sA r4) n4 c4):=by rw[<-e4];exact(HL.o.f.at 2 rfl).c 4 rfl
    obtain⟨cz,fz⟩:=hc4 i hlt
    clear hc4 e4
    by_cases h0:k=0
    ·subst h0
     have HR:Z (GP D b w (wr.setCell (aD r4 i) (iV 0)) ((Vg 0 x0 (i+1)).2) [(w.heap.size,n7,25),(gn,nc,60),(g,gx V,25)] V (upd G0 4 (Vg 0 x0 (i+1)).1)):=by
      unfold Z
      rw[Vg,if_pos rfl]
      exact HL.o.putU 4 HE4.o (by rw[HLI.o.2];exact hlt) 0
     clear HL HLI HE4 HC0
     go_wp2
     go_roundw
     case rel=>exact⟨i+1,by omega,by go_num,HR⟩
     case measure=>simp[intOf];omega
    by_cases h1:k=1
    ·subst h1
     go_upto_region 15 with fail
     have HD:=mh (HL.o.next (show Nx wr wr.drew from(Below.refl _ _).drew))
     have HSS:Z ((λq=>q.cell? (aD g 4)=some (sL (sA r4) n4 c4)) wr.drew):=y4
     clear y4 cz fz HL
     refine(wpIn_wide (n:=9)).1 ?_
     refine Qb (c:=6) (S:=λq=>q.cell? (aD g 4)=some (sL (sA r4) n4 c4)) hmx (by kernel_rfl) (λhw hcl=>?_)
     generalize wr.drew=wd at *
     refine tq (i:=0) (v:=.pointer (some (aD g 4))) (λhcl=>?_)
     refine tq (i:=1) (v:=sL (sA r4) n4 c4) (λhcl=>?_)
     refine tq (i:=2) (v:=iV (i:Int)) (λhcl=>?_)
     refine tq (i:=3) (v:=pT b) (λhcl=>?_)
     refine Q8 (i:=4) (by kernel_rfl) hcl (λhcl=>wpOpIn_step rfl (λK hK=>?_))
     go_simp
     refine⟨trivial,(callsIn_wide.2 (Q6 D b _ 3 _ HD.o.f.src HLI.o.1 (by omega))).mono ?_⟩
     rintro e7 w9 ⟨rfl,hs1,hc1⟩
     have H9:=mh (HD.o.drawn hs1 hc1)
     clear hs1 hc1 HD
     have HSS:Z ((λq=>q.cell? (aD g 4)=some (sL (sA r4) n4 c4)) w9):=by rw[<-HE4.o];exact(H9.o.f.at 2 rfl).c 4 rfl
     refine hK _ _ ⟨oR HSS.o,?_⟩
     clear hK K
     have HR:Z (GP D b w (w9.setCell (aD r4 i) (iV (nv (Vg 1 x0 i).2 3))) ((Vg 1 x0 (i+1)).2) [(w.heap.size,n7,25),(gn,nc,60),(g,gx V,25)] V (upd G0 4 (Vg 1 x0 (i+1)).1)):=by
      unfold Z
      rw[Vg,if_neg (by decide),if_pos rfl]
      exact H9.o.putU 4 HE4.o (by rw[HLI.o.2];exact hlt) _
     obtain⟨cz,fz⟩:=H9.o.cellU 4 HE4.o (i:=i) (show i<(Vg 1 x0 i).1.length by rw[HLI.o.2];exact hlt)
     clear H9 HLI HC0 HE4
     generalize nv (Vg 1 x0 i).2 3=dz at *
     refine tq (i:=5) (v:=.pointer (some (aD r4 i))) (λhcl=>?_)
     refine Qh (i:=6) (by kernel_rfl) (wpOpIn_step rfl (λK hK=>?_))
     go_simp
     refine hK _ _ ⟨oL (by decide),?_⟩
     clear hK K
     refine Ql (by kernel_rfl) ?_ _
     clear hw hcl HSS cz fz
     generalize w9.setCell (aD r4 i) (iV dz)=wS at *
     go_wp2
     go_roundw
     case rel=>exact⟨i+1,by omega,by go_num,HR⟩
     case measure=>simp[intOf];omega
    have h2:k=2:=by omega
    subst h2
    go_upto_region 16 with fail
    go_wp2_with fail
    refine(Q6 D b _ 3 wr HL.o.f.src HLI.o.1 (by omega)).mono ?_
    rintro e w9 ⟨rfl,hs1,hc1⟩
    have H9:=mh (HL.o.drawn hs1 hc1)
    clear hs1 hc1 HL y4 cz fz
    have y4:w9.cell? (aD g 4)=some (sL (sA r4) n4 c4):=by rw[<-HE4.o];exact(H9.o.f.at 2 rfl).c 4 rfl
    obtain⟨cz,fz⟩:=H9.o.cellU 4 HE4.o (i:=i) (show i<(Vg 2 x0 i).1.length by rw[HLI.o.2];exact hlt)
    have HCO:Z (Vg 2 x0 (i+1)=(if nv (Vg 2 x0 i).2 3=0 then (Vg 2 x0 i).1.set i 3145728 else (Vg 2 x0 i).1,ns (Vg 2 x0 i).2 3)):=rfl
    generalize nv (Vg 2 x0 i).2 3=dz at *
    by_cases hd:dz=0
    ·have HR:Z (GP D b w (w9.setCell (aD r4 i) (iV 3145728)) ((Vg 2 x0 (i+1)).2) [(w.heap.size,n7,25),(gn,nc,60),(g,gx V,25)] V (upd G0 4 (Vg 2 x0 (i+1)).1)):=by
      unfold Z
      rw[HCO.o,if_pos hd]
      exact H9.o.putU 4 HE4.o (by rw[HLI.o.2];exact hlt) _
     subst hd
     clear H9 HLI HC0 HE4 HCO
     go_wp2
     go_roundw
     case rel=>exact⟨i+1,by omega,by go_num,HR⟩
     case measure=>simp[intOf];omega
    ·have HR:Z (GP D b w w9 ((Vg 2 x0 (i+1)).2) [(w.heap.size,n7,25),(gn,nc,60),(g,gx V,25)] V (upd G0 4 (Vg 2 x0 (i+1)).1)):=by
      unfold Z
      rw[HCO.o,if_neg hd]
      exact H9.o
     have hd':(dz==0)=false:=by simp[hd]
     clear H9 HLI HC0 HE4 HCO hd
     go_wp2
     go_roundw
     case rel=>exact⟨i+1,by omega,by go_num,HR⟩
     case measure=>simp[intOf];omega
   have ei:i=n4:=by omega
   subst ei
   have hlt':¬(i:Int)<i:=by omega
   obtain⟨a4,c4,e4⟩:=(HL.o.r.o 4).slice
   have y4:wr.cell? (aD g 4)=some (sL a4 i c4):=by rw[<-(HC0.o i).2];have h:wr.cell? (aD g 4)=some (V 4):=(HL.o.f.at 2 rfl).c 4 rfl;rw[e4] at h;exact h
   clear e4
   have HR:Z (GP D b w wr (X1.2) [(w.heap.size,n7,25),(gn,nc,60),(g,gx V,25)] V (X1.1)):=by rw[HXE.o];exact HL.o
   clear HL HXE HC0
   go_wp2
   go_meet
   exact HR
  |false=>
   have hk3:=of_decide_eq_false HBK.o
   have hx:X1=(G0,S3):=by rw[HX1.o,if_neg hk3]
   have HR:Z (GP D b w w8 (X1.2) [(w.heap.size,n7,25),(gn,nc,60),(g,gx V,25)] V (X1.1)):=by rw[hx];exact HP8.o
   clear HP8 HX1 HX hx
   go_wp2
   go_meet
   exact HR
 case rest=>
 clear HP8 HX1
 have HP1:=mh hcut.o
 clear hcut
 obtain⟨G1,S4⟩:=X1
 replace HP1:Z (GP D b w wc (S4) [(w.heap.size,n7,25),(gn,nc,60),(g,gx V,25)] V (G1)):=HP1
 replace HX:Z (X=dv2 G1 S4):=HX
 have HG1:Z (GIn G1):=HK1.o.1
 have HS4:Z (SOk S4):=HK1.o.2
 clear HK1 HG0 HS3 hk1 hk2
 have HDV:Z (dv2 G1 S4=if nv S4 4=0/\0<(G1 3).length then (upd G1 3 (dv3 (nv (ns S4 4) (G1 3).length).toNat G1 (ns (ns S4 4) (G1 3).length) (G1 0).length).1,(dv3 (nv (ns S4 4) (G1 3).length).toNat G1 (ns (ns S4 4) (G1 3).length) (G1 0).length).2) else (G1,ns S4 4)):=rfl
 rw[<-HX.o] at HDV
 have HXO:Z (GIn X.1/\SOk X.2):=by rw[HX.o];exact Qgb HG1.o HS4.o
 have HS5:=mh (Qf HS4.o 4)
 obtain⟨n3,hn3⟩:∃n,(G1 3).length=n:=⟨_,rfl⟩
 rw[hn3] at HDV
 have HN3:=mh hn3
 have hb3:n3<=40000:=by have h2:=HG1.o.s3;omega
 have HD4:Z (∃x,x=nv S4 4):=⟨_,rfl⟩
 obtain⟨bq,hbq⟩:∃x,x=decide (nv S4 4=0/\0<n3):=⟨_,rfl⟩
 have HBQ:=mh hbq
 clear hbq HX hn3 HD4
 go_upto_region 18 with fail
 go_cut [70] from 62 to 70 (λs wq=>s=.bool bq/\Z (GP D b w wq (ns S4 4) [(w.heap.size,n7,25),(gn,nc,60),(g,gx V,25)] V (G1)))
 case first=>
  obtain⟨a3,c3,e3⟩:=(HP1.o.r.o 3).slice
  rw[HN3.o] at e3
  have HE3:=mh e3
  clear e3
  go_wp2_with fail
  refine(Q6 D b S4 (4) wc HP1.o.f.src HS4.o (by omega)).mono ?_
  rintro e w9 ⟨rfl,hs1,hc1⟩
  have H9:=mh (HP1.o.drawn hs1 hc1)
  clear hs1 hc1 HP1
  have y3:w9.cell? (aD g 3)=some (sL a3 n3 c3):=by rw[<-HE3.o];exact(H9.o.f.at 2 rfl).c 3 rfl
  clear HDV HXO HG1 HS4 HS5 HE3
  generalize nv S4 4=d4 at *
  by_cases hd:d4=0
  ·by_cases hn:0<n3
   ·have HB:Z (bq=true):=by unfold Z;rw[HBQ.o];simp[hd,hn]
    have hi:(0:Int)<(n3:Int):=by omega
    clear HBQ
    subst hd
    go_wp2
    go_meet
    exact⟨by rw[HB.o],H9⟩
   ·have HB:Z (bq=false):=by unfold Z;rw[HBQ.o];simp[hn]
    have hi:¬(0:Int)<(n3:Int):=by omega
    clear HBQ
    subst hd
    go_wp2
    go_meet
    exact⟨by rw[HB.o],H9⟩
  ·have HB:Z (bq=false):=by unfold Z;rw[HBQ.o];simp[hd]
   have hd':(d4==0)=false:=by simp[hd]
   clear HBQ hd
   go_wp2
   go_meet
   exact⟨by rw[HB.o],H9⟩
 case rest=>
 clear HP1
 obtain⟨rfl,HP2⟩:=hcut
 go_upto_if 70 with fail
 go_cut [7,8,9] from 71 to 108 (λs7 s8 s9 wq=>Z (GP D b w wq (X.2) [(w.heap.size,n7,25),(gn,nc,60),(g,gx V,25)] V (X.1)))
 case first=>
  cases bq with
  |false=>
   have hx:X=(G1,ns S4 4):=by rw[HDV.o,if_neg (of_decide_eq_false HBQ.o.symm)]
   have HR:Z (GP D b w wc (X.2) [(w.heap.size,n7,25),(gn,nc,60),(g,gx V,25)] V (X.1)):=by rw[hx];exact HP2.o
   clear hx HP2 HDV HBQ
   go_wp2
   go_meet
   exact HR
  |true=>
   have hh:=of_decide_eq_true HBQ.o.symm
   have hx:=HDV.o
   rw[if_pos hh] at hx
   have HA0:=mh (Qv HS5.o (n3:Int))
   obtain⟨a,ha⟩:∃n:Nat,nv (ns S4 4) n3=(n:Int):=⟨(nv (ns S4 4) n3).toNat,by have:=HA0.o.1;omega⟩
   have ha3:a<n3:=by have:=HA0.o.2 (by omega);omega
   have HAE:=mh ha
   rw[ha,zU] at hx
   have HXE:=mh hx
   have HS6:=mh (Qf HS5.o n3)
   obtain⟨n0,hn0⟩:∃n,(G1 0).length=n:=⟨_,rfl⟩
   rw[hn0] at HXE
   have HN0:=mh hn0
   have hb0:n0<=50000:=by have h2:=HG1.o.s0;omega
   have ht:=HG1.o.tt a (by rw[HN3.o];exact ha3)
   obtain⟨tn,htn⟩:∃n:Nat,iat (G1 3) a=(n:Int):=⟨(iat (G1 3) a).toNat,by omega⟩
   have ht0:tn<n0:=by omega
   obtain⟨r0,k0,e0,-⟩:=HP2.o.r.op 0 HN0.o (by omega)
   obtain⟨r3,k3,e3,-⟩:=HP2.o.r.op 3 HN3.o (by omega)
   have HE0:=mh e0
   have HE3:=mh e3
   have HTN:=mh htn
   have HD3:Z (∀v,dv3 a G1 (ns (ns S4 4) n3) v=Gd (G1 0) (iat (G1 0) tn) a (G1 3,ns (ns S4 4) n3) v):=λv=>by unfold dv3;rw[HTN.o,zU]
   have HTO:Z (∀v,v<=n0->SOk (dv3 a G1 (ns (ns S4 4) n3) v).2/\(dv3 a G1 (ns (ns S4 4) n3) v).1.length=n3):=λv hv=>by
    have q:=Q1k (eo:=G1 0) (e:=iat (G1 0) tn) (a:=a) (x:=(G1 3,ns (ns S4 4) n3)) (n:=n0) HS6.o (λi hi=>by have h:=HG1.o.tt i hi;rw[HN0.o] at h;exact h) v hv
    rw[HD3.o,<-HN3.o]
    rw[<-HN3.o] at q
    exact⟨q.1,q.2.1⟩
   clear hh hx ha hn0 ht htn e0 e3 HA0 HDV HBQ
   have y3:wc.cell? (aD g 3)=some (sL (sA r3) n3 k3):=by rw[<-HE3.o];exact(HP2.o.f.at 2 rfl).c 3 rfl
   go_wp2_with fail
   refine(Q6 D b (ns S4 4) (n3) wc HP2.o.f.src HS5.o (by omega)).mono ?_
   rintro e w9 ⟨rfl,hs1,hc1⟩
   have H9:=mh (HP2.o.drawn hs1 hc1)
   clear hs1 hc1 HP2
   rw[HAE.o]
   clear y3
   have y3:w9.cell? (aD g 3)=some (sL (sA r3) n3 k3):=by rw[<-HE3.o];exact(H9.o.f.at 2 rfl).c 3 rfl
   have y0:w9.cell? (aD g 0)=some (sL (sA r0) n0 k0):=by rw[<-HE0.o];exact(H9.o.f.at 2 rfl).c 0 rfl
   have z3:w9.cell? (aD r3 a)=some (iV (tn:Int)):=by rw[<-HTN.o];exact(H9.o.cellU 3 HE3.o (by rw[HN3.o];exact ha3)).1
   have z0:=(H9.o.cellU 0 HE0.o (i:=tn) (by rw[HN0.o];exact ht0)).1
   have ha3':(a:Int)<n3:=by omega
   have ht0':(tn:Int)<n0:=by omega
   have HPS:Z (GP D b w w9 ((dv3 a G1 (ns (ns S4 4) n3) 0).2) [(w.heap.size,n7,25),(gn,nc,60),(g,gx V,25)] V (upd G1 3 (dv3 a G1 (ns (ns S4 4) n3) 0).1)):=by unfold Z;show GP D b w w9 (ns (ns S4 4) n3) [(w.heap.size,n7,25),(gn,nc,60),(g,gx V,25)] V (upd G1 3 (G1 3));rw[Q2y];exact H9.o
   clear H9 HAE
   obtain⟨ev,hev⟩:∃x,x=iat (G1 0) tn:=⟨_,rfl⟩
   have HEV:=mh hev
   rw[<-hev] at z0
   rw[<-HEV.o] at HD3
   clear hev HTN
   have HYS:Z (∀v:Nat,dv3 a G1 (ns (ns S4 4) n3) (v+1)=if iat (G1 0) v=ev then (if nv (dv3 a G1 (ns (ns S4 4) n3) v).2 2=0 then (dv3 a G1 (ns (ns S4 4) n3) v).1.set a (v:Int) else (dv3 a G1 (ns (ns S4 4) n3) v).1,ns (dv3 a G1 (ns (ns S4 4) n3) v).2 2) else dv3 a G1 (ns (ns S4 4) n3) v):=λv=>by rw[HD3.o,HD3.o,Gd]
   clear HD3 HEV HS6 HS5 HS4 HXO
   generalize dv3 a G1 (ns (ns S4 4) n3)=Y at *
   go_upto_region 20 with fail
   go_region
   have HPD:=mh (HPS.o.next (show Nx w9 w9.drew from(Below.refl _ _).drew))
   clear HPS y0 y3 z0 z3
   generalize w9.drew=w10 at *
   go_wp2
   go_loopw [9] (λs9 wr=>∃v:Nat,v<=n0/\s9=iV v/\Z (GP D b w wr ((Y v).2) [(w.heap.size,n7,25),(gn,nc,60),(g,gx V,25)] V (upd G1 3 (Y v).1))) (λs9 _=>n0-(intOf s9).toNat)
   case atStart=>exact⟨0,nZ,rfl,HPD⟩
   clear HPD
   obtain⟨v,hv,rfl,HL⟩:=hrel
   have y0:wr.cell? (aD g 0)=some (sL (sA r0) n0 k0):=by rw[<-HE0.o];exact(HL.o.f.at 2 rfl).c 0 rfl
   by_cases hlt:v<n0
   ·have hlt':(v:Int)<n0:=by omega
    have HLI:=mh (HTO.o v hv)
    have HLY:=mh (HYS.o v)
    have z0:wr.cell? (aD r0 v)=some (iV (iat (G1 0) v)):=(HL.o.cellU 0 HE0.o (i:=v) (show v<(G1 0).length by rw[HN0.o];exact hlt)).1
    generalize iat (G1 0) v=ew at *
    by_cases he:ew=ev
    ·rw[if_pos he] at HLY
     have he':(ew==ev)=true:=by simp[he]
     subst he
     go_wp2_with fail
     refine(Q6 D b _ 2 wr HL.o.f.src HLI.o.1 (by omega)).mono ?_
     rintro e w9 ⟨rfl,hs1,hc1⟩
     have H9:=mh (HL.o.drawn hs1 hc1)
     clear hs1 hc1 HL y0 z0
     have y3:w9.cell? (aD g 3)=some (sL (sA r3) n3 k3):=by rw[<-HE3.o];exact(H9.o.f.at 2 rfl).c 3 rfl
     obtain⟨cz,fz⟩:=H9.o.cellU 3 HE3.o (i:=a) (show a<(Y v).1.length by rw[HLI.o.2];exact ha3)
     generalize nv (Y v).2 2=dz at *
     by_cases hd:dz=0
     ·have HR:Z (GP D b w (w9.setCell (aD r3 a) (iV (v:Int))) ((Y (v+1)).2) [(w.heap.size,n7,25),(gn,nc,60),(g,gx V,25)] V (upd G1 3 (Y (v+1)).1)):=by
       unfold Z
       rw[HLY.o,if_pos hd]
       exact H9.o.putU 3 HE3.o (by rw[HLI.o.2];exact ha3) _
      subst hd
      clear H9 HLI HLY
      go_wp2
      go_roundw
      case rel=>exact⟨v+1,by omega,by go_num,HR⟩
      case measure=>simp[intOf];omega
     ·have HR:Z (GP D b w w9 ((Y (v+1)).2) [(w.heap.size,n7,25),(gn,nc,60),(g,gx V,25)] V (upd G1 3 (Y (v+1)).1)):=by
       unfold Z
       rw[HLY.o,if_neg hd]
       exact H9.o
      have hd':(dz==0)=false:=by simp[hd]
      clear H9 HLI HLY hd
      go_wp2
      go_roundw
      case rel=>exact⟨v+1,by omega,by go_num,HR⟩
      case measure=>simp[intOf];omega
    ·rw[if_neg he] at HLY
     have he':(ew==ev)=false:=by simp[he]
     have HR:Z (GP D b w wr ((Y (v+1)).2) [(w.heap.size,n7,25),(gn,nc,60),(g,gx V,25)] V (upd G1 3 (Y (v+1)).1)):=by rw[HLY.o];exact HL.o
     clear HL HLI HLY he
     go_wp2
     go_roundw
     case rel=>exact⟨v+1,by omega,by go_num,HR⟩
     case measure=>simp[intOf];omega
   have ei:v=n0:=by omega
   subst ei
   have hlt':¬(v:Int)<v:=by omega
   have HR:Z (GP D b w wr (X.2) [(w.heap.size,n7,25),(gn,nc,60),(g,gx V,25)] V (X.1)):=by rw[HXE.o];exact HL.o
   clear HL HXE
   go_wp2
   go_meet
   exact HR
 case rest=>
 clear HP2
 have HP3:=mh hcut.o
 clear hcut HDV HBQ HG1 HS4 HS5 HN3 hb3
 obtain⟨a0,c0,e0⟩:=(HP3.o.r.o 0).slice
 generalize (X.1 0).length=m0 at e0
 have y0:wc.cell? (aD g 0)=some (sL a0 m0 c0):=by rw[<-e0];exact(HP3.o.f.at 2 rfl).c 0 rfl
 obtain⟨a1,c1,e1⟩:=(HP3.o.r.o 1).slice
 generalize (X.1 1).length=m1 at e1
 have y1:wc.cell? (aD g 1)=some (sL a1 m1 c1):=by rw[<-e1];exact(HP3.o.f.at 2 rfl).c 1 rfl
 obtain⟨a2,c2,e2⟩:=(HP3.o.r.o 2).slice
 generalize (X.1 2).length=m2 at e2
 have y2:wc.cell? (aD g 2)=some (sL a2 m2 c2):=by rw[<-e2];exact(HP3.o.f.at 2 rfl).c 2 rfl
 obtain⟨a3,c3,e3⟩:=(HP3.o.r.o 3).slice
 generalize (X.1 3).length=m3 at e3
 have y3:wc.cell? (aD g 3)=some (sL a3 m3 c3):=by rw[<-e3];exact(HP3.o.f.at 2 rfl).c 3 rfl
 obtain⟨a4,c4,e4⟩:=(HP3.o.r.o 4).slice
 generalize (X.1 4).length=m4 at e4
 have y4:wc.cell? (aD g 4)=some (sL a4 m4 c4):=by rw[<-e4];exact(HP3.o.f.at 2 rfl).c 4 rfl
 obtain⟨a5,c5,e5⟩:=(HP3.o.r.o 5).slice
 generalize (X.1 5).length=m5 at e5
 have y5:wc.cell? (aD g 5)=some (sL a5 m5 c5):=by rw[<-e5];exact(HP3.o.f.at 2 rfl).c 5 rfl
 obtain⟨a6,c6,e6⟩:=(HP3.o.r.o 6).slice
 generalize (X.1 6).length=m6 at e6
 have y6:wc.cell? (aD g 6)=some (sL a6 m6 c6):=by rw[<-e6];exact(HP3.o.f.at 2 rfl).c 6 rfl
 have HGX:Z (#[sL a0 m0 c0,sL a1 m1 c1,sL a2 m2 c2,sL a3 m3 c3,sL a4 m4 c4,sL a5 m5 c5,sL a6 m6 c6]=gx V):=by unfold Z;rw[gx,e0,e1,e2,e3,e4,e5,e6]
 have BR:BT wc w.heap.size n7 25:=HP3.o.f.at 0 rfl
 clear e0 e1 e2 e3 e4 e5 e6
 go_upto_region 26 with fail
 go_wp2_with (refine Vo rfl _ _ rfl rfl rfl BR rfl rfl rfl ?_)
 intro w9 hb9 hc9
 have H9:=mh (HP3.o.turn 0 rfl hc9 hb9)
 clear BR HP3 hc9 y0 y1 y2 y3 y4 y5 y6
 go_wp2
 refine Q0h rfl rfl hb9 ?_
 rw[HGX.o]
 exact⟨⟨V,rfl,H9.o.r,H9.o.f.src,H9.o.f.chg⟩,HXO.o⟩
structure GJ (G:Nat->List Int):Prop where
 l1:(G 1).length=(G 0).length
 l2:(G 0).length<(G 2).length
 l4:(G 4).length=(G 3).length
 l6:(G 5).length<=(G 6).length
 ne:0<(G 0).length->0<(G 5).length
 s0:(G 0).length<=50000
 s2:(G 2).length<=50003
 s3:(G 3).length<=40000
 s6:(G 6).length<=4002
abbrev GSr:=(Nat->List Int)×Src
def OkX (X:GSr):Prop:=GJ X.1/\SOk X.2
def Sml (G:Nat->List Int):Prop:=∀k,k<7->(G k).length<=60000
theorem GJ.ln {G':Nat->List Int}(h:GJ G)(e:∀j,(G' j).length=(G j).length):GJ G':=⟨by rw[e,e];exact h.l1,by rw[e,e];exact h.l2,by rw[e,e];exact h.l4,by rw[e,e];exact h.l6,by rw[e,e];exact h.ne,by rw[e];exact h.s0,by rw[e];exact h.s2,by rw[e];exact h.s3,by rw[e];exact h.s6⟩
theorem GJ.sml (h:GJ G):Sml G:=λk hk=>by
 obtain⟨h1,h2,h4,h6,-,s0,s2,s3,s6⟩:=h
 have:k=0\/k=1\/k=2\/k=3\/k=4\/k=5\/k=6:=by omega
 rcases this with rfl|rfl|rfl|rfl|rfl|rfl|rfl<;>omega
theorem Q1i (h:l.length=(G r).length)(j:Nat):(upd G r l j).length=(G j).length:=by
 by_cases e:j=r
 ·subst e;rw[Vp];exact h
 ·rw[Jq _ _ e]
def ar (c:Bool)(r ix:Nat)(val:Int)(S:Src)(X:GSr):GSr:=if c=true then (upd X.1 r ((X.1 r).set ix val),S) else X
theorem To {val:Int}{X:GSr}(h:OkX X)(hS:SOk S):OkX (ar c r ix val S X):=by
 unfold ar
 split
 ·exact⟨h.1.ln (Q1i (List.length_set ..)),hS⟩
 ·exact h
def g3 (k:Int)(i:Nat)(X:GSr):GSr:=ar (k==3) 0 i (wrap64 (iat (X.1 0) i+1)) X.2 X
def g4 (k:Int)(i:Nat)(X:GSr):GSr:=ar (k==4) 1 i (nv X.2 2*2001-1) (ns X.2 2) X
def g5 (k:Int)(e v:Nat)(X:GSr):GSr:=ar (k==5) 5 e ((wrap64 (iat (X.1 5) e+1)).tmod v) X.2 X
def g6 (k:Int)(e:Nat)(X:GSr):GSr:=ar (k==6) 6 e (1048576+nv X.2 2) (ns X.2 2) X
def g7 (k:Int)(i:Nat)(X:GSr):GSr:=ar (k==7) 2 i (wrap64 (iat (X.1 2) i+1)) X.2 X
def g8 (k:Int)(v:Nat)(X:GSr):GSr:=ar (k==8) 2 v (wrap64 (iat (X.1 2) v-1)) X.2 X
def g9 (k:Int)(e:Nat)(X:GSr):GSr:=ar (k==9) 6 e (-1) X.2 X
def g10 (k:Int)(e v:Nat)(X:GSr):GSr:=ar (k==10) 5 e v X.2 X
def gA (k:Int)(i e v:Nat)(X:GSr):GSr:=g10 k e v (g9 k e (g8 k v (g7 k i (g6 k e (g5 k e v (g4 k i (g3 k i X)))))))
def g11 (k:Int)(a v:Nat)(X:GSr):GSr:=ar (k==11) 3 a (nv X.2 2*(v+1)-1) (ns X.2 2) X
def g12 (k:Int)(a:Nat)(X:GSr):GSr:=ar (k==12) 4 a (3145728+nv X.2 2) (ns X.2 2) X
def g13 (k:Int)(a:Nat)(X:GSr):GSr:=ar (k==13) 4 a (-1) X.2 X
def g14 (k:Int)(X:GSr):GSr:=if (k==14)=true then (upd X.1 4 ((X.1 4).take ((X.1 4).length-1)),X.2) else X
def g15 (k:Int)(a:Nat)(X:GSr):GSr:=if (k==15)=true then (upd X.1 3 (((X.1 3).set a (iat (X.1 3) (nv X.2 (X.1 3).length).toNat)).set (nv X.2 (X.1 3).length).toNat (iat (X.1 3) a)),ns X.2 (X.1 3).length) else X
def gB (k:Int)(v:Nat)(X:GSr):GSr:=if (X.1 3).length=0 then X else g15 k (nv X.2 (X.1 3).length).toNat (g14 k (g13 k (nv X.2 (X.1 3).length).toNat (g12 k (nv X.2 (X.1 3).length).toNat (g11 k (nv X.2 (X.1 3).length).toNat v (X.1,ns X.2 (X.1 3).length)))))
def g1 (k:Int)(X:GSr):GSr:=if (k==1)=true then (upd X.1 2 (X.1 2++[((X.1 3).length:Int)]),X.2) else X
def g2 (k:Int)(X:GSr):GSr:=if (k==2)=true then (upd X.1 6 (X.1 6++[0]),X.2) else X
def gC (k:Int)(X:GSr):GSr:=if (X.1 0).length=0 then X else gB k (X.1 0).length (gA k (nv X.2 (X.1 0).length).toNat (nv (ns X.2 (X.1 0).length) (X.1 5).length).toNat (X.1 0).length (X.1,ns (ns X.2 (X.1 0).length) (X.1 5).length))
def dgX (X:GSr):GSr:=if nv X.2 5=0 then (if nv (ns X.2 5) 16=0 then (λ_=>[],ns (ns X.2 5) 16) else gC (nv (ns X.2 5) 16) (g2 (nv (ns X.2 5) 16) (g1 (nv (ns X.2 5) 16) (X.1,ns (ns X.2 5) 16)))) else (X.1,ns X.2 5)
theorem GIn.j (h:GIn G):GJ G:=⟨h.l1,h.l2,h.l4,h.l6,h.ne,h.s0,Nat.le_succ_of_le h.s2,h.s3,Nat.le_succ_of_le h.s6⟩
theorem Qbu (h:GIn G)(hS:SOk S)(k:Int):OkX (g2 k (g1 k (G,S))):=by
 unfold g2 g1
 by_cases e1:(k==1)=true
 ·have e2:¬(k==2)=true:=by simp at e1 ⊢;omega
  rw[if_pos e1,if_neg e2]
  obtain⟨h1,h2,h4,h6,_,ne,s0,s2,s3,s6⟩:=h
  exact⟨⟨h1,by show(G 0).length<(G 2++[_]).length;simp;omega,h4,h6,ne,s0,by show(G 2++[_]).length<=_;simp;omega,s3,Nat.le_succ_of_le s6⟩,hS⟩
 ·rw[if_neg e1]
  by_cases e2:(k==2)=true
  ·rw[if_pos e2]
   obtain⟨h1,h2,h4,h6,_,ne,s0,s2,s3,s6⟩:=h
   exact⟨⟨h1,h2,h4,by show(G 5).length<=(G 6++[_]).length;simp;omega,ne,s0,Nat.le_succ_of_le s2,s3,by show(G 6++[_]).length<=_;simp;omega⟩,hS⟩
  ·rw[if_neg e2]
   exact⟨h.j,hS⟩
theorem gA_ok {i e:Nat}{X:GSr}(h:OkX X):OkX (gA k i e v X):=by
 have h3:OkX (g3 k i X):=To h h.2
 have h4:OkX (g4 k i (g3 k i X)):=To h3 (Qf h3.2 2)
 have h5:OkX (g5 k e v (g4 k i (g3 k i X))):=To h4 h4.2
 have h6:OkX (g6 k e (g5 k e v (g4 k i (g3 k i X)))):=To h5 (Qf h5.2 2)
 have h7:OkX (g7 k i (g6 k e (g5 k e v (g4 k i (g3 k i X))))):=To h6 h6.2
 have h8:OkX (g8 k v (g7 k i (g6 k e (g5 k e v (g4 k i (g3 k i X)))))):=To h7 h7.2
 have h9:OkX (g9 k e (g8 k v (g7 k i (g6 k e (g5 k e v (g4 k i (g3 k i X))))))):=To h8 h8.2
 exact To h9 h9.2
theorem gB_ok {X:GSr}(h:OkX X):Sml (gB k v X).1/\SOk (gB k v X).2:=by
 unfold gB
 split
 ·exact⟨h.1.sml,h.2⟩
 ·have h0:OkX (X.1,ns X.2 (X.1 3).length):=⟨h.1,Qf h.2 _⟩
  generalize (X.1,ns X.2 (X.1 3).length)=Y at h0 ⊢
  generalize (nv X.2 (X.1 3).length).toNat=a
  have h1:OkX (g11 k a v Y):=To h0 (Qf h0.2 2)
  generalize g11 k a v Y=Y1 at h1 ⊢
  have h2:OkX (g12 k a Y1):=To h1 (Qf h1.2 2)
  generalize g12 k a Y1=Y2 at h2 ⊢
  have h3:OkX (g13 k a Y2):=To h2 h2.2
  generalize g13 k a Y2=Y3 at h3 ⊢
  have h4:Sml (g14 k Y3).1/\SOk (g14 k Y3).2:=by
   unfold g14
   split
   ·refine⟨λj hj=>?_,h3.2⟩
    have q:=h3.1.sml j hj
    by_cases e:j=4
    ·subst e
     show((Y3.1 4).take _).length<=_
     rw[zX]
     omega
    ·show(upd Y3.1 4 _ j).length<=_
     rw[Jq _ _ e]
     exact q
   ·exact⟨h3.1.sml,h3.2⟩
  generalize g14 k Y3=Y4 at h4 ⊢
  unfold g15
  split
  ·refine⟨λj hj=>?_,Qf h4.2 _⟩
   rw[Q1i (by rw[List.length_set,List.length_set])]
   exact h4.1 j hj
  ·exact h4
theorem gC_ok {X:GSr}(h:OkX X):Sml (gC k X).1/\SOk (gC k X).2:=by
 unfold gC
 split
 ·exact⟨h.1.sml,h.2⟩
 ·exact gB_ok (gA_ok ⟨h.1,Qf (Qf h.2 _) _⟩)
theorem dg_ok {X:GSr}(h:GIn X.1)(hS:SOk X.2):Sml (dgX X).1/\SOk (dgX X).2:=by
 unfold dgX
 split
 ·split
  ·exact⟨λj hj=>nZ,Qf (Qf hS 5) 16⟩
  ·exact gC_ok (Qbu h (Qf (Qf hS 5) 16) _)
 ·exact⟨h.j.sml,Qf hS 5⟩
structure OkL (v n5 n3:Nat)(X:GSr):Prop where
 ok:OkX X
 l0:(X.1 0).length=v
 l5:(X.1 5).length=n5
 l3:(X.1 3).length=n3
theorem Um {n5 n3:Nat}{val:Int}{X:GSr}(h:OkL v n5 n3 X)(hS:SOk S):OkL v n5 n3 (ar c r ix val S X):=by
 have e:∀j,((ar c r ix val S X).1 j).length=(X.1 j).length:=λj=>by
  unfold ar
  split
  ·exact Q1i (List.length_set ..) j
  ·rfl
 exact⟨To h.ok hS,(e 0).trans h.l0,(e 5).trans h.l5,(e 3).trans h.l3⟩
def GX (D b g:Nat)(w0 w:World)(X:GSr):Prop:=∃V,GP D b w0 w X.2 [(w0.heap.size,n7,25),(g,gx V,25)] V X.1
theorem GX.yes {q n c:Nat}{w0:World}{X:GSr}{V:Nat->Value}(h:GP D b w0 w S [(w0.heap.size,n7,25),(g,gx V,25)] V X.1)(r:Nat)(e:V r=sL (sA q) n c)(hi:ix<(X.1 r).length){cc:Bool}(hc:cc=true)(val:Int):GX D b g w0 (w.setCell (aD q ix) (iV val)) (ar cc r ix val S X):=by subst hc;exact⟨V,h.put r e hi val⟩
theorem GX.no {w0:World}{X:GSr}(h:GX D b g w0 w X)(hc:c=false)(r ix:Nat)(val:Int)(S:Src):GX D b g w0 w (ar c r ix val S X):=by subst hc;exact h
theorem Pp {R:Ending->World->Prop}(h2:a.tmps[2]?.getD undef=pT b)(hd:a.defers=[])(hb:BT w b #[x0,x1,x2,x3,x4,x5,x6] t)(hR:R (.returned (.agg #[x0,x1,x2,x3,x4,x5,x6])) w):bodyPost prog Tryz.f12 R .ret a w:=by
 have p0:=hb.c 0 rfl
 have p1:=hb.c 1 rfl
 have p2:=hb.c 2 rfl
 have p3:=hb.c 3 rfl
 have p4:=hb.c 4 rfl
 have p5:=hb.c 5 rfl
 have p6:=hb.c 6 rfl
 exact bodyPost_ret (by simp[results,results12,h2,go_sem,p0,p1,p2,p3,p4,p5,p6]) hd hR
def VG2 (D b:Nat)(w w':World)(X:GSr)(e:Ending):Prop:=GE D b w w' X.1 X.2 e/\Sml X.1/\SOk X.2
theorem Fr (D b:Nat)(F:Nt->Nat->List Int)(hF:GcF F)(S:Src)(w:World)(hS:Jj D w b S)(hok:SOk S) :
  Calls prog 12 #[pT b] w λe w'=>VG2 D b w w' (dgX (dvX F S)) e:=by
 have hmx:prog.follows .mixedOrders=true:=by kernel_rfl
 have HOK:Z (SOk S):=hok
 have HGF:Z (GcF F):=hF
 have HF0:Z (FR D b w (w.alloc (.cells n7 25)) S [(w.heap.size,n7,25)]):=(FR.start hS).alloc n7 25 (by decide)
 obtain⟨ZZ,hZ⟩:∃ZZ,ZZ=dgX (dvX F S):=⟨_,rfl⟩
 rw[<-hZ]
 have HZ:=mh hZ
 clear hS hok hF hZ
 go_enter func12,ntmps12
 go_upto_region 1 with fail
 generalize hwA:w.alloc (.cells n7 25)=wA at *
 have hwA':w.alloc (.cells #[sN,sN,sN,sN,sN,sN,sN] 25)=wA:=hwA
 rw[hwA']
 clear hwA hwA'
 go_wp2_with fail
 refine(Fq D b F HGF.o S wA HF0.o.src HOK.o).mono ?_
 rintro e w1 ⟨⟨V,rfl,hR,hs1,hc1⟩,hGI,hOK1⟩
 have HDO:Z (Sml ZZ.1/\SOk ZZ.2):=by rw[HZ.o];exact dg_ok hGI hOK1
 have HGI:=mh hGI
 have HO1:=mh hOK1
 have HF1:=mh (HF0.o.drawn hs1 hc1)
 have HR7:Z (R7 w.heap.size w1 V (dvX F S).1):=⟨λj=>Jb (hR.o j) HF0.o.chg.size,hR.ap⟩
 clear hR hs1 hc1 hGI hOK1 HF0 HGF HOK
 generalize dvX F S=X0 at *
 obtain⟨a0,c0,e0⟩:=(HR7.o.o 0).slice
 generalize (X0.1 0).length=m0 at e0
 obtain⟨a1,c1,e1⟩:=(HR7.o.o 1).slice
 generalize (X0.1 1).length=m1 at e1
 obtain⟨a2,c2,e2⟩:=(HR7.o.o 2).slice
 generalize (X0.1 2).length=m2 at e2
 obtain⟨a3,c3,e3⟩:=(HR7.o.o 3).slice
 generalize (X0.1 3).length=m3 at e3
 obtain⟨a4,c4,e4⟩:=(HR7.o.o 4).slice
 generalize (X0.1 4).length=m4 at e4
 obtain⟨a5,c5,e5⟩:=(HR7.o.o 5).slice
 generalize (X0.1 5).length=m5 at e5
 obtain⟨a6,c6,e6⟩:=(HR7.o.o 6).slice
 generalize (X0.1 6).length=m6 at e6
 have HGX:Z (#[sL a0 m0 c0,sL a1 m1 c1,sL a2 m2 c2,sL a3 m3 c3,sL a4 m4 c4,sL a5 m5 c5,sL a6 m6 c6]=gx V):=by unfold Z;rw[gx,e0,e1,e2,e3,e4,e5,e6]
 rw[gx,e0,e1,e2,e3,e4,e5,e6]
 clear e0 e1 e2 e3 e4 e5 e6
 have HP:Z (GP D b w (w1.alloc (.cells #[sL a0 m0 c0,sL a1 m1 c1,sL a2 m2 c2,sL a3 m3 c3,sL a4 m4 c4,sL a5 m5 c5,sL a6 m6 c6] 25)) X0.2 [(w.heap.size,n7,25),(w1.heap.size,gx V,25)] V X0.1):=by
  unfold Z
  rw[HGX.o]
  exact⟨HF1.o.alloc (gx V) 25 (by decide),⟨λj=>(HR7.o.o j).next (Qe _ _),HR7.o.ap⟩⟩
 clear HF1 HR7 HGX
 go_upto_region 2 with fail
 generalize w1.alloc (.cells #[sL a0 m0 c0,sL a1 m1 c1,sL a2 m2 c2,sL a3 m3 c3,sL a4 m4 c4,sL a5 m5 c5,sL a6 m6 c6] 25)=w2 at *
 generalize w1.heap.size=g at *
 go_wp2_with fail
 refine(Q6 D b X0.2 (5) w2 HP.o.f.src HO1.o (by omega)).mono ?_
 rintro e w3 ⟨rfl,hs1,hc1⟩
 have HP3:=mh (HP.o.drawn hs1 hc1)
 clear hs1 hc1 HP
 have HZD:Z (ZZ=if nv X0.2 5=0 then (if nv (ns X0.2 5) 16=0 then (λ_=>[],ns (ns X0.2 5) 16) else gC (nv (ns X0.2 5) 16) (g2 (nv (ns X0.2 5) 16) (g1 (nv (ns X0.2 5) 16) (X0.1,ns (ns X0.2 5) 16)))) else (X0.1,ns X0.2 5)):=HZ.o
 have HO2:=mh (Qf HO1.o 5)
 generalize nv X0.2 5=d5 at *
 clear HZ HO1
 by_cases hd5:d5=0
 case neg=>
  rw[if_neg hd5] at HZD
  have hd':(d5 !=0)=true:=by simp[hd5]
  have HX3:Z (GP D b w w3 (ZZ.2) [(w.heap.size,n7,25),(g,gx V,25)] V (ZZ.1)):=by rw[HZD.o];exact HP3.o
  clear HP3 HZD HO2 hd5
  obtain⟨a0,c0,e0⟩:=(HX3.o.r.o 0).slice
  generalize (ZZ.1 0).length=m0 at e0
  have y0:w3.cell? (aD g 0)=some (sL a0 m0 c0):=by rw[<-e0];exact(HX3.o.f.at 1 rfl).c 0 rfl
  obtain⟨a1,c1,e1⟩:=(HX3.o.r.o 1).slice
  generalize (ZZ.1 1).length=m1 at e1
  have y1:w3.cell? (aD g 1)=some (sL a1 m1 c1):=by rw[<-e1];exact(HX3.o.f.at 1 rfl).c 1 rfl
  obtain⟨a2,c2,e2⟩:=(HX3.o.r.o 2).slice
  generalize (ZZ.1 2).length=m2 at e2
  have y2:w3.cell? (aD g 2)=some (sL a2 m2 c2):=by rw[<-e2];exact(HX3.o.f.at 1 rfl).c 2 rfl
  obtain⟨a3,c3,e3⟩:=(HX3.o.r.o 3).slice
  generalize (ZZ.1 3).length=m3 at e3
  have y3:w3.cell? (aD g 3)=some (sL a3 m3 c3):=by rw[<-e3];exact(HX3.o.f.at 1 rfl).c 3 rfl
  obtain⟨a4,c4,e4⟩:=(HX3.o.r.o 4).slice
  generalize (ZZ.1 4).length=m4 at e4
  have y4:w3.cell? (aD g 4)=some (sL a4 m4 c4):=by rw[<-e4];exact(HX3.o.f.at 1 rfl).c 4 rfl
  obtain⟨a5,c5,e5⟩:=(HX3.o.r.o 5).slice
  generalize (ZZ.1 5).length=m5 at e5
  have y5:w3.cell? (aD g 5)=some (sL a5 m5 c5):=by rw[<-e5];exact(HX3.o.f.at 1 rfl).c 5 rfl
  obtain⟨a6,c6,e6⟩:=(HX3.o.r.o 6).slice
  generalize (ZZ.1 6).length=m6 at e6
  have y6:w3.cell? (aD g 6)=some (sL a6 m6 c6):=by rw[<-e6];exact(HX3.o.f.at 1 rfl).c 6 rfl
  have HGX:Z (#[sL a0 m0 c0,sL a1 m1 c1,sL a2 m2 c2,sL a3 m3 c3,sL a4 m4 c4,sL a5 m5 c5,sL a6 m6 c6]=gx V):=by unfold Z;rw[gx,e0,e1,e2,e3,e4,e5,e6]
  have BR:BT w3 w.heap.size n7 25:=HX3.o.f.at 0 rfl
  clear e0 e1 e2 e3 e4 e5 e6
  go_upto_region 3 with fail
  go_wp2_with (refine Vo rfl _ _ rfl rfl rfl BR rfl rfl rfl ?_)
  intro w9 hb9 hc9
  have H9:=mh (HX3.o.turn 0 rfl hc9 hb9)
  clear BR HX3 hc9 y0 y1 y2 y3 y4 y5 y6
  go_wp2
  refine Pp rfl rfl hb9 ?_
  rw[HGX.o]
  exact⟨⟨V,rfl,H9.o.r,H9.o.f.src,H9.o.f.chg⟩,HDO.o⟩
 case pos=>
 rw[if_pos hd5] at HZD
 subst hd5
 go_wp2_with fail
 refine(Q6 D b (ns X0.2 5) (16) w3 HP3.o.f.src HO2.o (by omega)).mono ?_
 rintro e w4 ⟨rfl,hs1,hc1⟩
 have HP4:=mh (HP3.o.drawn hs1 hc1)
 clear hs1 hc1 HP3
 have HK0:=mh (Qv HO2.o 16)
 have HO3:=mh (Qf HO2.o 16)
 generalize nv (ns X0.2 5) 16=k at *
 generalize ns (ns X0.2 5) 16=S3 at *
 obtain⟨a0,c0,e0⟩:=(HP4.o.r.o 0).slice
 obtain⟨v,hv⟩:∃n,(X0.1 0).length=n:=⟨_,rfl⟩
 rw[hv] at e0
 have HV:=mh hv
 have y0:w4.cell? (aD g 0)=some (sL a0 v c0):=by rw[<-e0];exact(HP4.o.f.at 1 rfl).c 0 rfl
 have hvb:v<=50000:=by have:=HGI.o.s0;omega
 go_upto_region 6 with fail
 clear e0 y0 hv
 by_cases hk0:k=0
 ·rw[if_pos hk0] at HZD
  subst hk0
  have BR:BT w4 w.heap.size n7 25:=HP4.o.f.at 0 rfl
  have HF4:=mh HP4.o.f
  go_upto_region 7 with fail
  go_wp2_with (refine Vo rfl _ _ rfl rfl rfl BR rfl rfl rfl ?_)
  intro w9 hb9 hc9
  have H9:=mh (HF4.o.turn 0 rfl hc9 hb9)
  clear BR HF4 HP4 hc9
  go_wp2
  refine Pp rfl rfl hb9 ?_
  refine⟨⟨λ_=>sN,rfl,?_,?_,H9.o.chg⟩,HDO.o⟩
  ·rw[HZD.o]
   exact⟨λ_=>⟨rfl,oL ⟨rfl,rfl⟩⟩,λj k g _ hj=>by simp[Value.ownBlock] at hj⟩
  ·rw[HZD.o]
   exact H9.o.src
 have hk0':(k==0)=false:=by simp[hk0]
 rw[if_neg hk0] at HZD
 have HX:Z (GX D b g w (w4) ((X0.1,S3))):=⟨V,HP4.o⟩
 have HGK:=mh (Qbu HGI.o HO3.o k)
 have hs3:=HGI.o.s3
 have hs2:=HGI.o.s2
 have hs6:=HGI.o.s6
 clear HP4 HGI HO2 V
 go_upto_if 26 with fail
 go_cut [] from 25 to 34 (λwq=>Z (GX D b g w (wq) (g1 k (X0.1,S3))))
 case first=>
  by_cases hk:k=1
  ·subst hk
   go_upto_region 9 with fail
   obtain⟨V,hP⟩:=HX.o
   obtain⟨n2,hn2⟩:∃n,(X0.1 2).length=n:=⟨_,rfl⟩
   obtain⟨a2,c2,e2⟩:=(hP.r.o 2).slice
   replace e2:V 2=sL a2 (X0.1 2).length c2:=e2
   rw[hn2] at e2
   have hO:Q5 w.heap.size w4 (sL a2 n2 c2) (X0.1 2):=by rw[<-e2];exact hP.r.o 2
   have yb:w4.cell? (aD g 2)=some (sL a2 n2 c2):=by rw[<-e2];exact(hP.f.at 1 rfl).c 2 rfl
   obtain⟨a3,d3,f3⟩:=(hP.r.o 3).slice
   replace f3:V 3=sL a3 (X0.1 3).length d3:=f3
   have y3:w4.cell? (aD g 3)=some (sL a3 (X0.1 3).length d3):=by rw[<-f3];exact(hP.f.at 1 rfl).c 3 rfl
   clear f3
   have hz:=hP.f.chg.size
   have hnb:n2<=1000000:=by omega
   have HP:=mh hP
   have HE:=mh e2
   clear hP e2 HX
   go_wp2_with (at_builtin;refine Yy rfl (.tmp 28) (.tmp 32) rfl w.heap.size n2 (sL a2 n2 c2) (X0.1 2) (((X0.1 3).length:Int)) w4 (by simp[Act.eval]) hO (by simp[Act.eval]) hn2 hnb hz ?_)
   intro a8 c8 w8 r1 r2 r3
   have H8:=HP.o.app 2 r1 (by rw[HE.o];exact r2) (by rw[HE.o];exact r3)
   have x2:=(H8.f.at 1 rfl).c 2 rfl
   have fz2:=(H8.f.at 1 rfl).blk.frozen 2
   have HR:Z (GX D b g w (w8.setCell (aD g 2) (sL a8 (n2+1) c8)) (g1 1 (X0.1,S3))):=⟨_,H8.turn 1 rfl (Chg.set _ _ _ rfl) ((H8.f.at 1 rfl).set 2 (sL a8 (n2+1) c8))⟩
   clear r1 r2 r3 H8 HP HE hO
   go_wp2
   go_meet
   exact HR
  ·skip
   have hkb:¬(k==1)=true:=by simp[hk]
   have HR:Z (GX D b g w (w4) (g1 k (X0.1,S3))):=by unfold Z g1;rw[if_neg hkb];exact HX.o
   have hkb':(k==1)=false:=by simp[hk]
   clear HX hk
   go_wp2
   go_meet
   exact HR
 case rest=>
 have HX1:=mh hcut.o
 clear HX hcut
 have HX:=HX1
 clear HX1
 go_upto_if 36 with fail
 go_cut [] from 35 to 41 (λwq=>Z (GX D b g w (wq) (g2 k (g1 k (X0.1,S3)))))
 case first=>
  by_cases hk:k=2
  ·subst hk
   go_upto_region 11 with fail
   obtain⟨V,hP⟩:=HX.o
   obtain⟨n6,hn6⟩:∃n,(X0.1 6).length=n:=⟨_,rfl⟩
   obtain⟨a6,c6,e6⟩:=(hP.r.o 6).slice
   replace e6:V 6=sL a6 (X0.1 6).length c6:=e6
   rw[hn6] at e6
   have hO:Q5 w.heap.size wc (sL a6 n6 c6) (X0.1 6):=by rw[<-e6];exact hP.r.o 6
   have yb:wc.cell? (aD g 6)=some (sL a6 n6 c6):=by rw[<-e6];exact(hP.f.at 1 rfl).c 6 rfl
   have hz:=hP.f.chg.size
   have hnb:n6<=1000000:=by omega
   have HP:=mh hP
   have HE:=mh e6
   clear hP e6 HX
   go_wp2_with (at_builtin;refine Yy rfl (.tmp 38) (.tmp 39) rfl w.heap.size n6 (sL a6 n6 c6) (X0.1 6) (0) wc (by simp[Act.eval]) hO (by simp[Act.eval]) hn6 hnb hz ?_)
   intro a8 c8 w8 r1 r2 r3
   have H8:=HP.o.app 6 r1 (by rw[HE.o];exact r2) (by rw[HE.o];exact r3)
   have x2:=(H8.f.at 1 rfl).c 6 rfl
   have fz2:=(H8.f.at 1 rfl).blk.frozen 6
   have HR:Z (GX D b g w (w8.setCell (aD g 6) (sL a8 (n6+1) c8)) (g2 2 (g1 2 (X0.1,S3)))):=⟨_,H8.turn 1 rfl (Chg.set _ _ _ rfl) ((H8.f.at 1 rfl).set 6 (sL a8 (n6+1) c8))⟩
   clear r1 r2 r3 H8 HP HE hO
   go_wp2
   go_meet
   exact HR
  ·skip
   have hkb:¬(k==2)=true:=by simp[hk]
   have HR:Z (GX D b g w (wc) (g2 k (g1 k (X0.1,S3)))):=by unfold Z g2;rw[if_neg hkb];exact HX.o
   have hkb':(k==2)=false:=by simp[hk]
   clear HX hk
   go_wp2
   go_meet
   exact HR
 case rest=>
 have HX1:=mh hcut.o
 clear HX hcut hs2 hs3 hs6
 have HV1:Z (((g2 k (g1 k (X0.1,S3))).1 0).length=v):=by
  unfold Z
  rw[<-HV.o]
  unfold g2 g1
  split<;>split<;>rfl
 generalize g2 k (g1 k (X0.1,S3))=X1 at *
 clear HV HO3
 obtain⟨V,hP⟩:=HX1.o
 have HP:=mh hP
 clear hP HX1
 have HZ1:Z (ZZ=if (X1.1 0).length=0 then X1 else gB k (X1.1 0).length (gA k (nv X1.2 (X1.1 0).length).toNat (nv (ns X1.2 (X1.1 0).length) (X1.1 5).length).toNat (X1.1 0).length (X1.1,ns (ns X1.2 (X1.1 0).length) (X1.1 5).length))):=HZD.o
 rw[HV1.o] at HZ1
 clear HZD
 by_cases hv0:v=0
 ·rw[if_pos hv0] at HZ1
  subst hv0
  have HX3:Z (GP D b w wc (ZZ.2) [(w.heap.size,n7,25),(g,gx V,25)] V (ZZ.1)):=by rw[HZ1.o];exact HP.o
  clear HP HZ1
  obtain⟨a0,c0,e0⟩:=(HX3.o.r.o 0).slice
  generalize (ZZ.1 0).length=m0 at e0
  have y0:wc.cell? (aD g 0)=some (sL a0 m0 c0):=by rw[<-e0];exact(HX3.o.f.at 1 rfl).c 0 rfl
  obtain⟨a1,c1,e1⟩:=(HX3.o.r.o 1).slice
  generalize (ZZ.1 1).length=m1 at e1
  have y1:wc.cell? (aD g 1)=some (sL a1 m1 c1):=by rw[<-e1];exact(HX3.o.f.at 1 rfl).c 1 rfl
  obtain⟨a2,c2,e2⟩:=(HX3.o.r.o 2).slice
  generalize (ZZ.1 2).length=m2 at e2
  have y2:wc.cell? (aD g 2)=some (sL a2 m2 c2):=by rw[<-e2];exact(HX3.o.f.at 1 rfl).c 2 rfl
  obtain⟨a3,c3,e3⟩:=(HX3.o.r.o 3).slice
  generalize (ZZ.1 3).length=m3 at e3
  have y3:wc.cell? (aD g 3)=some (sL a3 m3 c3):=by rw[<-e3];exact(HX3.o.f.at 1 rfl).c 3 rfl
  obtain⟨a4,c4,e4⟩:=(HX3.o.r.o 4).slice
  generalize (ZZ.1 4).length=m4 at e4
  have y4:wc.cell? (aD g 4)=some (sL a4 m4 c4):=by rw[<-e4];exact(HX3.o.f.at 1 rfl).c 4 rfl
  obtain⟨a5,c5,e5⟩:=(HX3.o.r.o 5).slice
  generalize (ZZ.1 5).length=m5 at e5
  have y5:wc.cell? (aD g 5)=some (sL a5 m5 c5):=by rw[<-e5];exact(HX3.o.f.at 1 rfl).c 5 rfl
  obtain⟨a6,c6,e6⟩:=(HX3.o.r.o 6).slice
  generalize (ZZ.1 6).length=m6 at e6
  have y6:wc.cell? (aD g 6)=some (sL a6 m6 c6):=by rw[<-e6];exact(HX3.o.f.at 1 rfl).c 6 rfl
  have HGX:Z (#[sL a0 m0 c0,sL a1 m1 c1,sL a2 m2 c2,sL a3 m3 c3,sL a4 m4 c4,sL a5 m5 c5,sL a6 m6 c6]=gx V):=by unfold Z;rw[gx,e0,e1,e2,e3,e4,e5,e6]
  have BR:BT wc w.heap.size n7 25:=HX3.o.f.at 0 rfl
  clear e0 e1 e2 e3 e4 e5 e6
  go_upto_region 13 with fail
  go_wp2_with (refine Vo rfl _ _ rfl rfl rfl BR rfl rfl rfl ?_)
  intro w9 hb9 hc9
  have H9:=mh (HX3.o.turn 0 rfl hc9 hb9)
  clear BR HX3 hc9 y0 y1 y2 y3 y4 y5 y6
  go_wp2
  refine Pp rfl rfl hb9 ?_
  rw[HGX.o]
  exact⟨⟨V,rfl,H9.o.r,H9.o.f.src,H9.o.f.chg⟩,HDO.o⟩
 have hv0':¬(v:Int)=0:=by omega
 rw[if_neg hv0] at HZ1
 have HOI:=mh (Qv HGK.o.2 (v:Int))
 go_wp2_with fail
 refine(Q6 D b X1.2 (v) wc HP.o.f.src HGK.o.2 (by omega)).mono ?_
 rintro e w5 ⟨rfl,hs1,hc1⟩
 have HP5:=mh (HP.o.drawn hs1 hc1)
 clear hs1 hc1 HP
 obtain⟨i,hi⟩:∃n:Nat,nv X1.2 v=(n:Int):=⟨(nv X1.2 v).toNat,by have:=HOI.o.1;omega⟩
 have hiv:i<v:=by have:=HOI.o.2 (by omega);omega
 rw[hi,zU] at HZ1
 rw[hi]
 clear HOI hi
 have HS5:=mh (Qf HGK.o.2 v)
 generalize ns X1.2 v=S5 at *
 obtain⟨n5,hn5⟩:∃n,(X1.1 5).length=n:=⟨_,rfl⟩
 have HN5:=mh hn5
 obtain⟨a5,c5,e5⟩:=(HP5.o.r.o 5).slice
 rw[hn5] at HZ1 e5
 have hn5p:0<n5:=by have:=HGK.o.1.ne (by rw[HV1.o];omega);omega
 have hn5b:n5<=5000:=by have h1:=HGK.o.1.l6;have h2:=HGK.o.1.s6;omega
 have y5:w5.cell? (aD g 5)=some (sL a5 n5 c5):=by rw[<-e5];exact(HP5.o.f.at 1 rfl).c 5 rfl
 clear e5 hn5
 have HOE:=mh (Qv HS5.o (n5:Int))
 go_wp2_with fail
 refine(Q6 D b S5 (n5) w5 HP5.o.f.src HS5.o (by omega)).mono ?_
 rintro e w6 ⟨rfl,hs1,hc1⟩
 have HP6:=mh (HP5.o.drawn hs1 hc1)
 clear hs1 hc1 HP5
 obtain⟨e,he⟩:∃n:Nat,nv S5 n5=(n:Int):=⟨(nv S5 n5).toNat,by have:=HOE.o.1;omega⟩
 have hen:e<n5:=by have:=HOE.o.2 (by omega);omega
 rw[he,zU] at HZ1
 rw[he]
 clear HOE he y5
 have HS6:=mh (Qf HS5.o n5)
 generalize ns S5 n5=S6 at *
 have HX0:Z (GX D b g w (w6) ((X1.1,S6))):=⟨V,HP6.o⟩
 obtain⟨n3,hn3⟩:∃n,(X1.1 3).length=n:=⟨_,rfl⟩
 have HO0:Z (OkL v n5 n3 (X1.1,S6)):=⟨⟨HGK.o.1,HS6.o⟩,HV1.o,HN5.o,hn3⟩
 have HEQ:Z (ZZ=gB k v (g10 k e v (g9 k e (g8 k v (g7 k i (g6 k e (g5 k e v (g4 k i (g3 k i (X1.1,S6)))))))))):=HZ1.o
 have hn3b:n3<=40000:=by have:=HGK.o.1.s3;omega
 clear HP6 HZ1 HGK HV1 HN5 HS6 HS5 hn3 V
 generalize (X1.1,S6)=X0 at *
 go_upto_region 16 with fail
 generalize hwc:w6=wc at *
 clear hwc
 go_upto_if 54 with fail
 go_cut [] from 53 to 64 (λwq=>Z (GX D b g w (wq) (g3 k i X0)))
 case first=>
  by_cases hk:k=3
  ·subst hk
   go_upto_region 17 with fail
   obtain⟨V,hP⟩:=HX0.o
   obtain⟨n0,hn0⟩:∃n,(X0.1 0).length=n:=⟨_,rfl⟩
   have hix:i<n0:=by have h1:=HO0.o.l0;have h2:=HO0.o.l5;have h3:=HO0.o.l3;obtain⟨p1,p2,p4,p6,-⟩:=HO0.o.ok.1;omega
   obtain⟨q0,c0,e0,hc0⟩:=hP.r.op 0 hn0 (by omega)
   have HE:=mh e0
   have HN:=mh hn0
   have HP:=mh hP
   have yb:wc.cell? (aD g 0)=some (sL (sA q0) n0 c0):=by rw[<-e0];exact(hP.f.at 1 rfl).c 0 rfl
   obtain⟨cz,fz⟩:=hc0 i hix
   have hix':(i:Int)<n0:=by omega
   clear hP hn0 e0 hc0 HX0
   have HR:Z (GX D b g w (wc.drew.setCell (aD q0 i) (iV (wrap64 (iat (X0.1 0) i+1)))) (g3 3 i X0)):=GX.yes (HP.o.next (show Nx wc wc.drew from(Below.refl _ _).drew)) 0 HE.o (by rw[HN.o];exact hix) rfl _
   generalize iat (X0.1 0) i=zz at *
   clear HP HE HN HO0 HEQ
   go_region
   go_wp2
   go_meet
   exact HR
  ·have hkb:(k==3)=false:=by simp[hk]
   have HR:Z (GX D b g w (wc) (g3 k i X0)):=HX0.o.no hkb _ _ _ _
   clear HX0 HO0 hk
   go_wp2
   go_meet
   exact HR
 case rest=>
 have HO1:Z (OkL v n5 n3 (g3 k i X0)):=Um HO0.o (HO0.o.ok.2)
 have HX1:=mh hcut.o
 clear HX0 HO0 hcut
 generalize g3 k i X0=X1 at *
 go_upto_if 66 with fail
 go_cut [] from 65 to 74 (λwq=>Z (GX D b g w (wq) (g4 k i X1)))
 case first=>
  by_cases hk:k=4
  ·subst hk
   go_upto_region 19 with fail
   obtain⟨V,hP⟩:=HX1.o
   obtain⟨n1,hn1⟩:∃n,(X1.1 1).length=n:=⟨_,rfl⟩
   have hix:i<n1:=by have h1:=HO1.o.l0;have h2:=HO1.o.l5;have h3:=HO1.o.l3;obtain⟨p1,p2,p4,p6,-⟩:=HO1.o.ok.1;omega
   obtain⟨q1,c1,e1,hc1⟩:=hP.r.op 1 hn1 (by omega)
   have HE:=mh e1
   have HN:=mh hn1
   have HP:=mh hP
   have yb:wc.cell? (aD g 1)=some (sL (sA q1) n1 c1):=by rw[<-e1];exact(hP.f.at 1 rfl).c 1 rfl
   obtain⟨cz,fz⟩:=hc1 i hix
   have hix':(i:Int)<n1:=by omega
   clear hP hn1 e1 hc1 HX1
   have HD:=mh (HP.o.next (show Nx wc wc.drew from(Below.refl _ _).drew))
   have HSS:Z ((λq=>q.cell? (aD g 1)=some (sL (sA q1) n1 c1)) wc.drew):=yb
   clear yb cz fz HP
   refine(wpIn_wide (n:=9)).1 ?_
   refine Qb (c:=8) (S:=λq=>q.cell? (aD g 1)=some (sL (sA q1) n1 c1)) hmx (by kernel_rfl) (λhw hcl=>?_)
   generalize wc.drew=wd at *
   refine tq (i:=0) (v:=.pointer (some (aD g 1))) (λhcl=>?_)
   refine tq (i:=1) (v:=sL (sA q1) n1 c1) (λhcl=>?_)
   refine tq (i:=2) (v:=iV (i:Int)) (λhcl=>?_)
   refine tq (i:=3) (v:=pT b) (λhcl=>?_)
   refine Q8 (i:=4) (by kernel_rfl) hcl (λhcl=>wpOpIn_step rfl (λK hK=>?_))
   go_simp
   refine⟨trivial,(callsIn_wide.2 (Q6 D b _ 2 _ HD.o.f.src HO1.o.ok.2 (by omega))).mono ?_⟩
   rintro e7 w9 ⟨rfl,hs1,hc1⟩
   have H9:=mh (HD.o.drawn hs1 hc1)
   clear hs1 hc1 HD
   have HSS:Z ((λq=>q.cell? (aD g 1)=some (sL (sA q1) n1 c1)) w9):=by rw[<-HE.o];exact(H9.o.f.at 1 rfl).c 1 rfl
   refine hK _ _ ⟨oR HSS.o,?_⟩
   clear hK K
   have HR:Z (GX D b g w (w9.setCell (aD q1 i) (iV (nv X1.2 2*2001-1))) (g4 4 i X1)):=GX.yes H9.o 1 HE.o (by rw[HN.o];exact hix) rfl _
   obtain⟨cz,fz⟩:=H9.o.cellU 1 HE.o (i:=i) (by rw[HN.o];exact hix)
   have hdz:=Qv HO1.o.ok.2 2
   have hdz1:=hdz.1
   have hdz2:=hdz.2 (by omega)
   clear H9 HE HN HEQ HO1 hdz
   generalize nv X1.2 2=dz at *
   refine tk (i:=5) (v:=iV (dz*2001)) hw hcl ⟨oL ⟨by kernel_rfl,?y5⟩,λ_=>rfl⟩ HSS.o (λhcl=>?_)
   case y5=>
    rintro q c1
    go_simp
    rw[IntKind.wrap_i64];omega
   refine tk (i:=6) (v:=iV (dz*2001-1)) hw hcl ⟨oL ⟨by kernel_rfl,?y6⟩,λ_=>rfl⟩ HSS.o (λhcl=>?_)
   case y6=>
    rintro q c1
    go_simp
    rw[IntKind.wrap_i64];omega
   refine tq (i:=7) (v:=.pointer (some (aD q1 i))) (λhcl=>?_)
   refine Qh (i:=8) (by kernel_rfl) (wpOpIn_step rfl (λK hK=>?_))
   go_simp
   refine hK _ _ ⟨oL (by decide),?_⟩
   clear hK K
   refine Ql (by kernel_rfl) ?_ _
   clear hw hcl HSS cz fz hdz1 hdz2
   go_wp2
   go_meet
   exact HR
  ·have hkb:(k==4)=false:=by simp[hk]
   have HR:Z (GX D b g w (wc) (g4 k i X1)):=HX1.o.no hkb _ _ _ _
   clear HX1 HO1 hk
   go_wp2
   go_meet
   exact HR
 case rest=>
 have HO2:Z (OkL v n5 n3 (g4 k i X1)):=Um HO1.o (Qf HO1.o.ok.2 2)
 have HX2:=mh hcut.o
 clear HX1 HO1 hcut
 generalize g4 k i X1=X2 at *
 go_upto_if 76 with fail
 go_cut [] from 75 to 88 (λwq=>Z (GX D b g w (wq) (g5 k e v X2)))
 case first=>
  by_cases hk:k=5
  ·subst hk
   go_upto_region 21 with fail
   obtain⟨V,hP⟩:=HX2.o
   obtain⟨n5,hn5⟩:∃n,(X2.1 5).length=n:=⟨_,rfl⟩
   have hix:e<n5:=by have h1:=HO2.o.l0;have h2:=HO2.o.l5;have h3:=HO2.o.l3;obtain⟨p1,p2,p4,p6,-⟩:=HO2.o.ok.1;omega
   obtain⟨q5,c5,e5,hc5⟩:=hP.r.op 5 hn5 (by omega)
   have HE:=mh e5
   have HN:=mh hn5
   have HP:=mh hP
   have yb:wc.cell? (aD g 5)=some (sL (sA q5) n5 c5):=by rw[<-e5];exact(hP.f.at 1 rfl).c 5 rfl
   obtain⟨cz,fz⟩:=hc5 e hix
   have hix':(e:Int)<n5:=by omega
   clear hP hn5 e5 hc5 HX2
   have HR:Z (GX D b g w (wc.drew.setCell (aD q5 e) (iV ((wrap64 (iat (X2.1 5) e+1)).tmod (v:Int)))) (g5 5 e v X2)):=GX.yes (HP.o.next (show Nx wc wc.drew from(Below.refl _ _).drew)) 5 HE.o (by rw[HN.o];exact hix) rfl _
   generalize iat (X2.1 5) e=zz at *
   clear HP HE HN HO2 HEQ
   go_region
   go_wp2
   go_meet
   exact HR
  ·have hkb:(k==5)=false:=by simp[hk]
   have HR:Z (GX D b g w (wc) (g5 k e v X2)):=HX2.o.no hkb _ _ _ _
   clear HX2 HO2 hk
   go_wp2
   go_meet
   exact HR
 case rest=>
 have HO3:Z (OkL v n5 n3 (g5 k e v X2)):=Um HO2.o (HO2.o.ok.2)
 have HX3:=mh hcut.o
 clear HX2 HO2 hcut
 generalize g5 k e v X2=X3 at *
 go_upto_if 90 with fail
 go_cut [] from 89 to 97 (λwq=>Z (GX D b g w (wq) (g6 k e X3)))
 case first=>
  by_cases hk:k=6
  ·subst hk
   go_upto_region 23 with fail
   obtain⟨V,hP⟩:=HX3.o
   obtain⟨n6,hn6⟩:∃n,(X3.1 6).length=n:=⟨_,rfl⟩
   have hix:e<n6:=by have h1:=HO3.o.l0;have h2:=HO3.o.l5;have h3:=HO3.o.l3;obtain⟨p1,p2,p4,p6,-⟩:=HO3.o.ok.1;omega
   obtain⟨q6,c6,e6,hc6⟩:=hP.r.op 6 hn6 (by omega)
   have HE:=mh e6
   have HN:=mh hn6
   have HP:=mh hP
   have yb:wc.cell? (aD g 6)=some (sL (sA q6) n6 c6):=by rw[<-e6];exact(hP.f.at 1 rfl).c 6 rfl
   obtain⟨cz,fz⟩:=hc6 e hix
   have hix':(e:Int)<n6:=by omega
   clear hP hn6 e6 hc6 HX3
   have HD:=mh (HP.o.next (show Nx wc wc.drew from(Below.refl _ _).drew))
   have HSS:Z ((λq=>q.cell? (aD g 6)=some (sL (sA q6) n6 c6)) wc.drew):=yb
   clear yb cz fz HP
   refine(wpIn_wide (n:=9)).1 ?_
   refine Qb (c:=7) (S:=λq=>q.cell? (aD g 6)=some (sL (sA q6) n6 c6)) hmx (by kernel_rfl) (λhw hcl=>?_)
   generalize wc.drew=wd at *
   refine tq (i:=0) (v:=.pointer (some (aD g 6))) (λhcl=>?_)
   refine tq (i:=1) (v:=sL (sA q6) n6 c6) (λhcl=>?_)
   refine tq (i:=2) (v:=iV (e:Int)) (λhcl=>?_)
   refine tq (i:=3) (v:=pT b) (λhcl=>?_)
   refine Q8 (i:=4) (by kernel_rfl) hcl (λhcl=>wpOpIn_step rfl (λK hK=>?_))
   go_simp
   refine⟨trivial,(callsIn_wide.2 (Q6 D b _ 2 _ HD.o.f.src HO3.o.ok.2 (by omega))).mono ?_⟩
   rintro e7 w9 ⟨rfl,hs1,hc1⟩
   have H9:=mh (HD.o.drawn hs1 hc1)
   clear hs1 hc1 HD
   have HSS:Z ((λq=>q.cell? (aD g 6)=some (sL (sA q6) n6 c6)) w9):=by rw[<-HE.o];exact(H9.o.f.at 1 rfl).c 6 rfl
   refine hK _ _ ⟨oR HSS.o,?_⟩
   clear hK K
   have HR:Z (GX D b g w (w9.setCell (aD q6 e) (iV (1048576+nv X3.2 2))) (g6 6 e X3)):=GX.yes H9.o 6 HE.o (by rw[HN.o];exact hix) rfl _
   obtain⟨cz,fz⟩:=H9.o.cellU 6 HE.o (i:=e) (by rw[HN.o];exact hix)
   have hdz:=Qv HO3.o.ok.2 2
   have hdz1:=hdz.1
   have hdz2:=hdz.2 (by omega)
   clear H9 HE HN HEQ HO3 hdz
   generalize nv X3.2 2=dz at *
   refine tk (i:=5) (v:=iV (1048576+dz)) hw hcl ⟨oL ⟨by kernel_rfl,?y5⟩,λ_=>rfl⟩ HSS.o (λhcl=>?_)
   case y5=>
    rintro q c1
    go_simp
    rw[IntKind.wrap_i64];omega
   refine tq (i:=6) (v:=.pointer (some (aD q6 e))) (λhcl=>?_)
   refine Qh (i:=7) (by kernel_rfl) (wpOpIn_step rfl (λK hK=>?_))
   go_simp
   refine hK _ _ ⟨oL (by decide),?_⟩
   clear hK K
   refine Ql (by kernel_rfl) ?_ _
   clear hw hcl HSS cz fz hdz1 hdz2
   go_wp2
   go_meet
   exact HR
  ·have hkb:(k==6)=false:=by simp[hk]
   have HR:Z (GX D b g w (wc) (g6 k e X3)):=HX3.o.no hkb _ _ _ _
   clear HX3 HO3 hk
   go_wp2
   go_meet
   exact HR
 case rest=>
 have HO4:Z (OkL v n5 n3 (g6 k e X3)):=Um HO3.o (Qf HO3.o.ok.2 2)
 have HX4:=mh hcut.o
 clear HX3 HO3 hcut
 generalize g6 k e X3=X4 at *
 go_upto_if 99 with fail
 go_cut [] from 98 to 109 (λwq=>Z (GX D b g w (wq) (g7 k i X4)))
 case first=>
  by_cases hk:k=7
  ·subst hk
   go_upto_region 25 with fail
   obtain⟨V,hP⟩:=HX4.o
   obtain⟨n2,hn2⟩:∃n,(X4.1 2).length=n:=⟨_,rfl⟩
   have hix:i<n2:=by have h1:=HO4.o.l0;have h2:=HO4.o.l5;have h3:=HO4.o.l3;obtain⟨p1,p2,p4,p6,-⟩:=HO4.o.ok.1;omega
   obtain⟨q2,c2,e2,hc2⟩:=hP.r.op 2 hn2 (by omega)
   have HE:=mh e2
   have HN:=mh hn2
   have HP:=mh hP
   have yb:wc.cell? (aD g 2)=some (sL (sA q2) n2 c2):=by rw[<-e2];exact(hP.f.at 1 rfl).c 2 rfl
   obtain⟨cz,fz⟩:=hc2 i hix
   have hix':(i:Int)<n2:=by omega
   clear hP hn2 e2 hc2 HX4
   have HR:Z (GX D b g w (wc.drew.setCell (aD q2 i) (iV (wrap64 (iat (X4.1 2) i+1)))) (g7 7 i X4)):=GX.yes (HP.o.next (show Nx wc wc.drew from(Below.refl _ _).drew)) 2 HE.o (by rw[HN.o];exact hix) rfl _
   generalize iat (X4.1 2) i=zz at *
   clear HP HE HN HO4 HEQ
   go_region
   go_wp2
   go_meet
   exact HR
  ·have hkb:(k==7)=false:=by simp[hk]
   have HR:Z (GX D b g w (wc) (g7 k i X4)):=HX4.o.no hkb _ _ _ _
   clear HX4 HO4 hk
   go_wp2
   go_meet
   exact HR
 case rest=>
 have HO5:Z (OkL v n5 n3 (g7 k i X4)):=Um HO4.o (HO4.o.ok.2)
 have HX5:=mh hcut.o
 clear HX4 HO4 hcut
 generalize g7 k i X4=X5 at *
 go_upto_if 111 with fail
 go_cut [] from 110 to 121 (λwq=>Z (GX D b g w (wq) (g8 k v X5)))
 case first=>
  by_cases hk:k=8
  ·subst hk
   go_upto_region 27 with fail
   obtain⟨V,hP⟩:=HX5.o
   obtain⟨n2,hn2⟩:∃n,(X5.1 2).length=n:=⟨_,rfl⟩
   have hix:v<n2:=by have h1:=HO5.o.l0;have h2:=HO5.o.l5;have h3:=HO5.o.l3;obtain⟨p1,p2,p4,p6,-⟩:=HO5.o.ok.1;omega
   obtain⟨q2,c2,e2,hc2⟩:=hP.r.op 2 hn2 (by omega)
   have HE:=mh e2
   have HN:=mh hn2
   have HP:=mh hP
   have yb:wc.cell? (aD g 2)=some (sL (sA q2) n2 c2):=by rw[<-e2];exact(hP.f.at 1 rfl).c 2 rfl
   obtain⟨cz,fz⟩:=hc2 v hix
   have hix':(v:Int)<n2:=by omega
   clear hP hn2 e2 hc2 HX5
   have HR:Z (GX D b g w (wc.drew.setCell (aD q2 v) (iV (wrap64 (iat (X5.1 2) v-1)))) (g8 8 v X5)):=GX.yes (HP.o.next (show Nx wc wc.drew from(Below.refl _ _).drew)) 2 HE.o (by rw[HN.o];exact hix) rfl _
   generalize iat (X5.1 2) v=zz at *
   clear HP HE HN HO5 HEQ
   go_region
   go_wp2
   go_meet
   exact HR
  ·have hkb:(k==8)=false:=by simp[hk]
   have HR:Z (GX D b g w (wc) (g8 k v X5)):=HX5.o.no hkb _ _ _ _
   clear HX5 HO5 hk
   go_wp2
   go_meet
   exact HR
 case rest=>
 have HO6:Z (OkL v n5 n3 (g8 k v X5)):=Um HO5.o (HO5.o.ok.2)
 have HX6:=mh hcut.o
 clear HX5 HO5 hcut
 generalize g8 k v X5=X6 at *
 go_upto_if 123 with fail
 go_cut [] from 122 to 127 (λwq=>Z (GX D b g w (wq) (g9 k e X6)))
 case first=>
  by_cases hk:k=9
  ·subst hk
   go_upto_region 29 with fail
   obtain⟨V,hP⟩:=HX6.o
   obtain⟨n6,hn6⟩:∃n,(X6.1 6).length=n:=⟨_,rfl⟩
   have hix:e<n6:=by have h1:=HO6.o.l0;have h2:=HO6.o.l5;have h3:=HO6.o.l3;obtain⟨p1,p2,p4,p6,-⟩:=HO6.o.ok.1;omega
   obtain⟨q6,c6,e6,hc6⟩:=hP.r.op 6 hn6 (by omega)
   have HE:=mh e6
   have HN:=mh hn6
   have HP:=mh hP
   have yb:wc.cell? (aD g 6)=some (sL (sA q6) n6 c6):=by rw[<-e6];exact(hP.f.at 1 rfl).c 6 rfl
   obtain⟨cz,fz⟩:=hc6 e hix
   have hix':(e:Int)<n6:=by omega
   clear hP hn6 e6 hc6 HX6
   have HR:Z (GX D b g w (wc.setCell (aD q6 e) (iV (-1))) (g9 9 e X6)):=GX.yes (HP.o) 6 HE.o (by rw[HN.o];exact hix) rfl _
   generalize iat (X6.1 6) e=zz at *
   clear HP HE HN HO6 HEQ
   skip
   go_wp2
   go_meet
   exact HR
  ·have hkb:(k==9)=false:=by simp[hk]
   have HR:Z (GX D b g w (wc) (g9 k e X6)):=HX6.o.no hkb _ _ _ _
   clear HX6 HO6 hk
   go_wp2
   go_meet
   exact HR
 case rest=>
 have HO7:Z (OkL v n5 n3 (g9 k e X6)):=Um HO6.o (HO6.o.ok.2)
 have HX7:=mh hcut.o
 clear HX6 HO6 hcut
 generalize g9 k e X6=X7 at *
 go_upto_if 129 with fail
 go_cut [] from 128 to 134 (λwq=>Z (GX D b g w (wq) (g10 k e v X7)))
 case first=>
  by_cases hk:k=10
  ·subst hk
   go_upto_region 31 with fail
   obtain⟨V,hP⟩:=HX7.o
   obtain⟨n5,hn5⟩:∃n,(X7.1 5).length=n:=⟨_,rfl⟩
   have hix:e<n5:=by have h1:=HO7.o.l0;have h2:=HO7.o.l5;have h3:=HO7.o.l3;obtain⟨p1,p2,p4,p6,-⟩:=HO7.o.ok.1;omega
   obtain⟨q5,c5,e5,hc5⟩:=hP.r.op 5 hn5 (by omega)
   have HE:=mh e5
   have HN:=mh hn5
   have HP:=mh hP
   have yb:wc.cell? (aD g 5)=some (sL (sA q5) n5 c5):=by rw[<-e5];exact(hP.f.at 1 rfl).c 5 rfl
   obtain⟨cz,fz⟩:=hc5 e hix
   have hix':(e:Int)<n5:=by omega
   clear hP hn5 e5 hc5 HX7
   have HR:Z (GX D b g w (wc.setCell (aD q5 e) (iV ((v:Int)))) (g10 10 e v X7)):=GX.yes (HP.o) 5 HE.o (by rw[HN.o];exact hix) rfl _
   generalize iat (X7.1 5) e=zz at *
   clear HP HE HN HO7 HEQ
   skip
   go_wp2
   go_meet
   exact HR
  ·have hkb:(k==10)=false:=by simp[hk]
   have HR:Z (GX D b g w (wc) (g10 k e v X7)):=HX7.o.no hkb _ _ _ _
   clear HX7 HO7 hk
   go_wp2
   go_meet
   exact HR
 case rest=>
 have HO8:Z (OkL v n5 n3 (g10 k e v X7)):=Um HO7.o (HO7.o.ok.2)
 have HX8:=mh hcut.o
 clear HX7 HO7 hcut
 generalize g10 k e v X7=X8 at *
 have HEQ8:Z (ZZ=if (X8.1 3).length=0 then X8 else g15 k (nv X8.2 (X8.1 3).length).toNat (g14 k (g13 k (nv X8.2 (X8.1 3).length).toNat (g12 k (nv X8.2 (X8.1 3).length).toNat (g11 k (nv X8.2 (X8.1 3).length).toNat v (X8.1,ns X8.2 (X8.1 3).length)))))):=HEQ.o
 rw[HO8.o.l3] at HEQ8
 clear HEQ
 obtain⟨V,hP⟩:=HX8.o
 have HP:=mh hP
 obtain⟨a3,c3,e3⟩:=(hP.r.o 3).slice
 rw[HO8.o.l3] at e3
 have y3:wc.cell? (aD g 3)=some (sL a3 n3 c3):=by rw[<-e3];exact(hP.f.at 1 rfl).c 3 rfl
 clear hP e3
 go_upto_if 138 with fail
 go_cut [8,9,10] from 135 to 206 (λs8 s9 s10 wq=>Z (GX D b g w (wq) (ZZ)))
 case first=>
  by_cases h3:n3=0
  ·rw[if_pos h3] at HEQ8
   have HR:Z (GX D b g w (wc) (ZZ)):=by rw[HEQ8.o];exact HX8.o
   have h3':¬0<n3:=by omega
   clear HEQ8 HX8 HO8 HP h3
   go_wp2
   go_meet
   exact HR
  rw[if_neg h3] at HEQ8
  have h3p:0<n3:=by omega
  have HOA:=mh (Qv HO8.o.ok.2 (n3:Int))
  go_upto_region 33 with fail
  go_wp2_with fail
  refine(Q6 D b X8.2 (n3) wc HP.o.f.src HO8.o.ok.2 (by omega)).mono ?_
  rintro e w7 ⟨rfl,hs1,hc1⟩
  have HP7:=mh (HP.o.drawn hs1 hc1)
  clear hs1 hc1 HP
  obtain⟨a,ha⟩:∃n:Nat,nv X8.2 n3=(n:Int):=⟨(nv X8.2 n3).toNat,by have:=HOA.o.1;omega⟩
  have han:a<n3:=by have:=HOA.o.2 (by omega);omega
  rw[ha,zU] at HEQ8
  rw[ha]
  have HX9:Z (GX D b g w (w7) ((X8.1,ns X8.2 n3))):=⟨V,HP7.o⟩
  have HO9:Z (OkL v n5 n3 (X8.1,ns X8.2 n3)):=⟨⟨HO8.o.ok.1,Qf HO8.o.ok.2 n3⟩,HO8.o.l0,HO8.o.l5,HO8.o.l3⟩
  have HEQ:=HEQ8
  clear HOA ha HP7 HX8 HO8 HEQ8 y3
  generalize (X8.1,ns X8.2 n3)=X9 at *
  go_upto_region 34 with fail
  generalize hwc:w7=wc at *
  clear hwc
  go_upto_if 145 with fail
  go_cut [] from 144 to 155 (λwq=>Z (GX D b g w (wq) (g11 k a v X9)))
  case first=>
   by_cases hk:k=11
   ·subst hk
    have hv1:IntKind.i64.wrap ((v:Int)+1)=(v:Int)+1:=by rw[IntKind.wrap_i64];omega
    go_upto_region 35 with fail
    obtain⟨V,hP⟩:=HX9.o
    obtain⟨n3,hn3⟩:∃n,(X9.1 3).length=n:=⟨_,rfl⟩
    have hix:a<n3:=by have h1:=HO9.o.l0;have h2:=HO9.o.l5;have h3:=HO9.o.l3;obtain⟨p1,p2,p4,p6,-⟩:=HO9.o.ok.1;omega
    obtain⟨q3,c3,e3,hc3⟩:=hP.r.op 3 hn3 (by omega)
    have HE:=mh e3
    have HN:=mh hn3
    have HP:=mh hP
    have yb:wc.cell? (aD g 3)=some (sL (sA q3) n3 c3):=by rw[<-e3];exact(hP.f.at 1 rfl).c 3 rfl
    obtain⟨cz,fz⟩:=hc3 a hix
    have hix':(a:Int)<n3:=by omega
    clear hP hn3 e3 hc3 HX9
    have HD:=mh (HP.o.next (show Nx wc wc.drew from(Below.refl _ _).drew))
    have HSS:Z ((λq=>q.cell? (aD g 3)=some (sL (sA q3) n3 c3)) wc.drew):=yb
    clear yb cz fz HP
    refine(wpIn_wide (n:=9)).1 ?_
    refine Qb (c:=10) (S:=λq=>q.cell? (aD g 3)=some (sL (sA q3) n3 c3)) hmx (by kernel_rfl) (λhw hcl=>?_)
    generalize wc.drew=wd at *
    refine tq (i:=0) (v:=.pointer (some (aD g 3))) (λhcl=>?_)
    refine tq (i:=1) (v:=sL (sA q3) n3 c3) (λhcl=>?_)
    refine tq (i:=2) (v:=iV (a:Int)) (λhcl=>?_)
    refine tq (i:=3) (v:=pT b) (λhcl=>?_)
    refine tq (i:=5) (v:=iV (v:Int)) (λhcl=>?_)
    refine tq (i:=6) (v:=iV ((v:Int)+1)) (λhcl=>?_)
    refine Q8 (i:=4) (by kernel_rfl) hcl (λhcl=>wpOpIn_step rfl (λK hK=>?_))
    go_simp
    refine⟨trivial,(callsIn_wide.2 (Q6 D b _ 2 _ HD.o.f.src HO9.o.ok.2 (by omega))).mono ?_⟩
    rintro e7 w9 ⟨rfl,hs1,hc1⟩
    have H9:=mh (HD.o.drawn hs1 hc1)
    clear hs1 hc1 HD
    have HSS:Z ((λq=>q.cell? (aD g 3)=some (sL (sA q3) n3 c3)) w9):=by rw[<-HE.o];exact(H9.o.f.at 1 rfl).c 3 rfl
    refine hK _ _ ⟨oR HSS.o,?_⟩
    clear hK K
    have HR:Z (GX D b g w (w9.setCell (aD q3 a) (iV (nv X9.2 2*((v:Int)+1)-1))) (g11 11 a v X9)):=GX.yes H9.o 3 HE.o (by rw[HN.o];exact hix) rfl _
    obtain⟨cz,fz⟩:=H9.o.cellU 3 HE.o (i:=a) (by rw[HN.o];exact hix)
    have hdz:=Qv HO9.o.ok.2 2
    have hdz1:=hdz.1
    have hdz2:=hdz.2 (by omega)
    clear H9 HE HN HEQ HO9 hdz
    generalize nv X9.2 2=dz at *
    have hdm:dz*((v:Int)+1)=0\/dz*((v:Int)+1)=(v:Int)+1:=by
     have:dz=0\/dz=1:=by omega
     rcases this with rfl|rfl
     ·left;simp
     ·right;simp
    refine tk (i:=7) (v:=iV (dz*((v:Int)+1))) hw hcl ⟨oL ⟨by kernel_rfl,?y7⟩,λ_=>rfl⟩ HSS.o (λhcl=>?_)
    case y7=>
     rintro q c1
     go_simp
     rw[IntKind.wrap_i64];omega
    refine tk (i:=8) (v:=iV (dz*((v:Int)+1)-1)) hw hcl ⟨oL ⟨by kernel_rfl,?y8⟩,λ_=>rfl⟩ HSS.o (λhcl=>?_)
    case y8=>
     rintro q c1
     go_simp
     rw[IntKind.wrap_i64];omega
    refine tq (i:=9) (v:=.pointer (some (aD q3 a))) (λhcl=>?_)
    refine Qh (i:=10) (by kernel_rfl) (wpOpIn_step rfl (λK hK=>?_))
    go_simp
    refine hK _ _ ⟨oL (by decide),?_⟩
    clear hK K
    refine Ql (by kernel_rfl) ?_ _
    clear hw hcl HSS cz fz hdz1 hdz2
    go_wp2
    go_meet
    exact HR
   ·have hkb:(k==11)=false:=by simp[hk]
    have HR:Z (GX D b g w (wc) (g11 k a v X9)):=HX9.o.no hkb _ _ _ _
    clear HX9 HO9 hk
    go_wp2
    go_meet
    exact HR
  case rest=>
  have HO10:Z (OkL v n5 n3 (g11 k a v X9)):=Um HO9.o (Qf HO9.o.ok.2 2)
  have HX10:=mh hcut.o
  clear HX9 HO9 hcut
  generalize g11 k a v X9=X10 at *
  go_upto_if 157 with fail
  go_cut [] from 156 to 164 (λwq=>Z (GX D b g w (wq) (g12 k a X10)))
  case first=>
   by_cases hk:k=12
   ·subst hk
    go_upto_region 37 with fail
    obtain⟨V,hP⟩:=HX10.o
    obtain⟨n4,hn4⟩:∃n,(X10.1 4).length=n:=⟨_,rfl⟩
    have hix:a<n4:=by have h1:=HO10.o.l0;have h2:=HO10.o.l5;have h3:=HO10.o.l3;obtain⟨p1,p2,p4,p6,-⟩:=HO10.o.ok.1;omega
    obtain⟨q4,c4,e4,hc4⟩:=hP.r.op 4 hn4 (by omega)
    have HE:=mh e4
    have HN:=mh hn4
    have HP:=mh hP
    have yb:wc.cell? (aD g 4)=some (sL (sA q4) n4 c4):=by rw[<-e4];exact(hP.f.at 1 rfl).c 4 rfl
    obtain⟨cz,fz⟩:=hc4 a hix
    have hix':(a:Int)<n4:=by omega
    clear hP hn4 e4 hc4 HX10
    have HD:=mh (HP.o.next (show Nx wc wc.drew from(Below.refl _ _).drew))
    have HSS:Z ((λq=>q.cell? (aD g 4)=some (sL (sA q4) n4 c4)) wc.drew):=yb
    clear yb cz fz HP
    refine(wpIn_wide (n:=9)).1 ?_
    refine Qb (c:=7) (S:=λq=>q.cell? (aD g 4)=some (sL (sA q4) n4 c4)) hmx (by kernel_rfl) (λhw hcl=>?_)
    generalize wc.drew=wd at *
    refine tq (i:=0) (v:=.pointer (some (aD g 4))) (λhcl=>?_)
    refine tq (i:=1) (v:=sL (sA q4) n4 c4) (λhcl=>?_)
    refine tq (i:=2) (v:=iV (a:Int)) (λhcl=>?_)
    refine tq (i:=3) (v:=pT b) (λhcl=>?_)
    refine Q8 (i:=4) (by kernel_rfl) hcl (λhcl=>wpOpIn_step rfl (λK hK=>?_))
    go_simp
    refine⟨trivial,(callsIn_wide.2 (Q6 D b _ 2 _ HD.o.f.src HO10.o.ok.2 (by omega))).mono ?_⟩
    rintro e7 w9 ⟨rfl,hs1,hc1⟩
    have H9:=mh (HD.o.drawn hs1 hc1)
    clear hs1 hc1 HD
    have HSS:Z ((λq=>q.cell? (aD g 4)=some (sL (sA q4) n4 c4)) w9):=by rw[<-HE.o];exact(H9.o.f.at 1 rfl).c 4 rfl
    refine hK _ _ ⟨oR HSS.o,?_⟩
    clear hK K
    have HR:Z (GX D b g w (w9.setCell (aD q4 a) (iV (3145728+nv X10.2 2))) (g12 12 a X10)):=GX.yes H9.o 4 HE.o (by rw[HN.o];exact hix) rfl _
    obtain⟨cz,fz⟩:=H9.o.cellU 4 HE.o (i:=a) (by rw[HN.o];exact hix)
    have hdz:=Qv HO10.o.ok.2 2
    have hdz1:=hdz.1
    have hdz2:=hdz.2 (by omega)
    clear H9 HE HN HEQ HO10 hdz
    generalize nv X10.2 2=dz at *
    refine tk (i:=5) (v:=iV (3145728+dz)) hw hcl ⟨oL ⟨by kernel_rfl,?y5⟩,λ_=>rfl⟩ HSS.o (λhcl=>?_)
    case y5=>
     rintro q c1
     go_simp
     rw[IntKind.wrap_i64];omega
    refine tq (i:=6) (v:=.pointer (some (aD q4 a))) (λhcl=>?_)
    refine Qh (i:=7) (by kernel_rfl) (wpOpIn_step rfl (λK hK=>?_))
    go_simp
    refine hK _ _ ⟨oL (by decide),?_⟩
    clear hK K
    refine Ql (by kernel_rfl) ?_ _
    clear hw hcl HSS cz fz hdz1 hdz2
    go_wp2
    go_meet
    exact HR
   ·have hkb:(k==12)=false:=by simp[hk]
    have HR:Z (GX D b g w (wc) (g12 k a X10)):=HX10.o.no hkb _ _ _ _
    clear HX10 HO10 hk
    go_wp2
    go_meet
    exact HR
  case rest=>
  have HO11:Z (OkL v n5 n3 (g12 k a X10)):=Um HO10.o (Qf HO10.o.ok.2 2)
  have HX11:=mh hcut.o
  clear HX10 HO10 hcut
  generalize g12 k a X10=X11 at *
  go_upto_if 166 with fail
  go_cut [] from 165 to 170 (λwq=>Z (GX D b g w (wq) (g13 k a X11)))
  case first=>
   by_cases hk:k=13
   ·subst hk
    go_upto_region 39 with fail
    obtain⟨V,hP⟩:=HX11.o
    obtain⟨n4,hn4⟩:∃n,(X11.1 4).length=n:=⟨_,rfl⟩
    have hix:a<n4:=by have h1:=HO11.o.l0;have h2:=HO11.o.l5;have h3:=HO11.o.l3;obtain⟨p1,p2,p4,p6,-⟩:=HO11.o.ok.1;omega
    obtain⟨q4,c4,e4,hc4⟩:=hP.r.op 4 hn4 (by omega)
    have HE:=mh e4
    have HN:=mh hn4
    have HP:=mh hP
    have yb:wc.cell? (aD g 4)=some (sL (sA q4) n4 c4):=by rw[<-e4];exact(hP.f.at 1 rfl).c 4 rfl
    obtain⟨cz,fz⟩:=hc4 a hix
    have hix':(a:Int)<n4:=by omega
    clear hP hn4 e4 hc4 HX11
    have HR:Z (GX D b g w (wc.setCell (aD q4 a) (iV (-1))) (g13 13 a X11)):=GX.yes (HP.o) 4 HE.o (by rw[HN.o];exact hix) rfl _
    generalize iat (X11.1 4) a=zz at *
    clear HP HE HN HO11 HEQ
    skip
    go_wp2
    go_meet
    exact HR
   ·have hkb:(k==13)=false:=by simp[hk]
    have HR:Z (GX D b g w (wc) (g13 k a X11)):=HX11.o.no hkb _ _ _ _
    clear HX11 HO11 hk
    go_wp2
    go_meet
    exact HR
  case rest=>
  have HO12:Z (OkL v n5 n3 (g13 k a X11)):=Um HO11.o (HO11.o.ok.2)
  have HX12:=mh hcut.o
  clear HX11 HO11 hcut
  generalize g13 k a X11=X12 at *
  go_upto_if 172 with fail
  go_cut [] from 171 to 180 (λwq=>Z (GX D b g w (wq) (g14 k X12)))
  case first=>
   by_cases hk:k=14
   ·subst hk
    go_upto_region 41 with fail
    obtain⟨V,hP⟩:=HX12.o
    obtain⟨m4,hm4⟩:∃m,(X12.1 4).length=m+1:=⟨(X12.1 4).length-1,by have h3:=HO12.o.l3;have h4:=HO12.o.ok.1.l4;omega⟩
    obtain⟨q4,c4,e4,-⟩:=hP.r.op 4 hm4 (by omega)
    have ho:=hP.r.o 4
    rw[e4] at ho
    have hcc:=Q5.cap ho
    have hcc':m4<=c4:=by omega
    have hcd:(m4:Int)<=(c4:Int):=by omega
    have hm0:¬(m4:Int)<0:=by omega
    have hm5:m4+1<=50000:=by have h3:=HO12.o.l3;have h4:=HO12.o.ok.1.l4;omega
    have hwm:IntKind.i64.wrap (m4:Int)=(m4:Int):=by rw[IntKind.wrap_i64];omega
    have H8:=hP.cut 4 e4 (m:=m4) (by omega)
    have yb:wc.cell? (aD g 4)=some (sL (sA q4) (m4+1) c4):=by rw[<-e4];exact(hP.f.at 1 rfl).c 4 rfl
    have fz2:=(H8.f.at 1 rfl).blk.frozen 4
    have HR:Z (GX D b g w (wc.setCell (aD g 4) (sL (sA q4) m4 c4)) (g14 14 X12)):=by
     unfold Z g14
     rw[if_pos (by decide),hm4,Nat.add_sub_cancel]
     exact⟨_,H8.turn 1 rfl (Chg.set _ _ _ rfl) ((H8.f.at 1 rfl).set 4 (sL (sA q4) m4 c4))⟩
    clear hP ho H8 e4 hm4 HX12 HO12
    go_wp2
    go_meet
    exact HR
   ·have hkb:¬(k==14)=true:=by simp[hk]
    have HR:Z (GX D b g w (wc) (g14 k X12)):=by unfold Z g14;rw[if_neg hkb];exact HX12.o
    have hkb':(k==14)=false:=by simp[hk]
    clear HX12 HO12 hk hkb
    go_wp2
    go_meet
    exact HR
  case rest=>
  have HO13:Z (SOk (g14 k X12).2/\((g14 k X12).1 3).length=n3):=by
   unfold Z g14
   split
   ·exact⟨HO12.o.ok.2,HO12.o.l3⟩
   ·exact⟨HO12.o.ok.2,HO12.o.l3⟩
  have HX13:=mh hcut.o
  clear HX12 HO12 hcut
  generalize g14 k X12=X13 at *
  go_upto_if 182 with fail
  go_cut [9,10] from 181 to 206 (λs9 s10 wq=>Z (GX D b g w (wq) (g15 k a X13)))
  case first=>
   by_cases hk:k=15
   ·subst hk
    obtain⟨V,hP⟩:=HX13.o
    have HP:=mh hP
    obtain⟨q3,c3,e3,-⟩:=hP.r.op 3 HO13.o.2 (by omega)
    have HE:=mh e3
    have HN:=mh HO13.o.2
    have yb:wc.cell? (aD g 3)=some (sL (sA q3) n3 c3):=by rw[<-e3];exact(hP.f.at 1 rfl).c 3 rfl
    clear hP e3 HX13
    have HOB:=mh (Qv HO13.o.1 (n3:Int))
    have HG15:Z (g15 15 a X13=(upd X13.1 3 (((X13.1 3).set a (iat (X13.1 3) (nv X13.2 (X13.1 3).length).toNat)).set (nv X13.2 (X13.1 3).length).toNat (iat (X13.1 3) a)),ns X13.2 (X13.1 3).length)):=rfl
    rw[HN.o] at HG15
    go_upto_region 43 with fail
    go_wp2_with fail
    refine(Q6 D b X13.2 (n3) wc HP.o.f.src HO13.o.1 (by omega)).mono ?_
    rintro e w9 ⟨rfl,hs1,hc1⟩
    have H9:=mh (HP.o.drawn hs1 hc1)
    clear hs1 hc1 HP
    obtain⟨o,ho⟩:∃n:Nat,nv X13.2 n3=(n:Int):=⟨(nv X13.2 n3).toNat,by have:=HOB.o.1;omega⟩
    have hon:o<n3:=by have:=HOB.o.2 (by omega);omega
    rw[ho,zU] at HG15
    rw[ho]
    clear yb HOB ho
    have yb:w9.cell? (aD g 3)=some (sL (sA q3) n3 c3):=by rw[<-HE.o];exact(H9.o.f.at 1 rfl).c 3 rfl
    have za:=(H9.o.cellU 3 HE.o (i:=a) (by rw[HN.o];exact han)).1
    have zo:=(H9.o.cellU 3 HE.o (i:=o) (by rw[HN.o];exact hon)).1
    have fa:=(H9.o.cellU 3 HE.o (i:=a) (by rw[HN.o];exact han)).2
    have han':(a:Int)<n3:=by omega
    have hon':(o:Int)<n3:=by omega
    have H10:=mh ((H9.o.put 3 HE.o (i:=a) (by rw[HN.o];exact han) (iat (X13.1 3) o)).next (show Nx _ (World.drew _) from(Below.refl _ _).drew))
    have HR:Z (GX D b g w ((w9.setCell (aD q3 a) (iV (iat (X13.1 3) o))).drew.setCell (aD q3 o) (iV (iat (X13.1 3) a))) (g15 15 a X13)):=by
     unfold Z
     rw[HG15.o]
     exact⟨V,H10.o.putU 3 HE.o (by rw[List.length_set,HN.o];exact hon) _⟩
    clear H9
    generalize iat (X13.1 3) o=zzo at *
    generalize iat (X13.1 3) a=zza at *
    go_upto_region 45 with fail
    go_region
    generalize hw10:(w9.setCell (aD q3 a) (iV zzo)).drew=w10 at *
    have yc:w10.cell? (aD g 3)=some (sL (sA q3) n3 c3):=by rw[<-HE.o];exact(H10.o.f.at 1 rfl).c 3 rfl
    obtain⟨zc,fc⟩:=H10.o.cellU 3 HE.o (i:=o) (show o<((X13.1 3).set a zzo).length by rw[List.length_set,HN.o];exact hon)
    clear H10 HE HN HG15 HO13 yb za zo fa hw10
    go_wp2
    go_meet
    exact HR
   ·have hkb:¬(k==15)=true:=by simp[hk]
    have HR:Z (GX D b g w (wc) (g15 k a X13)):=by unfold Z g15;rw[if_neg hkb];exact HX13.o
    have hkb':(k==15)=false:=by simp[hk]
    clear HX13 HO13 hk hkb
    go_wp2
    go_meet
    exact HR
  case rest=>
  have HX14:=mh hcut.o
  clear HX13 HO13 hcut
  generalize g15 k a X13=X14 at *
  have HR:Z (GX D b g w (wc) (ZZ)):=by rw[HEQ.o];exact HX14.o
  clear HX14 HEQ
  go_wp2
  go_meet
  exact HR
 case rest=>
 clear HX8 HO8 HEQ8 HP y3 V
 obtain⟨V,hP⟩:=hcut.o
 have HX3:=mh hP
 clear hcut hP
 obtain⟨a0,c0,e0⟩:=(HX3.o.r.o 0).slice
 generalize (ZZ.1 0).length=m0 at e0
 have y0:wc.cell? (aD g 0)=some (sL a0 m0 c0):=by rw[<-e0];exact(HX3.o.f.at 1 rfl).c 0 rfl
 obtain⟨a1,c1,e1⟩:=(HX3.o.r.o 1).slice
 generalize (ZZ.1 1).length=m1 at e1
 have y1:wc.cell? (aD g 1)=some (sL a1 m1 c1):=by rw[<-e1];exact(HX3.o.f.at 1 rfl).c 1 rfl
 obtain⟨a2,c2,e2⟩:=(HX3.o.r.o 2).slice
 generalize (ZZ.1 2).length=m2 at e2
 have y2:wc.cell? (aD g 2)=some (sL a2 m2 c2):=by rw[<-e2];exact(HX3.o.f.at 1 rfl).c 2 rfl
 obtain⟨a3,c3,e3⟩:=(HX3.o.r.o 3).slice
 generalize (ZZ.1 3).length=m3 at e3
 have y3:wc.cell? (aD g 3)=some (sL a3 m3 c3):=by rw[<-e3];exact(HX3.o.f.at 1 rfl).c 3 rfl
 obtain⟨a4,c4,e4⟩:=(HX3.o.r.o 4).slice
 generalize (ZZ.1 4).length=m4 at e4
 have y4:wc.cell? (aD g 4)=some (sL a4 m4 c4):=by rw[<-e4];exact(HX3.o.f.at 1 rfl).c 4 rfl
 obtain⟨a5,c5,e5⟩:=(HX3.o.r.o 5).slice
 generalize (ZZ.1 5).length=m5 at e5
 have y5:wc.cell? (aD g 5)=some (sL a5 m5 c5):=by rw[<-e5];exact(HX3.o.f.at 1 rfl).c 5 rfl
 obtain⟨a6,c6,e6⟩:=(HX3.o.r.o 6).slice
 generalize (ZZ.1 6).length=m6 at e6
 have y6:wc.cell? (aD g 6)=some (sL a6 m6 c6):=by rw[<-e6];exact(HX3.o.f.at 1 rfl).c 6 rfl
 have HGX:Z (#[sL a0 m0 c0,sL a1 m1 c1,sL a2 m2 c2,sL a3 m3 c3,sL a4 m4 c4,sL a5 m5 c5,sL a6 m6 c6]=gx V):=by unfold Z;rw[gx,e0,e1,e2,e3,e4,e5,e6]
 have BR:BT wc w.heap.size n7 25:=HX3.o.f.at 0 rfl
 clear e0 e1 e2 e3 e4 e5 e6
 go_upto_region 47 with fail
 go_wp2_with (refine Vo rfl _ _ rfl rfl rfl BR rfl rfl rfl ?_)
 intro w9 hb9 hc9
 have H9:=mh (HX3.o.turn 0 rfl hc9 hb9)
 clear BR HX3 hc9 y0 y1 y2 y3 y4 y5 y6
 go_wp2
 refine Pp rfl rfl hb9 ?_
 rw[HGX.o]
 exact⟨⟨V,rfl,H9.o.r,H9.o.f.src,H9.o.f.chg⟩,HDO.o⟩
def DEo (D b:Nat)(w w':World)(e:Ending):Prop:=∃z S,e=.returned (iV z)/\Jj D w' b S/\SOk S/\Chg (Sx1 b) w w'
theorem Pa (D b n:Nat)(S:Src)(w:World)(hS:Jj D w b S)(hok:SOk S)(hn:n<=60000) :
  Calls prog 13 #[pT b,iV (n:Int)] w λe w'=>DEo D b w w' e:=by
 by_cases h0:n=0
 ·subst h0
  go_enter func13,ntmps13
  go_wp2_with fail
  refine(Q6 D b S (2) w hS hok (by omega)).mono ?_
  rintro e w1 ⟨rfl,hsw1,hcw1⟩
  generalize nv S 2=d at *
  go_wp2
  go_ret
  exact⟨_,_,rfl,hsw1,Qf hok 2,hcw1⟩
 have h0':((n:Int)==0)=false:=by simp;omega
 have h0'':¬(n:Int)=0:=by omega
 go_enter func13,ntmps13
 go_wp2_with fail
 refine(Q6 D b S (16) w hS hok (by omega)).mono ?_
 rintro e w1 ⟨rfl,hsw1,hcw1⟩
 generalize nv S 16=d at *
 have hok1:=Qf hok 16
 by_cases hd:d=0
 ·subst hd
  go_wp2_with fail
  refine(Q6 D b (ns S 16) (2) w1 hsw1 hok1 (by omega)).mono ?_
  rintro e w2 ⟨rfl,hsw2,hcw2⟩
  generalize nv (ns S 16) 2=d2 at *
  go_wp2
  go_ret
  exact⟨_,_,rfl,hsw2,Qf hok1 2,hcw1.trans hcw2⟩
 ·have hd':(d==0)=false:=by simp[hd]
  go_wp2_with fail
  refine(Q6 D b (ns S 16) (n) w1 hsw1 hok1 (by omega)).mono ?_
  rintro e w2 ⟨rfl,hsw2,hcw2⟩
  go_wp2
  go_ret
  exact⟨_,_,rfl,hsw2,Qf hok1 n,hcw1.trans hcw2⟩
theorem BT.src {cs:Array Value}(h:BT w g cs t)(hS:Jj D w b S)(ht:t≠44)(hc:Chg (Sx1 b) w w'):BT w' g cs t:=by
 obtain⟨v,hb,-⟩:=hS
 exact h.chg hc (h.ne hb ht)
theorem R7.src {V:Nat->Value}(h:R7 C w V G)(hS:Jj D w b S)(hc:Chg (Sx1 b) w w'):R7 C w' V G:=by
 obtain⟨v,hb,-⟩:=hS
 exact⟨λj=>J5 (h.o j) hc (λx hx e=>by
  have e':x=b:=e
  subst e'
  exact hb.neRow (h.o j) (by decide) hx.symm),h.ap⟩
theorem HBy.next {B:Nat}{v:Value}{bs:List UInt8}(h:HBy B w v bs)(k:Nx w w'):HBy B w' v bs:=Jn.mono h lR k.size λb off hb hs i hi hc=>Q0 k hc
def DSE (w w':World)(G:Nat->List Int)(e:Ending):Prop:=(∃V y z,e=.returned (.tuple #[.agg (gx V),iV y,iV z])/\R7 w.heap.size w' V G/\Sml G)/\Nx w w'
theorem Q8u {R:Ending->World->Prop}{y z:Int}(h2:a.tmps[2]?.getD undef=pT b)(h3:a.tmps[3]?.getD undef=iV y)(h4:a.tmps[4]?.getD undef=iV z)(hd:a.defers=[])(hb:BT w b #[x0,x1,x2,x3,x4,x5,x6] t)(hR:R (.returned (.tuple #[.agg #[x0,x1,x2,x3,x4,x5,x6],iV y,iV z])) w):bodyPost prog Tryz.f4 R .ret a w:=by
 have p0:=hb.c 0 rfl
 have p1:=hb.c 1 rfl
 have p2:=hb.c 2 rfl
 have p3:=hb.c 3 rfl
 have p4:=hb.c 4 rfl
 have p5:=hb.c 5 rfl
 have p6:=hb.c 6 rfl
 exact bodyPost_ret (by simp[results,results4,h2,h3,h4,go_sem,p0,p1,p2,p3,p4,p5,p6]) hd hR
theorem Kg (B:Nat)(v:Value)(code:List UInt8)(F:Nt->Nat->List Int)(hF:GcF F)(w:World)(h:HBy B w v code)(hl:code.length<=1048576) :
  Calls prog 4 #[v] w λe w'=>DSE w w' (dgX (dvX F (Kd code))).1 e:=by
 have hmx:prog.follows .mixedOrders=true:=by kernel_rfl
 have HB:=mh h
 have HL:=mh hl
 have HGF:Z (GcF F):=hF
 obtain⟨ZZ,hZ⟩:∃ZZ,ZZ=dgX (dvX F (Kd code)):=⟨_,rfl⟩
 rw[<-hZ]
 have HZ:=mh hZ
 obtain⟨ca,cc,rfl,hmx1,hk⟩:=h
 clear hk hmx1 hl hF hZ
 have HX0:Z (Nx w (w.alloc (.cells n7 25))):=Qe _ _
 have HB0:Z (BT (w.alloc (.cells n7 25)) w.heap.size n7 25):=BT.new _ _ _ _ rfl
 go_enter func4,ntmps4
 go_upto_region 1 with fail
 generalize hwA:w.alloc (.cells n7 25)=wA at *
 have hwA':w.alloc (.cells #[sN,sN,sN,sN,sN,sN,sN] 25)=wA:=hwA
 rw[hwA']
 clear hwA hwA'
 go_wp2_with fail
 refine(Q23 B _ code wA (HB.o.next HX0.o) HL.o).mono ?_
 rintro e w1 ⟨⟨b,rfl,hs1,hb1⟩,hx1⟩
 have HS1:=mh hs1
 have HX1:=mh (HX0.o.trans hx1)
 have HB1:=mh (HB0.o.next hx1)
 have HBL:=mh (zJ HB0.o.lt hb1)
 clear hs1 hx1 hb1 HX0 HB0 HB
 go_wp2_with fail
 refine(Fr _ b F HGF.o (Kd code) w1 HS1.o (Qaf code)).mono ?_
 rw[<-HZ.o]
 rintro e w2 ⟨⟨V,rfl,hR,hs2,hc2⟩,hSm,hOK2⟩
 have HX2:Z (Nx w w2):=Below.trans HX1.o (hc2.below HX1.o.size (λx hx=>by have e:x=b:=hx;have:=HBL.o;omega))
 have HB2:=mh (HB1.o.chg hc2 (λe=>by have e':w.heap.size=b:=e;have:=HBL.o;omega))
 have HR7:Z (R7 (w.heap.size+1) w2 V ZZ.1):=⟨λj=>Jb (hR.o j) (by have h1:=HB1.o.lt;omega),hR.ap⟩
 have HSM:=mh hSm
 have HO2:=mh hOK2
 have HS2:=mh hs2
 clear hR hs2 hc2 hSm hOK2 HX1 HB1 HS1 HGF HZ HL
 obtain⟨a0,c0,e0⟩:=(HR7.o.o 0).slice
 have hm0:=HSM.o 0 (by omega)
 generalize (ZZ.1 0).length=m0 at e0 hm0
 obtain⟨a1,c1,e1⟩:=(HR7.o.o 1).slice
 have hm1:=HSM.o 1 (by omega)
 generalize (ZZ.1 1).length=m1 at e1 hm1
 obtain⟨a2,c2,e2⟩:=(HR7.o.o 2).slice
 have hm2:=HSM.o 2 (by omega)
 generalize (ZZ.1 2).length=m2 at e2 hm2
 obtain⟨a3,c3,e3⟩:=(HR7.o.o 3).slice
 have hm3:=HSM.o 3 (by omega)
 generalize (ZZ.1 3).length=m3 at e3 hm3
 obtain⟨a4,c4,e4⟩:=(HR7.o.o 4).slice
 have hm4:=HSM.o 4 (by omega)
 generalize (ZZ.1 4).length=m4 at e4 hm4
 obtain⟨a5,c5,e5⟩:=(HR7.o.o 5).slice
 have hm5:=HSM.o 5 (by omega)
 generalize (ZZ.1 5).length=m5 at e5 hm5
 obtain⟨a6,c6,e6⟩:=(HR7.o.o 6).slice
 have hm6:=HSM.o 6 (by omega)
 generalize (ZZ.1 6).length=m6 at e6 hm6
 have HGX:Z (#[sL a0 m0 c0,sL a1 m1 c1,sL a2 m2 c2,sL a3 m3 c3,sL a4 m4 c4,sL a5 m5 c5,sL a6 m6 c6]=gx V):=by unfold Z;rw[gx,e0,e1,e2,e3,e4,e5,e6]
 rw[gx,e0,e1,e2,e3,e4,e5,e6]
 clear e0 e1 e2 e3 e4 e5 e6
 go_upto_region 3 with fail
 have HGB:Z (BT (w2.alloc (.cells #[sL a0 m0 c0,sL a1 m1 c1,sL a2 m2 c2,sL a3 m3 c3,sL a4 m4 c4,sL a5 m5 c5,sL a6 m6 c6] 25)) w2.heap.size #[sL a0 m0 c0,sL a1 m1 c1,sL a2 m2 c2,sL a3 m3 c3,sL a4 m4 c4,sL a5 m5 c5,sL a6 m6 c6] 25):=BT.new _ _ _ _ rfl
 have HXA:Z (Nx w2 (w2.alloc (.cells #[sL a0 m0 c0,sL a1 m1 c1,sL a2 m2 c2,sL a3 m3 c3,sL a4 m4 c4,sL a5 m5 c5,sL a6 m6 c6] 25))):=Qe _ _
 have HG2:=mh HB2.o.lt
 generalize w2.alloc (.cells #[sL a0 m0 c0,sL a1 m1 c1,sL a2 m2 c2,sL a3 m3 c3,sL a4 m4 c4,sL a5 m5 c5,sL a6 m6 c6] 25)=w3 at *
 generalize hg:w2.heap.size=g at *
 clear hg
 have HX3:=mh (HX2.o.trans HXA.o)
 have HB3:=mh (HB2.o.next HXA.o)
 have HS3:=mh (HS2.o.next HXA.o)
 have HR3:Z (R7 (w.heap.size+1) w3 V ZZ.1):=⟨λj=>(HR7.o.o j).next HXA.o,HR7.o.ap⟩
 clear HX2 HB2 HS2 HR7 HXA
 have y5:=HGB.o.c 5 rfl
 go_wp2_with fail
 refine(Pa _ b m5 ZZ.2 w3 HS3.o HO2.o (by omega)).mono ?_
 rintro e w4 ⟨z1,S4,rfl,hs4,hok4,hc4⟩
 have HB4:=mh (HB3.o.src HS3.o (by decide) hc4)
 have HGB4:=mh (HGB.o.src HS3.o (by decide) hc4)
 have HX4:Z (Nx w w4):=Below.trans HX3.o (hc4.below HX3.o.size (λx hx=>by have e:x=b:=hx;have:=HBL.o;omega))
 have HR4:=mh (HR3.o.src HS3.o hc4)
 have HS4:=mh hs4
 have HO4:=mh hok4
 clear hs4 hok4 hc4 HX3 HB3 HS3 HR3 HGB y5 HO2
 go_upto_region 5 with fail
 have hxd:Nx w4 w4.drew:=(Below.refl _ _).drew
 have HB5:=mh (HB4.o.next hxd)
 have HGB5:=mh (HGB4.o.next hxd)
 have HX5:=mh (HX4.o.trans hxd)
 have HR5:Z (R7 (w.heap.size+1) w4.drew V ZZ.1):=⟨λj=>(HR4.o.o j).next hxd,HR4.o.ap⟩
 have HS5:=mh (HS4.o.next hxd)
 have HSS:Z ((λq=>q.cell? (aD g 0)=some (sL a0 m0 c0)/\q.cell? (aD g 1)=some (sL a1 m1 c1)/\q.cell? (aD g 2)=some (sL a2 m2 c2)/\q.cell? (aD g 3)=some (sL a3 m3 c3)/\q.cell? (aD g 4)=some (sL a4 m4 c4)/\q.cell? (aD g 5)=some (sL a5 m5 c5)/\q.cell? (aD g 6)=some (sL a6 m6 c6)) w4.drew):=⟨HGB5.o.c 0 rfl,HGB5.o.c 1 rfl,HGB5.o.c 2 rfl,HGB5.o.c 3 rfl,HGB5.o.c 4 rfl,HGB5.o.c 5 rfl,HGB5.o.c 6 rfl⟩
 clear HB4 HGB4 HX4 HR4 HS4 hxd
 refine(wpIn_wide (n:=9)).1 ?_
 refine Qb (c:=8) (S:=λq=>q.cell? (aD g 0)=some (sL a0 m0 c0)/\q.cell? (aD g 1)=some (sL a1 m1 c1)/\q.cell? (aD g 2)=some (sL a2 m2 c2)/\q.cell? (aD g 3)=some (sL a3 m3 c3)/\q.cell? (aD g 4)=some (sL a4 m4 c4)/\q.cell? (aD g 5)=some (sL a5 m5 c5)/\q.cell? (aD g 6)=some (sL a6 m6 c6)) hmx (by kernel_rfl) (λhw hcl=>?_)
 generalize w4.drew=wd at *
 refine tq (i:=0) (v:=.agg #[sL a0 m0 c0,sL a1 m1 c1,sL a2 m2 c2,sL a3 m3 c3,sL a4 m4 c4,sL a5 m5 c5,sL a6 m6 c6]) (λhcl=>?_)
 refine tq (i:=1) (v:=iV z1) (λhcl=>?_)
 refine tq (i:=2) (v:=pT b) (λhcl=>?_)
 refine tq (i:=3) (v:=iV (m5:Int)) (λhcl=>?_)
 refine Q8 (i:=4) (by kernel_rfl) hcl (λhcl=>wpOpIn_step rfl (λK hK=>?_))
 go_simp
 refine⟨trivial,(callsIn_wide.2 (Pa _ b m5 S4 _ HS5.o HO4.o (by omega))).mono ?_⟩
 rintro e7 w6 ⟨z2,S6,rfl,hs6,hok6,hc6⟩
 have HB6:=mh (HB5.o.src HS5.o (by decide) hc6)
 have HGB6:=mh (HGB5.o.src HS5.o (by decide) hc6)
 have HX6:Z (Nx w w6):=Below.trans HX5.o (hc6.below HX5.o.size (λx hx=>by have e:x=b:=hx;have:=HBL.o;omega))
 have HR6:=mh (HR5.o.src HS5.o hc6)
 have HSS:Z ((λq=>q.cell? (aD g 0)=some (sL a0 m0 c0)/\q.cell? (aD g 1)=some (sL a1 m1 c1)/\q.cell? (aD g 2)=some (sL a2 m2 c2)/\q.cell? (aD g 3)=some (sL a3 m3 c3)/\q.cell? (aD g 4)=some (sL a4 m4 c4)/\q.cell? (aD g 5)=some (sL a5 m5 c5)/\q.cell? (aD g 6)=some (sL a6 m6 c6)) w6):=⟨HGB6.o.c 0 rfl,HGB6.o.c 1 rfl,HGB6.o.c 2 rfl,HGB6.o.c 3 rfl,HGB6.o.c 4 rfl,HGB6.o.c 5 rfl,HGB6.o.c 6 rfl⟩
 refine hK _ _ ⟨oR HSS.o,?_⟩
 clear hK K hs6 hok6 hc6 HB5 HGB5 HX5 HR5 HS5
 have BR:BT w6 w.heap.size #[sN,sN,sN,sN,sN,sN,sN] 25:=HB6.o
 have x0:=BR.c 0 rfl
 have fz0:=BR.blk.frozen 0
 have x1:=BR.c 1 rfl
 have fz1:=BR.blk.frozen 1
 have x2:=BR.c 2 rfl
 have fz2:=BR.blk.frozen 2
 have x3:=BR.c 3 rfl
 have fz3:=BR.blk.frozen 3
 have x4:=BR.c 4 rfl
 have fz4:=BR.blk.frozen 4
 have x5:=BR.c 5 rfl
 have fz5:=BR.blk.frozen 5
 have x6:=BR.c 6 rfl
 have fz6:=BR.blk.frozen 6
 have BS:=Km (a0:=sL a0 m0 c0) (a1:=sL a1 m1 c1) (a2:=sL a2 m2 c2) (a3:=sL a3 m3 c3) (a4:=sL a4 m4 c4) (a5:=sL a5 m5 c5) (a6:=sL a6 m6 c6) BR
 have HBS:=mh BS
 have HCF:Z (Chg (λx=>x=w.heap.size) w6 (((((((w6.setCell (aD w.heap.size 0) (sL a0 m0 c0)).setCell (aD w.heap.size 1) (sL a1 m1 c1)).setCell (aD w.heap.size 2) (sL a2 m2 c2)).setCell (aD w.heap.size 3) (sL a3 m3 c3)).setCell (aD w.heap.size 4) (sL a4 m4 c4)).setCell (aD w.heap.size 5) (sL a5 m5 c5)).setCell (aD w.heap.size 6) (sL a6 m6 c6))):=Ky
 clear BS BR
 refine Qh (i:=5) (by kernel_rfl) (wpOpIn_step rfl (λK hK=>?_))
 go_simp
 have HSS:Z ((λq=>q.cell? (aD g 0)=some (sL a0 m0 c0)/\q.cell? (aD g 1)=some (sL a1 m1 c1)/\q.cell? (aD g 2)=some (sL a2 m2 c2)/\q.cell? (aD g 3)=some (sL a3 m3 c3)/\q.cell? (aD g 4)=some (sL a4 m4 c4)/\q.cell? (aD g 5)=some (sL a5 m5 c5)/\q.cell? (aD g 6)=some (sL a6 m6 c6)) (((((((w6.setCell (aD w.heap.size 0) (sL a0 m0 c0)).setCell (aD w.heap.size 1) (sL a1 m1 c1)).setCell (aD w.heap.size 2) (sL a2 m2 c2)).setCell (aD w.heap.size 3) (sL a3 m3 c3)).setCell (aD w.heap.size 4) (sL a4 m4 c4)).setCell (aD w.heap.size 5) (sL a5 m5 c5)).setCell (aD w.heap.size 6) (sL a6 m6 c6))):=by
  have hb:=HGB6.o.chg HCF.o (λe=>by have e1:g=w.heap.size:=e;have:=HG2.o;omega)
  exact⟨hb.c 0 rfl,hb.c 1 rfl,hb.c 2 rfl,hb.c 3 rfl,hb.c 4 rfl,hb.c 5 rfl,hb.c 6 rfl⟩
 refine hK _ _ ⟨oR HSS.o,?_⟩
 clear hK K
 generalize (((((((w6.setCell (aD w.heap.size 0) (sL a0 m0 c0)).setCell (aD w.heap.size 1) (sL a1 m1 c1)).setCell (aD w.heap.size 2) (sL a2 m2 c2)).setCell (aD w.heap.size 3) (sL a3 m3 c3)).setCell (aD w.heap.size 4) (sL a4 m4 c4)).setCell (aD w.heap.size 5) (sL a5 m5 c5)).setCell (aD w.heap.size 6) (sL a6 m6 c6))=wF at *
 refine Qh (i:=6) (by kernel_rfl) (wpOpIn_step rfl (λK hK=>?_))
 go_simp
 refine hK _ _ ⟨oR HSS.o,?_⟩
 clear hK K
 refine Qh (i:=7) (by kernel_rfl) (wpOpIn_step rfl (λK hK=>?_))
 go_simp
 refine hK _ _ ⟨oR HSS.o,?_⟩
 clear hK K
 refine Ql (by kernel_rfl) ?_ _
 clear hw hcl HSS x0 fz0 x1 fz1 x2 fz2 x3 fz3 x4 fz4 x5 fz5 x6 fz6
 go_wp2
 refine Q8u rfl rfl rfl rfl HBS.o ?_
 rw[HGX.o]
 exact⟨⟨V,_,_,rfl,⟨λj=>Jb (J5 (HR6.o.o j) HCF.o (λx hx ee=>by have e1:x=w.heap.size:=ee;have:=(Q7 (HR6.o.o j) x hx).1;omega)) (Nat.le_succ _),HR6.o.ap⟩,HSM.o⟩,Below.trans HX6.o (HCF.o.below HX6.o.size (λx hx=>by have e:x=w.heap.size:=hx;omega))⟩
def lwV (bs:List UInt8)(i n:Nat):Nat:=if n<=1 then 0 else if bs.length=0 then (i*7)%n else ((bs.getD (i%bs.length) 0).toNat+i/bs.length)%n
theorem Q5t {bs:List UInt8}{i n:Nat}(h:1<=n):lwV bs i n<n:=by
 unfold lwV
 split
 ·omega
 ·split
  ·exact Nat.mod_lt _ (by omega)
  ·exact Nat.mod_lt _ (by omega)
theorem Et (B:Nat)(v:Value)(bs:List UInt8)(i n:Nat)(w:World)(h:HBy B w v bs)(hi:i<=1000000)(hn:n<=1000000)(hl:bs.length<=1048576) :
  Calls prog 6 #[v,iV i,iV n] w λe w'=>e=.returned (iV (lwV bs i n:Int))/\Nx w w':=by
 have HD:Z (lwV bs i n=if n<=1 then 0 else if bs.length=0 then (i*7)%n else ((bs.getD (i%bs.length) 0).toNat+i/bs.length)%n):=rfl
 obtain⟨va,vc,rfl,_,hk⟩:=h
 generalize hm:bs.length=m at *
 clear hm
 by_cases h1:n<=1
 ·have d1:decide ((n:Int)<=1)=true:=by simp;omega
  have d2:(n:Int)<=1:=by omega
  have HF:Z ((0:Int)=(lwV bs i n:Int)):=by unfold Z;rw[HD.o,if_pos h1];rfl
  go_enter func6,ntmps6
  go_wp2
  go_ret
  exact⟨Qu HF.o,Nx.refl _⟩
 have d1:decide ((n:Int)<=1)=false:=by simp;omega
 have d2:¬(n:Int)<=1:=by omega
 have dn:(n:Int)≠0:=by omega
 by_cases h2:m=0
 ·subst h2
  have HF:Z (((i:Int)*7).tmod n=(lwV bs i n:Int)):=by
   unfold Z
   rw[HD.o,if_neg h1,if_pos rfl]
   simp[Int.tmod_eq_emod_of_nonneg (show(0:Int)<=(i:Int)*7 by omega)]
  have w1:IntKind.i64.wrap ((i:Int)*7)=(i:Int)*7:=by rw[IntKind.wrap_i64];omega
  go_enter func6,ntmps6
  go_wp2
  go_ret
  exact⟨Qu HF.o,Nx.refl _⟩
 obtain⟨b,off,rfl,-,hb,hc⟩:=hk (by omega)
 obtain⟨r,hr⟩:∃r,i%m=r:=⟨_,rfl⟩
 obtain⟨q,hq⟩:∃q,i/m=q:=⟨_,rfl⟩
 have hrm:r<m:=by rw[<-hr];exact Nat.mod_lt _ (by omega)
 have hqi:q<=1000000:=by rw[<-hq];exact zM (Nat.div_le_self _ _) hi
 have xc:w.cell? (aD b (off+r))=some (.int .u8 (V7 bs r)):=hc r hrm
 obtain⟨y,hy⟩:∃y:Nat,(bs.getD r 0).toNat=y:=⟨_,rfl⟩
 have hyb:V7 bs r=(y:Int):=by unfold V7;rw[hy]
 have hy2:y<256:=by rw[<-hy];exact(bs.getD r 0).toNat_lt
 rw[hyb] at xc
 have t1:((i:Int)).tmod m=(r:Int):=by rw[Int.tmod_eq_emod_of_nonneg (by omega),<-hr];simp
 have t2:((i:Int)).tdiv m=(q:Int):=by rw[Int.tdiv_eq_ediv_of_nonneg (by omega),<-hq];simp
 have w2:IntKind.i64.wrap ((y:Int)+q)=(y:Int)+q:=by rw[IntKind.wrap_i64];omega
 have w3:IntKind.i64.wrap (y:Int)=(y:Int):=by rw[IntKind.wrap_i64];omega
 have w4:IntKind.i64.wrap (r:Int)=(r:Int):=by rw[IntKind.wrap_i64];omega
 have w5:IntKind.i64.wrap (q:Int)=(q:Int):=by rw[IntKind.wrap_i64];omega
 have dm:(m:Int)≠0:=by omega
 have dm':((m:Int)==0)=false:=by simp;omega
 have hrm':(r:Int)<m:=by omega
 obtain⟨z,hz⟩:∃z,(y+q)%n=z:=⟨_,rfl⟩
 have hzn:z<n:=by rw[<-hz];exact Nat.mod_lt _ (by omega)
 have t3:((y:Int)+q).tmod n=(z:Int):=by rw[Int.tmod_eq_emod_of_nonneg (by omega),<-hz];simp
 have w6:IntKind.i64.wrap (z:Int)=(z:Int):=by rw[IntKind.wrap_i64];omega
 have HF:Z ((z:Int)=(lwV bs i n:Int)):=by unfold Z;rw[HD.o,if_neg h1,if_neg h2,hr,hq,hy,hz]
 clear hc hk hr hq hy hyb hz HD
 go_enter func6,ntmps6
 go_wp2
 go_quiet (fail)
 go_wp2
 go_ret
 exact⟨Qu HF.o,⟨rfl,rfl,rfl,lR,λ_ _=>rfl⟩⟩
end Go.Proofs.YtphiaobccollhaaGreat
