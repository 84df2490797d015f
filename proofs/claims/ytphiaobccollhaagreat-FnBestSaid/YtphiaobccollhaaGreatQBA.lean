import Derived.Test.YtphiaobccollhaaGreatQDM
import Derived.Test.YtphiaobccollhaaGreatQYG
import Derived.Test.YtphiaobccollhaaGreatQVPD
namespace Go.Proofs.YtphiaobccollhaaGreat
open Go.RowKit Go.Sort Tryz
set_option linter.unusedVariables false
set_option maxRecDepth 1000000
set_option maxHeartbeats 16000000
variable {w:World}{b t:Nat}{cs cs':Array Value}{a:Act}
structure R7 (C:Nat)(w:World)(V:Nat->Value)(G:Nat->List Int):Prop where
 o:∀k,Q5 C w (V k) (G k)
 ap:∀j k g,j≠k->(V j).ownBlock=some g->(V k).ownBlock≠some g
abbrev gx (V:Nat->Value):Array Value:=#[V 0,V 1,V 2,V 3,V 4,V 5,V 6]
theorem R7.op {C:Nat}{V:Nat->Value}{G:Nat->List Int}(h:R7 C w V G)(k:Nat){n:Nat}(hn:(G k).length=n)(hp:0<n):∃g c,V k=sL (sA g) n c/\∀i,i<n->w.cell? (aD g i)=some (iV (iat (G k) i))/\w.frozen? (aD g i)=false:=by
 subst hn
 rcases (h.o k).opened with⟨_,h2⟩|⟨g,c,e,_,_,hr⟩
 ·omega
 ·have ho:=h.o k
  rw[e] at ho
  obtain⟨cs,h1,h2,h3⟩:=hr
  refine⟨g,c,e,λi hi=>⟨?_,ho.fz i⟩⟩
  unfold World.cell?
  simp[h1,h3 i hi]
structure GP (D b:Nat)(w0 w:World)(S:Src)(bl:List (Nat×Array Value×Nat))(V:Nat->Value)(G:Nat->List Int):Prop where
 f:FR D b w0 w S bl
 r:R7 w0.heap.size w V G
section
variable {D b g n c i:Nat}{w0 w w':World}{S S':Src}{bl:List (Nat×Array Value×Nat)}{V:Nat->Value}{G:Nat->List Int}
theorem GP.next (h:GP D b w0 w S bl V G)(k:Nx w w'):GP D b w0 w' S bl V G:=⟨h.f.next k,⟨λj=>(h.r.o j).next k,h.r.ap⟩⟩
theorem GP.drawn (h:GP D b w0 w S bl V G)(hS:Jj D w' b S')(k:Chg (Sx1 b) w w'):GP D b w0 w' S' bl V G:=⟨h.f.drawn hS k,⟨λj=>h.f.rowDrawn (h.r.o j) k,h.r.ap⟩⟩
theorem GP.turn (h:GP D b w0 w S bl V G)(k:Nat)(hk:bl[k]?=some (g,cs,t))(hc:Chg (λx=>x=g) w w')(hb:BT w' g cs' t):GP D b w0 w' S (bl.set k (g,cs',t)) V G:=⟨h.f.turn k hk hc hb,⟨λj=>h.f.rowTurn k hk (h.r.o j) hc,h.r.ap⟩⟩
theorem GP.put (h:GP D b w0 w S bl V G)(k:Nat)(e:V k=sL (sA g) n c)(hi:i<(G k).length)(x:Int):GP D b w0 (w.setCell (aD g i) (iV x)) S bl V (upd G k ((G k).set i x)):=by
 have ho:=h.r.o k
 rw[e] at ho
 have hc:Chg (λx=>some x=(sL (sA g) n c).ownBlock) w (w.setCell (aD g i) (iV x)):=Chg.set _ _ _ rfl
 refine⟨h.f.grow ho lR hc,⟨λj=>?_,h.r.ap⟩⟩
 by_cases ej:j=k
 ·subst ej
  rw[Vp,e]
  exact ho.put hi x
 ·rw[Jq _ _ ej]
  exact J5 (h.r.o j) hc (λg' hg' hx=>h.r.ap j k g' ej hg' (by rw[e];exact hx.symm))
theorem GP.app (h:GP D b w0 w S bl V G)(k:Nat){v':Value}{zs:List Int}(ho:Q5 w0.heap.size w' v' zs)(hc:Chg (λx=>some x=(V k).ownBlock) w w')(hb:∀g,v'.ownBlock=some g->(V k).ownBlock=some g\/w.heap.size<=g):GP D b w0 w' S bl (upd V k v') (upd G k zs):=by
 refine⟨h.f.grow (h.r.o k) lR hc,⟨λj=>?_,λj j' g hn hj hj'=>?_⟩⟩
 ·by_cases ej:j=k
  ·subst ej
   rw[Vp,Vp]
   exact ho
  ·rw[Jq _ _ ej,Jq _ _ ej]
   exact J5 (h.r.o j) hc (λg' hg' hx=>h.r.ap j k g' ej hg' hx.symm)
 ·by_cases e1:j=k
  ·subst e1
   rw[Vp] at hj
   rw[Jq _ _ (Ne.symm hn)] at hj'
   rcases hb g hj with q|q
   ·exact h.r.ap j j' g hn q hj'
   ·have:=(Q7 (h.r.o j') g hj').2
    omega
  ·rw[Jq _ _ e1] at hj
   by_cases e2:j'=k
   ·subst e2
    rw[Vp] at hj'
    rcases hb g hj' with q|q
    ·exact h.r.ap j j' g hn hj q
    ·have:=(Q7 (h.r.o j) g hj).2
     omega
   ·rw[Jq _ _ e2] at hj'
    exact h.r.ap j j' g hn hj hj'
theorem GP.cut (h:GP D b w0 w S bl V G)(k:Nat)(e:V k=sL (sA g) n c){m:Nat}(hm:m<=(G k).length):GP D b w0 w S bl (upd V k (sL (sA g) m c)) (upd G k ((G k).take m)):=by
 have ho:=h.r.o k
 rw[e] at ho
 exact h.app k (ho.cut hm) (Chg.nx (Nx.refl _)) (λg' hg'=>oL (by rw[e];exact hg'))
def GE (D b:Nat)(w w':World)(G:Nat->List Int)(S:Src)(e:Ending):Prop:=∃V,e=.returned (.agg (gx V))/\R7 w.heap.size w' V G/\Jj D w' b S/\Chg (Sx1 b) w w'
end
theorem Qfz:(prog.info? 25).map (·.size)=some 7:=by kernel_rfl
theorem Vo {ops:Array Oper}{rest:List Oper}{o:Oper}{Q:Exit->Act->World->Prop}(hgd:o.guard=none)(p v:Operand)(ho:o.op=.store 25 p v)(hp:a.eval p=pT b)(hv:a.eval v=.agg cs')(hb:BT w b cs t)(hs:cs.size=7)(hs':cs'.size=7)(h1:(cs'.toList.all λv=>v.oneCell')=true)
  (h:∀w',BT w' b cs' t->Chg (λx=>x=b) w w'->wpList prog ops Q rest (a.put o.dst undef) w'):wpList prog ops Q (o::rest) a w:=
 wpList_store_row hgd _ p v ho b cs' hp hv t cs hb (by rw[Qfz,hs']) (by rw[hs,hs']) (by rw[<-Array.all_toList];exact h1) (h _ (U9 hb).1 (U9 hb).2)
section
variable {C:Nat}{w w':World}{v0 v1 v2 v3:Value}{N:Nt}{vn vw vr:Nat->Value}
theorem ONt.addWay (h:ONt C w v0 v1 v2 v3 N vn vw vr)(hn:N.rels=[]){z:Nat}(hz:∀u∈W1 N v0 vn vw vr,∀g,u.ownBlock=some g->g<z){v va vb:Value}{x:Wy}(hr:w'.ownsRow C 93 4 v (N.ways.length+1) (G8 N.ways vn vw++Q8c x va vb))(hc:Chg (λy=>some y=v1.ownBlock) w w')
  (ha:Q5 z w va x.nodes) (hb:Q5 z w vb x.weights) (hCz:C<=z) (hab:∀g,va.ownBlock=some g->vb.ownBlock≠some g) :
  ONt C w' v0 v v2 v3 ⟨N.nodes,N.ways++[x],N.rels,N.turns,N.uturn⟩ (upd vn N.ways.length va) (upd vw N.ways.length vb) vr:=by
 have far:∀{u:Value}{zs:List Int},Q5 C w u zs->Q5 C w' u zs:=λho=>Xe ho h.ways (by decide) hc
 have hl:(N.ways++[x]).length=N.ways.length+1:=by simp
 refine⟨far h.nodes,?_,λi hi=>?_,λi hi=>?_,Xe h.rels h.ways (by decide) hc,λi hi=>far (h.rw_ i hi),Xe h.turns h.ways (by decide) hc,?_⟩
 ·show w'.ownsRow C _ 4 v (N.ways++[x]).length (G8 (N.ways++[x]) (upd vn N.ways.length va) (upd vw N.ways.length vb))
  rw[hl,Q0b]
  exact hr
 ·replace hi:i<(N.ways++[x]).length:=hi
  show Q5 C w' (upd vn N.ways.length va i) (wat (N.ways++[x]) i).nodes
  by_cases e:i=N.ways.length
  ·subst e
   rw[Vp,Wo]
   exact far (ha.base hCz)
  ·rw[Jq _ _ e,Wn (by omega)]
   exact far (h.wn i (by omega))
 ·replace hi:i<(N.ways++[x]).length:=hi
  show Q5 C w' (upd vw N.ways.length vb i) (wat (N.ways++[x]) i).weights
  by_cases e:i=N.ways.length
  ·subst e
   rw[Vp,Wo]
   exact far (hb.base hCz)
  ·rw[Jq _ _ e,Wn (by omega)]
   exact far (h.ww i (by omega))
 ·have e1:W1 N v0 vn vw vr=v0::prs N.ways.length vn vw:=by unfold W1 prs;rw[hn];simp
  have e2:W1 ⟨N.nodes,N.ways++[x],N.rels,N.turns,N.uturn⟩ v0 (upd vn N.ways.length va) (upd vw N.ways.length vb) vr=v0::(prs N.ways.length vn vw++[va,vb]):=by
   rw[<-Q3h]
   unfold W1 prs
   simp only[hn,hl]
   simp
  have hap:=h.apart
  rw[e1] at hap hz
  rw[e2]
  show Apt ((v0::prs N.ways.length vn vw)++[va,vb])
  refine List.pairwise_append.2 ⟨hap,?_,λu hu t ht g hg e=>?_⟩
  ·refine List.pairwise_cons.2 ⟨λu hu g hg=>?_,List.pairwise_singleton _ _⟩
   have:u=vb:=by simpa using hu
   subst this
   exact hab g hg
  ·have h1:=hz u hu g hg
   simp at ht
   rcases ht with rfl|rfl
   ·have:=(Q7 ha g e).1;omega
   ·have:=(Q7 hb g e).1;omega
end
def lmW (id:Int)(bo:Bool)(a b:Int)(segs:Nat)(wt:Int):Wy:=⟨id,bo,lwN a b segs,lwW wt segs⟩
theorem FR.start {D:Nat}{S:Src}(h:Jj D w b S):FR D b w w S []:=⟨Chg.nx (Nx.refl _),h,by simp,by simp,by simp⟩
def Q71 (k:Int):List Wy:=[lmW 0 true 7 7 99 1,lmW 1 false 7 7 1 0,lmW 2 false 7 7 (1+k.toNat%2) 2]
def Wr (S:Src):Nt:=⟨[7],Q71 (nv (ns S 3) 4),if 1<nv (ns S 3) 4 then [⟨1,false,1,2,true,7,[]⟩] else [],[],nv S 3⟩
def Q0d (S:Src):Src:=ns (ns S 3) 4
structure StB (D b g:Nat)(w0 w:World)(S:Src)(v0 v1 v2 v3:Value)(N:Nt)(vn vw vr:Nat->Value):Prop where
 f:FR D b w0 w S [(w0.heap.size,E7,60),(g,#[v0,v1,v2,v3,iV N.uturn],60)]
 n:ONt (w0.heap.size+1) w v0 v1 v2 v3 N vn vw vr
section
variable {D b g:Nat}{w0 w w':World}{S S':Src}{v0 v1 v2 v3:Value}{N:Nt}{vn vw vr:Nat->Value}
theorem StB.next (h:StB D b g w0 w S v0 v1 v2 v3 N vn vw vr)(k:Nx w w'):StB D b g w0 w' S v0 v1 v2 v3 N vn vw vr:=⟨h.f.next k,h.n.next k⟩
theorem StB.drawn (h:StB D b g w0 w S v0 v1 v2 v3 N vn vw vr)(hS:Jj D w' b S')(k:Chg (Sx1 b) w w'):StB D b g w0 w' S' v0 v1 v2 v3 N vn vw vr:=⟨h.f.drawn hS k,h.n.src h.f.src k⟩
theorem StB.turn (h:StB D b g w0 w S v0 v1 v2 v3 N vn vw vr)(hb:BT w' w0.heap.size cs 60)(hc:Chg (λx=>x=w0.heap.size) w w'):FR D b w0 w' S [(w0.heap.size,cs,60),(g,#[v0,v1,v2,v3,iV N.uturn],60)]/\ONt (w0.heap.size+1) w' v0 v1 v2 v3 N vn vw vr:=
 ⟨h.f.turn 0 rfl hc hb,h.n.turnBox (t:=60) (h.f.at 0 rfl) (by decide) (λe=>absurd e (by decide)) hc⟩
theorem StB.lay {u0 u1 u2 u3:Value}{M:Nt}{un uw ur:Nat->Value}(i:Nat)(v:Value)(h:FR D b w0 w S [(w0.heap.size,E7,60),(g,#[v0,v1,v2,v3,iV N.uturn],60)])(hn:ONt (w0.heap.size+1) w u0 u1 u2 u3 M un uw ur)(e:(#[v0,v1,v2,v3,iV N.uturn]:Array Value).setIfInBounds i v=#[u0,u1,u2,u3,iV M.uturn]):StB D b g w0 (w.setCell (aD g i) v) S u0 u1 u2 u3 M un uw ur:=
 ⟨by rw[<-e];exact h.set 1 rfl i v,hn.turnBox (t:=60) (h.at 1 rfl) (by decide) (λe=>absurd e (by decide)) (Chg.set _ _ _ rfl)⟩
theorem StB.fr (h:StB D b g w0 w S v0 v1 v2 v3 N vn vw vr){sz n:Nat}{v:Value}{xs:List Value}(hr:w.ownsRow (w0.heap.size+1) t sz v n xs)(ht:60≠t/\t≠44/\t≠5)(hc:Chg (λx=>some x=v.ownBlock) w w'):FR D b w0 w' S [(w0.heap.size,E7,60),(g,#[v0,v1,v2,v3,iV N.uturn],60)]:=
 h.f.growX hc (λp hp e=>(h.f.bx p hp).1.neRow hr (by have q:p.2.2=60:=(by simp at hp;rcases hp with rfl|rfl<;>rfl);rw[q];exact ht.1) e) (λx hx=>by obtain⟨cs,hb⟩:=Q1q hr hx.symm;exact⟨cs,t,hb,ht.2⟩) (λx hx=>by have:=(Q7 hr x hx.symm).1;omega)
theorem StB.way (h:StB D b g w0 w S v0 v1 v2 v3 N vn vw vr)(h0:N.rels=[])(hx:Nx w w'){va vb:Value}{x:Wy}(ha:Q5 w.heap.size w' va x.nodes)(hb:Q5 w.heap.size w' vb x.weights)(hab:∀g,va.ownBlock=some g->vb.ownBlock≠some g)(v':Value)(w8:World)(r1:w8.ownsRow (w0.heap.size+1) 93 4 v' (N.ways.length+1) (G8 N.ways vn vw++Q8c x va vb))(r2:Chg (λy=>some y=v1.ownBlock) w' w8) :
  (∃vn' vw',StB D b g w0 (w8.setCell (aD g 1) v') S v0 v' v2 v3 ⟨N.nodes,N.ways++[x],N.rels,N.turns,N.uturn⟩ vn' vw' vr)/\BT w8 g #[v0,v1,v2,v3,iV N.uturn] 60:=by
 have hq:=h.next hx
 have hF:=hq.fr hq.n.ways (by decide) r2
 exact⟨⟨_,_,StB.lay 1 v' hF (hq.n.addWay h0 (A2 h.n) r1 r2 ha hb (h.f.at 0 rfl).lt hab) rfl⟩,hF.at 1 rfl⟩
theorem StB.rel (h:StB D b g w0 w S v0 v1 v2 v3 N vn vw vr){x:Rl}(h0:x.ways=[])(v':Value)(w8:World)(r1:w8.ownsRow (w0.heap.size+1) 89 7 v' (N.rels.length+1) (Fp N.rels vr++Qak x sN))(r2:Chg (λy=>some y=v2.ownBlock) w w8) :
  (∃vr',StB D b g w0 (w8.setCell (aD g 2) v') S v0 v1 v' v3 (nW N (N.rels++[x])) vn vw vr')/\BT w8 g #[v0,v1,v2,v3,iV N.uturn] 60:=by
 have hF:=h.fr h.n.rels (by decide) r2
 exact⟨⟨_,StB.lay 2 v' hF (h.n.addRel (z:=w.heap.size) (A2 h.n) r1 r2 (by rw[h0];exact⟨rfl,oL ⟨rfl,rfl⟩⟩) (h.f.at 0 rfl).lt) rfl⟩,hF.at 1 rfl⟩
end
def NE (D b:Nat)(w w':World)(N:Nt)(S:Src)(e:Ending):Prop:=∃v0 v1 v2 v3 vn vw vr,e=.returned (.agg #[v0,v1,v2,v3,iV N.uturn])/\ONt (w.heap.size+1) w' v0 v1 v2 v3 N vn vw vr/\Jj D w' b S/\Chg (Sx1 b) w w'
theorem Qfy:(prog.info? 60).map (·.size)=some 5:=by kernel_rfl
theorem Ua {ops:Array Oper}{rest:List Oper}{o:Oper}{Q:Exit->Act->World->Prop}(hgd:o.guard=none)(p v:Operand)(ho:o.op=.store 60 p v)(hp:a.eval p=pT b)(hv:a.eval v=.agg cs')(hb:BT w b cs t)(hs:cs.size=5)(hs':cs'.size=5)(h1:(cs'.toList.all λv=>v.oneCell')=true)
  (h:∀w',BT w' b cs' t->Chg (λx=>x=b) w w'->wpList prog ops Q rest (a.put o.dst undef) w'):wpList prog ops Q (o::rest) a w:=
 wpList_store_row hgd _ p v ho b cs' hp hv t cs hb (by rw[Qfy,hs']) (by rw[hs,hs']) (by rw[<-Array.all_toList];exact h1) (h _ (U9 hb).1 (U9 hb).2)
theorem Q3a {R:Ending->World->Prop}{x0 x1 x2 x3 x4:Value}(h2:a.tmps[2]?.getD undef=pT b)(hd:a.defers=[])(hb:BT w b #[x0,x1,x2,x3,x4] t)(hR:R (.returned (.agg #[x0,x1,x2,x3,x4])) w):bodyPost prog Tryz.f33 R .ret a w:=by
 have p0:=hb.c 0 rfl
 have p1:=hb.c 1 rfl
 have p2:=hb.c 2 rfl
 have p3:=hb.c 3 rfl
 have p4:=hb.c 4 rfl
 exact bodyPost_ret (by simp[results,results33,h2,go_sem,p0,p1,p2,p3,p4]) hd hR
theorem Q5x (D b:Nat)(S:Src)(w:World)(hS:Jj D w b S)(hok:SOk S) :
  Calls prog 33 #[pT b] w λe w'=>NE D b w w' (Wr S) (Q0d S) e:=by
 have hmx:prog.follows .mixedOrders=true:=by kernel_rfl
 have HOK:Z (SOk S):=hok
 have HOK1:=mh (Qf hok 3)
 have HSS0:=mh hS
 have HF0:Z (FR D b w ((w.alloc (.cells E7 60)).alloc (.cells #[iV 7] 2)) S [(w.heap.size,E7,60)]):=((FR.start hS).alloc E7 60 (by decide)).next (Qe _ _)
 have HO0:Z (Q5 (w.heap.size+1) ((w.alloc (.cells E7 60)).alloc (.cells #[iV 7] 2)) (sL (sA (w.heap.size+1)) 1 1) [7]):=⟨rfl,oR ⟨w.heap.size+1,1,#[iV 7],rfl,lR,BT.new _ _ _ _ (by rw[Q1]),lR,by simp[maxLen],rfl,rfl⟩⟩
 have hk0:=Qv HOK1.o 4
 obtain⟨kk,hkk⟩:∃n:Nat,nv (ns S 3) 4=(n:Int):=⟨(nv (ns S 3) 4).toNat,by have:=hk0.1;omega⟩
 have hk2:kk<4:=by have:=hk0.2 (by omega);omega
 have HE:Z (Wr S=⟨[7],Q71 (kk:Int),if 1<(kk:Int) then [⟨1,false,1,2,true,7,[]⟩] else [],[],nv S 3⟩):=by unfold Z;rw[<-hkk];rfl
 have HE2:Z (Q0d S=ns (ns S 3) 4):=rfl
 have HKK:=mh hkk
 generalize Wr S=N0 at *
 generalize Q0d S=S0 at *
 clear hS hok hk0 hkk HSS0
 go_enter func33,ntmps33
 go_upto_region 1 with fail
 go_wp2_with fail
 refine(Q6 D b S 3 _ HF0.o.src HOK.o (by omega)).mono ?_
 rintro e w1 ⟨rfl,hs1,hc1⟩
 have HF1:=mh (HF0.o.drawn hs1 hc1)
 have HO1:=mh (HF0.o.rowDrawn HO0.o hc1)
 clear hs1 hc1 HF0 HO0
 generalize nv S 3=u at *
 have HA:Z (StB D b w1.heap.size w (w1.alloc (.cells #[sL (sA (w.heap.size+1)) 1 1,sN,sN,sN,iV u] 60)) (ns S 3) (sL (sA (w.heap.size+1)) 1 1) sN sN sN (⟨[7],[],[],[],u⟩) (λ_=>sN) (λ_=>sN) (λ_=>sN)):=
  ⟨HF1.o.alloc #[sL (sA (w.heap.size+1)) 1 1,sN,sN,sN,iV u] 60 (by decide),⟨HO1.o.next (Qe _ _),⟨rfl,oL ⟨rfl,rfl⟩⟩,λi hi=>absurd hi (zK _),λi hi=>absurd hi (zK _),⟨rfl,oL ⟨rfl,rfl⟩⟩,λi hi=>absurd hi (zK _),⟨rfl,oL ⟨rfl,rfl⟩⟩,List.pairwise_singleton _ _⟩⟩
 clear HF1 HO1
 go_upto_region 2 with fail
 generalize w1.alloc (.cells #[sL (sA (w.heap.size+1)) 1 1,sN,sN,sN,iV u] 60)=wA at *
 generalize w1.heap.size=g at *
 generalize (λ_=>sN:Nat->Value)=vz at *
 obtain⟨vr,vn,vw,H0⟩:∃vr vn vw,Z (StB D b g w wA (ns S 3) (sL (sA (w.heap.size+1)) 1 1) sN sN sN (⟨[7],[],[],[],u⟩) (vn) (vw) (vr)):=⟨vz,vz,vz,HA⟩
 clear HA
 go_upto_region 2 with fail
 have HD:=mh (H0.o.next (show Nx wA wA.drew from(Below.refl _ _).drew))
 clear H0
 have HSS:Z ((λq=>q.cell? (aD g 1)=some sN) wA.drew):=(HD.o.f.at 1 rfl).c 1 rfl
 refine(wpIn_wide (n:=9)).1 ?_
 refine Qb (c:=6) (S:=λq=>q.cell? (aD g 1)=some sN) hmx (by kernel_rfl) (λhw hcl=>?_)
 generalize wA.drew=wd at *
 refine tq (i:=0) (v:=.pointer (some (aD g 1))) (λhcl=>?_)
 refine tq (i:=1) (v:=sN) (λhcl=>?_)
 refine Q8 (i:=2) (by kernel_rfl) hcl (λhcl=>wpOpIn_step rfl (λK hK=>?_))
 go_simp
 refine⟨trivial,(callsIn_wide.2 (Wg 0 7 7 1 true 99 _ (by omega))).mono ?_⟩
 rintro e7 w7 ⟨va,vb,rfl,hva,hvb,hab,hx7⟩
 obtain⟨aa,ca,rfl⟩:=Qd hva
 obtain⟨ab,cb,rfl⟩:=Qd hvb
 have HY:=mh (HD.o.way rfl hx7 (x:=lmW 0 true 7 7 99 1) hva hvb hab)
 have HQ:=mh (HD.o.next hx7)
 clear hva hvb hab hx7 HD
 have HSS:Z ((λq=>q.cell? (aD g 1)=some sN) w7):=(HQ.o.f.at 1 rfl).c 1 rfl
 refine hK _ _ ⟨oR HSS.o,?_⟩
 clear hK K
 refine Q8 (i:=3) (by kernel_rfl) hcl (λhcl=>wpOpIn_step rfl (λK hK=>?_))
 go_simp
 refine hK _ _ ⟨oR (Q0 (Qe _ _) HSS.o),?_⟩
 clear hK K
 refine Q8 (i:=4) (by kernel_rfl) hcl (λhcl=>wpOpIn_step rfl (λK hK=>?_))
 have hz7:w.heap.size+1<=w7.heap.size:=(HQ.o.f.at 0 rfl).lt
 refine Un Iq underlying56 rfl (by decide) (by decide) rfl (.tmp 10) (.tmp 12) rfl (w.heap.size+1) 0 sN (G8 ([]:List Wy) vn vw) [iV 0,.bool true,sL aa _ ca,sL ab _ cb] w7 _ rfl (by simp[Act.eval]) HQ.o.n.ways (by simp[Act.eval]) rfl (by simp[Value.oneCell']) (by omega) hz7 ?_
 intro a8 c8 w8 r1 r2 r3
 obtain⟨h8,hb8⟩:=HY.o _ w8 r1 r2
 have HSS:Z ((λq=>q.cell? (aD g 1)=some sN) w8):=hb8.c 1 rfl
 refine hK _ _ ⟨oR HSS.o,?_⟩
 clear hK K r1 r2 r3
 refine Q8 (i:=5) (by kernel_rfl) hcl (λhcl=>wpOpIn_step rfl (λK hK=>?_))
 go_simp
 refine hK _ _ ⟨oR HSS.o,?_⟩
 clear hK K
 have x1:=hb8.c 1 rfl
 have fz1:=hb8.blk.frozen 1
 refine Qh (i:=6) (by kernel_rfl) (wpOpIn_step rfl (λK hK=>?_))
 go_simp
 refine hK _ _ ⟨oL (by decide),?_⟩
 clear hK K
 refine Ql (by kernel_rfl) ?_ _
 have HB0:=mh h8
 clear x1 fz1 hw hcl HSS HQ HY hb8 h8
 generalize w8.setCell (aD g 1) (sL a8 (0+1) c8)=wB at *
 obtain⟨vn,vw,HB⟩:∃vn vw,Z (StB D b g w wB (ns S 3) (sL (sA (w.heap.size+1)) 1 1) (sL a8 1 c8) sN sN (⟨[7],[lmW 0 true 7 7 99 1],[],[],u⟩) (vn) (vw) (vr)):=HB0.o
 clear HB0
 generalize a8=a1 at *
 generalize c8=c1 at *
 go_upto_region 3 with fail
 have HD:=mh (HB.o.next (show Nx wB wB.drew from(Below.refl _ _).drew))
 clear HB
 have HSS:Z ((λq=>q.cell? (aD g 1)=some (sL a1 1 c1)) wB.drew):=(HD.o.f.at 1 rfl).c 1 rfl
 refine(wpIn_wide (n:=9)).1 ?_
 refine Qb (c:=6) (S:=λq=>q.cell? (aD g 1)=some (sL a1 1 c1)) hmx (by kernel_rfl) (λhw hcl=>?_)
 generalize wB.drew=wd at *
 refine tq (i:=0) (v:=.pointer (some (aD g 1))) (λhcl=>?_)
 refine tq (i:=1) (v:=sL a1 1 c1) (λhcl=>?_)
 refine Q8 (i:=2) (by kernel_rfl) hcl (λhcl=>wpOpIn_step rfl (λK hK=>?_))
 go_simp
 refine⟨trivial,(callsIn_wide.2 (Wg 1 7 7 0 false 1 _ (by omega))).mono ?_⟩
 rintro e7 w7 ⟨va,vb,rfl,hva,hvb,hab,hx7⟩
 obtain⟨aa,ca,rfl⟩:=Qd hva
 obtain⟨ab,cb,rfl⟩:=Qd hvb
 have HY:=mh (HD.o.way rfl hx7 (x:=lmW 1 false 7 7 1 0) hva hvb hab)
 have HQ:=mh (HD.o.next hx7)
 clear hva hvb hab hx7 HD
 have HSS:Z ((λq=>q.cell? (aD g 1)=some (sL a1 1 c1)) w7):=(HQ.o.f.at 1 rfl).c 1 rfl
 refine hK _ _ ⟨oR HSS.o,?_⟩
 clear hK K
 refine Q8 (i:=3) (by kernel_rfl) hcl (λhcl=>wpOpIn_step rfl (λK hK=>?_))
 go_simp
 refine hK _ _ ⟨oR (Q0 (Qe _ _) HSS.o),?_⟩
 clear hK K
 refine Q8 (i:=4) (by kernel_rfl) hcl (λhcl=>wpOpIn_step rfl (λK hK=>?_))
 have hz7:w.heap.size+1<=w7.heap.size:=(HQ.o.f.at 0 rfl).lt
 refine Un Iq underlying56 rfl (by decide) (by decide) rfl (.tmp 16) (.tmp 18) rfl (w.heap.size+1) 1 (sL a1 1 c1) (G8 [lmW 0 true 7 7 99 1] vn vw) [iV 1,.bool false,sL aa _ ca,sL ab _ cb] w7 _ rfl (by simp[Act.eval]) HQ.o.n.ways (by simp[Act.eval]) rfl (by simp[Value.oneCell']) (by omega) hz7 ?_
 intro a8 c8 w8 r1 r2 r3
 obtain⟨h8,hb8⟩:=HY.o _ w8 r1 r2
 have HSS:Z ((λq=>q.cell? (aD g 1)=some (sL a1 1 c1)) w8):=hb8.c 1 rfl
 refine hK _ _ ⟨oR HSS.o,?_⟩
 clear hK K r1 r2 r3
 refine Q8 (i:=5) (by kernel_rfl) hcl (λhcl=>wpOpIn_step rfl (λK hK=>?_))
 go_simp
 refine hK _ _ ⟨oR HSS.o,?_⟩
 clear hK K
 have x1:=hb8.c 1 rfl
 have fz1:=hb8.blk.frozen 1
 refine Qh (i:=6) (by kernel_rfl) (wpOpIn_step rfl (λK hK=>?_))
 go_simp
 refine hK _ _ ⟨oL (by decide),?_⟩
 clear hK K
 refine Ql (by kernel_rfl) ?_ _
 have HC0:=mh h8
 clear x1 fz1 hw hcl HSS HQ HY hb8 h8
 generalize w8.setCell (aD g 1) (sL a8 (1+1) c8)=wC at *
 obtain⟨vn,vw,HC⟩:∃vn vw,Z (StB D b g w wC (ns S 3) (sL (sA (w.heap.size+1)) 1 1) (sL a8 2 c8) sN sN (⟨[7],[lmW 0 true 7 7 99 1,lmW 1 false 7 7 1 0],[],[],u⟩) (vn) (vw) (vr)):=HC0.o
 clear HC0
 generalize a8=a2 at *
 generalize c8=c2 at *
 go_wp2_with fail
 refine(Q6 D b (ns S 3) 4 wC HC.o.f.src HOK1.o (by omega)).mono ?_
 rintro e wD ⟨rfl,hs1,hc1⟩
 have HD0:=mh (HC.o.drawn hs1 hc1)
 clear hs1 hc1 HC
 rw[HKK.o]
 go_upto_region 5 with fail
 have HD:=mh (HD0.o.next (show Nx wD wD.drew from(Below.refl _ _).drew))
 clear HD0
 have HSS:Z ((λq=>q.cell? (aD g 1)=some (sL a2 2 c2)) wD.drew):=(HD.o.f.at 1 rfl).c 1 rfl
 refine(wpIn_wide (n:=9)).1 ?_
 refine Qb (c:=9) (S:=λq=>q.cell? (aD g 1)=some (sL a2 2 c2)) hmx (by kernel_rfl) (λhw hcl=>?_)
 generalize wD.drew=wd at *
 refine tq (i:=0) (v:=.pointer (some (aD g 1))) (λhcl=>?_)
 refine tq (i:=1) (v:=sL a2 2 c2) (λhcl=>?_)
 refine tq (i:=2) (v:=iV (kk:Int)) (λhcl=>?_)
 refine tk (i:=3) (v:=iV ((kk%2:Nat):Int)) hw hcl ⟨oL ⟨by kernel_rfl,?y3⟩,λ_=>rfl⟩ HSS.o (λhcl=>?_)
 case y3=>
  rintro q c1
  go_simp
  exact Int.tmod_eq_emod_of_nonneg (by omega)
 refine tk (i:=4) (v:=iV ((1+kk%2:Nat):Int)) hw hcl ⟨oL ⟨by kernel_rfl,?y4⟩,λ_=>rfl⟩ HSS.o (λhcl=>?_)
 case y4=>
  rintro q c1
  go_simp
  rw[IntKind.wrap_i64];omega
 refine Q8 (i:=5) (by kernel_rfl) hcl (λhcl=>wpOpIn_step rfl (λK hK=>?_))
 go_simp
 refine⟨trivial,(callsIn_wide.2 (Wg 2 7 7 2 false (1+kk%2) _ (by omega))).mono ?_⟩
 rintro e7 w7 ⟨va,vb,rfl,hva,hvb,hab,hx7⟩
 obtain⟨aa,ca,rfl⟩:=Qd hva
 obtain⟨ab,cb,rfl⟩:=Qd hvb
 have HY:=mh (HD.o.way rfl hx7 (x:=lmW 2 false 7 7 (1+kk%2) 2) hva hvb hab)
 have HQ:=mh (HD.o.next hx7)
 clear hva hvb hab hx7 HD
 have HSS:Z ((λq=>q.cell? (aD g 1)=some (sL a2 2 c2)) w7):=(HQ.o.f.at 1 rfl).c 1 rfl
 refine hK _ _ ⟨oR HSS.o,?_⟩
 clear hK K
 refine Q8 (i:=6) (by kernel_rfl) hcl (λhcl=>wpOpIn_step rfl (λK hK=>?_))
 go_simp
 refine hK _ _ ⟨oR (Q0 (Qe _ _) HSS.o),?_⟩
 clear hK K
 refine Q8 (i:=7) (by kernel_rfl) hcl (λhcl=>wpOpIn_step rfl (λK hK=>?_))
 have hz7:w.heap.size+1<=w7.heap.size:=(HQ.o.f.at 0 rfl).lt
 refine Un Iq underlying56 rfl (by decide) (by decide) rfl (.tmp 24) (.tmp 29) rfl (w.heap.size+1) 2 (sL a2 2 c2) (G8 [lmW 0 true 7 7 99 1,lmW 1 false 7 7 1 0] vn vw) [iV 2,.bool false,sL aa _ ca,sL ab _ cb] w7 _ rfl (by simp[Act.eval]) HQ.o.n.ways (by simp[Act.eval]) rfl (by simp[Value.oneCell']) (by omega) hz7 ?_
 intro a8 c8 w8 r1 r2 r3
 obtain⟨h8,hb8⟩:=HY.o _ w8 r1 r2
 have HSS:Z ((λq=>q.cell? (aD g 1)=some (sL a2 2 c2)) w8):=hb8.c 1 rfl
 refine hK _ _ ⟨oR HSS.o,?_⟩
 clear hK K r1 r2 r3
 refine Q8 (i:=8) (by kernel_rfl) hcl (λhcl=>wpOpIn_step rfl (λK hK=>?_))
 go_simp
 refine hK _ _ ⟨oR HSS.o,?_⟩
 clear hK K
 have x1:=hb8.c 1 rfl
 have fz1:=hb8.blk.frozen 1
 refine Qh (i:=9) (by kernel_rfl) (wpOpIn_step rfl (λK hK=>?_))
 go_simp
 refine hK _ _ ⟨oL (by decide),?_⟩
 clear hK K
 refine Ql (by kernel_rfl) ?_ _
 have HE0:=mh h8
 clear x1 fz1 hw hcl HSS HQ HY hb8 h8
 generalize w8.setCell (aD g 1) (sL a8 (2+1) c8)=wE at *
 obtain⟨vn,vw,HF⟩:∃vn vw,Z (StB D b g w wE (ns (ns S 3) 4) (sL (sA (w.heap.size+1)) 1 1) (sL a8 3 c8) sN sN (⟨[7],(Q71 (kk:Int)),[],[],u⟩) (vn) (vw) (vr)):=HE0.o
 clear HE0
 generalize a8=a3 at *
 generalize c8=c3 at *
 by_cases hk:1<kk
 ·have hk':(1:Int)<(kk:Int):=by omega
  rw[if_pos hk'] at HE
  have hz:w.heap.size+1<=wE.heap.size:=(HF.o.f.at 0 rfl).lt
  have y2:wE.cell? (aD g 2)=some sN:=(HF.o.f.at 1 rfl).c 2 rfl
  have HROW:wE.ownsRow (w.heap.size+1) 89 7 sN 0 (Fp [] vr):=HF.o.n.rels
  go_wp2_with (at_builtin;refine U7 Q48 underlying57 rfl (by decide) (by decide) rfl (.tmp 35) (.tmp 37) rfl (w.heap.size+1) 0 sN (Fp [] vr) [iV 1,.bool false,iV 1,iV 2,.bool true,iV 7,sN] wE (by simp[Act.eval]) HROW (by simp[Act.eval]) rfl (by simp[Value.oneCell']) (by omega) hz ?_)
  intro a8 c8 w8 r1 r2 r3
  obtain⟨h8,hb8⟩:=HF.o.rel (x:=⟨1,false,1,2,true,7,[]⟩) rfl _ w8 r1 r2
  have H8:=mh h8
  clear h8
  have x2:=hb8.c 2 rfl
  have fz2:=hb8.blk.frozen 2
  clear r1 r2 r3 HROW y2 hz HF
  go_upto_region 8 with fail
  generalize w8.setCell (aD g 2) (sL a8 1 c8)=wF at *
  obtain⟨vr,HG⟩:∃vr,Z (StB D b g w wF (ns (ns S 3) 4) (sL (sA (w.heap.size+1)) 1 1) (sL a3 3 c3) (sL a8 1 c8) sN (⟨[7],(Q71 (kk:Int)),[⟨1,false,1,2,true,7,[]⟩],[],u⟩) (vn) (vw) (vr)):=H8.o
  clear H8 hb8 x2 fz2
  have BR:BT wF w.heap.size E7 60:=HG.o.f.at 0 rfl
  have y0_:wF.cell? (aD g 0)=some (sL (sA (w.heap.size+1)) 1 1):=(HG.o.f.at 1 rfl).c 0 rfl
  have y1_:wF.cell? (aD g 1)=some (sL a3 3 c3):=(HG.o.f.at 1 rfl).c 1 rfl
  have y2_:wF.cell? (aD g 2)=some (sL a8 1 c8):=(HG.o.f.at 1 rfl).c 2 rfl
  have y3_:wF.cell? (aD g 3)=some sN:=(HG.o.f.at 1 rfl).c 3 rfl
  have y4_:wF.cell? (aD g 4)=some (iV u):=(HG.o.f.at 1 rfl).c 4 rfl
  go_upto_region 8 with fail
  go_wp2_with (refine Ua rfl _ _ rfl rfl rfl BR rfl rfl rfl ?_)
  intro w9 hb9 hc9
  have H9:=HG.o.turn hb9 hc9
  clear y0_ y1_ y2_ y3_ y4_ BR HG
  go_wp2
  refine Q3a rfl rfl hb9 ?_
  rw[HE.o,HE2.o]
  exact⟨_,_,_,_,_,_,_,rfl,H9.2,H9.1.src,H9.1.chg⟩
 ·have hk':¬(1:Int)<(kk:Int):=by omega
  rw[if_neg hk'] at HE
  have BR:BT wE w.heap.size E7 60:=HF.o.f.at 0 rfl
  have y0_:wE.cell? (aD g 0)=some (sL (sA (w.heap.size+1)) 1 1):=(HF.o.f.at 1 rfl).c 0 rfl
  have y1_:wE.cell? (aD g 1)=some (sL a3 3 c3):=(HF.o.f.at 1 rfl).c 1 rfl
  have y2_:wE.cell? (aD g 2)=some sN:=(HF.o.f.at 1 rfl).c 2 rfl
  have y3_:wE.cell? (aD g 3)=some sN:=(HF.o.f.at 1 rfl).c 3 rfl
  have y4_:wE.cell? (aD g 4)=some (iV u):=(HF.o.f.at 1 rfl).c 4 rfl
  go_upto_region 8 with fail
  go_wp2_with (refine Ua rfl _ _ rfl rfl rfl BR rfl rfl rfl ?_)
  intro w9 hb9 hc9
  have H9:=HF.o.turn hb9 hc9
  clear y0_ y1_ y2_ y3_ y4_ BR HF
  go_wp2
  refine Q3a rfl rfl hb9 ?_
  rw[HE.o,HE2.o]
  exact⟨_,_,_,_,_,_,_,rfl,H9.2,H9.1.src,H9.1.chg⟩
end Go.Proofs.YtphiaobccollhaaGreat
