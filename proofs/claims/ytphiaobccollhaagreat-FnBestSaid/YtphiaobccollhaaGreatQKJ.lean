import Derived.Test.YtphiaobccollhaaGreatQKB
import Derived.Test.YtphiaobccollhaaGreatQKQ
import Derived.OwnWalkIn
import Derived.TacticsInMore
import Derived.Shelf.LaySoft
import Derived.Maps.Own
namespace Go.Proofs.YtphiaobccollhaaGreat
open Go.RowKit Go.Sort Tryz
set_option linter.unusedVariables false
set_option maxRecDepth 1000000
set_option maxHeartbeats 16000000
variable {C b br n sz t:Nat}{v:Value}{w w' w1:World}{xs:List Value}{rules:List Ru}{only:Bool}{N:Nt}{cs:Array Value}
theorem tq {F:Fence}{P:Program}{ops:Array Oper}{Q:Exit->Act->World->Prop}{md:Region.Mode}{S:World->Prop}{c i fuel:Nat}{oi:Oper}{listed:Array Bool}{a:Act}(h:Cl md ops (listed.setIfInBounds i true)->Vz F n P md ops Q S c fuel (listed.setIfInBounds i true) (a.put oi.dst v) w)(hi:ops[i]?=some oi:=by rfl)(hw:Q1a md ops c:=by assumption)(hcl:Cl md ops listed:=by assumption)(hic:i<c:=by decide)(hd:U8 F ops:=by first|exact Q9 rfl|exact noDefer_round (by kernel_rfl))(hs:Region.noSelect ops=true:=by kernel_rfl)(hf:Region.free md ops listed i=true:=by kernel_rfl)(hr:(Region.ready md ops listed).contains i=true:=by kernel_rfl)(hQ:∀c a w,Q (.panic c) (a.put oi.dst v) w->Q (.panic c) a w:=by exact λ_ _ _ h=>h)(hS:S w:=by first|exact HSS.o|exact HS0.o)(hy:YF P ops S oi v a:=by refine⟨oL ⟨by kernel_rfl,?_⟩,λ_=>rfl⟩;intro q hq;(repeat' (obtain⟨_,hq⟩:=hq));go_simp):Vz F n P md ops Q S c (fuel+1) listed a w:=
 Qj hw hic hcl hd hi hs hf hr hQ hy hS h
structure SRs (br C:Nat)(w1 w:World)(S:Rs):Prop where
 box:∃vr vd,Blk w br #[vr,vd]/\Uo C C w vr S.rules/\Am C w vd S.drops
 on:Xt (some br) w1 w
theorem SRs.next {S:Rs}(h:SRs br C w1 w S)(k:Nx w w'):SRs br C w1 w' S:=by
 obtain⟨vr,vd,h1,h2,h3⟩:=h.box
 exact⟨⟨vr,vd,h1.next k,h2.next k,h3.next k⟩,h.on.nx k⟩
theorem Uo.store {D:Nat}{xs:List Ru}(h:Uo C D w v xs){g:Nat}(hg:g<C)(hg':g<D)(o:Nat)(u:Value):Uo C D (w.setCell (aD g o) u) v xs:=by
 obtain⟨vs,h1,h2,h3⟩:=h
 exact⟨vs,h1,Qc h2 hg o u,λi hi=>Qc (h3 i hi) hg' o u⟩
theorem Jb {C' ty:Nat}(h:w.ownsRow C ty sz v n xs)(hC:C'<=C):w.ownsRow C' ty sz v n xs:=by
 obtain⟨h1,h2⟩:=h
 refine⟨h1,?_⟩
 rcases h2 with h2|⟨g,cap,cur,hv,hg,r⟩
 ·exact oL h2
 ·exact oR ⟨g,cap,cur,hv,by omega,r⟩
theorem Uo.base {D C' D':Nat}{xs:List Ru}(h:Uo C D w v xs)(hC:C'<=C)(hD:D'<=D):Uo C' D' w v xs:=by
 obtain⟨vs,h1,h2,h3⟩:=h
 exact⟨vs,h1,Jb h2 hC,λi hi=>(h3 i hi).base hD⟩
theorem SRs.drop {w7:World}{S:Rs}{vr vd v7:Value}{x:Dp}{o:Obj}(hbox:Blk w br #[vr,vd])(hr:Uo C C w vr S.rules)(hd:Am C w vd S.drops)(hon:Xt (some br) w1 w)(hC:br<C)(hw:w1.heap.size<=C)
  (hg:(w.alloc o).grownBy w7 vd.ownBlock) (hown:w7.ownsRow C 159 2 v7 (S.drops.length+1) (Gw S.drops++[iV x.rel,iV x.reason])):SRs br C w1 (w7.setCell (aD br 1) v7) ⟨S.rules,S.drops++[x]⟩:=by
 have hd':∀g,vd.ownBlock=some g->C<=g:=λg e=>(Q7 hd g e).1
 obtain⟨vs,r1,r2,r3⟩:=hr
 refine⟨⟨vr,v7,?_,⟨vs,r1,Qc (zL (zB r2 o) hg (Yr r2 hd (by decide))) hC 1 _,λi hi=>Qc (zL (zB (r3 i hi) o) hg (Yr (r3 i hi) hd (by decide))) hC 1 _⟩,Qc (Am.snoc hown) hC 1 _⟩,Xt.app hon hg (λg e=>zM hw (hd' g e)) _⟩
 exact((hbox.alloc o).grown hg (λe=>by have:=hd' br e.symm;omega)).set 1 v7
theorem SRs.rule {w7:World}{S:Rs}{vr vd v7 u:Value}{x:Ru}{o:Obj}{vs:List Value}(hbox:Blk w br #[vr,vd])(r1:vs.length=S.rules.length)(r2:w.ownsRow C 156 3 vr S.rules.length (Wc S.rules vs))(r3:∀i,i<S.rules.length->Q5 C w (vat vs i) (Zr S.rules i).seq)(hd:Am C w vd S.drops)(hon:Xt (some br) w1 w)(hC:br<C)(hw:w1.heap.size<=C)
  (hu:Q5 C w u x.seq) (hg:(w.alloc o).grownBy w7 vr.ownBlock) (hown:w7.ownsRow C 156 3 v7 (S.rules.length+1) (Wc S.rules vs++[iV x.rel,.bool x.only,u])):SRs br C w1 (w7.setCell (aD br 0) v7) ⟨S.rules++[x],S.drops⟩:=by
 have hd':∀g,vr.ownBlock=some g->C<=g:=λg e=>(Q7 r2 g e).1
 refine⟨⟨v7,vd,?_,(Uo.snoc r1 r2 r3 hu o hg hown).store hC hC 0 _,Qc (zL (zB hd o) hg (Yr hd r2 (by decide))) hC 0 _⟩,Xt.app hon hg (λg e=>zM hw (hd' g e)) _⟩
 exact((hbox.alloc o).grown hg (λe=>by have:=hd' br e.symm;omega)).set 0 v7
def rz (b:Bool):Int:=if b then 3 else 0
theorem Qc5 {r:Option Nat}{o:Nat}(h:w.grownBy w' r)(hc:w.cell? (aD b o)=some v)(hn:some b≠r):w'.cell? (aD b o)=some v:=by
 rw[World.cell?_of_block (h.block b (Jk hc) hn)]
 exact hc
theorem Q3b {ch:List (List Nat)}(h:ch.length=0):reason rules only ch=1:=by unfold reason;rw[if_pos h]
theorem Q3c {ch:List (List Nat)}(h:1<ch.length):reason rules only ch=2:=by unfold reason;rw[if_neg (by omega),if_pos h]
theorem Q5f {ch:List (List Nat)}(h:ch.length=1):reason rules only ch=if rpt rules only (Qp (Xz ch 0)) then 3 else 0:=by unfold reason;rw[if_neg (by omega),if_neg (by omega)]
theorem T1 {S:Rs}{r:Rl}{ch:List (List Nat)}{z:Int}(h:reason S.rules r.only ch=z)(hz:z≠0):Zo S r ch=⟨S.rules,S.drops++[⟨r.id,z⟩]⟩:=by unfold Zo;rw[h,if_neg hz]
theorem Q1s {S:Rs}{r:Rl}{ch:List (List Nat)}(h:reason S.rules r.only ch=0):Zo S r ch=⟨S.rules++[⟨r.id,r.only,Qp (Xz ch 0)⟩],S.drops⟩:=by unfold Zo;rw[if_pos h]
def Ue (rules:List Ru)(only:Bool)(seq:List Int)(k:Nat):Bool:=(rules.take k).any λu=>u.only==only&&decide (u.seq=seq)
theorem Q5q {seq:List Int}{k:Nat}(hk:k<rules.length):Ue rules only seq (k+1)=(Ue rules only seq k||((Zr rules k).only==only&&decide ((Zr rules k).seq=seq))):=by
 unfold Ue
 rw[zP hk,List.any_append,Q76 hk]
 simp
theorem Q98 (rules:List Ru)(only:Bool)(seq:List Int):Ue rules only seq rules.length=rpt rules only seq:=by
 unfold Ue rpt
 rw[zR]
def Qff (N:Nt)(R:Rd):Prop:=∀k,k<N.rels.length->Qcp N R (rat N.rels k)
def Td (N:Nt)(R:Rd):Rl->List (List Nat):=λr=>U4 N R.nodes R.edges r
theorem Ay (B0 B:Nat)(n0 n1 n2 n3:Value)(N:Nt)(v0 v1 v2 v3:Value)(R:Rd)(w:World)(hN:U0 B0 w n0 n1 n2 n3 N)(h0:Vy B w v0 v1 v2 v3 R)(hm:R.edges.length<=4000)(hR:Qff N R)(hrl:N.rels.length<=1000) :
  Calls prog 59 #[.agg #[n0,n1,n2,n3,iV N.uturn],.agg #[v0,v1,v2,v3]] w λe w'=>(∃vr vd,e=.returned (.agg #[vr,vd])/\Uo w.heap.size w.heap.size w' vr (Xx (Td N R) N.rels N.rels.length).rules/\Am w.heap.size w' vd (Xx (Td N R) N.rels N.rels.length).drops)/\Nx w w':=by
 obtain⟨iR,hiR,hzR0,hzR1,hzR2⟩:=info_parts Qbi
 obtain⟨iD,hiD,hzD0,hzD1,hzD2⟩:=info_parts Qbl
 have HNET:=mh hN
 have HROAD:=mh h0
 have HR:=mh hR
 clear hN h0 hR
 obtain⟨a0,q0,e0,jm,jk⟩:=HNET.o.1
 clear jm jk
 obtain⟨a1,q1,e1,jm,jk⟩:=HNET.o.2.1
 clear jm jk
 obtain⟨a2,q2,e2,jm,jk⟩:=HNET.o.2.2.1
 clear jm jk
 obtain⟨a3,q3,e3,jm,jk⟩:=HNET.o.2.2.2
 clear jm jk
 generalize N.nodes.length=l0 at e0
 generalize N.ways.length=l1 at e1
 generalize N.turns.length=l3 at e3
 obtain⟨a4,q4,e4,jm,jk⟩:=HROAD.o.1
 clear jm jk
 obtain⟨a5,q5,e5,jm,jk⟩:=HROAD.o.2.1
 clear jm jk
 obtain⟨a6,q6,e6,jm,jk⟩:=HROAD.o.2.2.1
 clear jm jk
 obtain⟨a7,q7,e7,jm,jk⟩:=HROAD.o.2.2.2
 clear jm jk
 generalize R.nodes.length=l4 at e4
 generalize R.edges.length=l5 at e5
 generalize R.first.length=l6 at e6
 generalize R.o.length=l7 at e7
 subst e0 e1 e2 e3 e4 e5 e6 e7
 generalize hnl:N.rels.length=l2 at *
 have HNL:=mh hnl
 clear hnl
 generalize hW0:((w.alloc (.cells #[sL a0 l0 q0,sL a1 l1 q1,sL a2 l2 q2,sL a3 l3 q3,iV N.uturn] 60)).alloc (.cells #[sL a4 l4 q4,sL a5 l5 q5,sL a6 l6 q6,sL a7 l7 q7] 86)).alloc (.cells #[sN,sN] 105)=w0
 have HX0:Z (Nx w w0):=by rw[<-hW0];exact(Uk _ _ _).alloc _
 have BN:Z (Blk w0 w.heap.size #[sL a0 l0 q0,sL a1 l1 q1,sL a2 l2 q2,sL a3 l3 q3,iV N.uturn]):=by rw[<-hW0];exact((Blk.new w _ _ _ rfl).alloc _).alloc _
 have BR:Z (Blk w0 (w.heap.size+1) #[sL a4 l4 q4,sL a5 l5 q5,sL a6 l6 q6,sL a7 l7 q7]):=by rw[<-hW0];exact(Blk.new _ _ _ _ (by rw[Q1])).alloc _
 have BO:Z (Blk w0 (w.heap.size+2) #[sN,sN]):=by rw[<-hW0];exact Blk.new _ _ _ _ (by rw[Q1,Q1])
 have HZ0:Z (w0.heap.size=w.heap.size+3):=by unfold Z;rw[<-hW0,Q1,Q1,Q1]
 go_enter func59,ntmps59
 go_upto_region 1 with fail
 clear hW0
 go_upto_region 2 with fail
 generalize hW1:w0.alloc (.cells #[sN,sN] 105)=w1
 have HX01:Z (Nx w0 w1):=by rw[<-hW1];exact Qe _ _
 have HB1:Z (Blk w1 w0.heap.size #[sN,sN]):=by rw[<-hW1];exact Blk.new _ _ _ _ rfl
 have HZ1:Z (w1.heap.size=w.heap.size+4):=by unfold Z;rw[<-hW1,Q1,HZ0.o]
 have HS1:Z (SRs w0.heap.size w1.heap.size w1 w1 (Xx (Td N R) N.rels 0)):=⟨⟨_,_,HB1.o,⟨[],rfl,⟨rfl,.inl ⟨rfl,rfl⟩⟩,λi hi=>absurd hi (zK _)⟩,⟨rfl,.inl ⟨rfl,rfl⟩⟩⟩,Xt.refl _ _⟩
 clear hW1
 go_wp2
 go_loopw [6] (λi wr=>∃k:Nat,k<=l2/\i=iV k/\Z (SRs w0.heap.size w1.heap.size w1 wr (Xx (Td N R) N.rels k))) (λi _=>l2-(intOf i).toNat)
 case atStart=>exact⟨0,nZ,rfl,HS1⟩
 clear HS1 HB1
 obtain⟨k,hkm,rfl,HS⟩:=hrel
 have HBW:=mh (Below.trans (HX0.o.trans HX01.o) (HS.o.on.below (by intro g hg;cases hg;have:=HZ0.o;omega) (by have:=HZ1.o;omega)))
 have BNr:=HS.o.on.blk (BN.o.next HX01.o) (by intro e;have:=zE e;have:=HZ0.o;omega)
 have kn2:=BNr.c 2 rfl
 by_cases hlt:k<l2
 case neg=>
  have ek:l2=k:=by omega
  subst ek
  obtain⟨vr,vd,hbox,hr,hd⟩:=HS.o.box
  obtain⟨vs,jv,hrow,jw⟩:=hr
  obtain⟨ar,cr,hvr⟩:=Qd hrow
  obtain⟨ad,cd,hvd⟩:=Qd hd
  have HRR:Z (Uo w1.heap.size w1.heap.size wr vr (Xx (Td N R) N.rels l2).rules):=⟨vs,jv,hrow,jw⟩
  have HDD:=mh hd
  generalize (Xx (Td N R) N.rels l2).rules.length=nr at hvr
  generalize (Xx (Td N R) N.rels l2).drops.length=nd at hvd
  subst hvr hvd
  have BOr:=HS.o.on.blk (BO.o.next HX01.o) (by intro e;have:=zE e;have:=HZ0.o;omega)
  have x0:=hbox.c 0 rfl
  have x1:=hbox.c 1 rfl
  have y0:wr.cell? (aD (w.heap.size+1+1) 0)=some sN:=BOr.c 0 rfl
  have y1:wr.cell? (aD (w.heap.size+1+1) 1)=some sN:=BOr.c 1 rfl
  have z0:wr.frozen? (aD (w.heap.size+1+1) 0)=false:=BOr.frozen 0
  have z1:wr.frozen? (aD (w.heap.size+1+1) 1)=false:=BOr.frozen 1
  have BR':=(BOr.set 0 (sL ar nr cr)).set 1 (sL ad nd cd)
  have p0:_=some (sL ar nr cr):=BR'.c 0 rfl
  have p1:_=some (sL ad nd cd):=BR'.c 1 rfl
  clear hbox hrow hd jv jw hlt hkm BR'
  go_wp2
  refine bodyPost_ret (v:=.agg #[sL ar nr cr,sL ad nd cd]) (by simp[results,results59,go_sem,p0,p1]) rfl ?_
  have h1:w.heap.size+1+1<w1.heap.size:=by have:=HZ1.o;omega
  have h2:w.heap.size<=w1.heap.size:=by omega
  have h3:w.heap.size<=w.heap.size+1+1:=by omega
  refine⟨⟨_,_,rfl,((HRR.o.store h1 h1 _ _).store h1 h1 _ _).base h2 h2,Jb (Qc (Qc HDD.o h1 _ _) h1 _ _) h2⟩,Below.setCell (Below.setCell HBW.o h3 _) h3 _⟩
 have hlt':(k:Int)<l2:=by omega
 have HKR:Z (k<N.rels.length):=by rw[HNL.o];exact hlt
 have HRI:=HR.o k HKR.o
 obtain⟨vr,vd,hbx0,hr0,hd0⟩:=HS.o.box
 have HBX0:=mh hbx0
 have HR0:=mh hr0
 have HD0:=mh hd0
 have HVL:Z (∀g,vr.ownBlock=some g->g<wr.heap.size):=by
  obtain⟨vs,_,hrow,_⟩:=hr0
  exact λg e=>(Q7 hrow g e).2
 clear hbx0 hr0 hd0
 have HSTEP:Z (Xx (Td N R) N.rels (k+1)=Zo (Xx (Td N R) N.rels k) (rat N.rels k) (U4 N R.nodes R.edges (rat N.rels k))):=rfl
 have HRL:=Q8w (Td N R) N.rels k
 obtain⟨ar,capr,er,jm,hkr⟩:=HNET.o.2.2.1
 simp only[zC] at er
 obtain⟨rfl,jl,rfl⟩:=er
 obtain⟨br,obr,rfl,jB,hbr,hcr⟩:=hkr (by omega)
 obtain⟨vw,c0,c1,c2,c3,c4,c5,c6,hw⟩:=hcr k HKR.o
 clear jm jl jB hkr hcr
 generalize rat N.rels k=r at *
 obtain⟨aw,qw,ew,jm,jk⟩:=id hw
 clear jm jk
 generalize r.ways.length=lw at ew
 subst ew
 have HWI:=mh hw
 have HRI2:=mh HRI
 have d0:=Q2 HBW.o hbr c0
 have d1:=Q2 HBW.o hbr c1
 have d2:=Q2 HBW.o hbr c2
 have d3:=Q2 HBW.o hbr c3
 have d4:=Q2 HBW.o hbr c4
 have d5:=Q2 HBW.o hbr c5
 have d6:=Q2 HBW.o hbr c6
 generalize hSk:Xx (Td N R) N.rels k=Sk at *
 clear hSk
 have hr1:Sk.rules.length<=1000:=by omega
 have hr2:Sk.drops.length<=1000:=by omega
 clear c0 c1 c2 c3 c4 c5 c6 hw HRI HRL
 go_upto_region 6 with fail
 clear d0 d1 d2 d3 d4 d5 d6 kn2
 have HX5:Z (Nx wr (wr.alloc (.cells #[iV r.id,.bool r.only,iV r.frm,iV r.to,.bool r.via,iV r.node,sL aw lw qw] 89))):=Qe _ _
 have HZ5a:Z ((wr.alloc (.cells #[iV r.id,.bool r.only,iV r.frm,iV r.to,.bool r.via,iV r.node,sL aw lw qw] 89)).heap.size=wr.heap.size+1):=Q1 _ _
 have BL5:Z (Blk (wr.alloc (.cells #[iV r.id,.bool r.only,iV r.frm,iV r.to,.bool r.via,iV r.node,sL aw lw qw] 89)) wr.heap.size #[iV r.id,.bool r.only,iV r.frm,iV r.to,.bool r.via,iV r.node,sL aw lw qw]):=Blk.new wr _ _ _ rfl
 generalize wr.alloc (.cells #[iV r.id,.bool r.only,iV r.frm,iV r.to,.bool r.via,iV r.node,sL aw lw qw] 89)=w5 at *
 have HS5:=mh (HS.o.next HX5.o)
 have HBW5:=mh (Below.trans HBW.o (Below.mono HX5.o HBW.o.size))
 have BN5:=BNr.next HX5.o
 have BR5:=(HS.o.on.blk (BR.o.next HX01.o) (by intro e;have:=zE e;have:=HZ0.o;omega)).next HX5.o
 have m0:=BN5.c 0 rfl
 have m1:=BN5.c 1 rfl
 have m2:=BN5.c 2 rfl
 have m3:=BN5.c 3 rfl
 have m4:=BN5.c 4 rfl
 have o0:=BR5.c 0 rfl
 have o1:=BR5.c 1 rfl
 have o2:=BR5.c 2 rfl
 have o3:=BR5.c 3 rfl
 have p0:=BL5.o.c 0 rfl
 have p1:=BL5.o.c 1 rfl
 have p2:=BL5.o.c 2 rfl
 have p3:=BL5.o.c 3 rfl
 have p4:=BL5.o.c 4 rfl
 have p5:=BL5.o.c 5 rfl
 have p6:=BL5.o.c 6 rfl
 go_wp2_with fail
 refine(Q22 B0 B B0 _ _ _ _ N _ _ _ _ R r _ w5 (by exact HNET.o.next HBW5.o) (by exact HROAD.o.next HBW5.o) (by exact HWI.o.next HBW5.o) hm HRI2.o).mono ?_
 rintro e w6 ⟨⟨uc,rfl,hO⟩,hx6⟩
 have HX6:=mh hx6
 have HS6:=mh (HS5.o.next hx6)
 have BL6:=mh (BL5.o.next hx6)
 have HC5:=mh (zM HS.o.on.size HX5.o.size)
 have HOC5:=mh hO.lt
 have HOC:=mh (hO.base HC5.o)
 have HCB:Z (w0.heap.size<w1.heap.size):=by have:=HZ0.o;have:=HZ1.o;unfold Z;omega
 generalize hch:U4 N R.nodes R.edges r=ch at *
 clear hch hO hx6 m0 m1 m2 m3 m4 o0 o1 o2 o3 p0 p1 p2 p3 p4 p5 p6
 obtain⟨ca,cc,hce⟩:=HOC.o.slice
 rw[zF] at hce
 generalize hcl:ch.length=cl at *
 have HCL:=mh hcl
 subst hce
 clear hcl
 have HZ5:=mh HZ5a.o
 by_cases hc0:cl=0
 ·have f0:((cl:Int)==0)=true:=by simpa using hc0
  have f1:decide (1<(cl:Int))=false:=by simp;omega
  have f2:((cl:Int)==1)=false:=by simp;omega
  have HRE:Z (reason Sk.rules r.only ch=1):=Q3b (by rw[HCL.o];exact hc0)
  clear hc0
  have HE:=mh (T1 HRE.o (by decide))
  obtain⟨vr,vd,hbox,hr,hd⟩:=HS6.o.box
  obtain⟨ad,cd,hvd⟩:=Qd hd
  have HD:=mh hd
  have HRW:=mh hr
  have HBX:=mh hbox
  generalize hnd:Sk.drops.length=nd at *
  have HND:=mh hnd
  subst hvd
  have x1:=hbox.c 1 rfl
  have kid:=BL6.o.c 0 rfl
  have HCW:=mh HS6.o.on.size
  have HBL:=mh hbox.lt
  clear hr hd hbox hnd
  go_wp2_with (at_builtin;refine wpList_append_own_at _ rfl _ _ 103 rfl w1.heap.size 159 iD (.agg #[iV 0,iV 0]) 2 16 underlying103 hiD hzD0 hzD1 hzD2 rfl (by decide) _ _ _ rfl (zB HD.o _) (aD w6.heap.size 0) 1 1 [iV r.id,iV 1] rfl rfl ?f1 ?f2 ?f3 ?f4 ?f5 ?_)
  case f1=>intro j u hj;exact Qn _ _ _ _ rfl j u hj
  case f2=>intro u hu;simp at hu;rcases hu with rfl|rfl<;>rfl
  case f3=>rw[HND.o];unfold maxLen;omega
  case f4=>rw[HND.o];omega
  case f5=>rw[Q1];have:=HCW.o;omega
  intro v7 w7 hown hgrow _ hat7
  have HS7:Z (SRs w0.heap.size w1.heap.size w1 (w7.setCell (aD w0.heap.size 1) v7) (Xx (Td N R) N.rels (k+1))):=by rw[HSTEP.o,HE.o];exact SRs.drop (x:=⟨r.id,1⟩) HBX.o HRW.o HD.o HS6.o.on HCB.o lR hgrow hown
  have BX7:=(HBX.o.alloc _).grown hgrow (λe=>by have:=(Q7 HD.o _ e.symm).1;have:=HCB.o;omega)
  have x7:=BX7.c 1 rfl
  have f7:=BX7.frozen 1
  obtain⟨a7',c7',hv7⟩:=Qd hown
  subst hv7
  clear hown hgrow hat7 x1 kid BX7
  go_wp2
  go_roundw
  case rel=>exact⟨k+1,by omega,by go_num,HS7⟩
  case measure=>simp[intOf];omega
 by_cases hc1:1<cl
 ·have f0:((cl:Int)==0)=false:=by simpa using hc0
  have f1:decide (1<(cl:Int))=true:=by simp;omega
  have f2:((cl:Int)==1)=false:=by simp;omega
  have HRE:Z (reason Sk.rules r.only ch=2):=Q3c (by rw[HCL.o];exact hc1)
  clear hc0 hc1
  have HE:=mh (T1 HRE.o (by decide))
  obtain⟨vr,vd,hbox,hr,hd⟩:=HS6.o.box
  obtain⟨ad,cd,hvd⟩:=Qd hd
  have HD:=mh hd
  have HRW:=mh hr
  have HBX:=mh hbox
  generalize hnd:Sk.drops.length=nd at *
  have HND:=mh hnd
  subst hvd
  have x1:=hbox.c 1 rfl
  have kid:=BL6.o.c 0 rfl
  have HCW:=mh HS6.o.on.size
  have HBL:=mh hbox.lt
  clear hr hd hbox hnd
  go_wp2_with (at_builtin;refine wpList_append_own_at _ rfl _ _ 103 rfl w1.heap.size 159 iD (.agg #[iV 0,iV 0]) 2 16 underlying103 hiD hzD0 hzD1 hzD2 rfl (by decide) _ _ _ rfl (zB HD.o _) (aD w6.heap.size 0) 1 1 [iV r.id,iV 2] rfl rfl ?f1 ?f2 ?f3 ?f4 ?f5 ?_)
  case f1=>intro j u hj;exact Qn _ _ _ _ rfl j u hj
  case f2=>intro u hu;simp at hu;rcases hu with rfl|rfl<;>rfl
  case f3=>rw[HND.o];unfold maxLen;omega
  case f4=>rw[HND.o];omega
  case f5=>rw[Q1];have:=HCW.o;omega
  intro v7 w7 hown hgrow _ hat7
  have HS7:Z (SRs w0.heap.size w1.heap.size w1 (w7.setCell (aD w0.heap.size 1) v7) (Xx (Td N R) N.rels (k+1))):=by rw[HSTEP.o,HE.o];exact SRs.drop (x:=⟨r.id,2⟩) HBX.o HRW.o HD.o HS6.o.on HCB.o lR hgrow hown
  have BX7:=(HBX.o.alloc _).grown hgrow (λe=>by have:=(Q7 HD.o _ e.symm).1;have:=HCB.o;omega)
  have x7:=BX7.c 1 rfl
  have f7:=BX7.frozen 1
  obtain⟨a7',c7',hv7⟩:=Qd hown
  subst hv7
  clear hown hgrow hat7 x1 kid BX7
  go_wp2
  go_roundw
  case rel=>exact⟨k+1,by omega,by go_num,HS7⟩
  case measure=>simp[intOf];omega
 have hc2:cl=1:=by omega
 subst hc2
 clear hc0 hc1
 have HOC0:=HOC.o.at (i:=0) (by rw[zF,HCL.o];omega)
 rw[Q1e (by rw[HCL.o];omega)] at HOC0
 obtain⟨gc,u0,hca,hcg,hO0⟩:=HOC0
 subst hca
 have HREA:Z (reason Sk.rules r.only ch=if rpt Sk.rules r.only (Qp (Xz ch 0)) then 3 else 0):=Q5f HCL.o
 have HSTR:Z (reason Sk.rules r.only ch=0->Zo Sk r ch=⟨Sk.rules++[⟨r.id,r.only,Qp (Xz ch 0)⟩],Sk.drops⟩):=Q1s
 generalize Qp (Xz ch 0)=seq at *
 have HO0:=mh hO0
 obtain⟨sa,scp,hu0⟩:=hO0.slice
 generalize seq.length=sn at hu0
 subst hu0
 have HRW:=mh ((HR0.o.next HX5.o).next HX6.o)
 have HDW:=mh ((HD0.o.next HX5.o).next HX6.o)
 have HBX:=mh ((HBX0.o.next HX5.o).next HX6.o)
 have hr:=HRW.o
 have hd:=HDW.o
 obtain⟨vs,jv,hrow,jw⟩:=hr
 obtain⟨arr,crr,hvr⟩:=Qd hrow
 obtain⟨add,cdd,hvd⟩:=Qd hd
 generalize hnr:Sk.rules.length=nr at *
 have HNR:=mh hnr
 generalize Sk.drops.length=ndd at hvd
 subst hvr hvd
 have HSEPA:Z ((∀g,(sL arr nr crr).ownBlock=some g->g<wr.heap.size)/\wr.heap.size<gc/\w0.heap.size<wr.heap.size):=⟨HVL.o,by have:=HOC5.o gc rfl;have:=HZ5.o;omega,by have:=HS.o.on.size;have:=HCB.o;omega⟩
 clear hd jv jw hrow hO0 hnr
 have HCG:=mh hcg
 clear hcg
 generalize wr.heap.size=bL at *
 go_wp2
 go_loopw [9,10] (λz j wr=>∃q:Nat,q<=nr/\j=iV q/\z=iV (rz (Ue Sk.rules r.only seq q))/\Z (Nx w6 wr)) (λ_ j _=>nr-(intOf j).toNat)
 case atStart=>exact⟨0,nZ,rfl,by simp[Ue,rz],Below.refl _ _⟩
 obtain⟨q,hqm,rfl,rfl,HNQ⟩:=hrel
 have x0:=Q0 HNQ.o (HBX.o.c 0 rfl)
 by_cases hq:q<nr
 case neg=>
  have eq:nr=q:=by omega
  subst eq
  have HALL:Z (Ue Sk.rules r.only seq nr=rpt Sk.rules r.only seq):=by rw[<-HNR.o];exact Q98 _ _ _
  rw[HALL.o]
  have HSQ:=mh (HS6.o.next HNQ.o)
  have BLQ:=mh (BL6.o.next HNQ.o)
  cases hrp:rpt Sk.rules r.only seq
  case true=>
   have HRE:Z (reason Sk.rules r.only ch=3):=by unfold Z;rw[HREA.o,hrp];rfl
   rw[show rz true=3 from rfl]
   clear hrp HRW HDW HBX
   have HE:=mh (T1 HRE.o (by decide))
   obtain⟨vr,vd,hbox,hr,hd⟩:=HSQ.o.box
   obtain⟨ad,cd,hvd⟩:=Qd hd
   have HD:=mh hd
   have HRW:=mh hr
   have HBX:=mh hbox
   generalize hnd:Sk.drops.length=nd at *
   have HND:=mh hnd
   subst hvd
   have x1:=hbox.c 1 rfl
   have kid:=BLQ.o.c 0 rfl
   have HCW:=mh HSQ.o.on.size
   have HBL:=mh hbox.lt
   clear hr hd hbox hnd
   go_wp2_with (at_builtin;refine wpList_append_own_at _ rfl _ _ 103 rfl w1.heap.size 159 iD (.agg #[iV 0,iV 0]) 2 16 underlying103 hiD hzD0 hzD1 hzD2 rfl (by decide) _ _ _ rfl (zB HD.o _) (aD wr.heap.size 0) 1 1 [iV r.id,iV 3] rfl rfl ?f1 ?f2 ?f3 ?f4 ?f5 ?_)
   case f1=>intro j u hj;exact Qn _ _ _ _ rfl j u hj
   case f2=>intro u hu;simp at hu;rcases hu with rfl|rfl<;>rfl
   case f3=>rw[HND.o];unfold maxLen;omega
   case f4=>rw[HND.o];omega
   case f5=>rw[Q1];have:=HCW.o;omega
   intro v7 w7 hown hgrow _ hat7
   have HS7:Z (SRs w0.heap.size w1.heap.size w1 (w7.setCell (aD w0.heap.size 1) v7) (Xx (Td N R) N.rels (k+1))):=by rw[HSTEP.o,HE.o];exact SRs.drop (x:=⟨r.id,3⟩) HBX.o HRW.o HD.o HSQ.o.on HCB.o lR hgrow hown
   have BX7:=(HBX.o.alloc _).grown hgrow (λe=>by have:=(Q7 HD.o _ e.symm).1;have:=HCB.o;omega)
   have x7:=BX7.c 1 rfl
   have f7:=BX7.frozen 1
   obtain⟨a7',c7',hv7⟩:=Qd hown
   subst hv7
   clear hown hgrow hat7 x1 kid BX7
   go_wp2
   go_roundw
   case rel=>exact⟨k+1,by omega,by go_num,HS7⟩
   case measure=>simp[intOf];omega
  case false=>
   have HRE:Z (reason Sk.rules r.only ch=0):=by unfold Z;rw[HREA.o,hrp];rfl
   have HE:=mh (HSTR.o HRE.o)
   rw[show rz false=0 from rfl]
   clear hrp
   obtain⟨vs,jv,hrow,jw⟩:=HRW.o.next HNQ.o
   have HJV:=mh jv
   have HROW:=mh hrow
   have HJW:=mh jw
   have HDR:=mh (HDW.o.next HNQ.o)
   have HBR:=mh (HBX.o.next HNQ.o)
   have HOR:=mh (HO0.o.next HNQ.o)
   have kcg:=Q0 HNQ.o HCG.o
   have k0:=BLQ.o.c 0 rfl
   have k1:=BLQ.o.c 1 rfl
   have HCW:=mh HSQ.o.on.size
   clear jv hrow jw HRW HDW HBX hq hqm
   go_upto_region 19 with fail
   have HNRW:=mh HNR.o
   have HNEL:=mh HSEPA.o
   have hmx:prog.follows .mixedOrders=true:=by kernel_rfl
   refine(wpIn_wide (n:=9)).1 ?_
   have HS0:Z ((λw=>w.cell? (aD w0.heap.size 0)=some (sL arr nr crr)/\w.cell? (aD bL 0)=some (iV r.id)/\w.cell? (aD bL 1)=some (.bool r.only)/\w.cell? (aD gc 0)=some (sL sa sn scp)) wr.drew):=⟨x0,k0,k1,kcg⟩
   refine Qb (c:=14) (S:=λw=>w.cell? (aD w0.heap.size 0)=some (sL arr nr crr)/\w.cell? (aD bL 0)=some (iV r.id)/\w.cell? (aD bL 1)=some (.bool r.only)/\w.cell? (aD gc 0)=some (sL sa sn scp)) hmx (by kernel_rfl) (λhw hcl=>?_)
   refine Qj (i:=0) (v:=pT w0.heap.size) hw (by decide) hcl (Q9 rfl) rfl (by kernel_rfl) (by kernel_rfl) (by kernel_rfl) (λ_ _ _ h=>h) ⟨oL ⟨by rfl,?y0⟩,λ_=>rfl⟩ HS0.o (λhcl=>?_)
   case y0=>
    rintro w ⟨c1,c2,c3,c4⟩
    go_simp
   refine Qj (i:=1) (v:=sL arr nr crr) hw (by decide) hcl (Q9 rfl) rfl (by kernel_rfl) (by kernel_rfl) (by kernel_rfl) (λ_ _ _ h=>h) ⟨oL ⟨by rfl,?y1⟩,λ_=>rfl⟩ HS0.o (λhcl=>?_)
   case y1=>
    rintro w ⟨c1,c2,c3,c4⟩
    go_simp
   refine Qj (i:=2) (v:=pT bL) hw (by decide) hcl (Q9 rfl) rfl (by kernel_rfl) (by kernel_rfl) (by kernel_rfl) (λ_ _ _ h=>h) ⟨oL ⟨by rfl,?y2⟩,λ_=>rfl⟩ HS0.o (λhcl=>?_)
   case y2=>
    rintro w ⟨c1,c2,c3,c4⟩
    go_simp
   refine Qj (i:=3) (v:=iV r.id) hw (by decide) hcl (Q9 rfl) rfl (by kernel_rfl) (by kernel_rfl) (by kernel_rfl) (λ_ _ _ h=>h) ⟨oL ⟨by rfl,?y3⟩,λ_=>rfl⟩ HS0.o (λhcl=>?_)
   case y3=>
    rintro w ⟨c1,c2,c3,c4⟩
    go_simp
   refine Qj (i:=4) (v:=.pointer (some (aD bL 1))) hw (by decide) hcl (Q9 rfl) rfl (by kernel_rfl) (by kernel_rfl) (by kernel_rfl) (λ_ _ _ h=>h) ⟨oL ⟨by rfl,?y4⟩,λ_=>rfl⟩ HS0.o (λhcl=>?_)
   case y4=>
    rintro w ⟨c1,c2,c3,c4⟩
    go_simp
   refine Qj (i:=5) (v:=.bool r.only) hw (by decide) hcl (Q9 rfl) rfl (by kernel_rfl) (by kernel_rfl) (by kernel_rfl) (λ_ _ _ h=>h) ⟨oL ⟨by rfl,?y5⟩,λ_=>rfl⟩ HS0.o (λhcl=>?_)
   case y5=>
    rintro w ⟨c1,c2,c3,c4⟩
    go_simp
   refine Qj (i:=6) (v:=sL (sA gc) 1 cc) hw (by decide) hcl (Q9 rfl) rfl (by kernel_rfl) (by kernel_rfl) (by kernel_rfl) (λ_ _ _ h=>h) ⟨oL ⟨by rfl,?y6⟩,λ_=>rfl⟩ HS0.o (λhcl=>?_)
   case y6=>
    rintro w ⟨c1,c2,c3,c4⟩
    go_simp
   refine Qj (i:=7) (v:=pT gc) hw (by decide) hcl (Q9 rfl) rfl (by kernel_rfl) (by kernel_rfl) (by kernel_rfl) (λ_ _ _ h=>h) ⟨oL ⟨by rfl,?y7⟩,λ_=>rfl⟩ HS0.o (λhcl=>?_)
   case y7=>
    rintro w ⟨c1,c2,c3,c4⟩
    go_simp
   refine Qj (i:=8) (v:=pT gc) hw (by decide) hcl (Q9 rfl) rfl (by kernel_rfl) (by kernel_rfl) (by kernel_rfl) (λ_ _ _ h=>h) ⟨oL ⟨by rfl,?y8⟩,λ_=>rfl⟩ HS0.o (λhcl=>?_)
   case y8=>
    rintro w ⟨c1,c2,c3,c4⟩
    go_simp
   refine Qj (i:=9) (v:=sL sa sn scp) hw (by decide) hcl (Q9 rfl) rfl (by kernel_rfl) (by kernel_rfl) (by kernel_rfl) (λ_ _ _ h=>h) ⟨oL ⟨by rfl,?y9⟩,λ_=>rfl⟩ HS0.o (λhcl=>?_)
   case y9=>
    rintro w ⟨c1,c2,c3,c4⟩
    go_simp
   refine Qj (i:=10) (v:=.agg #[iV r.id,.bool r.only,sL sa sn scp]) hw (by decide) hcl (Q9 rfl) rfl (by kernel_rfl) (by kernel_rfl) (by kernel_rfl) (λ_ _ _ h=>h) ⟨oL ⟨by rfl,?y10⟩,λ_=>rfl⟩ HS0.o (λhcl=>?_)
   case y10=>
    rintro w ⟨c1,c2,c3,c4⟩
    go_simp
   refine Qh (i:=11) (by kernel_rfl) (wpOpIn_step rfl (λK hK=>?_))
   go_simp
   refine hK _ _ ⟨oR ⟨Q0 (Qe _ _) x0,Q0 (Qe _ _) k0,Q0 (Qe _ _) k1,Q0 (Qe _ _) kcg⟩,?_⟩
   clear hK K
   refine Qh (i:=12) (by kernel_rfl) (wpOpIn_step rfl (λK hK=>?_))
   refine Tv rfl (.tmp 69) (.tmp 79) 102 rfl 156 iR (.agg #[iV 0,.bool false,sN]) 3 40 underlying102 hiR hzR0 hzR1 hzR2 rfl (by decide) w1.heap.size (sL arr nr crr) _ _ (by simp[Act.eval]) (show(wr.drew.alloc (.cells #[iV r.id,.bool r.only,sL sa sn scp] 156)).ownsRow _ _ _ _ _ _ from zB HROW.o _) (aD wr.heap.size 0) 1 1 [iV r.id,.bool r.only,sL sa sn scp] (by simp[Act.eval]) rfl (λj u hj=>Qn wr.drew _ _ _ rfl j u hj) (by intro u hu;simp at hu;rcases hu with rfl|rfl|rfl<;>rfl) (by rw[HNRW.o];unfold maxLen;omega) (by rw[HNRW.o];omega) (by show w1.heap.size<=(wr.drew.alloc (.cells #[iV r.id,.bool r.only,sL sa sn scp] 156)).heap.size;rw[Q1];have:=HCW.o;show w1.heap.size<=wr.heap.size+1;omega) ?_
   intro v7 w7 hown hgrow1 hat7
   have hgrow:(wr.alloc (.cells #[iV r.id,.bool r.only,sL sa sn scp] 156)).grownBy w7 (sL arr nr crr).ownBlock:=⟨hgrow1.os,hgrow1.tape,hgrow1.output,hgrow1.size,hgrow1.block⟩
   have HS7:Z (SRs w0.heap.size w1.heap.size w1 (w7.setCell (aD w0.heap.size 0) v7) (Xx (Td N R) N.rels (k+1))):=by rw[HSTEP.o,HE.o];exact SRs.rule (x:=⟨r.id,r.only,seq⟩) HBR.o HJV.o HROW.o HJW.o HDR.o HSQ.o.on HCB.o lR HOR.o hgrow hown
   have BX7:=(HBR.o.alloc _).grown hgrow (λe=>by have:=(Q7 HROW.o _ e.symm).1;have:=HCB.o;omega)
   have x7:=BX7.c 0 rfl
   have f7:=BX7.frozen 0
   have s1:w7.cell? (aD bL 0)=some (iV r.id):=Qc5 hgrow (Q0 (Qe _ _) k0) (λe=>yE _ (HNEL.o.1 bL e.symm))
   have s2:w7.cell? (aD bL 1)=some (.bool r.only):=Qc5 hgrow (Q0 (Qe _ _) k1) (λe=>yE _ (HNEL.o.1 bL e.symm))
   have s3:=Qc5 hgrow (Q0 (Qe _ _) kcg) (λe=>yE _ (Nat.lt_trans (HNEL.o.1 gc e.symm) HNEL.o.2.1))
   obtain⟨a7',c7',hv7⟩:=Qd hown
   subst hv7
   refine hK _ _ ⟨oR ⟨x7,s1,s2,s3⟩,?_⟩
   clear hK K hown hgrow hgrow1 hat7 BX7
   refine Qh (i:=13) (by kernel_rfl) (wpOpIn_step rfl (λK hK=>?_))
   go_simp
   refine hK _ _ ⟨oR ⟨x7,s1,s2,s3⟩,?_⟩
   clear hK K
   clear s1 s2 s3
   refine Qh (i:=14) (by kernel_rfl) (wpOpIn_step rfl (λK hK=>?_))
   go_simp
   refine hK _ _ ⟨oL (by decide),?_⟩
   clear hK K
   refine Ql (by kernel_rfl) ?_ _
   clear hw hcl HS0 x0 k0 k1 kcg x7 f7
   go_wp2
   go_roundw
   case rel=>exact⟨k+1,by omega,by go_num,HS7⟩
   case measure=>simp[intOf];omega
 have hq':(q:Int)<nr:=by omega
 have HQR:Z (q<Sk.rules.length):=by rw[HNR.o];exact hq
 have HSUC:Z (Ue Sk.rules r.only seq (q+1)=(Ue Sk.rules r.only seq q||((Zr Sk.rules q).only==r.only&&decide ((Zr Sk.rules q).seq=seq)))):=Q5q HQR.o
 obtain⟨gr,us,har,y0,y1,y2,hOs⟩:=(HRW.o.next HNQ.o).at HQR.o
 subst har
 have HOS:=mh hOs
 obtain⟨ssa,ssc,hus⟩:=hOs.slice
 generalize (Zr Sk.rules q).seq.length=ssn at hus
 subst hus
 have b1:=cell_regrown x0
 have b2:=cell_regrown y1
 have b3:=cell_regrown y2
 have b4:=cell_regrown (Q0 HNQ.o HCG.o)
 have b5:=cell_regrown ((BL6.o.next HNQ.o).c 1 rfl)
 have CG:Z (∀d os,Calls prog 95 #[sL ssa ssn ssc,sL sa sn scp] (Sort.grow (redrawn wr d) os) λe w''=>e=.returned (.bool (decide ((Zr Sk.rules q).seq=seq)))/\∃p:Regrown,w''=Sort.grow (redrawn wr p.d) p.os):=
  λd os=>Calls.regrown_of (Kp w1.heap.size w1.heap.size _ _ (Zr Sk.rules q).seq seq _ (HOS.o.held.next (below_regrown wr d os)) ((HO0.o.next HNQ.o).held.next (below_regrown wr d os)))
 clear hOs y0 y1 y2
 generalize (Zr Sk.rules q).only=oq at *
 cases ho:(oq==r.only)
 ·have HE1:Z (Ue Sk.rules r.only seq (q+1)=Ue Sk.rules r.only seq q):=by unfold Z;rw[HSUC.o,ho];simp
  go_upto_region 16 with fail
  refine wp_region_quiet_below (by kernel_rfl) (by kernel_rfl) ?_
  repeat (go_big_quiet_step (exact CG.o _ _))
  refine wpQuiet_nil ?_
  intro _ hw'
  obtain⟨⟨dq,osq⟩,hw''⟩:=hw'
  subst hw''
  have HB:Z (Nx wr (Sort.grow (redrawn wr dq) osq)):=below_regrown wr dq osq
  clear b1 b2 b3 b4 b5 x0 ho
  generalize Sort.grow (redrawn wr dq) osq=wz at *
  go_wp2
  go_roundw
  case rel=>exact⟨q+1,by omega,by go_num,by rw[HE1.o],HNQ.o.trans HB.o⟩
  case measure=>simp[intOf];omega
 ·by_cases hsq:(Zr Sk.rules q).seq=seq
  ·have HE1:Z (rz (Ue Sk.rules r.only seq (q+1))=3):=by unfold Z;rw[HSUC.o,ho,yB hsq];simp[rz]
   rw[yB hsq] at CG
   go_upto_region 16 with fail
   refine wp_region_quiet_below (by kernel_rfl) (by kernel_rfl) ?_
   repeat (go_big_quiet_step (exact CG.o _ _))
   refine wpQuiet_nil ?_
   intro _ hw'
   obtain⟨⟨dq,osq⟩,hw''⟩:=hw'
   subst hw''
   have HB:Z (Nx wr (Sort.grow (redrawn wr dq) osq)):=below_regrown wr dq osq
   clear b1 b2 b3 b4 b5 x0 ho hsq
   generalize Sort.grow (redrawn wr dq) osq=wz at *
   go_wp2
   go_roundw
   case rel=>exact⟨q+1,by omega,by go_num,by rw[HE1.o],HNQ.o.trans HB.o⟩
   case measure=>simp[intOf];omega
  ·have HE1:Z (Ue Sk.rules r.only seq (q+1)=Ue Sk.rules r.only seq q):=by unfold Z;rw[HSUC.o,ho,yC hsq];simp
   rw[yC hsq] at CG
   go_upto_region 16 with fail
   refine wp_region_quiet_below (by kernel_rfl) (by kernel_rfl) ?_
   repeat (go_big_quiet_step (exact CG.o _ _))
   refine wpQuiet_nil ?_
   intro _ hw'
   obtain⟨⟨dq,osq⟩,hw''⟩:=hw'
   subst hw''
   have HB:Z (Nx wr (Sort.grow (redrawn wr dq) osq)):=below_regrown wr dq osq
   clear b1 b2 b3 b4 b5 x0 ho hsq
   generalize Sort.grow (redrawn wr dq) osq=wz at *
   go_wp2
   go_roundw
   case rel=>exact⟨q+1,by omega,by go_num,by rw[HE1.o],HNQ.o.trans HB.o⟩
   case measure=>simp[intOf];omega
theorem Q87 (h:Pi N){e:Nat}(he:e<(E1 N).length):0<=(eat (E1 N) e).head/\(eat (E1 N) e).head<N.nodes.length:=by
 rw[Ti] at he
 obtain⟨i,j,q,hi,hj,hq,he1⟩:=Kn N.ways.length he
 obtain⟨_,a1⟩:=Yc hi hj hq
 rw[<-he1] at a1
 have hm:=Ah (λi j=>rfl) h.asc
 have hp:∀t,Ta N.nodes t=true->pos N.nodes t<N.nodes.length:=by
  intro t ht
  obtain⟨k,hk,rfl⟩:=Q26 ht
  rw[Qar hm hk]
  exact hk
 have hl:=h.len i hi
 have hns:nsN N i=(wat N.ways i).weights.length:=rfl
 have p0:=hp _ (h.has i j hi (by omega))
 have p1:=hp _ (h.has i (j+1) hi (by omega))
 rw[a1]
 split
 ·exact⟨by simp[fwd],by simp[fwd];omega⟩
 ·split
  ·exact⟨by simp[fwd],by simp[fwd];omega⟩
  ·exact⟨by simp[bwd],by simp[bwd];omega⟩
theorem Q86 (h:Pi N):(E1 N).length<=4000:=by
 rw[Ti]
 unfold mN
 rw[Qae]
 exact h.ed
structure Qco (N:Nt):Prop where
 one:∀i,i<N.ways.length->1<=(wat N.ways i).weights.length
 rel:∀k,k<N.rels.length->Vm N (rat N.rels k)=true
 cnt:N.rels.length<=1000
 ascw:Qet N.ways=true
theorem Id (h:J1 N=true):Qco N:=by
 simp only[J1,Gx,zG,decide_eq_true_eq] at h
 obtain⟨⟨c0,c1,ed,c2,c3⟩,hu,⟨ha,hn⟩,⟨hw,haw⟩,⟨hr,_⟩,ht,_⟩:=h
 refine⟨λi hi=>?_,λk hk=>Jf hr hk,c2,haw⟩
 have:=Jf hw hi
 simp only[Jg,Yn,zG,decide_eq_true_eq] at this
 obtain⟨⟨⟨⟨⟨g0,g1⟩,g2⟩,g3⟩,g4⟩,g5⟩:=this
 exact g1
theorem Kx (h:Pi N)(h2:Qco N){i:Nat}(hi:i<N.ways.length):Vv (E1 N) i (E1 N).length≠[]/\((wat N.ways i).both=true->Xs (E1 N) i (E1 N).length≠[]):=by
 have h1:=h2.one i hi
 have hns:nsN N i=(wat N.ways i).weights.length:=rfl
 have hbn:1<=bnN N i:=by unfold bnN;split<;>omega
 constructor
 ·obtain⟨_,a1⟩:=Yc (N:=N) (i:=i) (j:=0) (q:=0) hi (by omega) (by omega)
  have hlt:st (nsN N) (bnN N) i+bnN N i*0+0<(E1 N).length:=by rw[Ti];exact Qad hi (by omega) (by omega)
  intro e
  have hm:st (nsN N) (bnN N) i+bnN N i*0+0∈Vv (E1 N) i (E1 N).length:=by
   unfold Vv
   rw[List.mem_filter]
   refine⟨List.mem_range.2 hlt,?_⟩
   unfold Uu
   rw[a1]
   split
   ·simp[fwd]
   ·simp[fwd]
  rw[e] at hm
  simp at hm
 ·intro hb
  have hbn2:bnN N i=2:=by unfold bnN;rw[if_pos hb]
  obtain⟨_,a1⟩:=Yc (N:=N) (i:=i) (j:=0) (q:=1) hi (by omega) (by omega)
  have hlt:st (nsN N) (bnN N) i+bnN N i*0+1<(E1 N).length:=by rw[Ti];exact Qad hi (by omega) (by omega)
  intro e
  have hm:st (nsN N) (bnN N) i+bnN N i*0+1∈Xs (E1 N) i (E1 N).length:=by
   unfold Xs
   rw[List.mem_reverse,List.mem_filter]
   refine⟨List.mem_range.2 hlt,?_⟩
   unfold Uu
   rw[a1,if_neg (by omega),if_neg (by omega)]
   simp[bwd]
  rw[e] at hm
  simp at hm
theorem Qgl (hv:J1 N=true):Qff N (Ux N):=by
 have h:=Uw hv
 have h2:=Id hv
 intro k hk
 have hr:=h2.rel k hk
 simp only[Vm,zG] at hr
 obtain⟨_,hf,ht,hT⟩:=hr
 unfold Xa at hT
 refine⟨hf,ht,?_,λj hj=>?_,λi hi=>Kx h h2 hi,λe he=>Q87 h he⟩
 ·split at hT
  ·simp at hT;rw[hT.1];simp
  ·simp at hT;exact hT.2.2.1
 ·split at hT
  ·simp only[zG,decide_eq_true_eq] at hT;omega
  ·simp only[zG,decide_eq_true_eq] at hT
   exact Jf hT.2.2.2 hj
def Vj (N:Nt):Rs:=if J1 N then Xx (Td N (Ux N)) N.rels N.rels.length else ⟨[],[]⟩
structure EB (w:World)(b e:Nat)(x:Eg):Prop where
 tail:w.cell? (aD b 0)=some (iV x.tail)
 head:w.cell? (aD b 1)=some (iV x.head)
 wgt:w.cell? (aD b 2)=some (iV x.weight)
 back:w.cell? (aD b 5)=some (.bool x.back)
 twin:w.cell? (aD b 6)=some (iV x.twin)
 num:w.cell? (aD b 7)=some (iV (e:Int))
open Go.Shelf
def BT (w:World)(b:Nat)(cs:Array Value)(t:Nat):Prop:=w.heap[b]?=some (.cells cs t (0,0))
theorem BT.lt (h:BT w b cs t):b<w.heap.size:=(Array.getElem?_eq_some_iff.1 h).1
theorem BT.blk (h:BT w b cs t):Blk w b cs:=⟨t,h⟩
theorem BT.c (h:BT w b cs t)(i:Nat)(hi:cs[i]?=some v):w.cell? ⟨b,i,none⟩=some v:=h.blk.cell hi
theorem BT.new (w:World)(cs:Array Value)(t n:Nat)(hn:n=w.heap.size):BT (w.alloc (.cells cs t)) n cs t:=by
 subst hn
 unfold BT
 show(w.heap.push _)[w.heap.size]?=_
 simp
theorem BT.set (h:BT w b cs t)(i:Nat)(v:Value):BT (w.setCell (aD b i) v) b (cs.setIfInBounds i v) t:=by
 unfold BT at h ⊢
 simp[World.setCell,Array.getElem?_modify,h]
theorem BT.next (h:BT w b cs t)(k:Nx w w'):BT w' b cs t:=(k.block b h.lt).trans h
theorem BT.alloc (h:BT w b cs t)(o:Obj):BT (w.alloc o) b cs t:=h.next (Qe _ _)
open Go.Maps
theorem Qdu:Keyed prog 2:=int_keyed underlying2
theorem BT.ne {a u:Nat}{c d:Array Value}(h:BT w a c t)(k:BT w b d u)(hn:t≠u):a≠b:=by
 rintro rfl
 unfold BT at h k
 rw[h] at k
 simp at k
 exact hn k.2
theorem BT.neRow {a u:Nat}{c:Array Value}(h:BT w a c t)(k:w.ownsRow C u sz v n xs)(hn:t≠u):some a≠v.ownBlock:=by
 rcases k.2 with⟨rfl,_⟩|⟨g,cap,cur,rfl,_,hh,_⟩
 ·simp[Value.ownBlock]
 ·intro e
  have e':a=g:=zE e
  subst e'
  unfold BT at h
  rw[h] at hh
  simp at hh
  exact hn hh.2
structure Chg (S:Nat->Prop)(w w':World):Prop where
 os:w'.os=w.os
 tape:w'.tape=w.tape
 output:w'.output=w.output
 size:w.heap.size<=w'.heap.size
 block:∀b,b<w.heap.size->¬S b->w'.heap[b]?=w.heap[b]?
section
variable {S:Nat->Prop}{a b c w w':World}
theorem Chg.trans (h:Chg S a b)(k:Chg S b c):Chg S a c:=
 ⟨k.os.trans h.os,k.tape.trans h.tape,k.output.trans h.output,zM h.size k.size,λx hx hn=>(k.block x (zJ hx h.size) hn).trans (h.block x hx hn)⟩
theorem Chg.nx (h:Nx w w'):Chg S w w':=⟨h.os,h.tape,h.output,h.size,λx hx _=>h.block x hx⟩
theorem Chg.grown {o:Option Nat}(h:w.grownBy w' o)(hS:∀b,some b=o->S b):Chg S w w':=⟨h.os,h.tape,h.output,h.size,λx hx hn=>h.block x hx (λe=>hn (hS x e))⟩
theorem Chg.set (g i:Nat)(v:Value)(hS:S g):Chg S w (w.setCell (aD g i) v):=
 ⟨rfl,rfl,rfl,by simp[World.setCell],λx hx hn=>Below.heap_setCell _ _ _ _ (λe=>hn (by subst e;exact hS))⟩
theorem Chg.young {T:Nat->Prop}(h:Chg S a b)(k:Chg T b c)(hT:∀x,T x->x<a.heap.size->S x):Chg S a c:=
 ⟨k.os.trans h.os,k.tape.trans h.tape,k.output.trans h.output,zM h.size k.size,λx hx hn=>(k.block x (zJ hx h.size) (λe=>hn (hT x e hx))).trans (h.block x hx hn)⟩
theorem Chg.below (h:Chg S w w'){B:Nat}(hB:B<=w.heap.size)(hS:∀x,S x->B<=x):Below B w w':=⟨h.os,h.tape,h.output,h.size,λx hx=>h.block x (by omega) (λe=>by have:=hS x e;omega)⟩
theorem BT.chg {b t:Nat}(h:BT w b cs t)(k:Chg S w w')(hn:¬S b):BT w' b cs t:=(k.block b h.lt hn).trans h
theorem J5 (h:w.ownsRow C t sz v n xs)(k:Chg S w w')(hn:∀g,v.ownBlock=some g->¬S g):w'.ownsRow C t sz v n xs:=by
 refine⟨h.1,?_⟩
 rcases h.2 with h2|⟨g,cap,cur,hv,hg,hh,r⟩
 ·exact oL h2
 ·exact oR ⟨g,cap,cur,hv,hg,(k.block g (Array.getElem?_eq_some_iff.1 hh).1 (hn g (by rw[hv];rfl))).trans hh,r⟩
end
end Go.Proofs.YtphiaobccollhaaGreat
