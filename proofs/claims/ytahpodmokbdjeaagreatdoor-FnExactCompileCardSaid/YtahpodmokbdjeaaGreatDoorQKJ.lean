import Derived.Test.YtahpodmokbdjeaaGreatDoorQKC
import Derived.Test.YtahpodmokbdjeaaGreatDoorQKQ
import Derived.OwnWalkIn
import Derived.TacticsInMore
namespace Go.Proofs.YtahpodmokbdjeaaGreatDoor
open Go.RowKit Go.Sort Tryz
set_option linter.unusedVariables false
set_option maxRecDepth 1000000
set_option maxHeartbeats 16000000
theorem tq {F:Fence}{n:Nat}{P:Program}{ops:Array Oper}{Q:Exit->Act->World->Prop}{md:Region.Mode}{S:World->Prop}{c i fuel:Nat}{oi:Oper}{v:Value}{listed:Array Bool}{a:Act}{w:World}(h:Cl md ops (listed.setIfInBounds i true)->V2 F n P md ops Q S c fuel (listed.setIfInBounds i true) (a.put oi.dst v) w)(hi:ops[i]?=some oi:=by rfl)(hw:Q5t md ops c:=by assumption)(hcl:Cl md ops listed:=by assumption)(hic:i<c:=by decide)(hd:Tc F ops:=by first|exact Qa rfl|exact noDefer_round (by kernel_rfl))(hs:Region.noSelect ops=true:=by kernel_rfl)(hf:Region.free md ops listed i=true:=by kernel_rfl)(hr:(Region.ready md ops listed).contains i=true:=by kernel_rfl)(hQ:∀c a w,Q (.panic c) (a.put oi.dst v) w->Q (.panic c) a w:=by exact λ_ _ _ h=>h)(hS:S w:=by first|exact HSS.o|exact HS0.o)(hy:YF P ops S oi v a:=by refine⟨oL ⟨by kernel_rfl,?_⟩,λ_=>rfl⟩;intro q hq;(repeat' (obtain⟨_,hq⟩:=hq));go_simp):V2 F n P md ops Q S c (fuel+1) listed a w:=
 Qf hw hic hcl hd hi hs hf hr hQ hy hS h
structure SRs (br C:Nat)(w1 w:World)(S:Rs):Prop where
 box:∃vr vd,Blk w br #[vr,vd]/\Zm C C w vr S.rules/\Y1 C w vd S.drops
 on:J1 (some br) w1 w
theorem SRs.next {br C:Nat}{w1 w w':World}{S:Rs}(h:SRs br C w1 w S)(k:Nx w w'):SRs br C w1 w' S:=by
 obtain⟨vr,vd,h1,h2,h3⟩:=h.box
 exact⟨⟨vr,vd,h1.next k,h2.next k,h3.next k⟩,h.on.nx k⟩
theorem Zm.store {C D:Nat}{w:World}{v:Value}{xs:List Ru}(h:Zm C D w v xs){g:Nat}(hg:g<C)(hg':g<D)(o:Nat)(u:Value):Zm C D (w.setCell (aD g o) u) v xs:=by
 obtain⟨vs,h1,h2,h3⟩:=h
 exact⟨vs,h1,Qc h2 hg o u,λi hi=>Qc (h3 i hi) hg' o u⟩
theorem Jn {C C' ty sz n:Nat}{w:World}{v:Value}{xs:List Value}(h:w.ownsRow C ty sz v n xs)(hC:C'<=C):w.ownsRow C' ty sz v n xs:=by
 obtain⟨h1,h2⟩:=h
 refine⟨h1,?_⟩
 rcases h2 with h2|⟨g,cap,cur,hv,hg,r⟩
 ·exact oL h2
 ·exact oR ⟨g,cap,cur,hv,by omega,r⟩
theorem Zm.base {C D C' D':Nat}{w:World}{v:Value}{xs:List Ru}(h:Zm C D w v xs)(hC:C'<=C)(hD:D'<=D):Zm C' D' w v xs:=by
 obtain⟨vs,h1,h2,h3⟩:=h
 exact⟨vs,h1,Jn h2 hC,λi hi=>(h3 i hi).base hD⟩
theorem SRs.drop {br C:Nat}{w1 w w7:World}{S:Rs}{vr vd v7:Value}{x:Dp}{o:Obj}(hbox:Blk w br #[vr,vd])(hr:Zm C C w vr S.rules)(hd:Y1 C w vd S.drops)(hon:J1 (some br) w1 w)(hC:br<C)(hw:w1.heap.size<=C)
  (hg:(w.alloc o).grownBy w7 vd.ownBlock) (hown:w7.ownsRow C 128 2 v7 (S.drops.length+1) (Gj S.drops++[iV x.rel,iV x.reason])):SRs br C w1 (w7.setCell (aD br 1) v7) ⟨S.rules,S.drops++[x]⟩:=by
 have hd':∀g,vd.ownBlock=some g->C<=g:=λg e=>(Q5 hd g e).1
 obtain⟨vs,r1,r2,r3⟩:=hr
 refine⟨⟨vr,v7,?_,⟨vs,r1,Qc (zN (zB r2 o) hg (Xr r2 hd (by decide))) hC 1 _,λi hi=>Qc (zN (zB (r3 i hi) o) hg (Xr (r3 i hi) hd (by decide))) hC 1 _⟩,Qc (Y1.snoc hown) hC 1 _⟩,J1.app hon hg (λg e=>zP hw (hd' g e)) _⟩
 exact((hbox.alloc o).grown hg (λe=>by have:=hd' br e.symm;omega)).set 1 v7
theorem SRs.rule {br C:Nat}{w1 w w7:World}{S:Rs}{vr vd v7 u:Value}{x:Ru}{o:Obj}{vs:List Value}(hbox:Blk w br #[vr,vd])(r1:vs.length=S.rules.length)(r2:w.ownsRow C 126 3 vr S.rules.length (Z1 S.rules vs))(r3:∀i,i<S.rules.length->Qd C w (vat vs i) (Z0 S.rules i).seq)(hd:Y1 C w vd S.drops)(hon:J1 (some br) w1 w)(hC:br<C)(hw:w1.heap.size<=C)
  (hu:Qd C w u x.seq) (hg:(w.alloc o).grownBy w7 vr.ownBlock) (hown:w7.ownsRow C 126 3 v7 (S.rules.length+1) (Z1 S.rules vs++[iV x.rel,.bool x.only,u])):SRs br C w1 (w7.setCell (aD br 0) v7) ⟨S.rules++[x],S.drops⟩:=by
 have hd':∀g,vr.ownBlock=some g->C<=g:=λg e=>(Q5 r2 g e).1
 refine⟨⟨v7,vd,?_,(Zm.snoc r1 r2 r3 hu o hg hown).store hC hC 0 _,Qc (zN (zB hd o) hg (Xr hd r2 (by decide))) hC 0 _⟩,J1.app hon hg (λg e=>zP hw (hd' g e)) _⟩
 exact((hbox.alloc o).grown hg (λe=>by have:=hd' br e.symm;omega)).set 0 v7
def rz (b:Bool):Int:=if b then 3 else 0
theorem Q8v {w w':World}{r:Option Nat}{b o:Nat}{v:Value}(h:w.grownBy w' r)(hc:w.cell? (aD b o)=some v)(hn:some b≠r):w'.cell? (aD b o)=some v:=by
 rw[World.cell?_of_block (h.block b (Zj hc) hn)]
 exact hc
theorem Q3s {rules:List Ru}{only:Bool}{ch:List (List Nat)}(h:ch.length=0):reason rules only ch=1:=by unfold reason;rw[if_pos h]
theorem Q3t {rules:List Ru}{only:Bool}{ch:List (List Nat)}(h:1<ch.length):reason rules only ch=2:=by unfold reason;rw[if_neg (by omega),if_pos h]
theorem Q6d {rules:List Ru}{only:Bool}{ch:List (List Nat)}(h:ch.length=1):reason rules only ch=if rpt rules only (Qb (Jd ch 0)) then 3 else 0:=by unfold reason;rw[if_neg (by omega),if_neg (by omega)]
theorem Wt {S:Rs}{r:Rl}{ch:List (List Nat)}{z:Int}(h:reason S.rules r.only ch=z)(hz:z≠0):Jh S r ch=⟨S.rules,S.drops++[⟨r.id,z⟩]⟩:=by unfold Jh;rw[h,if_neg hz]
theorem Q1z {S:Rs}{r:Rl}{ch:List (List Nat)}(h:reason S.rules r.only ch=0):Jh S r ch=⟨S.rules++[⟨r.id,r.only,Qb (Jd ch 0)⟩],S.drops⟩:=by unfold Jh;rw[if_pos h]
def Um (rules:List Ru)(only:Bool)(seq:List Int)(k:Nat):Bool:=(rules.take k).any λu=>u.only==only&&decide (u.seq=seq)
theorem Q6k {rules:List Ru}{only:Bool}{seq:List Int}{k:Nat}(hk:k<rules.length):Um rules only seq (k+1)=(Um rules only seq k||((Z0 rules k).only==only&&decide ((Z0 rules k).seq=seq))):=by
 unfold Um
 rw[zR hk,List.any_append,Q7w hk]
 simp
theorem Q9z (rules:List Ru)(only:Bool)(seq:List Int):Um rules only seq rules.length=rpt rules only seq:=by
 unfold Um rpt
 rw[zU]
def Q97 (N:Nt)(R:Rd):Prop:=∀k,k<N.rels.length->Q5u N R (rat N.rels k)
def Uv (N:Nt)(R:Rd):Rl->List (List Nat):=λr=>Xw N R.nodes R.edges r
theorem Q05 (B0 B:Nat)(n0 n1 n2 n3:Value)(N:Nt)(v0 v1 v2 v3:Value)(R:Rd)(w:World)(hN:Ye B0 w n0 n1 n2 n3 N)(h0:Zq B w v0 v1 v2 v3 R)(hm:R.edges.length<=4000)(hR:Q97 N R)(hrl:N.rels.length<=1000) :
  Calls prog 20 #[.agg #[n0,n1,n2,n3,iV N.uturn],.agg #[v0,v1,v2,v3]] w λe w'=>(∃vr vd,e=.returned (.agg #[vr,vd])/\Zm w.heap.size w.heap.size w' vr (Qq (Uv N R) N.rels N.rels.length).rules/\Y1 w.heap.size w' vd (Qq (Uv N R) N.rels N.rels.length).drops)/\Nx w w':=by
 obtain⟨iR,hiR,hzR0,hzR1,hzR2⟩:=info_parts Q4r
 obtain⟨iD,hiD,hzD0,hzD1,hzD2⟩:=info_parts Q4u
 have HNET:Z (Ye B0 w n0 n1 n2 n3 N):=hN
 have HROAD:Z (Zq B w v0 v1 v2 v3 R):=h0
 have HR:Z (Q97 N R):=hR
 clear hN h0 hR
 obtain⟨a0,q0,e0,jm,jk⟩:=HNET.o.1
 clear jm jk
 obtain⟨a1,q1,e1,jm,jk⟩:=HNET.o.2.1
 clear jm jk
 obtain⟨a2,q2,e2,jm,jk⟩:=HNET.o.2.2.1
 clear jm jk
 obtain⟨a3,q3,e3,jm,jk⟩:=HNET.o.2.2.2
 clear jm jk
 generalize N.nodes.length=l0 at e0
 generalize N.ways.length=l1 at e1
 generalize N.turns.length=l3 at e3
 obtain⟨a4,q4,e4,jm,jk⟩:=HROAD.o.1
 clear jm jk
 obtain⟨a5,q5,e5,jm,jk⟩:=HROAD.o.2.1
 clear jm jk
 obtain⟨a6,q6,e6,jm,jk⟩:=HROAD.o.2.2.1
 clear jm jk
 obtain⟨a7,q7,e7,jm,jk⟩:=HROAD.o.2.2.2
 clear jm jk
 generalize R.nodes.length=l4 at e4
 generalize R.edges.length=l5 at e5
 generalize R.first.length=l6 at e6
 generalize R.o.length=l7 at e7
 subst e0 e1 e2 e3 e4 e5 e6 e7
 generalize hnl:N.rels.length=l2 at *
 have HNL:Z (N.rels.length=l2):=hnl
 clear hnl
 generalize hW0:((w.alloc (.cells #[sL a0 l0 q0,sL a1 l1 q1,sL a2 l2 q2,sL a3 l3 q3,iV N.uturn] 38)).alloc (.cells #[sL a4 l4 q4,sL a5 l5 q5,sL a6 l6 q6,sL a7 l7 q7] 52)).alloc (.cells #[sN,sN] 63)=w0
 have HX0:Z (Nx w w0):=by rw[<-hW0];exact(Zk _ _ _).alloc _
 have BN:Z (Blk w0 w.heap.size #[sL a0 l0 q0,sL a1 l1 q1,sL a2 l2 q2,sL a3 l3 q3,iV N.uturn]):=by rw[<-hW0];exact((Blk.new w _ _ _ rfl).alloc _).alloc _
 have BR:Z (Blk w0 (w.heap.size+1) #[sL a4 l4 q4,sL a5 l5 q5,sL a6 l6 q6,sL a7 l7 q7]):=by rw[<-hW0];exact(Blk.new _ _ _ _ (by rw[Q3])).alloc _
 have BO:Z (Blk w0 (w.heap.size+2) #[sN,sN]):=by rw[<-hW0];exact Blk.new _ _ _ _ (by rw[Q3,Q3])
 have HZ0:Z (w0.heap.size=w.heap.size+3):=by unfold Z;rw[<-hW0,Q3,Q3,Q3]
 go_enter func20,ntmps20
 go_upto_region 1 with fail
 clear hW0
 go_upto_region 2 with fail
 generalize hW1:w0.alloc (.cells #[sN,sN] 63)=w1
 have HX01:Z (Nx w0 w1):=by rw[<-hW1];exact Q4 _ _
 have HB1:Z (Blk w1 w0.heap.size #[sN,sN]):=by rw[<-hW1];exact Blk.new _ _ _ _ rfl
 have HZ1:Z (w1.heap.size=w.heap.size+4):=by unfold Z;rw[<-hW1,Q3,HZ0.o]
 have HS1:Z (SRs w0.heap.size w1.heap.size w1 w1 (Qq (Uv N R) N.rels 0)):=⟨⟨_,_,HB1.o,⟨[],rfl,⟨rfl,.inl ⟨rfl,rfl⟩⟩,λi hi=>absurd hi (zM _)⟩,⟨rfl,.inl ⟨rfl,rfl⟩⟩⟩,J1.refl _ _⟩
 clear hW1
 go_wp2
 go_loopw [6] (λi wr=>∃k:Nat,k<=l2/\i=iV k/\Z (SRs w0.heap.size w1.heap.size w1 wr (Qq (Uv N R) N.rels k))) (λi _=>l2-(intOf i).toNat)
 case atStart=>exact⟨0,nZ,rfl,HS1⟩
 clear HS1 HB1
 obtain⟨k,hkm,rfl,HS⟩:=hrel
 have HBW:Z (Below w.heap.size w wr):=Below.trans (HX0.o.trans HX01.o) (HS.o.on.below (by intro g hg;cases hg;have:=HZ0.o;omega) (by have:=HZ1.o;omega))
 have BNr:=HS.o.on.blk (BN.o.next HX01.o) (by intro e;have:=zF e;have:=HZ0.o;omega)
 have kn2:=BNr.c 2 rfl
 by_cases hlt:k<l2
 case neg=>
  have ek:l2=k:=by omega
  subst ek
  obtain⟨vr,vd,hbox,hr,hd⟩:=HS.o.box
  obtain⟨vs,jv,hrow,jw⟩:=hr
  obtain⟨ar,cr,hvr⟩:=Q7 hrow
  obtain⟨ad,cd,hvd⟩:=Q7 hd
  have HRR:Z (Zm w1.heap.size w1.heap.size wr vr (Qq (Uv N R) N.rels l2).rules):=⟨vs,jv,hrow,jw⟩
  have HDD:Z (Y1 w1.heap.size wr vd (Qq (Uv N R) N.rels l2).drops):=hd
  generalize (Qq (Uv N R) N.rels l2).rules.length=nr at hvr
  generalize (Qq (Uv N R) N.rels l2).drops.length=nd at hvd
  subst hvr hvd
  have BOr:=HS.o.on.blk (BO.o.next HX01.o) (by intro e;have:=zF e;have:=HZ0.o;omega)
  have x0:=hbox.c 0 rfl
  have x1:=hbox.c 1 rfl
  have y0:wr.cell? (aD (w.heap.size+1+1) 0)=some sN:=BOr.c 0 rfl
  have y1:wr.cell? (aD (w.heap.size+1+1) 1)=some sN:=BOr.c 1 rfl
  have z0:wr.frozen? (aD (w.heap.size+1+1) 0)=false:=BOr.frozen 0
  have z1:wr.frozen? (aD (w.heap.size+1+1) 1)=false:=BOr.frozen 1
  have BR':=(BOr.set 0 (sL ar nr cr)).set 1 (sL ad nd cd)
  have p0:_=some (sL ar nr cr):=BR'.c 0 rfl
  have p1:_=some (sL ad nd cd):=BR'.c 1 rfl
  clear hbox hrow hd jv jw hlt hkm BR'
  go_wp2
  refine bodyPost_ret (v:=.agg #[sL ar nr cr,sL ad nd cd]) (by simp[results,results20,go_sem,p0,p1]) rfl ?_
  have h1:w.heap.size+1+1<w1.heap.size:=by have:=HZ1.o;omega
  have h2:w.heap.size<=w1.heap.size:=by omega
  have h3:w.heap.size<=w.heap.size+1+1:=by omega
  refine⟨⟨_,_,rfl,((HRR.o.store h1 h1 _ _).store h1 h1 _ _).base h2 h2,Jn (Qc (Qc HDD.o h1 _ _) h1 _ _) h2⟩,Below.setCell (Below.setCell HBW.o h3 _) h3 _⟩
 have hlt':(k:Int)<l2:=by omega
 have HKR:Z (k<N.rels.length):=by rw[HNL.o];exact hlt
 have HRI:=HR.o k HKR.o
 obtain⟨vr,vd,hbx0,hr0,hd0⟩:=HS.o.box
 have HBX0:Z (Blk wr w0.heap.size #[vr,vd]):=hbx0
 have HR0:Z (Zm w1.heap.size w1.heap.size wr vr (Qq (Uv N R) N.rels k).rules):=hr0
 have HD0:Z (Y1 w1.heap.size wr vd (Qq (Uv N R) N.rels k).drops):=hd0
 have HVL:Z (∀g,vr.ownBlock=some g->g<wr.heap.size):=by
  obtain⟨vs,_,hrow,_⟩:=hr0
  exact λg e=>(Q5 hrow g e).2
 clear hbx0 hr0 hd0
 have HSTEP:Z (Qq (Uv N R) N.rels (k+1)=Jh (Qq (Uv N R) N.rels k) (rat N.rels k) (Xw N R.nodes R.edges (rat N.rels k))):=rfl
 have HRL:=Q0u (Uv N R) N.rels k
 obtain⟨ar,capr,er,jm,hkr⟩:=HNET.o.2.2.1
 simp only[zC] at er
 obtain⟨rfl,jl,rfl⟩:=er
 obtain⟨br,obr,rfl,jB,hbr,hcr⟩:=hkr (by omega)
 obtain⟨vw,c0,c1,c2,c3,c4,c5,c6,hw⟩:=hcr k HKR.o
 clear jm jl jB hkr hcr
 generalize rat N.rels k=r at *
 obtain⟨aw,qw,ew,jm,jk⟩:=id hw
 clear jm jk
 generalize r.ways.length=lw at ew
 subst ew
 have HWI:Z (Q8 B0 w (sL aw lw qw) r.ways):=hw
 have HRI2:Z (Q5u N R r):=HRI
 have d0:=Q0 HBW.o hbr c0
 have d1:=Q0 HBW.o hbr c1
 have d2:=Q0 HBW.o hbr c2
 have d3:=Q0 HBW.o hbr c3
 have d4:=Q0 HBW.o hbr c4
 have d5:=Q0 HBW.o hbr c5
 have d6:=Q0 HBW.o hbr c6
 generalize hSk:Qq (Uv N R) N.rels k=Sk at *
 clear hSk
 have hr1:Sk.rules.length<=1000:=by omega
 have hr2:Sk.drops.length<=1000:=by omega
 clear c0 c1 c2 c3 c4 c5 c6 hw HRI HRL
 go_upto_region 6 with fail
 clear d0 d1 d2 d3 d4 d5 d6 kn2
 have HX5:Z (Nx wr (wr.alloc (.cells #[iV r.id,.bool r.only,iV r.frm,iV r.to,.bool r.via,iV r.node,sL aw lw qw] 111))):=Q4 _ _
 have HZ5a:Z ((wr.alloc (.cells #[iV r.id,.bool r.only,iV r.frm,iV r.to,.bool r.via,iV r.node,sL aw lw qw] 111)).heap.size=wr.heap.size+1):=Q3 _ _
 have BL5:Z (Blk (wr.alloc (.cells #[iV r.id,.bool r.only,iV r.frm,iV r.to,.bool r.via,iV r.node,sL aw lw qw] 111)) wr.heap.size #[iV r.id,.bool r.only,iV r.frm,iV r.to,.bool r.via,iV r.node,sL aw lw qw]):=Blk.new wr _ _ _ rfl
 generalize wr.alloc (.cells #[iV r.id,.bool r.only,iV r.frm,iV r.to,.bool r.via,iV r.node,sL aw lw qw] 111)=w5 at *
 have HS5:Z (SRs w0.heap.size w1.heap.size w1 w5 Sk):=HS.o.next HX5.o
 have HBW5:Z (Below w.heap.size w w5):=Below.trans HBW.o (Below.mono HX5.o HBW.o.size)
 have BN5:=BNr.next HX5.o
 have BR5:=(HS.o.on.blk (BR.o.next HX01.o) (by intro e;have:=zF e;have:=HZ0.o;omega)).next HX5.o
 have m0:=BN5.c 0 rfl
 have m1:=BN5.c 1 rfl
 have m2:=BN5.c 2 rfl
 have m3:=BN5.c 3 rfl
 have m4:=BN5.c 4 rfl
 have o0:=BR5.c 0 rfl
 have o1:=BR5.c 1 rfl
 have o2:=BR5.c 2 rfl
 have o3:=BR5.c 3 rfl
 have p0:=BL5.o.c 0 rfl
 have p1:=BL5.o.c 1 rfl
 have p2:=BL5.o.c 2 rfl
 have p3:=BL5.o.c 3 rfl
 have p4:=BL5.o.c 4 rfl
 have p5:=BL5.o.c 5 rfl
 have p6:=BL5.o.c 6 rfl
 go_wp2_with fail
 refine(Q2f B0 B B0 _ _ _ _ N _ _ _ _ R r _ w5 (by exact HNET.o.next HBW5.o) (by exact HROAD.o.next HBW5.o) (by exact HWI.o.next HBW5.o) hm HRI2.o).mono ?_
 rintro e w6 ⟨⟨uc,rfl,hO⟩,hx6⟩
 have HX6:Z (Nx w5 w6):=hx6
 have HS6:Z (SRs w0.heap.size w1.heap.size w1 w6 Sk):=HS5.o.next hx6
 have BL6:Z (Blk w6 wr.heap.size #[iV r.id,.bool r.only,iV r.frm,iV r.to,.bool r.via,iV r.node,sL aw lw qw]):=BL5.o.next hx6
 have HC5:Z (w1.heap.size<=w5.heap.size):=zP HS.o.on.size HX5.o.size
 have HOC5:Z (∀g,uc.ownBlock=some g->w5.heap.size<=g):=hO.lt
 have HOC:Z (J9 w1.heap.size w6 uc ((Xw N R.nodes R.edges r).map Qb)):=hO.base HC5.o
 have HCB:Z (w0.heap.size<w1.heap.size):=by have:=HZ0.o;have:=HZ1.o;unfold Z;omega
 generalize hch:Xw N R.nodes R.edges r=ch at *
 clear hch hO hx6 m0 m1 m2 m3 m4 o0 o1 o2 o3 p0 p1 p2 p3 p4 p5 p6
 obtain⟨ca,cc,hce⟩:=HOC.o.slice
 rw[zG] at hce
 generalize hcl:ch.length=cl at *
 have HCL:Z (ch.length=cl):=hcl
 subst hce
 clear hcl
 have HZ5:Z (w5.heap.size=wr.heap.size+1):=HZ5a.o
 by_cases hc0:cl=0
 ·have f0:((cl:Int)==0)=true:=by simpa using hc0
  have f1:decide (1<(cl:Int))=false:=by simp;omega
  have f2:((cl:Int)==1)=false:=by simp;omega
  have HRE:Z (reason Sk.rules r.only ch=1):=Q3s (by rw[HCL.o];exact hc0)
  clear hc0
  have HE:Z (Jh Sk r ch=⟨Sk.rules,Sk.drops++[⟨r.id,1⟩]⟩):=Wt HRE.o (by decide)
  obtain⟨vr,vd,hbox,hr,hd⟩:=HS6.o.box
  obtain⟨ad,cd,hvd⟩:=Q7 hd
  have HD:Z (Y1 w1.heap.size w6 vd Sk.drops):=hd
  have HRW:Z (Zm w1.heap.size w1.heap.size w6 vr Sk.rules):=hr
  have HBX:Z (Blk w6 w0.heap.size #[vr,vd]):=hbox
  generalize hnd:Sk.drops.length=nd at *
  have HND:Z (Sk.drops.length=nd):=hnd
  subst hvd
  have x1:=hbox.c 1 rfl
  have kid:=BL6.o.c 0 rfl
  have HCW:Z (w1.heap.size<=w6.heap.size):=HS6.o.on.size
  have HBL:Z (w0.heap.size<w6.heap.size):=hbox.lt
  clear hr hd hbox hnd
  go_wp2_with (at_builtin;refine wpList_append_own_at _ rfl _ _ 61 rfl w1.heap.size 128 iD (.agg #[iV 0,iV 0]) 2 16 underlying61 hiD hzD0 hzD1 hzD2 rfl (by decide) _ _ _ rfl (zB HD.o _) (aD w6.heap.size 0) 1 1 [iV r.id,iV 1] rfl rfl ?f1 ?f2 ?f3 ?f4 ?f5 ?_)
  case f1=>intro j u hj;exact Ql _ _ _ _ rfl j u hj
  case f2=>intro u hu;simp at hu;rcases hu with rfl|rfl<;>rfl
  case f3=>rw[HND.o];unfold maxLen;omega
  case f4=>rw[HND.o];omega
  case f5=>rw[Q3];have:=HCW.o;omega
  intro v7 w7 hown hgrow _ hat7
  have HS7:Z (SRs w0.heap.size w1.heap.size w1 (w7.setCell (aD w0.heap.size 1) v7) (Qq (Uv N R) N.rels (k+1))):=by rw[HSTEP.o,HE.o];exact SRs.drop (x:=⟨r.id,1⟩) HBX.o HRW.o HD.o HS6.o.on HCB.o lR hgrow hown
  have BX7:=(HBX.o.alloc _).grown hgrow (λe=>by have:=(Q5 HD.o _ e.symm).1;have:=HCB.o;omega)
  have x7:=BX7.c 1 rfl
  have f7:=BX7.frozen 1
  obtain⟨a7',c7',hv7⟩:=Q7 hown
  subst hv7
  clear hown hgrow hat7 x1 kid BX7
  go_wp2
  go_roundw
  case rel=>exact⟨k+1,by omega,by go_num,HS7⟩
  case measure=>simp[intOf];omega
 by_cases hc1:1<cl
 ·have f0:((cl:Int)==0)=false:=by simpa using hc0
  have f1:decide (1<(cl:Int))=true:=by simp;omega
  have f2:((cl:Int)==1)=false:=by simp;omega
  have HRE:Z (reason Sk.rules r.only ch=2):=Q3t (by rw[HCL.o];exact hc1)
  clear hc0 hc1
  have HE:Z (Jh Sk r ch=⟨Sk.rules,Sk.drops++[⟨r.id,2⟩]⟩):=Wt HRE.o (by decide)
  obtain⟨vr,vd,hbox,hr,hd⟩:=HS6.o.box
  obtain⟨ad,cd,hvd⟩:=Q7 hd
  have HD:Z (Y1 w1.heap.size w6 vd Sk.drops):=hd
  have HRW:Z (Zm w1.heap.size w1.heap.size w6 vr Sk.rules):=hr
  have HBX:Z (Blk w6 w0.heap.size #[vr,vd]):=hbox
  generalize hnd:Sk.drops.length=nd at *
  have HND:Z (Sk.drops.length=nd):=hnd
  subst hvd
  have x1:=hbox.c 1 rfl
  have kid:=BL6.o.c 0 rfl
  have HCW:Z (w1.heap.size<=w6.heap.size):=HS6.o.on.size
  have HBL:Z (w0.heap.size<w6.heap.size):=hbox.lt
  clear hr hd hbox hnd
  go_wp2_with (at_builtin;refine wpList_append_own_at _ rfl _ _ 61 rfl w1.heap.size 128 iD (.agg #[iV 0,iV 0]) 2 16 underlying61 hiD hzD0 hzD1 hzD2 rfl (by decide) _ _ _ rfl (zB HD.o _) (aD w6.heap.size 0) 1 1 [iV r.id,iV 2] rfl rfl ?f1 ?f2 ?f3 ?f4 ?f5 ?_)
  case f1=>intro j u hj;exact Ql _ _ _ _ rfl j u hj
  case f2=>intro u hu;simp at hu;rcases hu with rfl|rfl<;>rfl
  case f3=>rw[HND.o];unfold maxLen;omega
  case f4=>rw[HND.o];omega
  case f5=>rw[Q3];have:=HCW.o;omega
  intro v7 w7 hown hgrow _ hat7
  have HS7:Z (SRs w0.heap.size w1.heap.size w1 (w7.setCell (aD w0.heap.size 1) v7) (Qq (Uv N R) N.rels (k+1))):=by rw[HSTEP.o,HE.o];exact SRs.drop (x:=⟨r.id,2⟩) HBX.o HRW.o HD.o HS6.o.on HCB.o lR hgrow hown
  have BX7:=(HBX.o.alloc _).grown hgrow (λe=>by have:=(Q5 HD.o _ e.symm).1;have:=HCB.o;omega)
  have x7:=BX7.c 1 rfl
  have f7:=BX7.frozen 1
  obtain⟨a7',c7',hv7⟩:=Q7 hown
  subst hv7
  clear hown hgrow hat7 x1 kid BX7
  go_wp2
  go_roundw
  case rel=>exact⟨k+1,by omega,by go_num,HS7⟩
  case measure=>simp[intOf];omega
 have hc2:cl=1:=by omega
 subst hc2
 clear hc0 hc1
 have HOC0:=HOC.o.at (i:=0) (by rw[zG,HCL.o];omega)
 rw[Q1o (by rw[HCL.o];omega)] at HOC0
 obtain⟨gc,u0,hca,hcg,hO0⟩:=HOC0
 subst hca
 have HREA:Z (reason Sk.rules r.only ch=if rpt Sk.rules r.only (Qb (Jd ch 0)) then 3 else 0):=Q6d HCL.o
 have HSTR:Z (reason Sk.rules r.only ch=0->Jh Sk r ch=⟨Sk.rules++[⟨r.id,r.only,Qb (Jd ch 0)⟩],Sk.drops⟩):=Q1z
 generalize Qb (Jd ch 0)=seq at *
 have HO0:Z (Qd w1.heap.size w6 u0 seq):=hO0
 obtain⟨sa,scp,hu0⟩:=hO0.slice
 generalize seq.length=sn at hu0
 subst hu0
 have HRW:Z (Zm w1.heap.size w1.heap.size w6 vr Sk.rules):=(HR0.o.next HX5.o).next HX6.o
 have HDW:Z (Y1 w1.heap.size w6 vd Sk.drops):=(HD0.o.next HX5.o).next HX6.o
 have HBX:Z (Blk w6 w0.heap.size #[vr,vd]):=(HBX0.o.next HX5.o).next HX6.o
 have hr:=HRW.o
 have hd:=HDW.o
 obtain⟨vs,jv,hrow,jw⟩:=hr
 obtain⟨arr,crr,hvr⟩:=Q7 hrow
 obtain⟨add,cdd,hvd⟩:=Q7 hd
 generalize hnr:Sk.rules.length=nr at *
 have HNR:Z (Sk.rules.length=nr):=hnr
 generalize Sk.drops.length=ndd at hvd
 subst hvr hvd
 have HSEPA:Z ((∀g,(sL arr nr crr).ownBlock=some g->g<wr.heap.size)/\wr.heap.size<gc/\w0.heap.size<wr.heap.size):=⟨HVL.o,by have:=HOC5.o gc rfl;have:=HZ5.o;omega,by have:=HS.o.on.size;have:=HCB.o;omega⟩
 clear hd jv jw hrow hO0 hnr
 have HCG:Z (w6.cell? (aD gc 0)=some (sL sa sn scp)):=hcg
 clear hcg
 generalize wr.heap.size=bL at *
 go_wp2
 go_loopw [9,10] (λz j wr=>∃q:Nat,q<=nr/\j=iV q/\z=iV (rz (Um Sk.rules r.only seq q))/\Z (Nx w6 wr)) (λ_ j _=>nr-(intOf j).toNat)
 case atStart=>exact⟨0,nZ,rfl,by simp[Um,rz],Below.refl _ _⟩
 obtain⟨q,hqm,rfl,rfl,HNQ⟩:=hrel
 have x0:=Q1 HNQ.o (HBX.o.c 0 rfl)
 by_cases hq:q<nr
 case neg=>
  have eq:nr=q:=by omega
  subst eq
  have HALL:Z (Um Sk.rules r.only seq nr=rpt Sk.rules r.only seq):=by rw[<-HNR.o];exact Q9z _ _ _
  rw[HALL.o]
  have HSQ:Z (SRs w0.heap.size w1.heap.size w1 wr (Sk)):=HS6.o.next HNQ.o
  have BLQ:Z (Blk wr bL #[iV r.id,.bool r.only,iV r.frm,iV r.to,.bool r.via,iV r.node,sL aw lw qw]):=BL6.o.next HNQ.o
  cases hrp:rpt Sk.rules r.only seq
  case true=>
   have HRE:Z (reason Sk.rules r.only ch=3):=by unfold Z;rw[HREA.o,hrp];rfl
   rw[show rz true=3 from rfl]
   clear hrp HRW HDW HBX
   have HE:Z (Jh Sk r ch=⟨Sk.rules,Sk.drops++[⟨r.id,3⟩]⟩):=Wt HRE.o (by decide)
   obtain⟨vr,vd,hbox,hr,hd⟩:=HSQ.o.box
   obtain⟨ad,cd,hvd⟩:=Q7 hd
   have HD:Z (Y1 w1.heap.size wr vd Sk.drops):=hd
   have HRW:Z (Zm w1.heap.size w1.heap.size wr vr Sk.rules):=hr
   have HBX:Z (Blk wr w0.heap.size #[vr,vd]):=hbox
   generalize hnd:Sk.drops.length=nd at *
   have HND:Z (Sk.drops.length=nd):=hnd
   subst hvd
   have x1:=hbox.c 1 rfl
   have kid:=BLQ.o.c 0 rfl
   have HCW:Z (w1.heap.size<=wr.heap.size):=HSQ.o.on.size
   have HBL:Z (w0.heap.size<wr.heap.size):=hbox.lt
   clear hr hd hbox hnd
   go_wp2_with (at_builtin;refine wpList_append_own_at _ rfl _ _ 61 rfl w1.heap.size 128 iD (.agg #[iV 0,iV 0]) 2 16 underlying61 hiD hzD0 hzD1 hzD2 rfl (by decide) _ _ _ rfl (zB HD.o _) (aD wr.heap.size 0) 1 1 [iV r.id,iV 3] rfl rfl ?f1 ?f2 ?f3 ?f4 ?f5 ?_)
   case f1=>intro j u hj;exact Ql _ _ _ _ rfl j u hj
   case f2=>intro u hu;simp at hu;rcases hu with rfl|rfl<;>rfl
   case f3=>rw[HND.o];unfold maxLen;omega
   case f4=>rw[HND.o];omega
   case f5=>rw[Q3];have:=HCW.o;omega
   intro v7 w7 hown hgrow _ hat7
   have HS7:Z (SRs w0.heap.size w1.heap.size w1 (w7.setCell (aD w0.heap.size 1) v7) (Qq (Uv N R) N.rels (k+1))):=by rw[HSTEP.o,HE.o];exact SRs.drop (x:=⟨r.id,3⟩) HBX.o HRW.o HD.o HSQ.o.on HCB.o lR hgrow hown
   have BX7:=(HBX.o.alloc _).grown hgrow (λe=>by have:=(Q5 HD.o _ e.symm).1;have:=HCB.o;omega)
   have x7:=BX7.c 1 rfl
   have f7:=BX7.frozen 1
   obtain⟨a7',c7',hv7⟩:=Q7 hown
   subst hv7
   clear hown hgrow hat7 x1 kid BX7
   go_wp2
   go_roundw
   case rel=>exact⟨k+1,by omega,by go_num,HS7⟩
   case measure=>simp[intOf];omega
  case false=>
   have HRE:Z (reason Sk.rules r.only ch=0):=by unfold Z;rw[HREA.o,hrp];rfl
   have HE:Z (Jh Sk r ch=⟨Sk.rules++[⟨r.id,r.only,seq⟩],Sk.drops⟩):=HSTR.o HRE.o
   rw[show rz false=0 from rfl]
   clear hrp
   obtain⟨vs,jv,hrow,jw⟩:=HRW.o.next HNQ.o
   have HJV:Z (vs.length=Sk.rules.length):=jv
   have HROW:Z (wr.ownsRow w1.heap.size 126 3 (sL arr nr crr) Sk.rules.length (Z1 Sk.rules vs)):=hrow
   have HJW:Z (∀i,i<Sk.rules.length->Qd w1.heap.size wr (vat vs i) (Z0 Sk.rules i).seq):=jw
   have HDR:Z (Y1 w1.heap.size wr (sL add ndd cdd) Sk.drops):=HDW.o.next HNQ.o
   have HBR:Z (Blk wr w0.heap.size #[sL arr nr crr,sL add ndd cdd]):=HBX.o.next HNQ.o
   have HOR:Z (Qd w1.heap.size wr (sL sa sn scp) seq):=HO0.o.next HNQ.o
   have kcg:=Q1 HNQ.o HCG.o
   have k0:=BLQ.o.c 0 rfl
   have k1:=BLQ.o.c 1 rfl
   have HCW:Z (w1.heap.size<=wr.heap.size):=HSQ.o.on.size
   clear jv hrow jw HRW HDW HBX hq hqm
   go_upto_region 19 with fail
   have HNRW:Z (Sk.rules.length=nr):=HNR.o
   have HNEL:Z ((∀g,(sL arr nr crr).ownBlock=some g->g<bL)/\bL<gc/\w0.heap.size<bL):=HSEPA.o
   have hmx:prog.follows .mixedOrders=true:=by kernel_rfl
   refine(wpIn_wide (n:=9)).1 ?_
   have HS0:Z ((λw=>w.cell? (aD w0.heap.size 0)=some (sL arr nr crr)/\w.cell? (aD bL 0)=some (iV r.id)/\w.cell? (aD bL 1)=some (.bool r.only)/\w.cell? (aD gc 0)=some (sL sa sn scp)) wr.drew):=⟨x0,k0,k1,kcg⟩
   refine Qj (c:=14) (S:=λw=>w.cell? (aD w0.heap.size 0)=some (sL arr nr crr)/\w.cell? (aD bL 0)=some (iV r.id)/\w.cell? (aD bL 1)=some (.bool r.only)/\w.cell? (aD gc 0)=some (sL sa sn scp)) hmx (by kernel_rfl) (λhw hcl=>?_)
   refine Qf (i:=0) (v:=pT w0.heap.size) hw (by decide) hcl (Qa rfl) rfl (by kernel_rfl) (by kernel_rfl) (by kernel_rfl) (λ_ _ _ h=>h) ⟨oL ⟨by rfl,?y0⟩,λ_=>rfl⟩ HS0.o (λhcl=>?_)
   case y0=>
    rintro w ⟨c1,c2,c3,c4⟩
    go_simp
   refine Qf (i:=1) (v:=sL arr nr crr) hw (by decide) hcl (Qa rfl) rfl (by kernel_rfl) (by kernel_rfl) (by kernel_rfl) (λ_ _ _ h=>h) ⟨oL ⟨by rfl,?y1⟩,λ_=>rfl⟩ HS0.o (λhcl=>?_)
   case y1=>
    rintro w ⟨c1,c2,c3,c4⟩
    go_simp
   refine Qf (i:=2) (v:=pT bL) hw (by decide) hcl (Qa rfl) rfl (by kernel_rfl) (by kernel_rfl) (by kernel_rfl) (λ_ _ _ h=>h) ⟨oL ⟨by rfl,?y2⟩,λ_=>rfl⟩ HS0.o (λhcl=>?_)
   case y2=>
    rintro w ⟨c1,c2,c3,c4⟩
    go_simp
   refine Qf (i:=3) (v:=iV r.id) hw (by decide) hcl (Qa rfl) rfl (by kernel_rfl) (by kernel_rfl) (by kernel_rfl) (λ_ _ _ h=>h) ⟨oL ⟨by rfl,?y3⟩,λ_=>rfl⟩ HS0.o (λhcl=>?_)
   case y3=>
    rintro w ⟨c1,c2,c3,c4⟩
    go_simp
   refine Qf (i:=4) (v:=.pointer (some (aD bL 1))) hw (by decide) hcl (Qa rfl) rfl (by kernel_rfl) (by kernel_rfl) (by kernel_rfl) (λ_ _ _ h=>h) ⟨oL ⟨by rfl,?y4⟩,λ_=>rfl⟩ HS0.o (λhcl=>?_)
   case y4=>
    rintro w ⟨c1,c2,c3,c4⟩
    go_simp
   refine Qf (i:=5) (v:=.bool r.only) hw (by decide) hcl (Qa rfl) rfl (by kernel_rfl) (by kernel_rfl) (by kernel_rfl) (λ_ _ _ h=>h) ⟨oL ⟨by rfl,?y5⟩,λ_=>rfl⟩ HS0.o (λhcl=>?_)
   case y5=>
    rintro w ⟨c1,c2,c3,c4⟩
    go_simp
   refine Qf (i:=6) (v:=sL (sA gc) 1 cc) hw (by decide) hcl (Qa rfl) rfl (by kernel_rfl) (by kernel_rfl) (by kernel_rfl) (λ_ _ _ h=>h) ⟨oL ⟨by rfl,?y6⟩,λ_=>rfl⟩ HS0.o (λhcl=>?_)
   case y6=>
    rintro w ⟨c1,c2,c3,c4⟩
    go_simp
   refine Qf (i:=7) (v:=pT gc) hw (by decide) hcl (Qa rfl) rfl (by kernel_rfl) (by kernel_rfl) (by kernel_rfl) (λ_ _ _ h=>h) ⟨oL ⟨by rfl,?y7⟩,λ_=>rfl⟩ HS0.o (λhcl=>?_)
   case y7=>
    rintro w ⟨c1,c2,c3,c4⟩
    go_simp
   refine Qf (i:=8) (v:=pT gc) hw (by decide) hcl (Qa rfl) rfl (by kernel_rfl) (by kernel_rfl) (by kernel_rfl) (λ_ _ _ h=>h) ⟨oL ⟨by rfl,?y8⟩,λ_=>rfl⟩ HS0.o (λhcl=>?_)
   case y8=>
    rintro w ⟨c1,c2,c3,c4⟩
    go_simp
   refine Qf (i:=9) (v:=sL sa sn scp) hw (by decide) hcl (Qa rfl) rfl (by kernel_rfl) (by kernel_rfl) (by kernel_rfl) (λ_ _ _ h=>h) ⟨oL ⟨by rfl,?y9⟩,λ_=>rfl⟩ HS0.o (λhcl=>?_)
   case y9=>
    rintro w ⟨c1,c2,c3,c4⟩
    go_simp
   refine Qf (i:=10) (v:=.agg #[iV r.id,.bool r.only,sL sa sn scp]) hw (by decide) hcl (Qa rfl) rfl (by kernel_rfl) (by kernel_rfl) (by kernel_rfl) (λ_ _ _ h=>h) ⟨oL ⟨by rfl,?y10⟩,λ_=>rfl⟩ HS0.o (λhcl=>?_)
   case y10=>
    rintro w ⟨c1,c2,c3,c4⟩
    go_simp
   refine Qg (i:=11) (by kernel_rfl) (wpOpIn_step rfl (λK hK=>?_))
   go_simp
   refine hK _ _ ⟨oR ⟨Q1 (Q4 _ _) x0,Q1 (Q4 _ _) k0,Q1 (Q4 _ _) k1,Q1 (Q4 _ _) kcg⟩,?_⟩
   clear hK K
   refine Qg (i:=12) (by kernel_rfl) (wpOpIn_step rfl (λK hK=>?_))
   refine Ze rfl (.tmp 69) (.tmp 79) 60 rfl 126 iR (.agg #[iV 0,.bool false,sN]) 3 40 underlying60 hiR hzR0 hzR1 hzR2 rfl (by decide) w1.heap.size (sL arr nr crr) _ _ (by simp[Act.eval]) (show(wr.drew.alloc (.cells #[iV r.id,.bool r.only,sL sa sn scp] 126)).ownsRow _ _ _ _ _ _ from zB HROW.o _) (aD wr.heap.size 0) 1 1 [iV r.id,.bool r.only,sL sa sn scp] (by simp[Act.eval]) rfl (λj u hj=>Ql wr.drew _ _ _ rfl j u hj) (by intro u hu;simp at hu;rcases hu with rfl|rfl|rfl<;>rfl) (by rw[HNRW.o];unfold maxLen;omega) (by rw[HNRW.o];omega) (by show w1.heap.size<=(wr.drew.alloc (.cells #[iV r.id,.bool r.only,sL sa sn scp] 126)).heap.size;rw[Q3];have:=HCW.o;show w1.heap.size<=wr.heap.size+1;omega) ?_
   intro v7 w7 hown hgrow1 hat7
   have hgrow:(wr.alloc (.cells #[iV r.id,.bool r.only,sL sa sn scp] 126)).grownBy w7 (sL arr nr crr).ownBlock:=⟨hgrow1.os,hgrow1.tape,hgrow1.output,hgrow1.size,hgrow1.block⟩
   have HS7:Z (SRs w0.heap.size w1.heap.size w1 (w7.setCell (aD w0.heap.size 0) v7) (Qq (Uv N R) N.rels (k+1))):=by rw[HSTEP.o,HE.o];exact SRs.rule (x:=⟨r.id,r.only,seq⟩) HBR.o HJV.o HROW.o HJW.o HDR.o HSQ.o.on HCB.o lR HOR.o hgrow hown
   have BX7:=(HBR.o.alloc _).grown hgrow (λe=>by have:=(Q5 HROW.o _ e.symm).1;have:=HCB.o;omega)
   have x7:=BX7.c 0 rfl
   have f7:=BX7.frozen 0
   have s1:w7.cell? (aD bL 0)=some (iV r.id):=Q8v hgrow (Q1 (Q4 _ _) k0) (λe=>yK _ (HNEL.o.1 bL e.symm))
   have s2:w7.cell? (aD bL 1)=some (.bool r.only):=Q8v hgrow (Q1 (Q4 _ _) k1) (λe=>yK _ (HNEL.o.1 bL e.symm))
   have s3:w7.cell? (aD gc 0)=some (sL sa sn scp):=Q8v hgrow (Q1 (Q4 _ _) kcg) (λe=>yK _ (Nat.lt_trans (HNEL.o.1 gc e.symm) HNEL.o.2.1))
   obtain⟨a7',c7',hv7⟩:=Q7 hown
   subst hv7
   refine hK _ _ ⟨oR ⟨x7,s1,s2,s3⟩,?_⟩
   clear hK K hown hgrow hgrow1 hat7 BX7
   refine Qg (i:=13) (by kernel_rfl) (wpOpIn_step rfl (λK hK=>?_))
   go_simp
   refine hK _ _ ⟨oR ⟨x7,s1,s2,s3⟩,?_⟩
   clear hK K
   clear s1 s2 s3
   refine Qg (i:=14) (by kernel_rfl) (wpOpIn_step rfl (λK hK=>?_))
   go_simp
   refine hK _ _ ⟨oL (by decide),?_⟩
   clear hK K
   refine Qm (by kernel_rfl) ?_ _
   clear hw hcl HS0 x0 k0 k1 kcg x7 f7
   go_wp2
   go_roundw
   case rel=>exact⟨k+1,by omega,by go_num,HS7⟩
   case measure=>simp[intOf];omega
 have hq':(q:Int)<nr:=by omega
 have HQR:Z (q<Sk.rules.length):=by rw[HNR.o];exact hq
 have HSUC:Z (Um Sk.rules r.only seq (q+1)=(Um Sk.rules r.only seq q||((Z0 Sk.rules q).only==r.only&&decide ((Z0 Sk.rules q).seq=seq)))):=Q6k HQR.o
 obtain⟨gr,us,har,y0,y1,y2,hOs⟩:=(HRW.o.next HNQ.o).at HQR.o
 subst har
 have HOS:Z (Qd w1.heap.size wr us (Z0 Sk.rules q).seq):=hOs
 obtain⟨ssa,ssc,hus⟩:=hOs.slice
 generalize (Z0 Sk.rules q).seq.length=ssn at hus
 subst hus
 have b1:=cell_regrown x0
 have b2:=cell_regrown y1
 have b3:=cell_regrown y2
 have b4:=cell_regrown (Q1 HNQ.o HCG.o)
 have b5:=cell_regrown ((BL6.o.next HNQ.o).c 1 rfl)
 have CG:Z (∀d os,Calls prog 64 #[sL ssa ssn ssc,sL sa sn scp] (Sort.grow (redrawn wr d) os) λe w''=>e=.returned (.bool (decide ((Z0 Sk.rules q).seq=seq)))/\∃p:Regrown,w''=Sort.grow (redrawn wr p.d) p.os):=
  λd os=>Calls.regrown_of (K9 w1.heap.size w1.heap.size _ _ (Z0 Sk.rules q).seq seq _ (HOS.o.held.next (below_regrown wr d os)) ((HO0.o.next HNQ.o).held.next (below_regrown wr d os)))
 clear hOs y0 y1 y2
 generalize (Z0 Sk.rules q).only=oq at *
 cases ho:(oq==r.only)
 ·have HE1:Z (Um Sk.rules r.only seq (q+1)=Um Sk.rules r.only seq q):=by unfold Z;rw[HSUC.o,ho];simp
  go_upto_region 16 with fail
  refine wp_region_quiet_below (by kernel_rfl) (by kernel_rfl) ?_
  repeat (go_big_quiet_step (exact CG.o _ _))
  refine wpQuiet_nil ?_
  intro _ hw'
  obtain⟨⟨dq,osq⟩,hw''⟩:=hw'
  subst hw''
  have HB:Z (Nx wr (Sort.grow (redrawn wr dq) osq)):=below_regrown wr dq osq
  clear b1 b2 b3 b4 b5 x0 ho
  generalize Sort.grow (redrawn wr dq) osq=wz at *
  go_wp2
  go_roundw
  case rel=>exact⟨q+1,by omega,by go_num,by rw[HE1.o],HNQ.o.trans HB.o⟩
  case measure=>simp[intOf];omega
 ·by_cases hsq:(Z0 Sk.rules q).seq=seq
  ·have HE1:Z (rz (Um Sk.rules r.only seq (q+1))=3):=by unfold Z;rw[HSUC.o,ho,yH hsq];simp[rz]
   rw[yH hsq] at CG
   go_upto_region 16 with fail
   refine wp_region_quiet_below (by kernel_rfl) (by kernel_rfl) ?_
   repeat (go_big_quiet_step (exact CG.o _ _))
   refine wpQuiet_nil ?_
   intro _ hw'
   obtain⟨⟨dq,osq⟩,hw''⟩:=hw'
   subst hw''
   have HB:Z (Nx wr (Sort.grow (redrawn wr dq) osq)):=below_regrown wr dq osq
   clear b1 b2 b3 b4 b5 x0 ho hsq
   generalize Sort.grow (redrawn wr dq) osq=wz at *
   go_wp2
   go_roundw
   case rel=>exact⟨q+1,by omega,by go_num,by rw[HE1.o],HNQ.o.trans HB.o⟩
   case measure=>simp[intOf];omega
  ·have HE1:Z (Um Sk.rules r.only seq (q+1)=Um Sk.rules r.only seq q):=by unfold Z;rw[HSUC.o,ho,yJ hsq];simp
   rw[yJ hsq] at CG
   go_upto_region 16 with fail
   refine wp_region_quiet_below (by kernel_rfl) (by kernel_rfl) ?_
   repeat (go_big_quiet_step (exact CG.o _ _))
   refine wpQuiet_nil ?_
   intro _ hw'
   obtain⟨⟨dq,osq⟩,hw''⟩:=hw'
   subst hw''
   have HB:Z (Nx wr (Sort.grow (redrawn wr dq) osq)):=below_regrown wr dq osq
   clear b1 b2 b3 b4 b5 x0 ho hsq
   generalize Sort.grow (redrawn wr dq) osq=wz at *
   go_wp2
   go_roundw
   case rel=>exact⟨q+1,by omega,by go_num,by rw[HE1.o],HNQ.o.trans HB.o⟩
   case measure=>simp[intOf];omega
end Go.Proofs.YtahpodmokbdjeaaGreatDoor
namespace Go.Proofs.YtahpodmokbdjeaaGreatDoor
open Go.RowKit Go.Sort
set_option linter.unusedVariables false
set_option maxRecDepth 1000000
set_option maxHeartbeats 16000000
theorem Q35 {N:Nt}(h:Ua N){e:Nat}(he:e<(E1 N).length):0<=(eat (E1 N) e).head/\(eat (E1 N) e).head<N.nodes.length:=by
 rw[Wb] at he
 obtain⟨i,j,q,hi,hj,hq,he1⟩:=Tw N.ways.length he
 obtain⟨_,a1⟩:=Yb hi hj hq
 rw[<-he1] at a1
 have hm:=Uq (λi j=>rfl) h.asc
 have hp:∀t,Vs N.nodes t=true->pos N.nodes t<N.nodes.length:=by
  intro t ht
  obtain⟨k,hk,rfl⟩:=Q2j ht
  rw[Q23 hm hk]
  exact hk
 have hl:=h.len i hi
 have hns:nsN N i=(wat N.ways i).weights.length:=rfl
 have p0:=hp _ (h.has i j hi (by omega))
 have p1:=hp _ (h.has i (j+1) hi (by omega))
 rw[a1]
 split
 ·exact⟨by simp[fwd],by simp[fwd];omega⟩
 ·split
  ·exact⟨by simp[fwd],by simp[fwd];omega⟩
  ·exact⟨by simp[bwd],by simp[bwd];omega⟩
theorem Ar {N:Nt}(h:Ua N):(E1 N).length<=4000:=by
 rw[Wb]
 unfold mN
 rw[Qb5]
 exact h.ed
structure Qds (N:Nt):Prop where
 one:∀i,i<N.ways.length->1<=(wat N.ways i).weights.length
 rel:∀k,k<N.rels.length->J8 N (rat N.rels k)=true
 cnt:N.rels.length<=1000
 ascw:Ur N.ways=true
theorem Yv {N:Nt}(h:Qe N=true):Qds N:=by
 simp only[Qe,U8,zH,decide_eq_true_eq] at h
 obtain⟨⟨c0,c1,ed,c2,c3⟩,hu,⟨ha,hn⟩,⟨hw,haw⟩,⟨hr,_⟩,ht,_⟩:=h
 refine⟨λi hi=>?_,λk hk=>Yj hr hk,c2,haw⟩
 have:=Yj hw hi
 simp only[Qu,Vp,zH,decide_eq_true_eq] at this
 obtain⟨⟨⟨⟨⟨g0,g1⟩,g2⟩,g3⟩,g4⟩,g5⟩:=this
 exact g1
theorem Z3 {N:Nt}(h:Ua N)(h2:Qds N){i:Nat}(hi:i<N.ways.length):Vy (E1 N) i (E1 N).length≠[]/\((wat N.ways i).both=true->Xt (E1 N) i (E1 N).length≠[]):=by
 have h1:=h2.one i hi
 have hns:nsN N i=(wat N.ways i).weights.length:=rfl
 have hbn:1<=bnN N i:=by unfold bnN;split<;>omega
 constructor
 ·obtain⟨_,a1⟩:=Yb (N:=N) (i:=i) (j:=0) (q:=0) hi (by omega) (by omega)
  have hlt:st (nsN N) (bnN N) i+bnN N i*0+0<(E1 N).length:=by rw[Wb];exact Qb4 hi (by omega) (by omega)
  intro e
  have hm:st (nsN N) (bnN N) i+bnN N i*0+0∈Vy (E1 N) i (E1 N).length:=by
   unfold Vy
   rw[yB]
   refine⟨List.mem_range.2 hlt,?_⟩
   unfold Yr
   rw[a1]
   split
   ·simp[fwd]
   ·simp[fwd]
  rw[e] at hm
  simp at hm
 ·intro hb
  have hbn2:bnN N i=2:=by unfold bnN;rw[if_pos hb]
  obtain⟨_,a1⟩:=Yb (N:=N) (i:=i) (j:=0) (q:=1) hi (by omega) (by omega)
  have hlt:st (nsN N) (bnN N) i+bnN N i*0+1<(E1 N).length:=by rw[Wb];exact Qb4 hi (by omega) (by omega)
  intro e
  have hm:st (nsN N) (bnN N) i+bnN N i*0+1∈Xt (E1 N) i (E1 N).length:=by
   unfold Xt
   rw[List.mem_reverse,yB]
   refine⟨List.mem_range.2 hlt,?_⟩
   unfold Yr
   rw[a1,if_neg (by omega),if_neg (by omega)]
   simp[bwd]
  rw[e] at hm
  simp at hm
theorem Qhp {N:Nt}(hv:Qe N=true):Q97 N (Ul N):=by
 have h:=Jz hv
 have h2:=Yv hv
 intro k hk
 have hr:=h2.rel k hk
 simp only[J8,zH] at hr
 obtain⟨_,hf,ht,hT⟩:=hr
 unfold J3 at hT
 refine⟨hf,ht,?_,λj hj=>?_,λi hi=>Z3 h h2 hi,λe he=>Q35 h he⟩
 ·split at hT
  ·simp at hT;rw[hT.1];simp
  ·simp at hT;exact hT.2.2.1
 ·split at hT
  ·simp only[zH,decide_eq_true_eq] at hT;omega
  ·simp only[zH,decide_eq_true_eq] at hT
   exact Yj hT.2.2.2 hj
def J5 (N:Nt):Rs:=if Qe N then Qq (Uv N (Ul N)) N.rels N.rels.length else ⟨[],[]⟩
end Go.Proofs.YtahpodmokbdjeaaGreatDoor
namespace Go.Proofs.YtahpodmokbdjeaaGreatDoor
open Go.RowKit Go.Sort Tryz
set_option linter.unusedVariables false
set_option maxRecDepth 1000000
set_option maxHeartbeats 16000000
structure EB (w:World)(b e:Nat)(x:Eg):Prop where
 tail:w.cell? (aD b 0)=some (iV x.tail)
 head:w.cell? (aD b 1)=some (iV x.head)
 wgt:w.cell? (aD b 2)=some (iV x.weight)
 back:w.cell? (aD b 5)=some (.bool x.back)
 twin:w.cell? (aD b 6)=some (iV x.twin)
 num:w.cell? (aD b 7)=some (iV (e:Int))
theorem EB.next {w w':World}{b e:Nat}{x:Eg}(h:EB w b e x)(k:Nx w w'):EB w' b e x:=
 ⟨Q1 k h.tail,Q1 k h.head,Q1 k h.wgt,Q1 k h.back,Q1 k h.twin,Q1 k h.num⟩
def Zb (B:Nat)(w:World)(v:Value)(ps:List Nat):Prop:=Ji B w v ps.length λb off i=>w.cell? (aD b (off+i))=some (pT (ps.getD i 0))
theorem Zb.keep {B:Nat}{w w':World}{v:Value}{ps:List Nat}(h:Zb B w v ps)(k:Xh B w w'):Zb B w' v ps:=
 Ji.mono h lR k.1 λb off hb hs i hi hc=>(k.2 b hb hs _).trans hc
theorem Zb.next {B:Nat}{w w':World}{v:Value}{ps:List Nat}(h:Zb B w v ps)(k:Nx w w'):Zb B w' v ps:=h.keep (k.keeps B)
theorem Zb.at {B:Nat}{w:World}{v:Value}{eb:Nat->Nat}{l:List Nat}(h:Zb B w v (l.map eb))(hp:0<l.length):∃b off c,v=sL (some (aD b off)) l.length c/\b<w.heap.size/\∀i,i<l.length->w.cell? (aD b (off+i))=some (pT (eb (l.getD i 0))):=by
 obtain⟨a,cap,e,_,hk⟩:=h
 rw[zG] at e hk
 obtain⟨b,off,rfl,_,hb,hc⟩:=hk hp
 refine⟨b,off,cap,e,hb,λi hi=>?_⟩
 have:=hc i hi
 rw[this]
 simp[List.getD_eq_getElem?_getD,hi]
theorem Zu {l:List Nat}{k:Nat}(h:k<l.length):l.take (k+1)=l.take k++[l.getD k 0]:=by
 rw[zR h]
 simp[List.getD_eq_getElem?_getD,h]
theorem Ps (B:Nat)(v:Value)(es:List Eg)(eb:Nat->Nat)(l:List Nat)(w:World)(h0:Zb B w v (l.map eb))(hl:l≠[])(hlen:l.length<=4000)(he:∀e∈l,EB w (eb e) e (eat es e)) :
  Calls prog 120 #[v] w λe w'=>(∃u,e=.returned (.agg #[iV (tlL es l),iV (hdL es l),u])/\Qd w.heap.size w' u (Qb l))/\Nx w w':=by
 obtain⟨ii,hi,hz0,hz1,hz2⟩:=info_parts U0
 have HE:Z (∀e∈l,EB w (eb e) e (eat es e)):=he
 have hpos:0<l.length:=List.length_pos_iff.2 hl
 obtain⟨b,off,c,rfl,hb,hc⟩:=h0.at hpos
 have HC:Z (∀i,i<l.length->w.cell? (aD b (off+i))=some (pT (eb (l.getD i 0)))):=hc
 obtain⟨lm,hlm⟩:∃lm,l.length=lm+1:=⟨l.length-1,by omega⟩
 have hmem:∀i,i<l.length->l.getD i 0∈l:=λi hi=>by
  have:l.getD i 0=l[i]:=by simp[List.getD_eq_getElem?_getD,hi]
  rw[this];exact yN hi
 have HMEM:Z (∀i,i<l.length->l.getD i 0∈l):=hmem
 have x0:=hc 0 hpos
 have x1:=hc lm (by omega)
 have t0:=(he _ (hmem 0 hpos)).tail
 have t1:=(he _ (hmem lm (by omega))).head
 have HTL:Z (tlL es l=(eat es (l.getD 0 0)).tail):=by
  unfold Z tlL
  cases l with
  |nil=>exact absurd rfl hl
  |cons a l=>rfl
 have HHD:Z (hdL es l=(eat es (l.getD lm 0)).head):=by
  unfold Z hdL
  rw[List.getLastD_eq_getLast?,List.getLast?_eq_getElem?,zD,hlm]
  rfl
 rw[<-HTL.o] at t0
 rw[<-HHD.o] at t1
 generalize tlL es l=T at *
 generalize hdL es l=H at *
 generalize eb (l.getD 0 0)=e0 at *
 generalize eb (l.getD lm 0)=e1 at *
 have HLN:Z (l.length=lm+1):=hlm
 have hlm4:lm<=4000:=by omega
 have hlm':(lm:Int)<(lm:Int)+1:=by omega
 have hz:(0:Int)<(lm:Int)+1:=by omega
 have hlm0:(0:Int)<=(lm:Int):=by omega
 have hwj:=Yk lm (by omega)
 rw[hlm]
 simp only[Nat.add_zero] at x0
 clear hc he hmem hlm hpos hl h0
 generalize hW0:w.alloc (.cells #[iV 0,iV 0,sN] 208)=w0
 have HX0:Z (Nx w w0):=by rw[<-hW0];exact Q4 _ _
 have HB0:Z (Blk w0 w.heap.size #[iV 0,iV 0,sN]):=by rw[<-hW0];exact Blk.new w _ _ _ rfl
 have HZ0:Z (w0.heap.size=w.heap.size+1):=by rw[<-hW0];exact Q3 _ _
 go_enter func120,ntmps120
 go_upto_region 1 with fail
 clear hW0
 have y0:=Q1 HX0.o x0
 have y1:=Q1 HX0.o x1
 have y2:=Q1 HX0.o t0
 have y3:=Q1 HX0.o t1
 clear x0 x1 t0 t1
 go_cut [3] from 6 to 24 (λs3 wc=>Z (s3=pT w0.heap.size)/\Z (Nx w0 wc)/\Z (Blk wc w0.heap.size #[iV T,iV H,sN]))
 case first=>
  go_region_held3 (λw'=>w'.cell? (aD b off)=some (pT e0)/\w'.cell? (aD b (off+lm))=some (pT e1)/\w'.cell? (aD e0 0)=some (iV T)/\w'.cell? (aD e1 1)=some (iV H)) (go_keep) (fail)
  all_goals go_wp2
  all_goals go_meet
  all_goals exact⟨rfl,(Q4 _ _).drew,(Blk.new _ _ _ _ rfl).drew⟩
 case rest=>
 obtain⟨hs3,HXc,HBc⟩:=hcut
 have hs3':=hs3.o
 subst hs3'
 clear hs3 y0 y1 y2 y3
 have HCc:Z (w0.heap.size<wc.heap.size):=HBc.o.lt
 generalize w0.heap.size=bo at *
 go_wp2
 go_loopw [26] (λi wr=>∃(k:Nat) (u:Value),k<=lm+1/\i=iV k/\Z (Blk wr bo #[iV T,iV H,u])/\Z (Qd wc.heap.size wr u (Qb (l.take k)))/\Z (J1 (some bo) wc wr)) (λi _=>lm+1-(intOf i).toNat)
 case atStart=>exact⟨0,sN,nZ,rfl,HBc,⟨rfl,oL ⟨rfl,rfl⟩⟩,J1.refl _ _⟩
 obtain⟨k,u,hkm,rfl,HBX,HO,HON⟩:=hrel
 have HXw:Z (Nx w wc):=HX0.o.trans HXc.o
 have HBW:Z (Below w.heap.size w wr):=Below.trans HXw.o (HON.o.below (by intro g hg;cases hg;have:=HZ0.o;omega) HXw.o.size)
 by_cases hlt:k<lm+1
 case neg=>
  have ek:lm+1=k:=by omega
  subst ek
  obtain⟨ua,uc,hue⟩:=HO.o.slice
  have HTK:Z (l.take (lm+1)=l):=by unfold Z;rw[<-HLN.o,zU]
  generalize (Qb (l.take (lm+1))).length=ul at hue
  subst hue
  have HF:Z (Qd wc.heap.size wr (sL ua ul uc) (Qb l)):=by have:=HO.o;rw[HTK.o] at this;exact this
  have BZ:=HON.o.blk (HB0.o.next HXc.o) (by intro e;have:=zF e;have:=HZ0.o;omega)
  have x0:=HBX.o.c 0 rfl
  have x1:=HBX.o.c 1 rfl
  have x2:=HBX.o.c 2 rfl
  have y0:=BZ.c 0 rfl
  have y1:=BZ.c 1 rfl
  have y2:=BZ.c 2 rfl
  have z0:=BZ.frozen 0
  have z1:=BZ.frozen 1
  have z2:=BZ.frozen 2
  have BR':=((BZ.set 0 (iV T)).set 1 (iV H)).set 2 (sL ua ul uc)
  have p0:_=some (iV T):=BR'.c 0 rfl
  have p1:_=some (iV H):=BR'.c 1 rfl
  have p2:_=some (sL ua ul uc):=BR'.c 2 rfl
  clear BR' hlt hkm
  go_wp2
  refine bodyPost_ret (v:=.agg #[iV T,iV H,sL ua ul uc]) (by simp[results,results120,go_sem,p0,p1,p2]) rfl ?_
  have h1:w.heap.size<wc.heap.size:=by have:=HZ0.o;have:=HCc.o;omega
  exact⟨⟨_,rfl,Qd.base (Qc (Qc (Qc HF.o h1 _ _) h1 _ _) h1 _ _) (Nat.le_of_lt h1)⟩,Below.setCell (Below.setCell (Below.setCell HBW.o lR _) lR _) lR _⟩
 have hlt':(k:Int)<(lm:Int)+1:=by omega
 have hk0:(0:Int)<=(k:Int):=by omega
 have c0:=Q0 HBW.o hb (HC.o k (by rw[HLN.o];exact hlt))
 have HES:Z (Qb (l.take (k+1))=Qb (l.take k)++[((l.getD k 0:Nat):Int)]):=by unfold Z;rw[Zu (by rw[HLN.o];exact hlt),Pf]
 have HEX:=HE.o _ (HMEM.o k (by rw[HLN.o];exact hlt))
 have c1:=Q0 HBW.o (Zj HEX.num) HEX.num
 have hebl:=Zj HEX.num
 clear HEX
 generalize l.getD k 0=x at *
 obtain⟨ua,uc,hue⟩:=HO.o.slice
 have HLK:Z ((Qb (l.take k)).length=k):=by unfold Z;rw[J6,yC,HLN.o];omega
 rw[HLK.o] at hue
 subst hue
 have c2:=HBX.o.c 2 rfl
 have HCW:Z (wc.heap.size<=wr.heap.size):=HON.o.size
 have HNB:Z (eb x<w.heap.size/\w.heap.size<bo+1/\bo<wc.heap.size):=⟨hebl,by have:=HZ0.o;omega,HCc.o⟩
 have hmx:prog.follows .mixedOrders=true:=by kernel_rfl
 go_upto_region 5 with fail
 refine(wpIn_wide (n:=9)).1 ?_
 have HS0:Z ((λw=>w.cell? (aD bo 2)=some (sL ua k uc)/\w.cell? (aD (eb x) 7)=some (iV (x:Int))) wr.drew):=⟨c2,c1⟩
 refine Qj (c:=9) (S:=λw=>w.cell? (aD bo 2)=some (sL ua k uc)/\w.cell? (aD (eb x) 7)=some (iV (x:Int))) hmx (by kernel_rfl) (λhw hcl=>?_)
 refine Qf (i:=0) (v:=.pointer (some (aD bo 2))) hw (by decide) hcl (Qa rfl) rfl (by kernel_rfl) (by kernel_rfl) (by kernel_rfl) (λ_ _ _ h=>h) ⟨oL ⟨by rfl,?y0⟩,λ_=>rfl⟩ HS0.o (λhcl=>?_)
 case y0=>
  rintro w ⟨c3,c4⟩
  go_simp
 refine Qf (i:=1) (v:=sL ua k uc) hw (by decide) hcl (Qa rfl) rfl (by kernel_rfl) (by kernel_rfl) (by kernel_rfl) (λ_ _ _ h=>h) ⟨oL ⟨by rfl,?y1⟩,λ_=>rfl⟩ HS0.o (λhcl=>?_)
 case y1=>
  rintro w ⟨c3,c4⟩
  go_simp
 refine Qf (i:=2) (v:=pT (eb x)) hw (by decide) hcl (Qa rfl) rfl (by kernel_rfl) (by kernel_rfl) (by kernel_rfl) (λ_ _ _ h=>h) ⟨oL ⟨by rfl,?y2⟩,λ_=>rfl⟩ HS0.o (λhcl=>?_)
 case y2=>
  rintro w ⟨c3,c4⟩
  go_simp
 refine Qf (i:=3) (v:=pT (eb x)) hw (by decide) hcl (Qa rfl) rfl (by kernel_rfl) (by kernel_rfl) (by kernel_rfl) (λ_ _ _ h=>h) ⟨oL ⟨by rfl,?y3⟩,λ_=>rfl⟩ HS0.o (λhcl=>?_)
 case y3=>
  rintro w ⟨c3,c4⟩
  go_simp
 refine Qf (i:=4) (v:=.pointer (some (aD (eb x) 7))) hw (by decide) hcl (Qa rfl) rfl (by kernel_rfl) (by kernel_rfl) (by kernel_rfl) (λ_ _ _ h=>h) ⟨oL ⟨by rfl,?y4⟩,λ_=>rfl⟩ HS0.o (λhcl=>?_)
 case y4=>
  rintro w ⟨c3,c4⟩
  go_simp
 refine Qf (i:=5) (v:=iV (x:Int)) hw (by decide) hcl (Qa rfl) rfl (by kernel_rfl) (by kernel_rfl) (by kernel_rfl) (λ_ _ _ h=>h) ⟨oL ⟨by rfl,?y5⟩,λ_=>rfl⟩ HS0.o (λhcl=>?_)
 case y5=>
  rintro w ⟨c3,c4⟩
  go_simp
 refine Qg (i:=6) (by kernel_rfl) (wpOpIn_step rfl (λK hK=>?_))
 go_simp
 refine hK _ _ ⟨oR ⟨Q1 (Q4 _ _) c2,Q1 (Q4 _ _) c1⟩,?_⟩
 clear hK K
 refine Qg (i:=7) (by kernel_rfl) (wpOpIn_step rfl (λK hK=>?_))
 refine Ze rfl (.tmp 31) (.tmp 36) 22 rfl 2 ii (iV 0) 1 8 underlying22 hi hz0 hz1 hz2 rfl (by decide) wc.heap.size (sL ua k uc) _ _ (by simp[Act.eval]) (show(wr.drew.alloc (.cells #[iV (x:Int)] 2)).ownsRow _ _ _ _ _ _ from zB HO.o _) (aD wr.heap.size 0) 1 1 [iV (x:Int)] (by simp[Act.eval]) rfl (λj u hj=>Ql wr.drew _ _ _ rfl j u hj) (by intro u hu;simp at hu;subst hu;rfl) (by rw[HLK.o];unfold maxLen;omega) (by rw[HLK.o];omega) (by show wc.heap.size<=(wr.drew.alloc (.cells #[iV (x:Int)] 2)).heap.size;rw[Q3];have:=HCW.o;show wc.heap.size<=wr.heap.size+1;omega) ?_
 intro v7 w7 hown hgrow1 hat7
 have hgrow:(wr.alloc (.cells #[iV (x:Int)] 2)).grownBy w7 (sL ua k uc).ownBlock:=⟨hgrow1.os,hgrow1.tape,hgrow1.output,hgrow1.size,hgrow1.block⟩
 have BX7:=(HBX.o.alloc (.cells #[iV (x:Int)] 2)).grown hgrow (λe=>by have:=(Q5 HO.o _ e.symm).1;have:=HNB.o;omega)
 have x7:=BX7.c 2 rfl
 have f7:=BX7.frozen 2
 have s1:w7.cell? (aD (eb x) 7)=some (iV (x:Int)):=Q8v hgrow (Q1 (Q4 _ _) c1) (λe=>by have:=(Q5 HO.o _ e.symm).1;have:=HNB.o;omega)
 have HO7:Z (Qd wc.heap.size (w7.setCell (aD bo 2) v7) v7 (Qb (l.take (k+1)))):=by rw[HES.o];exact Qc (Qd.snoc hown) HCc.o 2 _
 have HB7:Z (Blk (w7.setCell (aD bo 2) v7) bo #[iV T,iV H,v7]):=BX7.set 2 v7
 have HN7:Z (J1 (some bo) wc (w7.setCell (aD bo 2) v7)):=J1.app HON.o hgrow (λg e=>(Q5 HO.o g e).1) _
 obtain⟨a7',c7',hv7⟩:=Q7 hown
 subst hv7
 refine hK _ _ ⟨oR ⟨x7,s1⟩,?_⟩
 clear hK K hown hgrow hgrow1 hat7 BX7
 refine Qg (i:=8) (by kernel_rfl) (wpOpIn_step rfl (λK hK=>?_))
 go_simp
 refine hK _ _ ⟨oR ⟨x7,s1⟩,?_⟩
 clear hK K s1
 refine Qg (i:=9) (by kernel_rfl) (wpOpIn_step rfl (λK hK=>?_))
 go_simp
 refine hK _ _ ⟨oL (by decide),?_⟩
 clear hK K
 refine Qm (by kernel_rfl) ?_ _
 clear hw hcl HS0 c0 c1 c2 x7 f7
 go_wp2
 go_roundw
 case rel=>exact⟨k+1,_,by omega,by go_num,HB7,HO7,HN7⟩
 case measure=>simp[intOf];omega
theorem Q6r (b bm e:Nat)(x:Eg)(T:Int)(w:World)(he:EB w b e x)(hm:w.cell? (aD bm 0)=some (iV T)) :
  Calls prog 134 #[pT b,pT bm] w λe w'=>e=.returned (.bool (x.head==T))/\Nx w w':=by
 have x0:=he.head
 clear he
 go_enter func134,ntmps134
 go_wp2
 go_quiet (fail)
 go_wp2
 go_ret
 exact⟨rfl,Va _ _⟩
theorem Q2m (b bm e:Nat)(x:Eg)(T:Int)(w:World)(he:EB w b e x)(hm:w.cell? (aD bm 1)=some (iV T)) :
  Calls prog 135 #[pT b,pT bm] w λe w'=>e=.returned (.bool (x.tail==T))/\Nx w w':=by
 have x0:=he.tail
 clear he
 go_enter func135,ntmps135
 go_wp2
 go_quiet (fail)
 go_wp2
 go_ret
 exact⟨rfl,Va _ _⟩
theorem Q3y (B:Nat)(bw bm:Nat)(v:Value)(es:List Eg)(eb:Nat->Nat)(l:List Nat)(T:Int)(w:World)(hv:w.cell? (aD bw 1)=some v)(h0:Zb B w v (l.map eb))(hlen:l.length<=4000)(he:∀e∈l,EB w (eb e) e (eat es e))(hm:w.cell? (aD bm 0)=some (iV T)) :
  Calls prog 133 #[pT bw,.func (.func 134) #[] #[pT bm]] w λe w'=>(∃u,e=.returned u/\Qd w.heap.size w' u (Qb (l.filter (λe=>decide ((eat es e).head=T)))))/\Nx w w':=by
 obtain⟨ii,hi,hz0,hz1,hz2⟩:=info_parts U0
 have HE:Z (∀e∈l,EB w (eb e) e (eat es e)):=he
 have HM:Z (w.cell? (aD bm 0)=some (iV T)):=hm
 have HP:Z (Zb B w v (l.map eb)):=h0
 obtain⟨a,cap,rfl,jm,jk⟩:=h0
 rw[zG] at hv
 clear jm jk he hm
 simp only[zG] at HP ⊢
 generalize hln:l.length=n at *
 have HLN:Z (l.length=n):=hln
 clear hln
 go_enter func133,ntmps133
 go_wp2
 go_loopw [5,13] (λu i wr=>∃k:Nat,k<=n/\i=iV k/\Z (Qd w.heap.size wr u (Qb ((l.take k).filter (λe=>decide ((eat es e).head=T)))))/\Z (Nx w wr)) (λ_ i _=>n-(intOf i).toNat)
 case atStart=>exact⟨0,nZ,rfl,⟨rfl,oL ⟨rfl,rfl⟩⟩,Below.refl _ _⟩
 obtain⟨k,hkm,rfl,HO,HN⟩:=hrel
 by_cases hlt:k<n
 case neg=>
  have ek:n=k:=by omega
  subst ek
  have HF:Z (Qd w.heap.size wr u5 (Qb (l.filter (λe=>decide ((eat es e).head=T))))):=by have:=HO.o;rw[<-HLN.o,zU] at this;exact this
  clear hlt hkm HO
  go_wp2
  go_ret
  exact⟨⟨_,rfl,HF.o⟩,HN.o⟩
 have hlt':(k:Int)<n:=by omega
 have HKL:Z (k<l.length):=by rw[HLN.o];exact hlt
 obtain⟨b,off,c,hae,hb,hc⟩:=HP.o.at (by have:=HKL.o;omega)
 simp only[zC] at hae
 obtain⟨rfl,jl,rfl⟩:=hae
 have c0:=Q1 HN.o (hc k HKL.o)
 have HEX:Z (EB w (eb (l.getD k 0)) (l.getD k 0) (eat es (l.getD k 0))):=HE.o _ (by rw[show l.getD k 0=l[k]'HKL.o by simp[List.getD_eq_getElem?_getD,HKL.o]];exact yN _)
 have HYES:Z ((eat es (l.getD k 0)).head=T->Qb ((l.take (k+1)).filter (λe=>decide ((eat es e).head=T)))=Qb ((l.take k).filter (λe=>decide ((eat es e).head=T)))++[((l.getD k 0:Nat):Int)]):=λh=>by rw[Zu HKL.o,zZ,<-Pf];simp only[List.filter_cons,h,decide_true,if_true,List.filter_nil]
 have HNO:Z ((eat es (l.getD k 0)).head≠T->(l.take (k+1)).filter (λe=>decide ((eat es e).head=T))=(l.take k).filter (λe=>decide ((eat es e).head=T))):=λh=>by rw[Zu HKL.o,zZ];simp only[List.filter_cons,yJ h,Bool.false_eq_true,if_false,List.filter_nil,List.append_nil]
 have HLK:Z ((Qb ((l.take k).filter (λe=>decide ((eat es e).head=T)))).length<=4000):=by
  unfold Z
  rw[J6]
  have h1:=yA (λe=>decide ((eat es e).head=T)) (l.take k)
  have h2:(l.take k).length<=l.length:=by rw[yC];omega
  have:=HLN.o
  omega
 clear hc jl
 generalize l.getD k 0=x at *
 go_wp2_with fail
 refine(Q6r (eb x) bm x (eat es x) T _ (HEX.o.next HN.o) (Q1 HN.o HM.o)).mono ?_
 rintro e w4 ⟨rfl,hx4⟩
 have HX4:Z (Nx wr w4):=hx4
 clear hx4
 by_cases hf:(eat es x).head=T
 case neg=>
  have g1:((eat es x).head==T)=false:=by simpa using hf
  rw[g1]
  have HE2:=HNO.o hf
  have HE3:Z ((l.take (k+1)).filter (λe=>decide ((eat es e).head=T))=(l.take k).filter (λe=>decide ((eat es e).head=T))):=HE2
  clear hf HE2 g1
  go_wp2
  go_roundw
  case rel=>exact⟨k+1,by omega,by go_num,by rw[HE3.o];exact HO.o.next HX4.o,HN.o.trans HX4.o⟩
  case measure=>simp[intOf];omega
 have g1:((eat es x).head==T)=true:=by simpa using hf
 rw[g1]
 have HES:Z (Qb ((l.take (k+1)).filter (λe=>decide ((eat es e).head=T)))=Qb ((l.take k).filter (λe=>decide ((eat es e).head=T)))++[(x:Int)]):=HYES.o hf
 have c1:=(HEX.o.next (HN.o.trans HX4.o)).num
 have HO4:Z (Qd w.heap.size w4 u5 (Qb ((l.take k).filter (λe=>decide ((eat es e).head=T))))):=HO.o.next HX4.o
 have HN4:Z (Nx w w4):=HN.o.trans HX4.o
 clear hf g1 HO HN
 generalize Qb ((l.take k).filter (λe=>decide ((eat es e).head=T)))=zs at *
 obtain⟨ua,uc,hue⟩:=HO4.o.slice
 subst hue
 generalize hzl:zs.length=zl at *
 have HZL:Z (zs.length=zl):=hzl
 have hzl4:zl<=4000:=HLK.o
 have HS4:Z (w.heap.size<=w4.heap.size):=HN4.o.size
 clear hzl
 go_wp2_with (at_builtin;refine wpList_append_own_at _ rfl _ _ 22 rfl w.heap.size 2 ii (iV 0) 1 8 underlying22 hi hz0 hz1 hz2 rfl (by decide) _ _ _ rfl (zB HO4.o _) (aD w4.heap.size 0) 1 1 [iV (x:Int)] rfl rfl ?f1 ?f2 ?f3 ?f4 ?f5 ?_)
 case f1=>intro j u hj;exact Ql _ _ _ _ rfl j u hj
 case f2=>intro u hu;simp at hu;subst hu;rfl
 case f3=>rw[HZL.o];unfold maxLen;omega
 case f4=>rw[HZL.o];omega
 case f5=>rw[Q3];have:=HS4.o;omega
 intro v7 w7 hown hgrow _ hat7
 have HO7:Z (Qd w.heap.size w7 v7 (Qb ((l.take (k+1)).filter (λe=>decide ((eat es e).head=T))))):=by rw[HES.o];exact Qd.snoc hown
 have HN7:Z (Nx w w7):=Below.grown (HN4.o.alloc _) hgrow (by rw[Q3];have:=HS4.o;omega) (λg hg=>(Q5 HO4.o g hg).1)
 clear hown hgrow hat7 c0 c1
 go_wp2
 go_roundw
 case rel=>exact⟨k+1,by omega,by go_num,HO7,HN7⟩
 case measure=>simp[intOf];omega
theorem Q00 (B:Nat)(bw bm:Nat)(v:Value)(es:List Eg)(eb:Nat->Nat)(l:List Nat)(T:Int)(w:World)(hv:w.cell? (aD bw 1)=some v)(h0:Zb B w v (l.map eb))(hlen:l.length<=4000)(he:∀e∈l,EB w (eb e) e (eat es e))(hm:w.cell? (aD bm 1)=some (iV T)) :
  Calls prog 133 #[pT bw,.func (.func 135) #[] #[pT bm]] w λe w'=>(∃u,e=.returned u/\Qd w.heap.size w' u (Qb (l.filter (λe=>decide ((eat es e).tail=T)))))/\Nx w w':=by
 obtain⟨ii,hi,hz0,hz1,hz2⟩:=info_parts U0
 have HE:Z (∀e∈l,EB w (eb e) e (eat es e)):=he
 have HM:Z (w.cell? (aD bm 1)=some (iV T)):=hm
 have HP:Z (Zb B w v (l.map eb)):=h0
 obtain⟨a,cap,rfl,jm,jk⟩:=h0
 rw[zG] at hv
 clear jm jk he hm
 simp only[zG] at HP ⊢
 generalize hln:l.length=n at *
 have HLN:Z (l.length=n):=hln
 clear hln
 go_enter func133,ntmps133
 go_wp2
 go_loopw [5,13] (λu i wr=>∃k:Nat,k<=n/\i=iV k/\Z (Qd w.heap.size wr u (Qb ((l.take k).filter (λe=>decide ((eat es e).tail=T)))))/\Z (Nx w wr)) (λ_ i _=>n-(intOf i).toNat)
 case atStart=>exact⟨0,nZ,rfl,⟨rfl,oL ⟨rfl,rfl⟩⟩,Below.refl _ _⟩
 obtain⟨k,hkm,rfl,HO,HN⟩:=hrel
 by_cases hlt:k<n
 case neg=>
  have ek:n=k:=by omega
  subst ek
  have HF:Z (Qd w.heap.size wr u5 (Qb (l.filter (λe=>decide ((eat es e).tail=T))))):=by have:=HO.o;rw[<-HLN.o,zU] at this;exact this
  clear hlt hkm HO
  go_wp2
  go_ret
  exact⟨⟨_,rfl,HF.o⟩,HN.o⟩
 have hlt':(k:Int)<n:=by omega
 have HKL:Z (k<l.length):=by rw[HLN.o];exact hlt
 obtain⟨b,off,c,hae,hb,hc⟩:=HP.o.at (by have:=HKL.o;omega)
 simp only[zC] at hae
 obtain⟨rfl,jl,rfl⟩:=hae
 have c0:=Q1 HN.o (hc k HKL.o)
 have HEX:Z (EB w (eb (l.getD k 0)) (l.getD k 0) (eat es (l.getD k 0))):=HE.o _ (by rw[show l.getD k 0=l[k]'HKL.o by simp[List.getD_eq_getElem?_getD,HKL.o]];exact yN _)
 have HYES:Z ((eat es (l.getD k 0)).tail=T->Qb ((l.take (k+1)).filter (λe=>decide ((eat es e).tail=T)))=Qb ((l.take k).filter (λe=>decide ((eat es e).tail=T)))++[((l.getD k 0:Nat):Int)]):=λh=>by rw[Zu HKL.o,zZ,<-Pf];simp only[List.filter_cons,h,decide_true,if_true,List.filter_nil]
 have HNO:Z ((eat es (l.getD k 0)).tail≠T->(l.take (k+1)).filter (λe=>decide ((eat es e).tail=T))=(l.take k).filter (λe=>decide ((eat es e).tail=T))):=λh=>by rw[Zu HKL.o,zZ];simp only[List.filter_cons,yJ h,Bool.false_eq_true,if_false,List.filter_nil,List.append_nil]
 have HLK:Z ((Qb ((l.take k).filter (λe=>decide ((eat es e).tail=T)))).length<=4000):=by
  unfold Z
  rw[J6]
  have h1:=yA (λe=>decide ((eat es e).tail=T)) (l.take k)
  have h2:(l.take k).length<=l.length:=by rw[yC];omega
  have:=HLN.o
  omega
 clear hc jl
 generalize l.getD k 0=x at *
 go_wp2_with fail
 refine(Q2m (eb x) bm x (eat es x) T _ (HEX.o.next HN.o) (Q1 HN.o HM.o)).mono ?_
 rintro e w4 ⟨rfl,hx4⟩
 have HX4:Z (Nx wr w4):=hx4
 clear hx4
 by_cases hf:(eat es x).tail=T
 case neg=>
  have g1:((eat es x).tail==T)=false:=by simpa using hf
  rw[g1]
  have HE2:=HNO.o hf
  have HE3:Z ((l.take (k+1)).filter (λe=>decide ((eat es e).tail=T))=(l.take k).filter (λe=>decide ((eat es e).tail=T))):=HE2
  clear hf HE2 g1
  go_wp2
  go_roundw
  case rel=>exact⟨k+1,by omega,by go_num,by rw[HE3.o];exact HO.o.next HX4.o,HN.o.trans HX4.o⟩
  case measure=>simp[intOf];omega
 have g1:((eat es x).tail==T)=true:=by simpa using hf
 rw[g1]
 have HES:Z (Qb ((l.take (k+1)).filter (λe=>decide ((eat es e).tail=T)))=Qb ((l.take k).filter (λe=>decide ((eat es e).tail=T)))++[(x:Int)]):=HYES.o hf
 have c1:=(HEX.o.next (HN.o.trans HX4.o)).num
 have HO4:Z (Qd w.heap.size w4 u5 (Qb ((l.take k).filter (λe=>decide ((eat es e).tail=T))))):=HO.o.next HX4.o
 have HN4:Z (Nx w w4):=HN.o.trans HX4.o
 clear hf g1 HO HN
 generalize Qb ((l.take k).filter (λe=>decide ((eat es e).tail=T)))=zs at *
 obtain⟨ua,uc,hue⟩:=HO4.o.slice
 subst hue
 generalize hzl:zs.length=zl at *
 have HZL:Z (zs.length=zl):=hzl
 have hzl4:zl<=4000:=HLK.o
 have HS4:Z (w.heap.size<=w4.heap.size):=HN4.o.size
 clear hzl
 go_wp2_with (at_builtin;refine wpList_append_own_at _ rfl _ _ 22 rfl w.heap.size 2 ii (iV 0) 1 8 underlying22 hi hz0 hz1 hz2 rfl (by decide) _ _ _ rfl (zB HO4.o _) (aD w4.heap.size 0) 1 1 [iV (x:Int)] rfl rfl ?f1 ?f2 ?f3 ?f4 ?f5 ?_)
 case f1=>intro j u hj;exact Ql _ _ _ _ rfl j u hj
 case f2=>intro u hu;simp at hu;subst hu;rfl
 case f3=>rw[HZL.o];unfold maxLen;omega
 case f4=>rw[HZL.o];omega
 case f5=>rw[Q3];have:=HS4.o;omega
 intro v7 w7 hown hgrow _ hat7
 have HO7:Z (Qd w.heap.size w7 v7 (Qb ((l.take (k+1)).filter (λe=>decide ((eat es e).tail=T))))):=by rw[HES.o];exact Qd.snoc hown
 have HN7:Z (Nx w w7):=Below.grown (HN4.o.alloc _) hgrow (by rw[Q3];have:=HS4.o;omega) (λg hg=>(Q5 HO4.o g hg).1)
 clear hown hgrow hat7 c0 c1
 go_wp2
 go_roundw
 case rel=>exact⟨k+1,by omega,by go_num,HO7,HN7⟩
 case measure=>simp[intOf];omega
end Go.Proofs.YtahpodmokbdjeaaGreatDoor
