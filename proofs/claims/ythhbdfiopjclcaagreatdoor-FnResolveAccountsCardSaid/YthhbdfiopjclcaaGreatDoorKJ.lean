import Derived.Test.YthhbdfiopjclcaaGreatDoorKF
import Derived.Test.YthhbdfiopjclcaaGreatDoorKQ
import Derived.OwnWalkIn
import Derived.TacticsInMore
namespace Go.Proofs.YthhbdfiopjclcaaGreatDoor
open Go.RowKit Go.Sort
set_option linter.unusedVariables false
set_option maxRecDepth 1000000
set_option maxHeartbeats 16000000
theorem tq {F:Fence}{n:Nat}{P:Program}{ops:Array Oper}{Q:Exit->Act->World->Prop}{md:Region.Mode}{S:World->Prop}{c i fuel:Nat}{oi:Oper}{v:Value}{listed:Array Bool}{a:Act}{w:World}(h:Cl md ops (listed.setIfInBounds i true)->Jy F n P md ops Q S c fuel (listed.setIfInBounds i true) (a.put oi.dst v) w)(hi:ops[i]?=some oi:=by rfl)(hw:Waits md ops c:=by assumption)(hcl:Cl md ops listed:=by assumption)(hic:i<c:=by decide)(hd:NoDefer F ops:=by first|exact Q4 rfl|exact J7 (by kernel_rfl))(hs:Region.noSelect ops=true:=by kernel_rfl)(hf:Region.free md ops listed i=true:=by kernel_rfl)(hr:(Region.ready md ops listed).contains i=true:=by kernel_rfl)(hQ:∀c a w,Q (.panic c) (a.put oi.dst v) w->Q (.panic c) a w:=by exact λ_ _ _ h=>h)(hS:S w:=by first|exact HSS.out|exact HS0.out)(hy:YF P ops S oi v a:=by refine⟨Or.inl ⟨by kernel_rfl,?_⟩,λ_=>rfl⟩;intro q hq;(repeat' (obtain⟨_,hq⟩:=hq));go_simp):Jy F n P md ops Q S c (fuel+1) listed a w:=
 Qb hw hic hcl hd hi hs hf hr hQ hy hS h
structure SRs (br C:Nat)(w1 w:World)(S:Rs):Prop where
 box:∃vr vd,Blk w br #[vr,vd]/\Yz C C w vr S.rules/\Xk C w vd S.drops
 on:Ja (some br) w1 w
theorem SRs.next {br C:Nat}{w1 w w':World}{S:Rs}(h:SRs br C w1 w S)(k:Nx w w'):SRs br C w1 w' S:=by
 obtain⟨vr,vd,h1,h2,h3⟩:=h.box
 exact⟨⟨vr,vd,h1.next k,h2.next k,h3.next k⟩,h.on.nx k⟩
theorem Yz.store {C D:Nat}{w:World}{v:Value}{xs:List Ru}(h:Yz C D w v xs){g:Nat}(hg:g<C)(hg':g<D)(o:Nat)(u:Value):Yz C D (w.setCell ⟨g,o,none⟩ u) v xs:=by
 obtain⟨vs,h1,h2,h3⟩:=h
 exact⟨vs,h1,Qn h2 hg o u,λi hi=>Qn (h3 i hi) hg' o u⟩
theorem Yt {C C' ty sz n:Nat}{w:World}{v:Value}{xs:List Value}(h:w.ownsRow C ty sz v n xs)(hC:C'<=C):w.ownsRow C' ty sz v n xs:=by
 obtain⟨h1,h2⟩:=h
 refine⟨h1,?_⟩
 rcases h2 with h2|⟨g,cap,cur,hv,hg,r⟩
 ·exact Or.inl h2
 ·exact Or.inr ⟨g,cap,cur,hv,by omega,r⟩
theorem Yz.base {C D C' D':Nat}{w:World}{v:Value}{xs:List Ru}(h:Yz C D w v xs)(hC:C'<=C)(hD:D'<=D):Yz C' D' w v xs:=by
 obtain⟨vs,h1,h2,h3⟩:=h
 exact⟨vs,h1,Yt h2 hC,λi hi=>(h3 i hi).base hD⟩
theorem SRs.drop {br C:Nat}{w1 w w7:World}{S:Rs}{vr vd v7:Value}{x:Dp}{o:Obj}(hbox:Blk w br #[vr,vd])(hr:Yz C C w vr S.rules)(hd:Xk C w vd S.drops)(hon:Ja (some br) w1 w)(hC:br<C)(hw:w1.heap.size<=C)
  (hg:(w.alloc o).grownBy w7 vd.ownBlock) (hown:w7.ownsRow C 43 2 v7 (S.drops.length+1) (dcells S.drops++[.int .i64 x.rel,.int .i64 x.reason])):SRs br C w1 (w7.setCell ⟨br,1,none⟩ v7) ⟨S.rules,S.drops++[x]⟩:=by
 have hd':∀g,vd.ownBlock=some g->C<=g:=λg e=>(Qf hd g e).1
 obtain⟨vs,r1,r2,r3⟩:=hr
 refine⟨⟨vr,v7,?_,⟨vs,r1,Qn (World.ownsRow.kept (World.ownsRow.alloc r2 o) hg (own_ne r2 hd (by decide))) hC 1 _,λi hi=>Qn (World.ownsRow.kept (World.ownsRow.alloc (r3 i hi) o) hg (own_ne (r3 i hi) hd (by decide))) hC 1 _⟩,Qn (Xk.snoc hown) hC 1 _⟩,Ja.app hon hg (λg e=>Nat.le_trans hw (hd' g e)) _⟩
 exact((hbox.alloc o).grown hg (λe=>by have:=hd' br e.symm;omega)).set 1 v7
theorem SRs.rule {br C:Nat}{w1 w w7:World}{S:Rs}{vr vd v7 u:Value}{x:Ru}{o:Obj}{vs:List Value}(hbox:Blk w br #[vr,vd])(r1:vs.length=S.rules.length)(r2:w.ownsRow C 45 3 vr S.rules.length (Z8 S.rules vs))(r3:∀i,i<S.rules.length->Q6 C w (vat vs i) (V0 S.rules i).seq)(hd:Xk C w vd S.drops)(hon:Ja (some br) w1 w)(hC:br<C)(hw:w1.heap.size<=C)
  (hu:Q6 C w u x.seq) (hg:(w.alloc o).grownBy w7 vr.ownBlock) (hown:w7.ownsRow C 45 3 v7 (S.rules.length+1) (Z8 S.rules vs++[.int .i64 x.rel,.bool x.only,u])):SRs br C w1 (w7.setCell ⟨br,0,none⟩ v7) ⟨S.rules++[x],S.drops⟩:=by
 have hd':∀g,vr.ownBlock=some g->C<=g:=λg e=>(Qf r2 g e).1
 refine⟨⟨v7,vd,?_,(Yz.snoc r1 r2 r3 hu o hg hown).store hC hC 0 _,Qn (World.ownsRow.kept (World.ownsRow.alloc hd o) hg (own_ne hd r2 (by decide))) hC 0 _⟩,Ja.app hon hg (λg e=>Nat.le_trans hw (hd' g e)) _⟩
 exact((hbox.alloc o).grown hg (λe=>by have:=hd' br e.symm;omega)).set 0 v7
def rz (b:Bool):Int:=if b then 3 else 0
theorem cellX {w w':World}{r:Option Nat}{b o:Nat}{v:Value}(h:w.grownBy w' r)(hc:w.cell? ⟨b,o,none⟩=some v)(hn:some b≠r):w'.cell? ⟨b,o,none⟩=some v:=by
 rw[World.cell?_of_block (h.block b (Zd hc) hn)]
 exact hc
theorem cellS {w:World}{b o g i:Nat}{v u:Value}(hn:b≠g)(hc:w.cell? ⟨b,o,none⟩=some v):(w.setCell ⟨g,i,none⟩ u).cell? ⟨b,o,none⟩=some v:=by
 rw[World.cell?_of_block (Below.heap_setCell _ _ _ _ hn)]
 exact hc
theorem reason_none {rules:List Ru}{only:Bool}{ch:List (List Nat)}(h:ch.length=0):reason rules only ch=1:=by unfold reason;rw[if_pos h]
theorem reason_many {rules:List Ru}{only:Bool}{ch:List (List Nat)}(h:1<ch.length):reason rules only ch=2:=by unfold reason;rw[if_neg (by omega),if_pos h]
theorem reason_one {rules:List Ru}{only:Bool}{ch:List (List Nat)}(h:ch.length=1):reason rules only ch=if rpt rules only (Qd (Jj ch 0)) then 3 else 0:=by unfold reason;rw[if_neg (by omega),if_neg (by omega)]
theorem resStep_drop {S:Rs}{r:Rl}{ch:List (List Nat)}{z:Int}(h:reason S.rules r.only ch=z)(hz:z≠0):Jo S r ch=⟨S.rules,S.drops++[⟨r.id,z⟩]⟩:=by unfold Jo;rw[h,if_neg hz]
theorem resStep_rule {S:Rs}{r:Rl}{ch:List (List Nat)}(h:reason S.rules r.only ch=0):Jo S r ch=⟨S.rules++[⟨r.id,r.only,Qd (Jj ch 0)⟩],S.drops⟩:=by unfold Jo;rw[if_pos h]
def Zx (rules:List Ru)(only:Bool)(seq:List Int)(k:Nat):Bool:=(rules.take k).any λu=>u.only==only&&decide (u.seq=seq)
theorem noRpt_succ {rules:List Ru}{only:Bool}{seq:List Int}{k:Nat}(hk:k<rules.length):Zx rules only seq (k+1)=(Zx rules only seq k||((V0 rules k).only==only&&decide ((V0 rules k).seq=seq))):=by
 unfold Zx
 rw[List.take_succ_eq_append_getElem hk,List.any_append,ruat_eq hk]
 simp
theorem noRpt_all (rules:List Ru)(only:Bool)(seq:List Int):Zx rules only seq rules.length=rpt rules only seq:=by
 unfold Zx rpt
 rw[List.take_length]
def AllIn (N:Nt)(R:Rd):Prop:=∀k,k<N.rels.length->RelIn N R (rat N.rels k)
def U0 (N:Nt)(R:Rd):Rl->List (List Nat):=λr=>Y1 N R.nodes R.edges r
theorem l2Resolve_any (B0 B:Nat)(n0 n1 n2 n3:Value)(N:Nt)(v0 v1 v2 v3:Value)(R:Rd)(w:World)(hN:Z0 B0 w n0 n1 n2 n3 N)(h0:Vy B w v0 v1 v2 v3 R)(hm:R.edges.length<=4000)(hR:AllIn N R)(hrl:N.rels.length<=1000) :
  Calls Tryz.prog 25 #[.agg #[n0,n1,n2,n3,.int .i64 N.uturn],.agg #[v0,v1,v2,v3]] w λe w'=>(∃vr vd,e=.returned (.agg #[vr,vd])/\Yz w.heap.size w.heap.size w' vr (Qq (U0 N R) N.rels N.rels.length).rules/\Xk w.heap.size w' vd (Qq (U0 N R) N.rels N.rels.length).drops)/\Nx w w':=by
 obtain⟨iR,hiR,hzR0,hzR1,hzR2⟩:=info_parts infoRule
 obtain⟨iD,hiD,hzD0,hzD1,hzD2⟩:=info_parts infoDrop
 have HNET:=mh hN
 have HROAD:=mh h0
 have HR:Hid (AllIn N R):=hR
 clear hN h0 hR
 obtain⟨a0,q0,e0,jm,jk⟩:=HNET.out.1
 clear jm jk
 obtain⟨a1,q1,e1,jm,jk⟩:=HNET.out.2.1
 clear jm jk
 obtain⟨a2,q2,e2,jm,jk⟩:=HNET.out.2.2.1
 clear jm jk
 obtain⟨a3,q3,e3,jm,jk⟩:=HNET.out.2.2.2
 clear jm jk
 generalize N.nodes.length=l0 at e0
 generalize N.ways.length=l1 at e1
 generalize N.turns.length=l3 at e3
 obtain⟨a4,q4,e4,jm,jk⟩:=HROAD.out.1
 clear jm jk
 obtain⟨a5,q5,e5,jm,jk⟩:=HROAD.out.2.1
 clear jm jk
 obtain⟨a6,q6,e6,jm,jk⟩:=HROAD.out.2.2.1
 clear jm jk
 obtain⟨a7,q7,e7,jm,jk⟩:=HROAD.out.2.2.2
 clear jm jk
 generalize R.nodes.length=l4 at e4
 generalize R.edges.length=l5 at e5
 generalize R.first.length=l6 at e6
 generalize R.out.length=l7 at e7
 subst e0 e1 e2 e3 e4 e5 e6 e7
 generalize hnl:N.rels.length=l2 at *
 have HNL:=mh hnl
 clear hnl
 generalize hW0:((w.alloc (.cells #[.slice a0 l0 q0,.slice a1 l1 q1,.slice a2 l2 q2,.slice a3 l3 q3,.int .i64 N.uturn] 28)).alloc (.cells #[.slice a4 l4 q4,.slice a5 l5 q5,.slice a6 l6 q6,.slice a7 l7 q7] 38)).alloc (.cells #[.slice none 0 0,.slice none 0 0] 33)=w0
 have HX0:Hid (Nx w w0):=by unfold Hid;rw[<-hW0];exact(box2 _ _ _).alloc _
 have BN:Hid (Blk w0 w.heap.size #[.slice a0 l0 q0,.slice a1 l1 q1,.slice a2 l2 q2,.slice a3 l3 q3,.int .i64 N.uturn]):=by unfold Hid;rw[<-hW0];exact((Blk.new w _ _ _ rfl).alloc _).alloc _
 have BR:Hid (Blk w0 (w.heap.size+1) #[.slice a4 l4 q4,.slice a5 l5 q5,.slice a6 l6 q6,.slice a7 l7 q7]):=by unfold Hid;rw[<-hW0];exact(Blk.new _ _ _ _ (by rw[Q1])).alloc _
 have BO:Hid (Blk w0 (w.heap.size+2) #[.slice none 0 0,.slice none 0 0]):=by unfold Hid;rw[<-hW0];exact Blk.new _ _ _ _ (by rw[Q1,Q1])
 have HZ0:Hid (w0.heap.size=w.heap.size+3):=by unfold Hid;rw[<-hW0,Q1,Q1,Q1]
 go_enter Tryz.func25,Tryz.ntmps25
 go_upto_region 1 with fail
 clear hW0
 go_upto_region 2 with fail
 generalize hW1:w0.alloc (.cells #[.slice none 0 0,.slice none 0 0] 33)=w1
 have HX01:Hid (Nx w0 w1):=by unfold Hid;rw[<-hW1];exact Qc _ _
 have HB1:Hid (Blk w1 w0.heap.size #[.slice none 0 0,.slice none 0 0]):=by unfold Hid;rw[<-hW1];exact Blk.new _ _ _ _ rfl
 have HZ1:Hid (w1.heap.size=w.heap.size+4):=by unfold Hid;rw[<-hW1,Q1,HZ0.out]
 have HS1:Hid (SRs w0.heap.size w1.heap.size w1 w1 (Qq (U0 N R) N.rels 0)):=⟨⟨_,_,HB1.out,⟨[],rfl,⟨rfl,.inl ⟨rfl,rfl⟩⟩,λi hi=>absurd hi (Nat.not_lt_zero _)⟩,⟨rfl,.inl ⟨rfl,rfl⟩⟩⟩,Ja.refl _ _⟩
 clear hW1
 go_wp2
 go_loopw [6] (λi wr=>∃k:Nat,k<=l2/\i=.int .i64 k/\Hid (SRs w0.heap.size w1.heap.size w1 wr (Qq (U0 N R) N.rels k))) (λi _=>l2-(intOf i).toNat)
 case atStart=>exact⟨0,Nat.zero_le _,rfl,HS1⟩
 clear HS1 HB1
 obtain⟨k,hkm,rfl,HS⟩:=hrel
 have HBW:=mh (Below.trans (HX0.out.trans HX01.out) (HS.out.on.below (by intro g hg;cases hg;have:=HZ0.out;omega) (by have:=HZ1.out;omega)))
 have BNr:=HS.out.on.blk (BN.out.next HX01.out) (by intro e;have:=Option.some.inj e;have:=HZ0.out;omega)
 have kn2:=BNr.cell (i:=2) rfl
 by_cases hlt:k<l2
 case neg=>
  have ek:l2=k:=by omega
  subst ek
  obtain⟨vr,vd,hbox,hr,hd⟩:=HS.out.box
  obtain⟨vs,jv,hrow,jw⟩:=hr
  obtain⟨ar,cr,hvr⟩:=Q2 hrow
  obtain⟨ad,cd,hvd⟩:=Q2 hd
  have HRR:Hid (Yz w1.heap.size w1.heap.size wr vr (Qq (U0 N R) N.rels l2).rules):=⟨vs,jv,hrow,jw⟩
  have HDD:=mh hd
  generalize (Qq (U0 N R) N.rels l2).rules.length=nr at hvr
  generalize (Qq (U0 N R) N.rels l2).drops.length=nd at hvd
  subst hvr hvd
  have BOr:=HS.out.on.blk (BO.out.next HX01.out) (by intro e;have:=Option.some.inj e;have:=HZ0.out;omega)
  have x0:=hbox.cell (i:=0) rfl
  have x1:=hbox.cell (i:=1) rfl
  have y0:wr.cell? ⟨w.heap.size+1+1,0,none⟩=some (.slice none 0 0):=BOr.cell (i:=0) rfl
  have y1:wr.cell? ⟨w.heap.size+1+1,1,none⟩=some (.slice none 0 0):=BOr.cell (i:=1) rfl
  have z0:wr.frozen? ⟨w.heap.size+1+1,0,none⟩=false:=BOr.frozen 0
  have z1:wr.frozen? ⟨w.heap.size+1+1,1,none⟩=false:=BOr.frozen 1
  have BR':=(BOr.set 0 (.slice ar nr cr)).set 1 (.slice ad nd cd)
  have p0:_=some (Value.slice ar nr cr):=BR'.cell (i:=0) rfl
  have p1:_=some (Value.slice ad nd cd):=BR'.cell (i:=1) rfl
  clear hbox hrow hd jv jw hlt hkm BR'
  go_wp2
  refine bodyPost_ret (v:=.agg #[.slice ar nr cr,.slice ad nd cd]) (by simp[results,Tryz.results25,go_sem,p0,p1]) rfl ?_
  have h1:w.heap.size+1+1<w1.heap.size:=by have:=HZ1.out;omega
  have h2:w.heap.size<=w1.heap.size:=by omega
  have h3:w.heap.size<=w.heap.size+1+1:=by omega
  refine⟨⟨_,_,rfl,((HRR.out.store h1 h1 _ _).store h1 h1 _ _).base h2 h2,Yt (Qn (Qn HDD.out h1 _ _) h1 _ _) h2⟩,Below.setCell (Below.setCell HBW.out h3 _) h3 _⟩
 have hlt':(k:Int)<l2:=by omega
 have HKR:Hid (k<N.rels.length):=by unfold Hid;rw[HNL.out];exact hlt
 have HRI:=HR.out k HKR.out
 obtain⟨vr,vd,hbx0,hr0,hd0⟩:=HS.out.box
 have HBX0:=mh hbx0
 have HR0:=mh hr0
 have HD0:=mh hd0
 have HVL:Hid (∀g,vr.ownBlock=some g->g<wr.heap.size):=by
  obtain⟨vs,_,hrow,_⟩:=hr0
  exact λg e=>(Qf hrow g e).2
 clear hbx0 hr0 hd0
 have HSTEP:Hid (Qq (U0 N R) N.rels (k+1)=Jo (Qq (U0 N R) N.rels k) (rat N.rels k) (Y1 N R.nodes R.edges (rat N.rels k))):=rfl
 have HRL:=resTo_len (U0 N R) N.rels k
 obtain⟨ar,capr,er,jm,hkr⟩:=HNET.out.2.2.1
 simp only[Value.slice.injEq] at er
 obtain⟨rfl,jl,rfl⟩:=er
 obtain⟨br,obr,rfl,jB,hbr,hcr⟩:=hkr (by omega)
 obtain⟨vw,c0,c1,c2,c3,c4,c5,c6,hw⟩:=hcr k HKR.out
 clear jm jl jB hkr hcr
 generalize rat N.rels k=r at *
 obtain⟨aw,qw,ew,jm,jk⟩:=id hw
 clear jm jk
 generalize r.ways.length=lw at ew
 subst ew
 have HWI:=mh hw
 have HRI2:Hid (RelIn N R r):=HRI
 have d0:=Q0 HBW.out hbr c0
 have d1:=Q0 HBW.out hbr c1
 have d2:=Q0 HBW.out hbr c2
 have d3:=Q0 HBW.out hbr c3
 have d4:=Q0 HBW.out hbr c4
 have d5:=Q0 HBW.out hbr c5
 have d6:=Q0 HBW.out hbr c6
 generalize hSk:Qq (U0 N R) N.rels k=Sk at *
 clear hSk
 have hr1:Sk.rules.length<=1000:=by omega
 have hr2:Sk.drops.length<=1000:=by omega
 clear c0 c1 c2 c3 c4 c5 c6 hw HRI HRL
 go_upto_region 6 with fail
 clear d0 d1 d2 d3 d4 d5 d6 kn2
 have HX5:Hid (Nx wr (wr.alloc (.cells #[.int .i64 r.id,.bool r.only,.int .i64 r.frm,.int .i64 r.to,.bool r.via,.int .i64 r.node,.slice aw lw qw] 41))):=Qc _ _
 have HZ5a:Hid ((wr.alloc (.cells #[.int .i64 r.id,.bool r.only,.int .i64 r.frm,.int .i64 r.to,.bool r.via,.int .i64 r.node,.slice aw lw qw] 41)).heap.size=wr.heap.size+1):=Q1 _ _
 have BL5:Hid (Blk (wr.alloc (.cells #[.int .i64 r.id,.bool r.only,.int .i64 r.frm,.int .i64 r.to,.bool r.via,.int .i64 r.node,.slice aw lw qw] 41)) wr.heap.size #[.int .i64 r.id,.bool r.only,.int .i64 r.frm,.int .i64 r.to,.bool r.via,.int .i64 r.node,.slice aw lw qw]):=Blk.new wr _ _ _ rfl
 generalize wr.alloc (.cells #[.int .i64 r.id,.bool r.only,.int .i64 r.frm,.int .i64 r.to,.bool r.via,.int .i64 r.node,.slice aw lw qw] 41)=w5 at *
 have HS5:=mh (HS.out.next HX5.out)
 have HBW5:=mh (Below.trans HBW.out (Below.mono HX5.out HBW.out.size))
 have BN5:=BNr.next HX5.out
 have BR5:=(HS.out.on.blk (BR.out.next HX01.out) (by intro e;have:=Option.some.inj e;have:=HZ0.out;omega)).next HX5.out
 have m0:=BN5.cell (i:=0) rfl
 have m1:=BN5.cell (i:=1) rfl
 have m2:=BN5.cell (i:=2) rfl
 have m3:=BN5.cell (i:=3) rfl
 have m4:=BN5.cell (i:=4) rfl
 have o0:=BR5.cell (i:=0) rfl
 have o1:=BR5.cell (i:=1) rfl
 have o2:=BR5.cell (i:=2) rfl
 have o3:=BR5.cell (i:=3) rfl
 have p0:=BL5.out.cell (i:=0) rfl
 have p1:=BL5.out.cell (i:=1) rfl
 have p2:=BL5.out.cell (i:=2) rfl
 have p3:=BL5.out.cell (i:=3) rfl
 have p4:=BL5.out.cell (i:=4) rfl
 have p5:=BL5.out.cell (i:=5) rfl
 have p6:=BL5.out.cell (i:=6) rfl
 go_wp2_with fail
 refine(l2Chains_any B0 B B0 _ _ _ _ N _ _ _ _ R r _ w5 (by exact HNET.out.next HBW5.out) (by exact HROAD.out.next HBW5.out) (by exact HWI.out.next HBW5.out) hm HRI2.out).mono ?_
 rintro e w6 ⟨⟨uc,rfl,hO⟩,hx6⟩
 have HX6:Hid (Nx w5 w6):=hx6
 have HS6:=mh (HS5.out.next hx6)
 have BL6:=mh (BL5.out.next hx6)
 have HC5:=mh (Nat.le_trans HS.out.on.size HX5.out.size)
 have HOC5:=mh hO.lt
 have HOC:=mh (hO.base HC5.out)
 have HCB:Hid (w0.heap.size<w1.heap.size):=by have:=HZ0.out;have:=HZ1.out;unfold Hid;omega
 generalize hch:Y1 N R.nodes R.edges r=ch at *
 clear hch hO hx6 m0 m1 m2 m3 m4 o0 o1 o2 o3 p0 p1 p2 p3 p4 p5 p6
 obtain⟨ca,cc,hce⟩:=HOC.out.slice
 rw[List.length_map] at hce
 generalize hcl:ch.length=cl at *
 have HCL:Hid (ch.length=cl):=hcl
 subst hce
 clear hcl
 have HZ5:=mh HZ5a.out
 by_cases hc0:cl=0
 ·have f0:((cl:Int)==0)=true:=by simpa using hc0
  have f1:decide (1<(cl:Int))=false:=by simp;omega
  have f2:((cl:Int)==1)=false:=by simp;omega
  have HRE:Hid (reason Sk.rules r.only ch=1):=reason_none (by rw[HCL.out];exact hc0)
  clear hc0
  have HE:=mh (resStep_drop HRE.out (by decide))
  obtain⟨vr,vd,hbox,hr,hd⟩:=HS6.out.box
  obtain⟨ad,cd,hvd⟩:=Q2 hd
  have HD:=mh hd
  have HRW:Hid (Yz w1.heap.size w1.heap.size w6 vr Sk.rules):=hr
  have HBX:=mh hbox
  generalize hnd:Sk.drops.length=nd at *
  have HND:=mh hnd
  subst hvd
  have x1:=hbox.cell (i:=1) rfl
  have kid:=BL6.out.cell (i:=0) rfl
  have HCW:=mh HS6.out.on.size
  have HBL:=mh hbox.lt
  clear hr hd hbox hnd
  go_wp2_with (at_builtin;refine wpList_append_own_at _ rfl _ _ 31 rfl w1.heap.size 43 iD (.agg #[.int .i64 0,.int .i64 0]) 2 16 Tryz.underlying31 hiD hzD0 hzD1 hzD2 rfl (by decide) _ _ _ rfl (World.ownsRow.alloc HD.out _) ⟨w6.heap.size,0,none⟩ 1 1 [.int .i64 r.id,.int .i64 1] rfl rfl ?f1 ?f2 ?f3 ?f4 ?f5 ?_)
  case f1=>intro j u hj;exact Qx _ _ _ _ rfl j u hj
  case f2=>intro u hu;simp at hu;rcases hu with rfl|rfl<;>rfl
  case f3=>rw[HND.out];unfold maxLen;omega
  case f4=>rw[HND.out];omega
  case f5=>rw[Q1];have:=HCW.out;omega
  intro v7 w7 hown hgrow _ hat7
  have HS7:Hid (SRs w0.heap.size w1.heap.size w1 (w7.setCell ⟨w0.heap.size,1,none⟩ v7) (Qq (U0 N R) N.rels (k+1))):=by unfold Hid;rw[HSTEP.out,HE.out];exact SRs.drop (x:=⟨r.id,1⟩) HBX.out HRW.out HD.out HS6.out.on HCB.out (Nat.le_refl _) hgrow hown
  have BX7:=(HBX.out.alloc _).grown hgrow (λe=>by have:=(Qf HD.out _ e.symm).1;have:=HCB.out;omega)
  have x7:=BX7.cell (i:=1) rfl
  have f7:=BX7.frozen 1
  obtain⟨a7',c7',hv7⟩:=Q2 hown
  subst hv7
  clear hown hgrow hat7 x1 kid BX7
  go_wp2
  go_roundw
  case rel=>exact⟨k+1,by omega,by go_num,HS7⟩
  case measure=>simp[intOf];omega
 by_cases hc1:1<cl
 ·have f0:((cl:Int)==0)=false:=by simpa using hc0
  have f1:decide (1<(cl:Int))=true:=by simp;omega
  have f2:((cl:Int)==1)=false:=by simp;omega
  have HRE:Hid (reason Sk.rules r.only ch=2):=reason_many (by rw[HCL.out];exact hc1)
  clear hc0 hc1
  have HE:=mh (resStep_drop HRE.out (by decide))
  obtain⟨vr,vd,hbox,hr,hd⟩:=HS6.out.box
  obtain⟨ad,cd,hvd⟩:=Q2 hd
  have HD:=mh hd
  have HRW:Hid (Yz w1.heap.size w1.heap.size w6 vr Sk.rules):=hr
  have HBX:=mh hbox
  generalize hnd:Sk.drops.length=nd at *
  have HND:=mh hnd
  subst hvd
  have x1:=hbox.cell (i:=1) rfl
  have kid:=BL6.out.cell (i:=0) rfl
  have HCW:=mh HS6.out.on.size
  have HBL:=mh hbox.lt
  clear hr hd hbox hnd
  go_wp2_with (at_builtin;refine wpList_append_own_at _ rfl _ _ 31 rfl w1.heap.size 43 iD (.agg #[.int .i64 0,.int .i64 0]) 2 16 Tryz.underlying31 hiD hzD0 hzD1 hzD2 rfl (by decide) _ _ _ rfl (World.ownsRow.alloc HD.out _) ⟨w6.heap.size,0,none⟩ 1 1 [.int .i64 r.id,.int .i64 2] rfl rfl ?f1 ?f2 ?f3 ?f4 ?f5 ?_)
  case f1=>intro j u hj;exact Qx _ _ _ _ rfl j u hj
  case f2=>intro u hu;simp at hu;rcases hu with rfl|rfl<;>rfl
  case f3=>rw[HND.out];unfold maxLen;omega
  case f4=>rw[HND.out];omega
  case f5=>rw[Q1];have:=HCW.out;omega
  intro v7 w7 hown hgrow _ hat7
  have HS7:Hid (SRs w0.heap.size w1.heap.size w1 (w7.setCell ⟨w0.heap.size,1,none⟩ v7) (Qq (U0 N R) N.rels (k+1))):=by unfold Hid;rw[HSTEP.out,HE.out];exact SRs.drop (x:=⟨r.id,2⟩) HBX.out HRW.out HD.out HS6.out.on HCB.out (Nat.le_refl _) hgrow hown
  have BX7:=(HBX.out.alloc _).grown hgrow (λe=>by have:=(Qf HD.out _ e.symm).1;have:=HCB.out;omega)
  have x7:=BX7.cell (i:=1) rfl
  have f7:=BX7.frozen 1
  obtain⟨a7',c7',hv7⟩:=Q2 hown
  subst hv7
  clear hown hgrow hat7 x1 kid BX7
  go_wp2
  go_roundw
  case rel=>exact⟨k+1,by omega,by go_num,HS7⟩
  case measure=>simp[intOf];omega
 have hc2:cl=1:=by omega
 subst hc2
 clear hc0 hc1
 have HOC0:=HOC.out.at (i:=0) (by rw[List.length_map,HCL.out];omega)
 rw[wd_nums (by rw[HCL.out];omega)] at HOC0
 obtain⟨gc,u0,hca,hcg,hO0⟩:=HOC0
 subst hca
 have HREA:Hid (reason Sk.rules r.only ch=if rpt Sk.rules r.only (Qd (Jj ch 0)) then 3 else 0):=reason_one HCL.out
 have HSTR:Hid (reason Sk.rules r.only ch=0->Jo Sk r ch=⟨Sk.rules++[⟨r.id,r.only,Qd (Jj ch 0)⟩],Sk.drops⟩):=resStep_rule
 generalize Qd (Jj ch 0)=seq at *
 have HO0:=mh hO0
 obtain⟨sa,scp,hu0⟩:=hO0.slice
 generalize seq.length=sn at hu0
 subst hu0
 have HRW:Hid (Yz w1.heap.size w1.heap.size w6 vr Sk.rules):=(HR0.out.next HX5.out).next HX6.out
 have HDW:=mh ((HD0.out.next HX5.out).next HX6.out)
 have HBX:=mh ((HBX0.out.next HX5.out).next HX6.out)
 have hr:=HRW.out
 have hd:=HDW.out
 obtain⟨vs,jv,hrow,jw⟩:=hr
 obtain⟨arr,crr,hvr⟩:=Q2 hrow
 obtain⟨add,cdd,hvd⟩:=Q2 hd
 generalize hnr:Sk.rules.length=nr at *
 have HNR:Hid (Sk.rules.length=nr):=hnr
 generalize Sk.drops.length=ndd at hvd
 subst hvr hvd
 have HSEPA:Hid ((∀g,(Value.slice arr nr crr).ownBlock=some g->g<wr.heap.size)/\wr.heap.size<gc/\w0.heap.size<wr.heap.size):=⟨HVL.out,by have:=HOC5.out gc rfl;have:=HZ5.out;omega,by have:=HS.out.on.size;have:=HCB.out;omega⟩
 clear hd jv jw hrow hO0 hnr
 have HCG:=mh hcg
 clear hcg
 generalize wr.heap.size=bL at *
 go_wp2
 go_loopw [9,10] (λz j wr=>∃q:Nat,q<=nr/\j=.int .i64 q/\z=.int .i64 (rz (Zx Sk.rules r.only seq q))/\Hid (Nx w6 wr)) (λ_ j _=>nr-(intOf j).toNat)
 case atStart=>exact⟨0,Nat.zero_le _,rfl,by simp[Zx,rz],Below.refl _ _⟩
 obtain⟨q,hqm,rfl,rfl,HNQ⟩:=hrel
 have x0:=Q3 HNQ.out (HBX.out.cell (i:=0) rfl)
 by_cases hq:q<nr
 case neg=>
  have eq:nr=q:=by omega
  subst eq
  have HALL:Hid (Zx Sk.rules r.only seq nr=rpt Sk.rules r.only seq):=by unfold Hid;rw[<-HNR.out];exact noRpt_all _ _ _
  rw[HALL.out]
  have HSQ:=mh (HS6.out.next HNQ.out)
  have BLQ:=mh (BL6.out.next HNQ.out)
  cases hrp:rpt Sk.rules r.only seq
  case true=>
   have HRE:Hid (reason Sk.rules r.only ch=3):=by unfold Hid;rw[HREA.out,hrp];rfl
   rw[show rz true=3 from rfl]
   clear hrp HRW HDW HBX
   have HE:=mh (resStep_drop HRE.out (by decide))
   obtain⟨vr,vd,hbox,hr,hd⟩:=HSQ.out.box
   obtain⟨ad,cd,hvd⟩:=Q2 hd
   have HD:=mh hd
   have HRW:Hid (Yz w1.heap.size w1.heap.size wr vr Sk.rules):=hr
   have HBX:=mh hbox
   generalize hnd:Sk.drops.length=nd at *
   have HND:=mh hnd
   subst hvd
   have x1:=hbox.cell (i:=1) rfl
   have kid:=BLQ.out.cell (i:=0) rfl
   have HCW:=mh HSQ.out.on.size
   have HBL:=mh hbox.lt
   clear hr hd hbox hnd
   go_wp2_with (at_builtin;refine wpList_append_own_at _ rfl _ _ 31 rfl w1.heap.size 43 iD (.agg #[.int .i64 0,.int .i64 0]) 2 16 Tryz.underlying31 hiD hzD0 hzD1 hzD2 rfl (by decide) _ _ _ rfl (World.ownsRow.alloc HD.out _) ⟨wr.heap.size,0,none⟩ 1 1 [.int .i64 r.id,.int .i64 3] rfl rfl ?f1 ?f2 ?f3 ?f4 ?f5 ?_)
   case f1=>intro j u hj;exact Qx _ _ _ _ rfl j u hj
   case f2=>intro u hu;simp at hu;rcases hu with rfl|rfl<;>rfl
   case f3=>rw[HND.out];unfold maxLen;omega
   case f4=>rw[HND.out];omega
   case f5=>rw[Q1];have:=HCW.out;omega
   intro v7 w7 hown hgrow _ hat7
   have HS7:Hid (SRs w0.heap.size w1.heap.size w1 (w7.setCell ⟨w0.heap.size,1,none⟩ v7) (Qq (U0 N R) N.rels (k+1))):=by unfold Hid;rw[HSTEP.out,HE.out];exact SRs.drop (x:=⟨r.id,3⟩) HBX.out HRW.out HD.out HSQ.out.on HCB.out (Nat.le_refl _) hgrow hown
   have BX7:=(HBX.out.alloc _).grown hgrow (λe=>by have:=(Qf HD.out _ e.symm).1;have:=HCB.out;omega)
   have x7:=BX7.cell (i:=1) rfl
   have f7:=BX7.frozen 1
   obtain⟨a7',c7',hv7⟩:=Q2 hown
   subst hv7
   clear hown hgrow hat7 x1 kid BX7
   go_wp2
   go_roundw
   case rel=>exact⟨k+1,by omega,by go_num,HS7⟩
   case measure=>simp[intOf];omega
  case false=>
   have HRE:Hid (reason Sk.rules r.only ch=0):=by unfold Hid;rw[HREA.out,hrp];rfl
   have HE:=mh (HSTR.out HRE.out)
   rw[show rz false=0 from rfl]
   clear hrp
   obtain⟨vs,jv,hrow,jw⟩:=HRW.out.next HNQ.out
   have HJV:=mh jv
   have HROW:=mh hrow
   have HJW:=mh jw
   have HDR:=mh (HDW.out.next HNQ.out)
   have HBR:=mh (HBX.out.next HNQ.out)
   have HOR:=mh (HO0.out.next HNQ.out)
   have kcg:=Q3 HNQ.out HCG.out
   have k0:=BLQ.out.cell (i:=0) rfl
   have k1:=BLQ.out.cell (i:=1) rfl
   have HCW:=mh HSQ.out.on.size
   clear jv hrow jw HRW HDW HBX hq hqm
   go_upto_region 19 with fail
   have HNRW:=mh HNR.out
   have HNEL:=mh HSEPA.out
   have hmx:Tryz.prog.follows .mixedOrders=true:=by kernel_rfl
   refine(wpIn_wide (n:=9)).1 ?_
   have HS0:Hid ((λw=>w.cell? ⟨w0.heap.size,0,none⟩=some (.slice arr nr crr)/\w.cell? ⟨bL,0,none⟩=some (.int .i64 r.id)/\w.cell? ⟨bL,1,none⟩=some (.bool r.only)/\w.cell? ⟨gc,0,none⟩=some (.slice sa sn scp)) wr.drew):=⟨x0,k0,k1,kcg⟩
   refine Q9 (c:=14) (S:=λw=>w.cell? ⟨w0.heap.size,0,none⟩=some (.slice arr nr crr)/\w.cell? ⟨bL,0,none⟩=some (.int .i64 r.id)/\w.cell? ⟨bL,1,none⟩=some (.bool r.only)/\w.cell? ⟨gc,0,none⟩=some (.slice sa sn scp)) hmx (by kernel_rfl) (λhw hcl=>?_)
   refine Qb (i:=0) (v:=.pointer (some ⟨w0.heap.size,0,none⟩)) hw (by decide) hcl (Q4 rfl) rfl (by kernel_rfl) (by kernel_rfl) (by kernel_rfl) (λ_ _ _ h=>h) ⟨Or.inl ⟨by rfl,?y0⟩,λ_=>rfl⟩ HS0.out (λhcl=>?_)
   case y0=>
    rintro w ⟨c1,c2,c3,c4⟩
    go_simp
   refine Qb (i:=1) (v:=.slice arr nr crr) hw (by decide) hcl (Q4 rfl) rfl (by kernel_rfl) (by kernel_rfl) (by kernel_rfl) (λ_ _ _ h=>h) ⟨Or.inl ⟨by rfl,?y1⟩,λ_=>rfl⟩ HS0.out (λhcl=>?_)
   case y1=>
    rintro w ⟨c1,c2,c3,c4⟩
    go_simp
   refine Qb (i:=2) (v:=.pointer (some ⟨bL,0,none⟩)) hw (by decide) hcl (Q4 rfl) rfl (by kernel_rfl) (by kernel_rfl) (by kernel_rfl) (λ_ _ _ h=>h) ⟨Or.inl ⟨by rfl,?y2⟩,λ_=>rfl⟩ HS0.out (λhcl=>?_)
   case y2=>
    rintro w ⟨c1,c2,c3,c4⟩
    go_simp
   refine Qb (i:=3) (v:=.int .i64 r.id) hw (by decide) hcl (Q4 rfl) rfl (by kernel_rfl) (by kernel_rfl) (by kernel_rfl) (λ_ _ _ h=>h) ⟨Or.inl ⟨by rfl,?y3⟩,λ_=>rfl⟩ HS0.out (λhcl=>?_)
   case y3=>
    rintro w ⟨c1,c2,c3,c4⟩
    go_simp
   refine Qb (i:=4) (v:=.pointer (some ⟨bL,1,none⟩)) hw (by decide) hcl (Q4 rfl) rfl (by kernel_rfl) (by kernel_rfl) (by kernel_rfl) (λ_ _ _ h=>h) ⟨Or.inl ⟨by rfl,?y4⟩,λ_=>rfl⟩ HS0.out (λhcl=>?_)
   case y4=>
    rintro w ⟨c1,c2,c3,c4⟩
    go_simp
   refine Qb (i:=5) (v:=.bool r.only) hw (by decide) hcl (Q4 rfl) rfl (by kernel_rfl) (by kernel_rfl) (by kernel_rfl) (λ_ _ _ h=>h) ⟨Or.inl ⟨by rfl,?y5⟩,λ_=>rfl⟩ HS0.out (λhcl=>?_)
   case y5=>
    rintro w ⟨c1,c2,c3,c4⟩
    go_simp
   refine Qb (i:=6) (v:=.slice (some ⟨gc,0,none⟩) 1 cc) hw (by decide) hcl (Q4 rfl) rfl (by kernel_rfl) (by kernel_rfl) (by kernel_rfl) (λ_ _ _ h=>h) ⟨Or.inl ⟨by rfl,?y6⟩,λ_=>rfl⟩ HS0.out (λhcl=>?_)
   case y6=>
    rintro w ⟨c1,c2,c3,c4⟩
    go_simp
   refine Qb (i:=7) (v:=.pointer (some ⟨gc,0,none⟩)) hw (by decide) hcl (Q4 rfl) rfl (by kernel_rfl) (by kernel_rfl) (by kernel_rfl) (λ_ _ _ h=>h) ⟨Or.inl ⟨by rfl,?y7⟩,λ_=>rfl⟩ HS0.out (λhcl=>?_)
   case y7=>
    rintro w ⟨c1,c2,c3,c4⟩
    go_simp
   refine Qb (i:=8) (v:=.pointer (some ⟨gc,0,none⟩)) hw (by decide) hcl (Q4 rfl) rfl (by kernel_rfl) (by kernel_rfl) (by kernel_rfl) (λ_ _ _ h=>h) ⟨Or.inl ⟨by rfl,?y8⟩,λ_=>rfl⟩ HS0.out (λhcl=>?_)
   case y8=>
    rintro w ⟨c1,c2,c3,c4⟩
    go_simp
   refine Qb (i:=9) (v:=.slice sa sn scp) hw (by decide) hcl (Q4 rfl) rfl (by kernel_rfl) (by kernel_rfl) (by kernel_rfl) (λ_ _ _ h=>h) ⟨Or.inl ⟨by rfl,?y9⟩,λ_=>rfl⟩ HS0.out (λhcl=>?_)
   case y9=>
    rintro w ⟨c1,c2,c3,c4⟩
    go_simp
   refine Qb (i:=10) (v:=.agg #[.int .i64 r.id,.bool r.only,.slice sa sn scp]) hw (by decide) hcl (Q4 rfl) rfl (by kernel_rfl) (by kernel_rfl) (by kernel_rfl) (λ_ _ _ h=>h) ⟨Or.inl ⟨by rfl,?y10⟩,λ_=>rfl⟩ HS0.out (λhcl=>?_)
   case y10=>
    rintro w ⟨c1,c2,c3,c4⟩
    go_simp
   refine Q5 (i:=11) (by kernel_rfl) (wpOpIn_step rfl (λK hK=>?_))
   go_simp
   refine hK _ _ ⟨Or.inr ⟨Q3 (Qc _ _) x0,Q3 (Qc _ _) k0,Q3 (Qc _ _) k1,Q3 (Qc _ _) kcg⟩,?_⟩
   clear hK K
   refine Q5 (i:=12) (by kernel_rfl) (wpOpIn_step rfl (λK hK=>?_))
   refine Yq rfl (.tmp 69) (.tmp 79) 30 rfl 45 iR (.agg #[.int .i64 0,.bool false,.slice none 0 0]) 3 40 Tryz.underlying30 hiR hzR0 hzR1 hzR2 rfl (by decide) w1.heap.size (.slice arr nr crr) _ _ (by simp[Act.eval]) (show(wr.drew.alloc (.cells #[.int .i64 r.id,.bool r.only,.slice sa sn scp] 45)).ownsRow _ _ _ _ _ _ from World.ownsRow.alloc HROW.out _) ⟨wr.heap.size,0,none⟩ 1 1 [.int .i64 r.id,.bool r.only,.slice sa sn scp] (by simp[Act.eval]) rfl (λj u hj=>Qx wr.drew _ _ _ rfl j u hj) (by intro u hu;simp at hu;rcases hu with rfl|rfl|rfl<;>rfl) (by rw[HNRW.out];unfold maxLen;omega) (by rw[HNRW.out];omega) (by show w1.heap.size<=(wr.drew.alloc (.cells #[.int .i64 r.id,.bool r.only,.slice sa sn scp] 45)).heap.size;rw[Q1];have:=HCW.out;show w1.heap.size<=wr.heap.size+1;omega) ?_
   intro v7 w7 hown hgrow1 hat7
   have hgrow:(wr.alloc (.cells #[.int .i64 r.id,.bool r.only,.slice sa sn scp] 45)).grownBy w7 (Value.slice arr nr crr).ownBlock:=⟨hgrow1.os,hgrow1.tape,hgrow1.output,hgrow1.size,hgrow1.block⟩
   have HS7:Hid (SRs w0.heap.size w1.heap.size w1 (w7.setCell ⟨w0.heap.size,0,none⟩ v7) (Qq (U0 N R) N.rels (k+1))):=by unfold Hid;rw[HSTEP.out,HE.out];exact SRs.rule (x:=⟨r.id,r.only,seq⟩) HBR.out HJV.out HROW.out HJW.out HDR.out HSQ.out.on HCB.out (Nat.le_refl _) HOR.out hgrow hown
   have BX7:=(HBR.out.alloc _).grown hgrow (λe=>by have:=(Qf HROW.out _ e.symm).1;have:=HCB.out;omega)
   have x7:=BX7.cell (i:=0) rfl
   have f7:=BX7.frozen 0
   have s1:w7.cell? ⟨bL,0,none⟩=some (.int .i64 r.id):=cellX hgrow (Q3 (Qc _ _) k0) (λe=>Nat.lt_irrefl _ (HNEL.out.1 bL e.symm))
   have s2:w7.cell? ⟨bL,1,none⟩=some (.bool r.only):=cellX hgrow (Q3 (Qc _ _) k1) (λe=>Nat.lt_irrefl _ (HNEL.out.1 bL e.symm))
   have s3:w7.cell? ⟨gc,0,none⟩=some (.slice sa sn scp):=cellX hgrow (Q3 (Qc _ _) kcg) (λe=>Nat.lt_irrefl _ (Nat.lt_trans (HNEL.out.1 gc e.symm) HNEL.out.2.1))
   obtain⟨a7',c7',hv7⟩:=Q2 hown
   subst hv7
   refine hK _ _ ⟨Or.inr ⟨x7,s1,s2,s3⟩,?_⟩
   clear hK K hown hgrow hgrow1 hat7 BX7
   refine Q5 (i:=13) (by kernel_rfl) (wpOpIn_step rfl (λK hK=>?_))
   go_simp
   refine hK _ _ ⟨Or.inr ⟨x7,s1,s2,s3⟩,?_⟩
   clear hK K
   clear s1 s2 s3
   refine Q5 (i:=14) (by kernel_rfl) (wpOpIn_step rfl (λK hK=>?_))
   go_simp
   refine hK _ _ ⟨Or.inl (by decide),?_⟩
   clear hK K
   refine Qj (by kernel_rfl) ?_ _
   clear hw hcl HS0 x0 k0 k1 kcg x7 f7
   go_wp2
   go_roundw
   case rel=>exact⟨k+1,by omega,by go_num,HS7⟩
   case measure=>simp[intOf];omega
 have hq':(q:Int)<nr:=by omega
 have HQR:Hid (q<Sk.rules.length):=by unfold Hid;rw[HNR.out];exact hq
 have HSUC:Hid (Zx Sk.rules r.only seq (q+1)=(Zx Sk.rules r.only seq q||((V0 Sk.rules q).only==r.only&&decide ((V0 Sk.rules q).seq=seq)))):=noRpt_succ HQR.out
 obtain⟨gr,us,har,y0,y1,y2,hOs⟩:=(HRW.out.next HNQ.out).at HQR.out
 subst har
 have HOS:=mh hOs
 obtain⟨ssa,ssc,hus⟩:=hOs.slice
 generalize (V0 Sk.rules q).seq.length=ssn at hus
 subst hus
 have b1:=cell_regrown x0
 have b2:=cell_regrown y1
 have b3:=cell_regrown y2
 have b4:=cell_regrown (Q3 HNQ.out HCG.out)
 have b5:=cell_regrown ((BL6.out.next HNQ.out).cell (i:=1) rfl)
 have CG:Hid (∀d os,Calls Tryz.prog 45 #[.slice ssa ssn ssc,.slice sa sn scp] (Sort.grow (redrawn wr d) os) λe w''=>e=.returned (.bool (decide ((V0 Sk.rules q).seq=seq)))/\∃p:Regrown,w''=Sort.grow (redrawn wr p.d) p.os):=
  λd os=>Calls.regrown_of (l2Same_any w1.heap.size w1.heap.size _ _ (V0 Sk.rules q).seq seq _ (HOS.out.held.next (below_regrown wr d os)) ((HO0.out.next HNQ.out).held.next (below_regrown wr d os)))
 clear hOs y0 y1 y2
 generalize (V0 Sk.rules q).only=oq at *
 cases ho:(oq==r.only)
 ·have HE1:Hid (Zx Sk.rules r.only seq (q+1)=Zx Sk.rules r.only seq q):=by unfold Hid;rw[HSUC.out,ho];simp
  go_upto_region 16 with fail
  refine wp_region_quiet_below (by kernel_rfl) (by kernel_rfl) ?_
  repeat (go_big_quiet_step (exact CG.out _ _))
  refine wpQuiet_nil ?_
  intro _ hw'
  obtain⟨⟨dq,osq⟩,hw''⟩:=hw'
  subst hw''
  have HB:=mh (below_regrown wr dq osq)
  clear b1 b2 b3 b4 b5 x0 ho
  generalize Sort.grow (redrawn wr dq) osq=wz at *
  go_wp2
  go_roundw
  case rel=>exact⟨q+1,by omega,by go_num,by rw[HE1.out],HNQ.out.trans HB.out⟩
  case measure=>simp[intOf];omega
 ·by_cases hsq:(V0 Sk.rules q).seq=seq
  ·have HE1:Hid (rz (Zx Sk.rules r.only seq (q+1))=3):=by unfold Hid;rw[HSUC.out,ho,decide_eq_true hsq];simp[rz]
   rw[decide_eq_true hsq] at CG
   go_upto_region 16 with fail
   refine wp_region_quiet_below (by kernel_rfl) (by kernel_rfl) ?_
   repeat (go_big_quiet_step (exact CG.out _ _))
   refine wpQuiet_nil ?_
   intro _ hw'
   obtain⟨⟨dq,osq⟩,hw''⟩:=hw'
   subst hw''
   have HB:=mh (below_regrown wr dq osq)
   clear b1 b2 b3 b4 b5 x0 ho hsq
   generalize Sort.grow (redrawn wr dq) osq=wz at *
   go_wp2
   go_roundw
   case rel=>exact⟨q+1,by omega,by go_num,by rw[HE1.out],HNQ.out.trans HB.out⟩
   case measure=>simp[intOf];omega
  ·have HE1:Hid (Zx Sk.rules r.only seq (q+1)=Zx Sk.rules r.only seq q):=by unfold Hid;rw[HSUC.out,ho,decide_eq_false hsq];simp
   rw[decide_eq_false hsq] at CG
   go_upto_region 16 with fail
   refine wp_region_quiet_below (by kernel_rfl) (by kernel_rfl) ?_
   repeat (go_big_quiet_step (exact CG.out _ _))
   refine wpQuiet_nil ?_
   intro _ hw'
   obtain⟨⟨dq,osq⟩,hw''⟩:=hw'
   subst hw''
   have HB:=mh (below_regrown wr dq osq)
   clear b1 b2 b3 b4 b5 x0 ho hsq
   generalize Sort.grow (redrawn wr dq) osq=wz at *
   go_wp2
   go_roundw
   case rel=>exact⟨q+1,by omega,by go_num,by rw[HE1.out],HNQ.out.trans HB.out⟩
   case measure=>simp[intOf];omega
theorem E1_head {N:Nt}(h:Yi N){e:Nat}(he:e<(E1 N).length):0<=(eat (E1 N) e).head/\(eat (E1 N) e).head<N.nodes.length:=by
 rw[Yj] at he
 obtain⟨i,j,q,hi,hj,hq,he1⟩:=lay_of N.ways.length he
 obtain⟨_,a1⟩:=Xw hi hj hq
 rw[<-he1] at a1
 have hm:=Yv (λi j=>rfl) h.asc
 have hp:∀t,Vt N.nodes t=true->pos N.nodes t<N.nodes.length:=by
  intro t ht
  obtain⟨k,hk,rfl⟩:=hasI_at ht
  rw[pos_at hm hk]
  exact hk
 have hl:=h.len i hi
 have hns:nsN N i=(wat N.ways i).weights.length:=rfl
 have p0:=hp _ (h.has i j hi (by omega))
 have p1:=hp _ (h.has i (j+1) hi (by omega))
 rw[a1]
 split
 ·exact⟨by simp[fwd],by simp[fwd];omega⟩
 ·split
  ·exact⟨by simp[fwd],by simp[fwd];omega⟩
  ·exact⟨by simp[bwd],by simp[bwd];omega⟩
theorem E1_le {N:Nt}(h:Yi N):(E1 N).length<=4000:=by
 rw[Yj]
 unfold mN
 rw[st_ed]
 exact h.ed
structure RelsIn (N:Nt):Prop where
 one:∀i,i<N.ways.length->1<=(wat N.ways i).weights.length
 rel:∀k,k<N.rels.length->J9 N (rat N.rels k)=true
 cnt:N.rels.length<=1000
 ascw:U2 N.ways=true
theorem X9 {N:Nt}(h:Qh N=true):RelsIn N:=by
 simp only[Qh,counts,Bool.and_eq_true,decide_eq_true_eq] at h
 obtain⟨⟨c0,c1,ed,c2,c3⟩,hu,⟨ha,hn⟩,⟨hw,haw⟩,⟨hr,_⟩,ht,_⟩:=h
 refine⟨λi hi=>?_,λk hk=>allN_at hr hk,c2,haw⟩
 have:=allN_at hw hi
 simp only[Qy,Vm,Bool.and_eq_true,decide_eq_true_eq] at this
 obtain⟨⟨⟨⟨⟨g0,g1⟩,g2⟩,g3⟩,g4⟩,g5⟩:=this
 exact g1
theorem Xu {N:Nt}(h:Yi N)(h2:RelsIn N){i:Nat}(hi:i<N.ways.length):Vi (E1 N) i (E1 N).length≠[]/\((wat N.ways i).both=true->Vu (E1 N) i (E1 N).length≠[]):=by
 have h1:=h2.one i hi
 have hns:nsN N i=(wat N.ways i).weights.length:=rfl
 have hbn:1<=bnN N i:=by unfold bnN;split<;>omega
 constructor
 ·obtain⟨_,a1⟩:=Xw (N:=N) (i:=i) (j:=0) (q:=0) hi (by omega) (by omega)
  have hlt:st (nsN N) (bnN N) i+bnN N i*0+0<(E1 N).length:=by rw[Yj];exact st_in hi (by omega) (by omega)
  intro e
  have hm:st (nsN N) (bnN N) i+bnN N i*0+0∈Vi (E1 N) i (E1 N).length:=by
   unfold Vi
   rw[List.mem_filter]
   refine⟨List.mem_range.2 hlt,?_⟩
   unfold Vx
   rw[a1]
   split
   ·simp[fwd]
   ·simp[fwd]
  rw[e] at hm
  simp at hm
 ·intro hb
  have hbn2:bnN N i=2:=by unfold bnN;rw[if_pos hb]
  obtain⟨_,a1⟩:=Xw (N:=N) (i:=i) (j:=0) (q:=1) hi (by omega) (by omega)
  have hlt:st (nsN N) (bnN N) i+bnN N i*0+1<(E1 N).length:=by rw[Yj];exact st_in hi (by omega) (by omega)
  intro e
  have hm:st (nsN N) (bnN N) i+bnN N i*0+1∈Vu (E1 N) i (E1 N).length:=by
   unfold Vu
   rw[List.mem_reverse,List.mem_filter]
   refine⟨List.mem_range.2 hlt,?_⟩
   unfold Vx
   rw[a1,if_neg (by omega),if_neg (by omega)]
   simp[bwd]
  rw[e] at hm
  simp at hm
theorem all_in {N:Nt}(hv:Qh N=true):AllIn N (Xd N):=by
 have h:=Jq hv
 have h2:=X9 hv
 intro k hk
 have hr:=h2.rel k hk
 simp only[J9,Bool.and_eq_true] at hr
 obtain⟨_,hf,ht,hT⟩:=hr
 unfold J6 at hT
 refine⟨hf,ht,?_,λj hj=>?_,λi hi=>Xu h h2 hi,λe he=>E1_head h he⟩
 ·split at hT
  ·simp at hT;rw[hT.1];simp
  ·simp at hT;exact hT.2.2.1
 ·split at hT
  ·simp only[Bool.and_eq_true,decide_eq_true_eq] at hT;omega
  ·simp only[Bool.and_eq_true,decide_eq_true_eq] at hT
   exact allN_at hT.2.2.2 hj
def J5 (N:Nt):Rs:=if Qh N then Qq (U0 N (Xd N)) N.rels N.rels.length else ⟨[],[]⟩
theorem specResolve_any (B0:Nat)(v0 v1 v2 v3:Value)(N:Nt)(w:World)(h0:Z0 B0 w v0 v1 v2 v3 N)(hs:wsum N.ways N.ways.length<=1048576) :
  Calls Tryz.prog 9 #[.agg #[v0,v1,v2,v3,.int .i64 N.uturn]] w λe w'=>(∃vr vd,e=.returned (.agg #[vr,vd])/\Yz w.heap.size w.heap.size w' vr (J5 N).rules/\Xk w.heap.size w' vd (J5 N).drops)/\Nx w w':=by
 have HS:=mh hs
 have HI:=mh h0
 obtain⟨a0,q0,e0,jm,jk⟩:=h0.1
 clear jm jk
 obtain⟨a1,q1,e1,jm,jk⟩:=h0.2.1
 clear jm jk
 obtain⟨a2,q2,e2,jm,jk⟩:=h0.2.2.1
 clear jm jk
 obtain⟨a3,q3,e3,jm,jk⟩:=h0.2.2.2
 clear jm jk
 generalize N.nodes.length=l0 at e0
 generalize N.ways.length=l1 at e1
 generalize N.rels.length=l2 at e2
 generalize N.turns.length=l3 at e3
 subst e0 e1 e2 e3
 clear hs h0
 generalize hWA:(w.alloc (.cells #[.slice a0 l0 q0,.slice a1 l1 q1,.slice a2 l2 q2,.slice a3 l3 q3,.int .i64 N.uturn] 28)).alloc (.cells #[.slice none 0 0,.slice none 0 0] 33)=wA
 have HXA:Hid (Nx w wA):=by unfold Hid;rw[<-hWA];exact box2 _ _ _
 have BG:Hid (Blk wA w.heap.size #[.slice a0 l0 q0,.slice a1 l1 q1,.slice a2 l2 q2,.slice a3 l3 q3,.int .i64 N.uturn]):=by unfold Hid;rw[<-hWA];exact(Blk.new w _ _ _ rfl).alloc _
 have BZ:Hid (Blk wA (w.heap.size+1) #[.slice none 0 0,.slice none 0 0]):=by unfold Hid;rw[<-hWA];exact Blk.new _ _ _ _ (by rw[Q1])
 have HSA:Hid (wA.heap.size=w.heap.size+2):=by unfold Hid;rw[<-hWA,Q1,Q1]
 go_enter Tryz.func9,Tryz.ntmps9
 go_upto_region 1 with fail
 clear hWA
 have k0:=BG.out.cell (i:=0) rfl
 have k1:=BG.out.cell (i:=1) rfl
 have k2:=BG.out.cell (i:=2) rfl
 have k3:=BG.out.cell (i:=3) rfl
 have k4:=BG.out.cell (i:=4) rfl
 go_wp2_with fail
 refine(specValid_any B0 _ _ _ _ N _ (by exact HI.out.next HXA.out) HS.out).mono ?_
 rintro e w1 ⟨rfl,hx⟩
 rw[specValid_same]
 have HXA1:Hid (Nx wA w1):=hx
 have HX1:Hid (Nx w w1):=HXA.out.trans hx
 have BG1:=mh (BG.out.next hx)
 have BZ1:=mh (BZ.out.next hx)
 clear hx k0 k1 k2 k3 k4
 cases hv:Qh N
 case false=>
  have HF:Hid (J5 N=⟨[],[]⟩):=by unfold Hid J5;rw[hv];rfl
  clear hv
  have y0:=BZ1.out.cell (i:=0) rfl
  have y1:=BZ1.out.cell (i:=1) rfl
  have z0:=BZ1.out.frozen 0
  have z1:=BZ1.out.frozen 1
  go_wp2
  have BR':=(BZ1.out.set 0 (.slice none 0 0)).set 1 (.slice none 0 0)
  have p0:_=some (Value.slice none 0 0):=BR'.cell (i:=0) rfl
  have p1:_=some (Value.slice none 0 0):=BR'.cell (i:=1) rfl
  clear y0 y1 BR'
  refine bodyPost_ret (v:=.agg #[.slice none 0 0,.slice none 0 0]) (by simp[results,Tryz.results9,go_sem,p0,p1]) rfl ?_
  rw[HF.out]
  exact⟨⟨_,_,rfl,⟨[],rfl,⟨rfl,.inl ⟨rfl,rfl⟩⟩,λi hi=>absurd hi (Nat.not_lt_zero _)⟩,⟨rfl,.inl ⟨rfl,rfl⟩⟩⟩,Below.setCell (Below.setCell HX1.out (Nat.le_succ _) _) (Nat.le_succ _) _⟩
 have HF:Hid (J5 N=Qq (U0 N (Xd N)) N.rels N.rels.length):=by unfold Hid J5;rw[hv];rfl
 have HRO:Hid (Je N=Xd N):=by unfold Hid Je;rw[hv];rfl
 have HAL:Hid (AllIn N (Xd N)):=all_in hv
 have HLE:=mh (E1_le (Jq hv))
 have HCN:=mh ((X9 hv).cnt)
 clear hv
 have k0:=BG1.out.cell (i:=0) rfl
 have k1:=BG1.out.cell (i:=1) rfl
 have k2:=BG1.out.cell (i:=2) rfl
 have k3:=BG1.out.cell (i:=3) rfl
 have k4:=BG1.out.cell (i:=4) rfl
 go_upto_region 3 with fail
 go_region_held3 (λw'=>w'.cell? ⟨w.heap.size,0,none⟩=some (.slice a0 l0 q0)/\w'.cell? ⟨w.heap.size,1,none⟩=some (.slice a1 l1 q1)/\w'.cell? ⟨w.heap.size,2,none⟩=some (.slice a2 l2 q2)/\w'.cell? ⟨w.heap.size,3,none⟩=some (.slice a3 l3 q3)/\w'.cell? ⟨w.heap.size,4,none⟩=some (.int .i64 N.uturn)) (first|exact⟨cellS (by omega) (cellS (by omega) (Q3 HX3.out k0)),cellS (by omega) (cellS (by omega) (Q3 HX3.out k1)),cellS (by omega) (cellS (by omega) (Q3 HX3.out k2)),cellS (by omega) (cellS (by omega) (Q3 HX3.out k3)),cellS (by omega) (cellS (by omega) (Q3 HX3.out k4))⟩|exact⟨Q3 HX3.out k0,Q3 HX3.out k1,Q3 HX3.out k2,Q3 HX3.out k3,Q3 HX3.out k4⟩|exact⟨Q3 HX2.out k0,Q3 HX2.out k1,Q3 HX2.out k2,Q3 HX2.out k3,Q3 HX2.out k4⟩|(go_keep;done)) (first|(go_at_call 8;refine(specRoad_any B0 _ _ _ _ N _ (by exact HI.out.next (HX1.out.trans (Below.refl _ _).drew)) HS.out).mono ?_;rintro e w2 ⟨⟨r0,r1,r2,r3,rfl,hRD⟩,hx2⟩;have HX2:Hid (Nx w1 w2):=(Below.refl _ _).drew.trans hx2;rw[HRO.out] at hRD;have HRD:Hid (Vy w1.heap.size w2 r0 r1 r2 r3 (Xd N)):=hRD;clear hRD hx2)|(go_at_call 25;refine(l2Resolve_any B0 w1.heap.size _ _ _ _ N _ _ _ _ (Xd N) _ (by exact HI.out.next (HX1.out.trans HX2.out)) (by exact HRD.out) HLE.out HAL.out HCN.out).mono ?_;rintro e w3 ⟨⟨vr,vd,rfl,hR3,hD3⟩,hx3⟩;have HX3:Hid (Nx w1 w3):=HX2.out.trans hx3;have HR3:Hid (Yz w1.heap.size w1.heap.size w3 vr (J5 N).rules):=(by unfold Hid;rw[HF.out];exact hR3.base HX2.out.size HX2.out.size);have HD3:Hid (Xk w1.heap.size w3 vd (J5 N).drops):=(by unfold Hid;rw[HF.out];exact Yt hD3 HX2.out.size);obtain⟨vs3,jv,jr,jw⟩:=hR3;obtain⟨ar,cr,hvr⟩:=Q2 jr;obtain⟨ad,cd,hvd⟩:=Q2 hD3;generalize (Qq (U0 N (Xd N)) N.rels N.rels.length).rules.length=nr at hvr;generalize (Qq (U0 N (Xd N)) N.rels N.rels.length).drops.length=nd at hvd;subst hvr hvd;have BZ3:Hid (Blk w3 (w.heap.size+1) #[.slice none 0 0,.slice none 0 0]):=BZ1.out.next HX3.out;have y0:=BZ3.out.cell (i:=0) rfl;have y1:=BZ3.out.cell (i:=1) rfl;have z0:=BZ3.out.frozen 0;have z1:=BZ3.out.frozen 1;clear jv jr jw hD3 hx3))
 have BR':=(BZ3.out.set 0 (.slice ar nr cr)).set 1 (.slice ad nd cd)
 have p0:_=some (Value.slice ar nr cr):=BR'.cell (i:=0) rfl
 have p1:_=some (Value.slice ad nd cd):=BR'.cell (i:=1) rfl
 clear y0 y1 BR' k0 k1 k2 k3 k4
 go_wp2
 refine bodyPost_ret (v:=.agg #[.slice ar nr cr,.slice ad nd cd]) (by simp[results,Tryz.results9,go_sem,p0,p1]) rfl ?_
 have h1:w.heap.size+1<w1.heap.size:=by have:=HSA.out;have:=HXA1.out.size;omega
 have h2:w.heap.size<=w1.heap.size:=by omega
 exact⟨⟨_,_,rfl,((HR3.out.store h1 h1 _ _).store h1 h1 _ _).base h2 h2,Yt (Qn (Qn HD3.out h1 _ _) h1 _ _) h2⟩,Below.setCell (Below.setCell (HX1.out.trans HX3.out) (Nat.le_succ _) _) (Nat.le_succ _) _⟩
structure EB (w:World)(b e:Nat)(x:Eg):Prop where
 tail:w.cell? ⟨b,0,none⟩=some (.int .i64 x.tail)
 head:w.cell? ⟨b,1,none⟩=some (.int .i64 x.head)
 wgt:w.cell? ⟨b,2,none⟩=some (.int .i64 x.weight)
 back:w.cell? ⟨b,5,none⟩=some (.bool x.back)
 twin:w.cell? ⟨b,6,none⟩=some (.int .i64 x.twin)
 num:w.cell? ⟨b,7,none⟩=some (.int .i64 (e:Int))
theorem EB.next {w w':World}{b e:Nat}{x:Eg}(h:EB w b e x)(k:Nx w w'):EB w' b e x:=
 ⟨Q3 k h.tail,Q3 k h.head,Q3 k h.wgt,Q3 k h.back,Q3 k h.twin,Q3 k h.num⟩
def Zk (B:Nat)(w:World)(v:Value)(ps:List Nat):Prop:=Jz B w v ps.length λb off i=>w.cell? ⟨b,off+i,none⟩=some (.pointer (some ⟨ps.getD i 0,0,none⟩))
theorem Zk.keep {B:Nat}{w w':World}{v:Value}{ps:List Nat}(h:Zk B w v ps)(k:Yc B w w'):Zk B w' v ps:=
 Jz.mono h (Nat.le_refl _) k.1 λb off hb hs i hi hc=>(k.2 b hb hs _).trans hc
theorem Zk.next {B:Nat}{w w':World}{v:Value}{ps:List Nat}(h:Zk B w v ps)(k:Nx w w'):Zk B w' v ps:=h.keep (k.keeps B)
theorem Zk.at {B:Nat}{w:World}{v:Value}{eb:Nat->Nat}{l:List Nat}(h:Zk B w v (l.map eb))(hp:0<l.length):∃b off c,v=.slice (some ⟨b,off,none⟩) l.length c/\b<w.heap.size/\∀i,i<l.length->w.cell? ⟨b,off+i,none⟩=some (.pointer (some ⟨eb (l.getD i 0),0,none⟩)):=by
 obtain⟨a,cap,e,_,hk⟩:=h
 rw[List.length_map] at e hk
 obtain⟨b,off,rfl,_,hb,hc⟩:=hk hp
 refine⟨b,off,cap,e,hb,λi hi=>?_⟩
 have:=hc i hi
 rw[this]
 simp[List.getD_eq_getElem?_getD,hi]
theorem Z4 {l:List Nat}{k:Nat}(h:k<l.length):l.take (k+1)=l.take k++[l.getD k 0]:=by
 rw[List.take_succ_eq_append_getElem h]
 simp[List.getD_eq_getElem?_getD,h]
theorem stretchOf_any (B:Nat)(v:Value)(es:List Eg)(eb:Nat->Nat)(l:List Nat)(w:World)(h0:Zk B w v (l.map eb))(hl:l≠[])(hlen:l.length<=4000)(he:∀e∈l,EB w (eb e) e (eat es e)) :
  Calls Tryz.prog 63 #[v] w λe w'=>(∃u,e=.returned (.agg #[.int .i64 (tlL es l),.int .i64 (hdL es l),u])/\Q6 w.heap.size w' u (Qd l))/\Nx w w':=by
 obtain⟨ii,hi,hz0,hz1,hz2⟩:=info_parts Xm
 have HE:=mh he
 have hpos:0<l.length:=List.length_pos_iff.2 hl
 obtain⟨b,off,c,rfl,hb,hc⟩:=h0.at hpos
 have HC:=mh hc
 obtain⟨lm,hlm⟩:∃lm,l.length=lm+1:=⟨l.length-1,by omega⟩
 have hmem:∀i,i<l.length->l.getD i 0∈l:=λi hi=>by
  have:l.getD i 0=l[i]:=by simp[List.getD_eq_getElem?_getD,hi]
  rw[this];exact List.getElem_mem hi
 have HMEM:=mh hmem
 have x0:=hc 0 hpos
 have x1:=hc lm (by omega)
 have t0:=(he _ (hmem 0 hpos)).tail
 have t1:=(he _ (hmem lm (by omega))).head
 have HTL:Hid (tlL es l=(eat es (l.getD 0 0)).tail):=by
  unfold Hid tlL
  cases l with
  |nil=>exact absurd rfl hl
  |cons a l=>rfl
 have HHD:Hid (hdL es l=(eat es (l.getD lm 0)).head):=by
  unfold Hid hdL
  rw[List.getLastD_eq_getLast?,List.getLast?_eq_getElem?,List.getD_eq_getElem?_getD,hlm]
  rfl
 rw[<-HTL.out] at t0
 rw[<-HHD.out] at t1
 generalize tlL es l=T at *
 generalize hdL es l=H at *
 generalize eb (l.getD 0 0)=e0 at *
 generalize eb (l.getD lm 0)=e1 at *
 have HLN:Hid (l.length=lm+1):=hlm
 have hlm4:lm<=4000:=by omega
 have hlm':(lm:Int)<(lm:Int)+1:=by omega
 have hz:(0:Int)<(lm:Int)+1:=by omega
 have hlm0:(0:Int)<=(lm:Int):=by omega
 have hwj:=U6 lm (by omega)
 rw[hlm]
 simp only[Nat.add_zero] at x0
 clear hc he hmem hlm hpos hl h0
 generalize hW0:w.alloc (.cells #[.int .i64 0,.int .i64 0,.slice none 0 0] 116)=w0
 have HX0:Hid (Nx w w0):=by unfold Hid;rw[<-hW0];exact Qc _ _
 have HB0:Hid (Blk w0 w.heap.size #[.int .i64 0,.int .i64 0,.slice none 0 0]):=by unfold Hid;rw[<-hW0];exact Blk.new w _ _ _ rfl
 have HZ0:Hid (w0.heap.size=w.heap.size+1):=by unfold Hid;rw[<-hW0];exact Q1 _ _
 go_enter Tryz.func63,Tryz.ntmps63
 go_upto_region 1 with fail
 clear hW0
 have y0:=Q3 HX0.out x0
 have y1:=Q3 HX0.out x1
 have y2:=Q3 HX0.out t0
 have y3:=Q3 HX0.out t1
 clear x0 x1 t0 t1
 go_cut [3] from 6 to 24 (λs3 wc=>Hid (s3=.pointer (some ⟨w0.heap.size,0,none⟩))/\Hid (Nx w0 wc)/\Hid (Blk wc w0.heap.size #[.int .i64 T,.int .i64 H,.slice none 0 0]))
 case first=>
  go_region_held3 (λw'=>w'.cell? ⟨b,off,none⟩=some (.pointer (some ⟨e0,0,none⟩))/\w'.cell? ⟨b,off+lm,none⟩=some (.pointer (some ⟨e1,0,none⟩))/\w'.cell? ⟨e0,0,none⟩=some (.int .i64 T)/\w'.cell? ⟨e1,1,none⟩=some (.int .i64 H)) (go_keep) (fail)
  all_goals go_wp2
  all_goals go_meet
  all_goals exact⟨rfl,(Qc _ _).drew,(Blk.new _ _ _ _ rfl).drew⟩
 case rest=>
 obtain⟨hs3,HXc,HBc⟩:=hcut
 have hs3':=hs3.out
 subst hs3'
 clear hs3 y0 y1 y2 y3
 have HCc:=mh HBc.out.lt
 generalize w0.heap.size=bo at *
 go_wp2
 go_loopw [26] (λi wr=>∃(k:Nat) (u:Value),k<=lm+1/\i=.int .i64 k/\Hid (Blk wr bo #[.int .i64 T,.int .i64 H,u])/\Hid (Q6 wc.heap.size wr u (Qd (l.take k)))/\Hid (Ja (some bo) wc wr)) (λi _=>lm+1-(intOf i).toNat)
 case atStart=>exact⟨0,.slice none 0 0,Nat.zero_le _,rfl,HBc,⟨rfl,Or.inl ⟨rfl,rfl⟩⟩,Ja.refl _ _⟩
 obtain⟨k,u,hkm,rfl,HBX,HO,HON⟩:=hrel
 have HXw:Hid (Nx w wc):=HX0.out.trans HXc.out
 have HBW:=mh (Below.trans HXw.out (HON.out.below (by intro g hg;cases hg;have:=HZ0.out;omega) HXw.out.size))
 by_cases hlt:k<lm+1
 case neg=>
  have ek:lm+1=k:=by omega
  subst ek
  obtain⟨ua,uc,hue⟩:=HO.out.slice
  have HTK:Hid (l.take (lm+1)=l):=by unfold Hid;rw[<-HLN.out,List.take_length]
  generalize (Qd (l.take (lm+1))).length=ul at hue
  subst hue
  have HF:Hid (Q6 wc.heap.size wr (.slice ua ul uc) (Qd l)):=by have:=HO.out;rw[HTK.out] at this;exact this
  have BZ:=HON.out.blk (HB0.out.next HXc.out) (by intro e;have:=Option.some.inj e;have:=HZ0.out;omega)
  have x0:=HBX.out.cell (i:=0) rfl
  have x1:=HBX.out.cell (i:=1) rfl
  have x2:=HBX.out.cell (i:=2) rfl
  have y0:=BZ.cell (i:=0) rfl
  have y1:=BZ.cell (i:=1) rfl
  have y2:=BZ.cell (i:=2) rfl
  have z0:=BZ.frozen 0
  have z1:=BZ.frozen 1
  have z2:=BZ.frozen 2
  have BR':=((BZ.set 0 (.int .i64 T)).set 1 (.int .i64 H)).set 2 (.slice ua ul uc)
  have p0:_=some (Value.int .i64 T):=BR'.cell (i:=0) rfl
  have p1:_=some (Value.int .i64 H):=BR'.cell (i:=1) rfl
  have p2:_=some (Value.slice ua ul uc):=BR'.cell (i:=2) rfl
  clear BR' hlt hkm
  go_wp2
  refine bodyPost_ret (v:=.agg #[.int .i64 T,.int .i64 H,.slice ua ul uc]) (by simp[results,Tryz.results63,go_sem,p0,p1,p2]) rfl ?_
  have h1:w.heap.size<wc.heap.size:=by have:=HZ0.out;have:=HCc.out;omega
  exact⟨⟨_,rfl,Q6.base (Qn (Qn (Qn HF.out h1 _ _) h1 _ _) h1 _ _) (Nat.le_of_lt h1)⟩,Below.setCell (Below.setCell (Below.setCell HBW.out (Nat.le_refl _) _) (Nat.le_refl _) _) (Nat.le_refl _) _⟩
 have hlt':(k:Int)<(lm:Int)+1:=by omega
 have hk0:(0:Int)<=(k:Int):=by omega
 have c0:=Q0 HBW.out hb (HC.out k (by rw[HLN.out];exact hlt))
 have HES:Hid (Qd (l.take (k+1))=Qd (l.take k)++[((l.getD k 0:Nat):Int)]):=by unfold Hid;rw[Z4 (by rw[HLN.out];exact hlt),nums_snoc]
 have HEX:=HE.out _ (HMEM.out k (by rw[HLN.out];exact hlt))
 have c1:=Q0 HBW.out (Zd HEX.num) HEX.num
 have hebl:=Zd HEX.num
 clear HEX
 generalize l.getD k 0=x at *
 obtain⟨ua,uc,hue⟩:=HO.out.slice
 have HLK:Hid ((Qd (l.take k)).length=k):=by unfold Hid;rw[Qw,List.length_take,HLN.out];omega
 rw[HLK.out] at hue
 subst hue
 have c2:=HBX.out.cell (i:=2) rfl
 have HCW:=mh HON.out.size
 have HNB:Hid (eb x<w.heap.size/\w.heap.size<bo+1/\bo<wc.heap.size):=⟨hebl,by have:=HZ0.out;omega,HCc.out⟩
 have hmx:Tryz.prog.follows .mixedOrders=true:=by kernel_rfl
 go_upto_region 5 with fail
 refine(wpIn_wide (n:=9)).1 ?_
 have HS0:Hid ((λw=>w.cell? ⟨bo,2,none⟩=some (.slice ua k uc)/\w.cell? ⟨eb x,7,none⟩=some (.int .i64 (x:Int))) wr.drew):=⟨c2,c1⟩
 refine Q9 (c:=9) (S:=λw=>w.cell? ⟨bo,2,none⟩=some (.slice ua k uc)/\w.cell? ⟨eb x,7,none⟩=some (.int .i64 (x:Int))) hmx (by kernel_rfl) (λhw hcl=>?_)
 refine Qb (i:=0) (v:=.pointer (some ⟨bo,2,none⟩)) hw (by decide) hcl (Q4 rfl) rfl (by kernel_rfl) (by kernel_rfl) (by kernel_rfl) (λ_ _ _ h=>h) ⟨Or.inl ⟨by rfl,?y0⟩,λ_=>rfl⟩ HS0.out (λhcl=>?_)
 case y0=>
  rintro w ⟨c3,c4⟩
  go_simp
 refine Qb (i:=1) (v:=.slice ua k uc) hw (by decide) hcl (Q4 rfl) rfl (by kernel_rfl) (by kernel_rfl) (by kernel_rfl) (λ_ _ _ h=>h) ⟨Or.inl ⟨by rfl,?y1⟩,λ_=>rfl⟩ HS0.out (λhcl=>?_)
 case y1=>
  rintro w ⟨c3,c4⟩
  go_simp
 refine Qb (i:=2) (v:=.pointer (some ⟨eb x,0,none⟩)) hw (by decide) hcl (Q4 rfl) rfl (by kernel_rfl) (by kernel_rfl) (by kernel_rfl) (λ_ _ _ h=>h) ⟨Or.inl ⟨by rfl,?y2⟩,λ_=>rfl⟩ HS0.out (λhcl=>?_)
 case y2=>
  rintro w ⟨c3,c4⟩
  go_simp
 refine Qb (i:=3) (v:=.pointer (some ⟨eb x,0,none⟩)) hw (by decide) hcl (Q4 rfl) rfl (by kernel_rfl) (by kernel_rfl) (by kernel_rfl) (λ_ _ _ h=>h) ⟨Or.inl ⟨by rfl,?y3⟩,λ_=>rfl⟩ HS0.out (λhcl=>?_)
 case y3=>
  rintro w ⟨c3,c4⟩
  go_simp
 refine Qb (i:=4) (v:=.pointer (some ⟨eb x,7,none⟩)) hw (by decide) hcl (Q4 rfl) rfl (by kernel_rfl) (by kernel_rfl) (by kernel_rfl) (λ_ _ _ h=>h) ⟨Or.inl ⟨by rfl,?y4⟩,λ_=>rfl⟩ HS0.out (λhcl=>?_)
 case y4=>
  rintro w ⟨c3,c4⟩
  go_simp
 refine Qb (i:=5) (v:=.int .i64 (x:Int)) hw (by decide) hcl (Q4 rfl) rfl (by kernel_rfl) (by kernel_rfl) (by kernel_rfl) (λ_ _ _ h=>h) ⟨Or.inl ⟨by rfl,?y5⟩,λ_=>rfl⟩ HS0.out (λhcl=>?_)
 case y5=>
  rintro w ⟨c3,c4⟩
  go_simp
 refine Q5 (i:=6) (by kernel_rfl) (wpOpIn_step rfl (λK hK=>?_))
 go_simp
 refine hK _ _ ⟨Or.inr ⟨Q3 (Qc _ _) c2,Q3 (Qc _ _) c1⟩,?_⟩
 clear hK K
 refine Q5 (i:=7) (by kernel_rfl) (wpOpIn_step rfl (λK hK=>?_))
 refine Yq rfl (.tmp 31) (.tmp 36) 23 rfl 2 ii (.int .i64 0) 1 8 Tryz.underlying23 hi hz0 hz1 hz2 rfl (by decide) wc.heap.size (.slice ua k uc) _ _ (by simp[Act.eval]) (show(wr.drew.alloc (.cells #[.int .i64 (x:Int)] 2)).ownsRow _ _ _ _ _ _ from World.ownsRow.alloc HO.out _) ⟨wr.heap.size,0,none⟩ 1 1 [.int .i64 (x:Int)] (by simp[Act.eval]) rfl (λj u hj=>Qx wr.drew _ _ _ rfl j u hj) (by intro u hu;simp at hu;subst hu;rfl) (by rw[HLK.out];unfold maxLen;omega) (by rw[HLK.out];omega) (by show wc.heap.size<=(wr.drew.alloc (.cells #[.int .i64 (x:Int)] 2)).heap.size;rw[Q1];have:=HCW.out;show wc.heap.size<=wr.heap.size+1;omega) ?_
 intro v7 w7 hown hgrow1 hat7
 have hgrow:(wr.alloc (.cells #[.int .i64 (x:Int)] 2)).grownBy w7 (Value.slice ua k uc).ownBlock:=⟨hgrow1.os,hgrow1.tape,hgrow1.output,hgrow1.size,hgrow1.block⟩
 have BX7:=(HBX.out.alloc (.cells #[.int .i64 (x:Int)] 2)).grown hgrow (λe=>by have:=(Qf HO.out _ e.symm).1;have:=HNB.out;omega)
 have x7:=BX7.cell (i:=2) rfl
 have f7:=BX7.frozen 2
 have s1:w7.cell? ⟨eb x,7,none⟩=some (.int .i64 (x:Int)):=cellX hgrow (Q3 (Qc _ _) c1) (λe=>by have:=(Qf HO.out _ e.symm).1;have:=HNB.out;omega)
 have HO7:Hid (Q6 wc.heap.size (w7.setCell ⟨bo,2,none⟩ v7) v7 (Qd (l.take (k+1)))):=by unfold Hid;rw[HES.out];exact Qn (Q6.snoc hown) HCc.out 2 _
 have HB7:=mh (BX7.set 2 v7)
 have HN7:Hid (Ja (some bo) wc (w7.setCell ⟨bo,2,none⟩ v7)):=Ja.app HON.out hgrow (λg e=>(Qf HO.out g e).1) _
 obtain⟨a7',c7',hv7⟩:=Q2 hown
 subst hv7
 refine hK _ _ ⟨Or.inr ⟨x7,s1⟩,?_⟩
 clear hK K hown hgrow hgrow1 hat7 BX7
 refine Q5 (i:=8) (by kernel_rfl) (wpOpIn_step rfl (λK hK=>?_))
 go_simp
 refine hK _ _ ⟨Or.inr ⟨x7,s1⟩,?_⟩
 clear hK K s1
 refine Q5 (i:=9) (by kernel_rfl) (wpOpIn_step rfl (λK hK=>?_))
 go_simp
 refine hK _ _ ⟨Or.inl (by decide),?_⟩
 clear hK K
 refine Qj (by kernel_rfl) ?_ _
 clear hw hcl HS0 c0 c1 c2 x7 f7
 go_wp2
 go_roundw
 case rel=>exact⟨k+1,_,by omega,by go_num,HB7,HO7,HN7⟩
 case measure=>simp[intOf];omega
theorem fitEnd_any (b bm e:Nat)(x:Eg)(T:Int)(w:World)(he:EB w b e x)(hm:w.cell? ⟨bm,0,none⟩=some (.int .i64 T)) :
  Calls Tryz.prog 68 #[.pointer (some ⟨b,0,none⟩),.pointer (some ⟨bm,0,none⟩)] w λe w'=>e=.returned (.bool (x.head==T))/\Nx w w':=by
 have x0:=he.head
 clear he
 go_enter Tryz.func68,Tryz.ntmps68
 go_wp2
 go_quiet (fail)
 go_wp2
 go_ret
 exact⟨rfl,Qt _ _⟩
theorem fitStart_any (b bm e:Nat)(x:Eg)(T:Int)(w:World)(he:EB w b e x)(hm:w.cell? ⟨bm,1,none⟩=some (.int .i64 T)) :
  Calls Tryz.prog 69 #[.pointer (some ⟨b,0,none⟩),.pointer (some ⟨bm,0,none⟩)] w λe w'=>e=.returned (.bool (x.tail==T))/\Nx w w':=by
 have x0:=he.tail
 clear he
 go_enter Tryz.func69,Tryz.ntmps69
 go_wp2
 go_quiet (fail)
 go_wp2
 go_ret
 exact⟨rfl,Qt _ _⟩
theorem pickEnd_any (B:Nat)(bw bm:Nat)(v:Value)(es:List Eg)(eb:Nat->Nat)(l:List Nat)(T:Int)(w:World)(hv:w.cell? ⟨bw,1,none⟩=some v)(h0:Zk B w v (l.map eb))(hlen:l.length<=4000)(he:∀e∈l,EB w (eb e) e (eat es e))(hm:w.cell? ⟨bm,0,none⟩=some (.int .i64 T)) :
  Calls Tryz.prog 67 #[.pointer (some ⟨bw,0,none⟩),.func (.func 68) #[] #[.pointer (some ⟨bm,0,none⟩)]] w λe w'=>(∃u,e=.returned u/\Q6 w.heap.size w' u (Qd (l.filter (λe=>decide ((eat es e).head=T)))))/\Nx w w':=by
 obtain⟨ii,hi,hz0,hz1,hz2⟩:=info_parts Xm
 have HE:=mh he
 have HM:=mh hm
 have HP:=mh h0
 obtain⟨a,cap,rfl,jm,jk⟩:=h0
 rw[List.length_map] at hv
 clear jm jk he hm
 simp only[List.length_map] at HP ⊢
 generalize hln:l.length=n at *
 have HLN:Hid (l.length=n):=hln
 clear hln
 go_enter Tryz.func67,Tryz.ntmps67
 go_wp2
 go_loopw [5,13] (λu i wr=>∃k:Nat,k<=n/\i=.int .i64 k/\Hid (Q6 w.heap.size wr u (Qd ((l.take k).filter (λe=>decide ((eat es e).head=T)))))/\Hid (Nx w wr)) (λ_ i _=>n-(intOf i).toNat)
 case atStart=>exact⟨0,Nat.zero_le _,rfl,⟨rfl,Or.inl ⟨rfl,rfl⟩⟩,Below.refl _ _⟩
 obtain⟨k,hkm,rfl,HO,HN⟩:=hrel
 by_cases hlt:k<n
 case neg=>
  have ek:n=k:=by omega
  subst ek
  have HF:Hid (Q6 w.heap.size wr u5 (Qd (l.filter (λe=>decide ((eat es e).head=T))))):=by have:=HO.out;rw[<-HLN.out,List.take_length] at this;exact this
  clear hlt hkm HO
  go_wp2
  go_ret
  exact⟨⟨_,rfl,HF.out⟩,HN.out⟩
 have hlt':(k:Int)<n:=by omega
 have HKL:Hid (k<l.length):=by unfold Hid;rw[HLN.out];exact hlt
 obtain⟨b,off,c,hae,hb,hc⟩:=HP.out.at (by have:=HKL.out;omega)
 simp only[Value.slice.injEq] at hae
 obtain⟨rfl,jl,rfl⟩:=hae
 have c0:=Q3 HN.out (hc k HKL.out)
 have HEX:Hid (EB w (eb (l.getD k 0)) (l.getD k 0) (eat es (l.getD k 0))):=HE.out _ (by rw[show l.getD k 0=l[k]'HKL.out by simp[List.getD_eq_getElem?_getD,HKL.out]];exact List.getElem_mem _)
 have HYES:Hid ((eat es (l.getD k 0)).head=T->Qd ((l.take (k+1)).filter (λe=>decide ((eat es e).head=T)))=Qd ((l.take k).filter (λe=>decide ((eat es e).head=T)))++[((l.getD k 0:Nat):Int)]):=λh=>by rw[Z4 HKL.out,List.filter_append,<-nums_snoc];simp only[List.filter_cons,h,decide_true,if_true,List.filter_nil]
 have HNO:Hid ((eat es (l.getD k 0)).head≠T->(l.take (k+1)).filter (λe=>decide ((eat es e).head=T))=(l.take k).filter (λe=>decide ((eat es e).head=T))):=λh=>by rw[Z4 HKL.out,List.filter_append];simp only[List.filter_cons,decide_eq_false h,Bool.false_eq_true,if_false,List.filter_nil,List.append_nil]
 have HLK:Hid ((Qd ((l.take k).filter (λe=>decide ((eat es e).head=T)))).length<=4000):=by
  unfold Hid
  rw[Qw]
  have h1:=List.length_filter_le (λe=>decide ((eat es e).head=T)) (l.take k)
  have h2:(l.take k).length<=l.length:=by rw[List.length_take];omega
  have:=HLN.out
  omega
 clear hc jl
 generalize l.getD k 0=x at *
 go_wp2_with fail
 refine(fitEnd_any (eb x) bm x (eat es x) T _ (HEX.out.next HN.out) (Q3 HN.out HM.out)).mono ?_
 rintro e w4 ⟨rfl,hx4⟩
 have HX4:Hid (Nx wr w4):=hx4
 clear hx4
 by_cases hf:(eat es x).head=T
 case neg=>
  have g1:((eat es x).head==T)=false:=by simpa using hf
  rw[g1]
  have HE2:=HNO.out hf
  have HE3:=mh HE2
  clear hf HE2 g1
  go_wp2
  go_roundw
  case rel=>exact⟨k+1,by omega,by go_num,by unfold Hid;rw[HE3.out];exact HO.out.next HX4.out,HN.out.trans HX4.out⟩
  case measure=>simp[intOf];omega
 have g1:((eat es x).head==T)=true:=by simpa using hf
 rw[g1]
 have HES:=mh (HYES.out hf)
 have c1:=(HEX.out.next (HN.out.trans HX4.out)).num
 have HO4:=mh (HO.out.next HX4.out)
 have HN4:Hid (Nx w w4):=HN.out.trans HX4.out
 clear hf g1 HO HN
 generalize Qd ((l.take k).filter (λe=>decide ((eat es e).head=T)))=zs at *
 obtain⟨ua,uc,hue⟩:=HO4.out.slice
 subst hue
 generalize hzl:zs.length=zl at *
 have HZL:Hid (zs.length=zl):=hzl
 have hzl4:zl<=4000:=HLK.out
 have HS4:=mh HN4.out.size
 clear hzl
 go_wp2_with (at_builtin;refine wpList_append_own_at _ rfl _ _ 23 rfl w.heap.size 2 ii (.int .i64 0) 1 8 Tryz.underlying23 hi hz0 hz1 hz2 rfl (by decide) _ _ _ rfl (World.ownsRow.alloc HO4.out _) ⟨w4.heap.size,0,none⟩ 1 1 [.int .i64 (x:Int)] rfl rfl ?f1 ?f2 ?f3 ?f4 ?f5 ?_)
 case f1=>intro j u hj;exact Qx _ _ _ _ rfl j u hj
 case f2=>intro u hu;simp at hu;subst hu;rfl
 case f3=>rw[HZL.out];unfold maxLen;omega
 case f4=>rw[HZL.out];omega
 case f5=>rw[Q1];have:=HS4.out;omega
 intro v7 w7 hown hgrow _ hat7
 have HO7:Hid (Q6 w.heap.size w7 v7 (Qd ((l.take (k+1)).filter (λe=>decide ((eat es e).head=T))))):=by unfold Hid;rw[HES.out];exact Q6.snoc hown
 have HN7:Hid (Nx w w7):=Below.grown (HN4.out.alloc _) hgrow (by rw[Q1];have:=HS4.out;omega) (λg hg=>(Qf HO4.out g hg).1)
 clear hown hgrow hat7 c0 c1
 go_wp2
 go_roundw
 case rel=>exact⟨k+1,by omega,by go_num,HO7,HN7⟩
 case measure=>simp[intOf];omega
theorem pickStart_any (B:Nat)(bw bm:Nat)(v:Value)(es:List Eg)(eb:Nat->Nat)(l:List Nat)(T:Int)(w:World)(hv:w.cell? ⟨bw,1,none⟩=some v)(h0:Zk B w v (l.map eb))(hlen:l.length<=4000)(he:∀e∈l,EB w (eb e) e (eat es e))(hm:w.cell? ⟨bm,1,none⟩=some (.int .i64 T)) :
  Calls Tryz.prog 67 #[.pointer (some ⟨bw,0,none⟩),.func (.func 69) #[] #[.pointer (some ⟨bm,0,none⟩)]] w λe w'=>(∃u,e=.returned u/\Q6 w.heap.size w' u (Qd (l.filter (λe=>decide ((eat es e).tail=T)))))/\Nx w w':=by
 obtain⟨ii,hi,hz0,hz1,hz2⟩:=info_parts Xm
 have HE:=mh he
 have HM:=mh hm
 have HP:=mh h0
 obtain⟨a,cap,rfl,jm,jk⟩:=h0
 rw[List.length_map] at hv
 clear jm jk he hm
 simp only[List.length_map] at HP ⊢
 generalize hln:l.length=n at *
 have HLN:Hid (l.length=n):=hln
 clear hln
 go_enter Tryz.func67,Tryz.ntmps67
 go_wp2
 go_loopw [5,13] (λu i wr=>∃k:Nat,k<=n/\i=.int .i64 k/\Hid (Q6 w.heap.size wr u (Qd ((l.take k).filter (λe=>decide ((eat es e).tail=T)))))/\Hid (Nx w wr)) (λ_ i _=>n-(intOf i).toNat)
 case atStart=>exact⟨0,Nat.zero_le _,rfl,⟨rfl,Or.inl ⟨rfl,rfl⟩⟩,Below.refl _ _⟩
 obtain⟨k,hkm,rfl,HO,HN⟩:=hrel
 by_cases hlt:k<n
 case neg=>
  have ek:n=k:=by omega
  subst ek
  have HF:Hid (Q6 w.heap.size wr u5 (Qd (l.filter (λe=>decide ((eat es e).tail=T))))):=by have:=HO.out;rw[<-HLN.out,List.take_length] at this;exact this
  clear hlt hkm HO
  go_wp2
  go_ret
  exact⟨⟨_,rfl,HF.out⟩,HN.out⟩
 have hlt':(k:Int)<n:=by omega
 have HKL:Hid (k<l.length):=by unfold Hid;rw[HLN.out];exact hlt
 obtain⟨b,off,c,hae,hb,hc⟩:=HP.out.at (by have:=HKL.out;omega)
 simp only[Value.slice.injEq] at hae
 obtain⟨rfl,jl,rfl⟩:=hae
 have c0:=Q3 HN.out (hc k HKL.out)
 have HEX:Hid (EB w (eb (l.getD k 0)) (l.getD k 0) (eat es (l.getD k 0))):=HE.out _ (by rw[show l.getD k 0=l[k]'HKL.out by simp[List.getD_eq_getElem?_getD,HKL.out]];exact List.getElem_mem _)
 have HYES:Hid ((eat es (l.getD k 0)).tail=T->Qd ((l.take (k+1)).filter (λe=>decide ((eat es e).tail=T)))=Qd ((l.take k).filter (λe=>decide ((eat es e).tail=T)))++[((l.getD k 0:Nat):Int)]):=λh=>by rw[Z4 HKL.out,List.filter_append,<-nums_snoc];simp only[List.filter_cons,h,decide_true,if_true,List.filter_nil]
 have HNO:Hid ((eat es (l.getD k 0)).tail≠T->(l.take (k+1)).filter (λe=>decide ((eat es e).tail=T))=(l.take k).filter (λe=>decide ((eat es e).tail=T))):=λh=>by rw[Z4 HKL.out,List.filter_append];simp only[List.filter_cons,decide_eq_false h,Bool.false_eq_true,if_false,List.filter_nil,List.append_nil]
 have HLK:Hid ((Qd ((l.take k).filter (λe=>decide ((eat es e).tail=T)))).length<=4000):=by
  unfold Hid
  rw[Qw]
  have h1:=List.length_filter_le (λe=>decide ((eat es e).tail=T)) (l.take k)
  have h2:(l.take k).length<=l.length:=by rw[List.length_take];omega
  have:=HLN.out
  omega
 clear hc jl
 generalize l.getD k 0=x at *
 go_wp2_with fail
 refine(fitStart_any (eb x) bm x (eat es x) T _ (HEX.out.next HN.out) (Q3 HN.out HM.out)).mono ?_
 rintro e w4 ⟨rfl,hx4⟩
 have HX4:Hid (Nx wr w4):=hx4
 clear hx4
 by_cases hf:(eat es x).tail=T
 case neg=>
  have g1:((eat es x).tail==T)=false:=by simpa using hf
  rw[g1]
  have HE2:=HNO.out hf
  have HE3:=mh HE2
  clear hf HE2 g1
  go_wp2
  go_roundw
  case rel=>exact⟨k+1,by omega,by go_num,by unfold Hid;rw[HE3.out];exact HO.out.next HX4.out,HN.out.trans HX4.out⟩
  case measure=>simp[intOf];omega
 have g1:((eat es x).tail==T)=true:=by simpa using hf
 rw[g1]
 have HES:=mh (HYES.out hf)
 have c1:=(HEX.out.next (HN.out.trans HX4.out)).num
 have HO4:=mh (HO.out.next HX4.out)
 have HN4:Hid (Nx w w4):=HN.out.trans HX4.out
 clear hf g1 HO HN
 generalize Qd ((l.take k).filter (λe=>decide ((eat es e).tail=T)))=zs at *
 obtain⟨ua,uc,hue⟩:=HO4.out.slice
 subst hue
 generalize hzl:zs.length=zl at *
 have HZL:Hid (zs.length=zl):=hzl
 have hzl4:zl<=4000:=HLK.out
 have HS4:=mh HN4.out.size
 clear hzl
 go_wp2_with (at_builtin;refine wpList_append_own_at _ rfl _ _ 23 rfl w.heap.size 2 ii (.int .i64 0) 1 8 Tryz.underlying23 hi hz0 hz1 hz2 rfl (by decide) _ _ _ rfl (World.ownsRow.alloc HO4.out _) ⟨w4.heap.size,0,none⟩ 1 1 [.int .i64 (x:Int)] rfl rfl ?f1 ?f2 ?f3 ?f4 ?f5 ?_)
 case f1=>intro j u hj;exact Qx _ _ _ _ rfl j u hj
 case f2=>intro u hu;simp at hu;subst hu;rfl
 case f3=>rw[HZL.out];unfold maxLen;omega
 case f4=>rw[HZL.out];omega
 case f5=>rw[Q1];have:=HS4.out;omega
 intro v7 w7 hown hgrow _ hat7
 have HO7:Hid (Q6 w.heap.size w7 v7 (Qd ((l.take (k+1)).filter (λe=>decide ((eat es e).tail=T))))):=by unfold Hid;rw[HES.out];exact Q6.snoc hown
 have HN7:Hid (Nx w w7):=Below.grown (HN4.out.alloc _) hgrow (by rw[Q1];have:=HS4.out;omega) (λg hg=>(Qf HO4.out g hg).1)
 clear hown hgrow hat7 c0 c1
 go_wp2
 go_roundw
 case rel=>exact⟨k+1,by omega,by go_num,HO7,HN7⟩
 case measure=>simp[intOf];omega
end Go.Proofs.YthhbdfiopjclcaaGreatDoor
