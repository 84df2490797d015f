import Derived.Test.YtdpfdkihbgmapaaKH
import Derived.Test.YtdpfdkihbgmapaaKQ
import Derived.OwnWalkIn
import Derived.TacticsInMore
import Derived.Maps.Own
namespace Go.Proofs.Ytdpfdkihbgmapaa
open Go.RowKit Go.Sort
set_option linter.unusedVariables false
set_option maxRecDepth 1000000
set_option maxHeartbeats 16000000
theorem tq {F:Fence}{n:Nat}{P:Program}{ops:Array Oper}{Q:Exit->Act->World->Prop}{md:Region.Mode}{S:World->Prop}{c i fuel:Nat}{oi:Oper}{v:Value}{listed:Array Bool}{a:Act}{w:World}(h:Cl md ops (listed.setIfInBounds i true)->wpAnyS F n P md ops Q S c fuel (listed.setIfInBounds i true) (a.put oi.dst v) w)(hi:ops[i]?=some oi:=by rfl)(hw:Waits md ops c:=by assumption)(hcl:Cl md ops listed:=by assumption)(hic:i<c:=by decide)(hd:NoDefer F ops:=by first|exact noDefer_none rfl|exact noDefer_round (by kernel_rfl))(hs:Region.noSelect ops=true:=by kernel_rfl)(hf:Region.free md ops listed i=true:=by kernel_rfl)(hr:(Region.ready md ops listed).contains i=true:=by kernel_rfl)(hQ:∀c a w,Q (.panic c) (a.put oi.dst v) w->Q (.panic c) a w:=by exact λ_ _ _ h=>h)(hS:S w:=by first|exact HSS.out|exact HS0.out)(hy:YF P ops S oi v a:=by refine⟨Or.inl ⟨by kernel_rfl,?_⟩,λ_=>rfl⟩;intro q hq;(repeat' (obtain⟨_,hq⟩:=hq));go_simp):wpAnyS F n P md ops Q S c (fuel+1) listed a w:=
 anyS_take hw hic hcl hd hi hs hf hr hQ hy hS h
structure SRs (br C:Nat)(w1 w:World)(S:Rs):Prop where
 box:∃vr vd,Blk w br #[vr,vd]/\OwnR C C w vr S.rules/\OwnD C w vd S.drops
 on:Only (some br) w1 w
theorem SRs.next {br C:Nat}{w1 w w':World}{S:Rs}(h:SRs br C w1 w S)(k:Nx w w'):SRs br C w1 w' S:=by
 obtain⟨vr,vd,h1,h2,h3⟩:=h.box
 exact⟨⟨vr,vd,h1.next k,h2.next k,h3.next k⟩,h.on.nx k⟩
theorem OwnR.store {C D:Nat}{w:World}{v:Value}{xs:List Ru}(h:OwnR C D w v xs){g:Nat}(hg:g<C)(hg':g<D)(o:Nat)(u:Value):OwnR C D (w.setCell ⟨g,o,none⟩ u) v xs:=by
 obtain⟨vs,h1,h2,h3⟩:=h
 exact⟨vs,h1,own_store h2 hg o u,λi hi=>own_store (h3 i hi) hg' o u⟩
theorem row_base {C C' ty sz n:Nat}{w:World}{v:Value}{xs:List Value}(h:w.ownsRow C ty sz v n xs)(hC:C'<=C):w.ownsRow C' ty sz v n xs:=by
 obtain⟨h1,h2⟩:=h
 refine⟨h1,?_⟩
 rcases h2 with h2|⟨g,cap,cur,hv,hg,r⟩
 ·exact Or.inl h2
 ·exact Or.inr ⟨g,cap,cur,hv,by omega,r⟩
theorem OwnR.base {C D C' D':Nat}{w:World}{v:Value}{xs:List Ru}(h:OwnR C D w v xs)(hC:C'<=C)(hD:D'<=D):OwnR C' D' w v xs:=by
 obtain⟨vs,h1,h2,h3⟩:=h
 exact⟨vs,h1,row_base h2 hC,λi hi=>(h3 i hi).base hD⟩
theorem SRs.drop {br C:Nat}{w1 w w7:World}{S:Rs}{vr vd v7:Value}{x:Dp}{o:Obj}(hbox:Blk w br #[vr,vd])(hr:OwnR C C w vr S.rules)(hd:OwnD C w vd S.drops)(hon:Only (some br) w1 w)(hC:br<C)(hw:w1.heap.size<=C)
  (hg:(w.alloc o).grownBy w7 vd.ownBlock) (hown:w7.ownsRow C 118 2 v7 (S.drops.length+1) (dcells S.drops++[.int .i64 x.rel,.int .i64 x.reason])):SRs br C w1 (w7.setCell ⟨br,1,none⟩ v7) ⟨S.rules,S.drops++[x]⟩:=by
 have hd':∀g,vd.ownBlock=some g->C<=g:=λg e=>(own_lt hd g e).1
 obtain⟨vs,r1,r2,r3⟩:=hr
 refine⟨⟨vr,v7,?_,⟨vs,r1,own_store (World.ownsRow.kept (World.ownsRow.alloc r2 o) hg (own_ne r2 hd (by decide))) hC 1 _,λi hi=>own_store (World.ownsRow.kept (World.ownsRow.alloc (r3 i hi) o) hg (own_ne (r3 i hi) hd (by decide))) hC 1 _⟩,own_store (OwnD.snoc hown) hC 1 _⟩,Only.app hon hg (λg e=>Nat.le_trans hw (hd' g e)) _⟩
 exact((hbox.alloc o).grown hg (λe=>by have:=hd' br e.symm;omega)).set 1 v7
theorem SRs.rule {br C:Nat}{w1 w w7:World}{S:Rs}{vr vd v7 u:Value}{x:Ru}{o:Obj}{vs:List Value}(hbox:Blk w br #[vr,vd])(r1:vs.length=S.rules.length)(r2:w.ownsRow C 70 3 vr S.rules.length (rcells S.rules vs))(r3:∀i,i<S.rules.length->OwnI C w (vat vs i) (ruat S.rules i).seq)(hd:OwnD C w vd S.drops)(hon:Only (some br) w1 w)(hC:br<C)(hw:w1.heap.size<=C)
  (hu:OwnI C w u x.seq) (hg:(w.alloc o).grownBy w7 vr.ownBlock) (hown:w7.ownsRow C 70 3 v7 (S.rules.length+1) (rcells S.rules vs++[.int .i64 x.rel,.bool x.only,u])):SRs br C w1 (w7.setCell ⟨br,0,none⟩ v7) ⟨S.rules++[x],S.drops⟩:=by
 have hd':∀g,vr.ownBlock=some g->C<=g:=λg e=>(own_lt r2 g e).1
 refine⟨⟨v7,vd,?_,(OwnR.snoc r1 r2 r3 hu o hg hown).store hC hC 0 _,own_store (World.ownsRow.kept (World.ownsRow.alloc hd o) hg (own_ne hd r2 (by decide))) hC 0 _⟩,Only.app hon hg (λg e=>Nat.le_trans hw (hd' g e)) _⟩
 exact((hbox.alloc o).grown hg (λe=>by have:=hd' br e.symm;omega)).set 0 v7
def rz (b:Bool):Int:=if b then 3 else 0
theorem cellX {w w':World}{r:Option Nat}{b o:Nat}{v:Value}(h:w.grownBy w' r)(hc:w.cell? ⟨b,o,none⟩=some v)(hn:some b≠r):w'.cell? ⟨b,o,none⟩=some v:=by
 rw[World.cell?_of_block (h.block b (cell_lt hc) hn)]
 exact hc
theorem cellS {w:World}{b o g i:Nat}{v u:Value}(hn:b≠g)(hc:w.cell? ⟨b,o,none⟩=some v):(w.setCell ⟨g,i,none⟩ u).cell? ⟨b,o,none⟩=some v:=by
 rw[World.cell?_of_block (Below.heap_setCell _ _ _ _ hn)]
 exact hc
theorem reason_none {rules:List Ru}{only:Bool}{ch:List (List Nat)}(h:ch.length=0):reason rules only ch=1:=by unfold reason;rw[if_pos h]
theorem reason_many {rules:List Ru}{only:Bool}{ch:List (List Nat)}(h:1<ch.length):reason rules only ch=2:=by unfold reason;rw[if_neg (by omega),if_pos h]
theorem reason_one {rules:List Ru}{only:Bool}{ch:List (List Nat)}(h:ch.length=1):reason rules only ch=if rpt rules only (nums (lsat ch 0)) then 3 else 0:=by unfold reason;rw[if_neg (by omega),if_neg (by omega)]
theorem resStep_drop {S:Rs}{r:Rl}{ch:List (List Nat)}{z:Int}(h:reason S.rules r.only ch=z)(hz:z≠0):resStep S r ch=⟨S.rules,S.drops++[⟨r.id,z⟩]⟩:=by unfold resStep;rw[h,if_neg hz]
theorem resStep_rule {S:Rs}{r:Rl}{ch:List (List Nat)}(h:reason S.rules r.only ch=0):resStep S r ch=⟨S.rules++[⟨r.id,r.only,nums (lsat ch 0)⟩],S.drops⟩:=by unfold resStep;rw[if_pos h]
def noRpt (rules:List Ru)(only:Bool)(seq:List Int)(k:Nat):Bool:=(rules.take k).any λu=>u.only==only&&decide (u.seq=seq)
theorem noRpt_succ {rules:List Ru}{only:Bool}{seq:List Int}{k:Nat}(hk:k<rules.length):noRpt rules only seq (k+1)=(noRpt rules only seq k||((ruat rules k).only==only&&decide ((ruat rules k).seq=seq))):=by
 unfold noRpt
 rw[List.take_succ_eq_append_getElem hk,List.any_append,ruat_eq hk]
 simp
theorem noRpt_all (rules:List Ru)(only:Bool)(seq:List Int):noRpt rules only seq rules.length=rpt rules only seq:=by
 unfold noRpt rpt
 rw[List.take_length]
def AllIn (N:Nt)(R:Rd):Prop:=∀k,k<N.rels.length->RelIn N R (rat N.rels k)
def chOf (N:Nt)(R:Rd):Rl->List (List Nat):=λr=>chainsR N R.nodes R.edges r
theorem l2Resolve_any (B0 B:Nat)(n0 n1 n2 n3:Value)(N:Nt)(v0 v1 v2 v3:Value)(R:Rd)(w:World)(hN:HNet B0 w n0 n1 n2 n3 N)(h0:HRoad B w v0 v1 v2 v3 R)(hm:R.edges.length<=4000)(hR:AllIn N R)(hrl:N.rels.length<=1000) :
  Calls Try.prog 48 #[.agg #[n0,n1,n2,n3,.int .i64 N.uturn],.agg #[v0,v1,v2,v3]] w λe w'=>(∃vr vd,e=.returned (.agg #[vr,vd])/\OwnR w.heap.size w.heap.size w' vr (resTo (chOf N R) N.rels N.rels.length).rules/\OwnD w.heap.size w' vd (resTo (chOf N R) N.rels N.rels.length).drops)/\Nx w w':=by
 obtain⟨iR,hiR,hzR0,hzR1,hzR2⟩:=info_parts infoRule
 obtain⟨iD,hiD,hzD0,hzD1,hzD2⟩:=info_parts infoDrop
 have HNET:Hid (HNet B0 w n0 n1 n2 n3 N):=hN
 have HROAD:Hid (HRoad B w v0 v1 v2 v3 R):=h0
 have HR:Hid (AllIn N R):=hR
 clear hN h0 hR
 obtain⟨a0,q0,e0,jm,jk⟩:=HNET.out.1
 clear jm jk
 obtain⟨a1,q1,e1,jm,jk⟩:=HNET.out.2.1
 clear jm jk
 obtain⟨a2,q2,e2,jm,jk⟩:=HNET.out.2.2.1
 clear jm jk
 obtain⟨a3,q3,e3,jm,jk⟩:=HNET.out.2.2.2
 clear jm jk
 generalize N.nodes.length=l0 at e0
 generalize N.ways.length=l1 at e1
 generalize N.turns.length=l3 at e3
 obtain⟨a4,q4,e4,jm,jk⟩:=HROAD.out.1
 clear jm jk
 obtain⟨a5,q5,e5,jm,jk⟩:=HROAD.out.2.1
 clear jm jk
 obtain⟨a6,q6,e6,jm,jk⟩:=HROAD.out.2.2.1
 clear jm jk
 obtain⟨a7,q7,e7,jm,jk⟩:=HROAD.out.2.2.2
 clear jm jk
 generalize R.nodes.length=l4 at e4
 generalize R.edges.length=l5 at e5
 generalize R.first.length=l6 at e6
 generalize R.out.length=l7 at e7
 subst e0 e1 e2 e3 e4 e5 e6 e7
 generalize hnl:N.rels.length=l2 at *
 have HNL:Hid (N.rels.length=l2):=hnl
 clear hnl
 generalize hW0:((w.alloc (.cells #[.slice a0 l0 q0,.slice a1 l1 q1,.slice a2 l2 q2,.slice a3 l3 q3,.int .i64 N.uturn] 79)).alloc (.cells #[.slice a4 l4 q4,.slice a5 l5 q5,.slice a6 l6 q6,.slice a7 l7 q7] 100)).alloc (.cells #[.slice none 0 0,.slice none 0 0] 73)=w0
 have HX0:Hid (Nx w w0):=by unfold Hid;rw[<-hW0];exact(box2 _ _ _).alloc _
 have BN:Hid (Blk w0 w.heap.size #[.slice a0 l0 q0,.slice a1 l1 q1,.slice a2 l2 q2,.slice a3 l3 q3,.int .i64 N.uturn]):=by unfold Hid;rw[<-hW0];exact((Blk.new w _ _ _ rfl).alloc _).alloc _
 have BR:Hid (Blk w0 (w.heap.size+1) #[.slice a4 l4 q4,.slice a5 l5 q5,.slice a6 l6 q6,.slice a7 l7 q7]):=by unfold Hid;rw[<-hW0];exact(Blk.new _ _ _ _ (by rw[size_alloc'])).alloc _
 have BO:Hid (Blk w0 (w.heap.size+2) #[.slice none 0 0,.slice none 0 0]):=by unfold Hid;rw[<-hW0];exact Blk.new _ _ _ _ (by rw[size_alloc',size_alloc'])
 have HZ0:Hid (w0.heap.size=w.heap.size+3):=by unfold Hid;rw[<-hW0,size_alloc',size_alloc',size_alloc']
 go_enter Try.func48,Try.ntmps48
 go_upto_region 1 with fail
 clear hW0
 go_upto_region 2 with fail
 generalize hW1:w0.alloc (.cells #[.slice none 0 0,.slice none 0 0] 73)=w1
 have HX01:Hid (Nx w0 w1):=by unfold Hid;rw[<-hW1];exact box1 _ _
 have HB1:Hid (Blk w1 w0.heap.size #[.slice none 0 0,.slice none 0 0]):=by unfold Hid;rw[<-hW1];exact Blk.new _ _ _ _ rfl
 have HZ1:Hid (w1.heap.size=w.heap.size+4):=by unfold Hid;rw[<-hW1,size_alloc',HZ0.out]
 have HS1:Hid (SRs w0.heap.size w1.heap.size w1 w1 (resTo (chOf N R) N.rels 0)):=⟨⟨_,_,HB1.out,⟨[],rfl,⟨rfl,.inl ⟨rfl,rfl⟩⟩,λi hi=>absurd hi (Nat.not_lt_zero _)⟩,⟨rfl,.inl ⟨rfl,rfl⟩⟩⟩,Only.refl _ _⟩
 clear hW1
 go_wp2
 go_loopw [6] (λi wr=>∃k:Nat,k<=l2/\i=.int .i64 k/\Hid (SRs w0.heap.size w1.heap.size w1 wr (resTo (chOf N R) N.rels k))) (λi _=>l2-(intOf i).toNat)
 case atStart=>exact⟨0,Nat.zero_le _,rfl,HS1⟩
 clear HS1 HB1
 obtain⟨k,hkm,rfl,HS⟩:=hrel
 have HBW:Hid (Below w.heap.size w wr):=Below.trans (HX0.out.trans HX01.out) (HS.out.on.below (by intro g hg;cases hg;have:=HZ0.out;omega) (by have:=HZ1.out;omega))
 have BNr:=HS.out.on.blk (BN.out.next HX01.out) (by intro e;have:=Option.some.inj e;have:=HZ0.out;omega)
 have kn2:=BNr.cell (i:=2) rfl
 by_cases hlt:k<l2
 case neg=>
  have ek:l2=k:=by omega
  subst ek
  obtain⟨vr,vd,hbox,hr,hd⟩:=HS.out.box
  obtain⟨vs,jv,hrow,jw⟩:=hr
  obtain⟨ar,cr,hvr⟩:=row_slice hrow
  obtain⟨ad,cd,hvd⟩:=row_slice hd
  have HRR:Hid (OwnR w1.heap.size w1.heap.size wr vr (resTo (chOf N R) N.rels l2).rules):=⟨vs,jv,hrow,jw⟩
  have HDD:Hid (OwnD w1.heap.size wr vd (resTo (chOf N R) N.rels l2).drops):=hd
  generalize (resTo (chOf N R) N.rels l2).rules.length=nr at hvr
  generalize (resTo (chOf N R) N.rels l2).drops.length=nd at hvd
  subst hvr hvd
  have BOr:=HS.out.on.blk (BO.out.next HX01.out) (by intro e;have:=Option.some.inj e;have:=HZ0.out;omega)
  have x0:=hbox.cell (i:=0) rfl
  have x1:=hbox.cell (i:=1) rfl
  have y0:wr.cell? ⟨w.heap.size+1+1,0,none⟩=some (.slice none 0 0):=BOr.cell (i:=0) rfl
  have y1:wr.cell? ⟨w.heap.size+1+1,1,none⟩=some (.slice none 0 0):=BOr.cell (i:=1) rfl
  have z0:wr.frozen? ⟨w.heap.size+1+1,0,none⟩=false:=BOr.frozen 0
  have z1:wr.frozen? ⟨w.heap.size+1+1,1,none⟩=false:=BOr.frozen 1
  have BR':=(BOr.set 0 (.slice ar nr cr)).set 1 (.slice ad nd cd)
  have p0:_=some (Value.slice ar nr cr):=BR'.cell (i:=0) rfl
  have p1:_=some (Value.slice ad nd cd):=BR'.cell (i:=1) rfl
  clear hbox hrow hd jv jw hlt hkm BR'
  go_wp2
  refine bodyPost_ret (v:=.agg #[.slice ar nr cr,.slice ad nd cd]) (by simp[results,Try.results48,go_sem,p0,p1]) rfl ?_
  have h1:w.heap.size+1+1<w1.heap.size:=by have:=HZ1.out;omega
  have h2:w.heap.size<=w1.heap.size:=by omega
  have h3:w.heap.size<=w.heap.size+1+1:=by omega
  refine⟨⟨_,_,rfl,((HRR.out.store h1 h1 _ _).store h1 h1 _ _).base h2 h2,row_base (own_store (own_store HDD.out h1 _ _) h1 _ _) h2⟩,Below.setCell (Below.setCell HBW.out h3 _) h3 _⟩
 have hlt':(k:Int)<l2:=by omega
 have HKR:Hid (k<N.rels.length):=by unfold Hid;rw[HNL.out];exact hlt
 have HRI:=HR.out k HKR.out
 obtain⟨vr,vd,hbx0,hr0,hd0⟩:=HS.out.box
 have HBX0:Hid (Blk wr w0.heap.size #[vr,vd]):=hbx0
 have HR0:Hid (OwnR w1.heap.size w1.heap.size wr vr (resTo (chOf N R) N.rels k).rules):=hr0
 have HD0:Hid (OwnD w1.heap.size wr vd (resTo (chOf N R) N.rels k).drops):=hd0
 have HVL:Hid (∀g,vr.ownBlock=some g->g<wr.heap.size):=by
  obtain⟨vs,_,hrow,_⟩:=hr0
  exact λg e=>(own_lt hrow g e).2
 clear hbx0 hr0 hd0
 have HSTEP:Hid (resTo (chOf N R) N.rels (k+1)=resStep (resTo (chOf N R) N.rels k) (rat N.rels k) (chainsR N R.nodes R.edges (rat N.rels k))):=rfl
 have HRL:=resTo_len (chOf N R) N.rels k
 obtain⟨ar,capr,er,jm,hkr⟩:=HNET.out.2.2.1
 simp only[Value.slice.injEq] at er
 obtain⟨rfl,jl,rfl⟩:=er
 obtain⟨br,obr,rfl,jB,hbr,hcr⟩:=hkr (by omega)
 obtain⟨vw,c0,c1,c2,c3,c4,c5,c6,hw⟩:=hcr k HKR.out
 clear jm jl jB hkr hcr
 generalize rat N.rels k=r at *
 obtain⟨aw,qw,ew,jm,jk⟩:=id hw
 clear jm jk
 generalize r.ways.length=lw at ew
 subst ew
 have HWI:Hid (HInts B0 w (.slice aw lw qw) r.ways):=hw
 have HRI2:Hid (RelIn N R r):=HRI
 have d0:=cell_next HBW.out hbr c0
 have d1:=cell_next HBW.out hbr c1
 have d2:=cell_next HBW.out hbr c2
 have d3:=cell_next HBW.out hbr c3
 have d4:=cell_next HBW.out hbr c4
 have d5:=cell_next HBW.out hbr c5
 have d6:=cell_next HBW.out hbr c6
 generalize hSk:resTo (chOf N R) N.rels k=Sk at *
 clear hSk
 have hr1:Sk.rules.length<=1000:=by omega
 have hr2:Sk.drops.length<=1000:=by omega
 clear c0 c1 c2 c3 c4 c5 c6 hw HRI HRL
 go_upto_region 6 with fail
 clear d0 d1 d2 d3 d4 d5 d6 kn2
 have HX5:Hid (Nx wr (wr.alloc (.cells #[.int .i64 r.id,.bool r.only,.int .i64 r.frm,.int .i64 r.to,.bool r.via,.int .i64 r.node,.slice aw lw qw] 103))):=box1 _ _
 have HZ5a:Hid ((wr.alloc (.cells #[.int .i64 r.id,.bool r.only,.int .i64 r.frm,.int .i64 r.to,.bool r.via,.int .i64 r.node,.slice aw lw qw] 103)).heap.size=wr.heap.size+1):=size_alloc' _ _
 have BL5:Hid (Blk (wr.alloc (.cells #[.int .i64 r.id,.bool r.only,.int .i64 r.frm,.int .i64 r.to,.bool r.via,.int .i64 r.node,.slice aw lw qw] 103)) wr.heap.size #[.int .i64 r.id,.bool r.only,.int .i64 r.frm,.int .i64 r.to,.bool r.via,.int .i64 r.node,.slice aw lw qw]):=Blk.new wr _ _ _ rfl
 generalize wr.alloc (.cells #[.int .i64 r.id,.bool r.only,.int .i64 r.frm,.int .i64 r.to,.bool r.via,.int .i64 r.node,.slice aw lw qw] 103)=w5 at *
 have HS5:Hid (SRs w0.heap.size w1.heap.size w1 w5 Sk):=HS.out.next HX5.out
 have HBW5:Hid (Below w.heap.size w w5):=Below.trans HBW.out (Below.mono HX5.out HBW.out.size)
 have BN5:=BNr.next HX5.out
 have BR5:=(HS.out.on.blk (BR.out.next HX01.out) (by intro e;have:=Option.some.inj e;have:=HZ0.out;omega)).next HX5.out
 have m0:=BN5.cell (i:=0) rfl
 have m1:=BN5.cell (i:=1) rfl
 have m2:=BN5.cell (i:=2) rfl
 have m3:=BN5.cell (i:=3) rfl
 have m4:=BN5.cell (i:=4) rfl
 have o0:=BR5.cell (i:=0) rfl
 have o1:=BR5.cell (i:=1) rfl
 have o2:=BR5.cell (i:=2) rfl
 have o3:=BR5.cell (i:=3) rfl
 have p0:=BL5.out.cell (i:=0) rfl
 have p1:=BL5.out.cell (i:=1) rfl
 have p2:=BL5.out.cell (i:=2) rfl
 have p3:=BL5.out.cell (i:=3) rfl
 have p4:=BL5.out.cell (i:=4) rfl
 have p5:=BL5.out.cell (i:=5) rfl
 have p6:=BL5.out.cell (i:=6) rfl
 go_wp2_with fail
 refine(l2Chains_any B0 B B0 _ _ _ _ N _ _ _ _ R r _ w5 (by exact HNET.out.next HBW5.out) (by exact HROAD.out.next HBW5.out) (by exact HWI.out.next HBW5.out) hm HRI2.out).mono ?_
 rintro e w6 ⟨⟨uc,rfl,hO⟩,hx6⟩
 have HX6:Hid (Nx w5 w6):=hx6
 have HS6:Hid (SRs w0.heap.size w1.heap.size w1 w6 Sk):=HS5.out.next hx6
 have BL6:Hid (Blk w6 wr.heap.size #[.int .i64 r.id,.bool r.only,.int .i64 r.frm,.int .i64 r.to,.bool r.via,.int .i64 r.node,.slice aw lw qw]):=BL5.out.next hx6
 have HC5:Hid (w1.heap.size<=w5.heap.size):=Nat.le_trans HS.out.on.size HX5.out.size
 have HOC5:Hid (∀g,uc.ownBlock=some g->w5.heap.size<=g):=hO.lt
 have HOC:Hid (OwnW w1.heap.size w6 uc ((chainsR N R.nodes R.edges r).map nums)):=hO.base HC5.out
 have HCB:Hid (w0.heap.size<w1.heap.size):=by have:=HZ0.out;have:=HZ1.out;unfold Hid;omega
 generalize hch:chainsR N R.nodes R.edges r=ch at *
 clear hch hO hx6 m0 m1 m2 m3 m4 o0 o1 o2 o3 p0 p1 p2 p3 p4 p5 p6
 obtain⟨ca,cc,hce⟩:=HOC.out.slice
 rw[List.length_map] at hce
 generalize hcl:ch.length=cl at *
 have HCL:Hid (ch.length=cl):=hcl
 subst hce
 clear hcl
 have HZ5:Hid (w5.heap.size=wr.heap.size+1):=HZ5a.out
 by_cases hc0:cl=0
 ·have f0:((cl:Int)==0)=true:=by simpa using hc0
  have f1:decide (1<(cl:Int))=false:=by simp;omega
  have f2:((cl:Int)==1)=false:=by simp;omega
  have HRE:Hid (reason Sk.rules r.only ch=1):=reason_none (by rw[HCL.out];exact hc0)
  clear hc0
  have HE:Hid (resStep Sk r ch=⟨Sk.rules,Sk.drops++[⟨r.id,1⟩]⟩):=resStep_drop HRE.out (by decide)
  obtain⟨vr,vd,hbox,hr,hd⟩:=HS6.out.box
  obtain⟨ad,cd,hvd⟩:=row_slice hd
  have HD:Hid (OwnD w1.heap.size w6 vd Sk.drops):=hd
  have HRW:Hid (OwnR w1.heap.size w1.heap.size w6 vr Sk.rules):=hr
  have HBX:Hid (Blk w6 w0.heap.size #[vr,vd]):=hbox
  generalize hnd:Sk.drops.length=nd at *
  have HND:Hid (Sk.drops.length=nd):=hnd
  subst hvd
  have x1:=hbox.cell (i:=1) rfl
  have kid:=BL6.out.cell (i:=0) rfl
  have HCW:Hid (w1.heap.size<=w6.heap.size):=HS6.out.on.size
  have HBL:Hid (w0.heap.size<w6.heap.size):=hbox.lt
  clear hr hd hbox hnd
  go_wp2_with (at_builtin;refine wpList_append_own_at _ rfl _ _ 71 rfl w1.heap.size 118 iD (.agg #[.int .i64 0,.int .i64 0]) 2 16 Try.underlying71 hiD hzD0 hzD1 hzD2 rfl (by decide) _ _ _ rfl (World.ownsRow.alloc HD.out _) ⟨w6.heap.size,0,none⟩ 1 1 [.int .i64 r.id,.int .i64 1] rfl rfl ?f1 ?f2 ?f3 ?f4 ?f5 ?_)
  case f1=>intro j u hj;exact new_cells _ _ _ _ rfl j u hj
  case f2=>intro u hu;simp at hu;rcases hu with rfl|rfl<;>rfl
  case f3=>rw[HND.out];unfold maxLen;omega
  case f4=>rw[HND.out];omega
  case f5=>rw[size_alloc'];have:=HCW.out;omega
  intro v7 w7 hown hgrow _ hat7
  have HS7:Hid (SRs w0.heap.size w1.heap.size w1 (w7.setCell ⟨w0.heap.size,1,none⟩ v7) (resTo (chOf N R) N.rels (k+1))):=by unfold Hid;rw[HSTEP.out,HE.out];exact SRs.drop (x:=⟨r.id,1⟩) HBX.out HRW.out HD.out HS6.out.on HCB.out (Nat.le_refl _) hgrow hown
  have BX7:=(HBX.out.alloc _).grown hgrow (λe=>by have:=(own_lt HD.out _ e.symm).1;have:=HCB.out;omega)
  have x7:=BX7.cell (i:=1) rfl
  have f7:=BX7.frozen 1
  obtain⟨a7',c7',hv7⟩:=row_slice hown
  subst hv7
  clear hown hgrow hat7 x1 kid BX7
  go_wp2
  go_roundw
  case rel=>exact⟨k+1,by omega,by go_num,HS7⟩
  case measure=>simp[intOf];omega
 by_cases hc1:1<cl
 ·have f0:((cl:Int)==0)=false:=by simpa using hc0
  have f1:decide (1<(cl:Int))=true:=by simp;omega
  have f2:((cl:Int)==1)=false:=by simp;omega
  have HRE:Hid (reason Sk.rules r.only ch=2):=reason_many (by rw[HCL.out];exact hc1)
  clear hc0 hc1
  have HE:Hid (resStep Sk r ch=⟨Sk.rules,Sk.drops++[⟨r.id,2⟩]⟩):=resStep_drop HRE.out (by decide)
  obtain⟨vr,vd,hbox,hr,hd⟩:=HS6.out.box
  obtain⟨ad,cd,hvd⟩:=row_slice hd
  have HD:Hid (OwnD w1.heap.size w6 vd Sk.drops):=hd
  have HRW:Hid (OwnR w1.heap.size w1.heap.size w6 vr Sk.rules):=hr
  have HBX:Hid (Blk w6 w0.heap.size #[vr,vd]):=hbox
  generalize hnd:Sk.drops.length=nd at *
  have HND:Hid (Sk.drops.length=nd):=hnd
  subst hvd
  have x1:=hbox.cell (i:=1) rfl
  have kid:=BL6.out.cell (i:=0) rfl
  have HCW:Hid (w1.heap.size<=w6.heap.size):=HS6.out.on.size
  have HBL:Hid (w0.heap.size<w6.heap.size):=hbox.lt
  clear hr hd hbox hnd
  go_wp2_with (at_builtin;refine wpList_append_own_at _ rfl _ _ 71 rfl w1.heap.size 118 iD (.agg #[.int .i64 0,.int .i64 0]) 2 16 Try.underlying71 hiD hzD0 hzD1 hzD2 rfl (by decide) _ _ _ rfl (World.ownsRow.alloc HD.out _) ⟨w6.heap.size,0,none⟩ 1 1 [.int .i64 r.id,.int .i64 2] rfl rfl ?f1 ?f2 ?f3 ?f4 ?f5 ?_)
  case f1=>intro j u hj;exact new_cells _ _ _ _ rfl j u hj
  case f2=>intro u hu;simp at hu;rcases hu with rfl|rfl<;>rfl
  case f3=>rw[HND.out];unfold maxLen;omega
  case f4=>rw[HND.out];omega
  case f5=>rw[size_alloc'];have:=HCW.out;omega
  intro v7 w7 hown hgrow _ hat7
  have HS7:Hid (SRs w0.heap.size w1.heap.size w1 (w7.setCell ⟨w0.heap.size,1,none⟩ v7) (resTo (chOf N R) N.rels (k+1))):=by unfold Hid;rw[HSTEP.out,HE.out];exact SRs.drop (x:=⟨r.id,2⟩) HBX.out HRW.out HD.out HS6.out.on HCB.out (Nat.le_refl _) hgrow hown
  have BX7:=(HBX.out.alloc _).grown hgrow (λe=>by have:=(own_lt HD.out _ e.symm).1;have:=HCB.out;omega)
  have x7:=BX7.cell (i:=1) rfl
  have f7:=BX7.frozen 1
  obtain⟨a7',c7',hv7⟩:=row_slice hown
  subst hv7
  clear hown hgrow hat7 x1 kid BX7
  go_wp2
  go_roundw
  case rel=>exact⟨k+1,by omega,by go_num,HS7⟩
  case measure=>simp[intOf];omega
 have hc2:cl=1:=by omega
 subst hc2
 clear hc0 hc1
 have HOC0:=HOC.out.at (i:=0) (by rw[List.length_map,HCL.out];omega)
 rw[wd_nums (by rw[HCL.out];omega)] at HOC0
 obtain⟨gc,u0,hca,hcg,hO0⟩:=HOC0
 subst hca
 have HREA:Hid (reason Sk.rules r.only ch=if rpt Sk.rules r.only (nums (lsat ch 0)) then 3 else 0):=reason_one HCL.out
 have HSTR:Hid (reason Sk.rules r.only ch=0->resStep Sk r ch=⟨Sk.rules++[⟨r.id,r.only,nums (lsat ch 0)⟩],Sk.drops⟩):=resStep_rule
 generalize nums (lsat ch 0)=seq at *
 have HO0:Hid (OwnI w1.heap.size w6 u0 seq):=hO0
 obtain⟨sa,scp,hu0⟩:=hO0.slice
 generalize seq.length=sn at hu0
 subst hu0
 have HRW:Hid (OwnR w1.heap.size w1.heap.size w6 vr Sk.rules):=(HR0.out.next HX5.out).next HX6.out
 have HDW:Hid (OwnD w1.heap.size w6 vd Sk.drops):=(HD0.out.next HX5.out).next HX6.out
 have HBX:Hid (Blk w6 w0.heap.size #[vr,vd]):=(HBX0.out.next HX5.out).next HX6.out
 have hr:=HRW.out
 have hd:=HDW.out
 obtain⟨vs,jv,hrow,jw⟩:=hr
 obtain⟨arr,crr,hvr⟩:=row_slice hrow
 obtain⟨add,cdd,hvd⟩:=row_slice hd
 generalize hnr:Sk.rules.length=nr at *
 have HNR:Hid (Sk.rules.length=nr):=hnr
 generalize Sk.drops.length=ndd at hvd
 subst hvr hvd
 have HSEPA:Hid ((∀g,(Value.slice arr nr crr).ownBlock=some g->g<wr.heap.size)/\wr.heap.size<gc/\w0.heap.size<wr.heap.size):=⟨HVL.out,by have:=HOC5.out gc rfl;have:=HZ5.out;omega,by have:=HS.out.on.size;have:=HCB.out;omega⟩
 clear hd jv jw hrow hO0 hnr
 have HCG:Hid (w6.cell? ⟨gc,0,none⟩=some (.slice sa sn scp)):=hcg
 clear hcg
 generalize wr.heap.size=bL at *
 go_wp2
 go_loopw [9,10] (λz j wr=>∃q:Nat,q<=nr/\j=.int .i64 q/\z=.int .i64 (rz (noRpt Sk.rules r.only seq q))/\Hid (Nx w6 wr)) (λ_ j _=>nr-(intOf j).toNat)
 case atStart=>exact⟨0,Nat.zero_le _,rfl,by simp[noRpt,rz],Below.refl _ _⟩
 obtain⟨q,hqm,rfl,rfl,HNQ⟩:=hrel
 have x0:=cellq HNQ.out (HBX.out.cell (i:=0) rfl)
 by_cases hq:q<nr
 case neg=>
  have eq:nr=q:=by omega
  subst eq
  have HALL:Hid (noRpt Sk.rules r.only seq nr=rpt Sk.rules r.only seq):=by unfold Hid;rw[<-HNR.out];exact noRpt_all _ _ _
  rw[HALL.out]
  have HSQ:Hid (SRs w0.heap.size w1.heap.size w1 wr (Sk)):=HS6.out.next HNQ.out
  have BLQ:Hid (Blk wr bL #[.int .i64 r.id,.bool r.only,.int .i64 r.frm,.int .i64 r.to,.bool r.via,.int .i64 r.node,.slice aw lw qw]):=BL6.out.next HNQ.out
  cases hrp:rpt Sk.rules r.only seq
  case true=>
   have HRE:Hid (reason Sk.rules r.only ch=3):=by unfold Hid;rw[HREA.out,hrp];rfl
   rw[show rz true=3 from rfl]
   clear hrp HRW HDW HBX
   have HE:Hid (resStep Sk r ch=⟨Sk.rules,Sk.drops++[⟨r.id,3⟩]⟩):=resStep_drop HRE.out (by decide)
   obtain⟨vr,vd,hbox,hr,hd⟩:=HSQ.out.box
   obtain⟨ad,cd,hvd⟩:=row_slice hd
   have HD:Hid (OwnD w1.heap.size wr vd Sk.drops):=hd
   have HRW:Hid (OwnR w1.heap.size w1.heap.size wr vr Sk.rules):=hr
   have HBX:Hid (Blk wr w0.heap.size #[vr,vd]):=hbox
   generalize hnd:Sk.drops.length=nd at *
   have HND:Hid (Sk.drops.length=nd):=hnd
   subst hvd
   have x1:=hbox.cell (i:=1) rfl
   have kid:=BLQ.out.cell (i:=0) rfl
   have HCW:Hid (w1.heap.size<=wr.heap.size):=HSQ.out.on.size
   have HBL:Hid (w0.heap.size<wr.heap.size):=hbox.lt
   clear hr hd hbox hnd
   go_wp2_with (at_builtin;refine wpList_append_own_at _ rfl _ _ 71 rfl w1.heap.size 118 iD (.agg #[.int .i64 0,.int .i64 0]) 2 16 Try.underlying71 hiD hzD0 hzD1 hzD2 rfl (by decide) _ _ _ rfl (World.ownsRow.alloc HD.out _) ⟨wr.heap.size,0,none⟩ 1 1 [.int .i64 r.id,.int .i64 3] rfl rfl ?f1 ?f2 ?f3 ?f4 ?f5 ?_)
   case f1=>intro j u hj;exact new_cells _ _ _ _ rfl j u hj
   case f2=>intro u hu;simp at hu;rcases hu with rfl|rfl<;>rfl
   case f3=>rw[HND.out];unfold maxLen;omega
   case f4=>rw[HND.out];omega
   case f5=>rw[size_alloc'];have:=HCW.out;omega
   intro v7 w7 hown hgrow _ hat7
   have HS7:Hid (SRs w0.heap.size w1.heap.size w1 (w7.setCell ⟨w0.heap.size,1,none⟩ v7) (resTo (chOf N R) N.rels (k+1))):=by unfold Hid;rw[HSTEP.out,HE.out];exact SRs.drop (x:=⟨r.id,3⟩) HBX.out HRW.out HD.out HSQ.out.on HCB.out (Nat.le_refl _) hgrow hown
   have BX7:=(HBX.out.alloc _).grown hgrow (λe=>by have:=(own_lt HD.out _ e.symm).1;have:=HCB.out;omega)
   have x7:=BX7.cell (i:=1) rfl
   have f7:=BX7.frozen 1
   obtain⟨a7',c7',hv7⟩:=row_slice hown
   subst hv7
   clear hown hgrow hat7 x1 kid BX7
   go_wp2
   go_roundw
   case rel=>exact⟨k+1,by omega,by go_num,HS7⟩
   case measure=>simp[intOf];omega
  case false=>
   have HRE:Hid (reason Sk.rules r.only ch=0):=by unfold Hid;rw[HREA.out,hrp];rfl
   have HE:Hid (resStep Sk r ch=⟨Sk.rules++[⟨r.id,r.only,seq⟩],Sk.drops⟩):=HSTR.out HRE.out
   rw[show rz false=0 from rfl]
   clear hrp
   obtain⟨vs,jv,hrow,jw⟩:=HRW.out.next HNQ.out
   have HJV:Hid (vs.length=Sk.rules.length):=jv
   have HROW:Hid (wr.ownsRow w1.heap.size 70 3 (.slice arr nr crr) Sk.rules.length (rcells Sk.rules vs)):=hrow
   have HJW:Hid (∀i,i<Sk.rules.length->OwnI w1.heap.size wr (vat vs i) (ruat Sk.rules i).seq):=jw
   have HDR:Hid (OwnD w1.heap.size wr (.slice add ndd cdd) Sk.drops):=HDW.out.next HNQ.out
   have HBR:Hid (Blk wr w0.heap.size #[.slice arr nr crr,.slice add ndd cdd]):=HBX.out.next HNQ.out
   have HOR:Hid (OwnI w1.heap.size wr (.slice sa sn scp) seq):=HO0.out.next HNQ.out
   have kcg:=cellq HNQ.out HCG.out
   have k0:=BLQ.out.cell (i:=0) rfl
   have k1:=BLQ.out.cell (i:=1) rfl
   have HCW:Hid (w1.heap.size<=wr.heap.size):=HSQ.out.on.size
   clear jv hrow jw HRW HDW HBX hq hqm
   go_upto_region 19 with fail
   have HNRW:Hid (Sk.rules.length=nr):=HNR.out
   have HNEL:Hid ((∀g,(Value.slice arr nr crr).ownBlock=some g->g<bL)/\bL<gc/\w0.heap.size<bL):=HSEPA.out
   have hmx:Try.prog.follows .mixedOrders=true:=by kernel_rfl
   refine(wpIn_wide (n:=9)).1 ?_
   have HS0:Hid ((λw=>w.cell? ⟨w0.heap.size,0,none⟩=some (.slice arr nr crr)/\w.cell? ⟨bL,0,none⟩=some (.int .i64 r.id)/\w.cell? ⟨bL,1,none⟩=some (.bool r.only)/\w.cell? ⟨gc,0,none⟩=some (.slice sa sn scp)) wr.drew):=⟨x0,k0,k1,kcg⟩
   refine wpIn_region_S (c:=14) (S:=λw=>w.cell? ⟨w0.heap.size,0,none⟩=some (.slice arr nr crr)/\w.cell? ⟨bL,0,none⟩=some (.int .i64 r.id)/\w.cell? ⟨bL,1,none⟩=some (.bool r.only)/\w.cell? ⟨gc,0,none⟩=some (.slice sa sn scp)) hmx (by kernel_rfl) (λhw hcl=>?_)
   refine anyS_take (i:=0) (v:=.pointer (some ⟨w0.heap.size,0,none⟩)) hw (by decide) hcl (noDefer_none rfl) rfl (by kernel_rfl) (by kernel_rfl) (by kernel_rfl) (λ_ _ _ h=>h) ⟨Or.inl ⟨by rfl,?y0⟩,λ_=>rfl⟩ HS0.out (λhcl=>?_)
   case y0=>
    rintro w ⟨c1,c2,c3,c4⟩
    go_simp
   refine anyS_take (i:=1) (v:=.slice arr nr crr) hw (by decide) hcl (noDefer_none rfl) rfl (by kernel_rfl) (by kernel_rfl) (by kernel_rfl) (λ_ _ _ h=>h) ⟨Or.inl ⟨by rfl,?y1⟩,λ_=>rfl⟩ HS0.out (λhcl=>?_)
   case y1=>
    rintro w ⟨c1,c2,c3,c4⟩
    go_simp
   refine anyS_take (i:=2) (v:=.pointer (some ⟨bL,0,none⟩)) hw (by decide) hcl (noDefer_none rfl) rfl (by kernel_rfl) (by kernel_rfl) (by kernel_rfl) (λ_ _ _ h=>h) ⟨Or.inl ⟨by rfl,?y2⟩,λ_=>rfl⟩ HS0.out (λhcl=>?_)
   case y2=>
    rintro w ⟨c1,c2,c3,c4⟩
    go_simp
   refine anyS_take (i:=3) (v:=.int .i64 r.id) hw (by decide) hcl (noDefer_none rfl) rfl (by kernel_rfl) (by kernel_rfl) (by kernel_rfl) (λ_ _ _ h=>h) ⟨Or.inl ⟨by rfl,?y3⟩,λ_=>rfl⟩ HS0.out (λhcl=>?_)
   case y3=>
    rintro w ⟨c1,c2,c3,c4⟩
    go_simp
   refine anyS_take (i:=4) (v:=.pointer (some ⟨bL,1,none⟩)) hw (by decide) hcl (noDefer_none rfl) rfl (by kernel_rfl) (by kernel_rfl) (by kernel_rfl) (λ_ _ _ h=>h) ⟨Or.inl ⟨by rfl,?y4⟩,λ_=>rfl⟩ HS0.out (λhcl=>?_)
   case y4=>
    rintro w ⟨c1,c2,c3,c4⟩
    go_simp
   refine anyS_take (i:=5) (v:=.bool r.only) hw (by decide) hcl (noDefer_none rfl) rfl (by kernel_rfl) (by kernel_rfl) (by kernel_rfl) (λ_ _ _ h=>h) ⟨Or.inl ⟨by rfl,?y5⟩,λ_=>rfl⟩ HS0.out (λhcl=>?_)
   case y5=>
    rintro w ⟨c1,c2,c3,c4⟩
    go_simp
   refine anyS_take (i:=6) (v:=.slice (some ⟨gc,0,none⟩) 1 cc) hw (by decide) hcl (noDefer_none rfl) rfl (by kernel_rfl) (by kernel_rfl) (by kernel_rfl) (λ_ _ _ h=>h) ⟨Or.inl ⟨by rfl,?y6⟩,λ_=>rfl⟩ HS0.out (λhcl=>?_)
   case y6=>
    rintro w ⟨c1,c2,c3,c4⟩
    go_simp
   refine anyS_take (i:=7) (v:=.pointer (some ⟨gc,0,none⟩)) hw (by decide) hcl (noDefer_none rfl) rfl (by kernel_rfl) (by kernel_rfl) (by kernel_rfl) (λ_ _ _ h=>h) ⟨Or.inl ⟨by rfl,?y7⟩,λ_=>rfl⟩ HS0.out (λhcl=>?_)
   case y7=>
    rintro w ⟨c1,c2,c3,c4⟩
    go_simp
   refine anyS_take (i:=8) (v:=.pointer (some ⟨gc,0,none⟩)) hw (by decide) hcl (noDefer_none rfl) rfl (by kernel_rfl) (by kernel_rfl) (by kernel_rfl) (λ_ _ _ h=>h) ⟨Or.inl ⟨by rfl,?y8⟩,λ_=>rfl⟩ HS0.out (λhcl=>?_)
   case y8=>
    rintro w ⟨c1,c2,c3,c4⟩
    go_simp
   refine anyS_take (i:=9) (v:=.slice sa sn scp) hw (by decide) hcl (noDefer_none rfl) rfl (by kernel_rfl) (by kernel_rfl) (by kernel_rfl) (λ_ _ _ h=>h) ⟨Or.inl ⟨by rfl,?y9⟩,λ_=>rfl⟩ HS0.out (λhcl=>?_)
   case y9=>
    rintro w ⟨c1,c2,c3,c4⟩
    go_simp
   refine anyS_take (i:=10) (v:=.agg #[.int .i64 r.id,.bool r.only,.slice sa sn scp]) hw (by decide) hcl (noDefer_none rfl) rfl (by kernel_rfl) (by kernel_rfl) (by kernel_rfl) (λ_ _ _ h=>h) ⟨Or.inl ⟨by rfl,?y10⟩,λ_=>rfl⟩ HS0.out (λhcl=>?_)
   case y10=>
    rintro w ⟨c1,c2,c3,c4⟩
    go_simp
   refine anyS_one (i:=11) (by kernel_rfl) (wpOpIn_step rfl (λK hK=>?_))
   go_simp
   refine hK _ _ ⟨Or.inr ⟨cellq (box1 _ _) x0,cellq (box1 _ _) k0,cellq (box1 _ _) k1,cellq (box1 _ _) kcg⟩,?_⟩
   clear hK K
   refine anyS_one (i:=12) (by kernel_rfl) (wpOpIn_step rfl (λK hK=>?_))
   refine step_append_in rfl (.tmp 69) (.tmp 79) 55 rfl 70 iR (.agg #[.int .i64 0,.bool false,.slice none 0 0]) 3 40 Try.underlying55 hiR hzR0 hzR1 hzR2 rfl (by decide) w1.heap.size (.slice arr nr crr) _ _ (by simp[Act.eval]) (show(wr.drew.alloc (.cells #[.int .i64 r.id,.bool r.only,.slice sa sn scp] 70)).ownsRow _ _ _ _ _ _ from World.ownsRow.alloc HROW.out _) ⟨wr.heap.size,0,none⟩ 1 1 [.int .i64 r.id,.bool r.only,.slice sa sn scp] (by simp[Act.eval]) rfl (λj u hj=>new_cells wr.drew _ _ _ rfl j u hj) (by intro u hu;simp at hu;rcases hu with rfl|rfl|rfl<;>rfl) (by rw[HNRW.out];unfold maxLen;omega) (by rw[HNRW.out];omega) (by show w1.heap.size<=(wr.drew.alloc (.cells #[.int .i64 r.id,.bool r.only,.slice sa sn scp] 70)).heap.size;rw[size_alloc'];have:=HCW.out;show w1.heap.size<=wr.heap.size+1;omega) ?_
   intro v7 w7 hown hgrow1 hat7
   have hgrow:(wr.alloc (.cells #[.int .i64 r.id,.bool r.only,.slice sa sn scp] 70)).grownBy w7 (Value.slice arr nr crr).ownBlock:=⟨hgrow1.os,hgrow1.tape,hgrow1.output,hgrow1.size,hgrow1.block⟩
   have HS7:Hid (SRs w0.heap.size w1.heap.size w1 (w7.setCell ⟨w0.heap.size,0,none⟩ v7) (resTo (chOf N R) N.rels (k+1))):=by unfold Hid;rw[HSTEP.out,HE.out];exact SRs.rule (x:=⟨r.id,r.only,seq⟩) HBR.out HJV.out HROW.out HJW.out HDR.out HSQ.out.on HCB.out (Nat.le_refl _) HOR.out hgrow hown
   have BX7:=(HBR.out.alloc _).grown hgrow (λe=>by have:=(own_lt HROW.out _ e.symm).1;have:=HCB.out;omega)
   have x7:=BX7.cell (i:=0) rfl
   have f7:=BX7.frozen 0
   have s1:w7.cell? ⟨bL,0,none⟩=some (.int .i64 r.id):=cellX hgrow (cellq (box1 _ _) k0) (λe=>Nat.lt_irrefl _ (HNEL.out.1 bL e.symm))
   have s2:w7.cell? ⟨bL,1,none⟩=some (.bool r.only):=cellX hgrow (cellq (box1 _ _) k1) (λe=>Nat.lt_irrefl _ (HNEL.out.1 bL e.symm))
   have s3:w7.cell? ⟨gc,0,none⟩=some (.slice sa sn scp):=cellX hgrow (cellq (box1 _ _) kcg) (λe=>Nat.lt_irrefl _ (Nat.lt_trans (HNEL.out.1 gc e.symm) HNEL.out.2.1))
   obtain⟨a7',c7',hv7⟩:=row_slice hown
   subst hv7
   refine hK _ _ ⟨Or.inr ⟨x7,s1,s2,s3⟩,?_⟩
   clear hK K hown hgrow hgrow1 hat7 BX7
   refine anyS_one (i:=13) (by kernel_rfl) (wpOpIn_step rfl (λK hK=>?_))
   go_simp
   refine hK _ _ ⟨Or.inr ⟨x7,s1,s2,s3⟩,?_⟩
   clear hK K
   clear s1 s2 s3
   refine anyS_one (i:=14) (by kernel_rfl) (wpOpIn_step rfl (λK hK=>?_))
   go_simp
   refine hK _ _ ⟨Or.inl (by decide),?_⟩
   clear hK K
   refine anyS_done (by kernel_rfl) ?_ _
   clear hw hcl HS0 x0 k0 k1 kcg x7 f7
   go_wp2
   go_roundw
   case rel=>exact⟨k+1,by omega,by go_num,HS7⟩
   case measure=>simp[intOf];omega
 have hq':(q:Int)<nr:=by omega
 have HQR:Hid (q<Sk.rules.length):=by unfold Hid;rw[HNR.out];exact hq
 have HSUC:Hid (noRpt Sk.rules r.only seq (q+1)=(noRpt Sk.rules r.only seq q||((ruat Sk.rules q).only==r.only&&decide ((ruat Sk.rules q).seq=seq)))):=noRpt_succ HQR.out
 obtain⟨gr,us,har,y0,y1,y2,hOs⟩:=(HRW.out.next HNQ.out).at HQR.out
 subst har
 have HOS:Hid (OwnI w1.heap.size wr us (ruat Sk.rules q).seq):=hOs
 obtain⟨ssa,ssc,hus⟩:=hOs.slice
 generalize (ruat Sk.rules q).seq.length=ssn at hus
 subst hus
 have b1:=cell_regrown x0
 have b2:=cell_regrown y1
 have b3:=cell_regrown y2
 have b4:=cell_regrown (cellq HNQ.out HCG.out)
 have b5:=cell_regrown ((BL6.out.next HNQ.out).cell (i:=1) rfl)
 have CG:Hid (∀d os,Calls Try.prog 44 #[.slice ssa ssn ssc,.slice sa sn scp] (Sort.grow (redrawn wr d) os) λe w''=>e=.returned (.bool (decide ((ruat Sk.rules q).seq=seq)))/\∃p:Regrown,w''=Sort.grow (redrawn wr p.d) p.os):=
  λd os=>Calls.regrown_of (l2Same_any w1.heap.size w1.heap.size _ _ (ruat Sk.rules q).seq seq _ (HOS.out.held.next (below_regrown wr d os)) ((HO0.out.next HNQ.out).held.next (below_regrown wr d os)))
 clear hOs y0 y1 y2
 generalize (ruat Sk.rules q).only=oq at *
 cases ho:(oq==r.only)
 ·have HE1:Hid (noRpt Sk.rules r.only seq (q+1)=noRpt Sk.rules r.only seq q):=by unfold Hid;rw[HSUC.out,ho];simp
  go_upto_region 16 with fail
  refine wp_region_quiet_below (by kernel_rfl) (by kernel_rfl) ?_
  repeat (go_big_quiet_step (exact CG.out _ _))
  refine wpQuiet_nil ?_
  intro _ hw'
  obtain⟨⟨dq,osq⟩,hw''⟩:=hw'
  subst hw''
  have HB:Hid (Nx wr (Sort.grow (redrawn wr dq) osq)):=below_regrown wr dq osq
  clear b1 b2 b3 b4 b5 x0 ho
  generalize Sort.grow (redrawn wr dq) osq=wz at *
  go_wp2
  go_roundw
  case rel=>exact⟨q+1,by omega,by go_num,by rw[HE1.out],HNQ.out.trans HB.out⟩
  case measure=>simp[intOf];omega
 ·by_cases hsq:(ruat Sk.rules q).seq=seq
  ·have HE1:Hid (rz (noRpt Sk.rules r.only seq (q+1))=3):=by unfold Hid;rw[HSUC.out,ho,decide_eq_true hsq];simp[rz]
   rw[decide_eq_true hsq] at CG
   go_upto_region 16 with fail
   refine wp_region_quiet_below (by kernel_rfl) (by kernel_rfl) ?_
   repeat (go_big_quiet_step (exact CG.out _ _))
   refine wpQuiet_nil ?_
   intro _ hw'
   obtain⟨⟨dq,osq⟩,hw''⟩:=hw'
   subst hw''
   have HB:Hid (Nx wr (Sort.grow (redrawn wr dq) osq)):=below_regrown wr dq osq
   clear b1 b2 b3 b4 b5 x0 ho hsq
   generalize Sort.grow (redrawn wr dq) osq=wz at *
   go_wp2
   go_roundw
   case rel=>exact⟨q+1,by omega,by go_num,by rw[HE1.out],HNQ.out.trans HB.out⟩
   case measure=>simp[intOf];omega
  ·have HE1:Hid (noRpt Sk.rules r.only seq (q+1)=noRpt Sk.rules r.only seq q):=by unfold Hid;rw[HSUC.out,ho,decide_eq_false hsq];simp
   rw[decide_eq_false hsq] at CG
   go_upto_region 16 with fail
   refine wp_region_quiet_below (by kernel_rfl) (by kernel_rfl) ?_
   repeat (go_big_quiet_step (exact CG.out _ _))
   refine wpQuiet_nil ?_
   intro _ hw'
   obtain⟨⟨dq,osq⟩,hw''⟩:=hw'
   subst hw''
   have HB:Hid (Nx wr (Sort.grow (redrawn wr dq) osq)):=below_regrown wr dq osq
   clear b1 b2 b3 b4 b5 x0 ho hsq
   generalize Sort.grow (redrawn wr dq) osq=wz at *
   go_wp2
   go_roundw
   case rel=>exact⟨q+1,by omega,by go_num,by rw[HE1.out],HNQ.out.trans HB.out⟩
   case measure=>simp[intOf];omega
theorem E1_head {N:Nt}(h:RoadIn N){e:Nat}(he:e<(E1 N).length):0<=(eat (E1 N) e).head/\(eat (E1 N) e).head<N.nodes.length:=by
 rw[E1_len] at he
 obtain⟨i,j,q,hi,hj,hq,he1⟩:=lay_of N.ways.length he
 obtain⟨_,a1⟩:=at_place hi hj hq
 rw[<-he1] at a1
 have hm:=asc_mono (λi j=>rfl) h.asc
 have hp:∀t,hasI N.nodes t=true->pos N.nodes t<N.nodes.length:=by
  intro t ht
  obtain⟨k,hk,rfl⟩:=hasI_at ht
  rw[pos_at hm hk]
  exact hk
 have hl:=h.len i hi
 have hns:nsN N i=(wat N.ways i).weights.length:=rfl
 have p0:=hp _ (h.has i j hi (by omega))
 have p1:=hp _ (h.has i (j+1) hi (by omega))
 rw[a1]
 split
 ·exact⟨by simp[fwd],by simp[fwd];omega⟩
 ·split
  ·exact⟨by simp[fwd],by simp[fwd];omega⟩
  ·exact⟨by simp[bwd],by simp[bwd];omega⟩
theorem E1_le {N:Nt}(h:RoadIn N):(E1 N).length<=4000:=by
 rw[E1_len]
 unfold mN
 rw[st_ed]
 exact h.ed
structure RelsIn (N:Nt):Prop where
 one:∀i,i<N.ways.length->1<=(wat N.ways i).weights.length
 rel:∀k,k<N.rels.length->relGood N (rat N.rels k)=true
 cnt:N.rels.length<=1000
 ascw:ascW N.ways=true
theorem rels_in {N:Nt}(h:implValid N=true):RelsIn N:=by
 simp only[implValid,counts,Bool.and_eq_true,decide_eq_true_eq] at h
 obtain⟨⟨c0,c1,ed,c2,c3⟩,hu,⟨ha,hn⟩,⟨hw,haw⟩,⟨hr,_⟩,ht,_⟩:=h
 refine⟨λi hi=>?_,λk hk=>allN_at hr hk,c2,haw⟩
 have:=allN_at hw hi
 simp only[wayGood,wayHead,Bool.and_eq_true,decide_eq_true_eq] at this
 obtain⟨⟨⟨⟨⟨g0,g1⟩,g2⟩,g3⟩,g4⟩,g5⟩:=this
 exact g1
theorem edge_there {N:Nt}(h:RoadIn N)(h2:RelsIn N){i:Nat}(hi:i<N.ways.length):thTo (E1 N) i (E1 N).length≠[]/\((wat N.ways i).both=true->bkTo (E1 N) i (E1 N).length≠[]):=by
 have h1:=h2.one i hi
 have hns:nsN N i=(wat N.ways i).weights.length:=rfl
 have hbn:1<=bnN N i:=by unfold bnN;split<;>omega
 constructor
 ·obtain⟨_,a1⟩:=at_place (N:=N) (i:=i) (j:=0) (q:=0) hi (by omega) (by omega)
  have hlt:st (nsN N) (bnN N) i+bnN N i*0+0<(E1 N).length:=by rw[E1_len];exact st_in hi (by omega) (by omega)
  intro e
  have hm:st (nsN N) (bnN N) i+bnN N i*0+0∈thTo (E1 N) i (E1 N).length:=by
   unfold thTo
   rw[List.mem_filter]
   refine⟨List.mem_range.2 hlt,?_⟩
   unfold wayIs
   rw[a1]
   split
   ·simp[fwd]
   ·simp[fwd]
  rw[e] at hm
  simp at hm
 ·intro hb
  have hbn2:bnN N i=2:=by unfold bnN;rw[if_pos hb]
  obtain⟨_,a1⟩:=at_place (N:=N) (i:=i) (j:=0) (q:=1) hi (by omega) (by omega)
  have hlt:st (nsN N) (bnN N) i+bnN N i*0+1<(E1 N).length:=by rw[E1_len];exact st_in hi (by omega) (by omega)
  intro e
  have hm:st (nsN N) (bnN N) i+bnN N i*0+1∈bkTo (E1 N) i (E1 N).length:=by
   unfold bkTo
   rw[List.mem_reverse,List.mem_filter]
   refine⟨List.mem_range.2 hlt,?_⟩
   unfold wayIs
   rw[a1,if_neg (by omega),if_neg (by omega)]
   simp[bwd]
  rw[e] at hm
  simp at hm
theorem all_in {N:Nt}(hv:implValid N=true):AllIn N (roadY N):=by
 have h:=road_in hv
 have h2:=rels_in hv
 intro k hk
 have hr:=h2.rel k hk
 simp only[relGood,Bool.and_eq_true] at hr
 obtain⟨_,hf,ht,hT⟩:=hr
 unfold relTail at hT
 refine⟨hf,ht,?_,λj hj=>?_,λi hi=>edge_there h h2 hi,λe he=>E1_head h he⟩
 ·split at hT
  ·simp at hT;rw[hT.1];simp
  ·simp at hT;exact hT.2.2.1
 ·split at hT
  ·simp only[Bool.and_eq_true,decide_eq_true_eq] at hT;omega
  ·simp only[Bool.and_eq_true,decide_eq_true_eq] at hT
   exact allN_at hT.2.2.2 hj
def resOf (N:Nt):Rs:=if implValid N then resTo (chOf N (roadY N)) N.rels N.rels.length else ⟨[],[]⟩
theorem specResolve_any (B0:Nat)(v0 v1 v2 v3:Value)(N:Nt)(w:World)(h0:HNet B0 w v0 v1 v2 v3 N)(hs:wsum N.ways N.ways.length<=1048576) :
  Calls Try.prog 33 #[.agg #[v0,v1,v2,v3,.int .i64 N.uturn]] w λe w'=>(∃vr vd,e=.returned (.agg #[vr,vd])/\OwnR w.heap.size w.heap.size w' vr (resOf N).rules/\OwnD w.heap.size w' vd (resOf N).drops)/\Nx w w':=by
 have HS:Hid (wsum N.ways N.ways.length<=1048576):=hs
 have HI:Hid (HNet B0 w v0 v1 v2 v3 N):=h0
 obtain⟨a0,q0,e0,jm,jk⟩:=h0.1
 clear jm jk
 obtain⟨a1,q1,e1,jm,jk⟩:=h0.2.1
 clear jm jk
 obtain⟨a2,q2,e2,jm,jk⟩:=h0.2.2.1
 clear jm jk
 obtain⟨a3,q3,e3,jm,jk⟩:=h0.2.2.2
 clear jm jk
 generalize N.nodes.length=l0 at e0
 generalize N.ways.length=l1 at e1
 generalize N.rels.length=l2 at e2
 generalize N.turns.length=l3 at e3
 subst e0 e1 e2 e3
 clear hs h0
 generalize hWA:(w.alloc (.cells #[.slice a0 l0 q0,.slice a1 l1 q1,.slice a2 l2 q2,.slice a3 l3 q3,.int .i64 N.uturn] 79)).alloc (.cells #[.slice none 0 0,.slice none 0 0] 73)=wA
 have HXA:Hid (Nx w wA):=by unfold Hid;rw[<-hWA];exact box2 _ _ _
 have BG:Hid (Blk wA w.heap.size #[.slice a0 l0 q0,.slice a1 l1 q1,.slice a2 l2 q2,.slice a3 l3 q3,.int .i64 N.uturn]):=by unfold Hid;rw[<-hWA];exact(Blk.new w _ _ _ rfl).alloc _
 have BZ:Hid (Blk wA (w.heap.size+1) #[.slice none 0 0,.slice none 0 0]):=by unfold Hid;rw[<-hWA];exact Blk.new _ _ _ _ (by rw[size_alloc'])
 have HSA:Hid (wA.heap.size=w.heap.size+2):=by unfold Hid;rw[<-hWA,size_alloc',size_alloc']
 go_enter Try.func33,Try.ntmps33
 go_upto_region 1 with fail
 clear hWA
 have k0:=BG.out.cell (i:=0) rfl
 have k1:=BG.out.cell (i:=1) rfl
 have k2:=BG.out.cell (i:=2) rfl
 have k3:=BG.out.cell (i:=3) rfl
 have k4:=BG.out.cell (i:=4) rfl
 go_wp2_with fail
 refine(specValid_any B0 _ _ _ _ N _ (by exact HI.out.next HXA.out) HS.out).mono ?_
 rintro e w1 ⟨rfl,hx⟩
 rw[specValid_same]
 have HXA1:Hid (Nx wA w1):=hx
 have HX1:Hid (Nx w w1):=HXA.out.trans hx
 have BG1:Hid (Blk w1 w.heap.size #[.slice a0 l0 q0,.slice a1 l1 q1,.slice a2 l2 q2,.slice a3 l3 q3,.int .i64 N.uturn]):=BG.out.next hx
 have BZ1:Hid (Blk w1 (w.heap.size+1) #[.slice none 0 0,.slice none 0 0]):=BZ.out.next hx
 clear hx k0 k1 k2 k3 k4
 cases hv:implValid N
 case false=>
  have HF:Hid (resOf N=⟨[],[]⟩):=by unfold Hid resOf;rw[hv];rfl
  clear hv
  have y0:=BZ1.out.cell (i:=0) rfl
  have y1:=BZ1.out.cell (i:=1) rfl
  have z0:=BZ1.out.frozen 0
  have z1:=BZ1.out.frozen 1
  go_wp2
  have BR':=(BZ1.out.set 0 (.slice none 0 0)).set 1 (.slice none 0 0)
  have p0:_=some (Value.slice none 0 0):=BR'.cell (i:=0) rfl
  have p1:_=some (Value.slice none 0 0):=BR'.cell (i:=1) rfl
  clear y0 y1 BR'
  refine bodyPost_ret (v:=.agg #[.slice none 0 0,.slice none 0 0]) (by simp[results,Try.results33,go_sem,p0,p1]) rfl ?_
  rw[HF.out]
  exact⟨⟨_,_,rfl,⟨[],rfl,⟨rfl,.inl ⟨rfl,rfl⟩⟩,λi hi=>absurd hi (Nat.not_lt_zero _)⟩,⟨rfl,.inl ⟨rfl,rfl⟩⟩⟩,Below.setCell (Below.setCell HX1.out (Nat.le_succ _) _) (Nat.le_succ _) _⟩
 have HF:Hid (resOf N=resTo (chOf N (roadY N)) N.rels N.rels.length):=by unfold Hid resOf;rw[hv];rfl
 have HRO:Hid (roadOf N=roadY N):=by unfold Hid roadOf;rw[hv];rfl
 have HAL:Hid (AllIn N (roadY N)):=all_in hv
 have HLE:Hid ((roadY N).edges.length<=4000):=E1_le (road_in hv)
 have HCN:Hid (N.rels.length<=1000):=(rels_in hv).cnt
 clear hv
 have k0:=BG1.out.cell (i:=0) rfl
 have k1:=BG1.out.cell (i:=1) rfl
 have k2:=BG1.out.cell (i:=2) rfl
 have k3:=BG1.out.cell (i:=3) rfl
 have k4:=BG1.out.cell (i:=4) rfl
 go_upto_region 3 with fail
 go_region_held3 (λw'=>w'.cell? ⟨w.heap.size,0,none⟩=some (.slice a0 l0 q0)/\w'.cell? ⟨w.heap.size,1,none⟩=some (.slice a1 l1 q1)/\w'.cell? ⟨w.heap.size,2,none⟩=some (.slice a2 l2 q2)/\w'.cell? ⟨w.heap.size,3,none⟩=some (.slice a3 l3 q3)/\w'.cell? ⟨w.heap.size,4,none⟩=some (.int .i64 N.uturn)) (first|exact⟨cellS (by omega) (cellS (by omega) (cellq HX3.out k0)),cellS (by omega) (cellS (by omega) (cellq HX3.out k1)),cellS (by omega) (cellS (by omega) (cellq HX3.out k2)),cellS (by omega) (cellS (by omega) (cellq HX3.out k3)),cellS (by omega) (cellS (by omega) (cellq HX3.out k4))⟩|exact⟨cellq HX3.out k0,cellq HX3.out k1,cellq HX3.out k2,cellq HX3.out k3,cellq HX3.out k4⟩|exact⟨cellq HX2.out k0,cellq HX2.out k1,cellq HX2.out k2,cellq HX2.out k3,cellq HX2.out k4⟩|(go_keep;done)) (first|(go_at_call 49;refine(specRoad_any B0 _ _ _ _ N _ (by exact HI.out.next (HX1.out.trans (Below.refl _ _).drew)) HS.out).mono ?_;rintro e w2 ⟨⟨r0,r1,r2,r3,rfl,hRD⟩,hx2⟩;have HX2:Hid (Nx w1 w2):=(Below.refl _ _).drew.trans hx2;rw[HRO.out] at hRD;have HRD:Hid (HRoad w1.heap.size w2 r0 r1 r2 r3 (roadY N)):=hRD;clear hRD hx2)|(go_at_call 48;refine(l2Resolve_any B0 w1.heap.size _ _ _ _ N _ _ _ _ (roadY N) _ (by exact HI.out.next (HX1.out.trans HX2.out)) (by exact HRD.out) HLE.out HAL.out HCN.out).mono ?_;rintro e w3 ⟨⟨vr,vd,rfl,hR3,hD3⟩,hx3⟩;have HX3:Hid (Nx w1 w3):=HX2.out.trans hx3;have HR3:Hid (OwnR w1.heap.size w1.heap.size w3 vr (resOf N).rules):=(by unfold Hid;rw[HF.out];exact hR3.base HX2.out.size HX2.out.size);have HD3:Hid (OwnD w1.heap.size w3 vd (resOf N).drops):=(by unfold Hid;rw[HF.out];exact row_base hD3 HX2.out.size);obtain⟨vs3,jv,jr,jw⟩:=hR3;obtain⟨ar,cr,hvr⟩:=row_slice jr;obtain⟨ad,cd,hvd⟩:=row_slice hD3;generalize (resTo (chOf N (roadY N)) N.rels N.rels.length).rules.length=nr at hvr;generalize (resTo (chOf N (roadY N)) N.rels N.rels.length).drops.length=nd at hvd;subst hvr hvd;have BZ3:Hid (Blk w3 (w.heap.size+1) #[.slice none 0 0,.slice none 0 0]):=BZ1.out.next HX3.out;have y0:=BZ3.out.cell (i:=0) rfl;have y1:=BZ3.out.cell (i:=1) rfl;have z0:=BZ3.out.frozen 0;have z1:=BZ3.out.frozen 1;clear jv jr jw hD3 hx3))
 have BR':=(BZ3.out.set 0 (.slice ar nr cr)).set 1 (.slice ad nd cd)
 have p0:_=some (Value.slice ar nr cr):=BR'.cell (i:=0) rfl
 have p1:_=some (Value.slice ad nd cd):=BR'.cell (i:=1) rfl
 clear y0 y1 BR' k0 k1 k2 k3 k4
 go_wp2
 refine bodyPost_ret (v:=.agg #[.slice ar nr cr,.slice ad nd cd]) (by simp[results,Try.results33,go_sem,p0,p1]) rfl ?_
 have h1:w.heap.size+1<w1.heap.size:=by have:=HSA.out;have:=HXA1.out.size;omega
 have h2:w.heap.size<=w1.heap.size:=by omega
 exact⟨⟨_,_,rfl,((HR3.out.store h1 h1 _ _).store h1 h1 _ _).base h2 h2,row_base (own_store (own_store HD3.out h1 _ _) h1 _ _) h2⟩,Below.setCell (Below.setCell (HX1.out.trans HX3.out) (Nat.le_succ _) _) (Nat.le_succ _) _⟩
structure EB (w:World)(b e:Nat)(x:Eg):Prop where
 tail:w.cell? ⟨b,0,none⟩=some (.int .i64 x.tail)
 head:w.cell? ⟨b,1,none⟩=some (.int .i64 x.head)
 wgt:w.cell? ⟨b,2,none⟩=some (.int .i64 x.weight)
 back:w.cell? ⟨b,5,none⟩=some (.bool x.back)
 twin:w.cell? ⟨b,6,none⟩=some (.int .i64 x.twin)
 num:w.cell? ⟨b,7,none⟩=some (.int .i64 (e:Int))
theorem EB.next {w w':World}{b e:Nat}{x:Eg}(h:EB w b e x)(k:Nx w w'):EB w' b e x:=
 ⟨cellq k h.tail,cellq k h.head,cellq k h.wgt,cellq k h.back,cellq k h.twin,cellq k h.num⟩
def HPtrs (B:Nat)(w:World)(v:Value)(ps:List Nat):Prop:=HSlice B w v ps.length λb off i=>w.cell? ⟨b,off+i,none⟩=some (.pointer (some ⟨ps.getD i 0,0,none⟩))
theorem HPtrs.keep {B:Nat}{w w':World}{v:Value}{ps:List Nat}(h:HPtrs B w v ps)(k:Keeps B w w'):HPtrs B w' v ps:=
 HSlice.mono h (Nat.le_refl _) k.1 λb off hb hs i hi hc=>(k.2 b hb hs _).trans hc
theorem HPtrs.next {B:Nat}{w w':World}{v:Value}{ps:List Nat}(h:HPtrs B w v ps)(k:Nx w w'):HPtrs B w' v ps:=h.keep (k.keeps B)
theorem HPtrs.at {B:Nat}{w:World}{v:Value}{eb:Nat->Nat}{l:List Nat}(h:HPtrs B w v (l.map eb))(hp:0<l.length):∃b off c,v=.slice (some ⟨b,off,none⟩) l.length c/\b<w.heap.size/\∀i,i<l.length->w.cell? ⟨b,off+i,none⟩=some (.pointer (some ⟨eb (l.getD i 0),0,none⟩)):=by
 obtain⟨a,cap,e,_,hk⟩:=h
 rw[List.length_map] at e hk
 obtain⟨b,off,rfl,_,hb,hc⟩:=hk hp
 refine⟨b,off,cap,e,hb,λi hi=>?_⟩
 have:=hc i hi
 rw[this]
 simp[List.getD_eq_getElem?_getD,hi]
theorem OwnI.app {B:Nat}{w:World}{v:Value}{zs ys:List Int}(h:w.ownsRow B 2 1 v (zs.length+ys.length) (icells zs++icells ys)):OwnI B w v (zs++ys):=by
 unfold OwnI
 have e:icells (zs++ys)=icells zs++icells ys:=by simp[icells]
 rw[List.length_append,e]
 exact h
theorem Only.cellO {o:Option Nat}{w w':World}(h:Only o w w'){b i:Nat}{v:Value}(hn:some b≠o)(hc:w.cell? ⟨b,i,none⟩=some v):w'.cell? ⟨b,i,none⟩=some v:=by
 rw[World.cell?_of_block (h.block b (cell_lt hc) hn)]
 exact hc
theorem Only.tr {o:Option Nat}{a b c:World}(h:Only o a b)(k:Only o b c):Only o a c:=
 ⟨k.os.trans h.os,k.tape.trans h.tape,k.output.trans h.output,Nat.le_trans h.size k.size,λx hx hn=>(k.block x (Nat.lt_of_lt_of_le hx h.size) hn).trans (h.block x hx hn)⟩
theorem Only.young {o p:Option Nat}{a b c:World}(h:Only o a b)(k:Only p b c)(hp:∀g,p=some g->a.heap.size<=g):Only o a c:=
 ⟨k.os.trans h.os,k.tape.trans h.tape,k.output.trans h.output,Nat.le_trans h.size k.size,λx hx hn=>(k.block x (Nat.lt_of_lt_of_le hx h.size) (λe=>by have:=hp x e.symm;omega)).trans (h.block x hx hn)⟩
theorem EB.on {o:Option Nat}{w w':World}{b e:Nat}{x:Eg}(h:EB w b e x)(k:Only o w w')(hn:some b≠o):EB w' b e x:=
 ⟨k.cellO hn h.tail,k.cellO hn h.head,k.cellO hn h.wgt,k.cellO hn h.back,k.cellO hn h.twin,k.cellO hn h.num⟩
theorem EB.ne {w:World}{b e bw:Nat}{x:Eg}{v0 v1 v2:Value}(h:EB w b e x)(k:Blk w bw #[v0,v1,v2]):b≠bw:=by
 rintro rfl
 obtain⟨t,hb⟩:=k
 have:=h.num
 simp[World.cell?,hb] at this
def BT (w:World)(b:Nat)(cs:Array Value)(t:Nat):Prop:=w.heap[b]?=some (.cells cs t (0,0))
theorem BT.lt {w:World}{b t:Nat}{cs:Array Value}(h:BT w b cs t):b<w.heap.size:=(Array.getElem?_eq_some_iff.1 h).1
theorem BT.blk {w:World}{b t:Nat}{cs:Array Value}(h:BT w b cs t):Blk w b cs:=⟨t,h⟩
theorem BT.new (w:World)(cs:Array Value)(t n:Nat)(hn:n=w.heap.size):BT (w.alloc (.cells cs t)) n cs t:=by
 subst hn
 unfold BT
 show(w.heap.push _)[w.heap.size]?=_
 simp
theorem BT.set {w:World}{b t:Nat}{cs:Array Value}(h:BT w b cs t)(i:Nat)(v:Value):BT (w.setCell ⟨b,i,none⟩ v) b (cs.setIfInBounds i v) t:=by
 unfold BT at h ⊢
 simp[World.setCell,Array.getElem?_modify,h]
theorem BT.next {w w':World}{b t:Nat}{cs:Array Value}(h:BT w b cs t)(k:Nx w w'):BT w' b cs t:=(k.block b h.lt).trans h
theorem BT.alloc {w:World}{b t:Nat}{cs:Array Value}(h:BT w b cs t)(o:Obj):BT (w.alloc o) b cs t:=h.next (box1 _ _)
theorem BT.grown {w w':World}{o:Option Nat}{b t:Nat}{cs:Array Value}(h:BT w b cs t)(k:w.grownBy w' o)(hn:some b≠o):BT w' b cs t:=(k.block b h.lt hn).trans h
end Go.Proofs.Ytdpfdkihbgmapaa
namespace Go.Proofs.Ytdpfdkihbgmapaa
open Go.RowKit Go.Sort Go.Maps
set_option linter.unusedVariables false
set_option maxRecDepth 1000000
set_option maxHeartbeats 16000000
def ptrR (v:Value):Option (DataW Unit×List MemPlace):=
 match v with
 |.pointer none=>some (.lit (.int .i64 (-1)),[])
 |.pointer (some ⟨b,0,none⟩)=>some (.lit (.int .i64 (b:Int)),[])
 |_=>none
theorem keyI:Keyed Try.prog 2:=int_keyed Try.underlying2
def kidE (p:Int×Nat):Lit×DataW Unit:=(.int .i64 p.1,.lit (.int .i64 (p.2:Int)))
def kidsD (ks:List (Int×Nat)):DataW Unit:=.map (ks.map kidE)
theorem ins_end (x:Lit×DataW Unit)(l:List (Lit×DataW Unit))(h:∀p∈l,x.1.before p.1=false):DataW.insert x l=l++[x]:=by
 induction l with
 |nil=>rfl
 |cons y l ih=>
  unfold DataW.insert
  rw[h y (List.mem_cons_self ..)]
  simp only[Bool.false_eq_true,if_false,List.cons_append]
  rw[ih λp hp=>h p (List.mem_cons_of_mem _ hp)]
theorem kids_put {ks:List (Int×Nat)}{e:Int}(b:Nat)(h:∀p∈ks,p.1<e):(kidsD ks).put (.int .i64 e) (.lit (.int .i64 (b:Int)))=kidsD (ks++[(e,b)]):=by
 unfold kidsD
 rw[DataW.put_eq]
 congr 1
 unfold ChangeMaps.putKey
 have hf:(ks.map kidE).filter (ChangeMaps.notKey (.int .i64 e))=ks.map kidE:=by
  rw[List.filter_eq_self]
  intro p hp
  obtain⟨q,hq,rfl⟩:=List.mem_map.1 hp
  have:=h q hq
  simp[ChangeMaps.notKey,kidE,Lit.sameKey]
  omega
 rw[hf,ins_end]
 ·simp[kidE]
 ·intro p hp
  obtain⟨q,hq,rfl⟩:=List.mem_map.1 hp
  have:=h q hq
  simp[kidE,Lit.before]
  omega
def kidOf (ks:List (Int×Nat))(e:Int):Option Nat:=(ks.find? (λp=>decide (p.1=e))).map (·.2)
theorem kids_at (ks:List (Int×Nat))(e:Int):(kidsD ks).atKey (.int .i64 e) (.lit (.int .i64 (-1)))=.lit (.int .i64 (match kidOf ks e with|none=>-1|some b=>(b:Int))):=by
 unfold kidsD kidOf
 simp only[DataW.atKey]
 induction ks with
 |nil=>rfl
 |cons p ks ih=>
  simp only[List.map_cons,List.find?_cons]
  have e1:(kidE p).1.sameKey (.int .i64 e)=decide (p.1=e):=by simp[kidE,Lit.sameKey]
  rw[e1]
  by_cases h:p.1=e
  ·simp[h,kidE]
  ·simp only[decide_eq_false h]
   exact ih
theorem BT.ne {w:World}{a b t u:Nat}{c d:Array Value}(h:BT w a c t)(k:BT w b d u)(hn:t≠u):a≠b:=by
 rintro rfl
 unfold BT at h k
 rw[h] at k
 simp at k
 exact hn k.2
theorem BT.neRow {w:World}{a t u C sz n:Nat}{c:Array Value}{v:Value}{xs:List Value}(h:BT w a c t)(k:w.ownsRow C u sz v n xs)(hn:t≠u):some a≠v.ownBlock:=by
 rcases k.2 with⟨rfl,_⟩|⟨g,cap,cur,rfl,_,hh,_⟩
 ·simp[Value.ownBlock]
 ·intro e
  have e':a=g:=Option.some.inj e
  subst e'
  unfold BT at h
  rw[h] at hh
  simp at hh
  exact hn hh.2
theorem row_ne {w:World}{t u C C' sz sz' m n:Nat}{v v':Value}{xs xs':List Value}(h:w.ownsRow C t sz v m xs)(k:w.ownsRow C' u sz' v' n xs')(hn:t≠u){g:Nat}(hg:v.ownBlock=some g):some g≠v'.ownBlock:=by
 rcases h.2 with⟨rfl,_⟩|⟨g',cap,cur,rfl,_,hh,_⟩
 ·simp[Value.ownBlock] at hg
 ·have e:g'=g:=Option.some.inj hg
  subst e
  exact BT.neRow (c:=cur) hh k hn
structure Chg (S:Nat->Prop)(w w':World):Prop where
 os:w'.os=w.os
 tape:w'.tape=w.tape
 output:w'.output=w.output
 size:w.heap.size<=w'.heap.size
 block:∀b,b<w.heap.size->¬S b->w'.heap[b]?=w.heap[b]?
section
variable {S:Nat->Prop}{a b c w w':World}
theorem Chg.trans (h:Chg S a b)(k:Chg S b c):Chg S a c:=
 ⟨k.os.trans h.os,k.tape.trans h.tape,k.output.trans h.output,Nat.le_trans h.size k.size,λx hx hn=>(k.block x (Nat.lt_of_lt_of_le hx h.size) hn).trans (h.block x hx hn)⟩
theorem Chg.nx (h:Nx w w'):Chg S w w':=⟨h.os,h.tape,h.output,h.size,λx hx _=>h.block x hx⟩
theorem Chg.only {o:Option Nat}(h:Only o w w')(hS:∀b,some b=o->S b):Chg S w w':=⟨h.os,h.tape,h.output,h.size,λx hx hn=>h.block x hx (λe=>hn (hS x e))⟩
theorem Chg.grown {o:Option Nat}(h:w.grownBy w' o)(hS:∀b,some b=o->S b):Chg S w w':=⟨h.os,h.tape,h.output,h.size,λx hx hn=>h.block x hx (λe=>hn (hS x e))⟩
theorem Chg.set (g i:Nat)(v:Value)(hS:S g):Chg S w (w.setCell ⟨g,i,none⟩ v):=
 ⟨rfl,rfl,rfl,by simp[World.setCell],λx hx hn=>Below.heap_setCell _ _ _ _ (λe=>hn (by subst e;exact hS))⟩
theorem Chg.young {T:Nat->Prop}(h:Chg S a b)(k:Chg T b c)(hT:∀x,T x->x<a.heap.size->S x):Chg S a c:=
 ⟨k.os.trans h.os,k.tape.trans h.tape,k.output.trans h.output,Nat.le_trans h.size k.size,λx hx hn=>(k.block x (Nat.lt_of_lt_of_le hx h.size) (λe=>hn (hT x e hx))).trans (h.block x hx hn)⟩
theorem Chg.below (h:Chg S w w'){B:Nat}(hB:B<=w.heap.size)(hS:∀x,S x->B<=x):Below B w w':=⟨h.os,h.tape,h.output,h.size,λx hx=>h.block x (by omega) (λe=>by have:=hS x e;omega)⟩
theorem BT.chg {b t:Nat}{cs:Array Value}(h:BT w b cs t)(k:Chg S w w')(hn:¬S b):BT w' b cs t:=(k.block b h.lt hn).trans h
theorem row_chg {C t sz n:Nat}{v:Value}{xs:List Value}(h:w.ownsRow C t sz v n xs)(k:Chg S w w')(hn:∀g,v.ownBlock=some g->¬S g):w'.ownsRow C t sz v n xs:=by
 refine⟨h.1,?_⟩
 rcases h.2 with h2|⟨g,cap,cur,hv,hg,hh,r⟩
 ·exact Or.inl h2
 ·exact Or.inr ⟨g,cap,cur,hv,hg,(k.block g (Array.getElem?_eq_some_iff.1 hh).1 (hn g (by rw[hv];rfl))).trans hh,r⟩
end
end Go.Proofs.Ytdpfdkihbgmapaa
