import Derived.Test.YtdpfdkihbgmapaaGreatKH
import Derived.Test.YtdpfdkihbgmapaaGreatKQ
import Derived.OwnWalkIn
import Derived.TacticsInMore
namespace Go.Proofs.YtdpfdkihbgmapaaGreat
open Go.RowKit Go.Sort
set_option linter.unusedVariables false
set_option maxRecDepth 1000000
set_option maxHeartbeats 16000000
theorem tq {F:Fence}{n:Nat}{P:Program}{ops:Array Oper}{Q:Exit->Act->World->Prop}{md:Region.Mode}{S:World->Prop}{c i fuel:Nat}{oi:Oper}{v:Value}{listed:Array Bool}{a:Act}{w:World}(h:Cl md ops (listed.setIfInBounds i true)->wpAnyS F n P md ops Q S c fuel (listed.setIfInBounds i true) (a.put oi.dst v) w)(hi:ops[i]?=some oi:=by rfl)(hw:Waits md ops c:=by assumption)(hcl:Cl md ops listed:=by assumption)(hic:i<c:=by decide)(hd:NoDefer F ops:=by first|exact noDefer_none rfl|exact noDefer_round (by kernel_rfl))(hs:Region.noSelect ops=true:=by kernel_rfl)(hf:Region.free md ops listed i=true:=by kernel_rfl)(hr:(Region.ready md ops listed).contains i=true:=by kernel_rfl)(hQ:∀c a w,Q (.panic c) (a.put oi.dst v) w->Q (.panic c) a w:=by exact λ_ _ _ h=>h)(hS:S w:=by first|exact HSS.out|exact HS0.out)(hy:YF P ops S oi v a:=by refine⟨Or.inl ⟨by kernel_rfl,?_⟩,λ_=>rfl⟩;intro q hq;(repeat' (obtain⟨_,hq⟩:=hq));go_simp):wpAnyS F n P md ops Q S c (fuel+1) listed a w:=
 anyS_take hw hic hcl hd hi hs hf hr hQ hy hS h
structure SRs (br C:Nat)(w1 w:World)(S:Rs):Prop where
 box:∃vr vd,Blk w br #[vr,vd]/\OwnR C C w vr S.rules/\OwnD C w vd S.drops
 on:Only (some br) w1 w
theorem SRs.next {br C:Nat}{w1 w w':World}{S:Rs}(h:SRs br C w1 w S)(k:Nx w w'):SRs br C w1 w' S:=by
 obtain⟨vr,vd,h1,h2,h3⟩:=h.box
 exact⟨⟨vr,vd,h1.next k,h2.next k,h3.next k⟩,h.on.nx k⟩
theorem OwnR.store {C D:Nat}{w:World}{v:Value}{xs:List Ru}(h:OwnR C D w v xs){g:Nat}(hg:g<C)(hg':g<D)(o:Nat)(u:Value):OwnR C D (w.setCell ⟨g,o,none⟩ u) v xs:=by
 obtain⟨vs,h1,h2,h3⟩:=h
 exact⟨vs,h1,own_store h2 hg o u,λi hi=>own_store (h3 i hi) hg' o u⟩
theorem row_base {C C' ty sz n:Nat}{w:World}{v:Value}{xs:List Value}(h:w.ownsRow C ty sz v n xs)(hC:C'<=C):w.ownsRow C' ty sz v n xs:=by
 obtain⟨h1,h2⟩:=h
 refine⟨h1,?_⟩
 rcases h2 with h2|⟨g,cap,cur,hv,hg,r⟩
 ·exact Or.inl h2
 ·exact Or.inr ⟨g,cap,cur,hv,by omega,r⟩
theorem OwnR.base {C D C' D':Nat}{w:World}{v:Value}{xs:List Ru}(h:OwnR C D w v xs)(hC:C'<=C)(hD:D'<=D):OwnR C' D' w v xs:=by
 obtain⟨vs,h1,h2,h3⟩:=h
 exact⟨vs,h1,row_base h2 hC,λi hi=>(h3 i hi).base hD⟩
theorem SRs.drop {br C:Nat}{w1 w w7:World}{S:Rs}{vr vd v7:Value}{x:Dp}{o:Obj}(hbox:Blk w br #[vr,vd])(hr:OwnR C C w vr S.rules)(hd:OwnD C w vd S.drops)(hon:Only (some br) w1 w)(hC:br<C)(hw:w1.heap.size<=C)
  (hg:(w.alloc o).grownBy w7 vd.ownBlock) (hown:w7.ownsRow C 125 2 v7 (S.drops.length+1) (dcells S.drops++[.int .i64 x.rel,.int .i64 x.reason])):SRs br C w1 (w7.setCell ⟨br,1,none⟩ v7) ⟨S.rules,S.drops++[x]⟩:=by
 have hd':∀g,vd.ownBlock=some g->C<=g:=λg e=>(own_lt hd g e).1
 obtain⟨vs,r1,r2,r3⟩:=hr
 refine⟨⟨vr,v7,?_,⟨vs,r1,own_store (World.ownsRow.kept (World.ownsRow.alloc r2 o) hg (own_ne r2 hd (by decide))) hC 1 _,λi hi=>own_store (World.ownsRow.kept (World.ownsRow.alloc (r3 i hi) o) hg (own_ne (r3 i hi) hd (by decide))) hC 1 _⟩,own_store (OwnD.snoc hown) hC 1 _⟩,Only.app hon hg (λg e=>Nat.le_trans hw (hd' g e)) _⟩
 exact((hbox.alloc o).grown hg (λe=>by have:=hd' br e.symm;omega)).set 1 v7
theorem SRs.rule {br C:Nat}{w1 w w7:World}{S:Rs}{vr vd v7 u:Value}{x:Ru}{o:Obj}{vs:List Value}(hbox:Blk w br #[vr,vd])(r1:LnA vs S.rules.length)(r2:w.ownsRow C 36 3 vr S.rules.length (rcells S.rules vs))(r3:∀i,i<S.rules.length->OwnI C w (vat vs i) (ruat S.rules i).seq)(hd:OwnD C w vd S.drops)(hon:Only (some br) w1 w)(hC:br<C)(hw:w1.heap.size<=C)
  (hu:OwnI C w u x.seq) (hnw:∀i g,i<S.rules.length->(vat vs i).ownBlock=some g->u.ownBlock≠some g) (hg:(w.alloc o).grownBy w7 vr.ownBlock) (hown:w7.ownsRow C 36 3 v7 (S.rules.length+1) (rcells S.rules vs++[.int .i64 x.rel,.bool x.only,u])):SRs br C w1 (w7.setCell ⟨br,0,none⟩ v7) ⟨S.rules++[x],S.drops⟩:=by
 have hd':∀g,vr.ownBlock=some g->C<=g:=λg e=>(own_lt r2 g e).1
 refine⟨⟨v7,vd,?_,(OwnR.snoc r1 r2 r3 hu hnw o hg hown).store hC hC 0 _,own_store (World.ownsRow.kept (World.ownsRow.alloc hd o) hg (own_ne hd r2 (by decide))) hC 0 _⟩,Only.app hon hg (λg e=>Nat.le_trans hw (hd' g e)) _⟩
 exact((hbox.alloc o).grown hg (λe=>by have:=hd' br e.symm;omega)).set 0 v7
def rz (b:Bool):Int:=if b then 3 else 0
theorem cellX {w w':World}{r:Option Nat}{b o:Nat}{v:Value}(h:w.grownBy w' r)(hc:w.cell? ⟨b,o,none⟩=some v)(hn:some b≠r):w'.cell? ⟨b,o,none⟩=some v:=by
 rw[World.cell?_of_block (h.block b (cell_lt hc) hn)]
 exact hc
theorem cellS {w:World}{b o g i:Nat}{v u:Value}(hn:b≠g)(hc:w.cell? ⟨b,o,none⟩=some v):(w.setCell ⟨g,i,none⟩ u).cell? ⟨b,o,none⟩=some v:=by
 rw[World.cell?_of_block (Below.heap_setCell _ _ _ _ hn)]
 exact hc
theorem reason_none {rules:List Ru}{only:Bool}{ch:List (List Nat)}(h:ch.length=0):reason rules only ch=1:=by unfold reason;rw[if_pos h]
theorem reason_many {rules:List Ru}{only:Bool}{ch:List (List Nat)}(h:1<ch.length):reason rules only ch=2:=by unfold reason;rw[if_neg (by omega),if_pos h]
theorem reason_one {rules:List Ru}{only:Bool}{ch:List (List Nat)}(h:ch.length=1):reason rules only ch=if rpt rules only (nums (lsat ch 0)) then 3 else 0:=by unfold reason;rw[if_neg (by omega),if_neg (by omega)]
theorem resStep_drop {S:Rs}{r:Rl}{ch:List (List Nat)}{z:Int}(h:reason S.rules r.only ch=z)(hz:z≠0):resStep S r ch=⟨S.rules,S.drops++[⟨r.id,z⟩]⟩:=by unfold resStep;rw[h,if_neg hz]
theorem resStep_rule {S:Rs}{r:Rl}{ch:List (List Nat)}(h:reason S.rules r.only ch=0):resStep S r ch=⟨S.rules++[⟨r.id,r.only,nums (lsat ch 0)⟩],S.drops⟩:=by unfold resStep;rw[if_pos h]
def noRpt (rules:List Ru)(only:Bool)(seq:List Int)(k:Nat):Bool:=(rules.take k).any λu=>u.only==only&&decide (u.seq=seq)
theorem noRpt_succ {rules:List Ru}{only:Bool}{seq:List Int}{k:Nat}(hk:k<rules.length):noRpt rules only seq (k+1)=(noRpt rules only seq k||((ruat rules k).only==only&&decide ((ruat rules k).seq=seq))):=by
 unfold noRpt
 rw[List.take_succ_eq_append_getElem hk,List.any_append,ruat_eq hk]
 simp
theorem noRpt_all (rules:List Ru)(only:Bool)(seq:List Int):noRpt rules only seq rules.length=rpt rules only seq:=by
 unfold noRpt rpt
 rw[List.take_length]
def AllIn (N:Nt)(R:Rd):Prop:=∀k,k<N.rels.length->RelIn N R (rat N.rels k)
def chOf (N:Nt)(R:Rd):Rl->List (List Nat):=λr=>chainsR N R.nodes R.edges r
theorem l2Resolve_any (B0 B:Nat)(n0 n1 n2 n3:Value)(N:Nt)(v0 v1 v2 v3:Value)(R:Rd)(w:World)(hN:HNet B0 w n0 n1 n2 n3 N)(h0:HRoad B w v0 v1 v2 v3 R)(hm:R.edges.length<=4000)(hR:AllIn N R)(hrl:N.rels.length<=1000) :
  Calls Tryz.prog 60 #[.agg #[n0,n1,n2,n3,.int .i64 N.uturn],.agg #[v0,v1,v2,v3]] w λe w'=>(∃vr vd,e=.returned (.agg #[vr,vd])/\OwnR w.heap.size w.heap.size w' vr (resTo (chOf N R) N.rels N.rels.length).rules/\OwnD w.heap.size w' vd (resTo (chOf N R) N.rels N.rels.length).drops)/\Nx w w':=by
 obtain⟨iR,hiR,hzR0,hzR1,hzR2⟩:=info_parts infoRule
 obtain⟨iD,hiD,hzD0,hzD1,hzD2⟩:=info_parts infoDrop
 have HNET:Hid (HNet B0 w n0 n1 n2 n3 N):=hN
 have HROAD:Hid (HRoad B w v0 v1 v2 v3 R):=h0
 have HR:Hid (AllIn N R):=hR
 clear hN h0 hR
 obtain⟨a0,q0,e0,jm,jk⟩:=HNET.out.1
 clear jm jk
 obtain⟨a1,q1,e1,jm,jk⟩:=HNET.out.2.1
 clear jm jk
 obtain⟨a2,q2,e2,jm,jk⟩:=HNET.out.2.2.1
 clear jm jk
 obtain⟨a3,q3,e3,jm,jk⟩:=HNET.out.2.2.2
 clear jm jk
 generalize N.nodes.length=l0 at e0
 generalize N.ways.length=l1 at e1
 generalize N.turns.length=l3 at e3
 obtain⟨a4,q4,e4,jm,jk⟩:=HROAD.out.1
 clear jm jk
 obtain⟨a5,q5,e5,jm,jk⟩:=HROAD.out.2.1
 clear jm jk
 obtain⟨a6,q6,e6,jm,jk⟩:=HROAD.out.2.2.1
 clear jm jk
 obtain⟨a7,q7,e7,jm,jk⟩:=HROAD.out.2.2.2
 clear jm jk
 generalize R.nodes.length=l4 at e4
 generalize R.edges.length=l5 at e5
 generalize R.first.length=l6 at e6
 generalize R.out.length=l7 at e7
 subst e0 e1 e2 e3 e4 e5 e6 e7
 generalize hnl:N.rels.length=l2 at *
 have HNL:Hid (N.rels.length=l2):=hnl
 clear hnl
 generalize hW0:((w.alloc (.cells #[.slice a0 l0 q0,.slice a1 l1 q1,.slice a2 l2 q2,.slice a3 l3 q3,.int .i64 N.uturn] 86)).alloc (.cells #[.slice a4 l4 q4,.slice a5 l5 q5,.slice a6 l6 q6,.slice a7 l7 q7] 106)).alloc (.cells #[.slice none 0 0,.slice none 0 0] 80)=w0
 have HX0:Hid (Nx w w0):=by unfold Hid;rw[<-hW0];exact(box2 _ _ _).alloc _
 have BN:Hid (Blk w0 w.heap.size #[.slice a0 l0 q0,.slice a1 l1 q1,.slice a2 l2 q2,.slice a3 l3 q3,.int .i64 N.uturn]):=by unfold Hid;rw[<-hW0];exact((Blk.new w _ _ _ rfl).alloc _).alloc _
 have BR:Hid (Blk w0 (w.heap.size+1) #[.slice a4 l4 q4,.slice a5 l5 q5,.slice a6 l6 q6,.slice a7 l7 q7]):=by unfold Hid;rw[<-hW0];exact(Blk.new _ _ _ _ (by rw[size_alloc'])).alloc _
 have BO:Hid (Blk w0 (w.heap.size+2) #[.slice none 0 0,.slice none 0 0]):=by unfold Hid;rw[<-hW0];exact Blk.new _ _ _ _ (by rw[size_alloc',size_alloc'])
 have HZ0:Hid (w0.heap.size=w.heap.size+3):=by unfold Hid;rw[<-hW0,size_alloc',size_alloc',size_alloc']
 go_enter Tryz.func60,Tryz.ntmps60
 go_upto_region 1 with fail
 clear hW0
 go_upto_region 2 with fail
 generalize hW1:w0.alloc (.cells #[.slice none 0 0,.slice none 0 0] 80)=w1
 have HX01:Hid (Nx w0 w1):=by unfold Hid;rw[<-hW1];exact box1 _ _
 have HB1:Hid (Blk w1 w0.heap.size #[.slice none 0 0,.slice none 0 0]):=by unfold Hid;rw[<-hW1];exact Blk.new _ _ _ _ rfl
 have HZ1:Hid (w1.heap.size=w.heap.size+4):=by unfold Hid;rw[<-hW1,size_alloc',HZ0.out]
 have HS1:Hid (SRs w0.heap.size w1.heap.size w1 w1 (resTo (chOf N R) N.rels 0)):=⟨⟨_,_,HB1.out,⟨[],⟨rfl,λi j g _ hj=>absurd hj (Nat.not_lt_zero _)⟩,⟨rfl,.inl ⟨rfl,rfl⟩⟩,λi hi=>absurd hi (Nat.not_lt_zero _)⟩,⟨rfl,.inl ⟨rfl,rfl⟩⟩⟩,Only.refl _ _⟩
 clear hW1
 go_wp2
 go_loopw [6] (λi wr=>∃k:Nat,k<=l2/\i=.int .i64 k/\Hid (SRs w0.heap.size w1.heap.size w1 wr (resTo (chOf N R) N.rels k))) (λi _=>l2-(intOf i).toNat)
 case atStart=>exact⟨0,Nat.zero_le _,rfl,HS1⟩
 clear HS1 HB1
 obtain⟨k,hkm,rfl,HS⟩:=hrel
 have HBW:Hid (Below w.heap.size w wr):=Below.trans (HX0.out.trans HX01.out) (HS.out.on.below (by intro g hg;cases hg;have:=HZ0.out;omega) (by have:=HZ1.out;omega))
 have BNr:=HS.out.on.blk (BN.out.next HX01.out) (by intro e;have:=Option.some.inj e;have:=HZ0.out;omega)
 have kn2:=BNr.cell (i:=2) rfl
 by_cases hlt:k<l2
 case neg=>
  have ek:l2=k:=by omega
  subst ek
  obtain⟨vr,vd,hbox,hr,hd⟩:=HS.out.box
  obtain⟨vs,jv,hrow,jw⟩:=hr
  obtain⟨ar,cr,hvr⟩:=row_slice hrow
  obtain⟨ad,cd,hvd⟩:=row_slice hd
  have HRR:Hid (OwnR w1.heap.size w1.heap.size wr vr (resTo (chOf N R) N.rels l2).rules):=⟨vs,jv,hrow,jw⟩
  have HDD:Hid (OwnD w1.heap.size wr vd (resTo (chOf N R) N.rels l2).drops):=hd
  generalize (resTo (chOf N R) N.rels l2).rules.length=nr at hvr
  generalize (resTo (chOf N R) N.rels l2).drops.length=nd at hvd
  subst hvr hvd
  have BOr:=HS.out.on.blk (BO.out.next HX01.out) (by intro e;have:=Option.some.inj e;have:=HZ0.out;omega)
  have x0:=hbox.cell (i:=0) rfl
  have x1:=hbox.cell (i:=1) rfl
  have y0:wr.cell? ⟨w.heap.size+1+1,0,none⟩=some (.slice none 0 0):=BOr.cell (i:=0) rfl
  have y1:wr.cell? ⟨w.heap.size+1+1,1,none⟩=some (.slice none 0 0):=BOr.cell (i:=1) rfl
  have z0:wr.frozen? ⟨w.heap.size+1+1,0,none⟩=false:=BOr.frozen 0
  have z1:wr.frozen? ⟨w.heap.size+1+1,1,none⟩=false:=BOr.frozen 1
  have BR':=(BOr.set 0 (.slice ar nr cr)).set 1 (.slice ad nd cd)
  have p0:_=some (Value.slice ar nr cr):=BR'.cell (i:=0) rfl
  have p1:_=some (Value.slice ad nd cd):=BR'.cell (i:=1) rfl
  clear hbox hrow hd jv jw hlt hkm BR'
  go_wp2
  refine bodyPost_ret (v:=.agg #[.slice ar nr cr,.slice ad nd cd]) (by simp[results,Tryz.results60,go_sem,p0,p1]) rfl ?_
  have h1:w.heap.size+1+1<w1.heap.size:=by have:=HZ1.out;omega
  have h2:w.heap.size<=w1.heap.size:=by omega
  have h3:w.heap.size<=w.heap.size+1+1:=by omega
  refine⟨⟨_,_,rfl,((HRR.out.store h1 h1 _ _).store h1 h1 _ _).base h2 h2,row_base (own_store (own_store HDD.out h1 _ _) h1 _ _) h2⟩,Below.setCell (Below.setCell HBW.out h3 _) h3 _⟩
 have hlt':(k:Int)<l2:=by omega
 have HKR:Hid (k<N.rels.length):=by unfold Hid;rw[HNL.out];exact hlt
 have HRI:=HR.out k HKR.out
 obtain⟨vr,vd,hbx0,hr0,hd0⟩:=HS.out.box
 have HBX0:Hid (Blk wr w0.heap.size #[vr,vd]):=hbx0
 have HR0:Hid (OwnR w1.heap.size w1.heap.size wr vr (resTo (chOf N R) N.rels k).rules):=hr0
 have HR0z:Hid (OwnRb w1.heap.size w1.heap.size wr.heap.size wr vr (resTo (chOf N R) N.rels k).rules):=hr0.zb (Nat.le_refl _)
 have HD0:Hid (OwnD w1.heap.size wr vd (resTo (chOf N R) N.rels k).drops):=hd0
 have HVL:Hid (∀g,vr.ownBlock=some g->g<wr.heap.size):=by
  obtain⟨vs,_,hrow,_⟩:=hr0
  exact λg e=>(own_lt hrow g e).2
 clear hbx0 hr0 hd0
 have HSTEP:Hid (resTo (chOf N R) N.rels (k+1)=resStep (resTo (chOf N R) N.rels k) (rat N.rels k) (chainsR N R.nodes R.edges (rat N.rels k))):=rfl
 have HRL:=resTo_len (chOf N R) N.rels k
 obtain⟨ar,capr,er,jm,hkr⟩:=HNET.out.2.2.1
 simp only[Value.slice.injEq] at er
 obtain⟨rfl,jl,rfl⟩:=er
 obtain⟨br,obr,rfl,jB,hbr,hcr⟩:=hkr (by omega)
 obtain⟨vw,c0,c1,c2,c3,c4,c5,c6,hw⟩:=hcr k HKR.out
 clear jm jl jB hkr hcr
 generalize rat N.rels k=r at *
 obtain⟨aw,qw,ew,jm,jk⟩:=id hw
 clear jm jk
 generalize r.ways.length=lw at ew
 subst ew
 have HWI:Hid (HInts B0 w (.slice aw lw qw) r.ways):=hw
 have HRI2:Hid (RelIn N R r):=HRI
 have d0:=cell_next HBW.out hbr c0
 have d1:=cell_next HBW.out hbr c1
 have d2:=cell_next HBW.out hbr c2
 have d3:=cell_next HBW.out hbr c3
 have d4:=cell_next HBW.out hbr c4
 have d5:=cell_next HBW.out hbr c5
 have d6:=cell_next HBW.out hbr c6
 generalize hSk:resTo (chOf N R) N.rels k=Sk at *
 clear hSk
 have hr1:Sk.rules.length<=1000:=by omega
 have hr2:Sk.drops.length<=1000:=by omega
 clear c0 c1 c2 c3 c4 c5 c6 hw HRI HRL
 go_upto_region 6 with fail
 clear d0 d1 d2 d3 d4 d5 d6 kn2
 have HX5:Hid (Nx wr (wr.alloc (.cells #[.int .i64 r.id,.bool r.only,.int .i64 r.frm,.int .i64 r.to,.bool r.via,.int .i64 r.node,.slice aw lw qw] 109))):=box1 _ _
 have HZ5a:Hid ((wr.alloc (.cells #[.int .i64 r.id,.bool r.only,.int .i64 r.frm,.int .i64 r.to,.bool r.via,.int .i64 r.node,.slice aw lw qw] 109)).heap.size=wr.heap.size+1):=size_alloc' _ _
 have BL5:Hid (Blk (wr.alloc (.cells #[.int .i64 r.id,.bool r.only,.int .i64 r.frm,.int .i64 r.to,.bool r.via,.int .i64 r.node,.slice aw lw qw] 109)) wr.heap.size #[.int .i64 r.id,.bool r.only,.int .i64 r.frm,.int .i64 r.to,.bool r.via,.int .i64 r.node,.slice aw lw qw]):=Blk.new wr _ _ _ rfl
 generalize wr.alloc (.cells #[.int .i64 r.id,.bool r.only,.int .i64 r.frm,.int .i64 r.to,.bool r.via,.int .i64 r.node,.slice aw lw qw] 109)=w5 at *
 have HS5:Hid (SRs w0.heap.size w1.heap.size w1 w5 Sk):=HS.out.next HX5.out
 have HBW5:Hid (Below w.heap.size w w5):=Below.trans HBW.out (Below.mono HX5.out HBW.out.size)
 have BN5:=BNr.next HX5.out
 have BR5:=(HS.out.on.blk (BR.out.next HX01.out) (by intro e;have:=Option.some.inj e;have:=HZ0.out;omega)).next HX5.out
 have m0:=BN5.cell (i:=0) rfl
 have m1:=BN5.cell (i:=1) rfl
 have m2:=BN5.cell (i:=2) rfl
 have m3:=BN5.cell (i:=3) rfl
 have m4:=BN5.cell (i:=4) rfl
 have o0:=BR5.cell (i:=0) rfl
 have o1:=BR5.cell (i:=1) rfl
 have o2:=BR5.cell (i:=2) rfl
 have o3:=BR5.cell (i:=3) rfl
 have p0:=BL5.out.cell (i:=0) rfl
 have p1:=BL5.out.cell (i:=1) rfl
 have p2:=BL5.out.cell (i:=2) rfl
 have p3:=BL5.out.cell (i:=3) rfl
 have p4:=BL5.out.cell (i:=4) rfl
 have p5:=BL5.out.cell (i:=5) rfl
 have p6:=BL5.out.cell (i:=6) rfl
 go_wp2_with fail
 refine(l2Chains_any B0 B B0 _ _ _ _ N _ _ _ _ R r _ w5 (by exact HNET.out.next HBW5.out) (by exact HROAD.out.next HBW5.out) (by exact HWI.out.next HBW5.out) hm HRI2.out).mono ?_
 rintro e w6 ⟨⟨uc,rfl,hO⟩,hx6⟩
 have HX6:Hid (Nx w5 w6):=hx6
 have HS6:Hid (SRs w0.heap.size w1.heap.size w1 w6 Sk):=HS5.out.next hx6
 have BL6:Hid (Blk w6 wr.heap.size #[.int .i64 r.id,.bool r.only,.int .i64 r.frm,.int .i64 r.to,.bool r.via,.int .i64 r.node,.slice aw lw qw]):=BL5.out.next hx6
 have HC5:Hid (w1.heap.size<=w5.heap.size):=Nat.le_trans HS.out.on.size HX5.out.size
 have HOW:Hid (OwnW w5.heap.size w6 uc ((chainsR N R.nodes R.edges r).map nums)):=hO
 have HOC5:Hid (∀g,uc.ownBlock=some g->w5.heap.size<=g):=hO.lt
 have HOC:Hid (OwnW w1.heap.size w6 uc ((chainsR N R.nodes R.edges r).map nums)):=hO.base HC5.out
 have HCB:Hid (w0.heap.size<w1.heap.size):=by have:=HZ0.out;have:=HZ1.out;unfold Hid;omega
 generalize hch:chainsR N R.nodes R.edges r=ch at *
 clear hch hO hx6 m0 m1 m2 m3 m4 o0 o1 o2 o3 p0 p1 p2 p3 p4 p5 p6
 obtain⟨ca,cc,hce⟩:=HOC.out.slice
 rw[List.length_map] at hce
 generalize hcl:ch.length=cl at *
 have HCL:Hid (ch.length=cl):=hcl
 subst hce
 clear hcl
 have HZ5:Hid (w5.heap.size=wr.heap.size+1):=HZ5a.out
 by_cases hc0:cl=0
 ·have f0:((cl:Int)==0)=true:=by simpa using hc0
  have f1:decide (1<(cl:Int))=false:=by simp;omega
  have f2:((cl:Int)==1)=false:=by simp;omega
  have HRE:Hid (reason Sk.rules r.only ch=1):=reason_none (by rw[HCL.out];exact hc0)
  clear hc0
  have HE:Hid (resStep Sk r ch=⟨Sk.rules,Sk.drops++[⟨r.id,1⟩]⟩):=resStep_drop HRE.out (by decide)
  obtain⟨vr,vd,hbox,hr,hd⟩:=HS6.out.box
  obtain⟨ad,cd,hvd⟩:=row_slice hd
  have HD:Hid (OwnD w1.heap.size w6 vd Sk.drops):=hd
  have HRW:Hid (OwnR w1.heap.size w1.heap.size w6 vr Sk.rules):=hr
  have HBX:Hid (Blk w6 w0.heap.size #[vr,vd]):=hbox
  generalize hnd:Sk.drops.length=nd at *
  have HND:Hid (Sk.drops.length=nd):=hnd
  subst hvd
  have x1:=hbox.cell (i:=1) rfl
  have kid:=BL6.out.cell (i:=0) rfl
  have HCW:Hid (w1.heap.size<=w6.heap.size):=HS6.out.on.size
  have HBL:Hid (w0.heap.size<w6.heap.size):=hbox.lt
  clear hr hd hbox hnd
  go_wp2_with (at_builtin;refine wpList_append_own_at _ rfl _ _ 78 rfl w1.heap.size 125 iD (.agg #[.int .i64 0,.int .i64 0]) 2 16 Tryz.underlying78 hiD hzD0 hzD1 hzD2 rfl (by decide) _ _ _ rfl (World.ownsRow.alloc HD.out _) ⟨w6.heap.size,0,none⟩ 1 1 [.int .i64 r.id,.int .i64 1] rfl rfl ?f1 ?f2 ?f3 ?f4 ?f5 ?_)
  case f1=>intro j u hj;exact new_cells _ _ _ _ rfl j u hj
  case f2=>intro u hu;simp at hu;rcases hu with rfl|rfl<;>rfl
  case f3=>rw[HND.out];unfold maxLen;omega
  case f4=>rw[HND.out];omega
  case f5=>rw[size_alloc'];have:=HCW.out;omega
  intro v7 w7 hown hgrow _ hat7
  have HS7:Hid (SRs w0.heap.size w1.heap.size w1 (w7.setCell ⟨w0.heap.size,1,none⟩ v7) (resTo (chOf N R) N.rels (k+1))):=by unfold Hid;rw[HSTEP.out,HE.out];exact SRs.drop (x:=⟨r.id,1⟩) HBX.out HRW.out HD.out HS6.out.on HCB.out (Nat.le_refl _) hgrow hown
  have BX7:=(HBX.out.alloc _).grown hgrow (λe=>by have:=(own_lt HD.out _ e.symm).1;have:=HCB.out;omega)
  have x7:=BX7.cell (i:=1) rfl
  have f7:=BX7.frozen 1
  obtain⟨a7',c7',hv7⟩:=row_slice hown
  subst hv7
  clear hown hgrow hat7 x1 kid BX7
  go_wp2
  go_roundw
  case rel=>exact⟨k+1,by omega,by go_num,HS7⟩
  case measure=>simp[intOf];omega
 by_cases hc1:1<cl
 ·have f0:((cl:Int)==0)=false:=by simpa using hc0
  have f1:decide (1<(cl:Int))=true:=by simp;omega
  have f2:((cl:Int)==1)=false:=by simp;omega
  have HRE:Hid (reason Sk.rules r.only ch=2):=reason_many (by rw[HCL.out];exact hc1)
  clear hc0 hc1
  have HE:Hid (resStep Sk r ch=⟨Sk.rules,Sk.drops++[⟨r.id,2⟩]⟩):=resStep_drop HRE.out (by decide)
  obtain⟨vr,vd,hbox,hr,hd⟩:=HS6.out.box
  obtain⟨ad,cd,hvd⟩:=row_slice hd
  have HD:Hid (OwnD w1.heap.size w6 vd Sk.drops):=hd
  have HRW:Hid (OwnR w1.heap.size w1.heap.size w6 vr Sk.rules):=hr
  have HBX:Hid (Blk w6 w0.heap.size #[vr,vd]):=hbox
  generalize hnd:Sk.drops.length=nd at *
  have HND:Hid (Sk.drops.length=nd):=hnd
  subst hvd
  have x1:=hbox.cell (i:=1) rfl
  have kid:=BL6.out.cell (i:=0) rfl
  have HCW:Hid (w1.heap.size<=w6.heap.size):=HS6.out.on.size
  have HBL:Hid (w0.heap.size<w6.heap.size):=hbox.lt
  clear hr hd hbox hnd
  go_wp2_with (at_builtin;refine wpList_append_own_at _ rfl _ _ 78 rfl w1.heap.size 125 iD (.agg #[.int .i64 0,.int .i64 0]) 2 16 Tryz.underlying78 hiD hzD0 hzD1 hzD2 rfl (by decide) _ _ _ rfl (World.ownsRow.alloc HD.out _) ⟨w6.heap.size,0,none⟩ 1 1 [.int .i64 r.id,.int .i64 2] rfl rfl ?f1 ?f2 ?f3 ?f4 ?f5 ?_)
  case f1=>intro j u hj;exact new_cells _ _ _ _ rfl j u hj
  case f2=>intro u hu;simp at hu;rcases hu with rfl|rfl<;>rfl
  case f3=>rw[HND.out];unfold maxLen;omega
  case f4=>rw[HND.out];omega
  case f5=>rw[size_alloc'];have:=HCW.out;omega
  intro v7 w7 hown hgrow _ hat7
  have HS7:Hid (SRs w0.heap.size w1.heap.size w1 (w7.setCell ⟨w0.heap.size,1,none⟩ v7) (resTo (chOf N R) N.rels (k+1))):=by unfold Hid;rw[HSTEP.out,HE.out];exact SRs.drop (x:=⟨r.id,2⟩) HBX.out HRW.out HD.out HS6.out.on HCB.out (Nat.le_refl _) hgrow hown
  have BX7:=(HBX.out.alloc _).grown hgrow (λe=>by have:=(own_lt HD.out _ e.symm).1;have:=HCB.out;omega)
  have x7:=BX7.cell (i:=1) rfl
  have f7:=BX7.frozen 1
  obtain⟨a7',c7',hv7⟩:=row_slice hown
  subst hv7
  clear hown hgrow hat7 x1 kid BX7
  go_wp2
  go_roundw
  case rel=>exact⟨k+1,by omega,by go_num,HS7⟩
  case measure=>simp[intOf];omega
 have hc2:cl=1:=by omega
 subst hc2
 clear hc0 hc1
 have HOC0:=HOW.out.at (i:=0) (by rw[List.length_map,HCL.out];omega)
 rw[wd_nums (by rw[HCL.out];omega)] at HOC0
 obtain⟨gc,u0,hca,hcg,hO0⟩:=HOC0
 subst hca
 have HREA:Hid (reason Sk.rules r.only ch=if rpt Sk.rules r.only (nums (lsat ch 0)) then 3 else 0):=reason_one HCL.out
 have HSTR:Hid (reason Sk.rules r.only ch=0->resStep Sk r ch=⟨Sk.rules++[⟨r.id,r.only,nums (lsat ch 0)⟩],Sk.drops⟩):=resStep_rule
 generalize nums (lsat ch 0)=seq at *
 have HO0:Hid (OwnI w1.heap.size w6 u0 seq):=hO0.base HC5.out
 have HOB:Hid (∀g,u0.ownBlock=some g->w5.heap.size<=g):=λg e=>(own_lt hO0 g e).1
 obtain⟨sa,scp,hu0⟩:=hO0.slice
 generalize seq.length=sn at hu0
 subst hu0
 have HRW:Hid (OwnR w1.heap.size w1.heap.size w6 vr Sk.rules):=(HR0.out.next HX5.out).next HX6.out
 have HRWz:Hid (OwnRb w1.heap.size w1.heap.size wr.heap.size w6 vr Sk.rules):=(HR0z.out.next HX5.out).next HX6.out
 have HDW:Hid (OwnD w1.heap.size w6 vd Sk.drops):=(HD0.out.next HX5.out).next HX6.out
 have HBX:Hid (Blk w6 w0.heap.size #[vr,vd]):=(HBX0.out.next HX5.out).next HX6.out
 have hr:=HRW.out
 have hd:=HDW.out
 obtain⟨vs,jv,hrow,jw⟩:=hr
 obtain⟨arr,crr,hvr⟩:=row_slice hrow
 obtain⟨add,cdd,hvd⟩:=row_slice hd
 generalize hnr:Sk.rules.length=nr at *
 have HNR:Hid (Sk.rules.length=nr):=hnr
 generalize Sk.drops.length=ndd at hvd
 subst hvr hvd
 have HSEPA:Hid ((∀g,(Value.slice arr nr crr).ownBlock=some g->g<wr.heap.size)/\wr.heap.size<gc/\w0.heap.size<wr.heap.size):=⟨HVL.out,by have:=HOC5.out gc rfl;have:=HZ5.out;omega,by have:=HS.out.on.size;have:=HCB.out;omega⟩
 clear hd jv jw hrow hO0 hnr
 have HCG:Hid (w6.cell? ⟨gc,0,none⟩=some (.slice sa sn scp)):=hcg
 clear hcg
 generalize wr.heap.size=bL at *
 go_wp2
 go_loopw [9,10] (λz j wr=>∃q:Nat,q<=nr/\j=.int .i64 q/\z=.int .i64 (rz (noRpt Sk.rules r.only seq q))/\Hid (Nx w6 wr)) (λ_ j _=>nr-(intOf j).toNat)
 case atStart=>exact⟨0,Nat.zero_le _,rfl,by simp[noRpt,rz],Below.refl _ _⟩
 obtain⟨q,hqm,rfl,rfl,HNQ⟩:=hrel
 have x0:=cellq HNQ.out (HBX.out.cell (i:=0) rfl)
 by_cases hq:q<nr
 case neg=>
  have eq:nr=q:=by omega
  subst eq
  have HALL:Hid (noRpt Sk.rules r.only seq nr=rpt Sk.rules r.only seq):=by unfold Hid;rw[<-HNR.out];exact noRpt_all _ _ _
  rw[HALL.out]
  have HSQ:Hid (SRs w0.heap.size w1.heap.size w1 wr (Sk)):=HS6.out.next HNQ.out
  have BLQ:Hid (Blk wr bL #[.int .i64 r.id,.bool r.only,.int .i64 r.frm,.int .i64 r.to,.bool r.via,.int .i64 r.node,.slice aw lw qw]):=BL6.out.next HNQ.out
  cases hrp:rpt Sk.rules r.only seq
  case true=>
   have HRE:Hid (reason Sk.rules r.only ch=3):=by unfold Hid;rw[HREA.out,hrp];rfl
   rw[show rz true=3 from rfl]
   clear hrp HRW HDW HBX
   have HE:Hid (resStep Sk r ch=⟨Sk.rules,Sk.drops++[⟨r.id,3⟩]⟩):=resStep_drop HRE.out (by decide)
   obtain⟨vr,vd,hbox,hr,hd⟩:=HSQ.out.box
   obtain⟨ad,cd,hvd⟩:=row_slice hd
   have HD:Hid (OwnD w1.heap.size wr vd Sk.drops):=hd
   have HRW:Hid (OwnR w1.heap.size w1.heap.size wr vr Sk.rules):=hr
   have HBX:Hid (Blk wr w0.heap.size #[vr,vd]):=hbox
   generalize hnd:Sk.drops.length=nd at *
   have HND:Hid (Sk.drops.length=nd):=hnd
   subst hvd
   have x1:=hbox.cell (i:=1) rfl
   have kid:=BLQ.out.cell (i:=0) rfl
   have HCW:Hid (w1.heap.size<=wr.heap.size):=HSQ.out.on.size
   have HBL:Hid (w0.heap.size<wr.heap.size):=hbox.lt
   clear hr hd hbox hnd
   go_wp2_with (at_builtin;refine wpList_append_own_at _ rfl _ _ 78 rfl w1.heap.size 125 iD (.agg #[.int .i64 0,.int .i64 0]) 2 16 Tryz.underlying78 hiD hzD0 hzD1 hzD2 rfl (by decide) _ _ _ rfl (World.ownsRow.alloc HD.out _) ⟨wr.heap.size,0,none⟩ 1 1 [.int .i64 r.id,.int .i64 3] rfl rfl ?f1 ?f2 ?f3 ?f4 ?f5 ?_)
   case f1=>intro j u hj;exact new_cells _ _ _ _ rfl j u hj
   case f2=>intro u hu;simp at hu;rcases hu with rfl|rfl<;>rfl
   case f3=>rw[HND.out];unfold maxLen;omega
   case f4=>rw[HND.out];omega
   case f5=>rw[size_alloc'];have:=HCW.out;omega
   intro v7 w7 hown hgrow _ hat7
   have HS7:Hid (SRs w0.heap.size w1.heap.size w1 (w7.setCell ⟨w0.heap.size,1,none⟩ v7) (resTo (chOf N R) N.rels (k+1))):=by unfold Hid;rw[HSTEP.out,HE.out];exact SRs.drop (x:=⟨r.id,3⟩) HBX.out HRW.out HD.out HSQ.out.on HCB.out (Nat.le_refl _) hgrow hown
   have BX7:=(HBX.out.alloc _).grown hgrow (λe=>by have:=(own_lt HD.out _ e.symm).1;have:=HCB.out;omega)
   have x7:=BX7.cell (i:=1) rfl
   have f7:=BX7.frozen 1
   obtain⟨a7',c7',hv7⟩:=row_slice hown
   subst hv7
   clear hown hgrow hat7 x1 kid BX7
   go_wp2
   go_roundw
   case rel=>exact⟨k+1,by omega,by go_num,HS7⟩
   case measure=>simp[intOf];omega
  case false=>
   have HRE:Hid (reason Sk.rules r.only ch=0):=by unfold Hid;rw[HREA.out,hrp];rfl
   have HE:Hid (resStep Sk r ch=⟨Sk.rules++[⟨r.id,r.only,seq⟩],Sk.drops⟩):=HSTR.out HRE.out
   rw[show rz false=0 from rfl]
   clear hrp
   obtain⟨vs,jv,hrow,jw⟩:=HRWz.out.next HNQ.out
   have HJV:Hid (LnA vs Sk.rules.length):=jv.1
   have HJN:Hid (∀i g,i<Sk.rules.length->(vat vs i).ownBlock=some g->(Value.slice sa sn scp).ownBlock≠some g):=λi g hi e e'=>by have q1:=jv.2 i g hi e;have q2:=HOB.out g e';have q3:=HZ5.out;omega
   have HROW:Hid (wr.ownsRow w1.heap.size 36 3 (.slice arr nr crr) Sk.rules.length (rcells Sk.rules vs)):=hrow
   have HJW:Hid (∀i,i<Sk.rules.length->OwnI w1.heap.size wr (vat vs i) (ruat Sk.rules i).seq):=jw
   have HDR:Hid (OwnD w1.heap.size wr (.slice add ndd cdd) Sk.drops):=HDW.out.next HNQ.out
   have HBR:Hid (Blk wr w0.heap.size #[.slice arr nr crr,.slice add ndd cdd]):=HBX.out.next HNQ.out
   have HOR:Hid (OwnI w1.heap.size wr (.slice sa sn scp) seq):=HO0.out.next HNQ.out
   have kcg:=cellq HNQ.out HCG.out
   have k0:=BLQ.out.cell (i:=0) rfl
   have k1:=BLQ.out.cell (i:=1) rfl
   have HCW:Hid (w1.heap.size<=wr.heap.size):=HSQ.out.on.size
   clear jv hrow jw HRW HDW HBX hq hqm
   go_upto_region 19 with fail
   have HNRW:Hid (Sk.rules.length=nr):=HNR.out
   have HNEL:Hid ((∀g,(Value.slice arr nr crr).ownBlock=some g->g<bL)/\bL<gc/\w0.heap.size<bL):=HSEPA.out
   have hmx:Tryz.prog.follows .mixedOrders=true:=by kernel_rfl
   refine(wpIn_wide (n:=9)).1 ?_
   have HS0:Hid ((λw=>w.cell? ⟨w0.heap.size,0,none⟩=some (.slice arr nr crr)/\w.cell? ⟨bL,0,none⟩=some (.int .i64 r.id)/\w.cell? ⟨bL,1,none⟩=some (.bool r.only)/\w.cell? ⟨gc,0,none⟩=some (.slice sa sn scp)) wr.drew):=⟨x0,k0,k1,kcg⟩
   refine wpIn_region_S (c:=14) (S:=λw=>w.cell? ⟨w0.heap.size,0,none⟩=some (.slice arr nr crr)/\w.cell? ⟨bL,0,none⟩=some (.int .i64 r.id)/\w.cell? ⟨bL,1,none⟩=some (.bool r.only)/\w.cell? ⟨gc,0,none⟩=some (.slice sa sn scp)) hmx (by kernel_rfl) (λhw hcl=>?_)
   refine anyS_take (i:=0) (v:=.pointer (some ⟨w0.heap.size,0,none⟩)) hw (by decide) hcl (noDefer_none rfl) rfl (by kernel_rfl) (by kernel_rfl) (by kernel_rfl) (λ_ _ _ h=>h) ⟨Or.inl ⟨by rfl,?y0⟩,λ_=>rfl⟩ HS0.out (λhcl=>?_)
   case y0=>
    rintro w ⟨c1,c2,c3,c4⟩
    go_simp
   refine anyS_take (i:=1) (v:=.slice arr nr crr) hw (by decide) hcl (noDefer_none rfl) rfl (by kernel_rfl) (by kernel_rfl) (by kernel_rfl) (λ_ _ _ h=>h) ⟨Or.inl ⟨by rfl,?y1⟩,λ_=>rfl⟩ HS0.out (λhcl=>?_)
   case y1=>
    rintro w ⟨c1,c2,c3,c4⟩
    go_simp
   refine anyS_take (i:=2) (v:=.pointer (some ⟨bL,0,none⟩)) hw (by decide) hcl (noDefer_none rfl) rfl (by kernel_rfl) (by kernel_rfl) (by kernel_rfl) (λ_ _ _ h=>h) ⟨Or.inl ⟨by rfl,?y2⟩,λ_=>rfl⟩ HS0.out (λhcl=>?_)
   case y2=>
    rintro w ⟨c1,c2,c3,c4⟩
    go_simp
   refine anyS_take (i:=3) (v:=.int .i64 r.id) hw (by decide) hcl (noDefer_none rfl) rfl (by kernel_rfl) (by kernel_rfl) (by kernel_rfl) (λ_ _ _ h=>h) ⟨Or.inl ⟨by rfl,?y3⟩,λ_=>rfl⟩ HS0.out (λhcl=>?_)
   case y3=>
    rintro w ⟨c1,c2,c3,c4⟩
    go_simp
   refine anyS_take (i:=4) (v:=.pointer (some ⟨bL,1,none⟩)) hw (by decide) hcl (noDefer_none rfl) rfl (by kernel_rfl) (by kernel_rfl) (by kernel_rfl) (λ_ _ _ h=>h) ⟨Or.inl ⟨by rfl,?y4⟩,λ_=>rfl⟩ HS0.out (λhcl=>?_)
   case y4=>
    rintro w ⟨c1,c2,c3,c4⟩
    go_simp
   refine anyS_take (i:=5) (v:=.bool r.only) hw (by decide) hcl (noDefer_none rfl) rfl (by kernel_rfl) (by kernel_rfl) (by kernel_rfl) (λ_ _ _ h=>h) ⟨Or.inl ⟨by rfl,?y5⟩,λ_=>rfl⟩ HS0.out (λhcl=>?_)
   case y5=>
    rintro w ⟨c1,c2,c3,c4⟩
    go_simp
   refine anyS_take (i:=6) (v:=.slice (some ⟨gc,0,none⟩) 1 cc) hw (by decide) hcl (noDefer_none rfl) rfl (by kernel_rfl) (by kernel_rfl) (by kernel_rfl) (λ_ _ _ h=>h) ⟨Or.inl ⟨by rfl,?y6⟩,λ_=>rfl⟩ HS0.out (λhcl=>?_)
   case y6=>
    rintro w ⟨c1,c2,c3,c4⟩
    go_simp
   refine anyS_take (i:=7) (v:=.pointer (some ⟨gc,0,none⟩)) hw (by decide) hcl (noDefer_none rfl) rfl (by kernel_rfl) (by kernel_rfl) (by kernel_rfl) (λ_ _ _ h=>h) ⟨Or.inl ⟨by rfl,?y7⟩,λ_=>rfl⟩ HS0.out (λhcl=>?_)
   case y7=>
    rintro w ⟨c1,c2,c3,c4⟩
    go_simp
   refine anyS_take (i:=8) (v:=.pointer (some ⟨gc,0,none⟩)) hw (by decide) hcl (noDefer_none rfl) rfl (by kernel_rfl) (by kernel_rfl) (by kernel_rfl) (λ_ _ _ h=>h) ⟨Or.inl ⟨by rfl,?y8⟩,λ_=>rfl⟩ HS0.out (λhcl=>?_)
   case y8=>
    rintro w ⟨c1,c2,c3,c4⟩
    go_simp
   refine anyS_take (i:=9) (v:=.slice sa sn scp) hw (by decide) hcl (noDefer_none rfl) rfl (by kernel_rfl) (by kernel_rfl) (by kernel_rfl) (λ_ _ _ h=>h) ⟨Or.inl ⟨by rfl,?y9⟩,λ_=>rfl⟩ HS0.out (λhcl=>?_)
   case y9=>
    rintro w ⟨c1,c2,c3,c4⟩
    go_simp
   refine anyS_take (i:=10) (v:=.agg #[.int .i64 r.id,.bool r.only,.slice sa sn scp]) hw (by decide) hcl (noDefer_none rfl) rfl (by kernel_rfl) (by kernel_rfl) (by kernel_rfl) (λ_ _ _ h=>h) ⟨Or.inl ⟨by rfl,?y10⟩,λ_=>rfl⟩ HS0.out (λhcl=>?_)
   case y10=>
    rintro w ⟨c1,c2,c3,c4⟩
    go_simp
   refine anyS_one (i:=11) (by kernel_rfl) (wpOpIn_step rfl (λK hK=>?_))
   go_simp
   refine hK _ _ ⟨Or.inr ⟨cellq (box1 _ _) x0,cellq (box1 _ _) k0,cellq (box1 _ _) k1,cellq (box1 _ _) kcg⟩,?_⟩
   clear hK K
   refine anyS_one (i:=12) (by kernel_rfl) (wpOpIn_step rfl (λK hK=>?_))
   refine step_append_in rfl (.tmp 69) (.tmp 79) 23 rfl 36 iR (.agg #[.int .i64 0,.bool false,.slice none 0 0]) 3 40 Tryz.underlying23 hiR hzR0 hzR1 hzR2 rfl (by decide) w1.heap.size (.slice arr nr crr) _ _ (by simp[Act.eval]) (show(wr.drew.alloc (.cells #[.int .i64 r.id,.bool r.only,.slice sa sn scp] 36)).ownsRow _ _ _ _ _ _ from World.ownsRow.alloc HROW.out _) ⟨wr.heap.size,0,none⟩ 1 1 [.int .i64 r.id,.bool r.only,.slice sa sn scp] (by simp[Act.eval]) rfl (λj u hj=>new_cells wr.drew _ _ _ rfl j u hj) (by intro u hu;simp at hu;rcases hu with rfl|rfl|rfl<;>rfl) (by rw[HNRW.out];unfold maxLen;omega) (by rw[HNRW.out];omega) (by show w1.heap.size<=(wr.drew.alloc (.cells #[.int .i64 r.id,.bool r.only,.slice sa sn scp] 36)).heap.size;rw[size_alloc'];have:=HCW.out;show w1.heap.size<=wr.heap.size+1;omega) ?_
   intro v7 w7 hown hgrow1 hat7
   have hgrow:(wr.alloc (.cells #[.int .i64 r.id,.bool r.only,.slice sa sn scp] 36)).grownBy w7 (Value.slice arr nr crr).ownBlock:=⟨hgrow1.os,hgrow1.tape,hgrow1.output,hgrow1.size,hgrow1.block⟩
   have HS7:Hid (SRs w0.heap.size w1.heap.size w1 (w7.setCell ⟨w0.heap.size,0,none⟩ v7) (resTo (chOf N R) N.rels (k+1))):=by unfold Hid;rw[HSTEP.out,HE.out];exact SRs.rule (x:=⟨r.id,r.only,seq⟩) HBR.out HJV.out HROW.out HJW.out HDR.out HSQ.out.on HCB.out (Nat.le_refl _) HOR.out HJN.out hgrow hown
   have BX7:=(HBR.out.alloc _).grown hgrow (λe=>by have:=(own_lt HROW.out _ e.symm).1;have:=HCB.out;omega)
   have x7:=BX7.cell (i:=0) rfl
   have f7:=BX7.frozen 0
   have s1:w7.cell? ⟨bL,0,none⟩=some (.int .i64 r.id):=cellX hgrow (cellq (box1 _ _) k0) (λe=>Nat.lt_irrefl _ (HNEL.out.1 bL e.symm))
   have s2:w7.cell? ⟨bL,1,none⟩=some (.bool r.only):=cellX hgrow (cellq (box1 _ _) k1) (λe=>Nat.lt_irrefl _ (HNEL.out.1 bL e.symm))
   have s3:w7.cell? ⟨gc,0,none⟩=some (.slice sa sn scp):=cellX hgrow (cellq (box1 _ _) kcg) (λe=>Nat.lt_irrefl _ (Nat.lt_trans (HNEL.out.1 gc e.symm) HNEL.out.2.1))
   obtain⟨a7',c7',hv7⟩:=row_slice hown
   subst hv7
   refine hK _ _ ⟨Or.inr ⟨x7,s1,s2,s3⟩,?_⟩
   clear hK K hown hgrow hgrow1 hat7 BX7
   refine anyS_one (i:=13) (by kernel_rfl) (wpOpIn_step rfl (λK hK=>?_))
   go_simp
   refine hK _ _ ⟨Or.inr ⟨x7,s1,s2,s3⟩,?_⟩
   clear hK K
   clear s1 s2 s3
   refine anyS_one (i:=14) (by kernel_rfl) (wpOpIn_step rfl (λK hK=>?_))
   go_simp
   refine hK _ _ ⟨Or.inl (by decide),?_⟩
   clear hK K
   refine anyS_done (by kernel_rfl) ?_ _
   clear hw hcl HS0 x0 k0 k1 kcg x7 f7
   go_wp2
   go_roundw
   case rel=>exact⟨k+1,by omega,by go_num,HS7⟩
   case measure=>simp[intOf];omega
 have hq':(q:Int)<nr:=by omega
 have HQR:Hid (q<Sk.rules.length):=by unfold Hid;rw[HNR.out];exact hq
 have HSUC:Hid (noRpt Sk.rules r.only seq (q+1)=(noRpt Sk.rules r.only seq q||((ruat Sk.rules q).only==r.only&&decide ((ruat Sk.rules q).seq=seq)))):=noRpt_succ HQR.out
 obtain⟨gr,us,har,y0,y1,y2,hOs⟩:=(HRW.out.next HNQ.out).at HQR.out
 subst har
 have HOS:Hid (OwnI w1.heap.size wr us (ruat Sk.rules q).seq):=hOs
 obtain⟨ssa,ssc,hus⟩:=hOs.slice
 generalize (ruat Sk.rules q).seq.length=ssn at hus
 subst hus
 have b1:=cell_regrown x0
 have b2:=cell_regrown y1
 have b3:=cell_regrown y2
 have b4:=cell_regrown (cellq HNQ.out HCG.out)
 have b5:=cell_regrown ((BL6.out.next HNQ.out).cell (i:=1) rfl)
 have CG:Hid (∀d os,Calls Tryz.prog 37 #[.slice ssa ssn ssc,.slice sa sn scp] (Sort.grow (redrawn wr d) os) λe w''=>e=.returned (.bool (decide ((ruat Sk.rules q).seq=seq)))/\∃p:Regrown,w''=Sort.grow (redrawn wr p.d) p.os):=
  λd os=>Calls.regrown_of (l2Same_any w1.heap.size w1.heap.size _ _ (ruat Sk.rules q).seq seq _ (HOS.out.held.next (below_regrown wr d os)) ((HO0.out.next HNQ.out).held.next (below_regrown wr d os)))
 clear hOs y0 y1 y2
 generalize (ruat Sk.rules q).only=oq at *
 cases ho:(oq==r.only)
 ·have HE1:Hid (noRpt Sk.rules r.only seq (q+1)=noRpt Sk.rules r.only seq q):=by unfold Hid;rw[HSUC.out,ho];simp
  go_upto_region 16 with fail
  refine wp_region_quiet_below (by kernel_rfl) (by kernel_rfl) ?_
  repeat (go_big_quiet_step (exact CG.out _ _))
  refine wpQuiet_nil ?_
  intro _ hw'
  obtain⟨⟨dq,osq⟩,hw''⟩:=hw'
  subst hw''
  have HB:Hid (Nx wr (Sort.grow (redrawn wr dq) osq)):=below_regrown wr dq osq
  clear b1 b2 b3 b4 b5 x0 ho
  generalize Sort.grow (redrawn wr dq) osq=wz at *
  go_wp2
  go_roundw
  case rel=>exact⟨q+1,by omega,by go_num,by rw[HE1.out],HNQ.out.trans HB.out⟩
  case measure=>simp[intOf];omega
 ·by_cases hsq:(ruat Sk.rules q).seq=seq
  ·have HE1:Hid (rz (noRpt Sk.rules r.only seq (q+1))=3):=by unfold Hid;rw[HSUC.out,ho,decide_eq_true hsq];simp[rz]
   rw[decide_eq_true hsq] at CG
   go_upto_region 16 with fail
   refine wp_region_quiet_below (by kernel_rfl) (by kernel_rfl) ?_
   repeat (go_big_quiet_step (exact CG.out _ _))
   refine wpQuiet_nil ?_
   intro _ hw'
   obtain⟨⟨dq,osq⟩,hw''⟩:=hw'
   subst hw''
   have HB:Hid (Nx wr (Sort.grow (redrawn wr dq) osq)):=below_regrown wr dq osq
   clear b1 b2 b3 b4 b5 x0 ho hsq
   generalize Sort.grow (redrawn wr dq) osq=wz at *
   go_wp2
   go_roundw
   case rel=>exact⟨q+1,by omega,by go_num,by rw[HE1.out],HNQ.out.trans HB.out⟩
   case measure=>simp[intOf];omega
  ·have HE1:Hid (noRpt Sk.rules r.only seq (q+1)=noRpt Sk.rules r.only seq q):=by unfold Hid;rw[HSUC.out,ho,decide_eq_false hsq];simp
   rw[decide_eq_false hsq] at CG
   go_upto_region 16 with fail
   refine wp_region_quiet_below (by kernel_rfl) (by kernel_rfl) ?_
   repeat (go_big_quiet_step (exact CG.out _ _))
   refine wpQuiet_nil ?_
   intro _ hw'
   obtain⟨⟨dq,osq⟩,hw''⟩:=hw'
   subst hw''
   have HB:Hid (Nx wr (Sort.grow (redrawn wr dq) osq)):=below_regrown wr dq osq
   clear b1 b2 b3 b4 b5 x0 ho hsq
   generalize Sort.grow (redrawn wr dq) osq=wz at *
   go_wp2
   go_roundw
   case rel=>exact⟨q+1,by omega,by go_num,by rw[HE1.out],HNQ.out.trans HB.out⟩
   case measure=>simp[intOf];omega
end Go.Proofs.YtdpfdkihbgmapaaGreat
