import Derived.Test.YthhkjbfkgdlkmaaGreatDoorRB
namespace Go.Proofs.YthhkjbfkgdlkmaaGreatDoor
open Go.RowKit Go.Sort Go.Shelf
set_option linter.unusedVariables false
set_option maxRecDepth 1000000
set_option maxHeartbeats 16000000
structure NV (C:Nat)(w:World)(vN vW vR vT:Value)(ns:List Int)(ws:List Wv)(rs:List Rv)(ts:List Tn)(ir:List (Value×List Int)):Prop where
 n:OwnI C w vN ns
 wy:w.ownsRow C 45 4 vW ws.length (ws.flatMap wvL)
 rl:w.ownsRow C 47 7 vR rs.length (rs.flatMap rvL)
 tn:w.ownsRow C 69 3 vT ts.length (ts.flatMap tcell)
 ri:∀r∈ir,OwnI C w r.1 r.2
 ap:((vN,ns)::ir).Pairwise Ap
section
variable {C:Nat}{w w':World}{vN vW vR vT:Value}{ns:List Int}{ws:List Wv}{rs:List Rv}{ts:List Tn}{ir:List (Value×List Int)}
theorem NV.next (h:NV C w vN vW vR vT ns ws rs ts ir)(k:Nx w w'):NV C w' vN vW vR vT ns ws rs ts ir:=
 ⟨row_next h.n k,row_next h.wy k,row_next h.rl k,row_next h.tn k,λr hr=>row_next (h.ri r hr) k,h.ap⟩
theorem NV.base (h:NV C w vN vW vR vT ns ws rs ts ir){C':Nat}(k:C'<=C):NV C' w vN vW vR vT ns ws rs ts ir:=
 ⟨row_base h.n k,row_base h.wy k,row_base h.rl k,row_base h.tn k,λr hr=>row_base (h.ri r hr) k,h.ap⟩
theorem NV.young (h:NV C w vN vW vR vT ns ws rs ts ir){S:Nat->Prop}(k:Chg S w w')(hS:∀x,S x->x<C):NV C w' vN vW vR vT ns ws rs ts ir:=by
 have far:∀{t sz n:Nat}{v:Value}{xs:List Value},w.ownsRow C t sz v n xs->w'.ownsRow C t sz v n xs:=λho=>row_chg ho k (λg hg e=>by have h1:=(own_lt ho g hg).1;have h2:=hS g e;omega)
 exact⟨far h.n,far h.wy,far h.rl,far h.tn,λr hr=>far (h.ri r hr),h.ap⟩
end
theorem RM.nv {w0 w:World}{rb:Nat}{vN vW vR vT vL:Value}{u line:Int}{ns:List Int}{ws:List Wv}{rs:List Rv}{ts:List Tn}{ls:List Lv}{ir:List (Value×List Int)}(h:RM w0 w rb vN vW vR vT u line vL ns ws rs ts ls ir):NV w0.heap.size w vN vW vR vT ns ws rs ts ir:=⟨h.n,h.wy,h.rl,h.tn,h.ri,h.ap⟩
structure Srt (ps:List Px)(ns:List Int)(ws:List Wv)(rs:List Rv)(ts:List Tn):Prop where
 n:ns.Perm (ndO ps)/\ns.Pairwise (λx y=>x<=y)
 wy:ws.Perm (wyO ps)/\ws.Pairwise (λx y=>0<=cmpI y.1.id x.1.id)
 rl:rs.Perm (rlO ps)/\rs.Pairwise (λx y=>0<=cmpI y.1.id x.1.id)
 tn:ts.Perm (tnO ps)/\ts.Pairwise (λx y=>0<=cmpT y x)
def PnIs (w w':World)(p:Pm)(e:Ending):Prop:=match p with
 |.error (c,l)=>e=.returned (noV c l)
 |.ok ds=>∃ps ns ws rs ts vN vW vR vT,dsP ps=ds/\e=.returned (.agg #[.int .i64 0,.int .i64 0,vN,vW,vR,vT,.int .i64 (utO ps)])/\Srt ps ns ws rs ts/\NV w.heap.size w' vN vW vR vT ns ws rs ts (irO ps)
def Gv (w:World):Prop:=Gl w/\w.cell? ⟨0,0,none⟩=some (.iface 126 (.agg #[.pointer (some ⟨4,56,none⟩)]))
theorem Gv.next {w w':World}(h:Gv w)(k:Nx w w'):Gv w':=⟨h.1.next k,cellq k h.2⟩
theorem as4 {w:World}{b t:Nat}{x:Value}(h:BT w b #[x] t)(o1 o2 o3 o4:Obj)(y:Value):(((((w.alloc o1).alloc o2).alloc o3).alloc o4).setCell ⟨b,0,none⟩ y).cell? ⟨b,0,none⟩=some y:=
 (((h.next (box1 w o1)).next (box1 _ o2)).next (box1 _ o3) |>.next (box1 _ o4) |>.set 0 y).blk.cell (i:=0) rfl
theorem res_pn {ts:Array Value}{w:World}{b:Nat}{x0 x1 x2 x3 x4 x5 x6:Value}(h:ts[2]?.getD undef=.pointer (some ⟨b,0,none⟩))
  (p0:w.cell? ⟨b,0,none⟩=some x0) (p1:w.cell? ⟨b,1,none⟩=some x1) (p2:w.cell? ⟨b,2,none⟩=some x2) (p3:w.cell? ⟨b,3,none⟩=some x3) (p4:w.cell? ⟨b,4,none⟩=some x4) (p5:w.cell? ⟨b,5,none⟩=some x5) (p6:w.cell? ⟨b,6,none⟩=some x6) :
  (results Tryz.f6 ts).run Tryz.prog w=.ok (.agg #[x0,x1,x2,x3,x4,x5,x6]) w:=by
 simp[results,Tryz.results6,h,go_sem,p0,p1,p2,p3,p4,p5,p6]
theorem ret_pn {R:Ending->World->Prop}{a:Act}{w:World}{b t:Nat}{x0 x1 x2 x3 x4 x5 x6:Value}(h2:a.tmps[2]?.getD undef=.pointer (some ⟨b,0,none⟩))(hd:a.defers=[])(hb:BT w b #[x0,x1,x2,x3,x4,x5,x6] t)(hR:R (.returned (.agg #[x0,x1,x2,x3,x4,x5,x6])) w):bodyPost Tryz.prog Tryz.f6 R .ret a w:=
 bodyPost_ret (res_pn h2 (hb.blk.cell (i:=0) rfl) (hb.blk.cell (i:=1) rfl) (hb.blk.cell (i:=2) rfl) (hb.blk.cell (i:=3) rfl) (hb.blk.cell (i:=4) rfl) (hb.blk.cell (i:=5) rfl) (hb.blk.cell (i:=6) rfl)) hd hR
theorem implParse_any (B:Nat)(a:Option Addr)(n c:Nat)(bs:List UInt8)(w:World)(h:HBy B w (.slice a n c) bs)(hcap:n<=c)(hcm:c<=9223372036854775807)(hG:Gv w) :
  Calls Tryz.prog 6 #[.slice a n c] w λe w'=>PnIs w w' (prsM bs) e/\Nx w w':=by
 have hmx:Tryz.prog.follows .mixedOrders=true:=by kernel_rfl
 have HB0:Hid (BT (w.alloc (.cells #[.int .i64 0,.int .i64 0,.slice none 0 0,.slice none 0 0,.slice none 0 0,.slice none 0 0,.int .i64 0] 30)) w.heap.size #[.int .i64 0,.int .i64 0,.slice none 0 0,.slice none 0 0,.slice none 0 0,.slice none 0 0,.int .i64 0] 30):=BT.new _ _ _ _ rfl
 have HX0:Hid (Nx w (w.alloc (.cells #[.int .i64 0,.int .i64 0,.slice none 0 0,.slice none 0 0,.slice none 0 0,.slice none 0 0,.int .i64 0] 30))):=box1 _ _
 have HH:=mkHid' h
 have HG:=mkHid' hG
 clear h hG
 go_enter Tryz.func6,Tryz.ntmps6
 go_wp2_with fail
 generalize w.alloc (.cells #[.int .i64 0,.int .i64 0,.slice none 0 0,.slice none 0 0,.slice none 0 0,.slice none 0 0,.int .i64 0] 30)=w1 at *
 refine(readNet_any B a n c bs w1 (HBy.next_ HH.out HX0.out) hcap hcm (HG.out.1.next HX0.out)).mono ?_
 rintro e w2 ⟨hnr,hx⟩
 have HX2:=mkHid' (HX0.out.trans hx)
 have HB2:=mkHid' (HB0.out.next hx)
 have HS1:Hid (w.heap.size<=w1.heap.size):=HX0.out.size
 have HN1:Hid (w.heap.size<w1.heap.size):=HB0.out.lt
 clear hx HB0 HX0 HH
 obtain⟨pb,hpb⟩:∃q,w.heap.size=q:=⟨_,rfl⟩
 have HPB:Hid (w.heap.size=pb):=hpb
 rw[hpb] at HB2 ⊢
 clear hpb
 rcases hnr with⟨cc,l,hpm,v,rfl,sb,s,fv,rfl,hsb,hbs,fb,rfl,hfb,hbf⟩|⟨wm,rb,vN,vW,vR,vT,line,vL,ps,wq,hpm,rfl,hso,hxm,hlm,hch⟩
 case inl=>
  have HPM:=mkHid' hpm
  have HX3:Hid (Nx w2 ((w2.alloc (.cells #[.slice none 0 0,.slice none 0 0,.slice none 0 0,.slice none 0 0,.int .i64 0] 28)).alloc (.cells #[.pointer none] 59))):=(box1 _ _).trans (box1 _ _)
  have HT3:Hid (BT ((w2.alloc (.cells #[.slice none 0 0,.slice none 0 0,.slice none 0 0,.slice none 0 0,.int .i64 0] 28)).alloc (.cells #[.pointer none] 59)) (w2.heap.size+1) #[.pointer none] 59):=BT.new _ _ _ _ (by rw[size_alloc'])
  have HSB:=mkHid' (hbs.next HX3.out)
  have HFB:=mkHid' (hbf.next HX3.out)
  have HFL:Hid (w1.heap.size<=fb/\fb<w2.heap.size):=⟨hfb,hbf.lt⟩
  have HB3:=mkHid' (HB2.out.next HX3.out)
  have HXw:=mkHid' (HX2.out.trans HX3.out)
  have HZ2:Hid (pb<w2.heap.size):=HB2.out.lt
  clear hpm hsb hbs hfb hbf HB2
  go_wp2_with fail
  generalize (w2.alloc (.cells #[.slice none 0 0,.slice none 0 0,.slice none 0 0,.slice none 0 0,.int .i64 0] 28)).alloc (.cells #[.pointer none] 59)=w3 at *
  obtain⟨tb,htb⟩:∃q,w2.heap.size+1=q:=⟨_,rfl⟩
  have HTB:Hid (w2.heap.size+1=tb):=htb
  rw[htb] at HT3 ⊢
  clear htb
  refine(as_step sb fb ⟨tb,0,none⟩ (.pointer none) w3 (cellq HXw.out HG.out.2) (HT3.out.blk.cell (i:=0) rfl) (HT3.out.blk.frozen 0) (HSB.out.blk.cell (i:=1) rfl)).mono ?_
  rintro e w5 ⟨rfl,hw5⟩
  have HX4:Hid (Chg (λx=>x=tb) w3 w5):=by
   unfold Hid
   rw[hw5]
   exact Chg.trans (Chg.nx ((((box1 _ _).trans (box1 _ _)).trans (box1 _ _)).trans (box1 _ _))) (Chg.set _ _ _ rfl)
  have HC5:Hid (w5.cell? ⟨tb,0,none⟩=some (.pointer (some ⟨fb,0,none⟩))):=by
   unfold Hid
   rw[hw5]
   exact as4 HT3.out _ _ _ _ _
  clear hw5
  have hne1:fb≠tb:=by have h1:=HFL.out.2;have h2:=HTB.out;omega
  have hne2:pb≠tb:=by have h1:=HZ2.out;have h2:=HTB.out;omega
  have HF5:=mkHid' (HFB.out.chg HX4.out hne1)
  have HB5:=mkHid' (HB3.out.chg HX4.out hne2)
  have HXz:Hid (Nx w w5):=Below.trans HXw.out (HX4.out.below HXw.out.size (λx hx=>by have e:x=tb:=hx;have h1:=HTB.out;have h2:=HX2.out.size;omega))
  clear HFB HB3 HT3 HSB HX3 hne1 hne2 HX4
  go_upto_region 4 with fail
  have hxd:Nx w5 w5.drew:=(Below.refl _ _).drew
  have HSS:Hid ((λq=>q.cell? ⟨tb,0,none⟩=some (.pointer (some ⟨fb,0,none⟩))/\q.cell? ⟨fb,0,none⟩=some (.int .i64 cc)/\q.cell? ⟨fb,1,none⟩=some (.int .i64 l)) w5.drew):=⟨cellq hxd HC5.out,cellq hxd (HF5.out.blk.cell (i:=0) rfl),cellq hxd (HF5.out.blk.cell (i:=1) rfl)⟩
  have HBd:=mkHid' (HB5.out.next hxd)
  have HXd:=mkHid' (HXz.out.trans hxd)
  clear hxd HB5 HF5 HC5 HXz
  refine(wpIn_wide (n:=9)).1 ?_
  refine wpIn_region_S (c:=9) (S:=λq=>q.cell? ⟨tb,0,none⟩=some (.pointer (some ⟨fb,0,none⟩))/\q.cell? ⟨fb,0,none⟩=some (.int .i64 cc)/\q.cell? ⟨fb,1,none⟩=some (.int .i64 l)) hmx (by kernel_rfl) (λhw hcl=>?_)
  generalize w5.drew=wd at *
  refine tq (i:=0) (v:=.pointer (some ⟨fb,0,none⟩)) (λhcl=>?_)
  refine tq (i:=1) (v:=.pointer (some ⟨fb,0,none⟩)) (λhcl=>?_)
  refine tq (i:=2) (v:=.pointer (some ⟨fb,0,none⟩)) (λhcl=>?_)
  refine tq (i:=3) (v:=.int .i64 cc) (λhcl=>?_)
  refine tq (i:=4) (v:=.pointer (some ⟨fb,0,none⟩)) (λhcl=>?_)
  refine tq (i:=5) (v:=.pointer (some ⟨fb,0,none⟩)) (λhcl=>?_)
  refine tq (i:=6) (v:=.pointer (some ⟨fb,1,none⟩)) (λhcl=>?_)
  refine tq (i:=7) (v:=.int .i64 l) (λhcl=>?_)
  refine tq (i:=8) (v:=.agg #[.int .i64 cc,.int .i64 l,.slice none 0 0,.slice none 0 0,.slice none 0 0,.slice none 0 0,.int .i64 0]) (λhcl=>?_)
  have q0_:wd.cell? ⟨pb,0,none⟩=some (.int .i64 0):=HBd.out.blk.cell (i:=0) rfl
  have f0_:=HBd.out.blk.frozen 0
  have q1_:wd.cell? ⟨pb,1,none⟩=some (.int .i64 0):=HBd.out.blk.cell (i:=1) rfl
  have f1_:=HBd.out.blk.frozen 1
  have q2_:wd.cell? ⟨pb,2,none⟩=some (.slice none 0 0):=HBd.out.blk.cell (i:=2) rfl
  have f2_:=HBd.out.blk.frozen 2
  have q3_:wd.cell? ⟨pb,3,none⟩=some (.slice none 0 0):=HBd.out.blk.cell (i:=3) rfl
  have f3_:=HBd.out.blk.frozen 3
  have q4_:wd.cell? ⟨pb,4,none⟩=some (.slice none 0 0):=HBd.out.blk.cell (i:=4) rfl
  have f4_:=HBd.out.blk.frozen 4
  have q5_:wd.cell? ⟨pb,5,none⟩=some (.slice none 0 0):=HBd.out.blk.cell (i:=5) rfl
  have f5_:=HBd.out.blk.frozen 5
  have q6_:wd.cell? ⟨pb,6,none⟩=some (.int .i64 0):=HBd.out.blk.cell (i:=6) rfl
  have f6_:=HBd.out.blk.frozen 6
  refine anyS_one (i:=9) (by kernel_rfl) (wpOpIn_step rfl (λK hK=>?_))
  go_simp
  refine hK _ _ ⟨Or.inl (by decide),?_⟩
  clear hK K
  refine anyS_done (by kernel_rfl) ?_ _
  have hle:w.heap.size<=pb:=by have:=HPB.out;omega
  have HBF:Hid (BT (((((((wd.setCell ⟨pb,0,none⟩ (.int .i64 cc)).setCell ⟨pb,1,none⟩ (.int .i64 l)).setCell ⟨pb,2,none⟩ (.slice none 0 0)).setCell ⟨pb,3,none⟩ (.slice none 0 0)).setCell ⟨pb,4,none⟩ (.slice none 0 0)).setCell ⟨pb,5,none⟩ (.slice none 0 0)).setCell ⟨pb,6,none⟩ (.int .i64 0)) pb #[.int .i64 cc,.int .i64 l,.slice none 0 0,.slice none 0 0,.slice none 0 0,.slice none 0 0,.int .i64 0] 30):=(((((((HBd.out.set 0 (.int .i64 cc)).set 1 (.int .i64 l)).set 2 (.slice none 0 0)).set 3 (.slice none 0 0)).set 4 (.slice none 0 0)).set 5 (.slice none 0 0)).set 6 (.int .i64 0))
  have HXF:Hid (Nx w (((((((wd.setCell ⟨pb,0,none⟩ (.int .i64 cc)).setCell ⟨pb,1,none⟩ (.int .i64 l)).setCell ⟨pb,2,none⟩ (.slice none 0 0)).setCell ⟨pb,3,none⟩ (.slice none 0 0)).setCell ⟨pb,4,none⟩ (.slice none 0 0)).setCell ⟨pb,5,none⟩ (.slice none 0 0)).setCell ⟨pb,6,none⟩ (.int .i64 0))):=(Below.setCell (Below.setCell (Below.setCell (Below.setCell (Below.setCell (Below.setCell (Below.setCell HXd.out hle _) hle _) hle _) hle _) hle _) hle _) hle _)
  clear hw hcl HSS HBd HXd q0_ f0_ q1_ f1_ q2_ f2_ q3_ f3_ q4_ f4_ q5_ f5_ q6_ f6_ hle
  generalize ((((((wd.setCell ⟨pb,0,none⟩ (.int .i64 cc)).setCell ⟨pb,1,none⟩ (.int .i64 l)).setCell ⟨pb,2,none⟩ (.slice none 0 0)).setCell ⟨pb,3,none⟩ (.slice none 0 0)).setCell ⟨pb,4,none⟩ (.slice none 0 0)).setCell ⟨pb,5,none⟩ (.slice none 0 0)).setCell ⟨pb,6,none⟩ (.int .i64 0)=wF at *
  go_wp2
  refine ret_pn rfl rfl HBF.out ?_
  refine⟨?_,HXF.out⟩
  rw[HPM.out]
  rfl
 have HPM:=mkHid' hpm
 have HSO:=mkHid' hso
 obtain⟨ns,ws,rs,ts,s1,s2,s3,s4,hrm⟩:=hso
 have HST:Hid (Srt ps ns ws rs ts):=⟨s1,s2,s3,s4⟩
 have HNV:Hid (NV w1.heap.size w2 vN vW vR vT ns ws rs ts (irO ps)):=(hrm.nv.young hch (λx hx=>by have e:x=w1.heap.size:=hx;omega)).base (by have h1:=HS1.out;omega)
 clear hpm s1 s2 s3 s4 hrm hxm hlm hch HSO
 obtain⟨a0,c0,e0⟩:=row_slice HNV.out.n
 obtain⟨a1,c1,e1⟩:=row_slice HNV.out.wy
 obtain⟨a2,c2,e2⟩:=row_slice HNV.out.rl
 obtain⟨a3,c3,e3⟩:=row_slice HNV.out.tn
 generalize ns.length=l0 at e0
 generalize ws.length=l1 at e1
 generalize rs.length=l2 at e2
 generalize ts.length=l3 at e3
 subst e0 e1 e2 e3
 obtain⟨uu,huu⟩:∃q,utO ps=q:=⟨_,rfl⟩
 have HUU:Hid (utO ps=uu):=huu
 rw[huu]
 clear huu
 have HX3:Hid (Nx w2 ((w2.alloc (.cells #[.slice a0 l0 c0,.slice a1 l1 c1,.slice a2 l2 c2,.slice a3 l3 c3,.int .i64 uu] 28)).alloc (.cells #[.pointer none] 59))):=(box1 _ _).trans (box1 _ _)
 have HN3:Hid (BT ((w2.alloc (.cells #[.slice a0 l0 c0,.slice a1 l1 c1,.slice a2 l2 c2,.slice a3 l3 c3,.int .i64 uu] 28)).alloc (.cells #[.pointer none] 59)) w2.heap.size #[.slice a0 l0 c0,.slice a1 l1 c1,.slice a2 l2 c2,.slice a3 l3 c3,.int .i64 uu] 28):=(BT.new _ _ _ _ rfl).next (box1 _ _)
 have HB3:=mkHid' (HB2.out.next HX3.out)
 have HXw:=mkHid' (HX2.out.trans HX3.out)
 have HNW:=mkHid' (HNV.out.next HX3.out)
 clear HB2 HNV HX2 HX3
 go_wp2_with fail
 generalize (w2.alloc (.cells #[.slice a0 l0 c0,.slice a1 l1 c1,.slice a2 l2 c2,.slice a3 l3 c3,.int .i64 uu] 28)).alloc (.cells #[.pointer none] 59)=w3 at *
 generalize w2.heap.size=nb at *
 refine(as_nil _ w3).mono ?_
 rintro e w4 ⟨rfl,rfl⟩
 have n0_:w4.cell? ⟨nb,0,none⟩=some (.slice a0 l0 c0):=HN3.out.blk.cell (i:=0) rfl
 have n1_:w4.cell? ⟨nb,1,none⟩=some (.slice a1 l1 c1):=HN3.out.blk.cell (i:=1) rfl
 have n2_:w4.cell? ⟨nb,2,none⟩=some (.slice a2 l2 c2):=HN3.out.blk.cell (i:=2) rfl
 have n3_:w4.cell? ⟨nb,3,none⟩=some (.slice a3 l3 c3):=HN3.out.blk.cell (i:=3) rfl
 have n4_:w4.cell? ⟨nb,4,none⟩=some (.int .i64 uu):=HN3.out.blk.cell (i:=4) rfl
 go_wp2_with (first|refine wpList_buildP rfl _ rfl rfl ?_|refine wpList_storeQ rfl _ _ rfl rfl rfl HB3.out rfl rfl rfl ?_)
 intro wB hwB
 rw[hwB.out]
 clear hwB
 refine wpList_storeQ rfl _ _ rfl rfl rfl HB3.out rfl rfl rfl ?_
 intro wS hwS
 obtain⟨kb,kc⟩:=setRow_bt (cs':=#[.int .i64 0,.int .i64 0,.slice a0 l0 c0,.slice a1 l1 c1,.slice a2 l2 c2,.slice a3 l3 c3,.int .i64 uu]) HB3.out
 have hS:=hwS.out
 rw[<-hS] at kb kc
 have HKB:=mkHid' kb
 have HXS:Hid (Nx w wS):=Below.trans HXw.out (kc.below HXw.out.size (λx hx=>by have e:x=pb:=hx;have h1:=HPB.out;omega))
 have HNS:=mkHid' (HNW.out.young kc (λx hx=>by
  have e:x=pb:=hx
  have h1:=HPB.out
  have h2:=HN1.out
  omega))
 clear hS hwS kb kc n0_ n1_ n2_ n3_ n4_ HNW HXw HN3 HB3
 go_wp2
 refine ret_pn rfl rfl HKB.out ?_
 refine⟨?_,HXS.out⟩
 rw[HPM.out]
 exact⟨ps,ns,ws,rs,ts,_,_,_,_,rfl,by rw[HUU.out],HST.out,HNS.out.base HS1.out⟩
def klt (x y:Int×Int):Prop:=x.1<y.1\/(x.1=y.1/\x.2<y.2)
theorem klt_tri (x y:Int×Int):klt x y\/x=y\/klt y x:=by
 unfold klt
 by_cases h:x=y
 ·exact Or.inr (Or.inl h)
 ·have:¬(x.1=y.1/\x.2=y.2):=λe=>h (Prod.ext e.1 e.2)
  omega
theorem klt_trans {x y z:Int×Int}(h:klt x y)(k:klt y z):klt x z:=by unfold klt at *;omega
theorem klt_irr (x:Int×Int):¬klt x x:=by unfold klt;omega
theorem uniqS {α:Type}(key:α->Int×Int):∀l m:List α,l.Pairwise (λx y=>klt (key x) (key y))->m.Pairwise (λx y=>klt (key x) (key y))->(∀x,x∈l↔x∈m)->l=m
 |[],[],_,_,_=>rfl
 |[],y::m,_,_,h=>absurd ((h y).2 (List.mem_cons.2 (Or.inl rfl))) List.not_mem_nil
 |x::l,[],_,_,h=>absurd ((h x).1 (List.mem_cons.2 (Or.inl rfl))) List.not_mem_nil
 |x::l,y::m,hl,hm,h=>by
  obtain⟨l1,l2⟩:=List.pairwise_cons.1 hl
  obtain⟨m1,m2⟩:=List.pairwise_cons.1 hm
  have e:x=y:=by
   rcases List.mem_cons.1 ((h x).1 (List.mem_cons.2 (Or.inl rfl))) with e|e
   ·exact e
   rcases List.mem_cons.1 ((h y).2 (List.mem_cons.2 (Or.inl rfl))) with e2|e2
   ·exact e2.symm
   ·exact absurd (klt_trans (m1 x e) (l1 y e2)) (klt_irr _)
  subst e
  congr 1
  refine uniqS key l m l2 m2 (λz=>⟨λhz=>?_,λhz=>?_⟩)
  ·rcases List.mem_cons.1 ((h z).1 (List.mem_cons.2 (Or.inr hz))) with e|e
   ·rw[e] at hz;exact absurd (l1 x hz) (klt_irr _)
   ·exact e
  ·rcases List.mem_cons.1 ((h z).2 (List.mem_cons.2 (Or.inr hz))) with e|e
   ·rw[e] at hz;exact absurd (m1 x hz) (klt_irr _)
   ·exact e
def dk (ds:List De)(i:Nat):Int×Int:=((dat ds i).a,(dat ds i).b)
theorem aft_spec (ds:List De)(kind a b:Int):∀n,(aftTo ds kind a b n<0->∀i,i<n->(dat ds i).kind=kind->¬klt (a,b) (dk ds i))/\(0<=aftTo ds kind a b n->(aftTo ds kind a b n).toNat<n/\(dat ds (aftTo ds kind a b n).toNat).kind=kind/\klt (a,b) (dk ds (aftTo ds kind a b n).toNat)/\∀i,i<n->(dat ds i).kind=kind->klt (a,b) (dk ds i)->¬klt (dk ds i) (dk ds (aftTo ds kind a b n).toNat))
 |0=>⟨λ_ i hi=>absurd hi (Nat.not_lt_zero _),λh=>absurd h (by show ¬(0:Int)<=-1;decide)⟩
 |n+1=>by
  obtain⟨h1,h2⟩:=aft_spec ds kind a b n
  have hin:=aftTo_in ds kind a b n
  rw[aftTo_succ]
  by_cases c1:(dat ds n).kind=kind
  ·rw[if_neg (λh=>h c1)]
   by_cases c2:(dat ds n).a<a\/((dat ds n).a=a/\(dat ds n).b<=b)
   ·rw[if_pos c2]
    have hn:¬klt (a,b) (dk ds n):=by unfold klt dk;dsimp only;omega
    refine⟨λh i hi hk=>?_,λh=>?_⟩
    ·by_cases e:i=n
     ·rw[e];exact hn
     ·exact h1 h i (by omega) hk
    ·obtain⟨g1,g2,g3,g4⟩:=h2 h
     refine⟨by omega,g2,g3,λi hi hk hlt=>?_⟩
     by_cases e:i=n
     ·rw[e] at hlt;exact absurd hlt hn
     ·exact g4 i (by omega) hk hlt
   ·rw[if_neg c2]
    have hn:klt (a,b) (dk ds n):=by unfold klt dk;dsimp only;omega
    by_cases c3:aftTo ds kind a b n<0\/(dat ds n).a<(dat ds (aftTo ds kind a b n).toNat).a\/((dat ds n).a=(dat ds (aftTo ds kind a b n).toNat).a/\(dat ds n).b<(dat ds (aftTo ds kind a b n).toNat).b)
    ·rw[if_pos c3]
     refine⟨λh=>by omega,λ_=>?_⟩
     rw[Int.toNat_natCast]
     refine⟨by omega,c1,hn,λi hi hk hlt hh=>?_⟩
     by_cases e:i=n
     ·rw[e] at hh;exact klt_irr _ hh
     ·by_cases hneg:aftTo ds kind a b n<0
      ·exact h1 hneg i (by omega) hk hlt
      ·obtain⟨g1,g2,g3,g4⟩:=h2 (by omega)
       have hlt2:klt (dk ds n) (dk ds (aftTo ds kind a b n).toNat):=by
        rcases c3 with c|c
        ·exact absurd c hneg
        ·unfold klt dk;exact c
       exact g4 i (by omega) hk hlt (klt_trans hh hlt2)
    ·rw[if_neg c3]
     have hpos:0<=aftTo ds kind a b n:=by omega
     refine⟨λh=>by omega,λ_=>?_⟩
     obtain⟨g1,g2,g3,g4⟩:=h2 hpos
     refine⟨by omega,g2,g3,λi hi hk hlt hh=>?_⟩
     by_cases e:i=n
     ·rw[e] at hh
      exact c3 (Or.inr (by unfold klt dk at hh;exact hh))
     ·exact g4 i (by omega) hk hlt hh
  ·rw[if_pos c1]
   refine⟨λh i hi hk=>?_,λh=>?_⟩
   ·by_cases e:i=n
    ·rw[e] at hk;exact absurd hk c1
    ·exact h1 h i (by omega) hk
   ·obtain⟨g1,g2,g3,g4⟩:=h2 h
    refine⟨by omega,g2,g3,λi hi hk hlt=>?_⟩
    by_cases e:i=n
    ·rw[e] at hk;exact absurd hk c1
    ·exact g4 i (by omega) hk hlt
def kltB (x y:Int×Int):Bool:=decide (x.1<y.1)||(decide (x.1=y.1)&&decide (x.2<y.2))
theorem kltB_iff (x y:Int×Int):kltB x y=true↔klt x y:=by unfold kltB klt;simp
def abv (ds:List De)(kind a b:Int):Nat:=((List.range ds.length).filter (λi=>decide ((dat ds i).kind=kind)&&kltB (a,b) (dk ds i))).length
theorem filter_lt {p q:Nat->Bool}:∀l:List Nat,(∀x∈l,p x=true->q x=true)->(∃x∈l,q x=true/\p x=false)->(l.filter p).length<(l.filter q).length
 |[],_,h=>by obtain⟨x,hx,_⟩:=h;exact absurd hx List.not_mem_nil
 |y::l,h1,h2=>by
  have ht:∀x∈l,p x=true->q x=true:=λx hx=>h1 x (List.mem_cons.2 (Or.inr hx))
  have hle:(l.filter p).length<=(l.filter q).length:=by
   clear h1 h2
   induction l with
   |nil=>exact Nat.le_refl _
   |cons z l ih=>
    have i1:=ih (λx hx=>ht x (List.mem_cons.2 (Or.inr hx)))
    have i2:=ht z (List.mem_cons.2 (Or.inl rfl))
    rw[List.filter_cons,List.filter_cons]
    cases hp:p z
    ·cases hq:q z<;>simp<;>omega
    ·rw[i2 hp];simp;exact i1
  obtain⟨x,hx,hq,hp⟩:=h2
  rcases List.mem_cons.1 hx with e|e
  ·subst e
   rw[List.filter_cons,List.filter_cons,hq,hp]
   simp
   omega
  ·have i1:=filter_lt l ht ⟨x,e,hq,hp⟩
   have i2:=h1 y (List.mem_cons.2 (Or.inl rfl))
   rw[List.filter_cons,List.filter_cons]
   cases hpy:p y
   ·cases hqy:q y<;>simp<;>omega
   ·rw[i2 hpy];simp;exact i1
theorem tk_all (ds:List De)(kind:Int):∀(f:Nat) (a b:Int),abv ds kind a b<=f ->
  (∀i∈tk ds kind f a b,i<ds.length/\(dat ds i).kind=kind/\klt (a,b) (dk ds i))/\(tk ds kind f a b).Pairwise (λi j=>klt (dk ds i) (dk ds j))/\(∀i,i<ds.length->(dat ds i).kind=kind->klt (a,b) (dk ds i)->∃j∈tk ds kind f a b,dk ds j=dk ds i)
 |0,a,b,h=>by
  refine⟨λi hi=>absurd hi List.not_mem_nil,List.Pairwise.nil,λi hi hk hlt=>?_⟩
  have h0:abv ds kind a b=0:=by omega
  have h1:=List.length_eq_zero_iff.1 h0
  have h2:i∈(List.range ds.length).filter (λi=>decide ((dat ds i).kind=kind)&&kltB (a,b) (dk ds i)):=List.mem_filter.2 ⟨List.mem_range.2 hi,by rw[decide_eq_true hk,(kltB_iff _ _).2 hlt];rfl⟩
  rw[h1] at h2
  exact absurd h2 List.not_mem_nil
 |f+1,a,b,h=>by
  obtain⟨s1,s2⟩:=aft_spec ds kind a b ds.length
  rw[tk]
  by_cases hr:aftTo ds kind a b ds.length<0
  ·rw[if_pos hr]
   exact⟨λi hi=>absurd hi List.not_mem_nil,List.Pairwise.nil,λi hi hk hlt=>absurd hlt (s1 hr i hi hk)⟩
  ·rw[if_neg hr]
   obtain⟨g1,g2,g3,g4⟩:=s2 (by omega)
   generalize (aftTo ds kind a b ds.length).toNat=j at *
   have hlt:abv ds kind (dat ds j).a (dat ds j).b<abv ds kind a b:=by
    refine filter_lt _ (λx hx hp=>?_) ⟨j,List.mem_range.2 g1,by rw[decide_eq_true g2,(kltB_iff _ _).2 g3];rfl,?_⟩
    ·rw[Bool.and_eq_true] at hp ⊢
     exact⟨hp.1,(kltB_iff _ _).2 (klt_trans g3 ((kltB_iff _ _).1 hp.2))⟩
    ·cases hq:kltB ((dat ds j).a,(dat ds j).b) (dk ds j)
     ·simp
     ·exact absurd ((kltB_iff _ _).1 hq) (klt_irr _)
   obtain⟨i1,i2,i3⟩:=tk_all ds kind f (dat ds j).a (dat ds j).b (by omega)
   refine⟨λi hi=>?_,List.pairwise_cons.2 ⟨λi hi=>(i1 i hi).2.2,i2⟩,λi hi hk hl=>?_⟩
   ·rcases List.mem_cons.1 hi with e|e
    ·rw[e];exact⟨g1,g2,g3⟩
    ·obtain⟨u1,u2,u3⟩:=i1 i e
     exact⟨u1,u2,klt_trans g3 u3⟩
   ·rcases klt_tri (dk ds j) (dk ds i) with c|c|c
    ·obtain⟨j',hj',e⟩:=i3 i hi hk c
     exact⟨j',List.mem_cons.2 (Or.inr hj'),e⟩
    ·exact⟨j,List.mem_cons.2 (Or.inl rfl),c⟩
    ·exact absurd c (g4 i hi hk hl)
structure DOk (d:De):Prop where
 a:0<=d.a
 b:0<=d.b
 z:d.kind≠4->d.b=0
 w:d.kind=2->d.way.id=d.a
 r:d.kind=3->d.rel.id=d.a
 u:d.kind=5->d.a=0
theorem num_ge {f:List ByteArray}{i:Nat}(h:allN f.length (numB f)=true)(hi:i<f.length)(h0:i≠0)(h2:freB f i=false):0<=iat (vsL f) i:=by
 have:=numB_all.1 h i hi
 unfold numB at this
 have e0:(i==0)=false:=by simpa using h0
 rw[e0,h2] at this
 rw[vsL_at hi]
 simpa using this
theorem rd_ok {f:List ByteArray}(h:chkS f=0):DOk (rdS f):=by
 obtain⟨hw,hn⟩:=chk0 h
 have e1:∀h1:1<f.length,0<=iat (vsL f) 1:=λh1=>num_ge hn h1 (by decide) (by unfold freB;simp)
 rcases hw with⟨k,l⟩|⟨k,l,-,-,-⟩|⟨k,l,-⟩|⟨k,l⟩|⟨k,l⟩
 ·have e:rdS f=⟨1,iat (vsL f) 1,0,zWy,zRl,0,[],[]⟩:=by unfold rdS;rw[if_pos k]
  rw[e]
  exact⟨e1 (by omega),Int.le_refl _,λ_=>rfl,λh=>absurd (show(1:Int)=2 from h) (by decide),λh=>absurd (show(1:Int)=3 from h) (by decide),λh=>absurd (show(1:Int)=5 from h) (by decide)⟩
 ·have e:rdS f=⟨2,iat (vsL f) 1,0,⟨iat (vsL f) 1,(sat f 2).toList==[98],odds (vsL f) f.length,evens (vsL f) f.length⟩,zRl,0,odds (vsL f) f.length,[]⟩:=by unfold rdS;rw[if_neg (by rw[k];decide),if_pos k]
  rw[e]
  exact⟨e1 (by omega),Int.le_refl _,λ_=>rfl,λ_=>rfl,λh=>absurd (show(2:Int)=3 from h) (by decide),λh=>absurd (show(2:Int)=5 from h) (by decide)⟩
 ·have h0:=k
  unfold relB at h0
  rw[Bool.or_eq_true,beq_iff_eq,beq_iff_eq] at h0
  have e:∃x,rdS f=x/\x.kind=3/\x.a=iat (vsL f) 1/\x.b=0/\x.rel.id=iat (vsL f) 1:=by
   refine⟨_,rfl,?_⟩
   unfold rdS
   rw[if_neg (by rcases h0 with h|h<;>rw[h]<;>decide),if_neg (by rcases h0 with h|h<;>rw[h]<;>decide),if_pos k]
   split<;>exact⟨rfl,rfl,rfl,rfl⟩
  obtain⟨x,e,x1,x2,x3,x4⟩:=e
  rw[e]
  exact⟨by rw[x2];exact e1 (by omega),by rw[x3];exact Int.le_refl _,λ_=>x3,λh=>absurd (x1.symm.trans h) (by decide),λ_=>x4.trans x2.symm,λh=>absurd (x1.symm.trans h) (by decide)⟩
 ·have hr:relB (sat f 0)=false:=by unfold relB;rw[k];rfl
  have e:rdS f=⟨4,iat (vsL f) 1,iat (vsL f) 2,zWy,zRl,iat (vsL f) 3,[],[iat (vsL f) 1,iat (vsL f) 2]⟩:=by unfold rdS;rw[if_neg (by rw[k];decide),if_neg (by rw[k];decide),if_neg (by rw[hr];decide),if_pos k]
  have e2:0<=iat (vsL f) 2:=num_ge hn (by omega) (by decide) (by unfold freB;rw[k,hr];rfl)
  rw[e]
  exact⟨e1 (by omega),e2,λh=>absurd rfl h,λh=>absurd (show(4:Int)=2 from h) (by decide),λh=>absurd (show(4:Int)=3 from h) (by decide),λh=>absurd (show(4:Int)=5 from h) (by decide)⟩
 ·have hr:relB (sat f 0)=false:=by unfold relB;rw[k];rfl
  have e:rdS f=⟨5,0,0,zWy,zRl,iat (vsL f) 1,[],[]⟩:=by unfold rdS;rw[if_neg (by rw[k];decide),if_neg (by rw[k];decide),if_neg (by rw[hr];decide),if_neg (by rw[k];decide)]
  rw[e]
  exact⟨Int.le_refl _,Int.le_refl _,λ_=>rfl,λh=>absurd (show(5:Int)=2 from h) (by decide),λh=>absurd (show(5:Int)=3 from h) (by decide),λ_=>rfl⟩
theorem firstN_no {n:Nat}{p:Nat->Bool}(h:firstN n p=none):∀j,j<n->p j=false:=λj hj=>by
 unfold firstN at h
 rw[List.find?_eq_none] at h
 have:=h j (List.mem_range.2 hj)
 simpa using this
theorem prsM_yes {bs:List UInt8}{ds:List De}(h:prsM bs=.ok ds):(∀d∈ds,DOk d)/\(∀i,i<ds.length->repB ds i=false):=by
 unfold prsM at h
 split at h
 ·cases h
 split at h
 ·cases h
 generalize cutL (bs.take (bs.length-1)) 10=ls at h
 unfold prsL at h
 split at h
 ·cases h
 cases hf:firstN ls.length (lnB ls) with
 |some i=>rw[hf] at h;cases h
 |none=>
  rw[hf] at h
  dsimp only at h
  have hl:=firstN_no hf
  generalize hd:dsTo ls (ls.length-1)=es at h
  unfold prsD at h
  cases h1:firstN es.length (repB es) with
  |some i=>rw[h1] at h;cases h
  |none=>
   rw[h1] at h
   dsimp only at h
   cases h2:firstN es.length (danB es) with
   |some i=>rw[h2] at h;cases h
   |none=>
    rw[h2] at h
    dsimp only at h
    split at h
    ·cases h
    have e:es=ds:=by injection h
    subst e
    refine⟨λd hdm=>?_,firstN_no h1⟩
    rw[<-hd] at hdm
    unfold dsTo at hdm
    obtain⟨i,hi,e⟩:=List.mem_map.1 hdm
    have hi':=List.mem_range.1 hi
    have hb:=hl (i+1) (by omega)
    unfold lnB at hb
    rw[decide_eq_true (by omega:1<=i+1)] at hb
    have hc:lnC ls (i+1)=0:=by simpa using hb
    unfold lnC at hc
    split at hc
    ·cases hc
    ·rw[<-e];exact rd_ok hc
theorem rep_no {ds:List De}{j:Nat}(hj:j<ds.length)(h:repB ds j=false):∀i,i<j->¬((dat ds i).kind=(dat ds j).kind/\dk ds i=dk ds j):=λi hi he=>by
 unfold repB at h
 rw[decide_eq_false_iff_not] at h
 apply h
 have hp:pk (dat ds j).kind (dat ds j).a (dat ds j).b (dat ds i)=true:=by
  have e1:(dat ds i).a=(dat ds j).a:=congrArg Prod.fst he.2
  have e2:(dat ds i).b=(dat ds j).b:=congrArg Prod.snd he.2
  simp[pk,he.1,e1,e2]
 unfold fndP
 cases hf:ds.findIdx? (pk (dat ds j).kind (dat ds j).a (dat ds j).b) with
 |none=>show(-1:Int)<j;omega
 |some m=>
  show(m:Int)<j
  obtain⟨hm,-,hb⟩:=List.findIdx?_eq_some_iff_getElem.1 hf
  have:¬i<m:=λhlt=>by
   have h2:=hb i hlt
   have e:dat ds i=ds[i]'(by omega):=by simp[dat,List.getD_eq_getElem?_getD,show i<ds.length by omega]
   rw[e] at hp
   rw[hp] at h2
   exact absurd h2 (by simp)
  omega
structure Good (ds:List De):Prop where
 ok:∀d∈ds,DOk d
 no:∀i,i<ds.length->repB ds i=false
theorem Good.dif {ds:List De}(h:Good ds){i j:Nat}(hi:i<ds.length)(hj:j<ds.length)(hk:(dat ds i).kind=(dat ds j).kind)(he:dk ds i=dk ds j):i=j:=by
 rcases Nat.lt_trichotomy i j with c|c|c
 ·exact absurd ⟨hk,he⟩ (rep_no hj (h.no j hj) i c)
 ·exact c
 ·exact absurd ⟨hk.symm,he.symm⟩ (rep_no hi (h.no i hi) j c)
theorem Good.at {ds:List De}(h:Good ds){i:Nat}(hi:i<ds.length):DOk (dat ds i):=h.ok _ (by
 have e:dat ds i=ds[i]:=by simp[dat,List.getD_eq_getElem?_getD,hi]
 rw[e];exact List.getElem_mem hi)
theorem tkA_all {ds:List De}(h:Good ds)(K:Int):(∀i,i∈tkA ds K↔i<ds.length/\(dat ds i).kind=K)/\(tkA ds K).Pairwise (λi j=>klt (dk ds i) (dk ds j)):=by
 have hle:abv ds K (-1) (-1)<=ds.length:=by
  unfold abv
  have:=List.length_filter_le (λi=>decide ((dat ds i).kind=K)&&kltB (-1,-1) (dk ds i)) (List.range ds.length)
  simpa using this
 obtain⟨t1,t2,t3⟩:=tk_all ds K ds.length (-1) (-1) hle
 refine⟨λi=>⟨λhi=>⟨(t1 i hi).1,(t1 i hi).2.1⟩,λ⟨hi,hk⟩=>?_⟩,t2⟩
 have hd:=h.at hi
 have hl:klt (-1,-1) (dk ds i):=by
  have:=hd.a
  unfold klt dk
  dsimp only
  omega
 obtain⟨j,hj,e⟩:=t3 i hi hk hl
 have ej:=h.dif (t1 j hj).1 hi ((t1 j hj).2.1.trans hk.symm) e
 rw[<-ej];exact hj
theorem ps_dif {ps:List Px}(h:Good (dsP ps)):ps.Pairwise (λp q=>p.d.kind=q.d.kind->(p.d.a,p.d.b)≠(q.d.a,q.d.b)):=by
 rw[List.pairwise_iff_getElem]
 intro i j hi hj hij hk he
 have hl:(dsP ps).length=ps.length:=by simp[dsP]
 have e1:dat (dsP ps) i=ps[i].d:=by simp[dat,dsP,List.getD_eq_getElem?_getD,hi]
 have e2:dat (dsP ps) j=ps[j].d:=by simp[dat,dsP,List.getD_eq_getElem?_getD,hj]
 have:=h.dif (i:=i) (j:=j) (by omega) (by omega) (by rw[e1,e2];exact hk) (by unfold dk;rw[e1,e2];exact he)
 omega
theorem srt_eq {α β:Type}{ps:List Px}(h:Good (dsP ps))(K:Int)(f:Px->List α)(pr:α->β)(key:β->Int×Int)(g:De->β)(hf:∀p x,x∈f p->p.d.kind=K/\pr x=g p.d)(hf2:∀p,p.d.kind=K->∃x∈f p,pr x=g p.d)(hk:∀d,DOk d->d.kind=K->key (g d)=(d.a,d.b))(h1:∀p,(f p).length<=1)(L:List α)(hp:L.Perm (ps.flatMap f))(hs:L.Pairwise (λx y=>¬klt (key (pr y)) (key (pr x)))) :
  L.map pr=(tkA (dsP ps) K).map (λi=>g (dat (dsP ps) i)):=by
 obtain⟨t1,t2⟩:=tkA_all h K
 have hl:(dsP ps).length=ps.length:=by simp[dsP]
 have hok:∀p∈ps,DOk p.d:=λp hpm=>h.ok _ (List.mem_map.2 ⟨p,hpm,rfl⟩)
 refine uniqS key _ _ ?_ ?_ (λz=>⟨λhz=>?_,λhz=>?_⟩)
 ·rw[List.pairwise_map]
  have hd:(ps.flatMap f).Pairwise (λx y=>key (pr x)≠key (pr y)):=by
   rw[List.pairwise_flatMap]
   refine⟨λp hpm=>?_,?_⟩
   ·have:=h1 p
    match hfp:f p,this with
    |[],_=>exact List.Pairwise.nil
    |[x],_=>exact List.pairwise_singleton _ _
    |x::y::l,hh=>simp at hh
   ·have hps:=ps_dif h
    refine List.Pairwise.imp_of_mem (λ{p q} hpm hqm hpq x hx y hy e=>?_) hps
    obtain⟨a1,a2⟩:=hf p x hx
    obtain⟨b1,b2⟩:=hf q y hy
    rw[a2,b2,hk _ (hok p hpm) a1,hk _ (hok q hqm) b1] at e
    exact hpq (a1.trans b1.symm) e
  have hd2:L.Pairwise (λx y=>key (pr x)≠key (pr y)):=(hp.pairwise_iff (λ{x y} hxy=>Ne.symm hxy)).2 hd
  refine(hs.and hd2).imp (λ{x y} hh=>?_)
  rcases klt_tri (key (pr x)) (key (pr y)) with c|c|c
  ·exact c
  ·exact absurd c hh.2
  ·exact absurd c hh.1
 ·rw[List.pairwise_map]
  refine List.Pairwise.imp_of_mem (λ{i j} hi hj hij=>?_) t2
  obtain⟨u1,u2⟩:=(t1 i).1 hi
  obtain⟨v1,v2⟩:=(t1 j).1 hj
  rw[hk _ (h.at u1) u2,hk _ (h.at v1) v2]
  exact hij
 ·obtain⟨x,hx,rfl⟩:=List.mem_map.1 hz
  obtain⟨p,hpm,hxp⟩:=List.mem_flatMap.1 (hp.mem_iff.1 hx)
  obtain⟨a1,a2⟩:=hf p x hxp
  obtain⟨i,hi,rfl⟩:=List.mem_iff_getElem.1 hpm
  have e:dat (dsP ps) i=ps[i].d:=by simp[dat,dsP,List.getD_eq_getElem?_getD,hi]
  refine List.mem_map.2 ⟨i,(t1 i).2 ⟨by omega,by rw[e];exact a1⟩,?_⟩
  rw[e,a2]
 ·obtain⟨i,hi,rfl⟩:=List.mem_map.1 hz
  obtain⟨u1,u2⟩:=(t1 i).1 hi
  have hi':i<ps.length:=by omega
  have e:dat (dsP ps) i=ps[i].d:=by simp[dat,dsP,List.getD_eq_getElem?_getD,hi']
  rw[e] at u2 ⊢
  obtain⟨x,hx,ex⟩:=hf2 ps[i] u2
  exact List.mem_map.2 ⟨x,hp.mem_iff.2 (List.mem_flatMap.2 ⟨ps[i],List.getElem_mem hi',hx⟩),ex⟩
theorem nds_eq {ps:List Px}{ns:List Int}(h:Good (dsP ps))(hp:ns.Perm (ndO ps))(hs:ns.Pairwise (λx y=>x<=y)):ns=(tkA (dsP ps) 1).map (λi=>(dat (dsP ps) i).a):=by
 have:=srt_eq h 1 ndP id (λx=>(x,0)) (λd=>d.a) (λp x hx=>by unfold ndP at hx;split at hx;exact⟨by assumption,by simpa using hx⟩;cases hx) (λp hk=>⟨p.d.a,by unfold ndP;rw[if_pos hk];exact List.mem_singleton.2 rfl,rfl⟩) (λd hd hk=>by rw[hd.z (by rw[hk];decide)]) (λp=>by unfold ndP;split<;>simp) ns hp (hs.imp (λ{x y} hxy hc=>by unfold klt at hc;dsimp only[id] at hc;omega))
 rw[List.map_id] at this
 exact this
theorem wys_eq {ps:List Px}{ws:List Wv}(h:Good (dsP ps))(hp:ws.Perm (wyO ps))(hs:ws.Pairwise (λx y=>0<=cmpI y.1.id x.1.id)):ws.map (·.1)=(tkA (dsP ps) 2).map (λi=>(dat (dsP ps) i).way):=
 srt_eq h 2 wyP (·.1) (λx=>(x.id,0)) (λd=>d.way) (λp x hx=>by unfold wyP at hx;split at hx;exact⟨by assumption,by have e:x=(p.d.way,p.vn,p.vw):=by { simpa using hx };rw[e]⟩;cases hx) (λp hk=>⟨(p.d.way,p.vn,p.vw),by unfold wyP;rw[if_pos hk];exact List.mem_singleton.2 rfl,rfl⟩) (λd hd hk=>by rw[hd.z (by rw[hk];decide),hd.w hk]) (λp=>by unfold wyP;split<;>simp) ws hp (hs.imp (λ{x y} hxy hc=>by have:=(cmpI_key y.1.id x.1.id).2 hc;omega))
theorem rls_eq {ps:List Px}{rs:List Rv}(h:Good (dsP ps))(hp:rs.Perm (rlO ps))(hs:rs.Pairwise (λx y=>0<=cmpI y.1.id x.1.id)):rs.map (·.1)=(tkA (dsP ps) 3).map (λi=>(dat (dsP ps) i).rel):=
 srt_eq h 3 rlP (·.1) (λx=>(x.id,0)) (λd=>d.rel) (λp x hx=>by unfold rlP at hx;split at hx;exact⟨by assumption,by have e:x=(p.d.rel,p.vr):=by { simpa using hx };rw[e]⟩;cases hx) (λp hk=>⟨(p.d.rel,p.vr),by unfold rlP;rw[if_pos hk];exact List.mem_singleton.2 rfl,rfl⟩) (λd hd hk=>by rw[hd.z (by rw[hk];decide),hd.r hk]) (λp=>by unfold rlP;split<;>simp) rs hp (hs.imp (λ{x y} hxy hc=>by have:=(cmpI_key y.1.id x.1.id).2 hc;omega))
theorem tns_eq {ps:List Px}{ts:List Tn}(h:Good (dsP ps))(hp:ts.Perm (tnO ps))(hs:ts.Pairwise (λx y=>0<=cmpT y x)):ts=(tkA (dsP ps) 4).map (λi=>⟨(dat (dsP ps) i).a,(dat (dsP ps) i).b,(dat (dsP ps) i).cost⟩):=by
 have:=srt_eq h 4 tnP id (λx=>(x.frm,x.to)) (λd=>(⟨d.a,d.b,d.cost⟩:Tn)) (λp x hx=>by unfold tnP at hx;split at hx;exact⟨by assumption,by simpa using hx⟩;cases hx) (λp hk=>⟨⟨p.d.a,p.d.b,p.d.cost⟩,by unfold tnP;rw[if_pos hk];exact List.mem_singleton.2 rfl,rfl⟩) (λd hd hk=>rfl) (λp=>by unfold tnP;split<;>simp) ts hp (hs.imp (λ{x y} hxy hc=>by have:=(cmpT_key y x).2 hc;omega))
 rw[List.map_id] at this
 exact this
theorem utO_eq {ps:List Px}(h:Good (dsP ps)):utO ps=match (tkA (dsP ps) 5).getLast? with|some i=>(dat (dsP ps) i).cost|none=>0:=by
 obtain⟨t1,t2⟩:=tkA_all h 5
 have hl:(dsP ps).length=ps.length:=by simp[dsP]
 have hdat:∀i (hi:i<ps.length),dat (dsP ps) i=ps[i].d:=λi hi=>by simp[dat,dsP,List.getD_eq_getElem?_getD,hi]
 have huniq:∀i j,i<ps.length->j<ps.length->(dat (dsP ps) i).kind=5->(dat (dsP ps) j).kind=5->i=j:=λi j hi hj h1 h2=>by
  have a:=h.at (i:=i) (by omega)
  have b:=h.at (i:=j) (by omega)
  exact h.dif (by omega) (by omega) (h1.trans h2.symm) (by unfold dk;rw[a.u h1,b.u h2,a.z (by rw[h1];decide),b.z (by rw[h2];decide)])
 have hut:∀qs:List Px,(∀p∈qs,p.d.kind≠5)->utO qs=0:=λqs=>by
  refine rev_ind (P:=λqs=>(∀p∈qs,p.d.kind≠5)->utO qs=0) (λ_=>rfl) (λqs p ih hq=>?_) qs
  rw[utO_snoc,if_neg (hq p (List.mem_append.2 (Or.inr (List.mem_singleton.2 rfl))))]
  exact ih (λq hqm=>hq q (List.mem_append.2 (Or.inl hqm)))
 have hut2:∀(qs:List Px) (c:Int),(∃p∈qs,p.d.kind=5)->(∀p∈qs,p.d.kind=5->p.d.cost=c)->utO qs=c:=λqs c=>by
  refine rev_ind (P:=λqs=>(∃p∈qs,p.d.kind=5)->(∀p∈qs,p.d.kind=5->p.d.cost=c)->utO qs=c) (λ⟨p,hp,_⟩=>absurd hp List.not_mem_nil) (λqs p ih hex hall=>?_) qs
  rw[utO_snoc]
  by_cases hk:p.d.kind=5
  ·rw[if_pos hk]
   exact hall p (List.mem_append.2 (Or.inr (List.mem_singleton.2 rfl))) hk
  ·rw[if_neg hk]
   refine ih ?_ (λq hq=>hall q (List.mem_append.2 (Or.inl hq)))
   obtain⟨q,hq,hqk⟩:=hex
   rcases List.mem_append.1 hq with hq|hq
   ·exact⟨q,hq,hqk⟩
   ·rw[List.mem_singleton.1 hq] at hqk;exact absurd hqk hk
 cases hg:(tkA (dsP ps) 5).getLast? with
 |none=>
  have e:tkA (dsP ps) 5=[]:=List.getLast?_eq_none_iff.1 hg
  refine hut ps (λp hp hk=>?_)
  obtain⟨i,hi,rfl⟩:=List.mem_iff_getElem.1 hp
  have:=(t1 i).2 ⟨by omega,by rw[hdat i hi];exact hk⟩
  rw[e] at this
  exact absurd this List.not_mem_nil
 |some i=>
  have hm:i∈tkA (dsP ps) 5:=List.mem_of_getLast? hg
  obtain⟨hi,hk⟩:=(t1 i).1 hm
  have hi':i<ps.length:=by omega
  show utO ps=(dat (dsP ps) i).cost
  refine hut2 ps _ ⟨ps[i],List.getElem_mem hi',by rw[<-hdat i hi'];exact hk⟩ (λp hp hpk=>?_)
  obtain⟨j,hj,rfl⟩:=List.mem_iff_getElem.1 hp
  have e:=huniq j i hj hi' (by rw[hdat j hj];exact hpk) hk
  subst e
  rw[hdat j hj]
end Go.Proofs.YthhkjbfkgdlkmaaGreatDoor
namespace Go.Proofs.YthhkjbfkgdlkmaaGreatDoor
open Go.RowKit Go.Sort
set_option linter.unusedVariables false
set_option maxRecDepth 1000000
set_option maxHeartbeats 16000000
def RK (ty m:Nat)(w:World)(g n:Nat)(V:Nat->Nat->Value):Prop:=∃c:Array Value,w.heap[g]?=some (.cells c ty (0,0))/\n*m<=c.size/\∀i j,i<n->j<m->c[i*m+j]?=some (V i j)
section
variable {ty m:Nat}{w w':World}{g n:Nat}{V U:Nat->Nat->Value}
theorem RK.lt (h:RK ty m w g n V):g<w.heap.size:=by
 obtain⟨c,hh,_⟩:=h
 exact(Array.getElem?_eq_some_iff.1 hh).1
theorem RK.cell (h:RK ty m w g n V){i j:Nat}(hi:i<n)(hj:j<m):w.cell? ⟨g,i*m+j,none⟩=some (V i j):=by
 obtain⟨c,hb,_,hc⟩:=h
 simp[World.cell?,hb,hc i j hi hj]
theorem RK.frozen (h:RK ty m w g n V)(o:Nat):w.frozen? ⟨g,o,none⟩=false:=by
 obtain⟨c,hb,_,_⟩:=h
 simp[World.frozen?,hb]
theorem idx_ne {m i j i' j':Nat}(hj:j<m)(hj':j'<m)(e:¬(i'=i/\j'=j)):i*m+j≠i'*m+j':=λh=>by
 rcases Nat.lt_trichotomy i i' with q|q|q
 ·have h1:(i+1)*m<=i'*m:=Nat.mul_le_mul_right m q
  rw[Nat.succ_mul] at h1
  omega
 ·subst q
  exact e ⟨rfl,by omega⟩
 ·have h1:(i'+1)*m<=i*m:=Nat.mul_le_mul_right m q
  rw[Nat.succ_mul] at h1
  omega
theorem RK.set (h:RK ty m w g n V){i j:Nat}(hi:i<n)(hj:j<m)(u:Value):RK ty m (w.setCell ⟨g,i*m+j,none⟩ u) g n (λi' j'=>if i'=i/\j'=j then u else V i' j'):=by
 obtain⟨c,hb,hn,hc⟩:=h
 have hm:(i+1)*m<=n*m:=Nat.mul_le_mul_right m hi
 rw[Nat.succ_mul] at hm
 refine⟨c.setIfInBounds (i*m+j) u,by simp[World.setCell,Array.getElem?_modify,hb],by simpa using hn,λi' j' hi' hj'=>?_⟩
 by_cases e:i'=i/\j'=j
 ·obtain⟨rfl,rfl⟩:=e
  rw[Array.getElem?_setIfInBounds]
  simp[show i'*m+j'<c.size by omega]
 ·rw[Array.getElem?_setIfInBounds,if_neg (idx_ne hj hj' e)]
  show c[i'*m+j']?=some (if i'=i/\j'=j then u else V i' j')
  rw[if_neg e]
  exact hc i' j' hi' hj'
theorem RK.keep (h:RK ty m w g n V)(k:w'.heap[g]?=w.heap[g]?):RK ty m w' g n V:=by
 obtain⟨c,hh,r⟩:=h
 exact⟨c,k.trans hh,r⟩
theorem RK.congr (h:RK ty m w g n V)(e:∀i j,i<n->j<m->V i j=U i j):RK ty m w g n U:=by
 obtain⟨c,hb,hn,hc⟩:=h
 exact⟨c,hb,hn,λi j hi hj=>by rw[hc i j hi hj,e i j hi hj]⟩
def SK (ty m:Nat)(w:World)(v:Value)(n:Nat)(V:Nat->Nat->Value):Prop:=∃a c,v=.slice a n c/\(0<n->∃g,a=some ⟨g,0,none⟩/\RK ty m w g n V)
theorem SK.keep {v:Value}(h:SK ty m w v n V)(k:∀g,g<w.heap.size->v.ownBlock=some g->w'.heap[g]?=w.heap[g]?):SK ty m w' v n V:=by
 obtain⟨a,c,rfl,hk⟩:=h
 refine⟨a,c,rfl,λhp=>?_⟩
 obtain⟨g,rfl,hr⟩:=hk hp
 exact⟨g,rfl,hr.keep (k g hr.lt rfl)⟩
theorem SI.keep2 {v:Value}{F:Nat->Int}(h:SI w v n F)(k:∀g,g<w.heap.size->v.ownBlock=some g->w'.heap[g]?=w.heap[g]?):SI w' v n F:=by
 obtain⟨a,c,rfl,hk⟩:=h
 refine⟨a,c,rfl,λhp=>?_⟩
 obtain⟨g,rfl,cc,hh,r⟩:=hk hp
 exact⟨g,rfl,cc,(k g (Array.getElem?_eq_some_iff.1 hh).1 rfl).trans hh,r⟩
theorem SI.congr {v:Value}{F G:Nat->Int}(h:SI w v n F)(e:∀q,q<n->F q=G q):SI w v n G:=by
 obtain⟨a,c,rfl,hk⟩:=h
 refine⟨a,c,rfl,λhp=>?_⟩
 obtain⟨g,rfl,hr⟩:=hk hp
 exact⟨g,rfl,hr.congr e⟩
theorem Chg.mono {S T:Nat->Prop}(h:Chg S w w')(hST:∀b,S b->T b):Chg T w w':=⟨h.os,h.tape,h.output,h.size,λb hb hn=>h.block b hb (λx=>hn (hST b x))⟩
end
structure Sep (v:Value)(n:Nat)(vs:Nat->Value):Prop where
 row:∀i g,i<n->(vs i).ownBlock=some g->v.ownBlock≠some g
 two:∀i j g,i<n->j<n->i≠j->(vs i).ownBlock=some g->(vs j).ownBlock≠some g
def inS (v:Value)(n:Nat)(vs:Nat->Value)(b:Nat):Prop:=some b=v.ownBlock\/∃i,i<n/\some b=(vs i).ownBlock
def scT (z:Int)(u:Nat->Value):Nat->Value
 |0=>.int .i64 (z)
 |1=>.int .i64 (z+1)
 |2=>.int .i64 (z+1+1)
 |q=>u q
theorem RK.markT {w:World}{g n:Nat}{V:Nat->Nat->Value}(h:RK 69 3 w g n V){i:Nat}(hi:i<n)(z:Int) :
  RK 69 3 (((w.setCell ⟨g,i*3,none⟩ (.int .i64 (z))).setCell ⟨g,i*3+1,none⟩ (.int .i64 (z+1))).setCell ⟨g,i*3+2,none⟩ (.int .i64 (z+1+1))) g n (λi' j'=>if i'=i then scT z (V i') j' else V i' j'):=by
 have h':=(((h.set hi (j:=0) (by omega) (.int .i64 (z))).set hi (j:=1) (by omega) (.int .i64 (z+1))).set hi (j:=2) (by omega) (.int .i64 (z+1+1)))
 refine RK.congr h' λi' j' _ hj'=>?_
 by_cases e:i'=i
 ·subst e
  rcases (show j'=0\/j'=1\/j'=2 by omega) with rfl|rfl|rfl<;>simp[scT]
 ·simp[e]
theorem chgT {w:World}{g i:Nat}(z:Int):Chg (λx=>x=g) w (((w.setCell ⟨g,i*3,none⟩ (.int .i64 (z))).setCell ⟨g,i*3+1,none⟩ (.int .i64 (z+1))).setCell ⟨g,i*3+2,none⟩ (.int .i64 (z+1+1))):=(((Chg.set (S:=λx=>x=g) g _ _ rfl).trans (Chg.set (S:=λx=>x=g) g _ _ rfl)).trans (Chg.set (S:=λx=>x=g) g _ _ rfl))
def mkT (k:Int)(i q:Nat):Value:=scT (k+3*i) (λ_=>.bool false) q
theorem markTurns_any (v:Value)(n:Nat)(V:Nat->Nat->Value)(k:Int)(w:World)(h0:SK 69 3 w v n V)(hn:n<=1000000)(hk0:0<=k)(hk1:k<=1000000000000000) :
  Calls Tryz.prog 44 #[v,.int .i64 k] w λe w'=>e=.returned (.int .i64 (k+3*n))/\SK 69 3 w' v n (mkT k)/\Chg (λb=>some b=v.ownBlock) w w':=by
 have H0:Hid (SK 69 3 w v n V):=h0
 obtain⟨a,c,rfl,_⟩:=h0
 go_enter Tryz.func44,Tryz.ntmps44
 go_wp2
 go_loopw [1,5] (λm i wr=>∃j:Nat,j<=n/\i=.int .i64 j/\m=.int .i64 (k+3*j)/\Hid (∃V',SK 69 3 wr (.slice a n c) n V'/\∀i,i<j->∀q,q<3->V' i q=mkT k i q)/\Hid (Chg (λb=>some b=(Value.slice a n c).ownBlock) w wr)) (λ_ i _=>n-(intOf i).toNat)
 case atStart=>exact⟨0,Nat.zero_le _,rfl,by simp,⟨V,H0.out,λi hi=>absurd hi (Nat.not_lt_zero _)⟩,Chg.nx (Below.refl _ _)⟩
 obtain⟨j,hjn,rfl,rfl,HM,HO⟩:=hrel
 clear H0
 by_cases hlt:j<n
 ·obtain⟨G,⟨a',c',e0,hk⟩,hG⟩:=HM.out
  simp only[Value.slice.injEq,true_and] at e0
  obtain⟨rfl,rfl⟩:=e0
  obtain⟨g,rfl,hr⟩:=hk (by omega)
  have c0:=hr.cell hlt (j:=0) (by omega)
  have f0:=hr.frozen (j*3)
  have c1:=hr.cell hlt (j:=1) (by omega)
  have f1:=hr.frozen (j*3+1)
  have c2:=hr.cell hlt (j:=2) (by omega)
  have f2:=hr.frozen (j*3+2)
  rw[Nat.add_zero] at c0
  have hlt':(j:Int)<n:=by omega
  have HM':Hid (∃V',SK 69 3 (((wr.setCell ⟨g,j*3,none⟩ (.int .i64 ((k+3*(j:Int))))).setCell ⟨g,j*3+1,none⟩ (.int .i64 ((k+3*(j:Int))+1))).setCell ⟨g,j*3+2,none⟩ (.int .i64 ((k+3*(j:Int))+1+1))) (.slice (some ⟨g,0,none⟩) n c) n V'/\∀i,i<j+1->∀q,q<3->V' i q=mkT k i q):=by
   refine⟨_,⟨_,_,rfl,λ_=>⟨g,rfl,hr.markT hlt (k+3*(j:Int))⟩⟩,λi hi q hq=>?_⟩
   by_cases e:i=j
   ·subst e
    simp only[if_true,mkT]
    rcases (show q=0\/q=1\/q=2 by omega) with rfl|rfl|rfl<;>rfl
   ·simp only[if_neg e]
    exact hG i (by omega) q hq
  have HO':Hid (Chg (λb=>some b=(Value.slice (some ⟨g,0,none⟩) n c).ownBlock) w (((wr.setCell ⟨g,j*3,none⟩ (.int .i64 ((k+3*(j:Int))))).setCell ⟨g,j*3+1,none⟩ (.int .i64 ((k+3*(j:Int))+1))).setCell ⟨g,j*3+2,none⟩ (.int .i64 ((k+3*(j:Int))+1+1)))):=HO.out.trans ((chgT (k+3*(j:Int))).mono (λb e=>by rw[e];rfl))
  generalize hz:k+3*(j:Int)=z at *
  have hz0:0<=z:=by omega
  have hz1:z<=2000000000000000:=by omega
  have HZ:Hid (k+3*(j:Int)=z):=hz
  clear hk hr hG HM HO hz
  generalize G j 0=g0 at *
  generalize G j 1=g1 at *
  generalize G j 2=g2 at *
  go_wp2
  go_roundw
  case rel=>exact⟨j+1,by omega,by go_num,by have:=HZ.out;congr 1;omega,HM',HO'⟩
  case measure=>simp[intOf];omega
 ·have e:j=n:=by omega
  subst e
  go_wp2
  go_ret
  refine⟨rfl,?_,HO.out⟩
  obtain⟨G,⟨a',c',e0,hk⟩,hG⟩:=HM.out
  refine⟨a',c',e0,λh0=>?_⟩
  obtain⟨g,e1,hr⟩:=hk h0
  exact⟨g,e1,hr.congr λi q hi hq=>hG i hi q hq⟩
theorem heldTurns_any (v:Value)(n:Nat)(k:Int)(w:World)(h0:SK 69 3 w v n (mkT k))(hn:n<=1000000)(hk0:0<=k)(hk1:k<=1000000000000000) :
  Calls Tryz.prog 48 #[v,.int .i64 k] w λe w'=>e=.returned (.int .i64 (k+3*n))/\w'=w:=by
 obtain⟨a,c,rfl,hk⟩:=h0
 go_enter Tryz.func48,Tryz.ntmps48
 go_wp2
 go_loopw [1,5] (λm i wr=>∃j:Nat,j<=n/\i=.int .i64 j/\m=.int .i64 (k+3*j)/\wr=w) (λ_ i _=>n-(intOf i).toNat)
 case atStart=>exact⟨0,Nat.zero_le _,rfl,by simp,rfl⟩
 obtain⟨j,hjn,rfl,rfl,rfl⟩:=hrel
 by_cases hlt:j<n
 ·obtain⟨g,rfl,hr⟩:=hk (by omega)
  have c0:=hr.cell hlt (j:=0) (by omega)
  have c1:=hr.cell hlt (j:=1) (by omega)
  have c2:=hr.cell hlt (j:=2) (by omega)
  rw[Nat.add_zero] at c0
  simp only[mkT,scT] at c0 c1 c2
  have hlt':(j:Int)<n:=by omega
  generalize hz:k+3*(j:Int)=z at *
  have hz0:0<=z:=by omega
  have hz1:z<=2000000000000000:=by omega
  have HZ:Hid (k+3*(j:Int)=z):=hz
  have n0:(z !=z)=false:=by simp
  have n1:(z+1 !=z+1)=false:=by simp
  have n2:(z+1+1 !=z+1+1)=false:=by simp
  clear hk hr hz
  go_wp2
  go_roundw
  case rel=>exact⟨j+1,by omega,by go_num,by have:=HZ.out;congr 1;omega,trivial⟩
  case measure=>simp[intOf];omega
 ·have e:j=n:=by omega
  subst e
  go_wp2
  go_ret
  exact⟨rfl,rfl⟩
end Go.Proofs.YthhkjbfkgdlkmaaGreatDoor
