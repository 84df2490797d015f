import Derived.Test.YtmmolhlihhdkcaaGreatDoorARB
import Derived.Test.YtmmolhlihhdkcaaGreatDoorRows
import Derived.Test.YtmmolhlihhdkcaaGreatDoorTie
import Derived.Test.YtmmolhlihhdkcaaGreatDoorCards
import Derived.ProofKit
import Derived.OpenShut
import Derived.ShutString
import Derived.ChangeOld
import Derived.Below
import Derived.LaidLaws
import Derived.LaidHandle
import Derived.Handed
import Derived.SevenTiedAt
import Derived.Lib.ItoaNum
namespace Go.Proofs.YtmmolhlihhdkcaaGreatDoor
open Go.RowKit Go.Sort Go.Shelf
set_option linter.unusedVariables false
set_option maxRecDepth 1000000
set_option maxHeartbeats 16000000
structure NV (C:Nat)(w:World)(vN vW vR vT:Value)(ns:List Int)(ws:List Wv)(rs:List Rv)(ts:List Tn)(ir:List (Value×List Int)):Prop where
 n:Q6 C w vN ns
 wy:w.ownsRow C 45 4 vW ws.length (ws.flatMap wvL)
 rl:w.ownsRow C 48 7 vR rs.length (rs.flatMap rvL)
 tn:w.ownsRow C 51 3 vT ts.length (ts.flatMap Je)
 ri:∀r∈ir,Q6 C w r.1 r.2
 ap:((vN,ns)::ir).Pairwise Ap
section
variable {C:Nat}{w w':World}{vN vW vR vT:Value}{ns:List Int}{ws:List Wv}{rs:List Rv}{ts:List Tn}{ir:List (Value×List Int)}
theorem NV.next (h:NV C w vN vW vR vT ns ws rs ts ir)(k:Nx w w'):NV C w' vN vW vR vT ns ws rs ts ir:=
 ⟨Qn h.n k,Qn h.wy k,Qn h.rl k,Qn h.tn k,λr hr=>Qn (h.ri r hr) k,h.ap⟩
theorem NV.base (h:NV C w vN vW vR vT ns ws rs ts ir){C':Nat}(k:C'<=C):NV C' w vN vW vR vT ns ws rs ts ir:=
 ⟨Jd h.n k,Jd h.wy k,Jd h.rl k,Jd h.tn k,λr hr=>Jd (h.ri r hr) k,h.ap⟩
theorem NV.young (h:NV C w vN vW vR vT ns ws rs ts ir){S:Nat->Prop}(k:Chg S w w')(hS:∀x,S x->x<C):NV C w' vN vW vR vT ns ws rs ts ir:=by
 have far:∀{t sz n:Nat}{v:Value}{xs:List Value},w.ownsRow C t sz v n xs->w'.ownsRow C t sz v n xs:=λho=>Jk ho k (λg hg e=>by have h1:=(Qj ho g hg).1;have h2:=hS g e;omega)
 exact⟨far h.n,far h.wy,far h.rl,far h.tn,λr hr=>far (h.ri r hr),h.ap⟩
end
theorem RM.nv {w0 w:World}{rb:Nat}{vN vW vR vT vL:Value}{u line:Int}{ns:List Int}{ws:List Wv}{rs:List Rv}{ts:List Tn}{ls:List Lv}{ir:List (Value×List Int)}(h:RM w0 w rb vN vW vR vT u line vL ns ws rs ts ls ir):NV w0.heap.size w vN vW vR vT ns ws rs ts ir:=⟨h.n,h.wy,h.rl,h.tn,h.ri,h.ap⟩
structure Srt (ps:List Px)(ns:List Int)(ws:List Wv)(rs:List Rv)(ts:List Tn):Prop where
 n:ns.Perm (ndO ps)/\ns.Pairwise (λx y=>x<=y)
 wy:ws.Perm (wyO ps)/\ws.Pairwise (λx y=>0<=V1 y.1.id x.1.id)
 rl:rs.Perm (rlO ps)/\rs.Pairwise (λx y=>0<=V1 y.1.id x.1.id)
 tn:ts.Perm (tnO ps)/\ts.Pairwise (λx y=>0<=Ki y x)
def Qd8 (w w':World)(p:Pm)(e:Ending):Prop:=match p with
 |.error (c,l)=>e=.returned (noV c l)
 |.ok ds=>∃ps ns ws rs ts vN vW vR vT,dsP ps=ds/\e=.returned (.agg #[.int .i64 0,.int .i64 0,vN,vW,vR,vT,.int .i64 (utO ps)])/\Srt ps ns ws rs ts/\NV w.heap.size w' vN vW vR vT ns ws rs ts (irO ps)
def Gv (w:World):Prop:=Gl w/\w.cell? ⟨0,0,none⟩=some (.iface 142 (.agg #[.pointer (some ⟨7,58,none⟩)]))
theorem Gv.next {w w':World}(h:Gv w)(k:Nx w w'):Gv w':=⟨h.1.next k,Qe k h.2⟩
theorem as4 {w:World}{b t:Nat}{x:Value}(h:BT w b #[x] t)(o1 o2 o3 o4:Obj)(y:Value):(((((w.alloc o1).alloc o2).alloc o3).alloc o4).setCell ⟨b,0,none⟩ y).cell? ⟨b,0,none⟩=some y:=
 (((h.next (Qc w o1)).next (Qc _ o2)).next (Qc _ o3) |>.next (Qc _ o4) |>.set 0 y).blk.cell (i:=0) rfl
theorem Qeo {ts:Array Value}{w:World}{b:Nat}{x0 x1 x2 x3 x4 x5 x6:Value}(h:ts[2]?.getD undef=.pointer (some ⟨b,0,none⟩))
  (p0:w.cell? ⟨b,0,none⟩=some x0) (p1:w.cell? ⟨b,1,none⟩=some x1) (p2:w.cell? ⟨b,2,none⟩=some x2) (p3:w.cell? ⟨b,3,none⟩=some x3) (p4:w.cell? ⟨b,4,none⟩=some x4) (p5:w.cell? ⟨b,5,none⟩=some x5) (p6:w.cell? ⟨b,6,none⟩=some x6) :
  (results Tryz.f9 ts).run Tryz.prog w=.ok (.agg #[x0,x1,x2,x3,x4,x5,x6]) w:=by
 simp[results,Tryz.results9,h,go_sem,p0,p1,p2,p3,p4,p5,p6]
theorem Q9c {R:Ending->World->Prop}{a:Act}{w:World}{b t:Nat}{x0 x1 x2 x3 x4 x5 x6:Value}(h2:a.tmps[2]?.getD undef=.pointer (some ⟨b,0,none⟩))(hd:a.defers=[])(hb:BT w b #[x0,x1,x2,x3,x4,x5,x6] t)(hR:R (.returned (.agg #[x0,x1,x2,x3,x4,x5,x6])) w):bodyPost Tryz.prog Tryz.f9 R .ret a w:=
 bodyPost_ret (Qeo h2 (hb.blk.cell (i:=0) rfl) (hb.blk.cell (i:=1) rfl) (hb.blk.cell (i:=2) rfl) (hb.blk.cell (i:=3) rfl) (hb.blk.cell (i:=4) rfl) (hb.blk.cell (i:=5) rfl) (hb.blk.cell (i:=6) rfl)) hd hR
theorem Tw (B:Nat)(a:Option Addr)(n c:Nat)(bs:List UInt8)(w:World)(h:HBy B w (.slice a n c) bs)(hcap:n<=c)(hcm:c<=9223372036854775807)(hG:Gv w) :
  Calls Tryz.prog 9 #[.slice a n c] w λe w'=>Qd8 w w' (Yo bs) e/\Nx w w':=by
 have hmx:Tryz.prog.follows .mixedOrders=true:=by kernel_rfl
 have HB0:Hid (BT (w.alloc (.cells #[.int .i64 0,.int .i64 0,.slice none 0 0,.slice none 0 0,.slice none 0 0,.slice none 0 0,.int .i64 0] 33)) w.heap.size #[.int .i64 0,.int .i64 0,.slice none 0 0,.slice none 0 0,.slice none 0 0,.slice none 0 0,.int .i64 0] 33):=BT.new _ _ _ _ rfl
 have HX0:Hid (Nx w (w.alloc (.cells #[.int .i64 0,.int .i64 0,.slice none 0 0,.slice none 0 0,.slice none 0 0,.slice none 0 0,.int .i64 0] 33))):=Qc _ _
 have HH:=Q0 h
 have HG:=Q0 hG
 clear h hG
 go_enter Tryz.func9,Tryz.ntmps9
 go_wp2_with fail
 generalize w.alloc (.cells #[.int .i64 0,.int .i64 0,.slice none 0 0,.slice none 0 0,.slice none 0 0,.slice none 0 0,.int .i64 0] 33)=w1 at *
 refine(Q1p B a n c bs w1 (HBy.next_ HH.out HX0.out) hcap hcm (HG.out.1.next HX0.out)).mono ?_
 rintro e w2 ⟨hnr,hx⟩
 have HX2:=Q0 (HX0.out.trans hx)
 have HB2:=Q0 (HB0.out.next hx)
 have HS1:Hid (w.heap.size<=w1.heap.size):=HX0.out.size
 have HN1:Hid (w.heap.size<w1.heap.size):=HB0.out.lt
 clear hx HB0 HX0 HH
 obtain⟨pb,hpb⟩:∃q,w.heap.size=q:=⟨_,rfl⟩
 have HPB:Hid (w.heap.size=pb):=hpb
 rw[hpb] at HB2 ⊢
 clear hpb
 rcases hnr with⟨cc,l,hpm,v,rfl,sb,s,fv,rfl,hsb,hbs,fb,rfl,hfb,hbf⟩|⟨wm,rb,vN,vW,vR,vT,line,vL,ps,wq,hpm,rfl,hso,hxm,hlm,hch⟩
 case inl=>
  have HPM:=Q0 hpm
  have HX3:Hid (Nx w2 ((w2.alloc (.cells #[.slice none 0 0,.slice none 0 0,.slice none 0 0,.slice none 0 0,.int .i64 0] 28)).alloc (.cells #[.pointer none] 61))):=(Qc _ _).trans (Qc _ _)
  have HT3:Hid (BT ((w2.alloc (.cells #[.slice none 0 0,.slice none 0 0,.slice none 0 0,.slice none 0 0,.int .i64 0] 28)).alloc (.cells #[.pointer none] 61)) (w2.heap.size+1) #[.pointer none] 61):=BT.new _ _ _ _ (by rw[Q7])
  have HSB:=Q0 (hbs.next HX3.out)
  have HFB:=Q0 (hbf.next HX3.out)
  have HFL:Hid (w1.heap.size<=fb/\fb<w2.heap.size):=⟨hfb,hbf.lt⟩
  have HB3:=Q0 (HB2.out.next HX3.out)
  have HXw:=Q0 (HX2.out.trans HX3.out)
  have HZ2:Hid (pb<w2.heap.size):=HB2.out.lt
  clear hpm hsb hbs hfb hbf HB2
  go_wp2_with fail
  generalize (w2.alloc (.cells #[.slice none 0 0,.slice none 0 0,.slice none 0 0,.slice none 0 0,.int .i64 0] 28)).alloc (.cells #[.pointer none] 61)=w3 at *
  obtain⟨tb,htb⟩:∃q,w2.heap.size+1=q:=⟨_,rfl⟩
  have HTB:Hid (w2.heap.size+1=tb):=htb
  rw[htb] at HT3 ⊢
  clear htb
  refine(Qd5 sb fb ⟨tb,0,none⟩ (.pointer none) w3 (Qe HXw.out HG.out.2) (HT3.out.blk.cell (i:=0) rfl) (HT3.out.blk.frozen 0) (HSB.out.blk.cell (i:=1) rfl)).mono ?_
  rintro e w5 ⟨rfl,hw5⟩
  have HX4:Hid (Chg (λx=>x=tb) w3 w5):=by
   unfold Hid
   rw[hw5]
   exact Chg.trans (Chg.nx ((((Qc _ _).trans (Qc _ _)).trans (Qc _ _)).trans (Qc _ _))) (Chg.set _ _ _ rfl)
  have HC5:Hid (w5.cell? ⟨tb,0,none⟩=some (.pointer (some ⟨fb,0,none⟩))):=by
   unfold Hid
   rw[hw5]
   exact as4 HT3.out _ _ _ _ _
  clear hw5
  have hne1:fb≠tb:=by have h1:=HFL.out.2;have h2:=HTB.out;omega
  have hne2:pb≠tb:=by have h1:=HZ2.out;have h2:=HTB.out;omega
  have HF5:=Q0 (HFB.out.chg HX4.out hne1)
  have HB5:=Q0 (HB3.out.chg HX4.out hne2)
  have HXz:Hid (Nx w w5):=Below.trans HXw.out (HX4.out.below HXw.out.size (λx hx=>by have e:x=tb:=hx;have h1:=HTB.out;have h2:=HX2.out.size;omega))
  clear HFB HB3 HT3 HSB HX3 hne1 hne2 HX4
  go_upto_region 4 with fail
  have hxd:Nx w5 w5.drew:=(Below.refl _ _).drew
  have HSS:Hid ((λq=>q.cell? ⟨tb,0,none⟩=some (.pointer (some ⟨fb,0,none⟩))/\q.cell? ⟨fb,0,none⟩=some (.int .i64 cc)/\q.cell? ⟨fb,1,none⟩=some (.int .i64 l)) w5.drew):=⟨Qe hxd HC5.out,Qe hxd (HF5.out.blk.cell (i:=0) rfl),Qe hxd (HF5.out.blk.cell (i:=1) rfl)⟩
  have HBd:=Q0 (HB5.out.next hxd)
  have HXd:=Q0 (HXz.out.trans hxd)
  clear hxd HB5 HF5 HC5 HXz
  refine(wpIn_wide (n:=9)).1 ?_
  refine Q9 (c:=9) (S:=λq=>q.cell? ⟨tb,0,none⟩=some (.pointer (some ⟨fb,0,none⟩))/\q.cell? ⟨fb,0,none⟩=some (.int .i64 cc)/\q.cell? ⟨fb,1,none⟩=some (.int .i64 l)) hmx (by kernel_rfl) (λhw hcl=>?_)
  generalize w5.drew=wd at *
  refine tq (i:=0) (v:=.pointer (some ⟨fb,0,none⟩)) (λhcl=>?_)
  refine tq (i:=1) (v:=.pointer (some ⟨fb,0,none⟩)) (λhcl=>?_)
  refine tq (i:=2) (v:=.pointer (some ⟨fb,0,none⟩)) (λhcl=>?_)
  refine tq (i:=3) (v:=.int .i64 cc) (λhcl=>?_)
  refine tq (i:=4) (v:=.pointer (some ⟨fb,0,none⟩)) (λhcl=>?_)
  refine tq (i:=5) (v:=.pointer (some ⟨fb,0,none⟩)) (λhcl=>?_)
  refine tq (i:=6) (v:=.pointer (some ⟨fb,1,none⟩)) (λhcl=>?_)
  refine tq (i:=7) (v:=.int .i64 l) (λhcl=>?_)
  refine tq (i:=8) (v:=.agg #[.int .i64 cc,.int .i64 l,.slice none 0 0,.slice none 0 0,.slice none 0 0,.slice none 0 0,.int .i64 0]) (λhcl=>?_)
  have q0_:wd.cell? ⟨pb,0,none⟩=some (.int .i64 0):=HBd.out.blk.cell (i:=0) rfl
  have f0_:=HBd.out.blk.frozen 0
  have q1_:wd.cell? ⟨pb,1,none⟩=some (.int .i64 0):=HBd.out.blk.cell (i:=1) rfl
  have f1_:=HBd.out.blk.frozen 1
  have q2_:wd.cell? ⟨pb,2,none⟩=some (.slice none 0 0):=HBd.out.blk.cell (i:=2) rfl
  have f2_:=HBd.out.blk.frozen 2
  have q3_:wd.cell? ⟨pb,3,none⟩=some (.slice none 0 0):=HBd.out.blk.cell (i:=3) rfl
  have f3_:=HBd.out.blk.frozen 3
  have q4_:wd.cell? ⟨pb,4,none⟩=some (.slice none 0 0):=HBd.out.blk.cell (i:=4) rfl
  have f4_:=HBd.out.blk.frozen 4
  have q5_:wd.cell? ⟨pb,5,none⟩=some (.slice none 0 0):=HBd.out.blk.cell (i:=5) rfl
  have f5_:=HBd.out.blk.frozen 5
  have q6_:wd.cell? ⟨pb,6,none⟩=some (.int .i64 0):=HBd.out.blk.cell (i:=6) rfl
  have f6_:=HBd.out.blk.frozen 6
  refine Qk (i:=9) (by kernel_rfl) (wpOpIn_step rfl (λK hK=>?_))
  go_simp
  refine hK _ _ ⟨Or.inl (by decide),?_⟩
  clear hK K
  refine Qh (by kernel_rfl) ?_ _
  have hle:w.heap.size<=pb:=by have:=HPB.out;omega
  have HBF:Hid (BT (((((((wd.setCell ⟨pb,0,none⟩ (.int .i64 cc)).setCell ⟨pb,1,none⟩ (.int .i64 l)).setCell ⟨pb,2,none⟩ (.slice none 0 0)).setCell ⟨pb,3,none⟩ (.slice none 0 0)).setCell ⟨pb,4,none⟩ (.slice none 0 0)).setCell ⟨pb,5,none⟩ (.slice none 0 0)).setCell ⟨pb,6,none⟩ (.int .i64 0)) pb #[.int .i64 cc,.int .i64 l,.slice none 0 0,.slice none 0 0,.slice none 0 0,.slice none 0 0,.int .i64 0] 33):=(((((((HBd.out.set 0 (.int .i64 cc)).set 1 (.int .i64 l)).set 2 (.slice none 0 0)).set 3 (.slice none 0 0)).set 4 (.slice none 0 0)).set 5 (.slice none 0 0)).set 6 (.int .i64 0))
  have HXF:Hid (Nx w (((((((wd.setCell ⟨pb,0,none⟩ (.int .i64 cc)).setCell ⟨pb,1,none⟩ (.int .i64 l)).setCell ⟨pb,2,none⟩ (.slice none 0 0)).setCell ⟨pb,3,none⟩ (.slice none 0 0)).setCell ⟨pb,4,none⟩ (.slice none 0 0)).setCell ⟨pb,5,none⟩ (.slice none 0 0)).setCell ⟨pb,6,none⟩ (.int .i64 0))):=(Below.setCell (Below.setCell (Below.setCell (Below.setCell (Below.setCell (Below.setCell (Below.setCell HXd.out hle _) hle _) hle _) hle _) hle _) hle _) hle _)
  clear hw hcl HSS HBd HXd q0_ f0_ q1_ f1_ q2_ f2_ q3_ f3_ q4_ f4_ q5_ f5_ q6_ f6_ hle
  generalize ((((((wd.setCell ⟨pb,0,none⟩ (.int .i64 cc)).setCell ⟨pb,1,none⟩ (.int .i64 l)).setCell ⟨pb,2,none⟩ (.slice none 0 0)).setCell ⟨pb,3,none⟩ (.slice none 0 0)).setCell ⟨pb,4,none⟩ (.slice none 0 0)).setCell ⟨pb,5,none⟩ (.slice none 0 0)).setCell ⟨pb,6,none⟩ (.int .i64 0)=wF at *
  go_wp2
  refine Q9c rfl rfl HBF.out ?_
  refine⟨?_,HXF.out⟩
  rw[HPM.out]
  rfl
 have HPM:=Q0 hpm
 obtain⟨ns,ws,rs,ts,s1,s2,s3,s4,hrm⟩:=hso
 have HST:Hid (Srt ps ns ws rs ts):=⟨s1,s2,s3,s4⟩
 have HNV:Hid (NV w1.heap.size w2 vN vW vR vT ns ws rs ts (irO ps)):=(hrm.nv.young hch (λx hx=>by have e:x=w1.heap.size:=hx;omega)).base (by have h1:=HS1.out;omega)
 clear hpm s1 s2 s3 s4 hrm hxm hlm hch
 obtain⟨a0,c0,e0⟩:=Q3 HNV.out.n
 obtain⟨a1,c1,e1⟩:=Q3 HNV.out.wy
 obtain⟨a2,c2,e2⟩:=Q3 HNV.out.rl
 obtain⟨a3,c3,e3⟩:=Q3 HNV.out.tn
 generalize ns.length=l0 at e0
 generalize ws.length=l1 at e1
 generalize rs.length=l2 at e2
 generalize ts.length=l3 at e3
 subst e0 e1 e2 e3
 obtain⟨uu,huu⟩:∃q,utO ps=q:=⟨_,rfl⟩
 have HUU:Hid (utO ps=uu):=huu
 rw[huu]
 clear huu
 have HX3:Hid (Nx w2 ((w2.alloc (.cells #[.slice a0 l0 c0,.slice a1 l1 c1,.slice a2 l2 c2,.slice a3 l3 c3,.int .i64 uu] 28)).alloc (.cells #[.pointer none] 61))):=(Qc _ _).trans (Qc _ _)
 have HN3:Hid (BT ((w2.alloc (.cells #[.slice a0 l0 c0,.slice a1 l1 c1,.slice a2 l2 c2,.slice a3 l3 c3,.int .i64 uu] 28)).alloc (.cells #[.pointer none] 61)) w2.heap.size #[.slice a0 l0 c0,.slice a1 l1 c1,.slice a2 l2 c2,.slice a3 l3 c3,.int .i64 uu] 28):=(BT.new _ _ _ _ rfl).next (Qc _ _)
 have HB3:=Q0 (HB2.out.next HX3.out)
 have HXw:=Q0 (HX2.out.trans HX3.out)
 have HNW:=Q0 (HNV.out.next HX3.out)
 clear HB2 HNV HX2 HX3
 go_wp2_with fail
 generalize (w2.alloc (.cells #[.slice a0 l0 c0,.slice a1 l1 c1,.slice a2 l2 c2,.slice a3 l3 c3,.int .i64 uu] 28)).alloc (.cells #[.pointer none] 61)=w3 at *
 generalize w2.heap.size=nb at *
 refine(Qff _ w3).mono ?_
 rintro e w4 ⟨rfl,rfl⟩
 have n0_:w4.cell? ⟨nb,0,none⟩=some (.slice a0 l0 c0):=HN3.out.blk.cell (i:=0) rfl
 have n1_:w4.cell? ⟨nb,1,none⟩=some (.slice a1 l1 c1):=HN3.out.blk.cell (i:=1) rfl
 have n2_:w4.cell? ⟨nb,2,none⟩=some (.slice a2 l2 c2):=HN3.out.blk.cell (i:=2) rfl
 have n3_:w4.cell? ⟨nb,3,none⟩=some (.slice a3 l3 c3):=HN3.out.blk.cell (i:=3) rfl
 have n4_:w4.cell? ⟨nb,4,none⟩=some (.int .i64 uu):=HN3.out.blk.cell (i:=4) rfl
 go_wp2_with (first|refine E6 rfl _ rfl rfl ?_|refine Tr rfl _ _ rfl rfl rfl HB3.out rfl rfl rfl ?_)
 intro wB hwB
 rw[hwB.out]
 clear hwB
 refine Tr rfl _ _ rfl rfl rfl HB3.out rfl rfl rfl ?_
 intro wS hwS
 obtain⟨kb,kc⟩:=Tc (cs':=#[.int .i64 0,.int .i64 0,.slice a0 l0 c0,.slice a1 l1 c1,.slice a2 l2 c2,.slice a3 l3 c3,.int .i64 uu]) HB3.out
 have hS:=hwS.out
 rw[<-hS] at kb kc
 have HKB:=Q0 kb
 have HXS:Hid (Nx w wS):=Below.trans HXw.out (kc.below HXw.out.size (λx hx=>by have e:x=pb:=hx;have h1:=HPB.out;omega))
 have HNS:=Q0 (HNW.out.young kc (λx hx=>by
  have e:x=pb:=hx
  have h1:=HPB.out
  have h2:=HN1.out
  omega))
 clear hS hwS kb kc n0_ n1_ n2_ n3_ n4_ HNW HXw HN3 HB3
 go_wp2
 refine Q9c rfl rfl HKB.out ?_
 refine⟨?_,HXS.out⟩
 rw[HPM.out]
 exact⟨ps,ns,ws,rs,ts,_,_,_,_,rfl,by rw[HUU.out],HST.out,HNS.out.base HS1.out⟩
end Go.Proofs.YtmmolhlihhdkcaaGreatDoor
namespace Go.Proofs.YtmmolhlihhdkcaaGreatDoor
open Go.ChangeShapes Go.WideShapes Go.ChangeAt Go.RowKit
open Go.ChangeMaps (open_string shut_string)
set_option linter.unusedVariables false
set_option maxHeartbeats 16000000
theorem Q71 {w:World}{a:Addr}{v:Value}(h:w.cell? (a.add 0)=some v):∃b off,a=⟨b,off,none⟩:=by
 have hs:=World.cell?_spot h
 obtain⟨b,off,s⟩:=a
 simp[Addr.add] at hs
 exact⟨b,off,by rw[hs]⟩
theorem Q38 (b off i:Nat):(⟨b,off,none⟩:Addr).add i=⟨b,off+i,none⟩:=by
 unfold Addr.add
 by_cases hi:i=0<;>simp[hi]
theorem Qcy:Tryz.prog.cellsOf 5=1:=by kernel_rfl
theorem Qd1 {z:Int}(h:(Lit.int .u8 z).wf=true):((UInt8.ofNat z.toNat).toNat:Int)=z:=by
 have h2:0<=z/\z<=255:=by simpa [Lit.wf,IntKind.min,IntKind.max,IntKind.signed,IntKind.bits] using h
 rw[UInt8.toNat_ofNat']
 omega
set_option maxRecDepth 100000 in
theorem Wo {H:Type}{enc:TypeId×Value->H}{w:World}{m n c:Nat}{a:Option Addr}{y:DataW H×List MemPlace}(hf:DataW.trod enc Tryz.prog w 0 (λ_=>true) true m 22 [.slice a n c]=some y):∃bs,HBy 0 w (.slice a n c) bs:=by
 rcases open_ints Tryz.underlying22 Tryz.underlying5 Qcy hf with⟨hcs,_⟩|⟨a',len,cap,zs,hcs,_,hl,hm,hz,_,hcell,hwf⟩
 ·simp only[List.cons.injEq,Value.slice.injEq,and_true] at hcs
  obtain⟨rfl,rfl,rfl⟩:=hcs
  exact⟨[],none,0,rfl,Nat.zero_le _,λh0=>absurd h0 (Nat.lt_irrefl _)⟩
 ·simp only[List.cons.injEq,Value.slice.injEq,and_true] at hcs
  obtain⟨rfl,rfl,rfl⟩:=hcs
  have hz':zs.length=c:=by simpa using hz
  have hlen:((zs.take n).map λz=>UInt8.ofNat z.toNat).length=n:=by rw[List.length_map,List.length_take];omega
  refine⟨(zs.take n).map λz=>UInt8.ofNat z.toNat,some a',c,by rw[hlen],by rw[hlen];omega,λh0=>?_⟩
  rw[hlen] at h0
  obtain⟨b,off,rfl⟩:=Q71 (hcell 0 (by omega))
  refine⟨b,off,rfl,Nat.zero_le _,?_,λi hi=>?_⟩
  ·have h1:=hcell 0 (by omega)
   rw[Q38] at h1
   exact Zh h1
  ·rw[hlen] at hi
   have h1:=hcell i (by omega)
   rw[Q38] at h1
   rw[h1]
   have hi2:i<zs.length:=by omega
   have e1:zs.getD i 0=zs[i]:=by simp[List.getD,hi2]
   have e2:Qq ((zs.take n).map λz=>UInt8.ofNat z.toNat) i=zs[i]:=by
    unfold Qq
    have e3:((zs.take n).map λz=>UInt8.ofNat z.toNat).getD i 0=UInt8.ofNat (zs[i]).toNat:=by
     rw[List.getD_eq_getElem?_getD,List.getElem?_map,List.getElem?_take_of_lt hi,List.getElem?_eq_getElem hi2]
     rfl
    rw[e3]
    exact Qd1 (hwf _ (List.getElem_mem hi2))
   rw[e1,e2]
theorem own:ownKnob Tryz.prog.godebug=none:=by kernel_rfl
theorem Q5y:laidOutB Tryz.prog=true:=by kernel_rfl
theorem gE:Tryz.prog.globalNamed "errors.errorType" = some 0:=by kernel_rfl
theorem rtT:(Tryz.prog.cutTypes.find? (·.1 == "internal/reflectlite.rtype")).map (·.2)=some 142:=by kernel_rfl
theorem Qf7:((List.range 294).filter λt=>Tryz.prog.rowNamed t [101,114,114,111,114])=[58]:=by kernel_rfl
theorem Qe3:Tryz.prog.types.size=294:=by kernel_rfl
theorem Q7t {W:World}(h:handlesMet Tryz.prog [("errors.errorType",Rows.laid_errors_errorType)] W):W.cell? ⟨0,0,none⟩=some (.iface 142 (.agg #[.pointer (some ⟨7,58,none⟩)])):=by
 obtain⟨name,u,ty,e1,e2,e3,e4,e5⟩:=h _ (List.mem_singleton.2 rfl)
 have en:name=[101,114,114,111,114]:=(Option.some.inj e1).symm
 subst en
 obtain rfl:=Option.some.inj (rtT.symm.trans e2)
 have hm:ty∈(List.range 294).filter λt=>Tryz.prog.rowNamed t [101,114,114,111,114]:=List.mem_filter.2 ⟨List.mem_range.2 (by rw[<-Qe3];exact e3),e4⟩
 rw[Qf7] at hm
 obtain rfl:=List.mem_singleton.1 hm
 have hh:typeHandle Tryz.prog 58=.pointer (some ⟨7,58,none⟩):=by kernel_rfl
 rw[hh] at e5
 simpa using World.var?_cell gE e5 0
theorem Q0u {P:Program}{w:World}{g:Nat}{t:TypeId}{zero:Array Value}(h:w.ShapedOpen P)(hg:g<P.globals.size)
  (h0:((begin P (λ_ _=>0) default).world.heap[g]?).bind Obj.row?=some (zero,t)) (hz:zero.size=1)
  (hb:P.buildable t=true) (hc:P.cellTypes P.depth t=some [t]) (hu:P.underlying t=some (.int .i64)):∃m,w.cell? ⟨g,0,none⟩=some (.int .i64 m):=by
 obtain⟨cs,hh,hs,hr⟩:=h.1 g zero t hg h0
 obtain⟨ts,hts,_,hall⟩:=hr hb
 rw[hc] at hts
 cases hts
 have h1:0<cs.size:=by omega
 obtain⟨u,hu',hok⟩:=hall 0 cs[0] (by simp[h1])
 have e:u=t:=by simpa using hu'.symm
 subst e
 have hcell:w.cell? ⟨g,0,none⟩=some cs[0]:=by simp[World.cell?,hh,h1]
 rw[hcell]
 unfold Cell.ok at hok
 rw[hu] at hok
 cases hv:cs[0]<;>rw[hv] at hok<;>simp at hok
 obtain⟨rfl,_⟩:=hok
 exact⟨_,rfl⟩
end Go.Proofs.YtmmolhlihhdkcaaGreatDoor
namespace Go.Proofs.YtmmolhlihhdkcaaGreatDoor
open Go.RowKit Go.Sort Go.Shelf
set_option linter.unusedVariables false
set_option maxRecDepth 1000000
set_option maxHeartbeats 16000000
def klt (x y:Int×Int):Prop:=x.1<y.1\/(x.1=y.1/\x.2<y.2)
theorem Q60 (x y:Int×Int):klt x y\/x=y\/klt y x:=by
 unfold klt
 by_cases h:x=y
 ·exact Or.inr (Or.inl h)
 ·have:¬(x.1=y.1/\x.2=y.2):=λe=>h (Prod.ext e.1 e.2)
  omega
theorem Um {x y z:Int×Int}(h:klt x y)(k:klt y z):klt x z:=by unfold klt at *;omega
theorem Tf (x:Int×Int):¬klt x x:=by unfold klt;omega
theorem Q8j {α:Type}(key:α->Int×Int):∀l m:List α,l.Pairwise (λx y=>klt (key x) (key y))->m.Pairwise (λx y=>klt (key x) (key y))->(∀x,x∈l↔x∈m)->l=m
 |[],[],_,_,_=>rfl
 |[],y::m,_,_,h=>absurd ((h y).2 (List.mem_cons.2 (Or.inl rfl))) List.not_mem_nil
 |x::l,[],_,_,h=>absurd ((h x).1 (List.mem_cons.2 (Or.inl rfl))) List.not_mem_nil
 |x::l,y::m,hl,hm,h=>by
  obtain⟨l1,l2⟩:=List.pairwise_cons.1 hl
  obtain⟨m1,m2⟩:=List.pairwise_cons.1 hm
  have e:x=y:=by
   rcases List.mem_cons.1 ((h x).1 (List.mem_cons.2 (Or.inl rfl))) with e|e
   ·exact e
   rcases List.mem_cons.1 ((h y).2 (List.mem_cons.2 (Or.inl rfl))) with e2|e2
   ·exact e2.symm
   ·exact absurd (Um (m1 x e) (l1 y e2)) (Tf _)
  subst e
  congr 1
  refine Q8j key l m l2 m2 (λz=>⟨λhz=>?_,λhz=>?_⟩)
  ·rcases List.mem_cons.1 ((h z).1 (List.mem_cons.2 (Or.inr hz))) with e|e
   ·rw[e] at hz;exact absurd (l1 x hz) (Tf _)
   ·exact e
  ·rcases List.mem_cons.1 ((h z).2 (List.mem_cons.2 (Or.inr hz))) with e|e
   ·rw[e] at hz;exact absurd (m1 x hz) (Tf _)
   ·exact e
def dk (ds:List De)(i:Nat):Int×Int:=((dat ds i).a,(dat ds i).b)
theorem Q36 (ds:List De)(kind a b:Int):∀n,(Jr ds kind a b n<0->∀i,i<n->(dat ds i).kind=kind->¬klt (a,b) (dk ds i))/\(0<=Jr ds kind a b n->(Jr ds kind a b n).toNat<n/\(dat ds (Jr ds kind a b n).toNat).kind=kind/\klt (a,b) (dk ds (Jr ds kind a b n).toNat)/\∀i,i<n->(dat ds i).kind=kind->klt (a,b) (dk ds i)->¬klt (dk ds i) (dk ds (Jr ds kind a b n).toNat))
 |0=>⟨λ_ i hi=>absurd hi (Nat.not_lt_zero _),λh=>absurd h (by show ¬(0:Int)<=-1;decide)⟩
 |n+1=>by
  obtain⟨h1,h2⟩:=Q36 ds kind a b n
  have hin:=Q37 ds kind a b n
  rw[Fz]
  by_cases c1:(dat ds n).kind=kind
  ·rw[if_neg (λh=>h c1)]
   by_cases c2:(dat ds n).a<a\/((dat ds n).a=a/\(dat ds n).b<=b)
   ·rw[if_pos c2]
    have hn:¬klt (a,b) (dk ds n):=by unfold klt dk;dsimp only;omega
    refine⟨λh i hi hk=>?_,λh=>?_⟩
    ·by_cases e:i=n
     ·rw[e];exact hn
     ·exact h1 h i (by omega) hk
    ·obtain⟨g1,g2,g3,g4⟩:=h2 h
     refine⟨by omega,g2,g3,λi hi hk hlt=>?_⟩
     by_cases e:i=n
     ·rw[e] at hlt;exact absurd hlt hn
     ·exact g4 i (by omega) hk hlt
   ·rw[if_neg c2]
    have hn:klt (a,b) (dk ds n):=by unfold klt dk;dsimp only;omega
    by_cases c3:Jr ds kind a b n<0\/(dat ds n).a<(dat ds (Jr ds kind a b n).toNat).a\/((dat ds n).a=(dat ds (Jr ds kind a b n).toNat).a/\(dat ds n).b<(dat ds (Jr ds kind a b n).toNat).b)
    ·rw[if_pos c3]
     refine⟨λh=>by omega,λ_=>?_⟩
     rw[Int.toNat_natCast]
     refine⟨by omega,c1,hn,λi hi hk hlt hh=>?_⟩
     by_cases e:i=n
     ·rw[e] at hh;exact Tf _ hh
     ·by_cases hneg:Jr ds kind a b n<0
      ·exact h1 hneg i (by omega) hk hlt
      ·obtain⟨g1,g2,g3,g4⟩:=h2 (by omega)
       have hlt2:klt (dk ds n) (dk ds (Jr ds kind a b n).toNat):=by
        rcases c3 with c|c
        ·exact absurd c hneg
        ·unfold klt dk;exact c
       exact g4 i (by omega) hk hlt (Um hh hlt2)
    ·rw[if_neg c3]
     have hpos:0<=Jr ds kind a b n:=by omega
     refine⟨λh=>by omega,λ_=>?_⟩
     obtain⟨g1,g2,g3,g4⟩:=h2 hpos
     refine⟨by omega,g2,g3,λi hi hk hlt hh=>?_⟩
     by_cases e:i=n
     ·rw[e] at hh
      exact c3 (Or.inr (by unfold klt dk at hh;exact hh))
     ·exact g4 i (by omega) hk hlt hh
  ·rw[if_pos c1]
   refine⟨λh i hi hk=>?_,λh=>?_⟩
   ·by_cases e:i=n
    ·rw[e] at hk;exact absurd hk c1
    ·exact h1 h i (by omega) hk
   ·obtain⟨g1,g2,g3,g4⟩:=h2 h
    refine⟨by omega,g2,g3,λi hi hk hlt=>?_⟩
    by_cases e:i=n
    ·rw[e] at hk;exact absurd hk c1
    ·exact g4 i (by omega) hk hlt
def Q7r (x y:Int×Int):Bool:=decide (x.1<y.1)||(decide (x.1=y.1)&&decide (x.2<y.2))
theorem Wt (x y:Int×Int):Q7r x y=true↔klt x y:=by unfold Q7r klt;simp
def abv (ds:List De)(kind a b:Int):Nat:=((List.range ds.length).filter (λi=>decide ((dat ds i).kind=kind)&&Q7r (a,b) (dk ds i))).length
theorem Ah {p q:Nat->Bool}:∀l:List Nat,(∀x∈l,p x=true->q x=true)->(∃x∈l,q x=true/\p x=false)->(l.filter p).length<(l.filter q).length
 |[],_,h=>by obtain⟨x,hx,_⟩:=h;exact absurd hx List.not_mem_nil
 |y::l,h1,h2=>by
  have ht:∀x∈l,p x=true->q x=true:=λx hx=>h1 x (List.mem_cons.2 (Or.inr hx))
  have hle:(l.filter p).length<=(l.filter q).length:=by
   clear h1 h2
   induction l with
   |nil=>exact Nat.le_refl _
   |cons z l ih=>
    have i1:=ih (λx hx=>ht x (List.mem_cons.2 (Or.inr hx)))
    have i2:=ht z (List.mem_cons.2 (Or.inl rfl))
    rw[List.filter_cons,List.filter_cons]
    cases hp:p z
    ·cases hq:q z<;>simp<;>omega
    ·rw[i2 hp];simp;exact i1
  obtain⟨x,hx,hq,hp⟩:=h2
  rcases List.mem_cons.1 hx with e|e
  ·subst e
   rw[List.filter_cons,List.filter_cons,hq,hp]
   simp
   omega
  ·have i1:=Ah l ht ⟨x,e,hq,hp⟩
   have i2:=h1 y (List.mem_cons.2 (Or.inl rfl))
   rw[List.filter_cons,List.filter_cons]
   cases hpy:p y
   ·cases hqy:q y<;>simp<;>omega
   ·rw[i2 hpy];simp;exact i1
theorem Q8o (ds:List De)(kind:Int):∀(f:Nat) (a b:Int),abv ds kind a b<=f ->
  (∀i∈tkP ds kind f a b,i<ds.length/\(dat ds i).kind=kind/\klt (a,b) (dk ds i))/\(tkP ds kind f a b).Pairwise (λi j=>klt (dk ds i) (dk ds j))/\(∀i,i<ds.length->(dat ds i).kind=kind->klt (a,b) (dk ds i)->∃j∈tkP ds kind f a b,dk ds j=dk ds i)
 |0,a,b,h=>by
  refine⟨λi hi=>absurd hi List.not_mem_nil,List.Pairwise.nil,λi hi hk hlt=>?_⟩
  have h0:abv ds kind a b=0:=by omega
  have h1:=List.length_eq_zero_iff.1 h0
  have h2:i∈(List.range ds.length).filter (λi=>decide ((dat ds i).kind=kind)&&Q7r (a,b) (dk ds i)):=List.mem_filter.2 ⟨List.mem_range.2 hi,by rw[decide_eq_true hk,(Wt _ _).2 hlt];rfl⟩
  rw[h1] at h2
  exact absurd h2 List.not_mem_nil
 |f+1,a,b,h=>by
  obtain⟨s1,s2⟩:=Q36 ds kind a b ds.length
  rw[tkP]
  by_cases hr:Jr ds kind a b ds.length<0
  ·rw[if_pos hr]
   exact⟨λi hi=>absurd hi List.not_mem_nil,List.Pairwise.nil,λi hi hk hlt=>absurd hlt (s1 hr i hi hk)⟩
  ·rw[if_neg hr]
   obtain⟨g1,g2,g3,g4⟩:=s2 (by omega)
   generalize (Jr ds kind a b ds.length).toNat=j at *
   have hlt:abv ds kind (dat ds j).a (dat ds j).b<abv ds kind a b:=by
    refine Ah _ (λx hx hp=>?_) ⟨j,List.mem_range.2 g1,by rw[decide_eq_true g2,(Wt _ _).2 g3];rfl,?_⟩
    ·rw[Bool.and_eq_true] at hp ⊢
     exact⟨hp.1,(Wt _ _).2 (Um g3 ((Wt _ _).1 hp.2))⟩
    ·cases hq:Q7r ((dat ds j).a,(dat ds j).b) (dk ds j)
     ·simp
     ·exact absurd ((Wt _ _).1 hq) (Tf _)
   obtain⟨i1,i2,i3⟩:=Q8o ds kind f (dat ds j).a (dat ds j).b (by omega)
   refine⟨λi hi=>?_,List.pairwise_cons.2 ⟨λi hi=>(i1 i hi).2.2,i2⟩,λi hi hk hl=>?_⟩
   ·rcases List.mem_cons.1 hi with e|e
    ·rw[e];exact⟨g1,g2,g3⟩
    ·obtain⟨u1,u2,u3⟩:=i1 i e
     exact⟨u1,u2,Um g3 u3⟩
   ·rcases Q60 (dk ds j) (dk ds i) with c|c|c
    ·obtain⟨j',hj',e⟩:=i3 i hi hk c
     exact⟨j',List.mem_cons.2 (Or.inr hj'),e⟩
    ·exact⟨j,List.mem_cons.2 (Or.inl rfl),c⟩
    ·exact absurd c (g4 i hi hk hl)
structure DOk (d:De):Prop where
 a:0<=d.a
 b:0<=d.b
 z:d.kind≠4->d.b=0
 w:d.kind=2->d.way.id=d.a
 r:d.kind=3->d.rel.id=d.a
 u:d.kind=5->d.a=0
theorem Q9v {f:List ByteArray}{i:Nat}(h:Jo f.length (I8 f)=true)(hi:i<f.length)(h0:i≠0)(h2:Q49 f i=false):0<=iat (vsL f) i:=by
 have:=F7.1 h i hi
 unfold I8 at this
 have e0:(i==0)=false:=by simpa using h0
 rw[e0,h2] at this
 rw[Xw hi]
 simpa using this
theorem Qdj {f:List ByteArray}(h:V3 f=0):DOk (rdS f):=by
 obtain⟨hw,hn⟩:=chk0 h
 have e1:∀h1:1<f.length,0<=iat (vsL f) 1:=λh1=>Q9v hn h1 (by decide) (by unfold Q49;simp)
 rcases hw with⟨k,l⟩|⟨k,l,-,-,-⟩|⟨k,l,-⟩|⟨k,l⟩|⟨k,l⟩
 ·have e:rdS f=⟨1,iat (vsL f) 1,0,zWy,zRl,0,[],[]⟩:=by unfold rdS;rw[if_pos k]
  rw[e]
  exact⟨e1 (by omega),Int.le_refl _,λ_=>rfl,λh=>absurd (show(1:Int)=2 from h) (by decide),λh=>absurd (show(1:Int)=3 from h) (by decide),λh=>absurd (show(1:Int)=5 from h) (by decide)⟩
 ·have e:rdS f=⟨2,iat (vsL f) 1,0,⟨iat (vsL f) 1,(sat f 2).toList==[98],Jv (vsL f) f.length,Jx (vsL f) f.length⟩,zRl,0,Jv (vsL f) f.length,[]⟩:=by unfold rdS;rw[if_neg (by rw[k];decide),if_pos k]
  rw[e]
  exact⟨e1 (by omega),Int.le_refl _,λ_=>rfl,λ_=>rfl,λh=>absurd (show(2:Int)=3 from h) (by decide),λh=>absurd (show(2:Int)=5 from h) (by decide)⟩
 ·have h0:=k
  unfold Vu at h0
  rw[Bool.or_eq_true,beq_iff_eq,beq_iff_eq] at h0
  have e:∃x,rdS f=x/\x.kind=3/\x.a=iat (vsL f) 1/\x.b=0/\x.rel.id=iat (vsL f) 1:=by
   refine⟨_,rfl,?_⟩
   unfold rdS
   rw[if_neg (by rcases h0 with h|h<;>rw[h]<;>decide),if_neg (by rcases h0 with h|h<;>rw[h]<;>decide),if_pos k]
   split<;>exact⟨rfl,rfl,rfl,rfl⟩
  obtain⟨x,e,x1,x2,x3,x4⟩:=e
  rw[e]
  exact⟨by rw[x2];exact e1 (by omega),by rw[x3];exact Int.le_refl _,λ_=>x3,λh=>absurd (x1.symm.trans h) (by decide),λ_=>x4.trans x2.symm,λh=>absurd (x1.symm.trans h) (by decide)⟩
 ·have hr:Vu (sat f 0)=false:=by unfold Vu;rw[k];rfl
  have e:rdS f=⟨4,iat (vsL f) 1,iat (vsL f) 2,zWy,zRl,iat (vsL f) 3,[],[iat (vsL f) 1,iat (vsL f) 2]⟩:=by unfold rdS;rw[if_neg (by rw[k];decide),if_neg (by rw[k];decide),if_neg (by rw[hr];decide),if_pos k]
  have e2:0<=iat (vsL f) 2:=Q9v hn (by omega) (by decide) (by unfold Q49;rw[k,hr];rfl)
  rw[e]
  exact⟨e1 (by omega),e2,λh=>absurd rfl h,λh=>absurd (show(4:Int)=2 from h) (by decide),λh=>absurd (show(4:Int)=3 from h) (by decide),λh=>absurd (show(4:Int)=5 from h) (by decide)⟩
 ·have hr:Vu (sat f 0)=false:=by unfold Vu;rw[k];rfl
  have e:rdS f=⟨5,0,0,zWy,zRl,iat (vsL f) 1,[],[]⟩:=by unfold rdS;rw[if_neg (by rw[k];decide),if_neg (by rw[k];decide),if_neg (by rw[hr];decide),if_neg (by rw[k];decide)]
  rw[e]
  exact⟨Int.le_refl _,Int.le_refl _,λ_=>rfl,λh=>absurd (show(5:Int)=2 from h) (by decide),λh=>absurd (show(5:Int)=3 from h) (by decide),λ_=>rfl⟩
theorem Ag {n:Nat}{p:Nat->Bool}(h:Xf n p=none):∀j,j<n->p j=false:=λj hj=>by
 unfold Xf at h
 rw[List.find?_eq_none] at h
 have:=h j (List.mem_range.2 hj)
 simpa using this
theorem Q1w {bs:List UInt8}{ds:List De}(h:Yo bs=.ok ds):(∀d∈ds,DOk d)/\(∀i,i<ds.length->Pw ds i=false):=by
 unfold Yo at h
 split at h
 ·cases h
 split at h
 ·cases h
 generalize V9 (bs.take (bs.length-1)) 10=ls at h
 unfold Q3z at h
 split at h
 ·cases h
 cases hf:Xf ls.length (lnB ls) with
 |some i=>rw[hf] at h;cases h
 |none=>
  rw[hf] at h
  dsimp only at h
  have hl:=Ag hf
  generalize hd:Z8 ls (ls.length-1)=es at h
  unfold Wm at h
  cases h1:Xf es.length (Pw es) with
  |some i=>rw[h1] at h;cases h
  |none=>
   rw[h1] at h
   dsimp only at h
   cases h2:Xf es.length (Q0z es) with
   |some i=>rw[h2] at h;cases h
   |none=>
    rw[h2] at h
    dsimp only at h
    split at h
    ·cases h
    have e:es=ds:=by injection h
    subst e
    refine⟨λd hdm=>?_,Ag h1⟩
    rw[<-hd] at hdm
    unfold Z8 at hdm
    obtain⟨i,hi,e⟩:=List.mem_map.1 hdm
    have hi':=List.mem_range.1 hi
    have hb:=hl (i+1) (by omega)
    unfold lnB at hb
    rw[decide_eq_true (by omega:1<=i+1)] at hb
    have hc:lnC ls (i+1)=0:=by simpa using hb
    unfold lnC at hc
    split at hc
    ·cases hc
    ·rw[<-e];exact Qdj hc
theorem Q9e {ds:List De}{j:Nat}(hj:j<ds.length)(h:Pw ds j=false):∀i,i<j->¬((dat ds i).kind=(dat ds j).kind/\dk ds i=dk ds j):=λi hi he=>by
 unfold Pw at h
 rw[decide_eq_false_iff_not] at h
 apply h
 have hp:pk (dat ds j).kind (dat ds j).a (dat ds j).b (dat ds i)=true:=by
  have e1:(dat ds i).a=(dat ds j).a:=congrArg Prod.fst he.2
  have e2:(dat ds i).b=(dat ds j).b:=congrArg Prod.snd he.2
  simp[pk,he.1,e1,e2]
 unfold To
 cases hf:ds.findIdx? (pk (dat ds j).kind (dat ds j).a (dat ds j).b) with
 |none=>show(-1:Int)<j;omega
 |some m=>
  show(m:Int)<j
  obtain⟨hm,-,hb⟩:=List.findIdx?_eq_some_iff_getElem.1 hf
  have:¬i<m:=λhlt=>by
   have h2:=hb i hlt
   have e:dat ds i=ds[i]'(by omega):=by simp[dat,List.getD_eq_getElem?_getD,show i<ds.length by omega]
   rw[e] at hp
   rw[hp] at h2
   exact absurd h2 (by simp)
  omega
structure Pl (ds:List De):Prop where
 ok:∀d∈ds,DOk d
 no:∀i,i<ds.length->Pw ds i=false
theorem Pl.dif {ds:List De}(h:Pl ds){i j:Nat}(hi:i<ds.length)(hj:j<ds.length)(hk:(dat ds i).kind=(dat ds j).kind)(he:dk ds i=dk ds j):i=j:=by
 rcases Nat.lt_trichotomy i j with c|c|c
 ·exact absurd ⟨hk,he⟩ (Q9e hj (h.no j hj) i c)
 ·exact c
 ·exact absurd ⟨hk.symm,he.symm⟩ (Q9e hi (h.no i hi) j c)
theorem Pl.at {ds:List De}(h:Pl ds){i:Nat}(hi:i<ds.length):DOk (dat ds i):=h.ok _ (by
 have e:dat ds i=ds[i]:=by simp[dat,List.getD_eq_getElem?_getD,hi]
 rw[e];exact List.getElem_mem hi)
theorem G2 {ds:List De}(h:Pl ds)(K:Int):(∀i,i∈tkA ds K↔i<ds.length/\(dat ds i).kind=K)/\(tkA ds K).Pairwise (λi j=>klt (dk ds i) (dk ds j)):=by
 have hle:abv ds K (-1) (-1)<=ds.length:=by
  unfold abv
  have:=List.length_filter_le (λi=>decide ((dat ds i).kind=K)&&Q7r (-1,-1) (dk ds i)) (List.range ds.length)
  simpa using this
 obtain⟨t1,t2,t3⟩:=Q8o ds K ds.length (-1) (-1) hle
 refine⟨λi=>⟨λhi=>⟨(t1 i hi).1,(t1 i hi).2.1⟩,λ⟨hi,hk⟩=>?_⟩,t2⟩
 have hd:=h.at hi
 have hl:klt (-1,-1) (dk ds i):=by
  have:=hd.a
  unfold klt dk
  dsimp only
  omega
 obtain⟨j,hj,e⟩:=t3 i hi hk hl
 have ej:=h.dif (t1 j hj).1 hi ((t1 j hj).2.1.trans hk.symm) e
 rw[<-ej];exact hj
theorem Qes {ps:List Px}(h:Pl (dsP ps)):ps.Pairwise (λp q=>p.d.kind=q.d.kind->(p.d.a,p.d.b)≠(q.d.a,q.d.b)):=by
 rw[List.pairwise_iff_getElem]
 intro i j hi hj hij hk he
 have hl:(dsP ps).length=ps.length:=by simp[dsP]
 have e1:dat (dsP ps) i=ps[i].d:=by simp[dat,dsP,List.getD_eq_getElem?_getD,hi]
 have e2:dat (dsP ps) j=ps[j].d:=by simp[dat,dsP,List.getD_eq_getElem?_getD,hj]
 have:=h.dif (i:=i) (j:=j) (by omega) (by omega) (by rw[e1,e2];exact hk) (by unfold dk;rw[e1,e2];exact he)
 omega
theorem Q03 {α β:Type}{ps:List Px}(h:Pl (dsP ps))(K:Int)(f:Px->List α)(pr:α->β)(key:β->Int×Int)(g:De->β)(hf:∀p x,x∈f p->p.d.kind=K/\pr x=g p.d)(hf2:∀p,p.d.kind=K->∃x∈f p,pr x=g p.d)(hk:∀d,DOk d->d.kind=K->key (g d)=(d.a,d.b))(h1:∀p,(f p).length<=1)(L:List α)(hp:L.Perm (ps.flatMap f))(hs:L.Pairwise (λx y=>¬klt (key (pr y)) (key (pr x)))) :
  L.map pr=(tkA (dsP ps) K).map (λi=>g (dat (dsP ps) i)):=by
 obtain⟨t1,t2⟩:=G2 h K
 have hl:(dsP ps).length=ps.length:=by simp[dsP]
 have hok:∀p∈ps,DOk p.d:=λp hpm=>h.ok _ (List.mem_map.2 ⟨p,hpm,rfl⟩)
 refine Q8j key _ _ ?_ ?_ (λz=>⟨λhz=>?_,λhz=>?_⟩)
 ·rw[List.pairwise_map]
  have hd:(ps.flatMap f).Pairwise (λx y=>key (pr x)≠key (pr y)):=by
   rw[List.pairwise_flatMap]
   refine⟨λp hpm=>?_,?_⟩
   ·have:=h1 p
    match hfp:f p,this with
    |[],_=>exact List.Pairwise.nil
    |[x],_=>exact List.pairwise_singleton _ _
    |x::y::l,hh=>simp at hh
   ·have hps:=Qes h
    refine List.Pairwise.imp_of_mem (λ{p q} hpm hqm hpq x hx y hy e=>?_) hps
    obtain⟨a1,a2⟩:=hf p x hx
    obtain⟨b1,b2⟩:=hf q y hy
    rw[a2,b2,hk _ (hok p hpm) a1,hk _ (hok q hqm) b1] at e
    exact hpq (a1.trans b1.symm) e
  have hd2:L.Pairwise (λx y=>key (pr x)≠key (pr y)):=(hp.pairwise_iff (λ{x y} hxy=>Ne.symm hxy)).2 hd
  refine(hs.and hd2).imp (λ{x y} hh=>?_)
  rcases Q60 (key (pr x)) (key (pr y)) with c|c|c
  ·exact c
  ·exact absurd c hh.2
  ·exact absurd c hh.1
 ·rw[List.pairwise_map]
  refine List.Pairwise.imp_of_mem (λ{i j} hi hj hij=>?_) t2
  obtain⟨u1,u2⟩:=(t1 i).1 hi
  obtain⟨v1,v2⟩:=(t1 j).1 hj
  rw[hk _ (h.at u1) u2,hk _ (h.at v1) v2]
  exact hij
 ·obtain⟨x,hx,rfl⟩:=List.mem_map.1 hz
  obtain⟨p,hpm,hxp⟩:=List.mem_flatMap.1 (hp.mem_iff.1 hx)
  obtain⟨a1,a2⟩:=hf p x hxp
  obtain⟨i,hi,rfl⟩:=List.mem_iff_getElem.1 hpm
  have e:dat (dsP ps) i=ps[i].d:=by simp[dat,dsP,List.getD_eq_getElem?_getD,hi]
  refine List.mem_map.2 ⟨i,(t1 i).2 ⟨by omega,by rw[e];exact a1⟩,?_⟩
  rw[e,a2]
 ·obtain⟨i,hi,rfl⟩:=List.mem_map.1 hz
  obtain⟨u1,u2⟩:=(t1 i).1 hi
  have hi':i<ps.length:=by omega
  have e:dat (dsP ps) i=ps[i].d:=by simp[dat,dsP,List.getD_eq_getElem?_getD,hi']
  rw[e] at u2 ⊢
  obtain⟨x,hx,ex⟩:=hf2 ps[i] u2
  exact List.mem_map.2 ⟨x,hp.mem_iff.2 (List.mem_flatMap.2 ⟨ps[i],List.getElem_mem hi',hx⟩),ex⟩
theorem Qey {ps:List Px}{ns:List Int}(h:Pl (dsP ps))(hp:ns.Perm (ndO ps))(hs:ns.Pairwise (λx y=>x<=y)):ns=(tkA (dsP ps) 1).map (λi=>(dat (dsP ps) i).a):=by
 have:=Q03 h 1 ndP id (λx=>(x,0)) (λd=>d.a) (λp x hx=>by unfold ndP at hx;split at hx;exact⟨by assumption,by simpa using hx⟩;cases hx) (λp hk=>⟨p.d.a,by unfold ndP;rw[if_pos hk];exact List.mem_singleton.2 rfl,rfl⟩) (λd hd hk=>by rw[hd.z (by rw[hk];decide)]) (λp=>by unfold ndP;split<;>simp) ns hp (hs.imp (λ{x y} hxy hc=>by unfold klt at hc;dsimp only[id] at hc;omega))
 rw[List.map_id] at this
 exact this
theorem Qdx {ps:List Px}{ws:List Wv}(h:Pl (dsP ps))(hp:ws.Perm (wyO ps))(hs:ws.Pairwise (λx y=>0<=V1 y.1.id x.1.id)):ws.map (·.1)=(tkA (dsP ps) 2).map (λi=>(dat (dsP ps) i).way):=
 Q03 h 2 wyP (·.1) (λx=>(x.id,0)) (λd=>d.way) (λp x hx=>by unfold wyP at hx;split at hx;exact⟨by assumption,by have e:x=(p.d.way,p.vn,p.vw):=by { simpa using hx };rw[e]⟩;cases hx) (λp hk=>⟨(p.d.way,p.vn,p.vw),by unfold wyP;rw[if_pos hk];exact List.mem_singleton.2 rfl,rfl⟩) (λd hd hk=>by rw[hd.z (by rw[hk];decide),hd.w hk]) (λp=>by unfold wyP;split<;>simp) ws hp (hs.imp (λ{x y} hxy hc=>by have:=(Kj y.1.id x.1.id).2 hc;omega))
theorem Qel {ps:List Px}{rs:List Rv}(h:Pl (dsP ps))(hp:rs.Perm (rlO ps))(hs:rs.Pairwise (λx y=>0<=V1 y.1.id x.1.id)):rs.map (·.1)=(tkA (dsP ps) 3).map (λi=>(dat (dsP ps) i).rel):=
 Q03 h 3 rlP (·.1) (λx=>(x.id,0)) (λd=>d.rel) (λp x hx=>by unfold rlP at hx;split at hx;exact⟨by assumption,by have e:x=(p.d.rel,p.vr):=by { simpa using hx };rw[e]⟩;cases hx) (λp hk=>⟨(p.d.rel,p.vr),by unfold rlP;rw[if_pos hk];exact List.mem_singleton.2 rfl,rfl⟩) (λd hd hk=>by rw[hd.z (by rw[hk];decide),hd.r hk]) (λp=>by unfold rlP;split<;>simp) rs hp (hs.imp (λ{x y} hxy hc=>by have:=(Kj y.1.id x.1.id).2 hc;omega))
theorem Qe4 {ps:List Px}{ts:List Tn}(h:Pl (dsP ps))(hp:ts.Perm (tnO ps))(hs:ts.Pairwise (λx y=>0<=Ki y x)):ts=(tkA (dsP ps) 4).map (λi=>⟨(dat (dsP ps) i).a,(dat (dsP ps) i).b,(dat (dsP ps) i).cost⟩):=by
 have:=Q03 h 4 tnP id (λx=>(x.frm,x.to)) (λd=>(⟨d.a,d.b,d.cost⟩:Tn)) (λp x hx=>by unfold tnP at hx;split at hx;exact⟨by assumption,by simpa using hx⟩;cases hx) (λp hk=>⟨⟨p.d.a,p.d.b,p.d.cost⟩,by unfold tnP;rw[if_pos hk];exact List.mem_singleton.2 rfl,rfl⟩) (λd hd hk=>rfl) (λp=>by unfold tnP;split<;>simp) ts hp (hs.imp (λ{x y} hxy hc=>by have:=(Q30 y x).2 hc;omega))
 rw[List.map_id] at this
 exact this
theorem Qe2 {ps:List Px}(h:Pl (dsP ps)):utO ps=match (tkA (dsP ps) 5).getLast? with|some i=>(dat (dsP ps) i).cost|none=>0:=by
 obtain⟨t1,t2⟩:=G2 h 5
 have hl:(dsP ps).length=ps.length:=by simp[dsP]
 have hdat:∀i (hi:i<ps.length),dat (dsP ps) i=ps[i].d:=λi hi=>by simp[dat,dsP,List.getD_eq_getElem?_getD,hi]
 have huniq:∀i j,i<ps.length->j<ps.length->(dat (dsP ps) i).kind=5->(dat (dsP ps) j).kind=5->i=j:=λi j hi hj h1 h2=>by
  have a:=h.at (i:=i) (by omega)
  have b:=h.at (i:=j) (by omega)
  exact h.dif (by omega) (by omega) (h1.trans h2.symm) (by unfold dk;rw[a.u h1,b.u h2,a.z (by rw[h1];decide),b.z (by rw[h2];decide)])
 have hut:∀qs:List Px,(∀p∈qs,p.d.kind≠5)->utO qs=0:=λqs=>by
  refine G7 (P:=λqs=>(∀p∈qs,p.d.kind≠5)->utO qs=0) (λ_=>rfl) (λqs p ih hq=>?_) qs
  rw[Zm,if_neg (hq p (List.mem_append.2 (Or.inr (List.mem_singleton.2 rfl))))]
  exact ih (λq hqm=>hq q (List.mem_append.2 (Or.inl hqm)))
 have hut2:∀(qs:List Px) (c:Int),(∃p∈qs,p.d.kind=5)->(∀p∈qs,p.d.kind=5->p.d.cost=c)->utO qs=c:=λqs c=>by
  refine G7 (P:=λqs=>(∃p∈qs,p.d.kind=5)->(∀p∈qs,p.d.kind=5->p.d.cost=c)->utO qs=c) (λ⟨p,hp,_⟩=>absurd hp List.not_mem_nil) (λqs p ih hex hall=>?_) qs
  rw[Zm]
  by_cases hk:p.d.kind=5
  ·rw[if_pos hk]
   exact hall p (List.mem_append.2 (Or.inr (List.mem_singleton.2 rfl))) hk
  ·rw[if_neg hk]
   refine ih ?_ (λq hq=>hall q (List.mem_append.2 (Or.inl hq)))
   obtain⟨q,hq,hqk⟩:=hex
   rcases List.mem_append.1 hq with hq|hq
   ·exact⟨q,hq,hqk⟩
   ·rw[List.mem_singleton.1 hq] at hqk;exact absurd hqk hk
 cases hg:(tkA (dsP ps) 5).getLast? with
 |none=>
  have e:tkA (dsP ps) 5=[]:=List.getLast?_eq_none_iff.1 hg
  refine hut ps (λp hp hk=>?_)
  obtain⟨i,hi,rfl⟩:=List.mem_iff_getElem.1 hp
  have:=(t1 i).2 ⟨by omega,by rw[hdat i hi];exact hk⟩
  rw[e] at this
  exact absurd this List.not_mem_nil
 |some i=>
  have hm:i∈tkA (dsP ps) 5:=List.mem_of_getLast? hg
  obtain⟨hi,hk⟩:=(t1 i).1 hm
  have hi':i<ps.length:=by omega
  show utO ps=(dat (dsP ps) i).cost
  refine hut2 ps _ ⟨ps[i],List.getElem_mem hi',by rw[<-hdat i hi'];exact hk⟩ (λp hp hpk=>?_)
  obtain⟨j,hj,rfl⟩:=List.mem_iff_getElem.1 hp
  have e:=huniq j i hj hi' (by rw[hdat j hj];exact hpk) hk
  subst e
  rw[hdat j hj]
end Go.Proofs.YtmmolhlihhdkcaaGreatDoor
namespace Go.Proofs.YtmmolhlihhdkcaaGreatDoor
open Go.RowKit Go.Sort
set_option linter.unusedVariables false
set_option maxRecDepth 1000000
set_option maxHeartbeats 16000000
theorem Q7h {bs:List UInt8}{ds:List De}(h:Yo bs=.ok ds):Pl ds:=⟨(Q1w h).1,(Q1w h).2⟩
def ntM (ds:List De):Nt:=⟨(tkA ds 1).map (λi=>(dat ds i).a),(tkA ds 2).map (λi=>(dat ds i).way),(tkA ds 3).map (λi=>(dat ds i).rel),(tkA ds 4).map (λi=>⟨(dat ds i).a,(dat ds i).b,(dat ds i).cost⟩),match (tkA ds 5).getLast? with|some i=>(dat ds i).cost|none=>0⟩
theorem Qd8.net {w w':World}{bs:List UInt8}{ds:List De}{e:Ending}(h:Qd8 w w' (Yo bs) e)(hp:Yo bs=.ok ds):∃vN vW vR vT,e=.returned (.agg #[.int .i64 0,.int .i64 0,vN,vW,vR,vT,.int .i64 (ntM ds).uturn])/\Yd w.heap.size w' vN vW vR vT (ntM ds):=by
 rw[hp] at h
 obtain⟨ps,ns,ws,rs,ts,vN,vW,vR,vT,rfl,he,hs,hv⟩:=h
 have hg:=Q7h hp
 have r0:=Q6.held hv.n
 have r1:=Ab hv.wy (λx hx=>⟨hv.ri _ (Er (hs.wy.1.mem_iff.1 hx)).1,hv.ri _ (Er (hs.wy.1.mem_iff.1 hx)).2⟩)
 have r2:=Ac hv.rl (λx hx=>hv.ri _ (Q93 (hs.rl.1.mem_iff.1 hx)))
 have r3:=Fk hv.tn
 have e0:=Qey hg hs.n.1 hs.n.2
 have e3:=Qe4 hg hs.tn.1 hs.tn.2
 refine⟨vN,vW,vR,vT,?_,?_,?_,?_,?_⟩
 ·rw[he,Qe2 hg];rfl
 ·rw[e0] at r0;exact r0
 ·rw[Qdx hg hs.wy.1 hs.wy.2] at r1;exact r1
 ·rw[Qel hg hs.rl.1 hs.rl.2] at r2;exact r2
 ·rw[e3] at r3;exact r3
theorem Vq (l:List UInt8):(stOf l).toList=l:=by
 rw[ByteArray.toList_eq]
 rfl
theorem Q5h (c:UInt8):∀x r:List UInt8,c∉x->sp c (x++c::r)=x::sp c r
 |[],r,_=>by simp[sp]
 |b::x,r,h=>by
  have hb:b≠c:=λe=>h (by rw[e];exact List.mem_cons_self)
  rw[List.cons_append,sp,if_neg hb,Q5h c x r (λe=>h (List.mem_cons_of_mem _ e))]
  rfl
theorem Q8z (c:UInt8):∀x:List UInt8,c∉x->sp c x=[x]
 |[],_=>rfl
 |b::x,h=>by
  have hb:b≠c:=λe=>h (by rw[e];exact List.mem_cons_self)
  rw[sp,if_neg hb,Q8z c x (λe=>h (List.mem_cons_of_mem _ e))]
  rfl
theorem Q09 (c:UInt8):∀(ys:List (List UInt8)) (x:List UInt8),c∉x->(∀y∈ys,c∉y)->sp c (x++ys.flatMap (λy=>c::y))=x::ys
 |[],x,hx,_=>by rw[List.flatMap_nil,List.append_nil];exact Q8z c x hx
 |y::ys,x,hx,hy=>by
  rw[List.flatMap_cons,List.cons_append,Q5h c x _ hx,Q09 c ys y (hy y List.mem_cons_self) (λz hz=>hy z (List.mem_cons_of_mem _ hz))]
theorem Ga {x:List UInt8}(h:okA x=true):(32:UInt8)∉x/\(10:UInt8)∉x:=by
 unfold okA at h
 rw[List.all_eq_true] at h
 constructor
 ·intro hm;have:=h _ hm;revert this;decide
 ·intro hm;have:=h _ hm;revert this;decide
theorem Q5q {x:List UInt8}(h:okL x=true):okA x=true:=by
 unfold okL at h
 rw[Bool.and_eq_true] at h
 exact h.2
def jn (x:List UInt8)(ys:List (List UInt8)):List UInt8:=x++ys.flatMap (λy=>32::y)
theorem Qak {x:List UInt8}{ys:List (List UInt8)}(hx:okL x=true)(hy:∀y∈ys,okL y=true):Yr (stOf (jn x ys))=(x::ys).map stOf:=by
 have hs:sp 32 (jn x ys)=x::ys:=Q09 32 ys x (Ga (Q5q hx)).1 (λy h=>(Ga (Q5q (hy y h))).1)
 obtain⟨a,bs,e1,-,e2⟩:=Qa5 (jn x ys)
 rw[hs] at e1
 injection e1 with e3 e4
 subst e3 e4
 have hl:lk true (jn x ys)=true:=by
  rw[e2,hx,Bool.true_and,List.all_eq_true]
  exact hy
 rw[Gd,if_pos hl,hs]
theorem Qcl {x:List UInt8}{ys:List (List UInt8)}(hx:okL x=true)(hy:∀y∈ys,okL y=true):(10:UInt8)∉jn x ys:=by
 unfold jn
 intro h
 rcases List.mem_append.1 h with h|h
 ·exact(Ga (Q5q hx)).2 h
 ·obtain⟨y,hm,h2⟩:=List.mem_flatMap.1 h
  rcases List.mem_cons.1 h2 with e|e
  ·exact absurd e (by decide)
  ·exact(Ga (Q5q (hy y hm))).2 e
def dcL (z:Int):List UInt8:=Lib.decDigits z.toNat
theorem Q10 (l r:List UInt8){i:Nat}(h:i<l.length):bt (stOf (l++r)) i=bt (stOf l) i:=by
 rw[W8,W8,List.getD_eq_getElem?_getD,List.getD_eq_getElem?_getD,List.getElem?_append_left h]
theorem Q1c (l r:List UInt8):∀k,k<=l.length->vTo (stOf (l++r)) k=vTo (stOf l) k
 |0,_=>rfl
 |k+1,h=>by
  unfold vTo
  rw[Q1c l r k (by omega),Q10 l r (by omega)]
theorem Qav {d:Nat}(h:d<10):(UInt8.ofNat (48+d)).toNat=48+d:=by
 rw[UInt8.toNat_ofNat']
 omega
theorem Q6h (n:Nat):vTo (stOf (Lib.decDigits n)) (Lib.decDigits n).length=(n:Int)/\(∀i,i<(Lib.decDigits n).length->48<=bt (stOf (Lib.decDigits n)) i/\bt (stOf (Lib.decDigits n)) i<=57)/\0<(Lib.decDigits n).length/\(bt (stOf (Lib.decDigits n)) 0=48->n=0):=by
 induction n using Nat.strongRecOn with
 |ind n ih=>
  by_cases h:n<10
  ·rw[Lib.decDigits,dif_pos h]
   have e:bt (stOf [UInt8.ofNat (48+n)]) 0=48+n:=by rw[W8];exact Qav h
   refine⟨?_,λi hi=>?_,by simp,λh0=>by omega⟩
   ·show(0:Int)*10+((bt (stOf [UInt8.ofNat (48+n)]) 0:Int)-48)=n
    rw[e];omega
   ·have:i=0:=by simpa using hi
    subst this
    rw[e];omega
  ·obtain⟨i1,i2,i3,i4⟩:=ih (n/10) (by omega)
   rw[Lib.decDigits,dif_neg h]
   generalize Lib.decDigits (n/10)=l at *
   have hl:(l++[UInt8.ofNat (48+n%10)]).length=l.length+1:=by simp
   have e:bt (stOf (l++[UInt8.ofNat (48+n%10)])) l.length=48+n%10:=by
    rw[W8,List.getD_eq_getElem?_getD,List.getElem?_append_right (Nat.le_refl _),Nat.sub_self]
    exact Qav (by omega)
   rw[hl]
   refine⟨?_,λi hi=>?_,by omega,λh0=>?_⟩
   ·show vTo (stOf (l++[UInt8.ofNat (48+n%10)])) l.length*10+((bt (stOf (l++[UInt8.ofNat (48+n%10)])) l.length:Int)-48)=n
    rw[Q1c l _ _ (Nat.le_refl _),i1,e]
    omega
   ·by_cases hi2:i<l.length
    ·rw[Q10 l _ hi2];exact i2 i hi2
    ·have:i=l.length:=by omega
     subst this
     rw[e];omega
   ·rw[Q10 l _ i3] at h0
    have:=i4 h0
    omega
theorem Qf9 (k:Nat):∀n,n<10 ^ (k+1)->(Lib.decDigits n).length<=k+1:=by
 induction k with
 |zero=>intro n hn;rw[Lib.decDigits,dif_pos (by simpa using hn)];simp
 |succ k ih=>
  intro n hn
  by_cases h:n<10
  ·rw[Lib.decDigits,dif_pos h];simp
  ·rw[Lib.decDigits,dif_neg h,List.length_append,List.length_singleton]
   have:n/10<10 ^ (k+1):=by
    rw[Nat.pow_succ] at hn
    omega
   have:=ih _ this
   omega
theorem Fs {z:Int}(h0:0<=z)(h1:z<=1048576):V8 (stOf (dcL z))=z:=by
 obtain⟨a,b,c,d⟩:=Q6h z.toNat
 have hl:=Qf9 6 z.toNat (by have:(10:Nat) ^ (6+1)=10000000:=by decide
                            omega)
 unfold dcL
 rw[Q1b (n:=(Lib.decDigits z.toNat).length) (Yk _) (by omega) (λ⟨e1,e2⟩=>?_) (λi hi=>?_),a,if_neg (by omega)]
 ·omega
 ·have:=d e1
  rw[this,Lib.decDigits] at e2
  simp at e2
 ·have:=b i hi
  unfold dgB
  rw[Bool.and_eq_true,decide_eq_true_eq,decide_eq_true_eq]
  exact this
theorem Q2u (z:Int):okL (dcL z)=true:=by
 obtain⟨a,b,c,d⟩:=Q6h z.toNat
 unfold dcL okL okA
 rw[Bool.and_eq_true,List.all_eq_true]
 refine⟨?_,λx hx=>?_⟩
 ·cases hq:Lib.decDigits z.toNat with
  |nil=>rw[hq] at c;simp at c
  |cons x l=>rfl
 ·obtain⟨i,hi,rfl⟩:=List.mem_iff_getElem.1 hx
  have:=b i hi
  rw[W8,List.getD_eq_getElem?_getD,List.getElem?_eq_getElem hi] at this
  simp only[Option.getD_some] at this
  rw[Bool.and_eq_true,decide_eq_true_eq,decide_eq_true_eq]
  omega
def InR (x:Int):Prop:=0<=x/\x<=1048576
def Zy (z:Int):De:=⟨1,z,0,zWy,zRl,0,[],[]⟩
def Ke (x:Wy):De:=⟨2,x.id,0,x,zRl,0,x.nodes,[]⟩
def If (x:Rl):De:=⟨3,x.id,0,zWy,x,0,if x.via then [x.node] else [],[x.frm,x.to]++x.ways⟩
def Up (x:Tn):De:=⟨4,x.frm,x.to,zWy,zRl,x.cost,[],[x.frm,x.to]⟩
def dUt (u:Int):De:=⟨5,0,0,zWy,zRl,u,[],[]⟩
def wyV (x:Wy):List Int:=iat x.nodes 0::(List.range x.weights.length).flatMap λi=>[iat x.weights i,iat x.nodes (i+1)]
def rlV (x:Rl):List Int:=(if x.via then [x.node] else x.ways)++[x.to]
def fX (d:De):List UInt8:=if d.kind=1 then [110,111,100,101] else if d.kind=2 then [119,97,121] else if d.kind=3 then (if d.rel.only then [111,110,108,121] else [110,111]) else if d.kind=4 then [116,117,114,110] else [117,116,117,114,110]
def fY (d:De):List (List UInt8):=if d.kind=1 then [dcL d.a] else if d.kind=2 then dcL d.way.id::(if d.way.both then [98] else [102])::(wyV d.way).map dcL
 else if d.kind=3 then dcL d.rel.id::dcL d.rel.frm::(if d.rel.via then [97,116] else [98,121])::(rlV d.rel).map dcL
 else if d.kind=4 then [dcL d.a,dcL d.b,dcL d.cost] else [dcL d.cost]
def lnD (d:De):List UInt8:=jn (fX d) (fY d)
def fsD (d:De):List ByteArray:=(fX d::fY d).map stOf
structure WyG (x:Wy):Prop where
 id:InR x.id
 nodes:∀i,i<x.nodes.length->InR (iat x.nodes i)
 weights:∀i,i<x.weights.length->InR (iat x.weights i)
 len:x.nodes.length=x.weights.length+1
 one:1<=x.weights.length
 seg:x.weights.length<=100
structure RlG (x:Rl):Prop where
 id:InR x.id
 frm:InR x.frm
 tt:InR x.to
 atv:x.via=true->InR x.node/\x.ways=[]
 byv:x.via=false->x.node=0/\1<=x.ways.length/\x.ways.length<=4/\∀z∈x.ways,InR z
def DG (d:De):Prop:=(∃z,InR z/\d=Zy z)\/(∃x,WyG x/\d=Ke x)\/(∃x,RlG x/\d=If x)\/(∃x:Tn,(InR x.frm/\InR x.to/\InR x.cost)/\d=Up x)\/∃u,InR u/\d=dUt u
theorem Qds (d:De):okL (fX d)=true:=by
 unfold fX
 repeat' split
 all_goals decide
theorem Qdr (d:De):∀y∈fY d,okL y=true:=by
 have hm:∀zs:List Int,∀y∈zs.map dcL,okL y=true:=λzs y hy=>by
  obtain⟨z,-,rfl⟩:=List.mem_map.1 hy
  exact Q2u z
 unfold fY
 split
 ·intro y hy;rw[List.mem_singleton.1 hy];exact Q2u _
 split
 ·intro y hy
  rcases List.mem_cons.1 hy with rfl|hy
  ·exact Q2u _
  rcases List.mem_cons.1 hy with rfl|hy
  ·split<;>decide
  ·exact hm _ y hy
 split
 ·intro y hy
  rcases List.mem_cons.1 hy with rfl|hy
  ·exact Q2u _
  rcases List.mem_cons.1 hy with rfl|hy
  ·exact Q2u _
  rcases List.mem_cons.1 hy with rfl|hy
  ·split<;>decide
  ·exact hm _ y hy
 split
 ·exact hm [d.a,d.b,d.cost]
 ·exact hm [d.cost]
theorem Im (d:De):Yr (stOf (lnD d))=fsD d:=Qak (Qds d) (Qdr d)
theorem Aa (d:De):(10:UInt8)∉lnD d:=Qcl (Qds d) (Qdr d)
theorem Qbv (l:List (List UInt8)){i:Nat}(h:i<l.length):sat (l.map stOf) i=stOf l[i]:=by simp[sat,List.getD_eq_getElem?_getD,h]
theorem K7 {zs:List Int}(h:∀z∈zs,InR z):Zu ((zs.map dcL).map stOf)=true:=by
 unfold Zu
 rw[List.all_eq_true]
 intro s hs
 obtain⟨l,hl,rfl⟩:=List.mem_map.1 hs
 obtain⟨z,hz,rfl⟩:=List.mem_map.1 hl
 have:=h z hz
 rw[Fs this.1 this.2,decide_eq_true_eq]
 exact this.1
theorem Q1a {zs:List Int}(h:∀z∈zs,InR z):vsL ((zs.map dcL).map stOf)=zs:=by
 unfold vsL
 rw[List.map_map,List.map_map]
 have:zs.map ((V8 ∘ stOf) ∘ dcL)=zs.map id:=List.map_congr_left (λz hz=>Fs (h z hz).1 (h z hz).2)
 rw[this,List.map_id]
theorem Yv (s:ByteArray)(f:List ByteArray):vsL (s::f)=V8 s::vsL f:=rfl
theorem Wx (x:Int)(l:List Int)(i:Nat):iat (x::l) (i+1)=iat l i:=rfl
theorem Qac (x:Int)(l:List Int):iat (x::l) 0=x:=rfl
theorem Q7e {z:Int}(h:InR z):V3 (fsD (Zy z))=0/\rdS (fsD (Zy z))=Zy z:=by
 have e:fsD (Zy z)=stOf [110,111,100,101]::([z].map dcL).map stOf:=rfl
 have hw:(sat (stOf [110,111,100,101]::([z].map dcL).map stOf) 0).toList=[110,111,100,101]:=Vq _
 have hz:∀x∈[z],InR x:=λx hx=>by rw[List.mem_singleton.1 hx];exact h
 rw[e]
 constructor
 ·rw[Q6m hw,if_neg (by simp),List.drop_one,List.tail_cons,if_pos (K7 hz)]
 ·unfold rdS
  rw[if_pos hw,Yv,Q1a hz]
  rfl
theorem Qc1 {z:Int}(h:InR z):V3 (fsD (dUt z))=0/\rdS (fsD (dUt z))=dUt z:=by
 have e:fsD (dUt z)=stOf [117,116,117,114,110]::([z].map dcL).map stOf:=rfl
 have hw:(sat (stOf [117,116,117,114,110]::([z].map dcL).map stOf) 0).toList=[117,116,117,114,110]:=Vq _
 have hz:∀x∈[z],InR x:=λx hx=>by rw[List.mem_singleton.1 hx];exact h
 rw[e]
 constructor
 ·rw[Q32 hw,if_neg (by simp),List.drop_one,List.tail_cons,if_pos (K7 hz)]
 ·have hr:Vu (sat (stOf [117,116,117,114,110]::([z].map dcL).map stOf) 0)=false:=by unfold Vu;rw[hw];rfl
  unfold rdS
  rw[if_neg (by rw[hw];decide),if_neg (by rw[hw];decide),if_neg (by rw[hr];decide),if_neg (by rw[hw];decide),Yv,Q1a hz]
  rfl
theorem Q7d {x:Tn}(h1:InR x.frm)(h2:InR x.to)(h3:InR x.cost):V3 (fsD (Up x))=0/\rdS (fsD (Up x))=Up x:=by
 have e:fsD (Up x)=stOf [116,117,114,110]::([x.frm,x.to,x.cost].map dcL).map stOf:=rfl
 have hw:(sat (stOf [116,117,114,110]::([x.frm,x.to,x.cost].map dcL).map stOf) 0).toList=[116,117,114,110]:=Vq _
 have hz:∀z∈[x.frm,x.to,x.cost],InR z:=λz hz=>by
  rcases List.mem_cons.1 hz with rfl|hz
  ·exact h1
  rcases List.mem_cons.1 hz with rfl|hz
  ·exact h2
  ·rw[List.mem_singleton.1 hz];exact h3
 rw[e]
 constructor
 ·rw[Q6l hw,if_neg (by simp),List.drop_one,List.tail_cons,if_pos (K7 hz)]
 ·have hr:Vu (sat (stOf [116,117,114,110]::([x.frm,x.to,x.cost].map dcL).map stOf) 0)=false:=by unfold Vu;rw[hw];rfl
  unfold rdS
  rw[if_neg (by rw[hw];decide),if_neg (by rw[hw];decide),if_neg (by rw[hr];decide),if_pos hw,Yv,Q1a hz]
  rfl
theorem Av (x:Wy):(wyV x).length=1+2*x.weights.length:=by
 unfold wyV
 have:∀n,((List.range n).flatMap λi=>[iat x.weights i,iat x.nodes (i+1)]).length=2*n:=λn=>by
  induction n with
  |zero=>rfl
  |succ n ih=>rw[List.range_succ,List.flatMap_append,List.length_append,ih];simp;omega
 rw[List.length_cons,this]
 omega
theorem Qdz (x:Wy){k:Nat}(h:k<x.weights.length):iat (wyV x) (2*k+1)=iat x.weights k/\iat (wyV x) (2*k+2)=iat x.nodes (k+1):=by
 have:∀n,(((List.range n).flatMap λi=>[iat x.weights i,iat x.nodes (i+1)]).length=2*n)/\∀k,k<n->iat ((List.range n).flatMap λi=>[iat x.weights i,iat x.nodes (i+1)]) (2*k)=iat x.weights k/\iat ((List.range n).flatMap λi=>[iat x.weights i,iat x.nodes (i+1)]) (2*k+1)=iat x.nodes (k+1):=λn=>by
  induction n with
  |zero=>exact⟨rfl,λk hk=>absurd hk (Nat.not_lt_zero _)⟩
  |succ n ih=>
   obtain⟨i1,i2⟩:=ih
   rw[List.range_succ,List.flatMap_append]
   refine⟨by rw[List.length_append,i1];simp;omega,λk hk=>?_⟩
   generalize (List.range n).flatMap (λi=>[iat x.weights i,iat x.nodes (i+1)])=l at *
   by_cases e:k<n
   ·obtain⟨a,b⟩:=i2 k e
    have left:∀(r:List Int) j,j<l.length->iat (l++r) j=iat l j:=λr j hj=>by
     unfold iat
     rw[List.getD_eq_getElem?_getD,List.getD_eq_getElem?_getD,List.getElem?_append_left hj]
    rw[left _ _ (by omega),left _ _ (by omega)]
    exact⟨a,b⟩
   ·have e2:k=n:=by omega
    subst e2
    have right:∀(r:List Int) j,iat (l++r) (l.length+j)=iat r j:=λr j=>by
     unfold iat
     rw[List.getD_eq_getElem?_getD,List.getD_eq_getElem?_getD,List.getElem?_append_right (by omega),Nat.add_sub_cancel_left]
    have r0:=right ([k].flatMap λi=>[iat x.weights i,iat x.nodes (i+1)]) 0
    have r1:=right ([k].flatMap λi=>[iat x.weights i,iat x.nodes (i+1)]) 1
    rw[i1,Nat.add_zero] at r0
    rw[i1] at r1
    rw[r0,r1]
    exact⟨rfl,rfl⟩
 have:=(this x.weights.length).2 k h
 exact⟨this.1,this.2⟩
theorem Kt (l:List Int){k:Nat}(h:k<l.length):l.take (k+1)=l.take k++[iat l k]:=by
 rw[List.take_add_one,List.getElem?_eq_getElem h]
 simp[iat,List.getD_eq_getElem?_getD,h]
theorem Q25 {x:Wy}{v:List Int}(hl:x.nodes.length=x.weights.length+1)(hv:∀j,j<(wyV x).length->iat v (j+3)=iat (wyV x) j):∀k,k<=x.weights.length->Jv v (2*k+1+3)=x.nodes.take (k+1)/\Jx v (2*k+1+3)=x.weights.take k
 |0,_=>by
  have a:=I7 (v:=v) (i:=0) rfl
  rw[Nat.zero_add,Nat.zero_add] at a
  have h0:iat v 3=iat x.nodes 0:=by have:=hv 0 (by rw[Av];omega);rw[Nat.zero_add] at this;rw[this];rfl
  rw[Nat.mul_zero,Nat.zero_add,a.1,a.2,Pd,Io,h0]
  have:=Kt x.nodes (k:=0) (by omega)
  rw[Nat.zero_add] at this
  rw[this]
  exact⟨rfl,rfl⟩
 |k+1,h=>by
  obtain⟨i1,i2⟩:=Q25 hl hv k (by omega)
  have a:=Fm (v:=v) (i:=2*k+1) (by omega)
  have b:=I7 (v:=v) (i:=2*k+1+1) (by omega)
  obtain⟨w1,w2⟩:=Qdz x (k:=k) (by omega)
  have hl2:=Av x
  have v1:=hv (2*k+1) (by omega)
  have v2:=hv (2*k+2) (by omega)
  rw[w1] at v1
  rw[w2] at v2
  rw[show 2*(k+1)+1=2*k+1+1+1 by omega,b.1,b.2,a.1,a.2,i1,i2,v1,show 2*k+1+1+3=2*k+2+3 by omega,v2,Kt x.nodes (k:=k+1) (by omega),Kt x.weights (k:=k) (by omega)]
  exact⟨rfl,rfl⟩
theorem Qdy {x:Wy}(h:WyG x):∀z∈wyV x,InR z:=λz hz=>by
 unfold wyV at hz
 have hl:=h.len
 rcases List.mem_cons.1 hz with rfl|hz
 ·exact h.nodes 0 (by omega)
 ·obtain⟨i,hi,h2⟩:=List.mem_flatMap.1 hz
  have hi':=List.mem_range.1 hi
  rcases List.mem_cons.1 h2 with rfl|h2
  ·exact h.weights i hi'
  ·rw[List.mem_singleton.1 h2];exact h.nodes (i+1) (by omega)
theorem Q9f {x:Wy}(h:WyG x):V3 (fsD (Ke x))=0/\rdS (fsD (Ke x))=Ke x:=by
 have e:fsD (Ke x)=stOf [119,97,121]::stOf (dcL x.id)::stOf (if x.both then [98] else [102])::((wyV x).map dcL).map stOf:=rfl
 generalize hf:(stOf [119,97,121]::stOf (dcL x.id)::stOf (if x.both then [98] else [102])::((wyV x).map dcL).map stOf)=f at e
 have hw:(sat f 0).toList=[119,97,121]:=by rw[<-hf];exact Vq _
 have h2:(sat f 2).toList=if x.both then [98] else [102]:=by rw[<-hf];exact Vq _
 have hl:f.length=4+2*x.weights.length:=by rw[<-hf,List.length_cons,List.length_cons,List.length_cons,List.length_map,List.length_map,Av];omega
 have hi:=Qdy h
 have h1:=h.one
 have hs:=h.seg
 have hb:Jy f 2=((x.id::wyV x).map dcL).map stOf:=by rw[<-hf];rfl
 have hv:vsL f=V8 (stOf [119,97,121])::x.id::V8 (stOf (if x.both then [98] else [102]))::wyV x:=by
  rw[<-hf,Yv,Yv,Yv,Q1a hi,Fs h.id.1 h.id.2]
 rw[e]
 constructor
 ·rw[Qb1 hw,if_neg (by omega),if_neg (by rw[h2];cases x.both<;>simp),hb,if_pos (K7 (λz hz=>by
   rcases List.mem_cons.1 hz with rfl|hz
   ·exact h.id
   ·exact hi z hz))]
 ·obtain⟨o1,o2⟩:=Q25 (v:=vsL f) h.len (λj hj=>by rw[hv];rfl) x.weights.length (Nat.le_refl _)
  have e3:f.length=2*x.weights.length+1+3:=by omega
  have e4:((sat f 2).toList==[98])=x.both:=by rw[h2];cases x.both<;>rfl
  have hl2:=h.len
  unfold rdS
  rw[if_neg (by rw[hw];decide),if_pos hw,e3,o1,o2,e4,hv,Wx,Qac,<-hl2,List.take_length,List.take_length]
  rfl
theorem Qem {x:Rl}(h:RlG x):∀z∈rlV x,InR z:=λz hz=>by
 unfold rlV at hz
 rcases List.mem_append.1 hz with hz|hz
 ·cases hv:x.via with
  |true=>rw[hv,if_pos rfl] at hz;rw[List.mem_singleton.1 hz];exact(h.atv hv).1
  |false=>rw[hv,if_neg (by decide)] at hz;exact(h.byv hv).2.2.2 z hz
 ·rw[List.mem_singleton.1 hz];exact h.tt
theorem Q9g {x:Rl}(h:RlG x):V3 (fsD (If x))=0/\rdS (fsD (If x))=If x:=by
 have e:fsD (If x)=stOf (if x.only then [111,110,108,121] else [110,111])::stOf (dcL x.id)::stOf (dcL x.frm)::stOf (if x.via then [97,116] else [98,121])::((rlV x).map dcL).map stOf:=rfl
 generalize hf:(stOf (if x.only then [111,110,108,121] else [110,111])::stOf (dcL x.id)::stOf (dcL x.frm)::stOf (if x.via then [97,116] else [98,121])::((rlV x).map dcL).map stOf)=f at e
 have hw:(sat f 0).toList=if x.only then [111,110,108,121] else [110,111]:=by rw[<-hf];exact Vq _
 have hr:Vu (sat f 0)=true:=by unfold Vu;rw[hw];cases x.only<;>rfl
 have h3:(sat f 3).toList=if x.via then [97,116] else [98,121]:=by rw[<-hf];exact Vq _
 have hl:f.length=4+(rlV x).length:=by rw[<-hf,List.length_cons,List.length_cons,List.length_cons,List.length_cons,List.length_map,List.length_map];omega
 have hi:=Qem h
 have hb:Jy f 3=((x.id::x.frm::rlV x).map dcL).map stOf:=by rw[<-hf];rfl
 have hok:Zu (Jy f 3)=true:=by
  rw[hb]
  refine K7 (λz hz=>?_)
  rcases List.mem_cons.1 hz with rfl|hz
  ·exact h.id
  rcases List.mem_cons.1 hz with rfl|hz
  ·exact h.frm
  ·exact hi z hz
 have hv:vsL f=V8 (stOf (if x.only then [111,110,108,121] else [110,111]))::x.id::x.frm::V8 (stOf (if x.via then [97,116] else [98,121]))::rlV x:=by
  rw[<-hf,Yv,Yv,Yv,Yv,Q1a hi,Fs h.id.1 h.id.2,Fs h.frm.1 h.frm.2]
 have ho:((sat f 0).toList==[111,110,108,121])=x.only:=by rw[hw];cases x.only<;>rfl
 have n1:¬(sat f 0).toList=[110,111,100,101]:=by rw[hw];cases x.only<;>decide
 have n2:¬(sat f 0).toList=[119,97,121]:=by rw[hw];cases x.only<;>decide
 obtain⟨id,only,frm,tt,via,node,ways⟩:=x
 rw[e]
 cases via with
 |true=>
  obtain⟨g1,g2⟩:=h.atv rfl
  dsimp only at g1 g2
  subst g2
  have hl':f.length=6:=hl
  have h3':(sat f 3).toList=[97,116]:=h3
  have hv':vsL f=V8 (stOf (if only=true then [111,110,108,121] else [110,111]))::id::frm::V8 (stOf [97,116])::[node,tt]:=hv
  constructor
  ·rw[Q4i hr,if_neg (by omega),if_neg (by rw[h3'];decide),if_neg (by rw[h3',hl'];decide),if_pos hok]
  ·unfold rdS
   rw[if_neg n1,if_neg n2,if_pos hr,if_pos h3',ho,hl',hv']
   rfl
 |false=>
  obtain⟨g1,g2,g3,g4⟩:=h.byv rfl
  dsimp only at g1 g2 g3 g4
  subst g1
  have hl':f.length=5+ways.length:=by rw[hl];show 4+(ways++[tt]).length=_;rw[List.length_append,List.length_singleton];omega
  have h3':(sat f 3).toList=[98,121]:=h3
  have hv':vsL f=V8 (stOf (if only=true then [111,110,108,121] else [110,111]))::id::frm::V8 (stOf [98,121])::(ways++[tt]):=hv
  constructor
  ·rw[Q4i hr,if_neg (by omega),if_neg (by rw[h3'];decide),if_neg (by rw[h3',hl'];rintro(⟨q,-⟩|⟨-,q⟩);exact absurd q (by decide);omega),if_pos hok]
  ·have e5:We (vsL f)=ways:=by
    unfold We
    rw[Vi,hl',hv',show 5+ways.length-5=ways.length by omega]
    show(ways++[tt]).take ways.length=ways
    exact List.take_left
   have e6:iat (vsL f) (f.length-1)=tt:=by
    rw[hl',hv',show 5+ways.length-1=ways.length+4 by omega,Wx,Wx,Wx,Wx]
    unfold iat
    rw[List.getD_eq_getElem?_getD,List.getElem?_append_right (Nat.le_refl _),Nat.sub_self]
    rfl
   unfold rdS
   rw[if_neg n1,if_neg n2,if_pos hr,if_neg (by rw[h3'];decide),ho,e6,e5,hv']
   rfl
theorem DG.read {d:De}(h:DG d):V3 (fsD d)=0/\rdS (fsD d)=d:=by
 rcases h with ⟨z,h,rfl⟩|⟨x,h,rfl⟩|⟨x,h,rfl⟩|⟨x,⟨h1,h2,h3⟩,rfl⟩|⟨u,h,rfl⟩
 ·exact Q7e h
 ·exact Q9f h
 ·exact Q9g h
 ·exact Q7d h1 h2 h3
 ·exact Qc1 h
def headW:List UInt8:=[114,111,97,100,110,101,116,32,49]
def txD (L:List De):List UInt8:=(headW++[10])++L.flatMap (λd=>lnD d++[10])
theorem Qdg (f:De->List UInt8):∀(L:List De) (x:List UInt8),(x++[10])++L.flatMap (λd=>f d++[10])=(x++(L.map f).flatMap (λy=>10::y))++[10]
 |[],x=>by simp
 |d::L,x=>by
  have:=Qdg f L (f d)
  rw[List.flatMap_cons,this,List.map_cons,List.flatMap_cons]
  simp
theorem Q9i {L:List De}(hg:∀d∈L,DG d)(hl:(txD L).length<=300000):Yo (txD L)=Wm L:=by
 have e:=Qdg lnD L headW
 have e1:txD L=(headW++(L.map lnD).flatMap (λy=>10::y))++[10]:=e
 generalize hb:headW++(L.map lnD).flatMap (λy=>10::y)=body at e1
 rw[e1] at hl ⊢
 have hlen:(body++[10]).length=body.length+1:=by simp
 unfold Yo
 rw[if_neg (by omega),hlen,Nat.add_sub_cancel,List.take_left,if_neg (by
  rintro(h|h)
  ·omega
  ·apply h
   unfold Qq
   rw[List.getD_eq_getElem?_getD,List.getElem?_append_right (Nat.le_refl _),Nat.sub_self]
   rfl)]
 have hs:sp 10 body=headW::L.map lnD:=by
  rw[<-hb]
  exact Q09 10 (L.map lnD) headW (by decide) (λy hy=>by obtain⟨d,-,rfl⟩:=List.mem_map.1 hy;exact Aa d)
 have hc:V9 body 10=stOf headW::(L.map lnD).map stOf:=by rw[Kg,hs];rfl
 rw[hc]
 have hll:(stOf headW::(L.map lnD).map stOf).length=L.length+1:=by simp
 have hat:∀i,(hi:i<L.length)->sat (stOf headW::(L.map lnD).map stOf) (i+1)=stOf (lnD L[i]):=λi hi=>by
  show sat ((L.map lnD).map stOf) i=_
  rw[Qbv _ (by simpa using hi)]
  simp
 have hok:∀i (hi:i<L.length),lnC (stOf headW::(L.map lnD).map stOf) (i+1)=0:=λi hi=>by
  unfold lnC
  rw[hat i hi,Im,if_neg (by simp[fsD]),(hg _ (List.getElem_mem hi)).read.1]
 have hds:Z8 (stOf headW::(L.map lnD).map stOf) L.length=L:=by
  unfold Z8
  refine List.ext_getElem (by simp) (λi h1 h2=>?_)
  rw[List.getElem_map,List.getElem_range,hat i h2,Im,(hg _ (List.getElem_mem h2)).read.2]
 unfold Q3z
 rw[if_neg (by rw[show sat (stOf headW::(L.map lnD).map stOf) 0=stOf headW from rfl,Vq];intro h;exact h rfl),Y4 (λj hj=>by
  unfold lnB
  rcases j with _|j
  ·rfl
  ·rw[hll] at hj
   rw[hok j (by omega)]
   simp)]
 dsimp only
 rw[hll,Nat.add_sub_cancel,hds]
def Z3 (N:Nt):List De:=dUt N.uturn::(N.nodes.map Zy++(N.ways.map Ke++(N.rels.map If++N.turns.map Up)))
def isW (N:Nt)(z:Int):Prop:=∃y∈N.ways,y.id=z
structure VN (N:Nt):Prop where
 ut:InR N.uturn
 n:N.nodes.Pairwise (λx y=>x<y)
 w:N.ways.Pairwise (λx y=>x.id<y.id)
 r:N.rels.Pairwise (λx y=>x.id<y.id)
 t:N.turns.Pairwise (λx y=>klt (x.frm,x.to) (y.frm,y.to))
 ni:∀z∈N.nodes,InR z
 wi:∀x∈N.ways,WyG x/\∀z∈x.nodes,z∈N.nodes
 ri:∀x∈N.rels,RlG x/\isW N x.frm/\isW N x.to/\(x.via=true->x.node∈N.nodes)/\∀z∈x.ways,isW N z
 ti:∀x∈N.turns,isW N x.frm/\isW N x.to/\InR x.frm/\InR x.to/\InR x.cost
 c:Xg N=true
theorem Zs {n:Nat}{p:Nat->Bool}(h:Jo n p=true){i:Nat}(hi:i<n):p i=true:=by
 unfold Jo at h;rw[List.all_eq_true] at h;exact h i (List.mem_range.2 hi)
theorem Q2l {zs:List Int}{x:Int}(h:Vx zs x=true):x∈zs:=by
 unfold Vx at h
 rw[List.any_eq_true] at h
 obtain⟨y,hy,e⟩:=h
 rw[<-beq_iff_eq.1 e];exact hy
theorem T1 {N:Nt}{x:Int}(h:Ju N.ways x=true):isW N x:=by
 unfold Ju at h
 rw[List.any_eq_true] at h
 obtain⟨y,hy,e⟩:=h
 exact⟨y,hy,beq_iff_eq.1 e⟩
theorem Ph {x:Int}(h:inB x=true):InR x:=by simpa [inB,InR] using h
theorem Qd4 {zs:List Tn}(h:T8 zs=true):∀i j,i<j->j<zs.length->klt ((tat zs i).frm,(tat zs i).to) ((tat zs j).frm,(tat zs j).to):=by
 intro i j hij hj
 unfold T8 Pj Jo at h
 rw[List.all_eq_true] at h
 induction j with
 |zero=>omega
 |succ j ih=>
  have h1:=h (j+1) (List.mem_range.2 hj)
  rw[J1] at h1
  unfold ltT Q0r at h1
  simp only[Bool.or_eq_true,Bool.and_eq_true,decide_eq_true_eq,beq_iff_eq] at h1
  have h2:klt ((tat zs j).frm,(tat zs j).to) ((tat zs (j+1)).frm,(tat zs (j+1)).to):=h1
  by_cases e:i=j
  ·subst e;exact h2
  ·exact Um (ih (by omega) (by omega)) h2
theorem vn_of {N:Nt}(h:Ql N=true):VN N:=by
 simp only[Ql,Bool.and_eq_true] at h
 obtain⟨hc,hu,⟨hna,hn⟩,⟨hw,hwa⟩,⟨hr,hra⟩,ht,hta⟩:=h
 have an:∀z∈N.nodes,InR z:=λz hz=>by
  obtain⟨i,hi,rfl⟩:=List.mem_iff_getElem.1 hz
  have:=Zs hn hi
  rw[Jm hi] at this
  exact Ph this
 have aw:∀x∈N.ways,WyG x/\∀z∈x.nodes,z∈N.nodes:=λx hx=>by
  obtain⟨i,hi,rfl⟩:=List.mem_iff_getElem.1 hx
  have:=Zs hw hi
  rw[Uu hi] at this
  simp only[Qs,Jz,Bool.and_eq_true,decide_eq_true_eq] at this
  obtain⟨⟨⟨⟨⟨g0,g1⟩,g2⟩,g3⟩,g4⟩,g5⟩:=this
  have hz:∀z∈(N.ways[i]).nodes,z∈N.nodes:=λz hz=>by
   obtain⟨j,hj,rfl⟩:=List.mem_iff_getElem.1 hz
   have:=Q2l (Zs g5 hj)
   rwa [Jm hj] at this
  exact⟨⟨Ph g0,λj hj=>by rw[Jm hj];exact an _ (hz _ (List.getElem_mem hj)),λj hj=>Ph (Zs g4 hj),g3,g1,g2⟩,hz⟩
 have iw:∀z,isW N z->InR z:=λz ⟨y,hy,e⟩=>by rw[<-e];exact(aw y hy).1.id
 refine⟨Ph hu,?_,?_,?_,?_,an,aw,λx hx=>?_,λx hx=>?_,hc⟩
 ·rw[List.pairwise_iff_getElem]
  intro i j hi hj hij
  have:=Z2 (f:=iat N.nodes) (λ_ _=>rfl) hna i j hij hj
  rwa [Jm hi,Jm hj] at this
 ·rw[List.pairwise_iff_getElem]
  intro i j hi hj hij
  have:=Z2 (f:=λi=>(wat N.ways i).id) (λ_ _=>rfl) hwa i j hij hj
  rwa [Uu hi,Uu hj] at this
 ·rw[List.pairwise_iff_getElem]
  intro i j hi hj hij
  have:=Z2 (f:=λi=>(rat N.rels i).id) (λ_ _=>rfl) hra i j hij hj
  rwa [Pc hi,Pc hj] at this
 ·rw[List.pairwise_iff_getElem]
  intro i j hi hj hij
  have:=Qd4 hta i j hij hj
  rwa [Q01 hi,Q01 hj] at this
 ·obtain⟨i,hi,rfl⟩:=List.mem_iff_getElem.1 hx
  have:=Zs hr hi
  rw[Pc hi] at this
  simp only[Qz,Qx,Bool.and_eq_true] at this
  obtain⟨g0,g1,g2,g3⟩:=this
  have k1:=T1 g1
  have k2:=T1 g2
  generalize N.rels[i]=x at *
  cases hv:x.via with
  |true=>
   rw[if_pos hv] at g3
   simp only[Bool.and_eq_true,decide_eq_true_eq] at g3
   have hn:=Q2l g3.2
   have hz:x.ways=[]:=List.length_eq_zero_iff.1 g3.1
   exact⟨⟨Ph g0,iw _ k1,iw _ k2,λ_=>⟨an _ hn,hz⟩,λe=>by first|exact absurd e (by decide)|exact absurd (hv.symm.trans e) (by decide)⟩,k1,k2,λ_=>hn,λz hz2=>by rw[hz] at hz2;cases hz2⟩
  |false=>
   rw[if_neg (by rw[hv];decide)] at g3
   simp only[Bool.and_eq_true,decide_eq_true_eq,beq_iff_eq] at g3
   have hz:∀z∈x.ways,isW N z:=λz hz=>by
    obtain⟨j,hj,rfl⟩:=List.mem_iff_getElem.1 hz
    have:=T1 (Zs g3.2.2.2 hj)
    rwa [Jm hj] at this
   exact⟨⟨Ph g0,iw _ k1,iw _ k2,λe=>by first|exact absurd e (by decide)|exact absurd (hv.symm.trans e) (by decide),λ_=>⟨g3.1,g3.2.1,g3.2.2.1,λz hz2=>iw _ (hz z hz2)⟩⟩,k1,k2,λe=>by first|exact absurd e (by decide)|exact absurd (hv.symm.trans e) (by decide),hz⟩
 ·obtain⟨i,hi,rfl⟩:=List.mem_iff_getElem.1 hx
  have:=Zs ht hi
  rw[Q01 hi] at this
  simp only[Xb,Bool.and_eq_true] at this
  have k1:=T1 this.1
  have k2:=T1 this.2.1
  exact⟨k1,k2,iw _ k1,iw _ k2,Ph this.2.2⟩
theorem Uk {N:Nt}{d:De}:d∈Z3 N↔d=dUt N.uturn\/(∃z∈N.nodes,Zy z=d)\/(∃x∈N.ways,Ke x=d)\/(∃x∈N.rels,If x=d)\/(∃x∈N.turns,Up x=d):=by
 unfold Z3
 simp only[List.mem_cons,List.mem_append,List.mem_map]
theorem Aq {N:Nt}(h:VN N):∀d∈Z3 N,DG d:=λd hd=>by
 rcases Uk.1 hd with rfl|⟨z,hz,rfl⟩|⟨x,hx,rfl⟩|⟨x,hx,rfl⟩|⟨x,hx,rfl⟩
 ·exact .inr (.inr (.inr (.inr ⟨_,h.ut,rfl⟩)))
 ·exact .inl ⟨z,h.ni z hz,rfl⟩
 ·exact .inr (.inl ⟨x,(h.wi x hx).1,rfl⟩)
 ·exact .inr (.inr (.inl ⟨x,(h.ri x hx).1,rfl⟩))
 ·exact .inr (.inr (.inr (.inl ⟨x,(h.ti x hx).2.2,rfl⟩)))
def Dif (p q:De):Prop:=p.kind=q.kind->(p.a,p.b)≠(q.a,q.b)
theorem Dif.symm {p q:De}(h:Dif p q):Dif q p:=λe1 e2=>h e1.symm e2.symm
theorem Qba {N:Nt}(h:VN N):(Z3 N).Pairwise Dif:=by
 have kk:∀{p q:De},p.kind≠q.kind->Dif p q:=λh e=>absurd e h
 unfold Z3
 rw[List.pairwise_cons,List.pairwise_append,List.pairwise_append,List.pairwise_append]
 refine⟨λd hd=>?_,?_,⟨?_,⟨?_,?_,λp hp q hq=>?_⟩,λp hp q hq=>?_⟩,λp hp q hq=>?_⟩
 ·apply kk
  simp only[List.mem_append,List.mem_map] at hd
  rcases hd with⟨z,-,rfl⟩|⟨z,-,rfl⟩|⟨z,-,rfl⟩|⟨z,-,rfl⟩
  ·exact(by decide:(5:Int)≠1)
  ·exact(by decide:(5:Int)≠2)
  ·exact(by decide:(5:Int)≠3)
  ·exact(by decide:(5:Int)≠4)
 ·rw[List.pairwise_map]
  exact h.n.imp (λ{x y} hxy _ e=>by have:x=y:=(Prod.mk.inj e).1;omega)
 ·rw[List.pairwise_map]
  exact h.w.imp (λ{x y} hxy _ e=>by have:x.id=y.id:=(Prod.mk.inj e).1;omega)
 ·rw[List.pairwise_map]
  exact h.r.imp (λ{x y} hxy _ e=>by have:x.id=y.id:=(Prod.mk.inj e).1;omega)
 ·rw[List.pairwise_map]
  exact h.t.imp (λ{x y} hxy _ e=>by
   have e1:x.frm=y.frm:=(Prod.mk.inj e).1
   have e2:x.to=y.to:=(Prod.mk.inj e).2
   rw[e1,e2] at hxy
   exact Tf _ hxy)
 ·apply kk
  obtain⟨x,-,rfl⟩:=List.mem_map.1 hp
  obtain⟨y,-,rfl⟩:=List.mem_map.1 hq
  exact(by decide:(3:Int)≠4)
 ·apply kk
  obtain⟨x,-,rfl⟩:=List.mem_map.1 hp
  simp only[List.mem_append,List.mem_map] at hq
  rcases hq with⟨z,-,rfl⟩|⟨z,-,rfl⟩
  ·exact(by decide:(2:Int)≠3)
  ·exact(by decide:(2:Int)≠4)
 ·apply kk
  obtain⟨x,-,rfl⟩:=List.mem_map.1 hp
  simp only[List.mem_append,List.mem_map] at hq
  rcases hq with⟨z,-,rfl⟩|⟨z,-,rfl⟩|⟨z,-,rfl⟩
  ·exact(by decide:(1:Int)≠2)
  ·exact(by decide:(1:Int)≠3)
  ·exact(by decide:(1:Int)≠4)
theorem Zf {L:List De}{i:Nat}(h:i<L.length):dat L i=L[i]:=by simp[dat,List.getD_eq_getElem?_getD,h]
theorem Q9d {L:List De}(h:L.Pairwise Dif):∀i,i<L.length->Pw L i=false:=λi hi=>by
 unfold Pw
 rw[decide_eq_false_iff_not,Zf hi]
 unfold To
 cases hf:L.findIdx? (pk (L[i]).kind (L[i]).a (L[i]).b) with
 |none=>
  rw[List.findIdx?_eq_none_iff] at hf
  have:=hf _ (List.getElem_mem hi)
  simp[pk] at this
 |some j=>
  obtain⟨hj,h1,-⟩:=List.findIdx?_eq_some_iff_getElem.1 hf
  intro hlt
  have hlt':j<i:=by
   have:(j:Int)<i:=hlt
   omega
  rw[List.pairwise_iff_getElem] at h
  have hd:=h j i hj hi hlt'
  simp only[pk,Bool.and_eq_true,beq_iff_eq] at h1
  exact hd h1.1 (by rw[h1.2.1,h1.2.2])
theorem Q2m {L:List De}{p:De->Bool}{d:De}(hd:d∈L)(hp:p d=true):¬To p L<0:=by
 unfold To
 cases hf:L.findIdx? p with
 |none=>
  rw[List.findIdx?_eq_none_iff] at hf
  have:=hf d hd
  rw[hp] at this
  cases this
 |some j=>dsimp only;omega
theorem Qay {N:Nt}(h:VN N){L:List De}(hm:∀d,d∈L↔d∈Z3 N):∀i,i<L.length->Q0z L i=false:=λi hi=>by
 have hn:∀z∈N.nodes,¬To (pk 1 z 0) L<0:=λz hz=>Q2m ((hm _).2 (Uk.2 (Or.inr (Or.inl ⟨z,hz,rfl⟩)))) (by simp[pk,Zy])
 have hw:∀z,isW N z->¬To (pk 2 z 0) L<0:=λz ⟨y,hy,e⟩=>Q2m ((hm _).2 (Uk.2 (Or.inr (Or.inr (Or.inl ⟨y,hy,rfl⟩))))) (by simp[pk,Ke,e])
 have key:∀(l:List Int) (K:Int),(∀z∈l,¬To (pk K z 0) L<0)->Qaz L l K=false:=λl K hl=>by
  unfold Qaz
  rw[List.any_eq_false]
  intro z hz
  have:=hl z hz
  simpa using this
 unfold Q0z
 rw[Zf hi,Bool.or_eq_false_iff]
 rcases Uk.1 ((hm _).1 (List.getElem_mem hi)) with e|⟨z,hz,e⟩|⟨x,hx,e⟩|⟨x,hx,e⟩|⟨x,hx,e⟩
 ·rw[e];exact⟨rfl,rfl⟩
 ·rw[<-e];exact⟨rfl,rfl⟩
 ·rw[<-e];exact⟨key _ _ (λz hz=>hn z ((h.wi x hx).2 z hz)),rfl⟩
 ·rw[<-e]
  obtain⟨g,k1,k2,k3,k4⟩:=h.ri x hx
  refine⟨key _ _ (λz hz=>?_),key _ _ (λz hz=>?_)⟩
  ·have hz':z∈(if x.via=true then [x.node] else []):=hz
   split at hz'
   ·rename_i hv
    rw[List.mem_singleton.1 hz'];exact hn _ (k3 hv)
   ·cases hz'
  ·have hz':z∈[x.frm,x.to]++x.ways:=hz
   rcases List.mem_append.1 hz' with q|q
   ·rcases List.mem_cons.1 q with rfl|q
    ·exact hw _ k1
    ·rw[List.mem_singleton.1 q];exact hw _ k2
   ·exact hw _ (k4 z q)
 ·rw[<-e]
  obtain⟨k1,k2,-⟩:=h.ti x hx
  refine⟨rfl,key _ _ (λz hz=>?_)⟩
  have hz':z∈[x.frm,x.to]:=hz
  rcases List.mem_cons.1 hz' with rfl|q
  ·exact hw _ k1
  ·rw[List.mem_singleton.1 q];exact hw _ k2
theorem Q2z (L:List De)(K:Int):∀k,k<=L.length->Xh L K k=(L.take k).countP (λd=>decide (d.kind=K))
 |0,_=>rfl
 |k+1,h=>by
  have ih:=Q2z L K k (by omega)
  have hk:k<L.length:=by omega
  unfold Xh
  rw[List.take_add_one,List.getElem?_eq_getElem hk,List.countP_append,ih,Zf hk]
  by_cases e:(L[k]).kind=K<;>simp[e]
def smW:List De->Nat
 |[]=>0
 |d::L=>Q3e d.way+smW L
theorem Yl:∀a b:List De,smW (a++b)=smW a+smW b
 |[],b=>by simp[smW]
 |d::a,b=>by rw[List.cons_append,smW,smW,Yl a b];omega
theorem Q91 {a b:List De}(h:a.Perm b):smW a=smW b:=by
 induction h with
 |nil=>rfl
 |cons x _ ih=>rw[smW,smW,ih]
 |swap x y l=>rw[smW,smW,smW,smW];omega
 |trans _ _ i1 i2=>rw[i1,i2]
theorem Q6f (L:List De):∀k,k<=L.length->Ie L k=smW (L.take k)
 |0,_=>rfl
 |k+1,h=>by
  have ih:=Q6f L k (by omega)
  have hk:k<L.length:=by omega
  unfold Ie
  rw[List.take_add_one,List.getElem?_eq_getElem hk,Yl,ih,Zf hk]
  rfl
theorem Pt {α:Type}{f:α->De}(hf:∀x,Q3e (f x).way=0):∀l:List α,smW (l.map f)=0
 |[]=>rfl
 |x::l=>by rw[List.map_cons,smW,hf,Pt hf l]
theorem Q1l:∀(l:List Wy) (k:Nat),k<=l.length->smW ((l.take k).map Ke)=edTo l k
 |l,0,_=>rfl
 |l,k+1,h=>by
  have hk:k<l.length:=by omega
  rw[List.take_add_one,List.getElem?_eq_getElem hk,List.map_append,Yl,Q1l l k (by omega),edTo,Uu hk]
  rfl
theorem Gh {α:Type}{f:α->De}{K J:Int}(hf:∀x,(f x).kind=J)(l:List α):(l.map f).countP (λd=>decide (d.kind=K))=if J=K then l.length else 0:=by
 induction l with
 |nil=>simp
 |cons x l ih=>
  rw[List.map_cons,List.countP_cons,ih,hf]
  by_cases e:J=K<;>simp[e]
theorem Q7k {N:Nt}(h:VN N){L:List De}(hp:L.Perm (Z3 N)):K6 L=false:=by
 have hc:=h.c
 have e:∀K,Xh L K L.length=(Z3 N).countP (λd=>decide (d.kind=K)):=λK=>by rw[Q2z L K _ (Nat.le_refl _),List.take_length,hp.countP_eq]
 have c1:∀K,(Z3 N).countP (λd=>decide (d.kind=K))=(if (5:Int)=K then 1 else 0)+((if (1:Int)=K then N.nodes.length else 0)+((if (2:Int)=K then N.ways.length else 0)+((if (3:Int)=K then N.rels.length else 0)+(if (4:Int)=K then N.turns.length else 0)))):=λK=>by
  unfold Z3
  rw[List.countP_cons,List.countP_append,List.countP_append,List.countP_append,Gh (J:=1) (λ_=>rfl),Gh (J:=2) (λ_=>rfl),Gh (J:=3) (λ_=>rfl),Gh (J:=4) (λ_=>rfl)]
  have:(dUt N.uturn).kind=5:=rfl
  rw[this]
  by_cases e:(5:Int)=K<;>simp[e]<;>omega
 have eg:Ie L L.length=edTo N.ways N.ways.length:=by
  rw[Q6f L _ (Nat.le_refl _),List.take_length,Q91 hp]
  unfold Z3
  rw[smW,Yl,Yl,Yl,Pt (f:=Zy) (λ_=>rfl),Pt (f:=If) (λ_=>rfl),Pt (f:=Up) (λ_=>rfl),<-Q1l N.ways _ (Nat.le_refl _),List.take_length]
  show 0+_=_
  omega
 unfold Xg at hc
 simp only[Bool.and_eq_true,decide_eq_true_eq] at hc
 unfold K6
 rw[e,e,e,e,eg,c1,c1,c1,c1]
 simp
 omega
theorem DG.ok {d:De}(h:DG d):DOk d:=by
 have h1:=h.read
 have:=Qdj h1.1
 rwa [h1.2] at this
theorem Q53 {α:Type}{L:List De}(hG:Pl L)(K:Int)(g:De->α)(key:α->Int×Int)(l:List α)(hk:∀d∈L,d.kind=K->key (g d)=(d.a,d.b))(hm:∀z,z∈l↔∃d∈L,d.kind=K/\g d=z)(hp:l.Pairwise (λx y=>klt (key x) (key y))):(tkA L K).map (λi=>g (dat L i))=l:=by
 obtain⟨t1,t2⟩:=G2 hG K
 have md:∀i,i<L.length->dat L i∈L:=λi hi=>by rw[Zf hi];exact List.getElem_mem hi
 refine Q8j key _ _ ?_ hp (λz=>⟨λhz=>?_,λhz=>?_⟩)
 ·rw[List.pairwise_map]
  refine List.Pairwise.imp_of_mem (λ{i j} hi hj hij=>?_) t2
  obtain⟨u1,u2⟩:=(t1 i).1 hi
  obtain⟨v1,v2⟩:=(t1 j).1 hj
  rw[hk _ (md i u1) u2,hk _ (md j v1) v2]
  exact hij
 ·obtain⟨i,hi,rfl⟩:=List.mem_map.1 hz
  obtain⟨u1,u2⟩:=(t1 i).1 hi
  exact(hm _).2 ⟨_,md i u1,u2,rfl⟩
 ·obtain⟨d,hd,hdk,rfl⟩:=(hm z).1 hz
  obtain⟨i,hi,rfl⟩:=List.mem_iff_getElem.1 hd
  exact List.mem_map.2 ⟨i,(t1 i).2 ⟨hi,by rw[Zf hi];exact hdk⟩,by rw[Zf hi]⟩
theorem Q40 {N:Nt}(hv:VN N){L:List De}(hp:L.Perm (Z3 N)):Wm L=.ok L/\ntM L=N:=by
 have hm:∀d,d∈L↔d∈Z3 N:=λd=>hp.mem_iff
 have hdg:∀d∈L,DG d:=λd hd=>Aq hv d ((hm d).1 hd)
 have hdif:L.Pairwise Dif:=(hp.pairwise_iff (λ{a b}=>Dif.symm)).2 (Qba hv)
 have hrep:=Q9d hdif
 have hG:Pl L:=⟨λd hd=>(hdg d hd).ok,hrep⟩
 constructor
 ·unfold Wm
  rw[Y4 hrep]
  dsimp only
  rw[Y4 (Qay hv hm)]
  dsimp only
  rw[Q7k hv hp,if_neg (by decide)]
 ·have cas:∀d∈L,d=dUt N.uturn\/(∃z∈N.nodes,Zy z=d)\/(∃x∈N.ways,Ke x=d)\/(∃x∈N.rels,If x=d)\/(∃x∈N.turns,Up x=d):=λd hd=>Uk.1 ((hm d).1 hd)
  have back:∀d,(d=dUt N.uturn\/(∃z∈N.nodes,Zy z=d)\/(∃x∈N.ways,Ke x=d)\/(∃x∈N.rels,If x=d)\/(∃x∈N.turns,Up x=d))->d∈L:=λd hd=>(hm d).2 (Uk.2 hd)
  have e1:=Q53 hG 1 (λd=>d.a) (λz=>(z,0)) N.nodes (λd hd hk=>by rw[(hdg d hd).ok.z (by rw[hk];decide)]) (λz=>⟨λhz=>⟨_,back _ (Or.inr (Or.inl ⟨z,hz,rfl⟩)),rfl,rfl⟩,λ⟨d,hd,hk,hg⟩=>by
   rcases cas d hd with rfl|⟨y,hy,rfl⟩|⟨y,hy,rfl⟩|⟨y,hy,rfl⟩|⟨y,hy,rfl⟩
   ·exact absurd hk (by decide:¬(5:Int)=1)
   ·rw[<-hg];exact hy
   ·exact absurd hk (by decide:¬(2:Int)=1)
   ·exact absurd hk (by decide:¬(3:Int)=1)
   ·exact absurd hk (by decide:¬(4:Int)=1)⟩) (hv.n.imp (λ{x y} hxy=>Or.inl hxy))
  have e2:=Q53 hG 2 (λd=>d.way) (λx=>(x.id,0)) N.ways (λd hd hk=>by rw[(hdg d hd).ok.z (by rw[hk];decide),(hdg d hd).ok.w hk]) (λz=>⟨λhz=>⟨_,back _ (Or.inr (Or.inr (Or.inl ⟨z,hz,rfl⟩))),rfl,rfl⟩,λ⟨d,hd,hk,hg⟩=>by
   rcases cas d hd with rfl|⟨y,hy,rfl⟩|⟨y,hy,rfl⟩|⟨y,hy,rfl⟩|⟨y,hy,rfl⟩
   ·exact absurd hk (by decide:¬(5:Int)=2)
   ·exact absurd hk (by decide:¬(1:Int)=2)
   ·rw[<-hg];exact hy
   ·exact absurd hk (by decide:¬(3:Int)=2)
   ·exact absurd hk (by decide:¬(4:Int)=2)⟩) (hv.w.imp (λ{x y} hxy=>Or.inl hxy))
  have e3:=Q53 hG 3 (λd=>d.rel) (λx=>(x.id,0)) N.rels (λd hd hk=>by rw[(hdg d hd).ok.z (by rw[hk];decide),(hdg d hd).ok.r hk]) (λz=>⟨λhz=>⟨_,back _ (Or.inr (Or.inr (Or.inr (Or.inl ⟨z,hz,rfl⟩)))),rfl,rfl⟩,λ⟨d,hd,hk,hg⟩=>by
   rcases cas d hd with rfl|⟨y,hy,rfl⟩|⟨y,hy,rfl⟩|⟨y,hy,rfl⟩|⟨y,hy,rfl⟩
   ·exact absurd hk (by decide:¬(5:Int)=3)
   ·exact absurd hk (by decide:¬(1:Int)=3)
   ·exact absurd hk (by decide:¬(2:Int)=3)
   ·rw[<-hg];exact hy
   ·exact absurd hk (by decide:¬(4:Int)=3)⟩) (hv.r.imp (λ{x y} hxy=>Or.inl hxy))
  have e4:=Q53 hG 4 (λd=>(⟨d.a,d.b,d.cost⟩:Tn)) (λx=>(x.frm,x.to)) N.turns (λd hd hk=>rfl) (λz=>⟨λhz=>⟨_,back _ (Or.inr (Or.inr (Or.inr (Or.inr ⟨z,hz,rfl⟩)))),rfl,rfl⟩,λ⟨d,hd,hk,hg⟩=>by
   rcases cas d hd with rfl|⟨y,hy,rfl⟩|⟨y,hy,rfl⟩|⟨y,hy,rfl⟩|⟨y,hy,rfl⟩
   ·exact absurd hk (by decide:¬(5:Int)=4)
   ·exact absurd hk (by decide:¬(1:Int)=4)
   ·exact absurd hk (by decide:¬(2:Int)=4)
   ·exact absurd hk (by decide:¬(3:Int)=4)
   ·rw[<-hg];exact hy⟩) hv.t
  have e5:(ntM L).uturn=N.uturn:=by
   unfold ntM
   dsimp only
   obtain⟨t1,-⟩:=G2 hG 5
   have hu:dUt N.uturn∈L:=back _ (Or.inl rfl)
   obtain⟨i,hi,e⟩:=List.mem_iff_getElem.1 hu
   have hi5:i∈tkA L 5:=(t1 i).2 ⟨hi,by rw[Zf hi,e];rfl⟩
   cases hl:(tkA L 5).getLast? with
   |none=>rw[List.getLast?_eq_none_iff] at hl;rw[hl] at hi5;cases hi5
   |some j=>
    dsimp only
    obtain⟨hj,hk⟩:=(t1 j).1 (List.mem_of_getLast? hl)
    have hd:dat L j∈L:=by rw[Zf hj];exact List.getElem_mem hj
    rcases cas _ hd with e|⟨y,hy,e⟩|⟨y,hy,e⟩|⟨y,hy,e⟩|⟨y,hy,e⟩
    ·rw[e];rfl
    ·rw[<-e] at hk;exact absurd hk (by decide:¬(1:Int)=5)
    ·rw[<-e] at hk;exact absurd hk (by decide:¬(2:Int)=5)
    ·rw[<-e] at hk;exact absurd hk (by decide:¬(3:Int)=5)
    ·rw[<-e] at hk;exact absurd hk (by decide:¬(4:Int)=5)
  have e:ntM L=⟨(tkA L 1).map (λi=>(dat L i).a),(tkA L 2).map (λi=>(dat L i).way),(tkA L 3).map (λi=>(dat L i).rel),(tkA L 4).map (λi=>⟨(dat L i).a,(dat L i).b,(dat L i).cost⟩),(ntM L).uturn⟩:=rfl
  rw[e,e1,e2,e3,e4,e5]
theorem Q51 {L M:List De}(h:L.Perm M):(txD L).length=(txD M).length:=by
 have:=(h.flatMap_right (λd=>lnD d++[10])).length_eq
 unfold txD
 simp only[List.length_append] at this ⊢
 omega
theorem Q7f {N:Nt}(hv:Ql N=true)(hl:(txD (Z3 N)).length<=300000){L:List De}(hp:L.Perm (Z3 N)):Yo (txD L)=.ok L/\ntM L=N:=by
 have h:=vn_of hv
 obtain⟨a,b⟩:=Q40 h hp
 exact⟨(Q9i (λd hd=>Aq h d (hp.mem_iff.1 hd)) (by rw[Q51 hp];exact hl)).trans a,b⟩
end Go.Proofs.YtmmolhlihhdkcaaGreatDoor
