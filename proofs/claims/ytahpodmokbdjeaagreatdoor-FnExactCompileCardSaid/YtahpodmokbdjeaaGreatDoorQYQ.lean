import Derived.Test.YtahpodmokbdjeaaGreatDoorQYP
import Derived.Test.YtahpodmokbdjeaaGreatDoorQYD
namespace Go.Proofs.YtahpodmokbdjeaaGreatDoor
open Go.RowKit Go.Sort Tryz
set_option linter.unusedVariables false
set_option maxRecDepth 1000000
set_option maxHeartbeats 16000000
theorem Chg.wider {S T:Nat->Prop}{w w':World}(h:Chg S w w')(k:∀x,S x->T x):Chg T w w':=⟨h.os,h.tape,h.output,h.size,λb hb hn=>h.block b hb (λc=>hn (k b c))⟩
theorem Chg.cellO {S:Nat->Prop}{w w':World}(h:Chg S w w'){g o:Nat}{v:Value}(hc:w.cell? (aD g o)=some v)(hn:¬S g):w'.cell? (aD g o)=some v:=(World.cell?_of_block (h.block g (Zj hc) hn)).trans hc
def Yc (C:Nat)(w:World)(v:Value)(l:List Vx):Prop:=w.ownsRow C 173 2 v l.length (l.flatMap Q7l)
theorem Qgz:(prog.info? 173).map (λi=>(i.zero,i.size,i.bytes))=some (some (.agg #[iV 0,iV 0]),2,16):=by kernel_rfl
theorem Yc.next {C:Nat}{w w':World}{v:Value}{l:List Vx}(h:Yc C w v l)(k:Nx w w'):Yc C w' v l:=V7 h k
theorem Yc.setP {C g i:Nat}{w:World}{v u:Value}{l:List Vx}{cs:Array Value}(h:Yc C w v l)(hb:BT w g cs 170):Yc C (w.setCell (aD g i) u) v l:=Xd h hb (by decide) _ _
theorem BT.rowV {C b:Nat}{w w':World}{v:Value}{l:List Vx}{cs:Array Value}(hb:BT w b cs 170)(h:Yc C w v l)(k:Chg (λx=>some x=v.ownBlock) w w'):BT w' b cs 170:=hb.chg k (λc=>hb.neRow h (by decide) c)
theorem Yc.cell {C:Nat}{w:World}{a:Option Addr}{n c:Nat}{l:List Vx}(h:Yc C w (sL a n c) l){i:Nat}(hi:i<l.length):∃b,a=some (aD b 0)/\b<w.heap.size/\HVt w b (i*2) (vtx l i):=by
 obtain⟨b,c',e,-,-,hB,hb,k⟩:=Xn h rfl (by decide) (λ_=>rfl) (zJ hi)
 simp only[zC] at e
 have k0:=k 0 (by decide)
 have k1:=k 1 (by decide)
 rw[Yz hi]
 exact⟨b,e.1,hb,k0,k1⟩
theorem Qal {k:Nat}{ops:Array Oper}{o:Oper}{a:Act}{K:Act->World->Prop}{Q:Exit->Act->World->Prop}{E:Prop}(hgd:o.guard=none)(s x:Operand)(ho:o.op=.call { callee:=.builtin .append,args:=#[s,x],argTypes:=#[165,165] })
  (C n:Nat) (v:Value) (l:List Vx) (y:Vx) (w0 W:World) (hW:W=w0.alloc (.cells #[iV y.1,iV y.2] 173)) (hs:a.eval s=v) (hown:Yc C w0 v l) (hx:a.eval x=sL (sA w0.heap.size) 1 1) (hn:l.length=n) (hm:n<=1000000) (hC:C<=w0.heap.size)
  (h:∀a' c' w',Yc C w' (sL a' (n+1) c') (l++[y])->Chg (λx=>some x=v.ownBlock) w0 w'->(∀g,(sL a' (n+1) c').ownBlock=some g->v.ownBlock=some g\/w0.heap.size<=g)->K (a.put o.dst (sL a' (n+1) c')) w') :
  if Region.wanted o (yielded ops a.tmps)=true then Oper.wpIn Fence.wide k prog o a W K Q else E:=by
 subst hn
 refine Us Qgz underlying165 rfl (by decide) (by decide) hgd s x ho C l.length v (l.flatMap Q7l) [iV y.1,iV y.2] w0 W hW hs hown hx rfl (by intro u hu;simp at hu;rcases hu with rfl|rfl<;>rfl) hm hC (λa' c' w' r1 r2 r3=>h a' c' w' ?_ r2 r3)
 unfold Yc
 rw[zA,List.flatMap_append]
 exact r1
theorem Qav (C pb qn ic:Nat)(ia:Option Addr)(p0 p1 p2 p3 p6:Value)(k:Int)(t:List Vx)(u1 u2:Int)(w:World)(hb:BT w pb #[p0,p1,p2,p3,sL ia qn ic,iV k,p6] 170)(ho:Yc C w (sL ia qn ic) t)(hl:t.length=qn)(hq:qn<=200000)(hC:C<=w.heap.size) :
  Calls prog 138 #[.pointer (some (aD pb 4)),.agg #[iV u1,iV u2]] w λe w'=>e=.returned (.tuple #[])/\∃na nc,BT w' pb #[p0,p1,p2,p3,sL na (qn+1) nc,iV k,p6] 170/\Yc C w' (sL na (qn+1) nc) (t++[(u1,u2)])/\Chg (λx=>x=pb\/some x=(sL ia qn ic).ownBlock) w w'/\∀g,(sL na (qn+1) nc).ownBlock=some g->(sL ia qn ic).ownBlock=some g\/w.heap.size<=g:=by
 have HBP:=Q2 hb
 have HOI:=Q2 ho
 have HBX:Z (BT (w.alloc (.cells #[iV u1,iV u2] 173)) w.heap.size #[iV u1,iV u2] 173):=BT.new _ _ _ _ rfl
 have HX0:Z (Nx w (w.alloc (.cells #[iV u1,iV u2] 173))):=Q4 _ _
 have hmx:prog.follows .mixedOrders=true:=by kernel_rfl
 have HLN:Z (t.length=qn):=hl
 clear hb ho hl
 go_enter func138,ntmps138
 go_upto_region 1 with fail
 generalize w.alloc (.cells #[iV u1,iV u2] 173)=w1 at *
 generalize hbx:w.heap.size=bx at *
 have hxd:Nx w1 w1.drew:=(Below.refl _ _).drew
 have HSS:Z ((λq=>q.cell? (aD pb 4)=some (sL ia qn ic)/\q.cell? (aD bx 0)=some (iV u1)/\q.cell? (aD bx 1)=some (iV u2)) w1.drew):=⟨Q1 hxd ((HBP.o.next HX0.o).c 4 rfl),Q1 hxd (HBX.o.c 0 rfl),Q1 hxd (HBX.o.c 1 rfl)⟩
 have HXD:Z (Nx w w1.drew):=HX0.o.trans hxd
 have HBXd:=Q2 (HBX.o.next hxd)
 clear hxd HBX HX0
 refine(wpIn_wide (n:=9)).1 ?_
 refine Qj (c:=10) (S:=λq=>q.cell? (aD pb 4)=some (sL ia qn ic)/\q.cell? (aD bx 0)=some (iV u1)/\q.cell? (aD bx 1)=some (iV u2)) hmx (by kernel_rfl) (λhw hcl=>?_)
 generalize w1.drew=wd at *
 refine tq (i:=0) (v:=.pointer (some (aD pb 4))) (λhcl=>?_)
 refine tq (i:=1) (v:=.pointer (some (aD pb 4))) (λhcl=>?_)
 refine tq (i:=2) (v:=.pointer (some (aD pb 4))) (λhcl=>?_)
 refine tq (i:=3) (v:=.pointer (some (aD pb 4))) (λhcl=>?_)
 refine tq (i:=4) (v:=sL ia qn ic) (λhcl=>?_)
 refine tq (i:=5) (v:=.agg #[iV u1,iV u2]) (λhcl=>?_)
 refine Qo (i:=6) (by kernel_rfl) hcl (λhcl=>wpOpIn_step rfl (λK hK=>?_))
 go_simp
 refine hK _ _ ⟨oR ⟨Q1 (Q4 _ _) HSS.o.1,Q1 (Q4 _ _) HSS.o.2.1,Q1 (Q4 _ _) HSS.o.2.2⟩,?_⟩
 clear hK K
 refine Qo (i:=7) (by kernel_rfl) hcl (λhcl=>wpOpIn_step rfl (λK hK=>?_))
 refine Qal rfl (.tmp 8) (.tmp 10) rfl C qn (sL ia qn ic) t (u1,u2) wd _ rfl (by simp[Act.eval]) (HOI.o.next HXD.o) (by simp[Act.eval]) HLN.o (by omega) (by have:=HXD.o.size;omega) ?_
 intro na nc wx e1 e2 e3
 have HO2:=Q2 e1
 have HB2:Z (BT wx pb #[p0,p1,p2,p3,sL ia qn ic,iV k,p6] 170):=(HBP.o.next HXD.o).rowV (HOI.o.next HXD.o) e2
 have HBX2:Z (BT wx bx #[iV u1,iV u2] 173):=HBXd.o.chg e2 (λc=>by have h1:=(Q5 HOI.o bx c.symm).2;omega)
 have HC2:Z (Chg (λx=>some x=(sL ia qn ic).ownBlock) w wx):=(Chg.nx HXD.o).trans e2
 have HA2:Z (∀g,(sL na (qn+1) nc).ownBlock=some g->(sL ia qn ic).ownBlock=some g\/w.heap.size<=g):=λg hg=>(e3 g hg).imp id (λh=>zP HXD.o.size h)
 clear e1 e2 e3 HSS
 have HSS:Z ((λq=>q.cell? (aD pb 4)=some (sL ia qn ic)/\q.cell? (aD bx 0)=some (iV u1)/\q.cell? (aD bx 1)=some (iV u2)) wx):=⟨HB2.o.c 4 rfl,HBX2.o.c 0 rfl,HBX2.o.c 1 rfl⟩
 refine hK _ _ ⟨oR HSS.o,?_⟩
 clear hK K
 refine tq (i:=8) (v:=.pointer (some (aD pb 4))) (λhcl=>?_)
 refine tq (i:=9) (v:=.pointer (some (aD pb 4))) (λhcl=>?_)
 have q_:wx.cell? (aD pb 4)=some (sL ia qn ic):=HB2.o.c 4 rfl
 have f_:=HB2.o.blk.frozen 4
 refine Qg (i:=10) (by kernel_rfl) (wpOpIn_step rfl (λK hK=>?_))
 go_simp
 refine hK _ _ ⟨oL (by decide),?_⟩
 clear hK K
 refine Qm (by kernel_rfl) ?_ _
 clear hw hcl q_ f_ HSS
 go_wp2
 refine bodyPost_end (v:=.tuple #[]) (by simp[results,results138,go_sem]) rfl ?_
 refine⟨rfl,na,nc,HB2.o.set 4 _,HO2.o.setP HB2.o,?_,?_⟩
 ·exact(Chg.wider HC2.o (λx h=>oR h)).trans (Chg.set (S:=λx=>x=pb\/some x=(sL ia qn ic).ownBlock) pb 4 _ (oL rfl))
 ·rw[hbx] at HA2
  rw[hbx]
  exact HA2.o
theorem Q61 (pb qn ic:Nat)(ia:Option Addr)(p0 p1 p2 p3 p6:Value)(w:World)(hb:BT w pb #[p0,p1,p2,p3,sL ia qn ic,iV (qn:Int),p6] 170) :
  Calls prog 88 #[.pointer (some (aD pb 4))] w λe w'=>e=.returned (.tuple #[.agg #[iV 0,iV 0],.bool false])/\Nx w w':=by
 have HBP:=Q2 hb
 have HB0:Z (BT (w.alloc (.cells #[iV 0,iV 0] 173)) w.heap.size #[iV 0,iV 0] 173):=BT.new _ _ _ _ rfl
 have HX0:Z (Nx w (w.alloc (.cells #[iV 0,iV 0] 173))):=Q4 _ _
 have hd:((qn:Int)==(qn:Int))=true:=by simp
 clear hb
 go_enter func88,ntmps88
 go_upto_region 1 with fail
 generalize w.alloc (.cells #[iV 0,iV 0] 173)=w1 at *
 have BP:=HBP.o.next HX0.o
 have k4:w1.cell? (aD pb 4)=some (sL ia qn ic):=BP.c 4 rfl
 have k5:w1.cell? (aD pb 5)=some (iV (qn:Int)):=BP.c 5 rfl
 clear BP
 go_wp2
 go_quiet (fail)
 generalize hwq:World.drewN w1 nq=wq at *
 have HN:Z (Nx w1 wq):=by rw[<-hwq];exact⟨rfl,rfl,rfl,lR,λ_ _=>rfl⟩
 have HB1:=Q2 ((HB0.o.next HN.o).next (Q4 wq (.cells #[iV 0,iV 0] 173)))
 have HBN:Z (BT (wq.alloc (.cells #[iV 0,iV 0] 173)) wq.heap.size #[iV 0,iV 0] 173):=BT.new _ _ _ _ rfl
 have HXF:Z (Nx w (wq.alloc (.cells #[iV 0,iV 0] 173))):=(HX0.o.trans HN.o).trans (Q4 _ _)
 clear hwq k4 k5 hd
 go_upto_region 3 with fail
 generalize wq.alloc (.cells #[iV 0,iV 0] 173)=w2 at *
 generalize wq.heap.size=nb at *
 have n0:=HBN.o.c 0 rfl
 have n1:=HBN.o.c 1 rfl
 have b0:=HB1.o.c 0 rfl
 have b1:=HB1.o.c 1 rfl
 have f0:=HB1.o.blk.frozen 0
 have f1:=HB1.o.blk.frozen 1
 have HBF:=Q2 ((HB1.o.set 0 (iV 0)).set 1 (iV 0))
 have HCF:Z (Chg (λx=>x=w.heap.size) w2 ((w2.setCell (aD w.heap.size 0) (iV 0)).setCell (aD w.heap.size 1) (iV 0))):=(Chg.set (S:=λx=>x=w.heap.size) _ _ _ rfl).trans (Chg.set (S:=λx=>x=w.heap.size) _ _ _ rfl)
 go_wp2
 generalize (w2.setCell (aD w.heap.size 0) (iV 0)).setCell (aD w.heap.size 1) (iV 0)=w3 at *
 have g0:w3.cell? (aD w.heap.size 0)=some (iV 0):=HBF.o.c 0 rfl
 have g1:w3.cell? (aD w.heap.size 1)=some (iV 0):=HBF.o.c 1 rfl
 refine bodyPost_ret (v:=.tuple #[.agg #[iV 0,iV 0],.bool false]) (by simp[results,results88,go_sem,g0,g1]) rfl ⟨rfl,Below.trans HXF.o (HCF.o.below HXF.o.size (λx e=>by have e':x=w.heap.size:=e;omega))⟩
theorem Q60 (C pb qn ic tk:Nat)(ia:Option Addr)(p0 p1 p2 p3 p6:Value)(t:List Vx)(w:World)(hb:BT w pb #[p0,p1,p2,p3,sL ia qn ic,iV (tk:Int),p6] 170)(ho:Yc C w (sL ia qn ic) t)(hl:t.length=qn)(ht:tk<qn)(hq:qn<=200000) :
  Calls prog 88 #[.pointer (some (aD pb 4))] w λe w'=>e=.returned (.tuple #[.agg #[iV (vtx t tk).1,iV (vtx t tk).2],.bool true])/\BT w' pb #[p0,p1,p2,p3,sL ia qn ic,iV ((tk:Int)+1),p6] 170/\Chg (λx=>x=pb) w w':=by
 obtain⟨g,hag,hgl,hcg⟩:=ho.cell (i:=tk) (by omega)
 subst hag
 have HBP:=Q2 hb
 have hgp:g≠pb:=λe=>hb.neRow ho (by decide) (by rw[<-e];rfl)
 have HB0:Z (BT (w.alloc (.cells #[iV 0,iV 0] 173)) w.heap.size #[iV 0,iV 0] 173):=BT.new _ _ _ _ rfl
 have HX0:Z (Nx w (w.alloc (.cells #[iV 0,iV 0] 173))):=Q4 _ _
 have HPL:Z (pb<w.heap.size):=hb.lt
 obtain⟨x1,hx1⟩:∃z,(vtx t tk).1=z:=⟨_,rfl⟩
 obtain⟨x2,hx2⟩:∃z,(vtx t tk).2=z:=⟨_,rfl⟩
 have HC0:Z (w.cell? (aD g (tk*2))=some (iV x1)):=by have h:=hcg.1;rw[hx1] at h;exact h
 have HC1:Z (w.cell? (aD g (tk*2+1))=some (iV x2)):=by have h:=hcg.2;rw[hx2] at h;exact h
 rw[hx1,hx2]
 have hd:((tk:Int)==(qn:Int))=false:=by simp;omega
 have htn:(tk:Int)<qn:=by omega
 have hwt:IntKind.i64.wrap ((tk:Int)+1)=(tk:Int)+1:=by rw[IntKind.wrap_i64];omega
 have hws:=Yk tk (by omega)
 clear hb ho hcg hx1 hx2
 go_enter func88,ntmps88
 go_upto_region 1 with fail
 generalize w.alloc (.cells #[iV 0,iV 0] 173)=w1 at *
 have BP:=HBP.o.next HX0.o
 have k4:w1.cell? (aD pb 4)=some (sL (sA g) qn ic):=BP.c 4 rfl
 have k5:w1.cell? (aD pb 5)=some (iV (tk:Int)):=BP.c 5 rfl
 clear BP
 go_wp2
 go_quiet (fail)
 generalize hwq:World.drewN w1 nq=wq at *
 have HN:Z (Nx w wq):=by rw[<-hwq];exact HX0.o.trans ⟨rfl,rfl,rfl,lR,λ_ _=>rfl⟩
 have HB1:Z (BT wq w.heap.size #[iV 0,iV 0] 173):=by rw[<-hwq];exact HB0.o.next ⟨rfl,rfl,rfl,lR,λ_ _=>rfl⟩
 have BQ:=HBP.o.next HN.o
 have j5:wq.cell? (aD pb 5)=some (iV (tk:Int)):=BQ.c 5 rfl
 have y5:=BQ.blk.frozen 5
 have HB2:=Q2 (BQ.set 5 (iV ((tk:Int)+1)))
 have HC2:Z (Chg (λx=>x=pb) wq (wq.setCell (aD pb 5) (iV ((tk:Int)+1)))):=Chg.set (S:=λx=>x=pb) _ _ _ rfl
 clear hwq k4 k5 hd BQ HB0 HX0
 go_upto_region 5 with fail
 generalize wq.setCell (aD pb 5) (iV ((tk:Int)+1))=w2 at *
 have HR2:=Q2 (HB1.o.chg HC2.o (λe=>by have e':w.heap.size=pb:=e;have:=HPL.o;omega))
 have m4:w2.cell? (aD pb 4)=some (sL (sA g) qn ic):=HB2.o.c 4 rfl
 have m5:w2.cell? (aD pb 5)=some (iV ((tk:Int)+1)):=HB2.o.c 5 rfl
 have c0:w2.cell? (aD g (tk*2))=some (iV x1):=HC2.o.cellO (Q1 HN.o HC0.o) hgp
 have c1:w2.cell? (aD g (tk*2+1))=some (iV x2):=HC2.o.cellO (Q1 HN.o HC1.o) hgp
 have b0:=HR2.o.c 0 rfl
 have b1:=HR2.o.c 1 rfl
 have f0:=HR2.o.blk.frozen 0
 have f1:=HR2.o.blk.frozen 1
 clear j5 y5
 have hmx:prog.follows .mixedOrders=true:=by kernel_rfl
 have hxd:Nx w2 w2.drew:=(Below.refl _ _).drew
 have HSS:Z ((λq=>q.cell? (aD pb 4)=some (sL (sA g) qn ic)/\q.cell? (aD pb 5)=some (iV ((tk:Int)+1))/\q.cell? (aD g (tk*2))=some (iV x1)/\q.cell? (aD g (tk*2+1))=some (iV x2)) w2.drew):=⟨Q1 hxd m4,Q1 hxd m5,Q1 hxd c0,Q1 hxd c1⟩
 have HBd:=Q2 (HB2.o.next hxd)
 have HRd:=Q2 (HR2.o.next hxd)
 have HCd:Z (Chg (λx=>x=pb) w w2.drew):=((Chg.nx HN.o).trans HC2.o).trans (Chg.nx hxd)
 clear m4 m5 c0 c1 b0 b1 f0 f1 hxd HB2 HR2 HC2
 generalize hrb:w.heap.size=rb at *
 refine(wpIn_wide (n:=9)).1 ?_
 refine Qj (c:=11) (S:=λq=>q.cell? (aD pb 4)=some (sL (sA g) qn ic)/\q.cell? (aD pb 5)=some (iV ((tk:Int)+1))/\q.cell? (aD g (tk*2))=some (iV x1)/\q.cell? (aD g (tk*2+1))=some (iV x2)) hmx (by kernel_rfl) (λhw hcl=>?_)
 generalize w2.drew=wd at *
 refine tq (i:=0) (v:=.pointer (some (aD pb 4))) (λhcl=>?_)
 refine tq (i:=1) (v:=.pointer (some (aD pb 4))) (λhcl=>?_)
 refine tq (i:=2) (v:=.pointer (some (aD pb 4))) (λhcl=>?_)
 refine tq (i:=3) (v:=sL (sA g) qn ic) (λhcl=>?_)
 refine tq (i:=4) (v:=.pointer (some (aD pb 4))) (λhcl=>?_)
 refine tq (i:=5) (v:=.pointer (some (aD pb 4))) (λhcl=>?_)
 refine tq (i:=6) (v:=.pointer (some (aD pb 5))) (λhcl=>?_)
 refine tq (i:=7) (v:=iV ((tk:Int)+1)) (λhcl=>?_)
 refine tq (i:=8) (v:=iV (tk:Int)) (λhcl=>?_)
 refine tq (i:=9) (v:=.pointer (some (aD g (tk*2)))) (λhcl=>?_)
 refine tq (i:=10) (v:=.agg #[iV x1,iV x2]) (λhcl=>?_)
 have b0:=HRd.o.c 0 rfl
 have b1:=HRd.o.c 1 rfl
 have f0:=HRd.o.blk.frozen 0
 have f1:=HRd.o.blk.frozen 1
 refine Qg (i:=11) (by kernel_rfl) (wpOpIn_step rfl (λK hK=>?_))
 go_simp
 refine hK _ _ ⟨oL (by decide),?_⟩
 clear hK K
 refine Qg (i:=12) (by kernel_rfl) (wpOpIn_step rfl (λK hK=>?_))
 go_simp
 refine hK _ _ ⟨oL (by decide),?_⟩
 clear hK K
 refine Qm (by kernel_rfl) ?_ _
 have HBF:=Q2 ((HRd.o.set 0 (iV x1)).set 1 (iV x2))
 have HPF:=Q2 ((HBd.o.setOther (g:=rb) (by have:=HPL.o;omega) 0 (iV x1)).setOther (g:=rb) (by have:=HPL.o;omega) 1 (iV x2))
 have HCF:Z (Chg (λx=>x=pb) w ((wd.setCell (aD rb 0) (iV x1)).setCell (aD rb 1) (iV x2))):=by
  obtain⟨k1,k2,k3,k4,k5⟩:=HCd.o
  have hz:rb<=rb:=lR
  refine⟨k1,k2,k3,zP k4 (by simp[World.setCell]),λb hb hn=>?_⟩
  rw[Below.heap_setCell _ _ _ _ (by show b≠rb;omega),Below.heap_setCell _ _ _ _ (by show b≠rb;omega)]
  exact k5 b hb hn
 clear hw hcl b0 b1 f0 f1 HSS
 go_wp2
 generalize (wd.setCell (aD rb 0) (iV x1)).setCell (aD rb 1) (iV x2)=w3 at *
 have g0:w3.cell? (aD rb 0)=some (iV x1):=HBF.o.c 0 rfl
 have g1:w3.cell? (aD rb 1)=some (iV x2):=HBF.o.c 1 rfl
 refine bodyPost_ret (v:=.tuple #[.agg #[iV x1,iV x2],.bool true]) (by simp[results,results88,go_sem,g0,g1]) rfl ⟨rfl,HPF.o,HCF.o⟩
theorem VM.len {w:World}{b:Nat}{ks:List Vx}{f:Vx->Int}(h:VM w b ks f):(Builtin.len_ #[164] 3 #[.map (some b)]).run prog w=.ok (iV (ks.length:Int)) w:=by
 obtain⟨es,clock,h1,h2⟩:=h.keys
 simp[Builtin.len_,run_underlying underlying164,MapKept.run_getObj_map h1,Result.andThen,goInt,h2]
theorem VM.noBT {w:World}{b:Nat}{ks:List Vx}{f:Vx->Int}(h:VM w b ks f):¬ ∃cs ty,BT w b cs ty:=λ⟨cs,ty,hb⟩=>by
 obtain⟨es,clock,h1,-⟩:=h
 have hb':w.heap[b]?=some (.cells cs ty (0,0)):=hb
 rw[h1] at hb'
 simp at hb'
theorem U4 {C t sz n g:Nat}{w:World}{v:Value}{xs:List Value}(h:w.ownsRow C t sz v n xs)(hg:v.ownBlock=some g):∃cs,BT w g cs t:=by
 rcases h.2 with⟨rfl,_⟩|⟨g',cap,cur,rfl,_,hh,_⟩
 ·simp[Value.ownBlock] at hg
 ·simp[Value.ownBlock] at hg
  subst hg
  exact⟨cur,hh⟩
theorem Q9t (C pb mb qn ic:Nat)(ia:Option Addr)(p0 p1 p2 p6:Value)(k:Int)(t:List Vx)(f:Vx->Int)(u1 u2:Int)(w:World)(hb:BT w pb #[p0,p1,p2,.map (some mb),sL ia qn ic,iV k,p6] 170)(ho:Yc C w (sL ia qn ic) t)(hm:VM w mb t f)(hl:t.length=qn)(hq:qn<=200000)(hC:C<=w.heap.size)(hf:Fit (u1,u2)) :
  Calls prog 86 #[pT pb,.agg #[iV u1,iV u2]] w λe w'=>e=.returned (.tuple #[])/\∃na n' nc f',BT w' pb #[p0,p1,p2,.map (some mb),sL na n' nc,iV k,p6] 170/\Yc C w' (sL na n' nc) (Wp t (u1,u2))/\VM w' mb (Wp t (u1,u2)) f'/\Chg (λx=>x=pb\/x=mb\/some x=(sL ia qn ic).ownBlock) w w'/\∀g,(sL na n' nc).ownBlock=some g->(sL ia qn ic).ownBlock=some g\/w.heap.size<=g:=by
 have HBP:=Q2 hb
 have HOI:=Q2 ho
 have HVM:=Q2 hm
 have HFT:=Q2 hf
 have HLN:Z (t.length=qn):=hl
 have HBX:Z (BT (w.alloc (.cells #[iV u1,iV u2] 173)) w.heap.size #[iV u1,iV u2] 173):=BT.new _ _ _ _ rfl
 have HX0:Z (Nx w (w.alloc (.cells #[iV u1,iV u2] 173))):=Q4 _ _
 have hmx:prog.follows .mixedOrders=true:=by kernel_rfl
 clear hb ho hm hf hl
 go_enter func86,ntmps86
 go_upto_region 1 with fail
 generalize w.alloc (.cells #[iV u1,iV u2] 173)=w1 at *
 generalize hbx:w.heap.size=bx at *
 have HBX':Z (w.heap.size=bx):=hbx
 have BP:=HBP.o.next HX0.o
 have k3:w1.cell? (aD pb 3)=some (.map (some mb)):=BP.c 3 rfl
 have b0:=HBX.o.c 0 rfl
 have b1:=HBX.o.c 1 rfl
 have hlk:∀p,(Instr.lookup 164 (.map (some mb)) (.agg #[iV u1,iV u2]) true).run prog (w1.drewN p)=.ok (.tuple #[iV (if (u1,u2)∈t then f (u1,u2) else 0),.bool (decide ((u1,u2)∈t))]) (w1.drewN p):=λp=>((HVM.o.next HX0.o).next (show Nx w1 (w1.drewN p) from⟨rfl,rfl,rfl,lR,λ_ _=>rfl⟩)).look (v:=(u1,u2)) HFT.o true
 have hlk0:(Instr.lookup 164 (.map (some mb)) (.agg #[iV u1,iV u2]) true).run prog w1=.ok (.tuple #[iV (if (u1,u2)∈t then f (u1,u2) else 0),.bool (decide ((u1,u2)∈t))]) w1:=(HVM.o.next HX0.o).look (v:=(u1,u2)) HFT.o true
 clear BP hbx
 generalize (if (u1,u2)∈t then f (u1,u2) else 0)=zv at *
 by_cases hin:(u1,u2)∈t
 ·have HIN:Z ((u1,u2)∈t):=hin
  have hdd:decide ((u1,u2)∈t)=true:=by simpa using hin
  rw[hdd] at hlk0
  simp only[hdd] at hlk
  clear hin hdd
  go_wp2
  go_quiet (fail)
  go_wp2
  refine bodyPost_ret (v:=.tuple #[]) (by simp[results,results86,go_sem]) rfl ?_
  have HXF:Nx w (w1.drewN nq):=HX0.o.trans ⟨rfl,rfl,rfl,lR,λ_ _=>rfl⟩
  have e:Wp t (u1,u2)=t:=by unfold Wp;rw[if_pos HIN.o]
  rw[e]
  exact⟨rfl,ia,qn,ic,f,HBP.o.next HXF,HOI.o.next HXF,HVM.o.next HXF,Chg.nx HXF,λg hg=>oL hg⟩
 ·have HIN:Z ((u1,u2)∉t):=hin
  have hdd:decide ((u1,u2)∈t)=false:=by simpa using hin
  rw[hdd] at hlk0
  simp only[hdd] at hlk
  clear hin hdd
  go_wp2
  go_quiet (fail)
  generalize hwq:World.drewN w1 nq=wq at *
  have HNQ:Z (Nx w1 wq):=by rw[<-hwq];exact⟨rfl,rfl,rfl,lR,λ_ _=>rfl⟩
  have HXQ:Z (Nx w wq):=HX0.o.trans HNQ.o
  have HBQ:=Q2 (HBX.o.next HNQ.o)
  clear hwq hlk hlk0 k3 b0 b1
  go_upto_region 3 with fail
  have hxd:Nx wq wq.drew:=(Below.refl _ _).drew
  have HXD:Z (Nx w wq.drew):=HXQ.o.trans hxd
  have HBD:=Q2 (HBQ.o.next hxd)
  have HSS:Z ((λq=>q.cell? (aD pb 3)=some (.map (some mb))/\q.cell? (aD bx 0)=some (iV u1)/\q.cell? (aD bx 1)=some (iV u2)/\VM q mb t f) wq.drew):=⟨(HBP.o.next HXD.o).c 3 rfl,HBD.o.c 0 rfl,HBD.o.c 1 rfl,HVM.o.next HXD.o⟩
  clear hxd HBQ HXQ HNQ HX0 HBX
  refine(wpIn_wide (n:=9)).1 ?_
  refine Qj (c:=10) (S:=λq=>q.cell? (aD pb 3)=some (.map (some mb))/\q.cell? (aD bx 0)=some (iV u1)/\q.cell? (aD bx 1)=some (iV u2)/\VM q mb t f) hmx (by kernel_rfl) (λhw hcl=>?_)
  generalize wq.drew=wd at *
  refine tq (i:=0) (v:=pT pb) (λhcl=>?_)
  refine tq (i:=1) (v:=pT pb) (λhcl=>?_)
  refine tq (i:=2) (v:=.pointer (some (aD pb 3))) (λhcl=>?_)
  refine tq (i:=3) (v:=.map (some mb)) (λhcl=>?_)
  refine tq (i:=4) (v:=.agg #[iV u1,iV u2]) (λhcl=>?_)
  refine tq (i:=5) (v:=pT pb) (λhcl=>?_)
  refine tq (i:=6) (v:=pT pb) (λhcl=>?_)
  refine tq (i:=7) (v:=.pointer (some (aD pb 3))) (λhcl=>?_)
  refine tq (i:=8) (v:=.map (some mb)) (λhcl=>?_)
  refine Qf (i:=9) (v:=iV (qn:Int)) hw (by decide) hcl (Qa rfl) rfl (by kernel_rfl) (by kernel_rfl) (by kernel_rfl) (λ_ _ _ h=>h) ⟨oL ⟨by kernel_rfl,?y9⟩,λ_=>rfl⟩ HSS.o (λhcl=>?_)
  case y9=>
   rintro q ⟨c1,c2,c3,c4⟩
   have h9:=c4.len;rw[HLN.o] at h9;go_simp
  obtain⟨wp,hrun,hvm,hch⟩:=(HVM.o.next HXD.o).put (v:=(u1,u2)) HFT.o (qn:Int) HIN.o
  have HVP:=Q2 hvm
  have HCP:=Q2 hch
  have HMC:Z (¬ ∃cs ty,BT w mb cs ty):=HVM.o.noBT
  unfold Wq at hrun
  refine Qg (i:=10) (by kernel_rfl) (wpOpIn_step rfl (λK hK=>?_))
  go_simp
  refine hK _ _ ⟨oL (by decide),?_⟩
  clear hK K
  refine Qm (by kernel_rfl) ?_ _
  clear hw hcl HSS hrun hvm hch
  have HBP2:Z (BT wp pb #[p0,p1,p2,.map (some mb),sL ia qn ic,iV k,p6] 170):=(HBP.o.next HXD.o).chg HCP.o (λe=>HMC.o ⟨_,_,by have e':pb=mb:=e;rw[<-e'];exact HBP.o⟩)
  have HBX2:Z (BT wp bx #[iV u1,iV u2] 173):=HBD.o.chg HCP.o (λe=>by have e':bx=mb:=e;have:=HVM.o.lt;have:=HBX'.o;omega)
  have HOI2:Z (Yc C wp (sL ia qn ic) t):=Qs (HOI.o.next HXD.o) HCP.o (λg hg e=>by
   have e':g=mb:=e
   obtain⟨cs,hbt⟩:=U4 HOI.o hg
   exact HMC.o ⟨cs,_,by rw[<-e'];exact hbt⟩)
  have HC2:Z (Chg (λx=>x=mb) w wp):=(Chg.nx HXD.o).trans HCP.o
  have b0:=HBX2.o.c 0 rfl
  have b1:=HBX2.o.c 1 rfl
  go_upto_region 4 with fail
  have hxd2:Nx wp wp.drew:=(Below.refl _ _).drew
  have HSS:Z ((λq=>q.cell? (aD bx 0)=some (iV u1)/\q.cell? (aD bx 1)=some (iV u2)) wp.drew):=⟨Q1 hxd2 b0,Q1 hxd2 b1⟩
  have HBP3:=Q2 (HBP2.o.next hxd2)
  have HOI3:=Q2 (HOI2.o.next hxd2)
  have HVP3:=Q2 (HVP.o.next hxd2)
  have HC3:Z (Chg (λx=>x=mb) w wp.drew):=HC2.o.trans (Chg.nx hxd2)
  clear hxd2 b0 b1 HBP2 HOI2 HVP HC2 HBX2 HCP HBD
  refine(wpIn_wide (n:=9)).1 ?_
  refine Qj (c:=4) (S:=λq=>q.cell? (aD bx 0)=some (iV u1)/\q.cell? (aD bx 1)=some (iV u2)) hmx (by kernel_rfl) (λhw hcl=>?_)
  generalize wp.drew=we at *
  refine tq (i:=0) (v:=pT pb) (λhcl=>?_)
  refine tq (i:=1) (v:=pT pb) (λhcl=>?_)
  refine tq (i:=2) (v:=.pointer (some (aD pb 4))) (λhcl=>?_)
  refine tq (i:=3) (v:=.agg #[iV u1,iV u2]) (λhcl=>?_)
  refine Qg (i:=4) (by kernel_rfl) (wpOpIn_step rfl (λK hK=>?_))
  go_simp
  refine⟨trivial,(callsIn_wide.2 (Qav C pb qn ic ia p0 p1 p2 (.map (some mb)) p6 k t u1 u2 we HBP3.o HOI3.o HLN.o hq (by have:=HC3.o.size;have:=HBX'.o;omega))).mono ?_⟩
  rintro e9 w9 ⟨rfl,na,nc,hb9,ho9,hc9,ha9⟩
  have HB9:=Q2 hb9
  have HO9:=Q2 ho9
  have HV9:Z (VM w9 mb (t++[(u1,u2)]) (λu=>if u=(u1,u2) then (qn:Int) else f u)):=HVP3.o.chg hc9 (λe=>by
   rcases e with e|e
   ·exact HMC.o ⟨_,_,by rw[e];exact HBP.o⟩
   ·obtain⟨cs,hbt⟩:=U4 HOI.o e.symm
    exact HMC.o ⟨cs,_,hbt⟩)
  have HC9:Z (Chg (λx=>x=pb\/x=mb\/some x=(sL ia qn ic).ownBlock) w w9):=(Chg.wider HC3.o (λx h=>oR (oL h))).trans (Chg.wider hc9 (λx h=>h.elim oL (λh=>oR (oR h))))
  have HA9:Z (∀g,(sL na (qn+1) nc).ownBlock=some g->(sL ia qn ic).ownBlock=some g\/w.heap.size<=g):=λg hg=>(ha9 g hg).imp id (λh=>zP HC3.o.size h)
  clear hb9 ho9 hc9 ha9
  refine hK _ _ ⟨oL (by decide),?_⟩
  clear hK K
  refine Qm (by kernel_rfl) ?_ _
  clear hw hcl HSS
  have HAD:Z (Wp t (u1,u2)=t++[(u1,u2)]):=by unfold Z Wp;rw[if_neg HIN.o]
  go_wp2
  refine bodyPost_end (v:=.tuple #[]) (by simp[results,results86,go_sem]) rfl ?_
  rw[HAD.o]
  exact⟨rfl,na,qn+1,nc,_,HB9.o,HO9.o,HV9.o,HC9.o,HA9.o⟩
end Go.Proofs.YtahpodmokbdjeaaGreatDoor
