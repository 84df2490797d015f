import Derived.Test.YtahpodmokbdjeaaGreatDoorQYQ
import Derived.Test.YtahpodmokbdjeaaGreatDoorQYH
import Derived.Test.YtahpodmokbdjeaaGreatDoorQJF
import Derived.Laws.OwnMore
import Derived.Deep.LoopGhost
namespace Go.Proofs.YtahpodmokbdjeaaGreatDoor
open Go.RowKit Go.Sort Tryz
set_option linter.unusedVariables false
set_option maxRecDepth 1000000
set_option maxHeartbeats 16000000
abbrev stA (A:Au):Int->Int->Int:=Q9 A (wsA A)
structure SF (N:Nt)(A:Au):Prop where
 hv:Qe N=true
 va:Uj A=true
 tri:Zc A A.pa.length
 mu:iat A.mu 0=-1
 bd:bat A.bd 0=false
 ok:Q7f (stA A) (E1 N).length A.pa.length
 m:(E1 N).length<=4000
 n:A.pa.length<=2000
 p:0<A.pa.length
structure Sta (N:Nt)(A:Au)(w:World)(C B D:Nat)(L:Lk)(sv:Value)(bl:Nat->Nat)(fl mv:Nat->Value):Prop where
 lr:LR C N (E1 N) N.ways.length (E1 N).length (E1 N).length (E1 N).length N.ways.length w L
 tu:V5 B w L.v3 N.turns
 tr:TR A A.pa.length A.pa.length w bl fl mv (λs=>(s:Int))
 st:Xg D w sv ((List.range A.pa.length).map bl)
section
variable {N:Nt}{A:Au}{w w':World}{C B D:Nat}{L:Lk}{sv:Value}{bl:Nat->Nat}{fl mv:Nat->Value}
theorem Sta.next (h:Sta N A w C B D L sv bl fl mv)(k:Nx w w'):Sta N A w' C B D L sv bl fl mv:=
 ⟨h.lr.next k,h.tu.keep (k.keeps _),h.tr.keep (But.of_nx (o:=none) (o':=none) k) (λ_ _=>⟨by simp,by simp⟩) (λ_ _ _ _=>⟨by simp,by simp⟩),h.st.next k⟩
theorem Sta.node (h:Sta N A w C B D L sv bl fl mv)(F:SF N A){s:Nat}(hs:s<A.pa.length):w.cell? (aD (bl s) 0)=some (iV (s:Int)):=(h.tr.nd s hs).c 0 rfl
theorem Sta.state (h:Sta N A w C B D L sv bl fl mv){s:Nat}(hs:s<A.pa.length):∃g c,sv=sL (sA g) A.pa.length c/\w.cell? (aD g s)=some (ptr (bl s)):=by
 obtain⟨a,c,e⟩:=h.st.slice
 rw[zG,zY] at e
 have h1:=h.st
 rw[e] at h1
 obtain⟨g,rfl,hc⟩:=h1.cell (i:=s) (by simp;exact hs)
 refine⟨g,c,e,?_⟩
 rw[hc]
 simp[nat,List.getD_eq_getElem?_getD,hs]
theorem Q3k (F:SF N A){s:Nat}(hs:s<A.pa.length)(e:Int):(stA A s e=-1/\Uz A A.pa.length bl s e=.pointer none)\/∃g,g<A.pa.length/\stA A s e=(g:Int)/\Uz A A.pa.length bl s e=ptr (bl g):=by
 show(Q9 A (wsA A) s e=-1/\_)\/∃g,_/\Q9 A (wsA A) s e=_/\_
 rw[Q0m F.va hs e]
 unfold Q7t Uz
 split
 ·exact oL ⟨rfl,rfl⟩
 ·split
  ·exact oL ⟨rfl,rfl⟩
  ·split
   ·exact oL ⟨rfl,rfl⟩
   ·exact oR ⟨_,(Q8m F.tri hs e).2,rfl,rfl⟩
end
theorem Q0n (N:Nt)(A:Au)(F:SF N A)(C B D pb e:Nat)(L:Lk)(sv:Value)(bl:Nat->Nat)(fl mv:Nat->Value)(p0 p2 p3 p4 p5 p6:Value)(w:World)(hS:Sta N A w C B D L sv bl fl mv)(hb:BT w pb #[p0,sv,p2,p3,p4,p5,p6] 170)(he:e<(E1 N).length) :
  Calls prog 87 #[pT pb,pT (L.eb e)] w λr w'=>r=.returned (.agg #[iV (e:Int),iV (stA A 0 e)])/\Nx w w':=by
 obtain⟨g,c,hsv,hg⟩:=hS.state F.p
 have hsv0:=F.ok.s0 e he
 obtain⟨z,hz,ez,hV⟩:∃z,z<A.pa.length/\stA A 0 e=(z:Int)/\Uz A A.pa.length bl 0 e=ptr (bl z):=by
  rcases Q3k (bl:=bl) F F.p (e:Int) with⟨h,-⟩|h
  ·have h':stA A 0 e=-1:=h
   exact absurd hsv0 (by show ¬0<=stA A 0 e;omega)
  ·exact h
 subst hsv
 rw[ez]
 have he7:w.cell? (aD (L.eb e) 7)=some (iV (e:Int)):=(hS.lr.edge e he).c 7 rfl
 have HS:=Q2 hS
 have HBP:=Q2 hb
 have HB0:Z (BT (w.alloc (.cells #[iV 0,iV 0] 173)) w.heap.size #[iV 0,iV 0] 173):=BT.new _ _ _ _ rfl
 have HX0:Z (Nx w (w.alloc (.cells #[iV 0,iV 0] 173))):=Q4 _ _
 have HV:Z (Uz A A.pa.length bl 0 e=ptr (bl z)):=hV
 have HE:Z (w.cell? (aD (L.eb e) 7)=some (iV (e:Int))):=he7
 have HG:Z (w.cell? (aD g 0)=some (ptr (bl 0))):=hg
 have hmx:prog.follows .mixedOrders=true:=by kernel_rfl
 have hnp:=F.p
 clear hS hb hV he7 hg ez hsv0
 generalize hbs:bl 0=b0 at *
 generalize hes:L.eb e=eb at *
 generalize hnn:A.pa.length=n at *
 have hni:(0:Int)<n:=by omega
 unfold ptr at HG
 go_enter func87,ntmps87
 go_upto_region 1 with fail
 generalize w.alloc (.cells #[iV 0,iV 0] 173)=w1 at *
 generalize hrb:w.heap.size=rb at *
 have hxd:Nx w1 w1.drew:=(Below.refl _ _).drew
 have HXD:Z (Nx w w1.drew):=HX0.o.trans hxd
 have HSS:Z ((λq=>q.cell? (aD eb 7)=some (iV (e:Int))/\q.cell? (aD pb 1)=some (sL (sA g) n c)/\q.cell? (aD g 0)=some (pT b0)) w1.drew):=⟨Q1 HXD.o HE.o,(HBP.o.next HXD.o).c 1 rfl,Q1 HXD.o HG.o⟩
 have HSD:=Q2 (HS.o.next HXD.o)
 have HBD:=Q2 (HB0.o.next hxd)
 clear hxd HB0 HX0
 refine(wpIn_wide (n:=9)).1 ?_
 refine Qj (c:=17) (S:=λq=>q.cell? (aD eb 7)=some (iV (e:Int))/\q.cell? (aD pb 1)=some (sL (sA g) n c)/\q.cell? (aD g 0)=some (pT b0)) hmx (by kernel_rfl) (λhw hcl=>?_)
 generalize w1.drew=wd at *
 refine tq (i:=0) (v:=pT eb) (λhcl=>?_)
 refine tq (i:=1) (v:=pT eb) (λhcl=>?_)
 refine tq (i:=2) (v:=.pointer (some (aD eb 7))) (λhcl=>?_)
 refine tq (i:=3) (v:=iV (e:Int)) (λhcl=>?_)
 refine tq (i:=4) (v:=pT pb) (λhcl=>?_)
 refine tq (i:=5) (v:=pT pb) (λhcl=>?_)
 refine tq (i:=6) (v:=.pointer (some (aD pb 1))) (λhcl=>?_)
 refine tq (i:=7) (v:=sL (sA g) n c) (λhcl=>?_)
 refine tq (i:=8) (v:=pT g) (λhcl=>?_)
 refine tq (i:=9) (v:=pT b0) (λhcl=>?_)
 refine tq (i:=10) (v:=pT eb) (λhcl=>?_)
 refine tq (i:=11) (v:=pT eb) (λhcl=>?_)
 refine tq (i:=12) (v:=.pointer (some (aD eb 7))) (λhcl=>?_)
 refine tq (i:=13) (v:=iV (e:Int)) (λhcl=>?_)
 refine Qo (i:=14) (by kernel_rfl) hcl (λhcl=>wpOpIn_step rfl (λK hK=>?_))
 go_simp
 refine⟨trivial,(callsIn_wide.2 (by have h:=Q3j A n 0 (e:Int) wd bl fl mv _ (by rw[<-hnn];exact F.tri) (by rw[<-hnn];exact HSD.o.tr) F.mu F.bd hnp;rw[hbs] at h;exact h)).mono ?_⟩
 rintro e9 w9 ⟨rfl,rfl⟩
 refine hK _ _ ⟨oR HSS.o,?_⟩
 clear hK K
 rw[HV.o]
 refine Qo (i:=15) (by kernel_rfl) hcl (λhcl=>wpOpIn_step rfl (λK hK=>?_))
 go_simp
 refine⟨trivial,(callsIn_wide.2 (Q25 (bl z) _ _ _ _ _ _ _ _ w9 (HSD.o.tr.nd z (by omega)))).mono ?_⟩
 rintro e9 w9 ⟨rfl,rfl⟩
 refine hK _ _ ⟨oR HSS.o,?_⟩
 clear hK K
 refine Qo (i:=16) (by kernel_rfl) hcl (λhcl=>wpOpIn_step rfl (λK hK=>?_))
 go_simp
 refine hK _ _ ⟨oR HSS.o,?_⟩
 clear hK K
 have b0:=HBD.o.c 0 rfl
 have b1:=HBD.o.c 1 rfl
 have f0:=HBD.o.blk.frozen 0
 have f1:=HBD.o.blk.frozen 1
 refine Qg (i:=17) (by kernel_rfl) (wpOpIn_step rfl (λK hK=>?_))
 go_simp
 refine hK _ _ ⟨oL (by decide),?_⟩
 clear hK K
 refine Qm (by kernel_rfl) ?_ _
 have HBF:=Q2 ((HBD.o.set 0 (iV (e:Int))).set 1 (iV (z:Int)))
 have HCF:Z (Chg (λx=>x=rb) w9 ((w9.setCell (aD rb 0) (iV (e:Int))).setCell (aD rb 1) (iV (z:Int)))):=(Chg.set (S:=λx=>x=rb) _ _ _ rfl).trans (Chg.set (S:=λx=>x=rb) _ _ _ rfl)
 clear hw hcl b0 b1 f0 f1 HSS
 go_wp2
 generalize (w9.setCell (aD rb 0) (iV (e:Int))).setCell (aD rb 1) (iV (z:Int))=w3 at *
 have g0:w3.cell? (aD rb 0)=some (iV (e:Int)):=HBF.o.c 0 rfl
 have g1:w3.cell? (aD rb 1)=some (iV (z:Int)):=HBF.o.c 1 rfl
 refine bodyPost_ret (v:=.agg #[iV (e:Int),iV (z:Int)]) (by simp[results,results87,go_sem,g0,g1]) rfl ⟨rfl,Below.trans HXD.o (HCF.o.below HXD.o.size (λx e=>by have e':x=rb:=e;omega))⟩
theorem E6 {N:Nt}(hv:Qe N=true):Uw N.turns=true/\(∀i,i<N.turns.length->tIn (tat N.turns i))/\∀e f,e<(E1 N).length->f<(E1 N).length->tIn ⟨Xc N (E1 N) e,Xc N (E1 N) f,0⟩:=by
 have hw:=Pj hv
 have h:=hv
 simp only[Qe,U8,zH,decide_eq_true_eq] at h
 obtain⟨_,_,_,⟨hwy,_⟩,_,ht,ha⟩:=h
 have hid:∀i,i<N.ways.length->0<=(wat N.ways i).id/\(wat N.ways i).id<=1048576:=λi hi=>by
  have:=Yj hwy hi
  simp only[Qu,Vp,zH] at this
  simpa [inB] using this.1.1.1.1.1
 refine⟨ha,λi hi=>?_,λe f _ hf=>?_⟩
 ·have:=Yj ht hi
  simp only[Y3,zH] at this
  have h1:=hid _ (Xu this.2.1)
  rw[Q7j this.2.1] at h1
  exact⟨h1.1,by omega⟩
 ·obtain⟨i,hi,he⟩:=hw.way f hf
  have h1:=hid i hi
  show 0<=Xc N (E1 N) f/\Xc N (E1 N) f<4194304
  unfold Xc
  rw[he,zX]
  exact⟨h1.1,by omega⟩
def lvT (es:List Eg)(v:Int)(k:Nat):List Nat:=(List.range k).filter (λe=>decide ((eat es e).tail=v))
theorem Q4d (es:List Eg)(v:Int)(k:Nat):lvT es v (k+1)=lvT es v k++if (eat es k).tail=v then [k] else []:=by
 unfold lvT
 rw[List.range_succ,zZ]
 by_cases h:(eat es k).tail=v<;>simp[h]
theorem Qgt {es:List Eg}{v:Int}{k e:Nat}(h:e∈lvT es v k):e<k:=List.mem_range.1 (List.mem_filter.1 h).1
theorem Q87 (es:List Eg)(v:Int)(k:Nat):(lvT es v k).length<=k:=by
 have:=yA (λe=>decide ((eat es e).tail=v)) (List.range k)
 rw[zY] at this
 exact this
def fL (st:Int->Int->Int)(s:Int)(l:List Nat):List Vx:=l.flatMap λ(f:Nat)=>if 0<=st s (f:Int) then [((f:Int),st s (f:Int))] else []
theorem Q2n (st:Int->Int->Int)(s:Int)(l:List Nat)(y:Nat):fL st s (l++[y])=fL st s l++if 0<=st s (y:Int) then [((y:Int),st s (y:Int))] else []:=by simp[fL,List.flatMap_append]
theorem Q81 (es:List Eg)(st:Int->Int->Int)(v:Vx):∀k,Zn es st v k=fL st v.2 (lvT es (eat es v.1.toNat).head k)
 |0=>rfl
 |k+1=>by
  rw[Zn,Q81 es st v k,Q4d]
  by_cases h:(eat es k).tail=(eat es v.1.toNat).head
  ·rw[if_pos h,Q2n]
   simp[h]
  ·rw[if_neg h,if_neg (λc=>h c.1),List.append_nil,List.append_nil]
structure Lvs (C:Nat)(w:World)(lv:Value)(nn:Nat)(es:List Eg)(k:Nat)(eb:Nat->Nat)(us:Nat->Value):Prop where
 row:w.ownsRow C 136 1 lv nn ((List.range nn).flatMap (λi=>[us i]))
 each:∀v,v<nn->Jg C w (us v) ((lvT es (v:Int) k).map eb)
 apart:∀i j g,i<nn->j<nn->i≠j->(us i).ownBlock=some g->(us j).ownBlock≠some g
theorem Lvs.next {C:Nat}{w w':World}{lv:Value}{nn:Nat}{es:List Eg}{k:Nat}{eb:Nat->Nat}{us:Nat->Value}(h:Lvs C w lv nn es k eb us)(x:Nx w w'):Lvs C w' lv nn es k eb us:=⟨V7 h.row x,λv hv=>V7 (h.each v hv) x,h.apart⟩
theorem Lvs.at {C:Nat}{w:World}{lv:Value}{nn:Nat}{es:List Eg}{k:Nat}{eb:Nat->Nat}{us:Nat->Value}(h:Lvs C w lv nn es k eb us){v:Nat}(hv:v<nn):∃g c,lv=sL (sA g) nn c/\C<=g/\w.cell? (aD g v)=some (us v):=by
 obtain⟨b,c,e,-,-,hB,hb,k⟩:=Xn h.row (zY) (by decide) (λ_=>rfl) (i:=v) (x:=v) (by simp[hv])
 have k0:=k 0 (by decide)
 rw[Nat.mul_one,Nat.add_zero] at k0
 exact⟨b,c,e,hB,k0⟩
abbrev Ax:=Vx×Int
def Qgg (x:Ax):List Value:=[iV x.1.1,iV x.1.2,iV x.2]
def Ap (C:Nat)(w:World)(v:Value)(l:List Ax):Prop:=w.ownsRow C 180 3 v l.length (l.flatMap Qgg)
theorem Qf8:(prog.info? 180).map (λi=>(i.zero,i.size,i.bytes))=some (some (.agg #[iV 0,iV 0,iV 0]),3,24):=by kernel_rfl
theorem Q7c {k:Nat}{ops:Array Oper}{o:Oper}{a:Act}{K:Act->World->Prop}{Q:Exit->Act->World->Prop}{E:Prop}(hgd:o.guard=none)(s x:Operand)(ho:o.op=.call { callee:=.builtin .append,args:=#[s,x],argTypes:=#[177,177] })
  (C n:Nat) (v:Value) (l:List Ax) (y:Ax) (w0 W:World) (hW:W=w0.alloc (.cells #[iV y.1.1,iV y.1.2,iV y.2] 180)) (hs:a.eval s=v) (hown:Ap C w0 v l) (hx:a.eval x=sL (sA w0.heap.size) 1 1) (hn:l.length=n) (hm:n<=1000000) (hC:C<=w0.heap.size)
  (h:∀a' c' w',Ap C w' (sL a' (n+1) c') (l++[y])->Chg (λx=>some x=v.ownBlock) w0 w'->(∀g,(sL a' (n+1) c').ownBlock=some g->v.ownBlock=some g\/w0.heap.size<=g)->K (a.put o.dst (sL a' (n+1) c')) w') :
  if Region.wanted o (yielded ops a.tmps)=true then Oper.wpIn Fence.wide k prog o a W K Q else E:=by
 subst hn
 refine Us Qf8 underlying177 rfl (by decide) (by decide) hgd s x ho C l.length v (l.flatMap Qgg) [iV y.1.1,iV y.1.2,iV y.2] w0 W hW hs hown hx rfl (by intro u hu;simp at hu;rcases hu with rfl|rfl|rfl<;>rfl) hm hC (λa' c' w' r1 r2 r3=>h a' c' w' ?_ r2 r3)
 unfold Ap
 rw[zA,List.flatMap_append]
 exact r1
theorem Q2y (N:Nt)(A:Au)(F:SF N A)(C B D Cl pb X s:Nat)(L:Lk)(sv lv:Value)(bl:Nat->Nat)(fl mv:Nat->Value)(us:Nat->Value)(p3 p4 p5 p6:Value)(w:World)(hS:Sta N A w C B D L sv bl fl mv)(hb:BT w pb #[pT L.br,sv,lv,p3,p4,p5,p6] 170)(hL:Lvs Cl w lv N.nodes.length (E1 N) (E1 N).length L.eb us)(hx:X<(E1 N).length)(hs:s<A.pa.length) :
  Calls prog 89 #[pT pb,.agg #[iV (X:Int),iV (s:Int)]] w λr w'=>(∃a q c,r=.returned (sL a q c)/\Ap w.heap.size w' (sL a q c) ((nxV (E1 N) (stA A) ((X:Int),(s:Int))).map (λu=>(u,Vz N (E1 N) ((X:Int),(s:Int)) u))))/\Nx w w':=by
 obtain⟨gs,cs,rfl,hgs⟩:=hS.state hs
 obtain⟨ge,ce,hve,-,-,hrw⟩:=hS.lr.all.open (by simp;omega)
 rw[zG,zY] at hve hrw
 have kx:=hrw.cell hx
 have hmp:=F.m
 have hnp:=F.n
 rw[show((List.range (E1 N).length).map L.eb).getD X 0=L.eb X by simp[List.getD_eq_getElem?_getD,hx]] at kx
 have hhd:=Q35 (Jz F.hv) hx
 obtain⟨hh,ehh⟩:∃hh:Nat,(eat (E1 N) X).head=(hh:Int):=⟨_,(Int.toNat_of_nonneg hhd.1).symm⟩
 have hhl:hh<N.nodes.length:=by rw[ehh] at hhd;omega
 obtain⟨gl,cl,rfl,-,hgl⟩:=hL.at hhl
 have hll:=hL.each hh hhl
 have hnl:=(Jz F.hv).c0
 obtain⟨l,hl⟩:∃l,lvT (E1 N) (hh:Int) (E1 N).length=l:=⟨_,rfl⟩
 rw[hl] at hll
 have HLT:Z (∀y∈l,y<(E1 N).length):=λy hy=>by rw[<-hl] at hy;exact Qgt hy
 have HNX:Z (nxV (E1 N) (stA A) ((X:Int),(s:Int))=fL (stA A) (s:Int) l):=by unfold Z nxV;rw[Q81,zX,ehh,hl]
 obtain⟨ua,uc,hus⟩:=Q7 hll
 rw[zG] at hus
 obtain⟨m,hm⟩:∃m,l.length=m:=⟨_,rfl⟩
 have hml:m<=4000:=by have:=Q87 (E1 N) (hh:Int) (E1 N).length;rw[hl,hm] at this;omega
 rw[hm] at hus
 rw[hus] at hgl hll
 have HM:Z (l.length=m):=hm
 have HLL:=Q2 hll
 have HS:=Q2 hS
 have HBP:=Q2 hb
 have HP0:Z (w.cell? (aD pb 0)=some (pT L.br)):=hb.c 0 rfl
 have hr5:=hS.lr.road.c 5 rfl
 rw[hve] at hr5
 have hxh:w.cell? (aD (L.eb X) 1)=some (iV (hh:Int)):=by rw[<-ehh];exact(hS.lr.edge X hx).c 1 rfl
 have HK:Z (w.cell? (aD L.br 5)=some (.slice (sA ge) (E1 N).length ce)/\w.cell? (aD ge X)=some (pT (L.eb X))/\w.cell? (aD gs s)=some (pT (bl s))/\w.cell? (aD gl hh)=some (sL ua m uc)/\w.cell? (aD (L.eb X) 1)=some (iV (hh:Int))):=⟨hr5,kx,hgs,hgl,hxh⟩
 have hmx:prog.follows .mixedOrders=true:=by kernel_rfl
 have hxi:(X:Int)<(E1 N).length:=by omega
 have hsi:(s:Int)<A.pa.length:=by omega
 have hhi:(hh:Int)<N.nodes.length:=by omega
 have HBX:Z (BT (w.alloc (.cells #[iV (X:Int),iV (s:Int)] 173)) w.heap.size #[iV (X:Int),iV (s:Int)] 173):=BT.new _ _ _ _ rfl
 have HX0:Z (Nx w (w.alloc (.cells #[iV (X:Int),iV (s:Int)] 173))):=Q4 _ _
 clear hS hL hb hrw hve kx hgs hgl hr5 hxh hll hus hm hl ehh hhd
 go_enter func89,ntmps89
 go_upto_region 2 with fail
 generalize w.alloc (.cells #[iV (X:Int),iV (s:Int)] 173)=w1 at *
 have BP:=HBP.o.next HX0.o
 have j0:=BP.c 0 rfl
 have j1:=BP.c 1 rfl
 have j2:=BP.c 2 rfl
 have b0:=HBX.o.c 0 rfl
 have b1:=HBX.o.c 1 rfl
 have h1:=Q1 HX0.o HK.o.1
 have h2:=Q1 HX0.o HK.o.2.1
 have h3:=Q1 HX0.o HK.o.2.2.1
 have h4:=Q1 HX0.o HK.o.2.2.2.1
 have h5:=Q1 HX0.o HK.o.2.2.2.2
 clear BP
 go_quiet (fail)
 go_upto_region 3 with fail
 go_quiet (fail)
 generalize hwq:World.drewN _ nq=wq at *
 have HXQ:Z (Nx w wq):=by rw[<-hwq];exact HX0.o.trans ⟨rfl,rfl,rfl,lR,λ_ _=>rfl⟩
 clear hwq j0 j1 j2 b0 b1 h1 h2 h3 h4 h5 HBX HX0
 go_wp2
 go_loopw [5,43] (λs5 s43 wr=>∃(j q ac:Nat) (aa:Option Addr),j<=m/\q<=j/\s43=iV j/\s5=sL aa q ac/\Z (((fL (stA A) (s:Int) (l.take (j))).map (λu=>(u,Vz N (E1 N) ((X:Int),(s:Int)) u))).length=q)/\Z (Ap w.heap.size wr (sL aa q ac) ((fL (stA A) (s:Int) (l.take (j))).map (λu=>(u,Vz N (E1 N) ((X:Int),(s:Int)) u))))/\Z (Nx w wr)) (λ_ i _=>m-(intOf i).toNat)
 case atStart=>exact⟨0,0,0,_,nZ,nZ,rfl,rfl,rfl,⟨rfl,.inl ⟨rfl,rfl⟩⟩,HXQ⟩
 obtain⟨j,q,ac,aa,hjm,hqj,rfl,rfl,HLN,HO,HX⟩:=hrel
 by_cases hlt:j<m
 ·have hlt':(j:Int)<m:=by omega
  obtain⟨gu,uc',eu,-,-,hru⟩:=HLL.o.open (by rw[zG,HM.o];omega)
  rw[zG,HM.o] at eu hru
  simp only[zC] at eu
  obtain⟨rfl,-,rfl⟩:=eu
  obtain⟨y,hly⟩:∃y,l[j]?=some y:=⟨l[j]'(by have:=HM.o;omega),zJ _⟩
  have hy:y<(E1 N).length:=HLT.o y (yP hly)
  have kj0:=hru.cell hlt
  have ej:(l.map L.eb).getD j 0=L.eb y:=by simp[List.getD_eq_getElem?_getD,hly]
  rw[ej] at kj0
  have kj:=Q1 HX.o kj0
  have HTK:Z (l.take (j+1)=l.take j++[y]):=by unfold Z;rw[List.take_add_one,hly];rfl
  have hye:=(HS.o.lr.edge y hy).blk
  have HY7:Z (w.cell? (aD (L.eb y) 7)=some (iV (y:Int))):=hye.c 7 rfl
  have HW2:Z (w.cell? (aD (L.eb y) 2)=some (iV (eat (E1 N) y).weight)):=hye.c 2 rfl
  have ky:=Q1 HX.o HY7.o
  clear ej kj0 hye hru
  go_wp2_with fail
  refine(Q3j A A.pa.length s (y:Int) wr bl fl mv _ F.tri (HS.o.next HX.o).tr F.mu F.bd hs).mono ?_
  rintro e5 w5 ⟨rfl,h5⟩
  rw[h5]
  clear h5 w5
  clear ky kj
  rcases Q3k (bl:=bl) F hs (y:Int) with⟨ez,hV⟩|⟨z,hz,ez,hV⟩
  ·rw[hV]
   have HEN:Z (((fL (stA A) (s:Int) (l.take (j+1))).map (λu=>(u,Vz N (E1 N) ((X:Int),(s:Int)) u)))=((fL (stA A) (s:Int) (l.take (j))).map (λu=>(u,Vz N (E1 N) ((X:Int),(s:Int)) u)))):=by
    unfold Z
    rw[HTK.o,Q2n,if_neg (by rw[ez];omega),List.append_nil]
   go_wp2
   go_roundw
   case rel=>exact⟨j+1,q,ac,aa,by omega,by omega,by go_num,rfl,by rw[HEN.o];exact HLN.o,by rw[HEN.o];exact HO.o,HX⟩
   case measure=>simp[intOf];omega
  ·rw[hV]
   unfold ptr
   have HZ:Z (stA A (s:Int) (y:Int)=(z:Int)):=ez
   have HNZ:Z (w.cell? (aD (bl z) 0)=some (iV (z:Int))):=HS.o.node F hz
   have hwl:=(Pj F.hv).weight y hy
   have htc:=Q3b (Pj F.hv) X y
   have HCT:Z (∀q,Nx w q->Calls prog 141 #[pT L.br,pT (L.eb X),pT (L.eb y)] q λr w'=>r=.returned (iV (Ym N (E1 N) X y))/\Nx q w'):=λq hq=>by
    have hS:=HS.o.next hq
    have hex:=(hS.lr.edge X hx).blk
    have hey:=(hS.lr.edge y hy).blk
    obtain⟨ix,hix,eix⟩:=(Q89 F.hv).way X hx
    obtain⟨iy,hiy,eiy⟩:=(Q89 F.hv).way y hy
    have ex8:q.cell? (aD (L.eb X) 8)=some (pT (L.wb (eat (E1 N) X).way.toNat)):=hex.c 8 rfl
    have ey8:q.cell? (aD (L.eb y) 8)=some (pT (L.wb (eat (E1 N) y).way.toNat)):=hey.c 8 rfl
    rw[eix,zX] at ex8
    rw[eiy,zX] at ey8
    have wx:q.cell? (aD (L.wb ix) 0)=some (iV (Xc N (E1 N) X)):=by unfold Xc;rw[eix,zX];exact(hS.lr.way ix hix).c 0 rfl
    have wy:q.cell? (aD (L.wb iy) 0)=some (iV (Xc N (E1 N) y)):=by unfold Xc;rw[eiy,zX];exact(hS.lr.way iy hiy).c 0 rfl
    exact Q1r B N (E1 N) L.br (L.eb X) (L.eb y) _ _ X y L.v3 q (hS.lr.road.c 3 rfl) (hS.lr.road.c 4 rfl) hS.tu (hex.c 6 rfl) ex8 wx (hey.c 7 rfl) ey8 wy (E6 F.hv).1 (E6 F.hv).2.1 ((E6 F.hv).2.2 X y hx hy) (Pj F.hv)
   have HAR:Z (Vz N (E1 N) ((X:Int),(s:Int)) ((y:Int),(z:Int))=Ym N (E1 N) X y+(eat (E1 N) y).weight):=by unfold Z Vz;rw[zX,zX]
   have HEN:Z (((fL (stA A) (s:Int) (l.take (j+1))).map (λu=>(u,Vz N (E1 N) ((X:Int),(s:Int)) u)))=((fL (stA A) (s:Int) (l.take (j))).map (λu=>(u,Vz N (E1 N) ((X:Int),(s:Int)) u)))++[(((y:Int),(z:Int)),Ym N (E1 N) X y+(eat (E1 N) y).weight)]):=by
    unfold Z
    rw[<-HAR.o,HTK.o,Q2n,if_pos (by rw[HZ.o];omega),yL,HZ.o]
    rfl
   clear ez HZ HAR hV
   generalize Ym N (E1 N) X y=tc at *
   generalize (eat (E1 N) y).weight=wt at *
   go_upto_region 8 with fail
   have hxd:Nx wr wr.drew:=(Below.refl _ _).drew
   have HX8:Z (Nx w wr.drew):=HX.o.trans hxd
   have HSS:Z ((λq=>q.cell? (aD pb 0)=some (pT L.br)/\q.cell? (aD (L.eb y) 2)=some (iV wt)) wr.drew):=⟨Q1 HX8.o HP0.o,Q1 HX8.o HW2.o⟩
   have HO8:=Q2 (V7 HO.o hxd)
   refine(wpIn_wide (n:=9)).1 ?_
   refine Qj (c:=13) (S:=λq=>q.cell? (aD pb 0)=some (pT L.br)/\q.cell? (aD (L.eb y) 2)=some (iV wt)) hmx (by kernel_rfl) (λhw hcl=>?_)
   have HC8:=Q2 (HCT.o _ HX8.o)
   clear hxd HCT
   generalize wr.drew=wd at *
   refine tq (i:=0) (v:=pT pb) (λhcl=>?_)
   refine tq (i:=1) (v:=pT pb) (λhcl=>?_)
   refine tq (i:=2) (v:=pT pb) (λhcl=>?_)
   refine tq (i:=3) (v:=pT L.br) (λhcl=>?_)
   refine tq (i:=4) (v:=pT (L.eb X)) (λhcl=>?_)
   refine tq (i:=5) (v:=pT (L.eb y)) (λhcl=>?_)
   refine tq (i:=7) (v:=pT (L.eb y)) (λhcl=>?_)
   refine tq (i:=8) (v:=pT (L.eb y)) (λhcl=>?_)
   refine tq (i:=9) (v:=pT (L.eb y)) (λhcl=>?_)
   refine tq (i:=10) (v:=.pointer (some (aD (L.eb y) 2))) (λhcl=>?_)
   refine tq (i:=11) (v:=iV wt) (λhcl=>?_)
   refine Qo (i:=6) (by kernel_rfl) hcl (λhcl=>wpOpIn_step rfl (λK hK=>?_))
   go_simp
   refine⟨trivial,(callsIn_wide.2 HC8.o).mono ?_⟩
   rintro e7 w7 ⟨rfl,hx7⟩
   have HS7:Z ((λq=>q.cell? (aD pb 0)=some (pT L.br)/\q.cell? (aD (L.eb y) 2)=some (iV wt)) w7):=⟨Q1 hx7 HSS.o.1,Q1 hx7 HSS.o.2⟩
   have HX7:Z (Nx w w7):=HX8.o.trans hx7
   have HO7:=Q2 (V7 HO8.o hx7)
   clear hx7 HSS HC8 HO8
   have HSS:=HS7
   refine hK _ _ ⟨oR HSS.o,?_⟩
   clear hK K HS7
   refine Qf (i:=12) (v:=iV (tc+wt)) hw (by decide) hcl (Qa rfl) rfl (by kernel_rfl) (by kernel_rfl) (by kernel_rfl) (λ_ _ _ h=>h) ⟨oL ⟨by kernel_rfl,?y12⟩,λ_=>rfl⟩ HSS.o (λhcl=>?_)
   case y12=>
    rintro q ⟨c1,c2⟩
    go_simp
    exact Go.IntWalk.i64_in _ ⟨by omega,by omega⟩
   refine Qg (i:=13) (by kernel_rfl) (wpOpIn_step rfl (λK hK=>?_))
   go_simp
   refine hK _ _ ⟨oL (by decide),?_⟩
   clear hK K
   refine Qm (by kernel_rfl) ?_ _
   clear hw hcl HSS HX8
   generalize tc+wt=ct at *
   go_upto_region 9 with fail
   have hxd:Nx w7 w7.drew:=(Below.refl _ _).drew
   have HX8:Z (Nx w w7.drew):=HX7.o.trans hxd
   have HSS:Z ((λq=>q.cell? (aD (L.eb y) 7)=some (iV (y:Int))/\q.cell? (aD (bl z) 0)=some (iV (z:Int))) w7.drew):=⟨Q1 HX8.o HY7.o,Q1 HX8.o HNZ.o⟩
   have HO8:=Q2 (V7 HO7.o hxd)
   refine(wpIn_wide (n:=9)).1 ?_
   refine Qj (c:=14) (S:=λq=>q.cell? (aD (L.eb y) 7)=some (iV (y:Int))/\q.cell? (aD (bl z) 0)=some (iV (z:Int))) hmx (by kernel_rfl) (λhw hcl=>?_)
   clear hxd
   generalize w7.drew=wd at *
   refine tq (i:=0) (v:=sL aa q ac) (λhcl=>?_)
   refine tq (i:=1) (v:=pT (L.eb y)) (λhcl=>?_)
   refine tq (i:=2) (v:=pT (L.eb y)) (λhcl=>?_)
   refine tq (i:=3) (v:=.pointer (some (aD (L.eb y) 7))) (λhcl=>?_)
   refine tq (i:=4) (v:=iV (y:Int)) (λhcl=>?_)
   refine tq (i:=5) (v:=pT (bl z)) (λhcl=>?_)
   refine tq (i:=6) (v:=pT (bl z)) (λhcl=>?_)
   refine tq (i:=7) (v:=pT (bl z)) (λhcl=>?_)
   refine tq (i:=8) (v:=iV (z:Int)) (λhcl=>?_)
   refine tq (i:=9) (v:=.agg #[iV (y:Int),iV (z:Int)]) (λhcl=>?_)
   refine tq (i:=10) (v:=iV ct) (λhcl=>?_)
   refine tq (i:=11) (v:=.agg #[iV (y:Int),iV (z:Int),iV ct]) (λhcl=>?_)
   refine Qo (i:=12) (by kernel_rfl) hcl (λhcl=>wpOpIn_step rfl (λK hK=>?_))
   go_simp
   refine hK _ _ ⟨oR ⟨Q1 (Q4 _ _) HSS.o.1,Q1 (Q4 _ _) HSS.o.2⟩,?_⟩
   clear hK K
   refine Qo (i:=13) (by kernel_rfl) hcl (λhcl=>wpOpIn_step rfl (λK hK=>?_))
   refine Q7c rfl (.tmp 68) (.tmp 80) rfl w.heap.size q (sL aa q ac) ((fL (stA A) (s:Int) (l.take (j))).map (λu=>(u,Vz N (E1 N) ((X:Int),(s:Int)) u))) (((y:Int),(z:Int)),ct) wd _ rfl (by simp[Act.eval]) HO8.o (by simp[Act.eval]) HLN.o (by omega) HX8.o.size ?_
   intro na nc wx e1 e2 e3
   have HXE:Z (Nx w wx):=Below.trans HX8.o (e2.below HX8.o.size (λx hx=>(Q5 HO8.o x hx.symm).1))
   have HO9:=Q2 e1
   clear e1 e2 e3 HSS
   have HSS:Z ((λq=>q.cell? (aD (L.eb y) 7)=some (iV (y:Int))/\q.cell? (aD (bl z) 0)=some (iV (z:Int))) wx):=⟨Q1 HXE.o HY7.o,Q1 HXE.o HNZ.o⟩
   refine hK _ _ ⟨oR HSS.o,?_⟩
   clear hK K
   refine Qg (i:=14) (by kernel_rfl) (wpOpIn_step rfl (λK hK=>?_))
   go_simp
   refine hK _ _ ⟨oL (by decide),?_⟩
   clear hK K
   refine Qm (by kernel_rfl) ?_ _
   clear hw hcl HSS
   go_wp2
   go_roundw
   case rel=>exact⟨j+1,q+1,nc,na,by omega,by omega,by go_num,rfl,by unfold Z;rw[HEN.o];simpa using HLN.o,by rw[HEN.o];exact HO9.o,HXE⟩
   case measure=>simp[intOf];omega
 have ej:j=m:=by omega
 subst ej
 have hlt0:¬(j:Int)<j:=by omega
 have HF:Z (((fL (stA A) (s:Int) (l.take (j))).map (λu=>(u,Vz N (E1 N) ((X:Int),(s:Int)) u)))=(nxV (E1 N) (stA A) ((X:Int),(s:Int))).map (λu=>(u,Vz N (E1 N) ((X:Int),(s:Int)) u))):=by unfold Z;rw[<-HM.o,zU,HNX.o]
 go_wp2
 go_ret
 exact⟨⟨_,_,_,rfl,by rw[<-HF.o];exact HO.o⟩,HX.o⟩
theorem Qam {F:Fence}{n:Nat}{P:Program}{ops:Array Oper}{Q:Exit->Act->World->Prop}{md:Region.Mode}{S:World->Prop}{c i j fuel:Nat}{listed:Array Bool}{a:Act}{w:World}(hr:Region.ready md ops listed=[i,j])(hcl:Cl md ops listed)(h1:Cl md ops (listed.setIfInBounds i true)->wpOpIn F n P ops Q i (λa' w'=>(c<=i\/S w')/\V2 F n P md ops Q S c fuel (listed.setIfInBounds i true) a' w') a w)(h2:Cl md ops (listed.setIfInBounds j true)->wpOpIn F n P ops Q j (λa' w'=>(c<=j\/S w')/\V2 F n P md ops Q S c fuel (listed.setIfInBounds j true) a' w') a w):V2 F n P md ops Q S c (fuel+1) listed a w:=
 ⟨λh0=>absurd (hr▸h0) (by simp),λx hx=>by
  rw[hr] at hx
  simp at hx
  rcases hx with rfl|rfl
  ·exact h1 (hcl.step (by rw[hr];simp))
  ·exact h2 (hcl.step (by rw[hr];simp))⟩
theorem Qh2:(prog.info? 136).map (λi=>(i.zero,i.size,i.bytes))=some (some sN,1,24):=by kernel_rfl
theorem Qg9 (n:Nat)(h:n<=2000)(w:World):(Instr.makeSlice 163 (iV (n:Int)) (iV (n:Int))).run prog w=.ok (sL (sA w.heap.size) n n) (w.alloc (.cells (madeCells #[sN] n) 136)):=by
 obtain⟨i,hi,hz,hs,hb⟩:=info_parts Qh2
 have hb':(i.bytes:Int)*(n:Int)<=281474976710656:=by rw[hb];omega
 have hr:=run_make (P:=prog) w 163 136 i _ underlying163 hi hz .i64 .i64 n n (by omega) (Int.le_refl _) hb' (by omega)
 simp only[zX,hs,Nat.mul_one] at hr
 exact hr
theorem Qg8 (w:World)(n:Int):(Instr.makeMap 164 (some (iV n))).run prog w=.ok (.map (some w.heap.size)) (w.alloc (.map #[] 0)):=by kernel_rfl
theorem VM.made (w:World){b:Nat}(hb:b=w.heap.size):VM (w.alloc (.map #[] 0)) b [] (λ_=>0):=⟨#[],0,by subst hb;show(w.heap.push _)[w.heap.size]?=_;simp,rfl,by simp,by simp⟩
theorem Lvs.made {C n b:Nat}(w:World)(eb:Nat->Nat){es:List Eg}(hb:b=w.heap.size)(hC:C<=w.heap.size)(hn:n<=2000):Lvs C (w.alloc (.cells (madeCells #[sN] n) 136)) (sL (sA b) n n) n es 0 eb (λ_=>sN):=by
 subst hb
 refine⟨?_,λv hv=>⟨rfl,oL ⟨rfl,rfl⟩⟩,λi j g _ _ _ h=>by simp[Value.ownBlock] at h⟩
 have h:=World.ownsRow_lit (base:=C) (e:=136) (size:=1) w (madeCells #[sN] n) n hC (by simp[maxLen];omega) (by rw[size_madeCells,Nat.mul_one])
 have e:(madeCells #[sN] n).toList=(List.range n).flatMap (λ_=>[sN]):=by
  unfold madeCells
  rw[Array.toList_map,Array.toList_range]
  generalize List.range n=l
  induction l with
  |nil=>rfl
  |cons x l ih=>rw[List.map_cons,ih,List.flatMap_cons];simp[Nat.mod_one]
 rw[<-e]
 exact h
theorem Qd7 {n t:Nat}{us:Nat->Value}(v:Value):((List.range n).flatMap (λi=>[us i])).set t v=(List.range n).flatMap (λi=>[if i=t then v else us i]):=by
 have e:∀(f:Nat->Value) (l:List Nat),l.flatMap (λi=>[f i])=l.map f:=λf l=>by
  induction l with
  |nil=>rfl
  |cons x l ih=>rw[List.flatMap_cons,ih];rfl
 rw[e,e]
 apply List.ext_getElem?
 intro i
 rw[List.getElem?_set,yD,yD]
 by_cases h:t=i
 ·subst h
  rw[if_pos rfl]
  by_cases g:t<n
  ·simp[g]
  ·simp[g]
 ·rw[if_neg h]
  by_cases g:i<n
  ·simp[g];exact λc=>absurd c.symm h
  ·simp[g]
theorem Lvs.put {C nn t k gl c:Nat}{w w1:World}{es:List Eg}{eb:Nat->Nat}{us:Nat->Value}{v:Value}(h:Lvs C w (sL (sA gl) nn c) nn es k eb us)(ht:t<nn)(he:(eat es k).tail=(t:Int))(ho:Jg C w1 v ((lvT es (t:Int) k).map eb++[eb k]))(hc:Chg (λx=>some x=(us t).ownBlock) w w1)(ha:∀g,v.ownBlock=some g->(us t).ownBlock=some g\/w.heap.size<=g) :
  Lvs C (w1.setCell (aD gl t) v) (sL (sA gl) nn c) nn es (k+1) eb (λi=>if i=t then v else us i):=by
 obtain⟨cg,hgb⟩:=U4 h.row (show(sL (sA gl) nn c).ownBlock=some gl from rfl)
 have hg1:BT w1 gl cg 136:=hgb.chg hc (λc=>hgb.neRow (h.each t ht) (by decide) c)
 have hr1:=Qs h.row hc (λg hg c=>by obtain⟨cs,hb⟩:=U4 h.row hg;exact hb.neRow (h.each t ht) (by decide) c)
 refine⟨?_,λi hi=>?_,λi j g hi hj hn hg=>?_⟩
 ·rw[<-Qd7]
  exact(hr1.stored t v).1
 ·rw[Q4d]
  by_cases e:i=t
  ·subst e
   rw[if_pos rfl,if_pos he,yL]
   exact Xd ho hg1 (by decide) _ _
  ·rw[if_neg e,if_neg (by rw[he];omega),List.append_nil]
   exact Xd (Q7z (h.each i hi) (λg hg=>h.apart t i g ht hi (λc=>e c.symm) hg) hc) hg1 (by decide) _ _
 ·by_cases ei:i=t
  ·have ej:j≠t:=λc=>hn (ei.trans c.symm)
   simp only[if_pos ei] at hg
   simp only[if_neg ej]
   rcases ha g hg with a|a
   ·exact h.apart t j g ht hj (λc=>ej c.symm) a
   ·intro c
    have:=(Q5 (h.each j hj) g c).2
    omega
  ·simp only[if_neg ei] at hg
   by_cases ej:j=t
   ·simp only[if_pos ej]
    intro c
    rcases ha g c with a|a
    ·exact h.apart i t g hi ht ei hg a
    ·have:=(Q5 (h.each i hi) g hg).2
     omega
   ·simp only[if_neg ej]
    exact h.apart i j g hi hj hn hg
def NewP (N:Nt)(L:Lk)(sv:Value)(w w':World)(r:Ending):Prop:=(∃pb mb lv us,r=.returned (pT pb)/\BT w' pb #[pT L.br,sv,lv,.map (some mb),sN,iV 0,sN] 170/\Lvs w.heap.size w' lv N.nodes.length (E1 N) (E1 N).length L.eb us/\VM w' mb [] (λ_=>0)/\w.heap.size<=pb/\w.heap.size<=mb)/\Nx w w'
theorem Ek (N:Nt)(A:Au)(F:SF N A)(C B D:Nat)(L:Lk)(sv:Value)(bl:Nat->Nat)(fl mv:Nat->Value)(w:World)(hS:Sta N A w C B D L sv bl fl mv)(h0:∃a c,L.v0=sL a N.nodes.length c) :
  Calls prog 35 #[pT L.br,sv] w λr w'=>NewP N L sv w w' r:=by
 obtain⟨gs,sc,hsv,-⟩:=hS.state F.p
 subst hsv
 obtain⟨a0,c0,hv0⟩:=h0
 obtain⟨ae,ce,hve⟩:=Q7 hS.lr.all
 rw[zG,zY] at hve
 have HVE0:Z (L.ve=.slice ae (E1 N).length ce):=hve
 have hr0:=hS.lr.road.c 0 rfl
 have hr5:=hS.lr.road.c 5 rfl
 rw[hv0] at hr0
 rw[hve] at hr5
 have hnn:=(Jz F.hv).c0
 have hmm:=F.m
 generalize hgn:N.nodes.length=nn at *
 generalize hgm:(E1 N).length=m at *
 have HNN:Z (nn=N.nodes.length):=hgn.symm
 have HM:Z (m=(E1 N).length):=hgm.symm
 have HVE:Z (L.ve=sL ae m ce):=HVE0
 generalize A.pa.length=sn at *
 have HR0:Z (w.cell? (aD L.br 0)=some (sL a0 nn c0)):=hr0
 have HR5:Z (w.cell? (aD L.br 5)=some (sL ae m ce)):=hr5
 have HS:=Q2 hS
 have hmx:prog.follows .mixedOrders=true:=by kernel_rfl
 have hnn':(nn:Int)<=2000:=by omega
 clear hS hr0 hr5 hv0 hve hgn hgm HVE0
 go_enter func35,ntmps35
 go_upto_region 1 with fail
 have hxd:Nx w w.drew:=(Below.refl _ _).drew
 have HXD:Z (Nx w w.drew):=hxd
 have HSS:Z ((λq=>q.cell? (aD L.br 0)=some (sL a0 nn c0)/\q.cell? (aD L.br 5)=some (sL ae m ce)) w.drew):=⟨Q1 hxd HR0.o,Q1 hxd HR5.o⟩
 clear hxd
 refine(wpIn_wide (n:=9)).1 ?_
 refine Qj (c:=17) (S:=λq=>q.cell? (aD L.br 0)=some (sL a0 nn c0)/\q.cell? (aD L.br 5)=some (sL ae m ce)) hmx (by kernel_rfl) (λhw hcl=>?_)
 generalize w.drew=wd at *
 refine tq (i:=0) (v:=pT L.br) (λhcl=>?_)
 refine tq (i:=1) (v:=sL (sA gs) sn sc) (λhcl=>?_)
 refine tq (i:=2) (v:=pT L.br) (λhcl=>?_)
 refine tq (i:=3) (v:=pT L.br) (λhcl=>?_)
 refine tq (i:=4) (v:=pT L.br) (λhcl=>?_)
 refine tq (i:=5) (v:=pT L.br) (λhcl=>?_)
 refine tq (i:=6) (v:=sL a0 nn c0) (λhcl=>?_)
 refine tq (i:=7) (v:=iV (nn:Int)) (λhcl=>?_)
 refine tq (i:=9) (v:=pT L.br) (λhcl=>?_)
 refine tq (i:=10) (v:=pT L.br) (λhcl=>?_)
 refine tq (i:=11) (v:=.pointer (some (aD L.br 5))) (λhcl=>?_)
 refine tq (i:=12) (v:=sL ae m ce) (λhcl=>?_)
 refine tq (i:=13) (v:=iV (m:Int)) (λhcl=>?_)
 refine Qam (i:=8) (j:=14) (by kernel_rfl) hcl (λhcl=>wpOpIn_step rfl (λK hK=>?o1)) (λhcl=>wpOpIn_step rfl (λK hK=>?o2))
 case' o1=>
  go_simp
  rw[Qg9 nn hnn]
  have HS1:Z ((λq=>q.cell? (aD L.br 0)=some (sL a0 nn c0)/\q.cell? (aD L.br 5)=some (sL ae m ce)) (wd.alloc (.cells (madeCells #[sN] nn) 136))):=⟨Q1 (Q4 _ _) HSS.o.1,Q1 (Q4 _ _) HSS.o.2⟩
  refine hK _ _ ⟨oR HS1.o,?_⟩
  clear hK K
  refine Qo (i:=14) (by kernel_rfl) hcl (λhcl=>wpOpIn_step rfl (λK hK=>?_))
  go_simp
  rw[Qg8]
  have HS2:Z ((λq=>q.cell? (aD L.br 0)=some (sL a0 nn c0)/\q.cell? (aD L.br 5)=some (sL ae m ce)) ((wd.alloc (.cells (madeCells #[sN] nn) 136)).alloc (.map #[] 0))):=⟨Q1 (Q4 _ _) HS1.o.1,Q1 (Q4 _ _) HS1.o.2⟩
  refine hK _ _ ⟨oR HS2.o,?_⟩
  clear hK K HSS HS1
  have HSS:=HS2
  clear HS2
  rw[Q3]
  have HVM0:Z (VM ((wd.alloc (.cells (madeCells #[sN] nn) 136)).alloc (.map #[] 0)) (wd.heap.size+1) [] (λ_=>0)):=VM.made _ (by rw[Q3])
  have HLV0:Z (Lvs w.heap.size ((wd.alloc (.cells (madeCells #[sN] nn) 136)).alloc (.map #[] 0)) (sL (sA wd.heap.size) nn nn) nn (E1 N) 0 L.eb (λ_=>sN)):=(Lvs.made wd _ rfl HXD.o.size hnn).next (Q4 _ _)
  have HXM:Z (Nx w ((wd.alloc (.cells (madeCells #[sN] nn) 136)).alloc (.map #[] 0))):=HXD.o.trans ((Q4 _ _).trans (Q4 _ _))
  have HGE:Z (w.heap.size<=(wd.heap.size+1)):=by have:=HXD.o.size;unfold Z;omega
  generalize (wd.alloc (.cells (madeCells #[sN] nn) 136)).alloc (.map #[] 0)=w2 at *
  generalize hgl:wd.heap.size=gl at *
  generalize hmb:gl+1=mb at *
  refine Qo (i:=15) (by kernel_rfl) hcl (λhcl=>wpOpIn_step rfl (λK hK=>?_))
  go_simp
  refine hK _ _ ⟨oR HSS.o,?_⟩
  clear hK K
  refine Qo (i:=16) (by kernel_rfl) hcl (λhcl=>wpOpIn_step rfl (λK hK=>?_))
  go_simp
  refine hK _ _ ⟨oR ⟨Q1 (Q4 _ _) HSS.o.1,Q1 (Q4 _ _) HSS.o.2⟩,?_⟩
  clear hK K
  refine Qg (i:=17) (by kernel_rfl) (wpOpIn_step rfl (λK hK=>?_))
  go_simp
  refine hK _ _ ⟨oL (by decide),?_⟩
  clear hK K
  refine Qm (by kernel_rfl) ?_ _
  clear hw hcl HSS
 case' o2=>
  go_simp
  rw[Qg8]
  have HS1:Z ((λq=>q.cell? (aD L.br 0)=some (sL a0 nn c0)/\q.cell? (aD L.br 5)=some (sL ae m ce)) (wd.alloc (.map #[] 0))):=⟨Q1 (Q4 _ _) HSS.o.1,Q1 (Q4 _ _) HSS.o.2⟩
  refine hK _ _ ⟨oR HS1.o,?_⟩
  clear hK K
  refine Qo (i:=8) (by kernel_rfl) hcl (λhcl=>wpOpIn_step rfl (λK hK=>?_))
  go_simp
  rw[Qg9 nn hnn]
  have HS2:Z ((λq=>q.cell? (aD L.br 0)=some (sL a0 nn c0)/\q.cell? (aD L.br 5)=some (sL ae m ce)) ((wd.alloc (.map #[] 0)).alloc (.cells (madeCells #[sN] nn) 136))):=⟨Q1 (Q4 _ _) HS1.o.1,Q1 (Q4 _ _) HS1.o.2⟩
  refine hK _ _ ⟨oR HS2.o,?_⟩
  clear hK K HSS HS1
  have HSS:=HS2
  clear HS2
  rw[Q3]
  have HVM0:Z (VM ((wd.alloc (.map #[] 0)).alloc (.cells (madeCells #[sN] nn) 136)) wd.heap.size [] (λ_=>0)):=(VM.made wd rfl).next (Q4 _ _)
  have HLV0:Z (Lvs w.heap.size ((wd.alloc (.map #[] 0)).alloc (.cells (madeCells #[sN] nn) 136)) (sL (sA (wd.heap.size+1)) nn nn) nn (E1 N) 0 L.eb (λ_=>sN)):=Lvs.made _ _ (by rw[Q3]) (zP HXD.o.size (Q4 _ _).size) hnn
  have HXM:Z (Nx w ((wd.alloc (.map #[] 0)).alloc (.cells (madeCells #[sN] nn) 136))):=HXD.o.trans ((Q4 _ _).trans (Q4 _ _))
  have HGE:Z (w.heap.size<=wd.heap.size):=by have:=HXD.o.size;unfold Z;omega
  generalize (wd.alloc (.map #[] 0)).alloc (.cells (madeCells #[sN] nn) 136)=w2 at *
  generalize hmb:wd.heap.size=mb at *
  generalize hgl:mb+1=gl at *
  refine Qo (i:=15) (by kernel_rfl) hcl (λhcl=>wpOpIn_step rfl (λK hK=>?_))
  go_simp
  refine hK _ _ ⟨oR HSS.o,?_⟩
  clear hK K
  refine Qo (i:=16) (by kernel_rfl) hcl (λhcl=>wpOpIn_step rfl (λK hK=>?_))
  go_simp
  refine hK _ _ ⟨oR ⟨Q1 (Q4 _ _) HSS.o.1,Q1 (Q4 _ _) HSS.o.2⟩,?_⟩
  clear hK K
  refine Qg (i:=17) (by kernel_rfl) (wpOpIn_step rfl (λK hK=>?_))
  go_simp
  refine hK _ _ ⟨oL (by decide),?_⟩
  clear hK K
  refine Qm (by kernel_rfl) ?_ _
  clear hw hcl HSS
 all_goals
  have HPB:Z (BT (w2.alloc (.cells #[pT L.br,sL (sA gs) sn sc,sL (sA gl) nn nn,.map (some mb),sN,iV 0,sN] 170)) w2.heap.size #[pT L.br,sL (sA gs) sn sc,sL (sA gl) nn nn,.map (some mb),sN,iV 0,sN] 170):=BT.new _ _ _ _ rfl
  have HVM:=Q2 (HVM0.o.next (Q4 w2 (.cells #[pT L.br,sL (sA gs) sn sc,sL (sA gl) nn nn,.map (some mb),sN,iV 0,sN] 170)))
  have HLV:=Q2 (HLV0.o.next (Q4 w2 (.cells #[pT L.br,sL (sA gs) sn sc,sL (sA gl) nn nn,.map (some mb),sN,iV 0,sN] 170)))
  have HX2:Z (Nx w (w2.alloc (.cells #[pT L.br,sL (sA gs) sn sc,sL (sA gl) nn nn,.map (some mb),sN,iV 0,sN] 170))):=HXM.o.trans (Q4 _ _)
  have HPG:Z (w.heap.size<=w2.heap.size):=HXM.o.size
  have HWD:Z (w.heap.size<=mb):=HGE
  clear HVM0 HLV0 HXM HGE
  generalize w2.alloc (.cells #[pT L.br,sL (sA gs) sn sc,sL (sA gl) nn nn,.map (some mb),sN,iV 0,sN] 170)=w3 at *
  generalize w2.heap.size=pb at *
  have y5:w3.cell? (aD L.br 5)=some (sL ae m ce):=Q1 HX2.o HR5.o
  go_wp2
  clear y5
  go_loopw [30] (λs30 wr=>∃(k:Nat) (us:Nat->Value),k<=m/\s30=iV k/\Z (BT wr pb #[pT L.br,sL (sA gs) sn sc,sL (sA gl) nn nn,.map (some mb),sN,iV 0,sN] 170)/\Z (Lvs w.heap.size wr (sL (sA gl) nn nn) nn (E1 N) k L.eb us)/\Z (VM wr mb [] (λ_=>0))/\Z (Nx w wr)) (λi _=>m-(intOf i).toNat)
  case atStart=>exact⟨0,_,nZ,rfl,HPB,HLV,HVM,HX2⟩
  clear HPB HLV HVM HX2
  obtain⟨k,us,hkm,rfl,HPB,HLV,HVM,HX⟩:=hrel
  by_cases hlt:k<m
  ·have hlt':(k:Int)<m:=by omega
   have hkE:k<(E1 N).length:=by have:=HM.o;omega
   obtain⟨ge,ce',ee,-,-,hrw⟩:=HS.o.lr.all.open (by simp;omega)
   rw[zG,zY,HVE.o] at ee
   rw[zG,zY] at hrw
   simp only[zC] at ee
   obtain⟨rfl,-,rfl⟩:=ee
   have kx0:=hrw.cell hkE
   rw[show((List.range (E1 N).length).map L.eb).getD k 0=L.eb k by simp[List.getD_eq_getElem?_getD,hkE]] at kx0
   have kx:=Q1 HX.o kx0
   have htl:=Q95 (Jz F.hv) hkE
   obtain⟨t,et⟩:∃t:Nat,(eat (E1 N) k).tail=(t:Int):=⟨_,(Int.toNat_of_nonneg htl.1).symm⟩
   have htn:t<nn:=by have:=HNN.o;rw[et] at htl;omega
   have hti:(t:Int)<nn:=by omega
   have HET:Z ((eat (E1 N) k).tail=(t:Int)):=et
   have HE0:Z (w.cell? (aD (L.eb k) 0)=some (iV (t:Int))):=by rw[<-et];exact(HS.o.lr.edge k hkE).c 0 rfl
   obtain⟨gl',c',e',-,hut⟩:=HLV.o.at htn
   simp only[zC,Option.some.injEq,Addr.mk.injEq] at e'
   obtain⟨⟨rfl,-⟩,-,rfl⟩:=e'
   have HUT:=Q2 hut
   have HOT:=Q2 (HLV.o.each t htn)
   obtain⟨ua,uc,hus⟩:=Q7 HOT.o
   obtain⟨um,hum⟩:∃um,((lvT (E1 N) (t:Int) k).map L.eb).length=um:=⟨_,rfl⟩
   rw[hum] at hus
   have huml:um<=4000:=by rw[<-hum,zG];have:=Q87 (E1 N) (t:Int) k;omega
   have HUS:Z (us t=sL ua um uc):=hus
   rw[HUS.o] at HUT HOT
   have HUM:Z (((lvT (E1 N) (t:Int) k).map L.eb).length=um):=hum
   clear hrw kx0 hut hus hum et htl
   go_upto_region 5 with fail
   clear kx
   have hxd:Nx wr wr.drew:=(Below.refl _ _).drew
   have HXE:Z (Nx w wr.drew):=HX.o.trans hxd
   have HSS:Z ((λq=>q.cell? (aD pb 2)=some (sL (sA gl) nn nn)/\q.cell? (aD (L.eb k) 0)=some (iV (t:Int))/\q.cell? (aD gl t)=some (sL ua um uc)) wr.drew):=⟨(HPB.o.next hxd).c 2 rfl,Q1 HXE.o HE0.o,Q1 hxd HUT.o⟩
   have HPBd:=Q2 (HPB.o.next hxd)
   have HLVd:=Q2 (HLV.o.next hxd)
   have HVMd:=Q2 (HVM.o.next hxd)
   have HOTd:Z (Jg w.heap.size wr.drew (sL ua um uc) ((lvT (E1 N) (t:Int) k).map L.eb)):=V7 HOT.o hxd
   have HXd:Z (Nx w wr.drew):=HX.o.trans hxd
   clear hxd
   refine(wpIn_wide (n:=9)).1 ?_
   refine Qj (c:=24) (S:=λq=>q.cell? (aD pb 2)=some (sL (sA gl) nn nn)/\q.cell? (aD (L.eb k) 0)=some (iV (t:Int))/\q.cell? (aD gl t)=some (sL ua um uc)) hmx (by kernel_rfl) (λhw hcl=>?_)
   generalize wr.drew=ws at *
   refine tq (i:=0) (v:=pT pb) (λhcl=>?_)
   refine tq (i:=1) (v:=pT pb) (λhcl=>?_)
   refine tq (i:=2) (v:=.pointer (some (aD pb 2))) (λhcl=>?_)
   refine tq (i:=3) (v:=sL (sA gl) nn nn) (λhcl=>?_)
   refine tq (i:=4) (v:=pT (L.eb k)) (λhcl=>?_)
   refine tq (i:=5) (v:=pT (L.eb k)) (λhcl=>?_)
   refine tq (i:=6) (v:=pT (L.eb k)) (λhcl=>?_)
   refine tq (i:=7) (v:=pT (L.eb k)) (λhcl=>?_)
   refine tq (i:=8) (v:=iV (t:Int)) (λhcl=>?_)
   refine tq (i:=9) (v:=pT pb) (λhcl=>?_)
   refine tq (i:=10) (v:=pT pb) (λhcl=>?_)
   refine tq (i:=11) (v:=.pointer (some (aD pb 2))) (λhcl=>?_)
   refine tq (i:=12) (v:=sL (sA gl) nn nn) (λhcl=>?_)
   refine tq (i:=13) (v:=pT (L.eb k)) (λhcl=>?_)
   refine tq (i:=14) (v:=pT (L.eb k)) (λhcl=>?_)
   refine tq (i:=15) (v:=pT (L.eb k)) (λhcl=>?_)
   refine tq (i:=16) (v:=pT (L.eb k)) (λhcl=>?_)
   refine tq (i:=17) (v:=iV (t:Int)) (λhcl=>?_)
   refine tq (i:=18) (v:=.pointer (some (aD gl t))) (λhcl=>?_)
   refine tq (i:=19) (v:=sL ua um uc) (λhcl=>?_)
   refine tq (i:=20) (v:=pT (L.eb k)) (λhcl=>?_)
   refine Qo (i:=21) (by kernel_rfl) hcl (λhcl=>wpOpIn_step rfl (λK hK=>?_))
   go_simp
   refine hK _ _ ⟨oR ⟨Q1 (Q4 _ _) HSS.o.1,Q1 (Q4 _ _) HSS.o.2.1,Q1 (Q4 _ _) HSS.o.2.2⟩,?_⟩
   clear hK K
   refine Qo (i:=22) (by kernel_rfl) hcl (λhcl=>wpOpIn_step rfl (λK hK=>?_))
   refine Us Q2g underlying136 rfl (by decide) (by decide) rfl (.tmp 53) (.tmp 55) rfl w.heap.size um (sL ua um uc) (ptc ((lvT (E1 N) (t:Int) k).map L.eb)) [pT (L.eb k)] ws _ rfl (by simp[Act.eval]) (by have h:=HOTd.o;unfold Jg at h;rw[HUM.o] at h;exact h) (by simp[Act.eval]) rfl (by intro u hu;simp at hu;subst hu;rfl) (by omega) HXd.o.size ?_
   intro na nc wx e1 e2 e3
   have HO9:Z (Jg w.heap.size wx (sL na (um+1) nc) ((lvT (E1 N) (t:Int) k).map L.eb++[L.eb k])):=Jg.snoc (by rw[HUM.o];exact e1)
   have HC9:Z (Chg (λx=>some x=(us t).ownBlock) ws wx):=by rw[HUS.o];exact e2
   have HA9:Z (∀g,(sL na (um+1) nc).ownBlock=some g->(us t).ownBlock=some g\/ws.heap.size<=g):=by rw[HUS.o];exact e3
   clear e1 e2 e3
   have HPX:Z (BT wx pb #[pT L.br,sL (sA gs) sn sc,sL (sA gl) nn nn,.map (some mb),sN,iV 0,sN] 170):=HPBd.o.chg HC9.o (λc=>HPBd.o.neRow (HLVd.o.each t htn) (by decide) c)
   have HVX:Z (VM wx mb [] (λ_=>0)):=HVMd.o.chg HC9.o (λc=>HVMd.o.noBT (U4 (HLVd.o.each t htn) (Eq.symm c) |>.elim λcs h=>⟨cs,_,h⟩))
   have HLX:=Q2 (HLVd.o.put htn HET.o HO9.o HC9.o HA9.o)
   obtain⟨cg,hgb⟩:=U4 HLVd.o.row (show(sL (sA gl) nn nn).ownBlock=some gl from rfl)
   have HGX:Z (BT wx gl cg 136):=hgb.chg HC9.o (λc=>hgb.neRow (HLVd.o.each t htn) (by decide) c)
   have HXX:Z (Nx w wx):=Below.trans HXd.o (HC9.o.below HXd.o.size (λx hx=>(Q5 (HLVd.o.each t htn) x hx.symm).1))
   have hglt:gl<ws.heap.size:=hgb.lt
   have HU9:Z (wx.cell? (aD gl t)=some (sL ua um uc)):=HC9.o.cellO HSS.o.2.2 (λc=>hgb.neRow (HLVd.o.each t htn) (by decide) c)
   have HSS9:Z ((λq=>q.cell? (aD pb 2)=some (sL (sA gl) nn nn)/\q.cell? (aD (L.eb k) 0)=some (iV (t:Int))/\q.cell? (aD gl t)=some (sL ua um uc)) wx):=⟨HPX.o.c 2 rfl,Q1 HXX.o HE0.o,HU9.o⟩
   clear HSS
   have HSS:=HSS9
   refine hK _ _ ⟨oR HSS.o,?_⟩
   clear hK K HSS9
   refine tq (i:=23) (v:=.pointer (some (aD gl t))) (λhcl=>?_)
   have z0:=HU9.o
   have z1:=HGX.o.blk.frozen t
   refine Qg (i:=24) (by kernel_rfl) (wpOpIn_step rfl (λK hK=>?_))
   go_simp
   refine hK _ _ ⟨oL (by decide),?_⟩
   clear hK K
   refine Qm (by kernel_rfl) ?_ _
   clear hw hcl HSS z0 z1
   have HPF:=Q2 (HPX.o.setOther (g:=gl) (HPX.o.ne HGX.o (by decide)) t (sL na (um+1) nc))
   have HVF:Z (VM (wx.setCell (aD gl t) (sL na (um+1) nc)) mb [] (λ_=>0)):=HVX.o.chg (Chg.set (S:=λx=>x=gl) _ _ _ rfl) (λe=>HVX.o.noBT ⟨cg,_,by have e':mb=gl:=e;rw[e'];exact HGX.o⟩)
   have HXF:Z (Nx w (wx.setCell (aD gl t) (sL na (um+1) nc))):=Below.trans HXX.o ((Chg.set (S:=λx=>x=gl) (w:=wx) gl t (sL na (um+1) nc) rfl).below HXX.o.size (λx e=>by have e':x=gl:=e;rw[e'];exact(Q5 HLVd.o.row gl rfl).1))
   generalize wx.setCell (aD gl t) (sL na (um+1) nc)=wy at *
   go_wp2
   go_roundw
   case rel=>exact⟨k+1,_,by omega,by go_num,HPF,HLX,HVF,HXF⟩
   case measure=>simp[intOf];omega
  have ek:k=m:=by omega
  subst ek
  have hlt0:¬(k:Int)<k:=by omega
  go_wp2
  refine bodyPost_ret (v:=pT pb) (by simp[results,results35,go_sem]) rfl ?_
  exact⟨⟨pb,mb,_,us,rfl,HPB.o,by rw[<-HNN.o,<-HM.o];exact HLV.o,HVM.o,HPG.o,HWD.o⟩,HX.o⟩
def Ej (x:Vx×Value):List Value:=[iV x.1.1,iV x.1.2,x.2]
structure Fnd (C:Nat)(w:World)(fv:Value)(ar:Vx->List Ax)(l:List (Vx×Value)):Prop where
 row:w.ownsRow C 182 3 fv l.length (l.flatMap Ej)
 each:∀x∈l,Ap C w x.2 (ar x.1)
def Odd (w:World)(b:Nat):Prop:=∀cs t,BT w b cs t->t≠136/\t≠143/\t≠180/\t≠182
theorem BT.type {w:World}{b t u:Nat}{cs ds:Array Value}(h:BT w b cs t)(k:BT w b ds u):t=u:=by
 have h':w.heap[b]?=some (.cells cs t (0,0)):=h
 have k':w.heap[b]?=some (.cells ds u (0,0)):=k
 rw[h'] at k'
 simp only[Option.some.injEq,Obj.cells.injEq] at k'
 exact k'.2.1
theorem Odd.of {w:World}{b t:Nat}{cs:Array Value}(h:BT w b cs t)(ht:t≠136/\t≠143/\t≠180/\t≠182):Odd w b:=λds u k=>by rw[<-h.type k];exact ht
theorem VM.odd {w:World}{b:Nat}{ks:List Vx}{f:Vx->Int}(h:VM w b ks f):Odd w b:=λcs t k=>absurd ⟨cs,t,k⟩ h.noBT
theorem Yc.odd {C:Nat}{w:World}{v:Value}{l:List Vx}(h:Yc C w v l){b:Nat}(e:some b=v.ownBlock):Odd w b:=by
 obtain⟨cs,hb⟩:=U4 h e.symm
 exact Odd.of hb (by decide)
def Gr (w w':World):Prop:=∃S,Chg S w w'/\∀b,S b->Odd w b
theorem Gr.nx {w w':World}(h:Nx w w'):Gr w w':=⟨λ_=>False,Chg.nx h,λ_ h=>h.elim⟩
theorem Gr.row {w w':World}(h:Gr w w'){C t sz n:Nat}{v:Value}{xs:List Value}(k:w.ownsRow C t sz v n xs)(ht:¬(t≠136/\t≠143/\t≠180/\t≠182)):w'.ownsRow C t sz v n xs:=by
 obtain⟨S,c,hS⟩:=h
 refine Qs k c (λg hg hs=>?_)
 obtain⟨cs,hb⟩:=U4 k hg
 exact ht (hS g hs cs t hb)
theorem Gr.lvs {w w':World}(h:Gr w w'){C:Nat}{lv:Value}{nn:Nat}{es:List Eg}{k:Nat}{eb:Nat->Nat}{us:Nat->Value}(x:Lvs C w lv nn es k eb us):Lvs C w' lv nn es k eb us:=⟨h.row x.row (by decide),λv hv=>h.row (x.each v hv) (by decide),x.apart⟩
theorem Gr.fnd {w w':World}(h:Gr w w'){C:Nat}{fv:Value}{ar:Vx->List Ax}{l:List (Vx×Value)}(x:Fnd C w fv ar l):Fnd C w' fv ar l:=⟨h.row x.row (by decide),λy hy=>h.row (x.each y hy) (by decide)⟩
structure PrM (N:Nt)(A:Au)(w0:World)(L:Lk)(sv lv:Value)(us:Nat->Value)(pb mb:Nat)(w:World)(ia:Option Addr)(qn ic:Nat)(k:Int)(fv:Value)(t:List Vx)(f:Vx->Int)(l:List (Vx×Value)):Prop where
 box:BT w pb #[pT L.br,sv,lv,.map (some mb),sL ia qn ic,iV k,fv] 170
 lvs:Lvs w0.heap.size w lv N.nodes.length (E1 N) (E1 N).length L.eb us
 que:Yc w0.heap.size w (sL ia qn ic) t
 len:t.length=qn
 map:VM w mb t f
 fnd:Fnd w0.heap.size w fv (λx=>(nxV (E1 N) (stA A) x).map (λu=>(u,Vz N (E1 N) x u))) l
 nx:Nx w0 w
 gp:w0.heap.size<=pb
 gm:w0.heap.size<=mb
section
variable {N:Nt}{A:Au}{w0 w w':World}{L:Lk}{sv lv:Value}{us:Nat->Value}{pb mb:Nat}{ia:Option Addr}{qn ic:Nat}{k:Int}{fv:Value}{t:List Vx}{f:Vx->Int}{l:List (Vx×Value)}
theorem PrM.next (h:PrM N A w0 L sv lv us pb mb w ia qn ic k fv t f l)(x:Nx w w'):PrM N A w0 L sv lv us pb mb w' ia qn ic k fv t f l:=
 ⟨h.box.next x,h.lvs.next x,h.que.next x,h.len,h.map.next x,(Gr.nx x).fnd h.fnd,h.nx.trans x,h.gp,h.gm⟩
theorem PrM.turn {S:Nat->Prop}{ia':Option Addr}{qn' ic':Nat}{k':Int}{t':List Vx}{f':Vx->Int}(h:PrM N A w0 L sv lv us pb mb w ia qn ic k fv t f l)(c:Chg S w w')(hS:∀b,S b->w0.heap.size<=b/\Odd w b)(hb:BT w' pb #[pT L.br,sv,lv,.map (some mb),(sL ia' qn' ic'),iV k',fv] 170)(hq:Yc w0.heap.size w' (sL ia' qn' ic') t')(hl:t'.length=qn')(hm:VM w' mb t' f'):PrM N A w0 L sv lv us pb mb w' ia' qn' ic' k' fv t' f' l:=
 have s:Gr w w':=⟨S,c,λb hb=>(hS b hb).2⟩
 ⟨hb,s.lvs h.lvs,hq,hl,hm,s.fnd h.fnd,Below.trans h.nx (c.below h.nx.size (λb hb=>(hS b hb).1)),h.gp,h.gm⟩
theorem PrM.oddP (h:PrM N A w0 L sv lv us pb mb w ia qn ic k fv t f l):Odd w pb:=Odd.of h.box (by decide)
end
theorem Qbu {C n c:Nat}{w:World}{a:Option Addr}{l:List Vx}(h:Yc C w (sL a n c) l):l.length=n:=by
 obtain⟨a',c',e⟩:=Q7 h
 simp only[zC] at e
 exact e.2.1.symm
theorem Q3u (N:Nt)(A:Au)(w0:World)(L:Lk)(sv lv:Value)(us:Nat->Value)(pb mb:Nat)(w:World)(ia:Option Addr)(qn ic:Nat)(k:Int)(fv:Value)(t:List Vx)(f:Vx->Int)(l:List (Vx×Value))(u1 u2:Int)(h:PrM N A w0 L sv lv us pb mb w ia qn ic k fv t f l)(hq:qn<=200000)(hf:Fit (u1,u2)) :
  Calls prog 86 #[pT pb,.agg #[iV u1,iV u2]] w λe w'=>e=.returned (.tuple #[])/\∃na n' nc f',PrM N A w0 L sv lv us pb mb w' na n' nc k fv (Wp t (u1,u2)) f' l/\Gr w w'/\∀bb cs,BT w bb cs 173->some bb≠(sL ia qn ic).ownBlock->BT w' bb cs 173/\some bb≠(sL na n' nc).ownBlock:=by
 refine(Q9t w0.heap.size pb mb qn ic ia _ sv lv fv k t f u1 u2 w h.box h.que h.map h.len hq h.nx.size hf).mono ?_
 rintro e w' ⟨rfl,na,n',nc,f',h1,h2,h3,h4,h5⟩
 have hS:∀b,(b=pb\/b=mb\/some b=(sL ia qn ic).ownBlock)->w0.heap.size<=b/\Odd w b:=λb hb=>by
  rcases hb with rfl|rfl|hb
  ·exact⟨h.gp,h.oddP⟩
  ·exact⟨h.gm,h.map.odd⟩
  ·exact⟨(Q5 h.que b hb.symm).1,h.que.odd hb⟩
 refine⟨rfl,na,n',nc,f',h.turn h4 hS h1 h2 (Qbu h2) h3,⟨_,h4,λb hb=>(hS b hb).2⟩,λbb cs hb hn=>⟨hb.chg h4 (λc=>?_),λc=>?_⟩⟩
 ·rcases c with rfl|rfl|c
  ·exact absurd (hb.type h.box) (by decide)
  ·exact h.map.noBT ⟨cs,_,hb⟩
  ·exact hn c
 ·rcases h5 bb c.symm with a|a
  ·exact hn a.symm
  ·have:=hb.lt
   omega
theorem Qh0:(prog.info? 182).map (λi=>(i.zero,i.size,i.bytes))=some (some (.agg #[iV 0,iV 0,sN]),3,40):=by kernel_rfl
theorem Q8p {N:Nt}{A:Au}(F:SF N A){u:Vx}(h:OkV (E1 N).length A.pa.length u):Fit u:=by
 obtain⟨h0,h1,h2,h3⟩:=h
 have:=F.m
 have:=F.n
 exact⟨by omega,by omega,by omega,by omega⟩
theorem Qhc {N:Nt}{A:Au}(F:SF N A){i:Nat}{z:Int}(hi:i<(E1 N).length)(h0:0<=z)(h1:z<A.pa.length):Fit ((i:Int),z):=Q8p F ⟨by show(0:Int)<=i;omega,by show(i:Int)<_;omega,h0,h1⟩
theorem Qeg (st:Int->Int->Int)(i:Nat):Wp (stV st i) ((i:Int),st 0 (i:Int))=stV st (i+1):=by
 unfold Wp
 rw[if_neg (λh=>?_),stV]
 obtain⟨k,hk,e⟩:=Q1v h
 have:=congrArg Prod.fst e
 simp at this
 omega
section
variable {N:Nt}{A:Au}{w0 w w':World}{L:Lk}{sv lv:Value}{us:Nat->Value}{pb mb:Nat}{ia:Option Addr}{qn ic:Nat}{k:Int}{fv:Value}{t:List Vx}{f:Vx->Int}{l:List (Vx×Value)}
theorem PrM.setV (h:PrM N A w0 L sv lv us pb mb w ia qn ic k fv t f l){bb:Nat}{cs:Array Value}(hb:BT w bb cs 173)(hn:some bb≠(sL ia qn ic).ownBlock)(i:Nat)(v:Value)(hw:w0.heap.size<=bb:=by omega):PrM N A w0 L sv lv us pb mb (w.setCell (aD bb i) v) ia qn ic k fv t f l:=
 h.turn (S:=λx=>x=bb) (Chg.set _ _ _ rfl) (λb e=>by have e':b=bb:=e;subst e';exact⟨hw,Odd.of hb (by decide)⟩) (h.box.setOther (λe=>absurd (h.box.type (e▸hb)) (by decide)) _ _) (Qs h.que (Chg.set (S:=λx=>x=bb) _ _ _ rfl) (λg hg e=>hn (by have e':g=bb:=e;rw[<-e'];exact hg.symm))) h.len (h.map.chg (Chg.set (S:=λx=>x=bb) _ _ _ rfl) (λe=>h.map.noBT ⟨cs,_,by have e':mb=bb:=e;rw[e'];exact hb⟩))
theorem PrM.push {v:Vx}{av fv':Value}(h:PrM N A w0 L sv lv us pb mb w ia qn ic k fv t f l)(r1:w'.ownsRow w0.heap.size 182 3 fv' (l.length+1) (l.flatMap Ej++Ej (v,av)))(r2:Chg (λx=>some x=fv.ownBlock) w w')(hA:Ap w0.heap.size w av ((nxV (E1 N) (stA A) v).map (λu=>(u,Vz N (E1 N) v u)))):PrM N A w0 L sv lv us pb mb (w'.setCell (aD pb 6) fv') ia qn ic k fv' t f (l++[(v,av)]):=by
 have hr:=h.fnd.row
 have hbx:BT w' pb _ 170:=h.box.chg r2 (λc=>h.box.neRow hr (by decide) c)
 have hfar:∀{C u sz n:Nat}{v':Value}{xs:List Value},w.ownsRow C u sz v' n xs->u≠182->w'.ownsRow C u sz v' n xs:=λk hu=>Qs k r2 (λg hg c=>by obtain⟨cs,hb⟩:=U4 k hg;exact hb.neRow hr hu c)
 have hx:Nx w0 w':=Below.trans h.nx (r2.below h.nx.size (λx hx=>(Q5 hr x hx.symm).1))
 have hm:VM w' mb t f:=h.map.chg r2 (λc=>by obtain⟨cs,hb⟩:=U4 hr c.symm;exact h.map.noBT ⟨cs,_,hb⟩)
 refine⟨hbx.set 6 fv',⟨Xd (hfar h.lvs.row (by decide)) hbx (by decide) _ _,λv hv=>Xd (hfar (h.lvs.each v hv) (by decide)) hbx (by decide) _ _,h.lvs.apart⟩,Xd (hfar h.que (by decide)) hbx (by decide) _ _,h.len,hm.chg (Chg.set (S:=λx=>x=pb) _ _ _ rfl) (λe=>hm.noBT ⟨_,_,by have e':mb=pb:=e;rw[e'];exact hbx⟩),⟨?_,λx hx=>?_⟩,Below.trans hx ((Chg.set (S:=λx=>x=pb) (w:=w') pb 6 fv' rfl).below hx.size (λx e=>by have e':x=pb:=e;rw[e'];exact h.gp)),h.gp,h.gm⟩
 ·rw[zA,List.flatMap_append]
  exact Xd (by simpa using r1) hbx (by decide) _ _
 ·rcases List.mem_append.1 hx with a|a
  ·exact Xd (hfar (h.fnd.each x a) (by decide)) hbx (by decide) _ _
  ·have e:x=(v,av):=by simpa using a
   subst e
   exact Xd (hfar hA (by decide)) hbx (by decide) _ _
end
theorem Q7s (N:Nt)(A:Au)(w0:World)(L:Lk)(sv lv:Value)(us:Nat->Value)(pb mb:Nat)(w:World)(ia:Option Addr)(qn ic tk:Nat)(fv:Value)(t:List Vx)(f:Vx->Int)(l:List (Vx×Value))(h:PrM N A w0 L sv lv us pb mb w ia qn ic (tk:Int) fv t f l)(ht:tk<=qn)(hq:qn<=200000) :
  Calls prog 88 #[.pointer (some (aD pb 4))] w λe w'=>∃x1 x2,e=.returned (.tuple #[.agg #[iV x1,iV x2],.bool (decide (tk<qn))])/\(tk<qn->(x1,x2)=vtx t tk)/\PrM N A w0 L sv lv us pb mb w' ia qn ic ((if tk<qn then tk+1 else tk:Nat):Int) fv t f l/\(∀bb cs,BT w bb cs 173->BT w' bb cs 173)/\w.heap.size<=w'.heap.size:=by
 by_cases hlt:tk<qn
 ·refine(Q60 w0.heap.size pb qn ic tk ia _ sv lv _ fv t w h.box h.que h.len hlt hq).mono ?_
  rintro e w' ⟨rfl,hb,hc⟩
  refine⟨(vtx t tk).1,(vtx t tk).2,by simp[hlt],λ_=>rfl,h.turn hc (λb e=>by have e':b=pb:=e;subst e';exact⟨h.gp,h.oddP⟩) (by rw[if_pos hlt];exact hb) (Qs h.que hc (λg hg e=>by have e':g=pb:=e;subst e';exact h.box.neRow h.que (by decide) hg.symm)) h.len (h.map.chg hc (λe=>h.map.noBT ⟨_,_,by have e':mb=pb:=e;rw[e'];exact h.box⟩)),λbb cs hbb=>hbb.chg hc (λe=>absurd (hbb.type ((show bb=pb from e)▸h.box)) (by decide)),hc.size⟩
 ·have e0:tk=qn:=by omega
  subst e0
  refine(Q61 pb tk ic ia _ sv lv _ fv w h.box).mono ?_
  rintro e w' ⟨rfl,hx⟩
  exact⟨0,0,by simp,λc=>absurd c hlt,by rw[if_neg hlt];exact h.next hx,λbb cs hbb=>hbb.next hx,hx.size⟩
def ExpE (N:Nt)(A:Au)(w0:World)(L:Lk)(sv lv:Value)(us:Nat->Value)(pb mb:Nat)(w':World)(r:Ending):Prop:=
 Nx w0 w'/\((r=.returned (.bool false)/\∃k,(∀j,j<=k->j<(bf (E1 N) (stA A) j).1.length/\(bf (E1 N) (stA A) j).2<=40000)/\40000<(bf (E1 N) (stA A) (k+1)).2) \/
 (r=.returned (.bool true)/\∃(k:Nat) (ia:Option Addr) (qn ic:Nat) (fv:Value) (f:Vx->Int) (l:List (Vx×Value)),PrM N A w0 L sv lv us pb mb w' ia qn ic (k:Int) fv (bf (E1 N) (stA A) k).1 f l/\l.map (·.1)=(bf (E1 N) (stA A) k).1/\k=(bf (E1 N) (stA A) k).1.length/\(∀j,j<k->j<(bf (E1 N) (stA A) j).1.length/\(bf (E1 N) (stA A) j).2<=40000)/\(bf (E1 N) (stA A) k).2<=40000))
theorem Q6x (N:Nt)(A:Au)(F:SF N A)(C B D:Nat)(w0:World)(L:Lk)(sv lv:Value)(bl:Nat->Nat)(fl mv us:Nat->Value)(pb mb:Nat)(f0:Vx->Int)(w:World)(hS:Sta N A w0 C B D L sv bl fl mv)(h:PrM N A w0 L sv lv us pb mb w none 0 0 0 sN [] f0 []) :
  Calls prog 36 #[pT pb] w λr w'=>ExpE N A w0 L sv lv us pb mb w' r:=by
 obtain⟨gs,sc,hsv,-⟩:=hS.state F.p
 obtain⟨ae,ce,hve⟩:=Q7 hS.lr.all
 rw[zG,zY] at hve
 obtain⟨m,hm⟩:∃m,(E1 N).length=m:=⟨_,rfl⟩
 have hm4:m<=4000:=by rw[<-hm];exact F.m
 rw[hm] at hve
 have HM:Z ((E1 N).length=m):=hm
 have HEC:Z (∀i,i<m->∃g,ae=some (aD g 0)/\w0.cell? (aD g i)=some (pT (L.eb i))):=λi hi=>by
  obtain⟨ge,ce',ee,-,-,hrw⟩:=hS.lr.all.open (by simp;omega)
  rw[zG,zY,hve,hm] at ee
  rw[zG,zY,hm] at hrw
  simp only[zC] at ee
  have kx:=hrw.cell hi
  rw[show((List.range m).map L.eb).getD i 0=L.eb i by simp[List.getD_eq_getElem?_getD,hi]] at kx
  exact⟨ge,ee.1,kx⟩
 have HS:=Q2 hS
 have HP0:=Q2 h
 have hmx:prog.follows .mixedOrders=true:=by kernel_rfl
 have k0:=h.box.c 0 rfl
 have k5:=(hS.lr.next h.nx).road.c 5 rfl
 rw[hve] at k5
 have HQM:Z (∀i,i<m->∀q,Nx w0 q->True):=λ_ _ _ _=>trivial
 clear hS h hve hm
 go_enter func36,ntmps36
 go_wp2
 clear k0 k5
 go_loopw [19] (λs19 wr=>∃(i qn ic:Nat) (ia:Option Addr) (f:Vx->Int),i<=m/\s19=iV i/\Z (PrM N A w0 L sv lv us pb mb wr ia qn ic 0 sN (stV (stA A) i) f [])) (λi _=>m-(intOf i).toNat)
 case atStart=>exact⟨0,0,0,none,f0,nZ,rfl,HP0⟩
 obtain⟨i,qn,ic,ia,f,him,rfl,HP⟩:=hrel
 by_cases hlt:i<m
 ·have hlt':(i:Int)<m:=by omega
  obtain⟨ge,rfl,kx0⟩:=HEC.o i hlt
  have kx:=Q1 HP.o.nx kx0
  go_wp2_with fail
  clear kx
  refine(Q0n N A F C B D pb i L sv bl fl mv _ _ _ _ _ _ wr (HS.o.next HP.o.nx) HP.o.box (by rw[HM.o];exact hlt)).mono ?_
  rintro e5 w5 ⟨rfl,hx5⟩
  have HP5:=Q2 (HP.o.next hx5)
  have HQ5:Z (qn=i):=by have:=HP.o.len;rw[Xj] at this;exact this.symm
  have HFT:Z (Fit ((i:Int),(stA A) 0 (i:Int))):=Qhc F (by rw[HM.o];exact hlt) (F.ok.s0 i (by rw[HM.o];exact hlt)) (F.ok.lt _ _)
  go_wp2_with fail
  refine(Q3u N A w0 L sv lv us pb mb w5 ia qn ic _ _ _ f _ _ _ HP5.o (by have:=HQ5.o;omega) HFT.o).mono ?_
  rintro e6 w6 ⟨rfl,na,n',nc,f',h6,-,-⟩
  have HP6:Z (PrM N A w0 L sv lv us pb mb w6 na n' nc 0 sN (stV (stA A) (i+1)) f' []):=by have h:=h6;rw[Qeg] at h;exact h
  clear h6 HP5 HFT hx5
  go_wp2
  go_roundw
  case rel=>exact⟨i+1,n',nc,na,f',by omega,by go_num,HP6⟩
  case measure=>simp[intOf];omega
 have ei:i=m:=by omega
 subst ei
 have hlt0:¬(i:Int)<i:=by omega
 have HPB:Z (PrM N A w0 L sv lv us pb mb wr ia qn ic ((0:Nat):Int) sN (bf (E1 N) (stA A) 0).1 f []):=by
  have h:=HP.o
  rw[show stV (stA A) i=(bf (E1 N) (stA A) 0).1 from by show _=stV (stA A) (E1 N).length;rw[HM.o]] at h
  exact h
 have HQ0:Z (qn<=4000):=by have:=HP.o.len;rw[Xj] at this;show qn<=4000;omega
 clear HP
 go_wp2_with fail
 refine(Q7s N A w0 L sv lv us pb mb wr ia qn ic 0 _ _ f _ HPB.o nZ (by have:=HQ0.o;omega)).mono ?_
 rintro e5 w5 ⟨x1,x2,rfl,hv5,hp5,-,-⟩
 have HP5:=Q2 hp5
 have HV5:Z (0<qn->(x1,x2)=vtx (bf (E1 N) (stA A) 0).1 0):=hv5
 clear hp5 hv5 HPB
 have HB1:Z (BT (w5.alloc (.cells #[iV x1,iV x2] 173)) w5.heap.size #[iV x1,iV x2] 173):=BT.new _ _ _ _ rfl
 have HX1:Z (Nx w5 (w5.alloc (.cells #[iV x1,iV x2] 173))):=Q4 _ _
 go_upto_region 8 with fail
 generalize w5.alloc (.cells #[iV x1,iV x2] 173)=w6 at *
 have HNB:Z (some w5.heap.size≠(sL ia qn ic).ownBlock):=λc=>by have:=(Q5 HP5.o.que _ c.symm).2;omega
 have HP6:=Q2 (HP5.o.next HX1.o)
 have HB6:Z (BT w6 w5.heap.size #[iV x1,iV x2] 173):=HB1.o
 clear HB1 HX1 HP5
 generalize w5.heap.size=bb at *
 go_wp2
 go_loopg [5,6,7] 100000 (λg2 s5 s6 s7 wr=>∃(k qn ic bb fc:Nat) (x1 x2:Int) (ia fa:Option Addr) (f:Vx->Int) (l:List (Vx×Value)),k+g2=100000/\s5=iV ((bf (E1 N) (stA A) k).2:Int)/\s6=pT bb/\s7=.bool (decide (k<qn))/\Z (PrM N A w0 L sv lv us pb mb wr ia qn ic ((if k<qn then k+1 else k:Nat):Int) (sL fa k fc) (bf (E1 N) (stA A) k).1 f l)/\Z (BT wr bb #[iV x1,iV x2] 173)/\Z (some bb≠(sL ia qn ic).ownBlock)/\Z (k<qn->(x1,x2)=vtx (bf (E1 N) (stA A) k).1 k)/\Z (l.map (·.1)=(bf (E1 N) (stA A) k).1.take k)/\k<=qn/\(bf (E1 N) (stA A) k).2<=40000/\Z (∀j,j<k->j<(bf (E1 N) (stA A) j).1.length/\(bf (E1 N) (stA A) j).2<=40000))
 case atStart=>exact⟨0,qn,ic,bb,0,x1,x2,ia,none,f,[],rfl,rfl,rfl,rfl,HP6,HB6,HNB,HV5,rfl,nZ,nZ,λj hj=>absurd hj (zM _)⟩
 case round=>
  clear HP6 HB6 HNB HV5
  obtain⟨k,qn,ic,bb,fc,x1,x2,ia,fa,f,l,hkg,rfl,rfl,rfl,HP,HB,HN,HV,HL,hkn,hak,HGO⟩:=hrel
  by_cases hkq:k<qn
  ·have d0:decide (k<qn)=true:=by simpa using hkq
   rw[d0]
   have HPK:Z (PrM N A w0 L sv lv us pb mb wr ia qn ic ((k+1:Nat):Int) (sL fa k fc) (bf (E1 N) (stA A) k).1 f l):=by have h:=HP.o;rw[if_pos hkq] at h;exact h
   have HKL:Z (k<(bf (E1 N) (stA A) k).1.length):=by rw[HPK.o.len];exact hkq
   have HOV:=Q5l F.ok k (vtx (bf (E1 N) (stA A) k).1 k) (Zd HKL.o)
   rw[<-HV.o hkq] at HOV
   obtain⟨hv0,hv1,hv2,hv3⟩:=HOV
   obtain⟨X,rfl⟩:∃X:Nat,x1=(X:Int):=⟨x1.toNat,(Int.toNat_of_nonneg hv0).symm⟩
   obtain⟨s,rfl⟩:∃s:Nat,x2=(s:Int):=⟨x2.toNat,(Int.toNat_of_nonneg hv2).symm⟩
   have hX:X<(E1 N).length:=by have h:(X:Int)<(E1 N).length:=hv1;omega
   have hs:s<A.pa.length:=by have h:(s:Int)<A.pa.length:=hv3;omega
   have HVK:Z (vtx (bf (E1 N) (stA A) k).1 k=((X:Int),(s:Int))):=(HV.o hkq).symm
   clear hv0 hv1 hv2 hv3 d0 HP HV
   have b0:=HB.o.c 0 rfl
   have b1:=HB.o.c 1 rfl
   go_wp2_with fail
   refine(Q2y N A F C B D w0.heap.size pb X s L sv lv bl fl mv us _ _ _ _ wr (HS.o.next HPK.o.nx) HPK.o.box HPK.o.lvs hX hs).mono ?_
   rintro e5 w5 ⟨⟨na,q,nc,rfl,ha5⟩,hx5⟩
   have HP5:=Q2 (HPK.o.next hx5)
   have HB5:=Q2 (HB.o.next hx5)
   obtain⟨nx,hnx⟩:∃nx,nxV (E1 N) (stA A) ((X:Int),(s:Int))=nx:=⟨_,rfl⟩
   have HNX:Z (nxV (E1 N) (stA A) ((X:Int),(s:Int))=nx):=hnx
   have HA5:Z (Ap w0.heap.size w5 (sL na q nc) (nx.map (λu=>(u,Vz N (E1 N) ((X:Int),(s:Int)) u)))):=by have h:=Jn ha5 HPK.o.nx.size;rw[hnx] at h;exact h
   have HQL:Z (nx.length=q):=by
    obtain⟨a',c',e⟩:=Q7 HA5.o
    simp only[zC] at e
    rw[zG] at e
    exact e.2.1.symm
   have HBS:Z ((bf (E1 N) (stA A) (k+1))=(Jo (bf (E1 N) (stA A) k).1 nx nx.length,(bf (E1 N) (stA A) k).2+q)):=by unfold Z;rw[Zl HKL.o,HVK.o,hnx,HQL.o]
   have hqm:q<=4000:=by have:=Q10 (es:=(E1 N)) (st:=(stA A)) ((X:Int),(s:Int)) (E1 N).length;unfold nxV at hnx;rw[hnx,HQL.o] at this;have:=F.m;omega
   have HNO:Z (∀u∈nx,OkV (E1 N).length A.pa.length u):=λu hu=>Qc3 F.ok (by rw[hnx];exact hu)
   have hqn:qn<=44000:=by have:=Gm (es:=(E1 N)) (st:=(stA A)) k;rw[HPK.o.len] at this;have:=F.m;omega
   clear hx5 ha5 hnx b0 b1 HPK HB
   have wc:IntKind.i64.wrap (((bf (E1 N) (stA A) k).2:Int)+(q:Int))=((bf (E1 N) (stA A) k).2:Int)+(q:Int):=by rw[IntKind.wrap_i64];omega
   by_cases hbig:40000<(bf (E1 N) (stA A) k).2+q
   ·have hbig':(40000:Int)<((bf (E1 N) (stA A) k).2:Int)+(q:Int):=by omega
    have d9:decide ((40000:Int)<((bf (E1 N) (stA A) k).2:Int)+(q:Int))=true:=yH hbig'
    go_wp2
    refine bodyPost_ret (v:=.bool false) (by simp[results,results36,go_sem]) rfl ?_
    refine⟨HP5.o.nx,oL ⟨rfl,k,λj hj=>?_,by rw[HBS.o];exact hbig⟩⟩
    rcases Nat.lt_or_ge j k with h|h
    ·exact HGO.o j h
    ·have e:j=k:=by omega
     subst e
     exact⟨HKL.o,hak⟩
   ·have hbig':¬(40000:Int)<((bf (E1 N) (stA A) k).2:Int)+(q:Int):=by omega
    have d9:decide ((40000:Int)<((bf (E1 N) (stA A) k).2:Int)+(q:Int))=false:=yJ hbig'
    go_wp2
    clear d9 hbig'
    go_loopw [55] (λs55 wr=>∃(j qi ii:Nat) (ai:Option Addr) (fi:Vx->Int),j<=q/\s55=iV j/\qi<=44000+j/\Z (PrM N A w0 L sv lv us pb mb wr ai qi ii ((k+1:Nat):Int) (sL fa k fc) (Jo (bf (E1 N) (stA A) k).1 nx j) fi l)/\Z (Ap w0.heap.size wr (sL na q nc) (nx.map (λu=>(u,Vz N (E1 N) ((X:Int),(s:Int)) u))))/\Z (BT wr bb #[iV (X:Int),iV (s:Int)] 173)/\Z (some bb≠(sL ai qi ii).ownBlock)) (λi _=>q-(intOf i).toNat)
    case atStart=>exact⟨0,qn,ic,ia,f,nZ,rfl,by omega,HP5,HA5,HB5,HN⟩
    clear HP5 HA5 HB5 HN
    obtain⟨j,qi,ii,ai,fi,hjq,rfl,hqi,HP,HA,HB,HN⟩:=hrel
    by_cases hlt:j<q
    ·have hlt':(j:Int)<q:=by omega
     obtain⟨u1,u2,hu⟩:∃u1 u2,vtx nx j=(u1,u2):=⟨_,_,rfl⟩
     have hjl:j<nx.length:=by have:=HQL.o;omega
     obtain⟨ga,cA,eA,-,-,-,-,hcA⟩:=Xn HA.o rfl (by decide) (λ_=>rfl) (i:=j) (x:=((u1,u2),Vz N (E1 N) ((X:Int),(s:Int)) (u1,u2))) (by rw[yD,zJ hjl,<-hu,Yz hjl];rfl)
     simp only[zC] at eA
     obtain⟨rfl,-,rfl⟩:=eA
     have c0:wr.cell? (aD ga (j*3))=some (iV u1):=hcA 0 (by decide)
     have c1:wr.cell? (aD ga (j*3+1))=some (iV u2):=hcA 1 (by decide)
     obtain⟨ct,hct⟩:∃ct,Vz N (E1 N) ((X:Int),(s:Int)) (u1,u2)=ct:=⟨_,rfl⟩
     have c2:wr.cell? (aD ga (j*3+2))=some (iV ct):=by rw[<-hct];exact hcA 2 (by decide)
     have HFT:Z (Fit (u1,u2)):=by
      have h:=HNO.o (vtx nx j) (Zd hjl)
      rw[hu] at h
      obtain⟨h0,h1,h2,h3⟩:=h
      exact Q8p F ⟨h0,h1,h2,h3⟩
     have HNT:Z (Wp (Jo (bf (E1 N) (stA A) k).1 nx j) (u1,u2)=Jo (bf (E1 N) (stA A) k).1 nx (j+1)):=by unfold Z;rw[Jo,hu]
     have HB1:Z (BT (wr.alloc (.cells #[iV u1,iV u2,iV ct] 180)) wr.heap.size #[iV u1,iV u2,iV ct] 180):=BT.new _ _ _ _ rfl
     have HX1:Z (Nx wr (wr.alloc (.cells #[iV u1,iV u2,iV ct] 180))):=Q4 _ _
     clear hcA hu hct
     go_upto_region 17 with fail
     clear c0 c1 c2
     generalize wr.alloc (.cells #[iV u1,iV u2,iV ct] 180)=w6 at *
     have c0:w6.cell? (aD wr.heap.size 0)=some (iV u1):=HB1.o.c 0 rfl
     have c1:w6.cell? (aD wr.heap.size 1)=some (iV u2):=HB1.o.c 1 rfl
     have HP6:=Q2 (HP.o.next HX1.o)
     have HA6:=Q2 (V7 HA.o HX1.o)
     have HB6:=Q2 (HB.o.next HX1.o)
     clear HX1 HP HA HB HB1
     generalize wr.heap.size=ab at *
     go_wp2_with fail
     clear c0 c1
     refine(Q3u N A w0 L sv lv us pb mb w6 ai qi ii _ _ _ fi _ u1 u2 HP6.o (by omega) HFT.o).mono ?_
     rintro e7 w7 ⟨rfl,a7,n7,i7,f7,hp7,hs7,hb7⟩
     have HP7:Z (PrM N A w0 L sv lv us pb mb w7 a7 n7 i7 ((k+1:Nat):Int) (sL fa k fc) (Jo (bf (E1 N) (stA A) k).1 nx (j+1)) f7 l):=by have h:=hp7;rw[HNT.o] at h;exact h
     have HA7:Z (Ap w0.heap.size w7 (sL (sA ga) q nc) (nx.map (λu=>(u,Vz N (E1 N) ((X:Int),(s:Int)) u)))):=hs7.row HA6.o (by decide)
     have HBN:=hb7 bb _ HB6.o HN.o
     have HB7:=Q2 HBN.1
     have HN7:=Q2 HBN.2
     have hn7:n7<=44000+(j+1):=by
      have h1:=HP7.o.len
      have h2:=HP6.o.len
      have h3:(Jo (bf (E1 N) (stA A) k).1 nx (j+1)).length<=(Jo (bf (E1 N) (stA A) k).1 nx j).length+1:=by rw[Jo];unfold Wp;split<;>simp
      omega
     clear hp7 hs7 hb7 HBN HP6 HA6 HB6 HN HFT HNT
     go_wp2
     go_roundw
     case rel=>exact⟨j+1,n7,i7,a7,f7,by omega,by go_num,hn7,HP7,HA7,HB7,HN7⟩
     case measure=>simp[intOf];omega
    have ej:q=j:=by omega
    subst ej
    have hlt0:¬(q:Int)<q:=by omega
    have HPD:Z (PrM N A w0 L sv lv us pb mb wr ai qi ii ((k+1:Nat):Int) (sL fa k fc) (bf (E1 N) (stA A) (k+1)).1 fi l):=by have h:=HP.o;rw[show Jo (bf (E1 N) (stA A) k).1 nx q=(bf (E1 N) (stA A) (k+1)).1 by rw[HBS.o,HQL.o]] at h;exact h
    clear HP
    go_wp2
    go_upto_region 19 with fail
    have hxd:Nx wr wr.drew:=(Below.refl _ _).drew
    have HPd:=Q2 (HPD.o.next hxd)
    have HBd:=Q2 (HB.o.next hxd)
    have HAd:=Q2 (V7 HA.o hxd)
    have HSS:Z ((λq=>q.cell? (aD pb 6)=some (sL fa k fc)/\q.cell? (aD bb 0)=some (iV (X:Int))/\q.cell? (aD bb 1)=some (iV (s:Int))) wr.drew):=⟨HPd.o.box.c 6 rfl,HBd.o.c 0 rfl,HBd.o.c 1 rfl⟩
    clear hxd HPD HB HA
    refine(wpIn_wide (n:=9)).1 ?_
    refine Qj (c:=12) (S:=λq=>q.cell? (aD pb 6)=some (sL fa k fc)/\q.cell? (aD bb 0)=some (iV (X:Int))/\q.cell? (aD bb 1)=some (iV (s:Int))) hmx (by kernel_rfl) (λhw hcl=>?_)
    generalize wr.drew=wd at *
    refine tq (i:=0) (v:=pT pb) (λhcl=>?_)
    refine tq (i:=1) (v:=pT pb) (λhcl=>?_)
    refine tq (i:=2) (v:=pT pb) (λhcl=>?_)
    refine tq (i:=3) (v:=.pointer (some (aD pb 6))) (λhcl=>?_)
    refine tq (i:=4) (v:=sL fa k fc) (λhcl=>?_)
    refine tq (i:=5) (v:=.agg #[iV (X:Int),iV (s:Int)]) (λhcl=>?_)
    refine tq (i:=6) (v:=sL na q nc) (λhcl=>?_)
    refine tq (i:=7) (v:=.agg #[iV (X:Int),iV (s:Int),sL na q nc]) (λhcl=>?_)
    refine Qo (i:=8) (by kernel_rfl) hcl (λhcl=>wpOpIn_step rfl (λK hK=>?_))
    go_simp
    refine hK _ _ ⟨oR ⟨Q1 (Q4 _ _) HSS.o.1,Q1 (Q4 _ _) HSS.o.2.1,Q1 (Q4 _ _) HSS.o.2.2⟩,?_⟩
    clear hK K
    have HKN:Z (l.length=k):=by
     obtain⟨a',c',e⟩:=Q7 HPd.o.fnd.row
     simp only[zC] at e
     exact e.2.1.symm
    refine Qo (i:=9) (by kernel_rfl) hcl (λhcl=>wpOpIn_step rfl (λK hK=>?_))
    refine Us Qh0 underlying168 rfl (by decide) (by decide) rfl (.tmp 68) (.tmp 72) rfl w0.heap.size k (sL fa k fc) (l.flatMap Ej) (Ej (((X:Int),(s:Int)),sL na q nc)) wd _ rfl (by simp[Act.eval]) (by have h:=HPd.o.fnd.row;rw[HKN.o] at h;exact h) (by simp[Act.eval]) rfl (by intro u hu;simp[Ej] at hu;rcases hu with rfl|rfl|rfl<;>rfl) (by omega) HPd.o.nx.size ?_
    intro ga gc wx e1 e2 e3
    have HFA:=HPd.o.fnd.row
    have HBX:Z (BT wx pb #[pT L.br,sv,lv,.map (some mb),sL ai qi ii,iV ((k+1:Nat):Int),sL fa k fc] 170):=HPd.o.box.chg e2 (λc=>HPd.o.box.neRow HFA (by decide) c)
    have HBB:Z (BT wx bb #[iV (X:Int),iV (s:Int)] 173):=HBd.o.chg e2 (λc=>HBd.o.neRow HFA (by decide) c)
    have HPF:=Q2 (HPd.o.push (v:=((X:Int),(s:Int))) (av:=sL na q nc) (fv':=sL ga (k+1) gc) (by rw[HKN.o];exact e1) e2 (by have h:=HAd.o;rw[<-HNX.o] at h;exact h))
    clear e1 e2 e3 HFA HSS
    have HSS:Z ((λq=>q.cell? (aD pb 6)=some (sL fa k fc)/\q.cell? (aD bb 0)=some (iV (X:Int))/\q.cell? (aD bb 1)=some (iV (s:Int))) wx):=⟨HBX.o.c 6 rfl,HBB.o.c 0 rfl,HBB.o.c 1 rfl⟩
    refine hK _ _ ⟨oR HSS.o,?_⟩
    clear hK K
    refine tq (i:=10) (v:=pT pb) (λhcl=>?_)
    refine tq (i:=11) (v:=.pointer (some (aD pb 6))) (λhcl=>?_)
    have q_:wx.cell? (aD pb 6)=some (sL fa k fc):=HBX.o.c 6 rfl
    have f_:=HBX.o.blk.frozen 6
    refine Qg (i:=12) (by kernel_rfl) (wpOpIn_step rfl (λK hK=>?_))
    go_simp
    refine hK _ _ ⟨oL (by decide),?_⟩
    clear hK K
    refine Qm (by kernel_rfl) ?_ _
    clear hw hcl q_ f_ HSS HPd HBd HAd
    have HBF:=Q2 (HBB.o.setOther (g:=pb) (HBB.o.ne HBX.o (by decide)) 6 (sL ga (k+1) gc))
    generalize wx.setCell (aD pb 6) (sL ga (k+1) gc)=wy at *
    have b0:=HBF.o.c 0 rfl
    have b1:=HBF.o.c 1 rfl
    have HB1:Z (BT (wy.alloc (.cells #[iV (X:Int),iV (s:Int)] 173)) wy.heap.size #[iV (X:Int),iV (s:Int)] 173):=BT.new _ _ _ _ rfl
    have HX1:Z (Nx wy (wy.alloc (.cells #[iV (X:Int),iV (s:Int)] 173))):=Q4 _ _
    clear HBX HBB
    go_upto_region 9 with fail
    clear b0 b1
    generalize wy.alloc (.cells #[iV (X:Int),iV (s:Int)] 173)=wz at *
    have HNB:Z (some wy.heap.size≠(sL ai qi ii).ownBlock):=λc=>by have:=(Q5 HPF.o.que _ c.symm).2;omega
    have HPZ:=Q2 (HPF.o.next HX1.o)
    have HBZ:Z (BT wz wy.heap.size #[iV (X:Int),iV (s:Int)] 173):=HB1.o
    have hgn:w0.heap.size<=wy.heap.size:=HPF.o.nx.size
    clear HB1 HX1 HPF HBF
    generalize wy.heap.size=nb at *
    have HKQ:Z (k+1<=qi):=by
     obtain⟨r,hr⟩:=Gl (es:=(E1 N)) (st:=(stA A)) k
     have h1:=HPZ.o.len
     rw[hr,zA] at h1
     have:=HKL.o
     unfold Z
     omega
    go_wp2_with fail
    refine(Q7s N A w0 L sv lv us pb mb wz ai qi ii (k+1) _ _ fi _ HPZ.o HKQ.o (by omega)).mono ?_
    rintro e8 w8 ⟨y1,y2,rfl,hv8,hp8,hb8,hn8⟩
    have HP8:=Q2 hp8
    have HB8:=Q2 (hb8 nb _ HBZ.o)
    have HV8:=Q2 hv8
    clear hb8 hp8 hv8 hn8 HPZ HBZ
    have b0:=HB8.o.c 0 rfl
    have b1:=HB8.o.c 1 rfl
    have f0:=HB8.o.blk.frozen 0
    have f1:=HB8.o.blk.frozen 1
    have HB9:=Q2 ((HB8.o.set 0 (iV y1)).set 1 (iV y2))
    have HP9:=Q2 ((HP8.o.setV HB8.o HNB.o 0 (iV y1)).setV (HB8.o.set 0 (iV y1)) HNB.o 1 (iV y2))
    have HLL:Z ((l++[(((X:Int),(s:Int)),sL na q nc)]).map (·.1)=(bf (E1 N) (stA A) (k+1)).1.take (k+1)):=by
     obtain⟨r,hr⟩:=Gl (es:=(E1 N)) (st:=(stA A)) k
     unfold Z
     rw[yL,HL.o,hr,List.take_append_of_le_length (by have:=HKL.o;omega),Tg HKL.o,HVK.o]
     rfl
    have HBC:Z ((bf (E1 N) (stA A) (k+1)).2=(bf (E1 N) (stA A) k).2+q):=by unfold Z;rw[HBS.o]
    have hak1:(bf (E1 N) (stA A) (k+1)).2<=40000:=by have:=HBC.o;omega
    have HCI:Z ((((bf (E1 N) (stA A) k).2:Int)+(q:Int))=((bf (E1 N) (stA A) (k+1)).2:Int)):=by have:=HBC.o;unfold Z;omega
    have HG1:Z (∀j,j<(k+1)->j<(bf (E1 N) (stA A) j).1.length/\(bf (E1 N) (stA A) j).2<=40000):=λi hi=>by
     rcases Nat.lt_or_ge i k with h|h
     ·exact HGO.o i h
     ·have e:i=k:=by omega
      subst e
      exact⟨HKL.o,hak⟩
    clear HP8
    go_wp2
    generalize (w8.setCell (aD nb 0) (iV y1)).setCell (aD nb 1) (iV y2)=w9 at *
    rw[HCI.o]
    have hgk:k<100000:=by omega
    go_roundg (gk-1)
    case measure=>omega
    case rel=>exact⟨k+1,qi,ii,nb,gc,y1,y2,ai,ga,fi,_,by omega,rfl,rfl,rfl,HP9,HB9,HNB,HV8,HLL,HKQ.o,hak1,HG1⟩
  ·have hkq':k=qn:=by omega
   have d0:decide (k<qn)=false:=by simpa using hkq
   rw[d0]
   have HPE:Z (PrM N A w0 L sv lv us pb mb wr ia qn ic ((k:Nat):Int) (sL fa k fc) (bf (E1 N) (stA A) k).1 f l):=by have h:=HP.o;rw[if_neg hkq] at h;exact h
   have HLE:Z (l.map (·.1)=(bf (E1 N) (stA A) k).1):=by unfold Z;rw[HL.o,List.take_of_length_le (by rw[HPE.o.len];omega)]
   go_wp2
   refine bodyPost_ret (v:=.bool true) (by simp[results,results36,go_sem]) rfl ?_
   exact⟨HPE.o.nx,oR ⟨rfl,k,ia,qn,ic,_,f,l,HPE.o,HLE.o,by rw[HPE.o.len];exact hkq',HGO.o,hak⟩⟩
end Go.Proofs.YtahpodmokbdjeaaGreatDoor
