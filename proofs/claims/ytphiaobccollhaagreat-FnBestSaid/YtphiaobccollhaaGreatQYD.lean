import Derived.Test.YtphiaobccollhaaGreatQDA
import Derived.Test.YtphiaobccollhaaGreatQLB
namespace Go.Proofs.YtphiaobccollhaaGreat
open Go.RowKit Go.Sort Tryz
set_option linter.unusedVariables false
set_option maxRecDepth 1000000
set_option maxHeartbeats 16000000
variable {es:List Eg}{l:List Vx}{C b c g i n sz t:Nat}{w w':World}{a:Option Addr}{cs:Array Value}{v:Value}{xs:List Value}{zs:List Int}
theorem Qb3 {st:Int->Int->Int}{v:Vx}{k:Nat}(h:(eat es k).tail=(eat es v.1.toNat).head)(hz:0<=st v.2 k):Zy es st v (k+1)=Zy es st v k++[((k:Int),st v.2 k)]:=by rw[Zy,if_pos ⟨h,hz⟩]
theorem Q7e {st:Int->Int->Int}{v:Vx}{k:Nat}(h:¬((eat es k).tail=(eat es v.1.toNat).head/\0<=st v.2 k)):Zy es st v (k+1)=Zy es st v k:=by rw[Zy,if_neg h,List.append_nil]
theorem Ew (B0 B Bw:Nat)(r0 r2 r3 a0 a1 a2 a3 a4 aw:Option Addr)(b off m0 d0 m rc m2 d2 m3 d3 n0 c0 n1 c1 n2 c2 n c3 c4 cw:Nat)(es:List Eg)(A:Au)(ws:List (List Int))(X:Nat)(x2:Int)(w:World)
  (hE:Jw B0 w (sL (some (aD b off)) m rc) es) (hm:es.length=m) (hA:HA B w (sL a0 n0 c0) (sL a1 n1 c1) (sL a2 n2 c2) (sL a3 n c3) (sL a4 n c4) A) (hW:Jm Bw w (sL aw n cw) ws) (hok:Qey A ws n) (hx:X<m) (hml:m<=4000) :
  Calls prog 62 #[.agg #[sL r0 m0 d0,sL (some (aD b off)) m rc,sL r2 m2 d2,sL r3 m3 d3],.agg #[sL a0 n0 c0,sL a1 n1 c1,sL a2 n2 c2,sL a3 n c3,sL a4 n c4],sL aw n cw,.agg #[iV (X:Int),iV x2]] w λe w'=>(∃a' q' c',e=.returned (sL a' q' c')/\J4 w.heap.size w' (sL a' q' c') (nxV es (Q4 A ws) ((X:Int),x2)))/\Nx w w':=by
 have HR0:Z (BT (w.alloc (.cells #[sL r0 m0 d0,sL (some (aD b off)) m rc,sL r2 m2 d2,sL r3 m3 d3] 86)) w.heap.size #[sL r0 m0 d0,sL (some (aD b off)) m rc,sL r2 m2 d2,sL r3 m3 d3] 86):=BT.new _ _ _ _ rfl
 have HX0:Z (Nx w (w.alloc (.cells #[sL r0 m0 d0,sL (some (aD b off)) m rc,sL r2 m2 d2,sL r3 m3 d3] 86))):=Qe _ _
 have HS0:Z ((w.alloc (.cells #[sL r0 m0 d0,sL (some (aD b off)) m rc,sL r2 m2 d2,sL r3 m3 d3] 86)).heap.size=w.heap.size+1):=by unfold Z;rw[Q1]
 have HWD:=mh hW
 have HAA:=mh hA
 have HOK:=mh hok
 have HM:=mh hm
 obtain⟨ea,ec,ee,-,hk⟩:=hE
 simp only[zC] at ee
 obtain⟨rfl,-,rfl⟩:=ee
 rw[hm] at hk
 obtain⟨b',off',e',hB,hb,hc⟩:=hk (by omega)
 simp only[Option.some.injEq,Addr.mk.injEq,and_true] at e'
 obtain⟨rfl,rfl⟩:=e'
 have HEC:Z (∀i,i<m->Kl w b (off+i*7) (eat es i)):=hc
 clear hW hA hok hk hc hm
 go_enter func62,ntmps62
 have HR1:Z (BT ((w.alloc (.cells #[sL r0 m0 d0,sL (some (aD b off)) m rc,sL r2 m2 d2,sL r3 m3 d3] 86)).alloc (.cells #[sL a0 n0 c0,sL a1 n1 c1,sL a2 n2 c2,sL a3 n c3,sL a4 n c4] 98)) (w.heap.size+1) #[sL a0 n0 c0,sL a1 n1 c1,sL a2 n2 c2,sL a3 n c3,sL a4 n c4] 98):=by have h:=BT.new (w.alloc (.cells #[sL r0 m0 d0,sL (some (aD b off)) m rc,sL r2 m2 d2,sL r3 m3 d3] 86)) #[sL a0 n0 c0,sL a1 n1 c1,sL a2 n2 c2,sL a3 n c3,sL a4 n c4] 98 _ rfl;rw[HS0.o] at h;exact h
 have HX1:Z (Nx (w.alloc (.cells #[sL r0 m0 d0,sL (some (aD b off)) m rc,sL r2 m2 d2,sL r3 m3 d3] 86)) ((w.alloc (.cells #[sL r0 m0 d0,sL (some (aD b off)) m rc,sL r2 m2 d2,sL r3 m3 d3] 86)).alloc (.cells #[sL a0 n0 c0,sL a1 n1 c1,sL a2 n2 c2,sL a3 n c3,sL a4 n c4] 98))):=Qe _ _
 have HS1:Z (((w.alloc (.cells #[sL r0 m0 d0,sL (some (aD b off)) m rc,sL r2 m2 d2,sL r3 m3 d3] 86)).alloc (.cells #[sL a0 n0 c0,sL a1 n1 c1,sL a2 n2 c2,sL a3 n c3,sL a4 n c4] 98)).heap.size=w.heap.size+1+1):=by unfold Z;rw[Q1,Q1]
 have HBV:Z (BT (((w.alloc (.cells #[sL r0 m0 d0,sL (some (aD b off)) m rc,sL r2 m2 d2,sL r3 m3 d3] 86)).alloc (.cells #[sL a0 n0 c0,sL a1 n1 c1,sL a2 n2 c2,sL a3 n c3,sL a4 n c4] 98)).alloc (.cells #[iV (X:Int),iV x2] 112)) (w.heap.size+1+1) #[iV (X:Int),iV x2] 112):=by have h:=BT.new ((w.alloc (.cells #[sL r0 m0 d0,sL (some (aD b off)) m rc,sL r2 m2 d2,sL r3 m3 d3] 86)).alloc (.cells #[sL a0 n0 c0,sL a1 n1 c1,sL a2 n2 c2,sL a3 n c3,sL a4 n c4] 98)) #[iV (X:Int),iV x2] 112 _ rfl;rw[HS1.o] at h;exact h
 have HX2:Z (Nx ((w.alloc (.cells #[sL r0 m0 d0,sL (some (aD b off)) m rc,sL r2 m2 d2,sL r3 m3 d3] 86)).alloc (.cells #[sL a0 n0 c0,sL a1 n1 c1,sL a2 n2 c2,sL a3 n c3,sL a4 n c4] 98)) (((w.alloc (.cells #[sL r0 m0 d0,sL (some (aD b off)) m rc,sL r2 m2 d2,sL r3 m3 d3] 86)).alloc (.cells #[sL a0 n0 c0,sL a1 n1 c1,sL a2 n2 c2,sL a3 n c3,sL a4 n c4] 98)).alloc (.cells #[iV (X:Int),iV x2] 112))):=Qe _ _
 have HXA:=mh ((HX0.o.trans HX1.o).trans HX2.o)
 have HBR:=mh ((HR0.o.next HX1.o).next HX2.o)
 have HBA:=mh (HR1.o.next HX2.o)
 clear HR0 HR1 HX0 HX1 HX2 HS0 HS1
 go_upto_region 1 with fail
 generalize ((w.alloc (.cells #[sL r0 m0 d0,sL (some (aD b off)) m rc,sL r2 m2 d2,sL r3 m3 d3] 86)).alloc (.cells #[sL a0 n0 c0,sL a1 n1 c1,sL a2 n2 c2,sL a3 n c3,sL a4 n c4] 98)).alloc (.cells #[iV (X:Int),iV x2] 112)=w3 at *
 have HO0:Z (J4 w3.heap.size (w3.alloc (.cells #[] 112)) (sL (sA w3.heap.size) 0 0) (Zy es (Q4 A ws) ((X:Int),x2) 0)):=T3 w3 _ lR
 have HXb:Z (Nx w3 (w3.alloc (.cells #[] 112))):=Qe _ _
 go_upto_region 2 with fail
 generalize w3.alloc (.cells #[] 112)=w4 at *
 go_wp2
 go_loopw [9,10] (λs9 s10 wr=>∃(k q c:Nat) (x:Option Addr),k<=m/\q<=k/\s10=iV k/\s9=sL x q c/\Z ((Zy es (Q4 A ws) ((X:Int),x2) k).length=q)/\Z (J4 w3.heap.size wr (sL x q c) (Zy es (Q4 A ws) ((X:Int),x2) k))/\Z (Nx w3 wr)) (λ_ i _=>m-(intOf i).toNat)
 case atStart=>exact⟨0,0,0,_,nZ,nZ,rfl,rfl,rfl,HO0,HXb⟩
 clear HO0 HXb
 obtain⟨k,q,c,x,hkm,hqk,rfl,rfl,HLN,HO,HX⟩:=hrel
 have HBW:=HBR.o.next HX.o
 have y1:=HBW.c 1 rfl
 clear HBW
 by_cases hlt:k<m
 ·have hlt':(k:Int)<m:=by omega
  have hx':(X:Int)<m:=by omega
  obtain⟨t0,ht0⟩:∃z,(eat es k).tail=z:=⟨_,rfl⟩
  obtain⟨t1,ht1⟩:∃z,(eat es X).head=z:=⟨_,rfl⟩
  have e0:=Q2 (HXA.o.trans HX.o) hb (HEC.o k hlt).1
  have e1:=Q2 (HXA.o.trans HX.o) hb (HEC.o X hx).2.1
  rw[ht0] at e0
  rw[ht1] at e1
  have HT:Z ((eat es k).tail=t0/\(eat es X).head=t1):=⟨ht0,ht1⟩
  have HXX:Z (((X:Int),x2).1.toNat=X):=zU X
  have HVW:=HBV.o.next HX.o
  have v0:=HVW.c 0 rfl
  have v1:=HVW.c 1 rfl
  clear HVW ht0 ht1
  by_cases hq:t0=t1
  ·have d1:(t0==t1)=true:=by simpa using hq
   have HQ:Z ((eat es k).tail=(eat es ((X:Int),x2).1.toNat).head):=by rw[HXX.o,HT.o.1,HT.o.2];exact hq
   have HAW:=HBA.o.next HX.o
   have z0:=HAW.c 0 rfl
   have z1:=HAW.c 1 rfl
   have z2:=HAW.c 2 rfl
   have z3:=HAW.c 3 rfl
   have z4:=HAW.c 4 rfl
   have HAq:Z (∀p,HA B (wr.drewN p) (sL a0 n0 c0) (sL a1 n1 c1) (sL a2 n2 c2) (sL a3 n c3) (sL a4 n c4) A):=λp=>HAA.o.next ((HXA.o.trans HX.o).trans ⟨rfl,rfl,rfl,lR,λ_ _=>rfl⟩)
   have HWq:Z (∀p,Jm Bw (wr.drewN p) (sL aw n cw) ws):=λp=>HWD.o.next ((HXA.o.trans HX.o).trans ⟨rfl,rfl,rfl,lR,λ_ _=>rfl⟩)
   have HXq:Z (∀p,Nx w3 (wr.drewN p)):=λp=>HX.o.trans ⟨rfl,rfl,rfl,lR,λ_ _=>rfl⟩
   have HOq:Z (∀p,J4 w3.heap.size (wr.drewN p) (sL x q c) (Zy es (Q4 A ws) ((X:Int),x2) k)):=λp=>HO.o.next ⟨rfl,rfl,rfl,lR,λ_ _=>rfl⟩
   clear HAW hq
   go_wp2
   go_quiet (fail)
   go_wp2_with fail
   refine(Ko B Bw _ _ _ a3 a4 aw n c3 c4 cw A ws x2 (k:Int) _ (HAq.o _) (HWq.o _) HOK.o).mono ?_
   rintro e w5 ⟨rfl,hx5⟩
   have HX5:=mh ((HXq.o _).trans hx5)
   have HO5:=mh ((HOq.o _).next hx5)
   clear hx5 HOq HXq HAq HWq z0 z1 z2 z3 z4 v0 v1 e0 e1 y1 d1
   obtain⟨z,hz⟩:∃z,Q4 A ws x2 (k:Int)=z:=⟨_,rfl⟩
   have HZ:=mh hz
   rw[hz]
   clear hz
   by_cases hz0:0<=z
   ·have d2:decide (0<=z)=true:=by simpa using hz0
    have HE:Z (Zy es (Q4 A ws) ((X:Int),x2) (k+1)=Zy es (Q4 A ws) ((X:Int),x2) k++[((k:Int),z)]):=by have h:=Qb3 (st:=Q4 A ws) (v:=((X:Int),x2)) HQ.o (by show 0<=Q4 A ws x2 (k:Int);rw[HZ.o];exact hz0);unfold Z;rw[h];show _++[((k:Int),Q4 A ws x2 (k:Int))]=_;rw[HZ.o]
    have hq1:q<=1000000:=by omega
    go_wp2_with (at_builtin;refine Yf rfl _ _ rfl w3.heap.size q (sL x q c) (Zy es (Q4 A ws) ((X:Int),x2) k) ((k:Int),z) w5 rfl HO5.o rfl HLN.o hq1 HX5.o.size ?_)
    intro a6 c6 w6 r1 r2 r3
    have HX6:Z (Nx w3 w6):=Below.trans HX5.o (r2.below HX5.o.size (λq hq=>(Q7 HO5.o q hq.symm).1))
    have HO6:=mh r1
    clear r1 r2 r3
    go_wp2
    go_roundw
    case rel=>exact⟨k+1,q+1,c6,a6,by omega,by omega,by go_num,rfl,by unfold Z;rw[HE.o];simp[HLN.o],by rw[HE.o];exact HO6.o,HX6⟩
    case measure=>simp[intOf];omega
   ·have d2:decide (0<=z)=false:=by simpa using hz0
    have HE:Z (Zy es (Q4 A ws) ((X:Int),x2) (k+1)=Zy es (Q4 A ws) ((X:Int),x2) k):=Q7e (λc=>hz0 (by have h:=c.2;rw[show Q4 A ws ((X:Int),x2).2 (k:Int)=z from HZ.o] at h;exact h))
    go_wp2
    go_roundw
    case rel=>exact⟨k+1,q,c,x,by omega,by omega,by go_num,rfl,by rw[HE.o];exact HLN.o,by rw[HE.o];exact HO5.o,HX5⟩
    case measure=>simp[intOf];omega
  ·have d1:(t0==t1)=false:=by simpa using hq
   have HE:Z (Zy es (Q4 A ws) ((X:Int),x2) (k+1)=Zy es (Q4 A ws) ((X:Int),x2) k):=Q7e (λc=>hq (by rw[<-HT.o.1,<-HT.o.2];have h:=c.1;rw[HXX.o] at h;exact h))
   have HXq:Z (∀p,Nx w3 (wr.drewN p)):=λp=>HX.o.trans ⟨rfl,rfl,rfl,lR,λ_ _=>rfl⟩
   have HOq:Z (∀p,J4 w3.heap.size (wr.drewN p) (sL x q c) (Zy es (Q4 A ws) ((X:Int),x2) k)):=λp=>HO.o.next ⟨rfl,rfl,rfl,lR,λ_ _=>rfl⟩
   clear hq
   go_wp2
   go_quiet (fail)
   go_wp2
   go_roundw
   case rel=>exact⟨k+1,q,c,x,by omega,by omega,by go_num,rfl,by rw[HE.o];exact HLN.o,by rw[HE.o];exact HOq.o _,HXq.o _⟩
   case measure=>simp[intOf];omega
 have ek:k=m:=by omega
 subst ek
 have hlt0:¬(k:Int)<k:=by omega
 have HF:Z (Zy es (Q4 A ws) ((X:Int),x2) k=nxV es (Q4 A ws) ((X:Int),x2)):=by unfold Z nxV;rw[HM.o]
 go_wp2
 go_ret
 exact⟨⟨_,_,_,rfl,by rw[<-HF.o];exact HO.o.base HXA.o.size⟩,HXA.o.trans HX.o⟩
theorem Q9f {v:Vx}(h:v∉l):(Yh l v).Perm (v::l):=by
 induction l with
 |nil=>exact List.Perm.refl _
 |cons x r ih=>
  unfold Yh
  rw[if_neg (λe=>h (by simp[e]))]
  split
  ·exact List.Perm.refl _
  ·exact((ih (λc=>h (by simp[c]))).cons x).trans (List.Perm.swap v x r)
theorem Qfw {st:Int->Int->Int}(i:Nat):Yh (stV st i) ((i:Int),st 0 (i:Int))=stV st (i+1):=by
 rw[A6 (λx hx=>?_)]
 ·rfl
 ·obtain⟨k,hk,rfl⟩:=Q73 hx
  exact oL (by show(k:Int)<i;omega)
theorem J4.len (h:J4 C w (sL a n c) l):l.length=n:=by
 obtain⟨a',c',e⟩:=Qd h
 simp only[zC] at e
 exact e.2.1.symm
theorem J4.cell (h:J4 C w (sL a n c) l)(hi:i<l.length):∃b o,(a=some (aD b 0)/\o=0/\True)/\b<w.heap.size/\HVt w b (i*2) (vtx l i):=by
 obtain⟨b,c',e,-,-,hB,hb,-⟩:=Yj h rfl (by decide) (λ_=>rfl) (zH hi)
 simp only[zC] at e
 obtain⟨b2,c2,e2,-,-,-,-,k⟩:=Yj h rfl (by decide) (λ_=>rfl) (zH hi)
 simp only[zC] at e2
 have eb:b2=b:=by
  have x:=e.1.symm.trans e2.1
  simp only[Option.some.injEq,Addr.mk.injEq] at x
  exact x.1.symm
 subst eb
 refine⟨b2,0,⟨e.1,rfl,trivial⟩,hb,?_⟩
 have k0:=k 0 (by decide)
 have k1:=k 1 (by decide)
 rw[Zx hi]
 exact⟨k0,k1⟩
theorem Jw.addr {B:Nat}{m:Nat}(h:Jw B w (sL a m c) es)(hm:es.length=m)(h0:0<m):∃b off,a=some (aD b off):=by
 obtain⟨a',c',e,-,hk⟩:=h
 simp only[zC] at e
 obtain⟨b,off,e2,-⟩:=hk (by omega)
 exact⟨b,off,e.1.trans e2⟩
structure RcS (w2 wr:World)(tv av nv:Value)(t al nx:List Vx):Prop where
 t:J4 w2.heap.size wr tv t
 a:J4 w2.heap.size wr av al
 n:J4 w2.heap.size wr nv nx
 pa:∀g,tv.ownBlock=some g->av.ownBlock≠some g
 pn:∀g,tv.ownBlock=some g->nv.ownBlock≠some g
 nx_:Nx w2 wr
section
variable {w2 wr w':World}{tv av nv:Value}{t al nx:List Vx}
theorem RcS.next (h:RcS w2 wr tv av nv t al nx)(k:Nx wr w'):RcS w2 w' tv av nv t al nx:=⟨h.t.next k,h.a.next k,h.n.next k,h.pa,h.pn,h.nx_.trans k⟩
theorem Q0l (w:World)(C:Nat):J4 C w sN []:=⟨by simp,.inl ⟨rfl,rfl⟩⟩
theorem RcS.start (h:J4 w2.heap.size wr tv t)(k:Nx w2 wr):RcS w2 (wr.alloc (.cells #[] 112)) tv (sL (some (aD wr.heap.size 0)) 0 0) sN t [] []:=
 ⟨h.next (Qe _ _),T3 wr _ k.size,Q0l _ _,λg hg e=>by
  have h1:=(Q7 h g hg).2
  have h2:wr.heap.size=g:=by simpa [Value.ownBlock] using e
  omega,λg hg e=>by simp[Value.ownBlock] at e,k.trans (Qe _ _)⟩
theorem RcS.app (h:RcS w2 wr tv av nv t al nx){tv':Value}{t':List Vx}(r1:J4 w2.heap.size w' tv' t')(r2:Chg (λx=>some x=tv.ownBlock) wr w')(r3:∀g,tv'.ownBlock=some g->tv.ownBlock=some g\/wr.heap.size<=g):RcS w2 w' tv' av nv t' al nx:=
 ⟨r1,J5 h.a r2 (λg hg e=>h.pa g e.symm hg),J5 h.n r2 (λg hg e=>h.pn g e.symm hg),λg hg e=>by
  rcases r3 g hg with k|k
  ·exact h.pa g k e
  ·have:=(Q7 h.a g e).2;omega,λg hg e=>by
  rcases r3 g hg with k|k
  ·exact h.pn g k e
  ·have:=(Q7 h.n g e).2;omega,Below.trans h.nx_ (r2.below h.nx_.size (λq hq=>(Q7 h.t q hq.symm).1))⟩
theorem RcS.ins (h:RcS w2 wr tv av nv t al nx)(k:Nx wr w'){av':Value}{al':List Vx}(r1:J4 w2.heap.size w' av' al')(r3:∀g,av'.ownBlock=some g->av.ownBlock=some g\/wr.heap.size<=g):RcS w2 w' tv av' nv t al' nx:=
 ⟨h.t.next k,r1,h.n.next k,λg hg e=>by
  rcases r3 g e with c|c
  ·exact h.pa g hg c
  ·have:=(Q7 h.t g hg).2;omega,h.pn,h.nx_.trans k⟩
theorem RcS.take (h:RcS w2 wr tv av nv t al nx)(k:Nx wr w'){nv':Value}{nx':List Vx}(r:J4 wr.heap.size w' nv' nx'):RcS w2 w' tv av nv' t al nx':=
 ⟨h.t.next k,h.a.next k,r.base h.nx_.size,h.pa,λg hg e=>by
  have:=(Q7 h.t g hg).2
  have:=(Q7 r g e).1
  omega,h.nx_.trans k⟩
theorem RcS.forget (h:RcS w2 wr tv av nv t al nx):RcS w2 wr tv av sN t al []:=⟨h.t,h.a,Q0l _ _,h.pa,λg hg e=>by simp[Value.ownBlock] at e,h.nx_⟩
end
structure Qez (es:List Eg)(st:Int->Int->Int)(k:Nat)(al:List Vx):Prop where
 asc:Ww al
 perm:al.Perm (bf es st k).1
 le:k<=(bf es st k).1.length
 go:∀j,j<k->j<(bf es st j).1.length/\(bf es st j).2<=40000
 ar:(bf es st k).2<=44000
def Fi (es:List Eg)(st:Int->Int->Int)(k:Nat)(al:List Vx):Prop:=Qez es st k al/\¬(k<(bf es st k).1.length/\(bf es st k).2<=40000)
theorem Q3x (B0 B Bw:Nat)(r0 ra r2 r3 a0 a1 a2 a3 a4 aw:Option Addr)(m0 d0 m rc m2 d2 m3 d3 n0 c0 n1 c1 n2 c2 n c3 c4 cw:Nat)(es:List Eg)(A:Au)(ws:List (List Int))(w:World)
  (hE:Jw B0 w (sL ra m rc) es) (hm:es.length=m) (hA:HA B w (sL a0 n0 c0) (sL a1 n1 c1) (sL a2 n2 c2) (sL a3 n c3) (sL a4 n c4) A) (hW:Jm Bw w (sL aw n cw) ws) (hok:Qey A ws n) (hml:m<=4000) (hst:Q9v (Q4 A ws) es.length n) :
  Calls prog 61 #[.agg #[sL r0 m0 d0,sL ra m rc,sL r2 m2 d2,sL r3 m3 d3],.agg #[sL a0 n0 c0,sL a1 n1 c1,sL a2 n2 c2,sL a3 n c3,sL a4 n c4],sL aw n cw] w λe w'=>(∃a' q' c',e=.returned (sL a' q' c')/\∃al,J4 w.heap.size w' (sL a' q' c') al/\∃k,Fi es (Q4 A ws) k al)/\Nx w w':=by
 have HWD:=mh hW
 have HAA:=mh hA
 have HOK:=mh hok
 have HEE:=mh hE
 have HST:=mh hst
 have HM:=mh hm
 have HR0:Z (BT (w.alloc (.cells #[sL r0 m0 d0,sL ra m rc,sL r2 m2 d2,sL r3 m3 d3] 86)) w.heap.size #[sL r0 m0 d0,sL ra m rc,sL r2 m2 d2,sL r3 m3 d3] 86):=BT.new _ _ _ _ rfl
 have HX0:Z (Nx w (w.alloc (.cells #[sL r0 m0 d0,sL ra m rc,sL r2 m2 d2,sL r3 m3 d3] 86))):=Qe _ _
 have HS0:Z ((w.alloc (.cells #[sL r0 m0 d0,sL ra m rc,sL r2 m2 d2,sL r3 m3 d3] 86)).heap.size=w.heap.size+1):=by unfold Z;rw[Q1]
 have HBA:Z (BT ((w.alloc (.cells #[sL r0 m0 d0,sL ra m rc,sL r2 m2 d2,sL r3 m3 d3] 86)).alloc (.cells #[sL a0 n0 c0,sL a1 n1 c1,sL a2 n2 c2,sL a3 n c3,sL a4 n c4] 98)) (w.heap.size+1) #[sL a0 n0 c0,sL a1 n1 c1,sL a2 n2 c2,sL a3 n c3,sL a4 n c4] 98):=by have h:=BT.new (w.alloc (.cells #[sL r0 m0 d0,sL ra m rc,sL r2 m2 d2,sL r3 m3 d3] 86)) #[sL a0 n0 c0,sL a1 n1 c1,sL a2 n2 c2,sL a3 n c3,sL a4 n c4] 98 _ rfl;rw[HS0.o] at h;exact h
 have HX1:Z (Nx (w.alloc (.cells #[sL r0 m0 d0,sL ra m rc,sL r2 m2 d2,sL r3 m3 d3] 86)) ((w.alloc (.cells #[sL r0 m0 d0,sL ra m rc,sL r2 m2 d2,sL r3 m3 d3] 86)).alloc (.cells #[sL a0 n0 c0,sL a1 n1 c1,sL a2 n2 c2,sL a3 n c3,sL a4 n c4] 98))):=Qe _ _
 have HXA:=mh (HX0.o.trans HX1.o)
 have HBR:=mh (HR0.o.next HX1.o)
 clear hW hA hok hE hst hm HR0 HX0 HX1 HS0
 go_enter func61,ntmps61
 go_upto_region 1 with fail
 generalize (w.alloc (.cells #[sL r0 m0 d0,sL ra m rc,sL r2 m2 d2,sL r3 m3 d3] 86)).alloc (.cells #[sL a0 n0 c0,sL a1 n1 c1,sL a2 n2 c2,sL a3 n c3,sL a4 n c4] 98)=w2 at *
 have HO0:Z (J4 w2.heap.size (w2.alloc (.cells #[] 112)) (sL (some (aD w2.heap.size 0)) 0 0) (stV (Q4 A ws) 0)):=T3 w2 _ lR
 have HXb:Z (Nx w2 (w2.alloc (.cells #[] 112))):=Qe _ _
 go_upto_region 2 with fail
 generalize w2.alloc (.cells #[] 112)=ws0 at *
 go_wp2
 go_loopw [7,8] (λs7 s8 wr=>∃(k c:Nat) (x:Option Addr),k<=m/\s8=iV k/\s7=sL x k c/\Z (J4 w2.heap.size wr (sL x k c) (stV (Q4 A ws) k))/\Z (Nx w2 wr)) (λ_ i _=>m-(intOf i).toNat)
 case atStart=>exact⟨0,0,_,nZ,rfl,rfl,HO0,HXb⟩
 clear HO0 HXb
 obtain⟨k,c,x,hkm,rfl,rfl,HO,HX⟩:=hrel
 have HBW:=HBR.o.next HX.o
 have y1:=HBW.c 1 rfl
 clear HBW
 by_cases hlt:k<m
 ·have hlt':(k:Int)<m:=by omega
  have HBW:=HBA.o.next HX.o
  have z0:=HBW.c 0 rfl
  have z1:=HBW.c 1 rfl
  have z2:=HBW.c 2 rfl
  have z3:=HBW.c 3 rfl
  have z4:=HBW.c 4 rfl
  clear HBW
  go_wp2_with fail
  refine(Ko B Bw _ _ _ a3 a4 aw n c3 c4 cw A ws 0 (k:Int) _ (HAA.o.next (HXA.o.trans HX.o)) (HWD.o.next (HXA.o.trans HX.o)) HOK.o).mono ?_
  rintro e w5 ⟨rfl,hx5⟩
  have HX5:=mh (HX.o.trans hx5)
  have HO5:=mh (HO.o.next hx5)
  have hk1:k<=1000000:=by omega
  have HLK:Z ((stV (Q4 A ws) k).length=k):=Yd k
  clear hx5 z0 z1 z2 z3 z4 y1
  have HE:Z (stV (Q4 A ws) (k+1)=stV (Q4 A ws) k++[((k:Int),Q4 A ws 0 (k:Int))]):=rfl
  generalize Q4 A ws 0 (k:Int)=z at *
  go_wp2_with (at_builtin;refine Yf rfl _ _ rfl w2.heap.size k (sL x k c) (stV (Q4 A ws) k) ((k:Int),z) w5 rfl HO5.o rfl HLK.o hk1 HX5.o.size ?_)
  intro a6 c6 w6 q1 q2 q3
  have HX6:Z (Nx w2 w6):=Below.trans HX5.o (q2.below HX5.o.size (λq hq=>(Q7 HO5.o q hq.symm).1))
  have HO6:=mh q1
  clear q1 q2 q3
  go_wp2
  go_roundw
  case rel=>exact⟨k+1,c6,a6,by omega,by go_num,rfl,by rw[HE.o];exact HO6.o,HX6⟩
  case measure=>simp[intOf];omega
 have ek:k=m:=by omega
 subst ek
 have hlt0:¬(k:Int)<k:=by omega
 obtain⟨wA,hwA⟩:∃z,z=wr:=⟨_,rfl⟩
 subst hwA
 have HS0:Z (RcS w2 (wA.alloc (.cells #[] 112)) (sL x k c) (sL (some (aD wA.heap.size 0)) 0 0) sN (stV (Q4 A ws) k) (stV (Q4 A ws) 0) []):=RcS.start HO.o HX.o
 clear HO HX
 go_upto_region 7 with fail
 generalize wA.alloc (.cells #[] 112)=wB at *
 generalize (some ((aD wA.heap.size 0):Addr))=av0 at *
 clear y1
 go_wp2
 go_loopw [9,10] (λs9 s10 wr=>∃(i p d:Nat) (y:Option Addr),i<=k/\s10=iV i/\s9=sL y p d/\Z (RcS w2 wr (sL x k c) (sL y p d) sN (stV (Q4 A ws) k) (stV (Q4 A ws) i) [])) (λ_ i _=>k-(intOf i).toNat)
 case atStart=>exact⟨0,0,0,_,nZ,rfl,rfl,HS0⟩
 clear HS0
 obtain⟨i,p,d,y,hik,rfl,rfl,HS⟩:=hrel
 by_cases hlt:i<k
 ·have hlt':(i:Int)<k:=by omega
  obtain⟨tb,to',te,htb,hcc⟩:=HS.o.t.cell (i:=i) (by rw[Yd];exact hlt)
  obtain⟨rfl,-,-⟩:=te
  have HVI:Z (vtx (stV (Q4 A ws) k) i=((i:Int),Q4 A ws 0 (i:Int))):=Ef hlt
  have e0:=hcc.1
  have e1:=hcc.2
  rw[HVI.o] at e0 e1
  have HIN:Z (Yh (stV (Q4 A ws) i) ((i:Int),Q4 A ws 0 (i:Int))=stV (Q4 A ws) (i+1)):=Qfw i
  clear hcc
  generalize Q4 A ws 0 (i:Int)=z at *
  go_wp2_with fail
  refine(Im w2.heap.size _ (stV (Q4 A ws) i) (i:Int) z _ HS.o.a HS.o.nx_.size (Q74 i) (by rw[Yd];omega)).mono ?_
  rintro e w5 ⟨⟨a5,n5,c5,rfl,hO,hg⟩,hx⟩
  have HS5:Z (RcS w2 w5 (sL (some (aD tb 0)) k c) (sL a5 n5 c5) sN (stV (Q4 A ws) k) (stV (Q4 A ws) (i+1)) []):=by have h:=HS.o.ins hx hO hg;rw[HIN.o] at h;exact h
  clear hO hg hx e0 e1
  go_wp2
  go_roundw
  case rel=>exact⟨i+1,n5,c5,a5,by omega,by go_num,rfl,HS5⟩
  case measure=>simp[intOf];omega
 have ei:i=k:=by omega
 subst ei
 have HRI:Z (Qez es (Q4 A ws) 0 (stV (Q4 A ws) i)):=by
  refine⟨Q74 i,?_,?_,λj hj=>absurd hj (zK _),?_⟩
  ·show(stV (Q4 A ws) i).Perm (stV (Q4 A ws) es.length)
   rw[HM.o]
  ·exact nZ
  ·show(0:Nat)<=44000
   omega
 have HS1:Z (RcS w2 wr (sL x i c) (sL y p d) sN (bf es (Q4 A ws) 0).1 (stV (Q4 A ws) i) []):=by
  have e:(bf es (Q4 A ws) 0).1=stV (Q4 A ws) i:=by show stV (Q4 A ws) es.length=_;rw[HM.o]
  unfold Z
  rw[e]
  exact HS.o
 have HB0:Z ((bf es (Q4 A ws) 0).1.length=i/\(bf es (Q4 A ws) 0).2=0):=⟨by show(stV (Q4 A ws) es.length).length=i;rw[Yd,HM.o],rfl⟩
 clear HS
 go_wp2
 go_loopw [7,9,11,12] (λs7 s9 s11 s12 wr=>∃(k q c p d ar:Nat) (x y:Option Addr) (al:List Vx),k<=q/\ar<=44000/\s12=iV k/\s11=iV ar/\s7=sL x q c/\s9=sL y p d/\Z (Qez es (Q4 A ws) k al)/\Z ((bf es (Q4 A ws) k).1.length=q/\(bf es (Q4 A ws) k).2=ar)/\Z (RcS w2 wr (sL x q c) (sL y p d) sN (bf es (Q4 A ws) k).1 al [])) (λ_ _ _ i _=>60000-(intOf i).toNat)
 case atStart=>exact⟨0,i,c,p,d,0,x,y,_,nZ,by omega,rfl,rfl,rfl,rfl,HRI,HB0,HS1⟩
 clear HRI HB0 HS1
 obtain⟨k,q,c,p,d,ar,x,y,al,hkq0,har0,rfl,rfl,rfl,rfl,HRI,HBK,HS⟩:=hrel
 have hq4:q<=48000:=by have h1:=Q2k (es:=es) (st:=(Q4 A ws)) k;rw[HBK.o.1,HBK.o.2,HM.o] at h1;omega
 by_cases hlt:k<q/\ar<=40000
 ·have hkq:=hlt.1
  have har:=hlt.2
  have hlt':(k:Int)<q:=by omega
  have da0:decide ((ar:Int)<=40000)=true:=yB (by omega)
  obtain⟨tb,to',te,htb,hcc⟩:=HS.o.t.cell (i:=k) (by rw[HBK.o.1];exact hkq)
  obtain⟨rfl,rfl,-⟩:=te
  obtain⟨u1,hu1⟩:∃z,(vtx (bf es (Q4 A ws) k).1 k).1=z:=⟨_,rfl⟩
  obtain⟨u2,hu2⟩:∃z,(vtx (bf es (Q4 A ws) k).1 k).2=z:=⟨_,rfl⟩
  have hok:=Q4k HST.o k _ (Wz (l:=(bf es (Q4 A ws) k).1) (i:=k) (by rw[HBK.o.1];exact hkq))
  obtain⟨X,hX⟩:∃X:Nat,u1=(X:Int):=⟨u1.toNat,by rw[<-hu1];have:=hok.1;omega⟩
  have hXm:X<i:=by have:=hok.2.1;rw[hu1,hX,HM.o] at this;omega
  subst hX
  have e0:=hcc.1
  have e1:=hcc.2
  rw[hu1] at e0
  rw[hu2] at e1
  have HUE:Z (vtx (bf es (Q4 A ws) k).1 k=((X:Int),u2)):=Prod.ext hu1 hu2
  have HXr:=mh HS.o.nx_
  obtain⟨b,off,hra⟩:=Jw.addr HEE.o HM.o (by omega)
  subst hra
  have HBW:=HBR.o.next HXr.o
  have y0:=HBW.c 0 rfl
  have y1:=HBW.c 1 rfl
  have y2:=HBW.c 2 rfl
  have y3:=HBW.c 3 rfl
  clear HBW
  have HBW:=HBA.o.next HXr.o
  have z0:=HBW.c 0 rfl
  have z1:=HBW.c 1 rfl
  have z2:=HBW.c 2 rfl
  have z3:=HBW.c 3 rfl
  have z4:=HBW.c 4 rfl
  clear HBW
  clear hcc hu1 hu2 hok
  obtain⟨w3,hw3⟩:∃z,z=wr:=⟨_,rfl⟩
  subst hw3
  go_wp2
  go_region_held3 (λw'=>w'.cell? (aD w.heap.size 0)=some (sL r0 m0 d0)/\w'.cell? (aD w.heap.size 1)=some (sL (some (aD b off)) i rc)/\w'.cell? (aD w.heap.size 2)=some (sL r2 m2 d2)/\w'.cell? (aD w.heap.size 3)=some (sL r3 m3 d3)/\w'.cell? (aD (w.heap.size+1) 0)=some (sL a0 n0 c0)/\w'.cell? (aD (w.heap.size+1) 1)=some (sL a1 n1 c1)/\w'.cell? (aD (w.heap.size+1) 2)=some (sL a2 n2 c2)/\w'.cell? (aD (w.heap.size+1) 3)=some (sL a3 n c3)/\w'.cell? (aD (w.heap.size+1) 4)=some (sL a4 n c4)/\w'.cell? (aD tb (k*2))=some (iV (X:Int))/\w'.cell? (aD tb (k*2+1))=some (iV u2)) (first|exact⟨Q0 HX5.o y0,Q0 HX5.o y1,Q0 HX5.o y2,Q0 HX5.o y3,Q0 HX5.o z0,Q0 HX5.o z1,Q0 HX5.o z2,Q0 HX5.o z3,Q0 HX5.o z4,Q0 HX5.o e0,Q0 HX5.o e1⟩|(go_keep;done)) (first|(go_at_call 62;refine(Ew B0 B Bw _ _ _ _ _ _ _ _ _ b off m0 d0 _ rc m2 d2 m3 d3 n0 c0 n1 c1 n2 c2 n c3 c4 cw es A ws X u2 _ (by exact HEE.o.next ((HXA.o.trans HXr.o).trans (Below.refl _ _).drew)) HM.o (by exact HAA.o.next ((HXA.o.trans HXr.o).trans (Below.refl _ _).drew)) (by exact HWD.o.next ((HXA.o.trans HXr.o).trans (Below.refl _ _).drew)) HOK.o hXm hml).mono ?_;rintro e w5 ⟨⟨na,r,nc,rfl,hO⟩,hx⟩;have HX5:Z (Nx w3 w5):=(Below.refl _ _).drew.trans hx;have HNO:Z (J4 w3.heap.size w5 (sL na r nc) (nxV es (Q4 A ws) ((X:Int),u2))):=hO;clear hO hx))
  all_goals
   have HNR0:=mh HNO.o.len
   have hrm:r<=4000:=by rw[<-HNR0.o];have:=Q7d (es:=es) (st:=(Q4 A ws)) ((X:Int),u2) es.length;rw[HM.o] at this;unfold nxV;rw[HM.o];omega
   have HSN0:=mh (HS.o.take HX5.o HNO.o)
   clear y0 y1 y2 y3 z0 z1 z2 z3 z4 e0 e1 HS HNO HX5
   obtain⟨T,hT⟩:∃z,z=(bf es (Q4 A ws) k).1:=⟨_,rfl⟩
   obtain⟨nx,hnx⟩:∃z,z=nxV es (Q4 A ws) ((X:Int),u2):=⟨_,rfl⟩
   have HTE:=mh hT
   have HNE:Z (nx=nxV es (Q4 A ws) (vtx (bf es (Q4 A ws) k).1 k)):=by rw[HUE.o];exact hnx
   have HNR:Z (nx.length=r):=by rw[hnx];exact HNR0.o
   have HSN:Z (RcS w2 w5 (sL (some (aD tb 0)) q c) (sL y p d) (sL na r nc) (V1 T nx 0) al nx):=by unfold Z;show RcS _ _ _ _ _ T al nx;rw[hT,hnx];exact HSN0.o
   have HQ0:Z ((V1 T nx 0).length=q):=by unfold Z;show T.length=q;rw[hT];exact HBK.o.1
   have HAL0:Z (Ww al/\al.Perm (V1 T nx 0)):=by unfold Z;show Ww al/\al.Perm T;rw[hT];exact⟨HRI.o.asc,HRI.o.perm⟩
   clear hT hnx HSN0 HNR0
   obtain⟨q_0,hq_0⟩:∃z,z=q:=⟨_,rfl⟩
   subst hq_0
   go_wp2
   go_loopw [7,9,14] (λs7 s9 s14 wr=>∃(j q c p d:Nat) (x y:Option Addr) (al:List Vx),j<=r/\q<=q_0+j/\s14=iV j/\s7=sL x q c/\s9=sL y p d/\Z ((V1 T nx j).length=q)/\Z (Ww al/\al.Perm (V1 T nx j))/\Z (RcS w2 wr (sL x q c) (sL y p d) (sL na r nc) (V1 T nx j) al nx)) (λ_ _ i _=>r-(intOf i).toNat)
   case atStart=>exact⟨0,q_0,c,p,d,(some (aD tb 0)),y,al,nZ,by omega,rfl,rfl,rfl,HQ0,HAL0,HSN⟩
   clear HSN HQ0 HAL0
   obtain⟨j,q,c,p,d,x,y,al,hjr,hqj,rfl,rfl,rfl,HQ,HAL,HS⟩:=hrel
   by_cases hlt:j<r
   ·have hlt':(j:Int)<r:=by omega
    obtain⟨nb,no',ne,hnb,hcc⟩:=HS.o.n.cell (i:=j) (by rw[HNR.o];exact hlt)
    obtain⟨rfl,-,-⟩:=ne
    obtain⟨u1,hu1⟩:∃z,(vtx nx j).1=z:=⟨_,rfl⟩
    obtain⟨u2,hu2⟩:∃z,(vtx nx j).2=z:=⟨_,rfl⟩
    have e0:=hcc.1
    have e1:=hcc.2
    rw[hu1] at e0
    rw[hu2] at e1
    have HUE:Z (vtx nx j=(u1,u2)):=Prod.ext hu1 hu2
    have HNT:Z (V1 T nx (j+1)=Q4q (V1 T nx j) (u1,u2)):=by unfold Z;rw[V1,HUE.o]
    clear hcc hu1 hu2
    go_wp2_with fail
    refine(Pb w2.heap.size _ al u1 u2 _ HS.o.a.held HAL.o.1 (by have:=HAL.o.2.length_eq;have:=HQ.o;omega)).mono ?_
    rintro e w5 ⟨rfl,hx⟩
    have HS5:=mh (HS.o.next hx)
    have HX5:=mh hx
    clear hx
    by_cases hu:(u1,u2)∈al
    ·have hi0:¬Xv al (u1,u2)<0:=by unfold Xv;rw[if_pos hu];omega
     have d1:decide (Xv al (u1,u2)<0)=false:=by simpa using hi0
     have HE:Z (V1 T nx (j+1)=V1 T nx j):=by unfold Z;rw[HNT.o,Q4q,if_pos (HAL.o.2.mem_iff.1 hu)]
     generalize Xv al (u1,u2)=iz at *
     clear e0 e1 hu
     go_wp2
     go_roundw
     case rel=>exact⟨j+1,q,c,p,d,x,y,al,by omega,by omega,by go_num,rfl,rfl,by rw[HE.o];exact HQ.o,by rw[HE.o];exact HAL.o,by rw[HE.o];exact HS5.o⟩
     case measure=>simp[intOf];omega
    ·have hi0:Xv al (u1,u2)<0:=by rw[Q4a hu];omega
     have d1:decide (Xv al (u1,u2)<0)=true:=by simpa using hi0
     have HE:Z (V1 T nx (j+1)=V1 T nx j++[(u1,u2)]):=by unfold Z;rw[HNT.o,Q4q,if_neg (λh=>hu (HAL.o.2.mem_iff.2 h))]
     have HAL1:Z (Ww (Yh al (u1,u2))/\(Yh al (u1,u2)).Perm (V1 T nx j++[(u1,u2)])):=⟨Q47 HAL.o.1,(Q9f hu).trans (((HAL.o.2).cons _).trans (List.perm_append_singleton _ _).symm)⟩
     have f0:=Q2 HX5.o hnb e0
     have f1:=Q2 HX5.o hnb e1
     generalize Xv al (u1,u2)=iz at *
     clear hu
     go_wp2_with fail
     refine(Im w2.heap.size _ al u1 u2 _ HS5.o.a HS5.o.nx_.size HAL.o.1 (by have:=HAL.o.2.length_eq;have:=HQ.o;omega)).mono ?_
     rintro e w6 ⟨⟨a6,n6,c6,rfl,hO,hg⟩,hx⟩
     have HS6:=mh (HS5.o.ins hx hO hg)
     have g0:=Q2 hx (zJ hnb HX5.o.size) f0
     have g1:=Q2 hx (zJ hnb HX5.o.size) f1
     have hq1:q<=1000000:=by omega
     clear hO hg hx e0 e1 f0 f1
     go_wp2_with (at_builtin;refine Yf rfl _ _ rfl w2.heap.size q (sL x q c) (V1 T nx j) (u1,u2) w6 rfl HS6.o.t rfl HQ.o hq1 HS6.o.nx_.size ?_)
     intro a7 c7 w7 q1 q2 q3
     have HS7:=mh (HS6.o.app q1 q2 q3)
     clear q1 q2 q3 g0 g1
     go_wp2
     go_roundw
     case rel=>exact⟨j+1,q+1,c7,n6,c6,a7,a6,_,by omega,by omega,by go_num,rfl,rfl,by unfold Z;rw[HE.o];simp[HQ.o],by rw[HE.o];exact HAL1.o,by rw[HE.o];exact HS7.o⟩
     case measure=>simp[intOf];omega
   have ej:j=r:=by omega
   subst ej
   have hlt0:¬(j:Int)<j:=by omega
   have HR1:Z (Qez es (Q4 A ws) (k+1) al):=by
    obtain⟨h1,h2,h3,h4,h5⟩:=HRI.o
    have hk:k<(bf es (Q4 A ws) k).1.length:=by rw[HBK.o.1];exact hkq
    have e:=U5 hk
    refine⟨HAL.o.1,?_,?_,λi hi=>?_,?_⟩
    ·rw[e]
     show al.Perm (V1 _ _ _)
     have h:=HAL.o.2
     rw[<-HNE.o,<-HTE.o,HNR.o]
     exact h
    ·have l:=Q6f (es:=es) (st:=(Q4 A ws)) k
     obtain⟨z,hz⟩:=l
     rw[hz,zA]
     omega
    ·by_cases ei:i=k
     ·subst ei;exact⟨hk,by rw[HBK.o.2];exact har⟩
     ·exact h4 i (by omega)
    ·have:=Qej (es:=es) (st:=(Q4 A ws)) k
     have:=HBK.o.2
     have:=HM.o
     omega
   have HB1:Z ((bf es (Q4 A ws) (k+1)).1.length=q/\(bf es (Q4 A ws) (k+1)).2=ar+j):=by
    have e:=U5 (es:=es) (st:=(Q4 A ws)) (k:=k) (by rw[HBK.o.1];exact hkq)
    refine⟨?_,?_⟩
    ·rw[e]
     show(V1 _ _ _).length=q
     rw[<-HNE.o,<-HTE.o,HNR.o]
     exact HQ.o
    ·rw[e]
     show _+_=_
     rw[<-HNE.o,HNR.o,HBK.o.2]
   have HS1:Z (RcS w2 wr (sL x q c) (sL y p d) sN (bf es (Q4 A ws) (k+1)).1 al []):=by
    have h:=HS.o.forget
    have e:=U5 (es:=es) (st:=(Q4 A ws)) (k:=k) (by rw[HBK.o.1];exact hkq)
    unfold Z
    rw[e]
    show RcS w2 wr _ _ _ (V1 _ _ _) al []
    rw[<-HNE.o,<-HTE.o,HNR.o]
    exact h
   have har1:ar+j<=44000:=by omega
   have hqq:q_0<=q:=by have h:=(Q1z (t:=T) (nx:=nx) j).2;rw[HQ.o,HTE.o,HBK.o.1] at h;exact h
   go_wp2
   go_roundw
   case rel=>exact⟨k+1,q,c,p,d,ar+j,x,y,al,by omega,by omega,by go_num,by go_num,rfl,rfl,HR1,HB1,HS1⟩
   case measure=>simp[intOf];omega
 have HEnd:Z (∃k,Fi es (Q4 A ws) k al):=by
  refine⟨k,HRI.o,?_⟩
  rw[HBK.o.1,HBK.o.2]
  omega
 have HFin:=mh (HS.o.a.base HXA.o.size)
 have HXF:=mh (HXA.o.trans HS.o.nx_)
 clear HS HRI HBK
 by_cases hk1:k<q
 ·have d1:(k:Int)<q:=by omega
  have d2:decide ((ar:Int)<=40000)=false:=yC (by omega)
  go_wp2
  go_ret
  exact⟨⟨_,_,_,rfl,al,HFin.o,HEnd.o⟩,HXF.o⟩
 ·have d1:¬(k:Int)<q:=by omega
  go_wp2
  go_ret
  exact⟨⟨_,_,_,rfl,al,HFin.o,HEnd.o⟩,HXF.o⟩
theorem BT.setOther (h:BT w b cs t)(hn:b≠g)(i:Nat)(v:Value):BT (w.setCell (aD g i) v) b cs t:=h.chg (Chg.set (S:=λx=>x=g) _ _ _ rfl) hn
theorem Qk {u:Nat}(h:w.ownsRow C t sz v n xs)(hb:BT w g cs u)(hn:u≠t)(i:Nat)(x:Value):(w.setCell (aD g i) x).ownsRow C t sz v n xs:=
 J5 h (Chg.set (S:=λy=>y=g) _ _ _ rfl) (λk hk e=>by
  have e':=e
  subst e'
  exact hb.neRow h hn hk.symm)
theorem Uv {v':Value}(h:w.ownsRow C t sz v n xs)(ha:∀g,v'.ownBlock=some g->v.ownBlock≠some g)(hc:Chg (λx=>some x=v'.ownBlock) w w'):w'.ownsRow C t sz v n xs:=
 J5 h hc (λg hg hs=>ha g hs.symm hg)
theorem BT.row {u:Nat}(h:BT w b cs u)(k:w.ownsRow C t sz v n xs)(hn:u≠t)(hc:Chg (λx=>some x=v.ownBlock) w w'):BT w' b cs u:=h.chg hc (h.neRow k hn)
theorem Q8 {F:Fence}{P:Program}{ops:Array Oper}{Q:Exit->Act->World->Prop}{md:Region.Mode}{S:World->Prop}{fuel:Nat}{listed:Array Bool}{a:Act}(hr:Region.ready md ops listed=[i])(hcl:Cl md ops listed)(h:Cl md ops (listed.setIfInBounds i true)->wpOpIn F n P ops Q i (λa' w'=>(c<=i\/S w')/\Vz F n P md ops Q S c fuel (listed.setIfInBounds i true) a' w') a w):Vz F n P md ops Q S c (fuel+1) listed a w:=
 Qh hr (h (hcl.step (by rw[hr];simp)))
theorem U9 {cs':Array Value}(hb:BT w b cs t):BT (w.setRow b cs') b cs' t/\Chg (λx=>x=b) w (w.setRow b cs'):=by
 have hh:w.heap[b]?=some (.cells cs t (0,0)):=hb
 have hl:=hb.lt
 refine⟨?_,?_⟩
 ·unfold BT World.setRow
  simp[Array.getElem?_modify,hh]
 ·refine⟨rfl,rfl,rfl,by simp[World.setRow],λx hx hn=>?_⟩
  have hn':¬b=x:=λe=>hn e.symm
  simp[World.setRow,Array.getElem?_modify,hn']
structure MS (w0 w:World)(bl:List (Nat×Array Value×Nat))(rs:List (Value×List Int)):Prop where
 nx:Nx w0 w
 bx:∀(j:Nat) (p:Nat×Array Value×Nat),bl[j]?=some p->BT w p.1 p.2.1 p.2.2/\w0.heap.size<=p.1/\p.2.2≠2
 nd:∀(j j':Nat) (p p':Nat×Array Value×Nat),j≠j'->bl[j]?=some p->bl[j']?=some p'->p.1≠p'.1
 rw:∀(j:Nat) (r:Value×List Int),rs[j]?=some r->Q5 w0.heap.size w r.1 r.2
 ap:∀(j j':Nat) (r r':Value×List Int) (g:Nat),j≠j'->rs[j]?=some r->rs[j']?=some r'->r.1.ownBlock=some g->r'.1.ownBlock≠some g
section
variable {w0 w w':World}{bl:List (Nat×Array Value×Nat)}{rs:List (Value×List Int)}
theorem MS.start (w:World):MS w w [] []:=⟨Nx.refl _,λj p h=>by simp at h,λj j' p p' _ h=>by simp at h,λj r h=>by simp at h,λj j' r r' g _ h=>by simp at h⟩
theorem MS.next (h:MS w0 w bl rs)(k:Nx w w'):MS w0 w' bl rs:=⟨h.nx.trans k,λj p hp=>⟨(h.bx j p hp).1.next k,(h.bx j p hp).2⟩,h.nd,λj r hr=>(h.rw j r hr).next k,h.ap⟩
theorem MS.box (h:MS w0 w bl rs)(k:Nat)(hk:bl[k]?=some (b,cs,t)):BT w b cs t:=(h.bx k _ hk).1
theorem MS.row (h:MS w0 w bl rs)(k:Nat)(hk:rs[k]?=some (v,zs)):Q5 w0.heap.size w v zs:=h.rw k _ hk
theorem MS.set (h:MS w0 w bl rs)(k:Nat)(hk:bl[k]?=some (b,cs,t))(i:Nat)(v:Value):MS w0 (w.setCell (aD b i) v) (bl.set k (b,cs.setIfInBounds i v,t)) rs:=by
 obtain⟨hb,hg,ht⟩:=h.bx k _ hk
 have hl:=(List.getElem?_eq_some_iff.1 hk).1
 have key:∀(j:Nat) (p:Nat×Array Value×Nat),(bl.set k (b,cs.setIfInBounds i v,t))[j]?=some p->∃p0,bl[j]?=some p0/\p.1=p0.1:=λj p hp=>by
  rw[List.getElem?_set] at hp
  by_cases e:k=j
  ·subst e
   simp[hl] at hp
   subst hp
   exact⟨_,hk,rfl⟩
  ·rw[if_neg e] at hp
   exact⟨p,hp,rfl⟩
 refine⟨Below.setCell h.nx hg _,λj p hp=>?_,λj j' p p' hj hp hp'=>?_,λj r hr=>Qk (h.rw j r hr) hb ht _ _,h.ap⟩
 ·rw[List.getElem?_set] at hp
  by_cases e:k=j
  ·subst e
   simp[hl] at hp
   subst hp
   exact⟨hb.set i v,hg,ht⟩
  ·rw[if_neg e] at hp
   have hx:=h.bx j p hp
   exact⟨hx.1.setOther (h.nd j k p _ (λq=>e q.symm) hp hk) _ _,hx.2⟩
 ·obtain⟨q,hq,e1⟩:=key j p hp
  obtain⟨q',hq',e2⟩:=key j' p' hp'
  rw[e1,e2]
  exact h.nd j j' q q' hj hq hq'
theorem MS.grow (h:MS w0 w bl rs)(k:Nat){v':Value}{zs':List Int}(hk:rs[k]?=some (v,zs))(r1:Q5 w0.heap.size w' v' zs')(r2:Chg (λx=>some x=v.ownBlock) w w')(r3:∀g,v'.ownBlock=some g->v.ownBlock=some g\/w.heap.size<=g):MS w0 w' bl (rs.set k (v',zs')):=by
 have ho:=h.rw k _ hk
 have hl:=(List.getElem?_eq_some_iff.1 hk).1
 refine⟨Below.trans h.nx (r2.below h.nx.size (λx hx=>(Q7 ho x hx.symm).1)),λj p hp=>?_,h.nd,λj r hr=>?_,λj j' r r' g hj hr hr' hg=>?_⟩
 ·have hx:=h.bx j p hp
  exact⟨hx.1.row ho hx.2.2 r2,hx.2⟩
 ·rw[List.getElem?_set] at hr
  by_cases e:k=j
  ·subst e
   simp[hl] at hr
   subst hr
   exact r1
  ·rw[if_neg e] at hr
   exact Uv (h.rw j r hr) (λg hg=>h.ap k j _ r g e hk hr hg) r2
 ·rw[List.getElem?_set] at hr hr'
  by_cases e:k=j
  ·subst e
   simp[hl] at hr
   subst hr
   rw[if_neg hj] at hr'
   rcases r3 g hg with q|q
   ·exact h.ap k j' _ r' g hj hk hr' q
   ·intro q2
    have:=(Q7 (h.rw j' r' hr') g q2).2
    omega
  ·rw[if_neg e] at hr
   by_cases e':k=j'
   ·subst e'
    simp[hl] at hr'
    subst hr'
    intro q2
    rcases r3 g q2 with q|q
    ·exact h.ap k j _ r g (λx=>hj x.symm) hk hr q hg
    ·have:=(Q7 (h.rw j r hr) g hg).2
     omega
   ·rw[if_neg e'] at hr'
    exact h.ap j j' r r' g hj hr hr' hg
theorem MS.addBox (h:MS w0 w bl rs)(cs:Array Value)(t:Nat)(ht:t≠2):MS w0 (w.alloc (.cells cs t)) (bl++[(w.heap.size,cs,t)]) rs:=by
 have hx:Nx w (w.alloc (.cells cs t)):=Qe _ _
 refine⟨h.nx.trans hx,λj p hp=>?_,λj j' p p' hj hp hp'=>?_,λj r hr=>(h.rw j r hr).next hx,h.ap⟩
 ·rw[List.getElem?_append] at hp
  split at hp
  ·exact⟨(h.bx j p hp).1.next hx,(h.bx j p hp).2⟩
  ·obtain⟨e1,e2⟩:j-bl.length=0/\p=(w.heap.size,cs,t):=by
    cases hq:j-bl.length with
    |zero=>rw[hq] at hp;simp at hp;exact⟨rfl,hp.symm⟩
    |succ q=>rw[hq] at hp;simp at hp
   rw[e2]
   exact⟨BT.new _ _ _ _ rfl,h.nx.size,ht⟩
 ·have key:∀(j:Nat) (p:Nat×Array Value×Nat),(bl++[(w.heap.size,cs,t)])[j]?=some p->(j<bl.length/\bl[j]?=some p)\/(j=bl.length/\p.1=w.heap.size):=λj p hp=>by
   rw[List.getElem?_append] at hp
   split at hp
   ·rename_i hlt;exact oL ⟨hlt,hp⟩
   ·cases hq:j-bl.length with
    |zero=>rw[hq] at hp;simp at hp;exact oR ⟨by omega,by rw[<-hp]⟩
    |succ q=>rw[hq] at hp;simp at hp
  rcases key j p hp with⟨a1,a2⟩|⟨a1,a2⟩<;>rcases key j' p' hp' with⟨b1,b2⟩|⟨b1,b2⟩
  ·exact h.nd j j' p p' hj a2 b2
  ·have:=(h.bx j p a2).1.lt;omega
  ·have:=(h.bx j' p' b2).1.lt;omega
  ·omega
theorem MS.addRow (h:MS w0 w bl rs)(hr:Q5 w0.heap.size w v zs)(hn:∀(j:Nat) (r:Value×List Int) (g:Nat),rs[j]?=some r->r.1.ownBlock=some g->v.ownBlock≠some g):MS w0 w bl (rs++[(v,zs)]):=by
 have key:∀(j:Nat) (p:Value×List Int),(rs++[(v,zs)])[j]?=some p->(j<rs.length/\rs[j]?=some p)\/(j=rs.length/\p=(v,zs)):=λj p hp=>by
  rw[List.getElem?_append] at hp
  split at hp
  ·rename_i hlt;exact oL ⟨hlt,hp⟩
  ·cases hq:j-rs.length with
   |zero=>rw[hq] at hp;simp at hp;exact oR ⟨by omega,hp.symm⟩
   |succ q=>rw[hq] at hp;simp at hp
 refine⟨h.nx,h.bx,h.nd,λj r hj=>?_,λj j' r r' g hj hr1 hr2 hg=>?_⟩
 ·rcases key j r hj with⟨_,a⟩|⟨_,a⟩
  ·exact h.rw j r a
  ·rw[a];exact hr
 ·rcases key j r hr1 with⟨a1,a2⟩|⟨a1,a2⟩<;>rcases key j' r' hr2 with⟨b1,b2⟩|⟨b1,b2⟩
  ·exact h.ap j j' r r' g hj a2 b2 hg
  ·rw[b2];exact hn j r g a2 hg
  ·intro q;rw[a2] at hg;exact hn j' r' g b2 q hg
  ·omega
theorem MS.addNil (h:MS w0 w bl rs):MS w0 w bl (rs++[(sN,[])]):=h.addRow ⟨rfl,oL ⟨rfl,rfl⟩⟩ (λj r g _ _ e=>by cases e)
end
theorem J4.chgI {C':Nat}{u:Value}(h:J4 C w v l)(ho:Q5 C' w u zs)(k:Chg (λx=>some x=u.ownBlock) w w'):J4 C w' v l:=J5 h k (λg hg e=>by
 obtain⟨-,h2⟩:=h
 obtain⟨-,o2⟩:=ho
 rcases h2 with⟨rfl,-⟩|⟨g1,c1,cur,rfl,-,hh,-⟩
 ·simp[Value.ownBlock] at hg
 ·rcases o2 with⟨rfl,-⟩|⟨g2,c2,cur2,rfl,-,hh2,-⟩
  ·simp[Value.ownBlock] at e
  ·simp[Value.ownBlock] at hg e
   subst hg
   subst e
   rw[hh] at hh2
   simp at hh2)
theorem J4.setB (h:J4 C w v l)(hb:BT w g cs t)(ht:t≠112)(u:Value):J4 C (w.setCell (aD g i) u) v l:=Qk h hb ht _ _
end Go.Proofs.YtphiaobccollhaaGreat
