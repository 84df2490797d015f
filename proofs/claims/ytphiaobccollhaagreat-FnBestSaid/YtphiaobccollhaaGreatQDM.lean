import Derived.Test.YtphiaobccollhaaGreatQDH
import Derived.Deep.CutBlock
namespace Go.Proofs.YtphiaobccollhaaGreat
open Go.RowKit Go.Sort Tryz
set_option linter.unusedVariables false
set_option maxRecDepth 1000000
set_option maxHeartbeats 16000000
variable {B C b g i n:Nat}{w w':World}{v:Value}{N:Nt}{S:Src}{cs:Array Value}{zs:List Int}{es:List Eg}{l:List Nat}
theorem F7 {F:Fence}{P:Program}{ops:Array Oper}{Q:Exit->Act->World->Prop}{md:Region.Mode}{S:World->Prop}{c j fuel:Nat}{listed:Array Bool}{a:Act}(hr:Region.ready md ops listed=[i,j])(hcl:Cl md ops listed)(h1:Cl md ops (listed.setIfInBounds i true)->wpOpIn F n P ops Q i (λa' w'=>(c<=i\/S w')/\Vz F n P md ops Q S c fuel (listed.setIfInBounds i true) a' w') a w)(h2:Cl md ops (listed.setIfInBounds j true)->wpOpIn F n P ops Q j (λa' w'=>(c<=j\/S w')/\Vz F n P md ops Q S c fuel (listed.setIfInBounds j true) a' w') a w):Vz F n P md ops Q S c (fuel+1) listed a w:=
 ⟨λh0=>absurd (hr▸h0) (by simp),λx hx=>by
  rw[hr] at hx
  simp at hx
  rcases hx with rfl|rfl
  ·exact h1 (hcl.step (by rw[hr];simp))
  ·exact h2 (hcl.step (by rw[hr];simp))⟩
theorem tk {P:Program}{ops:Array Oper}{Q:Exit->Act->World->Prop}{md:Region.Mode}{S:World->Prop}{c fuel:Nat}{oi:Oper}{listed:Array Bool}{a:Act}(hw:Q1a md ops c)(hcl:Cl md ops listed)(hy:YF P ops S oi v a)(hS:S w)(h:Cl md ops (listed.setIfInBounds i true)->Vz Fence.wide n P md ops Q S c fuel (listed.setIfInBounds i true) (a.put oi.dst v) w)
  (hic:i<c:=by decide) (hi:ops[i]?=some oi:=by rfl) (hs:Region.noSelect ops=true:=by kernel_rfl) (hf:Region.free md ops listed i=true:=by kernel_rfl) (hr:(Region.ready md ops listed).contains i=true:=by kernel_rfl) (hQ:∀c a w,Q (.panic c) (a.put oi.dst v) w->Q (.panic c) a w:=by exact λ_ _ _ h=>h):Vz Fence.wide n P md ops Q S c (fuel+1) listed a w:=
 Qj hw hic hcl (Q9 rfl) hi hs hf hr hQ hy hS h
theorem Chg.cellB (h:Chg (Sx1 b) w w'){o:Nat}(hn:g≠b)(hc:w.cell? (aD g o)=some v):w'.cell? (aD g o)=some v:=by
 have hb:=h.block g (Jk hc) hn
 unfold World.cell? at hc ⊢
 simp only[hb]
 exact hc
def Kb (ws:List Wy)(i:Int):Int:=(wat ws i.toNat).id
structure Q6m where
 S:Src
 l:List Int
def Q5b (ws:List Wy)(x:Q6m):Q6m:=⟨ns x.S ws.length,x.l++[Kb ws (nv x.S ws.length)]⟩
def Yp (ws:List Wy)(x:Q6m):Nat->Q6m
 |0=>x
 |k+1=>Q5b ws (Yp ws x k)
def Ud (N:Nt)(S:Src):Src:=ns (ns S N.ways.length) N.ways.length
def Q0j (N:Nt)(S:Src):Int:=Kb N.ways (nv S N.ways.length)
def Q8x (N:Nt)(S:Src):Int:=Kb N.ways (nv (ns S N.ways.length) N.ways.length)
def Ie (N:Nt)(S:Src):Q6m:=Yp N.ways ⟨ns (ns (Ud N S) 2) 4,[]⟩ (1+nv (ns (Ud N S) 2) 4).toNat
def Xi (N:Nt)(S:Src):Rl:=if nv (Ud N S) 2=0 then ⟨0,false,Q0j N S,Q8x N S,true,iat N.nodes (nv (ns (Ud N S) 2) N.nodes.length).toNat,[]⟩ else ⟨0,false,Q0j N S,Q8x N S,false,0,(Ie N S).l⟩
def Yb (N:Nt)(S:Src):Src:=if nv (Ud N S) 2=0 then ns (ns (Ud N S) 2) N.nodes.length else (Ie N S).S
theorem Fw {ws:List Wy}{x:Q6m}(h:SOk x.S)(hl:x.l=[]):∀k,SOk (Yp ws x k).S/\(Yp ws x k).l.length=k/\(Yp ws x k).S.size=x.S.size
 |0=>⟨h,by simp[Yp,hl],rfl⟩
 |k+1=>by
  obtain⟨h1,h2,h3⟩:=Fw (ws:=ws) h hl k
  refine⟨show SOk (ns (Yp ws x k).S ws.length) from Qf h1 _,?_,?_⟩
  ·show((Yp ws x k).l++[_]).length=_
   rw[zA,h2];rfl
  ·show(ns _ _).size=_
   rw[Qs,h3]
theorem Q3d (h:SOk S):SOk (Yb N S)/\(Yb N S).size=S.size:=by
 unfold Yb
 split
 ·exact⟨Qf (Qf (Qf (Qf h _) _) _) _,by rw[Qs,Qs];unfold Ud;rw[Qs,Qs]⟩
 ·have k:=Fw (ws:=N.ways) (x:=⟨ns (ns (Ud N S) 2) 4,[]⟩) (show SOk (ns (ns (Ud N S) 2) 4) from Qf (Qf (Qf (Qf h _) _) _) _) rfl (1+nv (ns (Ud N S) 2) 4).toNat
  refine⟨k.1,k.2.2.trans ?_⟩
  show(ns (ns (Ud N S) 2) 4).size=_
  rw[Qs,Qs];unfold Ud;rw[Qs,Qs]
structure RM0 (D b:Nat)(w0 w:World)(S:Src)(nt:Array Value):Prop where
 chg:Chg (Sx1 b) w0 w
 src:Jj D w b S
 box:BT w w0.heap.size nt 60
 res:BT w (w0.heap.size+1) #[iV 0,.bool false,iV 0,iV 0,.bool false,iV 0,sN] 89
structure RMs (D b:Nat)(w0 w:World)(S:Src)(nt:Array Value)(g:Nat)(fr tt nd:Int)(via:Bool)(va:Value)(ws:List Int):Prop extends RM0 D b w0 w S nt where
 rel:BT w g #[iV 0,.bool false,iV fr,iV tt,.bool via,iV nd,va] 89
 far:w0.heap.size+2<=g
 row:Q5 w0.heap.size w va ws
section
variable {D b g:Nat}{w0 w w':World}{S S':Src}{nt:Array Value}{fr tt nd:Int}{via:Bool}{va:Value}{ws:List Int}
theorem RM0.next (h:RM0 D b w0 w S nt)(k:Nx w w'):RM0 D b w0 w' S nt:=⟨h.chg.trans (Chg.nx k),h.src.next k,h.box.next k,h.res.next k⟩
theorem RMs.next (h:RMs D b w0 w S nt g fr tt nd via va ws)(k:Nx w w'):RMs D b w0 w' S nt g fr tt nd via va ws:=⟨h.toRM0.next k,h.rel.next k,h.far,h.row.next k⟩
theorem RM0.drawn (h:RM0 D b w0 w S nt)(hS:Jj D w' b S')(k:Chg (Sx1 b) w w'):RM0 D b w0 w' S' nt:=by
 obtain⟨v,hb,_⟩:=h.src
 exact⟨h.chg.trans k,hS,h.box.chg k (h.box.ne hb (by decide)),h.res.chg k (h.res.ne hb (by decide))⟩
theorem RMs.drawn (h:RMs D b w0 w S nt g fr tt nd via va ws)(hS:Jj D w' b S')(k:Chg (Sx1 b) w w'):RMs D b w0 w' S' nt g fr tt nd via va ws:=by
 obtain⟨v,hb,_⟩:=h.src
 exact⟨h.toRM0.drawn hS k,h.rel.chg k (h.rel.ne hb (by decide)),h.far,J5 h.row k (λx hx e=>by
  have e':x=b:=e
  subst e'
  exact hb.neRow h.row (by decide) hx.symm)⟩
theorem RM0.al (h:RM0 D b w0 w S nt):RMs D b w0 (w.alloc (.cells #[iV 0,.bool false,iV 0,iV 0,.bool false,iV 0,sN] 89)) S nt w.heap.size 0 0 0 false sN []:=
 ⟨h.next (Qe _ _),BT.new _ _ _ _ rfl,by have:=h.res.lt;omega,⟨rfl,oL ⟨rfl,rfl⟩⟩⟩
theorem RM0.turn (h:RM0 D b w0 w S nt)(hg:BT w g cs 89)(hf:w0.heap.size+2<=g)(k:Chg (λx=>x=g) w w'):RM0 D b w0 w' S nt:=by
 refine⟨h.chg.young k (λx hx hl=>by have hx':x=g:=hx;omega),h.src.chg k (λx hx=>?_),h.box.chg k (λe=>by have e':w0.heap.size=g:=e;omega),h.res.chg k (λe=>by have e':w0.heap.size+1=g:=e;omega)⟩
 have hx':=hx
 subst hx'
 exact⟨_,_,hg,by decide,by decide⟩
theorem Fx (ho:Q5 C w va ws)(hg:BT w g cs 89)(k:Chg (λx=>x=g) w w'):Q5 C w' va ws:=
 J5 ho k (λx hx e=>by
  have e':=e
  subst e'
  exact hg.neRow ho (by decide) hx.symm)
theorem RMs.setVia (h:RMs D b w0 w S nt g fr tt nd via va ws):RMs D b w0 (w.setCell (aD g 4) (.bool true)) S nt g fr tt nd true va ws:=
 ⟨h.toRM0.turn h.rel h.far (Chg.set _ _ _ rfl),h.rel.set 4 _,h.far,Fx h.row h.rel (Chg.set _ _ _ rfl)⟩
theorem RMs.setNode (h:RMs D b w0 w S nt g fr tt nd via va ws)(z:Int):RMs D b w0 (w.setCell (aD g 5) (iV z)) S nt g fr tt z via va ws:=
 ⟨h.toRM0.turn h.rel h.far (Chg.set _ _ _ rfl),h.rel.set 5 _,h.far,Fx h.row h.rel (Chg.set _ _ _ rfl)⟩
theorem RMs.addWay (h:RMs D b w0 w S nt g fr tt nd via va ws){z:Int}(hr:Q5 w0.heap.size w' v (ws++[z]))(hc:Chg (λx=>some x=va.ownBlock) w w'):RMs D b w0 (w'.setCell (aD g 6) v) S nt g fr tt nd via v (ws++[z]):=by
 have k0:RM0 D b w0 w' S nt:=⟨h.chg.young hc (λx hx hl=>by have:=(Q7 h.row x hx.symm).1;omega),h.src.row h.row (by decide) (by decide) hc,h.box.row h.row (by decide) hc,h.res.row h.row (by decide) hc⟩
 have k1:=h.rel.row h.row (by decide) hc
 exact⟨k0.turn k1 h.far (Chg.set _ _ _ rfl),k1.set 6 _,h.far,Fx hr k1 (Chg.set _ _ _ rfl)⟩
theorem RMs.o (h:RMs D b w0 w S nt g fr tt nd via va ws)(k:Chg (λx=>x=w0.heap.size+1) w w'):Q5 w0.heap.size w' va ws/\Jj D w' b S/\Chg (Sx1 b) w0 w':=by
 refine⟨Fx h.row h.res k,h.src.chg k (λx hx=>?_),h.chg.young k (λx hx hl=>by have hx':x=w0.heap.size+1:=hx;omega)⟩
 have hx':=hx
 subst hx'
 exact⟨_,_,h.res,by decide,by decide⟩
theorem Km {w:World}{g t:Nat}{a0 a1 a2 a3 a4 a5 a6 c0 c1 c2 c3 c4 c5 c6:Value}(h:BT w g #[c0,c1,c2,c3,c4,c5,c6] t):BT (((((((w.setCell (aD g 0) a0).setCell (aD g 1) a1).setCell (aD g 2) a2).setCell (aD g 3) a3).setCell (aD g 4) a4).setCell (aD g 5) a5).setCell (aD g 6) a6) g #[a0,a1,a2,a3,a4,a5,a6] t:=by
 have k0:BT (w.setCell (aD g 0) a0) g #[a0,c1,c2,c3,c4,c5,c6] t:=h.set 0 a0
 have k1:BT ((w.setCell (aD g 0) a0).setCell (aD g 1) a1) g #[a0,a1,c2,c3,c4,c5,c6] t:=k0.set 1 a1
 have k2:BT (((w.setCell (aD g 0) a0).setCell (aD g 1) a1).setCell (aD g 2) a2) g #[a0,a1,a2,c3,c4,c5,c6] t:=k1.set 2 a2
 have k3:BT ((((w.setCell (aD g 0) a0).setCell (aD g 1) a1).setCell (aD g 2) a2).setCell (aD g 3) a3) g #[a0,a1,a2,a3,c4,c5,c6] t:=k2.set 3 a3
 have k4:BT (((((w.setCell (aD g 0) a0).setCell (aD g 1) a1).setCell (aD g 2) a2).setCell (aD g 3) a3).setCell (aD g 4) a4) g #[a0,a1,a2,a3,a4,c5,c6] t:=k3.set 4 a4
 have k5:BT ((((((w.setCell (aD g 0) a0).setCell (aD g 1) a1).setCell (aD g 2) a2).setCell (aD g 3) a3).setCell (aD g 4) a4).setCell (aD g 5) a5) g #[a0,a1,a2,a3,a4,a5,c6] t:=k4.set 5 a5
 have k6:BT (((((((w.setCell (aD g 0) a0).setCell (aD g 1) a1).setCell (aD g 2) a2).setCell (aD g 3) a3).setCell (aD g 4) a4).setCell (aD g 5) a5).setCell (aD g 6) a6) g #[a0,a1,a2,a3,a4,a5,a6] t:=k5.set 6 a6
 exact k6
theorem Ky {w:World}{g:Nat}{a0 a1 a2 a3 a4 a5 a6:Value}:Chg (λx=>x=g) w (((((((w.setCell (aD g 0) a0).setCell (aD g 1) a1).setCell (aD g 2) a2).setCell (aD g 3) a3).setCell (aD g 4) a4).setCell (aD g 5) a5).setCell (aD g 6) a6):=by
 have k0:Chg (λx=>x=g) w (w.setCell (aD g 0) a0):=Chg.set g 0 a0 rfl
 have k1:=k0.trans (Chg.set g 1 a1 rfl)
 have k2:=k1.trans (Chg.set g 2 a2 rfl)
 have k3:=k2.trans (Chg.set g 3 a3 rfl)
 have k4:=k3.trans (Chg.set g 4 a4 rfl)
 have k5:=k4.trans (Chg.set g 5 a5 rfl)
 have k6:=k5.trans (Chg.set g 6 a6 rfl)
 exact k6
theorem RMs.fill (h:RMs D b w0 w S nt g 0 0 0 false sN [])(f1 f2:Int):RMs D b w0 (((((((w.setCell (aD g 0) (iV 0)).setCell (aD g 1) (.bool false)).setCell (aD g 2) (iV f1)).setCell (aD g 3) (iV f2)).setCell (aD g 4) (.bool false)).setCell (aD g 5) (iV 0)).setCell (aD g 6) sN) S nt g f1 f2 0 false sN []:=
 ⟨h.toRM0.turn h.rel h.far Ky,Km h.rel,h.far,⟨rfl,oL ⟨rfl,rfl⟩⟩⟩
end
theorem Xu (B D b:Nat)(v0 v1 v2 v3:Value)(u:Int)(N:Nt)(S:Src)(w:World)(hN:U0 B w v0 v1 v2 v3 N)(hB:b<B)(h0:0<N.nodes.length)(hw0:0<N.ways.length)(hl0:N.nodes.length<=1000000)(hl1:N.ways.length<=1000000)(hS:Jj D w b S)(hok:SOk S) :
  Calls prog 81 #[.agg #[v0,v1,v2,v3,iV u],pT b] w λe w'=>∃va,e=.returned (.agg #[iV (Xi N S).id,.bool (Xi N S).only,iV (Xi N S).frm,iV (Xi N S).to,.bool (Xi N S).via,iV (Xi N S).node,va])/\Q5 w.heap.size w' va (Xi N S).ways/\Jj D w' b (Yb N S)/\Chg (Sx1 b) w w':=by
 have HOK:Z (SOk S):=hok
 have HS0:=mh hS
 obtain⟨r0,t0,rfl,_,kn⟩:=hN.1
 obtain⟨r1,c1,rfl,_,kw⟩:=hN.2.1
 obtain⟨r2,t2,rfl,_,_⟩:=hN.2.2.1
 obtain⟨r3,t3,rfl,_,_⟩:=hN.2.2.2
 obtain⟨wb,wo,rfl,hwb,_,hwc⟩:=kw hw0
 obtain⟨nb,no,rfl,hnb,_,hnc⟩:=kn h0
 have HWC:Z (∀q,Chg (Sx1 b) w q->∀i,i<N.ways.length->q.cell? (aD wb (wo+i*4))=some (iV (wat N.ways i).id)):=λq hq i hi=>by
  obtain⟨_,_,hc,_⟩:=hwc i hi
  exact hq.cellB (by omega) hc
 have HNC:Z (∀q,Chg (Sx1 b) w q->∀i,i<N.nodes.length->q.cell? (aD nb (no+i))=some (iV (iat N.nodes i))):=λq hq i hi=>hq.cellB (by omega) (hnc i hi)
 have HRF:Z (Q0j N S=Kb N.ways (nv S N.ways.length)):=rfl
 have HRT:Z (Q8x N S=Kb N.ways (nv (ns S N.ways.length) N.ways.length)):=rfl
 have HR2:Z (Ud N S=ns (ns S N.ways.length) N.ways.length):=rfl
 clear hwc hnc kn kw hN hS hok
 generalize N.rels.length=m2 at *
 generalize N.turns.length=m3 at *
 generalize hk:N.ways.length=k at *
 have HK:=mh hk
 generalize hm:N.nodes.length=m0 at *
 have HM:=mh hm
 clear hk hm
 have HOK1:Z (SOk (ns S k)):=Qf HOK.o _
 have HOK2:Z (SOk (ns (ns S k) k)):=Qf HOK1.o _
 obtain⟨i1,hi1⟩:∃i:Nat,nv S k=i:=⟨(nv S k).toNat,by have:=(Qv HOK.o k).1;omega⟩
 obtain⟨i2,hi2⟩:∃i:Nat,nv (ns S k) k=i:=⟨(nv (ns S k) k).toNat,by have:=(Qv HOK1.o k).1;omega⟩
 have hl1':i1<k:=by have:=(Qv HOK.o k).2 (by omega);omega
 have hl2':i2<k:=by have:=(Qv HOK1.o k).2 (by omega);omega
 have HI1:=mh hi1
 have HI2:=mh hi2
 have hj1:(i1:Int)<k:=by omega
 have hj2:(i2:Int)<k:=by omega
 obtain⟨f1,hf1⟩:∃f,f=(wat N.ways i1).id:=⟨_,rfl⟩
 obtain⟨f2,hf2⟩:∃f,f=(wat N.ways i2).id:=⟨_,rfl⟩
 have HF1:Z (Q0j N S=f1):=by unfold Z;rw[HRF.o,HI1.o,hf1];rfl
 have HF2:Z (Q8x N S=f2):=by unfold Z;rw[HRT.o,HI2.o,hf2];rfl
 have HSN:Z (∀q S',RM0 D b w q S' #[sL (some (aD nb no)) m0 t0,sL (some (aD wb wo)) k c1,sL r2 m2 t2,sL r3 m3 t3,iV u]->(λq=>q.cell? (aD w.heap.size 1)=some (sL (some (aD wb wo)) k c1)/\q.cell? (aD wb (wo+i1*4))=some (iV f1)/\q.cell? (aD wb (wo+i2*4))=some (iV f2)) q):=λq S' h=>⟨h.box.c 1 rfl,by rw[hf1];exact HWC.o q h.chg i1 hl1',by rw[hf2];exact HWC.o q h.chg i2 hl2'⟩
 clear hi1 hi2 hf1 hf2 HRF HRT
 go_enter func81,ntmps81
 go_upto_region 2 with fail
 generalize hWA:(w.alloc (.cells #[sL (some (aD nb no)) m0 t0,sL (some (aD wb wo)) k c1,sL r2 m2 t2,sL r3 m3 t3,iV u] 60)).alloc (.cells #[iV 0,.bool false,iV 0,iV 0,.bool false,iV 0,sN] 89)=wA
 have HR0:Z (RM0 D b w wA S #[sL (some (aD nb no)) m0 t0,sL (some (aD wb wo)) k c1,sL r2 m2 t2,sL r3 m3 t3,iV u]):=by
  unfold Z
  rw[<-hWA]
  exact⟨Chg.nx (Uk _ _ _),HS0.o.next (Uk _ _ _),(BT.new w _ _ _ rfl).alloc _,BT.new _ _ _ _ (by rw[Q1])⟩
 clear hWA
 have HRD:=mh (HR0.o.next (show Nx wA wA.drew from(Below.refl _ _).drew))
 have HSS:=mh (HSN.o _ _ HRD.o)
 have hmx:prog.follows .mixedOrders=true:=by kernel_rfl
 go_cut [6] from 11 to 27 (λs6 wc=>∃g,s6=pT g/\RMs D b w wc (ns (ns S k) k) #[sL (some (aD nb no)) m0 t0,sL (some (aD wb wo)) k c1,sL r2 m2 t2,sL r3 m3 t3,iV u] g f1 f2 0 false sN [])
 case first=>
  refine(wpIn_wide (n:=9)).1 ?_
  refine Qb (c:=18) (S:=λq=>q.cell? (aD w.heap.size 1)=some (sL (some (aD wb wo)) k c1)/\q.cell? (aD wb (wo+i1*4))=some (iV f1)/\q.cell? (aD wb (wo+i2*4))=some (iV f2)) hmx (by kernel_rfl) (λhw hcl=>?_)
  refine tq (i:=0) (v:=.pointer (some (aD w.heap.size 1))) (λhcl=>?_)
  refine tq (i:=1) (v:=sL (some (aD wb wo)) k c1) (λhcl=>?_)
  refine tq (i:=2) (v:=pT b) (λhcl=>?_)
  refine tq (i:=3) (v:=iV (k:Int)) (λhcl=>?_)
  refine tq (i:=8) (v:=.pointer (some (aD w.heap.size 1))) (λhcl=>?_)
  refine tq (i:=9) (v:=sL (some (aD wb wo)) k c1) (λhcl=>?_)
  refine tq (i:=10) (v:=pT b) (λhcl=>?_)
  refine tq (i:=11) (v:=iV (k:Int)) (λhcl=>?_)
  refine F7 (i:=4) (j:=17) (by kernel_rfl) hcl (λhcl=>wpOpIn_step rfl (λK hK=>?_)) (λhcl=>wpOpIn_step rfl (λK hK=>?_))
  ·go_simp
   refine⟨trivial,(callsIn_wide.2 (Q6 D b S (k:Int) _ HRD.o.src HOK.o (by omega))).mono ?_⟩
   rintro e7 w1 ⟨rfl,hs1,hc1⟩
   rw[HI1.o]
   have HB1:=mh (HRD.o.drawn hs1 hc1)
   have HSS:=mh (HSN.o _ _ HB1.o)
   refine hK _ _ ⟨oR HSS.o,?_⟩
   clear hK K hs1 hc1
   refine tq (i:=5) (v:=.pointer (some (aD wb (wo+i1*4)))) (λhcl=>?_)
   refine tq (i:=6) (v:=.pointer (some (aD wb (wo+i1*4)))) (λhcl=>?_)
   refine tq (i:=7) (v:=iV f1) (λhcl=>?_)
   refine F7 (i:=12) (j:=17) (by kernel_rfl) hcl (λhcl=>wpOpIn_step rfl (λK hK=>?_)) (λhcl=>wpOpIn_step rfl (λK hK=>?_))
   ·go_simp
    refine⟨trivial,(callsIn_wide.2 (Q6 D b (ns S k) (k:Int) _ HB1.o.src HOK1.o (by omega))).mono ?_⟩
    rintro e7 w2 ⟨rfl,hs1,hc1⟩
    rw[HI2.o]
    have HB2:=mh (HB1.o.drawn hs1 hc1)
    have HSS:=mh (HSN.o _ _ HB2.o)
    refine hK _ _ ⟨oR HSS.o,?_⟩
    clear hK K hs1 hc1
    refine tq (i:=13) (v:=.pointer (some (aD wb (wo+i2*4)))) (λhcl=>?_)
    refine tq (i:=14) (v:=.pointer (some (aD wb (wo+i2*4)))) (λhcl=>?_)
    refine tq (i:=15) (v:=iV f2) (λhcl=>?_)
    refine tq (i:=16) (v:=.agg #[iV 0,.bool false,iV f1,iV f2,.bool false,iV 0,sN]) (λhcl=>?_)
    refine Q8 (i:=17) (by kernel_rfl) hcl (λhcl=>wpOpIn_step rfl (λK hK=>?_))
    go_simp
    generalize hWa:w2.alloc (.cells #[iV 0,.bool false,iV 0,iV 0,.bool false,iV 0,sN] 89)=wa
    have HA:Z (RMs D b w wa (ns (ns S k) k) #[sL (some (aD nb no)) m0 t0,sL (some (aD wb wo)) k c1,sL r2 m2 t2,sL r3 m3 t3,iV u] w2.heap.size 0 0 0 false sN []):=by rw[<-hWa];exact HB2.o.al
    clear hWa
    have HSS:=mh (HSN.o _ _ HA.o.toRM0)
    refine hK _ _ ⟨oR HSS.o,?_⟩
    clear hK K
    have x0:=HA.o.rel.c 0 rfl
    have x1:=HA.o.rel.c 1 rfl
    have x2:=HA.o.rel.c 2 rfl
    have x3:=HA.o.rel.c 3 rfl
    have x4:=HA.o.rel.c 4 rfl
    have x5:=HA.o.rel.c 5 rfl
    have x6:=HA.o.rel.c 6 rfl
    have z0:=HA.o.rel.blk.frozen 0
    have z1:=HA.o.rel.blk.frozen 1
    have z2:=HA.o.rel.blk.frozen 2
    have z3:=HA.o.rel.blk.frozen 3
    have z4:=HA.o.rel.blk.frozen 4
    have z5:=HA.o.rel.blk.frozen 5
    have z6:=HA.o.rel.blk.frozen 6
    refine Qh (i:=18) (by kernel_rfl) (wpOpIn_step rfl (λK hK=>?_))
    go_simp
    refine hK _ _ ⟨oL (by decide),?_⟩
    clear hK K
    refine Ql (by kernel_rfl) ?_ _
    go_wp2
    go_meet
    exact⟨w2.heap.size,rfl,HA.o.fill f1 f2⟩
   ·go_simp
    generalize hWa:w1.alloc (.cells #[iV 0,.bool false,iV 0,iV 0,.bool false,iV 0,sN] 89)=wa
    have HA:Z (RMs D b w wa (ns S k) #[sL (some (aD nb no)) m0 t0,sL (some (aD wb wo)) k c1,sL r2 m2 t2,sL r3 m3 t3,iV u] w1.heap.size 0 0 0 false sN []):=by rw[<-hWa];exact HB1.o.al
    clear hWa
    have HSS:=mh (HSN.o _ _ HA.o.toRM0)
    refine hK _ _ ⟨oR HSS.o,?_⟩
    clear hK K
    refine Q8 (i:=12) (by kernel_rfl) hcl (λhcl=>wpOpIn_step rfl (λK hK=>?_))
    go_simp
    refine⟨trivial,(callsIn_wide.2 (Q6 D b (ns S k) (k:Int) _ HA.o.src HOK1.o (by omega))).mono ?_⟩
    rintro e7 w2 ⟨rfl,hs1,hc1⟩
    rw[HI2.o]
    have HA2:=mh (HA.o.drawn hs1 hc1)
    have HSS:=mh (HSN.o _ _ HA2.o.toRM0)
    refine hK _ _ ⟨oR HSS.o,?_⟩
    clear hK K hs1 hc1
    refine tq (i:=13) (v:=.pointer (some (aD wb (wo+i2*4)))) (λhcl=>?_)
    refine tq (i:=14) (v:=.pointer (some (aD wb (wo+i2*4)))) (λhcl=>?_)
    refine tq (i:=15) (v:=iV f2) (λhcl=>?_)
    refine tq (i:=16) (v:=.agg #[iV 0,.bool false,iV f1,iV f2,.bool false,iV 0,sN]) (λhcl=>?_)
    have x0:=HA2.o.rel.c 0 rfl
    have x1:=HA2.o.rel.c 1 rfl
    have x2:=HA2.o.rel.c 2 rfl
    have x3:=HA2.o.rel.c 3 rfl
    have x4:=HA2.o.rel.c 4 rfl
    have x5:=HA2.o.rel.c 5 rfl
    have x6:=HA2.o.rel.c 6 rfl
    have z0:=HA2.o.rel.blk.frozen 0
    have z1:=HA2.o.rel.blk.frozen 1
    have z2:=HA2.o.rel.blk.frozen 2
    have z3:=HA2.o.rel.blk.frozen 3
    have z4:=HA2.o.rel.blk.frozen 4
    have z5:=HA2.o.rel.blk.frozen 5
    have z6:=HA2.o.rel.blk.frozen 6
    refine Qh (i:=18) (by kernel_rfl) (wpOpIn_step rfl (λK hK=>?_))
    go_simp
    refine hK _ _ ⟨oL (by decide),?_⟩
    clear hK K
    refine Ql (by kernel_rfl) ?_ _
    go_wp2
    go_meet
    exact⟨w1.heap.size,rfl,HA2.o.fill f1 f2⟩
  ·go_simp
   generalize hWa:(wA.alloc (.cells #[iV 0,.bool false,iV 0,iV 0,.bool false,iV 0,sN] 89)).drew=wa
   have HA:Z (RMs D b w wa S #[sL (some (aD nb no)) m0 t0,sL (some (aD wb wo)) k c1,sL r2 m2 t2,sL r3 m3 t3,iV u] wA.heap.size 0 0 0 false sN []):=by rw[<-hWa];exact(HR0.o.al).next (show Nx _ _ from(Below.refl _ _).drew)
   clear hWa
   have HSS:=mh (HSN.o _ _ HA.o.toRM0)
   refine hK _ _ ⟨oR HSS.o,?_⟩
   clear hK K
   refine Q8 (i:=4) (by kernel_rfl) hcl (λhcl=>wpOpIn_step rfl (λK hK=>?_))
   go_simp
   refine⟨trivial,(callsIn_wide.2 (Q6 D b S (k:Int) _ HA.o.src HOK.o (by omega))).mono ?_⟩
   rintro e7 w1 ⟨rfl,hs1,hc1⟩
   rw[HI1.o]
   have HA1:=mh (HA.o.drawn hs1 hc1)
   have HSS:=mh (HSN.o _ _ HA1.o.toRM0)
   refine hK _ _ ⟨oR HSS.o,?_⟩
   clear hK K hs1 hc1
   refine tq (i:=5) (v:=.pointer (some (aD wb (wo+i1*4)))) (λhcl=>?_)
   refine tq (i:=6) (v:=.pointer (some (aD wb (wo+i1*4)))) (λhcl=>?_)
   refine tq (i:=7) (v:=iV f1) (λhcl=>?_)
   refine Q8 (i:=12) (by kernel_rfl) hcl (λhcl=>wpOpIn_step rfl (λK hK=>?_))
   go_simp
   refine⟨trivial,(callsIn_wide.2 (Q6 D b (ns S k) (k:Int) _ HA1.o.src HOK1.o (by omega))).mono ?_⟩
   rintro e7 w2 ⟨rfl,hs1,hc1⟩
   rw[HI2.o]
   have HA2:=mh (HA1.o.drawn hs1 hc1)
   have HSS:=mh (HSN.o _ _ HA2.o.toRM0)
   refine hK _ _ ⟨oR HSS.o,?_⟩
   clear hK K hs1 hc1
   refine tq (i:=13) (v:=.pointer (some (aD wb (wo+i2*4)))) (λhcl=>?_)
   refine tq (i:=14) (v:=.pointer (some (aD wb (wo+i2*4)))) (λhcl=>?_)
   refine tq (i:=15) (v:=iV f2) (λhcl=>?_)
   refine tq (i:=16) (v:=.agg #[iV 0,.bool false,iV f1,iV f2,.bool false,iV 0,sN]) (λhcl=>?_)
   have x0:=HA2.o.rel.c 0 rfl
   have x1:=HA2.o.rel.c 1 rfl
   have x2:=HA2.o.rel.c 2 rfl
   have x3:=HA2.o.rel.c 3 rfl
   have x4:=HA2.o.rel.c 4 rfl
   have x5:=HA2.o.rel.c 5 rfl
   have x6:=HA2.o.rel.c 6 rfl
   have z0:=HA2.o.rel.blk.frozen 0
   have z1:=HA2.o.rel.blk.frozen 1
   have z2:=HA2.o.rel.blk.frozen 2
   have z3:=HA2.o.rel.blk.frozen 3
   have z4:=HA2.o.rel.blk.frozen 4
   have z5:=HA2.o.rel.blk.frozen 5
   have z6:=HA2.o.rel.blk.frozen 6
   refine Qh (i:=18) (by kernel_rfl) (wpOpIn_step rfl (λK hK=>?_))
   go_simp
   refine hK _ _ ⟨oL (by decide),?_⟩
   clear hK K
   refine Ql (by kernel_rfl) ?_ _
   go_wp2
   go_meet
   exact⟨wA.heap.size,rfl,HA2.o.fill f1 f2⟩
 case rest=>
 obtain⟨g,rfl,hcut⟩:=hcut
 have HG:=mh hcut
 have HOK3:Z (SOk (ns (ns (ns S k) k) 2)):=Qf HOK2.o _
 have HRR:Z (Xi N S=if nv (Ud N S) 2=0 then ⟨0,false,Q0j N S,Q8x N S,true,iat N.nodes (nv (ns (Ud N S) 2) N.nodes.length).toNat,[]⟩ else ⟨0,false,Q0j N S,Q8x N S,false,0,(Ie N S).l⟩):=rfl
 have HRS:Z (Yb N S=if nv (Ud N S) 2=0 then ns (ns (Ud N S) 2) N.nodes.length else (Ie N S).S):=rfl
 have HRV:Z (Ie N S=Yp N.ways ⟨ns (ns (Ud N S) 2) 4,[]⟩ (1+nv (ns (Ud N S) 2) 4).toNat):=rfl
 rw[HR2.o,HF1.o,HF2.o,HM.o] at HRR
 rw[HR2.o,HM.o] at HRS
 rw[HR2.o] at HRV
 clear hcut HSS HRD HR0
 go_wp2_with fail
 refine(Q6 D b (ns (ns S k) k) 2 wc HG.o.src HOK2.o (by omega)).mono ?_
 rintro e w3 ⟨rfl,hs1,hc1⟩
 have HG3:=mh (HG.o.drawn hs1 hc1)
 clear hs1 hc1 HG
 generalize nv (ns (ns S k) k) 2=d2 at *
 by_cases hd2:d2=0
 ·obtain⟨i3,hi3⟩:∃i:Nat,nv (ns (ns (ns S k) k) 2) m0=i:=⟨(nv (ns (ns (ns S k) k) 2) m0).toNat,by have:=(Qv HOK3.o m0).1;omega⟩
  have hl3:i3<m0:=by have:=(Qv HOK3.o m0).2 (by omega);omega
  have HI3:=mh hi3
  have hj3:(i3:Int)<m0:=by omega
  rw[if_pos hd2,HI3.o,zU] at HRR
  rw[if_pos hd2] at HRS
  obtain⟨z3,hz3⟩:∃z,z=iat N.nodes i3:=⟨_,rfl⟩
  rw[<-hz3] at HRR
  have HSM:Z (∀q S',RM0 D b w q S' #[sL (some (aD nb no)) m0 t0,sL (some (aD wb wo)) k c1,sL r2 m2 t2,sL r3 m3 t3,iV u]->(λq=>q.cell? (aD w.heap.size 0)=some (sL (some (aD nb no)) m0 t0)/\q.cell? (aD nb (no+i3))=some (iV z3)) q):=λq S' h=>⟨h.box.c 0 rfl,by rw[hz3];exact HNC.o q h.chg i3 hl3⟩
  subst hd2
  have y4:=HG3.o.rel.c 4 rfl
  have e4:=HG3.o.rel.blk.frozen 4
  clear hi3 hz3 HRV
  go_upto_region 5 with fail
  have HG4:=mh HG3.o.setVia
  generalize w3.setCell (aD g 4) (.bool true)=w3' at *
  clear y4 e4 HG3
  have HGD:=mh (HG4.o.next (show Nx w3' w3'.drew from(Below.refl _ _).drew))
  have HSS:Z ((λq=>q.cell? (aD w.heap.size 0)=some (sL (some (aD nb no)) m0 t0)/\q.cell? (aD nb (no+i3))=some (iV z3)) w3'.drew):=HSM.o _ _ HGD.o.toRM0
  refine(wpIn_wide (n:=9)).1 ?_
  refine Qb (c:=10) (S:=λq=>q.cell? (aD w.heap.size 0)=some (sL (some (aD nb no)) m0 t0)/\q.cell? (aD nb (no+i3))=some (iV z3)) hmx (by kernel_rfl) (λhw hcl=>?_)
  refine tq (i:=0) (v:=pT w.heap.size) (λhcl=>?_)
  refine tq (i:=1) (v:=sL (some (aD nb no)) m0 t0) (λhcl=>?_)
  refine tq (i:=2) (v:=pT b) (λhcl=>?_)
  refine tq (i:=3) (v:=pT w.heap.size) (λhcl=>?_)
  refine tq (i:=4) (v:=sL (some (aD nb no)) m0 t0) (λhcl=>?_)
  refine tq (i:=5) (v:=iV (m0:Int)) (λhcl=>?_)
  refine Q8 (i:=6) (by kernel_rfl) hcl (λhcl=>wpOpIn_step rfl (λK hK=>?_))
  go_simp
  refine⟨trivial,(callsIn_wide.2 (Q6 D b (ns (ns (ns S k) k) 2) (m0:Int) _ HGD.o.src HOK3.o (by omega))).mono ?_⟩
  rintro e7 w4 ⟨rfl,hs1,hc1⟩
  rw[HI3.o]
  have HG4:=mh (HGD.o.drawn hs1 hc1)
  have HSS:Z ((λq=>q.cell? (aD w.heap.size 0)=some (sL (some (aD nb no)) m0 t0)/\q.cell? (aD nb (no+i3))=some (iV z3)) w4):=HSM.o _ _ HG4.o.toRM0
  refine hK _ _ ⟨oR HSS.o,?_⟩
  clear hK K hs1 hc1
  refine tq (i:=7) (v:=.pointer (some (aD nb (no+i3)))) (λhcl=>?_)
  refine tq (i:=8) (v:=iV z3) (λhcl=>?_)
  refine tq (i:=9) (v:=.pointer (some (aD g 5))) (λhcl=>?_)
  have x5:=HG4.o.rel.c 5 rfl
  have z5:=HG4.o.rel.blk.frozen 5
  refine Qh (i:=10) (by kernel_rfl) (wpOpIn_step rfl (λK hK=>?_))
  go_simp
  refine hK _ _ ⟨oL (by decide),?_⟩
  clear hK K
  refine Ql (by kernel_rfl) ?_ _
  clear x5 z5 hw hcl HSS
  have HG5:=mh (HG4.o.setNode z3)
  generalize w4.setCell (aD g 5) (iV z3)=w5 at *
  have y0:=HG5.o.rel.c 0 rfl
  have y1:=HG5.o.rel.c 1 rfl
  have y2:=HG5.o.rel.c 2 rfl
  have y3:=HG5.o.rel.c 3 rfl
  have y4:=HG5.o.rel.c 4 rfl
  have y5:=HG5.o.rel.c 5 rfl
  have y6:=HG5.o.rel.c 6 rfl
  have x0:=HG5.o.res.c 0 rfl
  have fz0:=HG5.o.res.blk.frozen 0
  have x1:=HG5.o.res.c 1 rfl
  have fz1:=HG5.o.res.blk.frozen 1
  have x2:=HG5.o.res.c 2 rfl
  have fz2:=HG5.o.res.blk.frozen 2
  have x3:=HG5.o.res.c 3 rfl
  have fz3:=HG5.o.res.blk.frozen 3
  have x4:=HG5.o.res.c 4 rfl
  have fz4:=HG5.o.res.blk.frozen 4
  have x5:=HG5.o.res.c 5 rfl
  have fz5:=HG5.o.res.blk.frozen 5
  have x6:=HG5.o.res.c 6 rfl
  have fz6:=HG5.o.res.blk.frozen 6
  have BR:=Km (a0:=iV 0) (a1:=.bool false) (a2:=iV f1) (a3:=iV f2) (a4:=.bool true) (a5:=iV z3) (a6:=sN) HG5.o.res
  have P0:Z (_=some (iV 0)):=BR.c 0 rfl
  have P1:Z (_=some (Value.bool false)):=BR.c 1 rfl
  have P2:Z (_=some (iV f1)):=BR.c 2 rfl
  have P3:Z (_=some (iV f2)):=BR.c 3 rfl
  have P4:Z (_=some (Value.bool true)):=BR.c 4 rfl
  have P5:Z (_=some (iV z3)):=BR.c 5 rfl
  have P6:Z (_=some sN):=BR.c 6 rfl
  clear BR
  go_wp2
  generalize hWF:(((((((w5.setCell (aD (w.heap.size+1) 0) (iV 0)).setCell (aD (w.heap.size+1) 1) (.bool false)).setCell (aD (w.heap.size+1) 2) (iV f1)).setCell (aD (w.heap.size+1) 3) (iV f2)).setCell (aD (w.heap.size+1) 4) (.bool true)).setCell (aD (w.heap.size+1) 5) (iV z3)).setCell (aD (w.heap.size+1) 6) sN)=wF at P0 P1 P2 P3 P4 P5 P6 ⊢
  have p0:=P0.o
  have p1:=P1.o
  have p2:=P2.o
  have p3:=P3.o
  have p4:=P4.o
  have p5:=P5.o
  have p6:=P6.o
  refine bodyPost_ret (v:=.agg #[iV 0,.bool false,iV f1,iV f2,.bool true,iV z3,sN]) (by simp[results,results81,go_sem,p0,p1,p2,p3,p4,p5,p6]) rfl ?_
  rw[HRR.o,HRS.o]
  have hO:=HG5.o.o (Ky (a0:=iV 0) (a1:=.bool false) (a2:=iV f1) (a3:=iV f2) (a4:=.bool true) (a5:=iV z3) (a6:=sN))
  rw[hWF] at hO
  exact⟨_,rfl,hO.1,hO.2.1,hO.2.2⟩
 ·have hb2:(d2==0)=false:=by simpa using hd2
  rw[if_neg hd2] at HRR HRS
  clear hd2
  go_wp2_with fail
  refine(Q6 D b (ns (ns (ns S k) k) 2) 4 w3 HG3.o.src HOK3.o (by omega)).mono ?_
  rintro e w4 ⟨rfl,hs1,hc1⟩
  have HG4:=mh (HG3.o.drawn hs1 hc1)
  have HOK4:Z (SOk (ns (ns (ns (ns S k) k) 2) 4)):=Qf HOK3.o _
  have hv4:=Qv HOK3.o 4
  obtain⟨M,hM⟩:∃M:Nat,1+nv (ns (ns (ns S k) k) 2) 4=M:=⟨(1+nv (ns (ns (ns S k) k) 2) 4).toNat,by omega⟩
  have hM4:M<=4:=by omega
  rw[hM,zU] at HRV
  have HMM:=mh hM
  generalize nv (ns (ns (ns S k) k) 2) 4=d4 at *
  clear hs1 hc1 HG3
  obtain⟨x0,hx0⟩:∃x:Q6m,x=⟨ns (ns (ns (ns S k) k) 2) 4,[]⟩:=⟨_,rfl⟩
  rw[<-hx0] at HRV
  have HXO:Z (∀j,SOk (Yp N.ways x0 j).S/\(Yp N.ways x0 j).l.length=j/\(Yp N.ways x0 j).S.size=x0.S.size):=by rw[hx0];exact Fw HOK4.o rfl
  have HG5:Z (RMs D b w w4 (Yp N.ways x0 0).S #[sL (some (aD nb no)) m0 t0,sL (some (aD wb wo)) k c1,sL r2 m2 t2,sL r3 m3 t3,iV u] g f1 f2 0 false sN (Yp N.ways x0 0).l):=by rw[hx0];exact HG4.o
  clear hx0 HG4 hM
  go_wp2
  rw[HMM.o]
  clear HMM hv4
  go_loopw [7] (λs7 wr=>∃(l j c:Nat) (a:Option Addr),l+j=M/\s7=iV (l:Int)/\Z (RMs D b w wr (Yp N.ways x0 j).S #[sL (some (aD nb no)) m0 t0,sL (some (aD wb wo)) k c1,sL r2 m2 t2,sL r3 m3 t3,iV u] g f1 f2 0 false (sL a j c) (Yp N.ways x0 j).l)) (λi _=>(intOf i).toNat)
  case atStart=>exact⟨M,0,0,none,rfl,rfl,HG5⟩
  obtain⟨l,j,c,a,hlj,rfl,HGj⟩:=hrel
  by_cases hl:0<l
  ·have hl':(0:Int)<l:=by omega
   obtain⟨HOKj',HLj',_⟩:=HXO.o j
   have HOKj:=mh HOKj'
   have HLj:=mh HLj'
   obtain⟨i4,hi4⟩:∃i:Nat,nv (Yp N.ways x0 j).S k=i:=⟨(nv (Yp N.ways x0 j).S k).toNat,by have:=(Qv HOKj.o k).1;omega⟩
   have hl4:i4<k:=by have:=(Qv HOKj.o k).2 (by omega);omega
   have HI4:=mh hi4
   have hj4:(i4:Int)<k:=by omega
   obtain⟨z4,hz4⟩:∃z,z=(wat N.ways i4).id:=⟨_,rfl⟩
   have HSTEP:Z (Yp N.ways x0 (j+1)=⟨ns (Yp N.ways x0 j).S k,(Yp N.ways x0 j).l++[z4]⟩):=by
    unfold Z
    show Q5b N.ways (Yp N.ways x0 j)=_
    unfold Q5b Kb
    rw[HK.o,HI4.o,zU,hz4]
   have HSTEPl:Z ((Yp N.ways x0 (j+1)).l=(Yp N.ways x0 j).l++[z4]):=by unfold Z;rw[HSTEP.o]
   have HSTEPs:Z ((Yp N.ways x0 (j+1)).S=ns (Yp N.ways x0 j).S k):=by unfold Z;rw[HSTEP.o]
   have HID4:Z (∀q,Chg (Sx1 b) w q->q.cell? (aD wb (wo+i4*4))=some (iV z4)):=λq hq=>by rw[hz4];exact HWC.o q hq i4 hl4
   have HSP:Z (∀q S',RMs D b w q S' #[sL (some (aD nb no)) m0 t0,sL (some (aD wb wo)) k c1,sL r2 m2 t2,sL r3 m3 t3,iV u] g f1 f2 0 false (sL a j c) (Yp N.ways x0 j).l->∀{q'},Nx q q'->(λq=>q.cell? (aD g 6)=some (sL a j c)/\q.cell? (aD w.heap.size 1)=some (sL (some (aD wb wo)) k c1)/\q.cell? (aD wb (wo+i4*4))=some (iV z4)) q'):=λq S' h q' hq=>⟨Q0 hq (h.rel.c 6 rfl),Q0 hq (h.box.c 1 rfl),Q0 hq (HID4.o q h.chg)⟩
   clear hi4 hz4 HSTEP HOKj' HLj'
   go_upto_region 10 with fail
   have HGD:=mh (HGj.o.next (show Nx wr wr.drew from(Below.refl _ _).drew))
   have HSS:=mh (HSP.o _ _ HGD.o (Nx.refl _))
   refine(wpIn_wide (n:=9)).1 ?_
   refine Qb (c:=13) (S:=λq=>q.cell? (aD g 6)=some (sL a j c)/\q.cell? (aD w.heap.size 1)=some (sL (some (aD wb wo)) k c1)/\q.cell? (aD wb (wo+i4*4))=some (iV z4)) hmx (by kernel_rfl) (λhw hcl=>?_)
   refine tq (i:=0) (v:=.pointer (some (aD g 6))) (λhcl=>?_)
   refine tq (i:=1) (v:=sL a j c) (λhcl=>?_)
   refine tq (i:=2) (v:=.pointer (some (aD w.heap.size 1))) (λhcl=>?_)
   refine tq (i:=3) (v:=sL (some (aD wb wo)) k c1) (λhcl=>?_)
   refine tq (i:=4) (v:=pT b) (λhcl=>?_)
   refine tq (i:=5) (v:=iV (k:Int)) (λhcl=>?_)
   refine Q8 (i:=6) (by kernel_rfl) hcl (λhcl=>wpOpIn_step rfl (λK hK=>?_))
   go_simp
   refine⟨trivial,(callsIn_wide.2 (Q6 D b (Yp N.ways x0 j).S (k:Int) _ HGD.o.src HOKj.o (by omega))).mono ?_⟩
   rintro e7 w4 ⟨rfl,hs1,hc1⟩
   rw[HI4.o]
   have HG4:=mh (HGD.o.drawn hs1 hc1)
   have HSS:=mh (HSP.o _ _ HG4.o (Nx.refl _))
   refine hK _ _ ⟨oR HSS.o,?_⟩
   clear hK K hs1 hc1
   refine tq (i:=7) (v:=.pointer (some (aD wb (wo+i4*4)))) (λhcl=>?_)
   refine tq (i:=8) (v:=.pointer (some (aD wb (wo+i4*4)))) (λhcl=>?_)
   refine tq (i:=9) (v:=iV z4) (λhcl=>?_)
   refine Q8 (i:=10) (by kernel_rfl) hcl (λhcl=>wpOpIn_step rfl (λK hK=>?_))
   go_simp
   refine hK _ _ ⟨oR (HSP.o _ _ HG4.o (Qe _ _)),?_⟩
   clear hK K
   refine Q8 (i:=11) (by kernel_rfl) hcl (λhcl=>wpOpIn_step rfl (λK hK=>?_))
   have hz4:=HG4.o.chg.size
   refine Jl rfl (.tmp 51) (.tmp 60) rfl w.heap.size j (sL a j c) (Yp N.ways x0 j).l z4 w4 _ rfl (by simp[Act.eval]) HG4.o.row (by simp[Act.eval]) HLj.o (by omega) hz4 ?_
   intro a8 c8 w8 r1 r2 r3
   have HG8:=mh (HG4.o.addWay r1 r2)
   have HB8:=mh (HG4.o.rel.row HG4.o.row (by decide) r2)
   have HS8:Z ((λq=>q.cell? (aD g 6)=some (sL a j c)/\q.cell? (aD w.heap.size 1)=some (sL (some (aD wb wo)) k c1)/\q.cell? (aD wb (wo+i4*4))=some (iV z4)) w8):=⟨HB8.o.c 6 rfl,(HG4.o.box.row HG4.o.row (by decide) r2).c 1 rfl,HID4.o _ (HG4.o.chg.young r2 (λx hx hl=>by have:=(Q7 HG4.o.row x hx.symm).1;omega))⟩
   refine hK _ _ ⟨oR HS8.o,?_⟩
   clear hK K r1 r2 r3
   have x6:=HB8.o.c 6 rfl
   have z6:=HB8.o.blk.frozen 6
   refine Q8 (i:=12) (by kernel_rfl) hcl (λhcl=>wpOpIn_step rfl (λK hK=>?_))
   go_simp
   refine hK _ _ ⟨oR HS8.o,?_⟩
   clear hK K
   refine Qh (i:=13) (by kernel_rfl) (wpOpIn_step rfl (λK hK=>?_))
   go_simp
   refine hK _ _ ⟨oL (by decide),?_⟩
   clear hK K
   refine Ql (by kernel_rfl) ?_ _
   clear x6 z6 hw hcl HSS HS8 HB8
   rw[<-HSTEPl.o] at HG8
   generalize w8.setCell (aD g 6) (sL a8 (j+1) c8)=w9 at *
   rw[<-HSTEPs.o] at HG8
   obtain⟨l',rfl⟩:∃l',l=l'+1:=⟨l-1,by omega⟩
   have hwr:IntKind.i64.wrap (l':Int)=l':=Va _ (by omega)
   clear hl hl'
   go_wp2
   go_roundw
   case rel=>exact⟨l',j+1,c8,a8,by omega,by go_num,HG8⟩
   case measure=>simp[intOf]
  ·have hl0:l=0:=by omega
   subst hl0
   have hjM:j=M:=by omega
   subst hjM
   clear hlj hl
   rw[<-HRV.o] at HGj
   generalize hvl:(Ie N S).l=vl at *
   generalize (Ie N S).S=vS at *
   clear hvl
   have y0:=HGj.o.rel.c 0 rfl
   have y1:=HGj.o.rel.c 1 rfl
   have y2:=HGj.o.rel.c 2 rfl
   have y3:=HGj.o.rel.c 3 rfl
   have y4:=HGj.o.rel.c 4 rfl
   have y5:=HGj.o.rel.c 5 rfl
   have y6:=HGj.o.rel.c 6 rfl
   have x0:=HGj.o.res.c 0 rfl
   have fz0:=HGj.o.res.blk.frozen 0
   have x1:=HGj.o.res.c 1 rfl
   have fz1:=HGj.o.res.blk.frozen 1
   have x2:=HGj.o.res.c 2 rfl
   have fz2:=HGj.o.res.blk.frozen 2
   have x3:=HGj.o.res.c 3 rfl
   have fz3:=HGj.o.res.blk.frozen 3
   have x4:=HGj.o.res.c 4 rfl
   have fz4:=HGj.o.res.blk.frozen 4
   have x5:=HGj.o.res.c 5 rfl
   have fz5:=HGj.o.res.blk.frozen 5
   have x6:=HGj.o.res.c 6 rfl
   have fz6:=HGj.o.res.blk.frozen 6
   have BR:=Km (a0:=iV 0) (a1:=.bool false) (a2:=iV f1) (a3:=iV f2) (a4:=.bool false) (a5:=iV 0) (a6:=sL a j c) HGj.o.res
   have P0:Z (_=some (iV 0)):=BR.c 0 rfl
   have P1:Z (_=some (Value.bool false)):=BR.c 1 rfl
   have P2:Z (_=some (iV f1)):=BR.c 2 rfl
   have P3:Z (_=some (iV f2)):=BR.c 3 rfl
   have P4:Z (_=some (Value.bool false)):=BR.c 4 rfl
   have P5:Z (_=some (iV 0)):=BR.c 5 rfl
   have P6:Z (_=some (sL a j c)):=BR.c 6 rfl
   clear BR
   go_wp2
   generalize hWF:(((((((wr.setCell (aD (w.heap.size+1) 0) (iV 0)).setCell (aD (w.heap.size+1) 1) (.bool false)).setCell (aD (w.heap.size+1) 2) (iV f1)).setCell (aD (w.heap.size+1) 3) (iV f2)).setCell (aD (w.heap.size+1) 4) (.bool false)).setCell (aD (w.heap.size+1) 5) (iV 0)).setCell (aD (w.heap.size+1) 6) (sL a j c))=wF at P0 P1 P2 P3 P4 P5 P6 ⊢
   have p0:=P0.o
   have p1:=P1.o
   have p2:=P2.o
   have p3:=P3.o
   have p4:=P4.o
   have p5:=P5.o
   have p6:=P6.o
   refine bodyPost_ret (v:=.agg #[iV 0,.bool false,iV f1,iV f2,.bool false,iV 0,sL a j c]) (by simp[results,results81,go_sem,p0,p1,p2,p3,p4,p5,p6]) rfl ?_
   rw[HRR.o,HRS.o]
   have hO:=HGj.o.o (Ky (a0:=iV 0) (a1:=.bool false) (a2:=iV f1) (a3:=iV f2) (a4:=.bool false) (a5:=iV 0) (a6:=sL a j c))
   rw[hWF] at hO
   exact⟨_,rfl,hO.1,hO.2.1,hO.2.2⟩
structure FR (D b:Nat)(w0 w:World)(S:Src)(bl:List (Nat×Array Value×Nat)):Prop where
 chg:Chg (Sx1 b) w0 w
 src:Jj D w b S
 bx:∀p∈bl,BT w p.1 p.2.1 p.2.2/\w0.heap.size<=p.1
 ty:∀p∈bl,p.2.2≠44/\p.2.2≠5/\p.2.2≠2
 nd:(bl.map (·.1)).Nodup
section
variable {D b g:Nat}{w0 w w':World}{S S':Src}{bl:List (Nat×Array Value×Nat)}
theorem FR.at (h:FR D b w0 w S bl)(k:Nat){p:Nat×Array Value×Nat}(hk:bl[k]?=some p):BT w p.1 p.2.1 p.2.2:=(h.bx p (yJ hk)).1
theorem FR.next (h:FR D b w0 w S bl)(k:Nx w w'):FR D b w0 w' S bl:=⟨h.chg.trans (Chg.nx k),h.src.next k,λp hp=>⟨(h.bx p hp).1.next k,(h.bx p hp).2⟩,h.ty,h.nd⟩
theorem FR.drawn (h:FR D b w0 w S bl)(hS:Jj D w' b S')(k:Chg (Sx1 b) w w'):FR D b w0 w' S' bl:=by
 obtain⟨v,hb,_⟩:=h.src
 exact⟨h.chg.trans k,hS,λp hp=>⟨(h.bx p hp).1.chg k ((h.bx p hp).1.ne hb (h.ty p hp).1),(h.bx p hp).2⟩,h.ty,h.nd⟩
theorem FR.alloc (h:FR D b w0 w S bl)(cs:Array Value)(t:Nat)(ht:t≠44/\t≠5/\t≠2):FR D b w0 (w.alloc (.cells cs t)) S (bl++[(w.heap.size,cs,t)]):=by
 have k:=h.next (Qe w (.cells cs t))
 refine⟨k.chg,k.src,λp hp=>?_,λp hp=>?_,?_⟩
 ·rcases List.mem_append.1 hp with g|g
  ·exact k.bx p g
  ·have e:p=(w.heap.size,cs,t):=by simpa using g
   subst e
   exact⟨BT.new _ _ _ _ rfl,h.chg.size⟩
 ·rcases List.mem_append.1 hp with g|g
  ·exact k.ty p g
  ·have e:p=(w.heap.size,cs,t):=by simpa using g
   subst e
   exact ht
 ·rw[yF,List.nodup_append]
  refine⟨h.nd,by simp,λx hx y hy=>?_⟩
  obtain⟨p,hp,rfl⟩:=List.mem_map.1 hx
  have e:y=w.heap.size:=by simpa using hy
  have:=(h.bx p hp).1.lt
  omega
theorem FR.other (h:FR D b w0 w S bl){k:Nat}{g t:Nat}(hk:bl[k]?=some (g,cs,t)){j:Nat}{p:Nat×Array Value×Nat}(hj:bl[j]?=some p)(hn:j≠k):p.1≠g:=by
 intro e
 have h1:(bl.map (·.1))[j]?=some g:=by rw[zY,hj];simp[e]
 have h2:(bl.map (·.1))[k]?=some g:=by rw[zY,hk];rfl
 obtain⟨l1,e1⟩:=List.getElem?_eq_some_iff.1 h1
 obtain⟨l2,e2⟩:=List.getElem?_eq_some_iff.1 h2
 rcases Nat.lt_trichotomy j k with q|q|q
 ·exact List.pairwise_iff_getElem.1 h.nd j k l1 l2 q (e1.trans e2.symm)
 ·exact hn q
 ·exact List.pairwise_iff_getElem.1 h.nd k j l2 l1 q (e2.trans e1.symm)
theorem FR.turn (h:FR D b w0 w S bl)(k:Nat){g t:Nat}{cs':Array Value}(hk:bl[k]?=some (g,cs,t))(hc:Chg (λx=>x=g) w w')(hb:BT w' g cs' t):FR D b w0 w' S (bl.set k (g,cs',t)):=by
 have hg:=h.bx _ (yJ hk)
 have ht:=h.ty _ (yJ hk)
 have key:∀p∈bl.set k (g,cs',t),(BT w' p.1 p.2.1 p.2.2/\w0.heap.size<=p.1)/\p.2.2≠44/\p.2.2≠5/\p.2.2≠2:=λp hp=>by
  obtain⟨j,hj⟩:=List.getElem?_of_mem hp
  by_cases e:j=k
  ·subst e
   have e1:p=(g,cs',t):=by
    rw[List.getElem?_set_self (List.getElem?_eq_some_iff.1 hk).1] at hj
    exact(zE hj).symm
   subst e1
   exact⟨⟨hb,hg.2⟩,ht⟩
  ·rw[List.getElem?_set_ne (λe'=>e e'.symm)] at hj
   have hm:=yJ hj
   exact⟨⟨(h.bx p hm).1.chg hc (h.other hk hj e),(h.bx p hm).2⟩,h.ty p hm⟩
 refine⟨h.chg.young hc (λx hx hl=>by have hx':x=g:=hx;have:=hg.2;simp only at this;omega),h.src.chg hc (λx hx=>?_),λp hp=>(key p hp).1,λp hp=>(key p hp).2,?_⟩
 ·have hx':=hx
  subst hx'
  exact⟨_,_,hg.1,ht.1,ht.2.1⟩
 ·rw[List.map_set]
  have e:(bl.map (·.1)).set k g=bl.map (·.1):=by
   apply List.ext_getElem?
   intro j
   by_cases e:j=k
   ·subst e
    rw[List.getElem?_set_self (by rw[zF];exact(List.getElem?_eq_some_iff.1 hk).1),zY,hk]
    rfl
   ·rw[List.getElem?_set_ne (λe'=>e e'.symm)]
  show(List.map (λx=>x.1) bl |>.set k g).Nodup
  rw[e]
  exact h.nd
theorem FR.set (h:FR D b w0 w S bl)(k:Nat){g t:Nat}(hk:bl[k]?=some (g,cs,t))(i:Nat)(v:Value):FR D b w0 (w.setCell (aD g i) v) S (bl.set k (g,cs.setIfInBounds i v,t)):=
 h.turn k hk (Chg.set _ _ _ rfl) ((h.at k hk).set i v)
theorem FR.grow (h:FR D b w0 w S bl)(ho:Q5 C w v zs)(hC:w0.heap.size<=C)(hc:Chg (λx=>some x=v.ownBlock) w w'):FR D b w0 w' S bl:=
 ⟨h.chg.young hc (λx hx hl=>by have:=(Q7 ho x hx.symm).1;omega),h.src.row ho (by decide) (by decide) hc,λp hp=>⟨(h.bx p hp).1.row ho (h.ty p hp).2.2 hc,(h.bx p hp).2⟩,h.ty,h.nd⟩
theorem FR.rowDrawn (h:FR D b w0 w S bl)(ho:Q5 C w v zs)(k:Chg (Sx1 b) w w'):Q5 C w' v zs:=by
 obtain⟨u,hb,_⟩:=h.src
 exact J5 ho k (λx hx e=>by
  have e':x=b:=e
  subst e'
  exact hb.neRow ho (by decide) hx.symm)
theorem FR.rowTurn (h:FR D b w0 w S bl)(k:Nat){g t:Nat}(hk:bl[k]?=some (g,cs,t))(ho:Q5 C w v zs)(hc:Chg (λx=>x=g) w w'):Q5 C w' v zs:=
 J5 ho hc (λx hx e=>by
  have e':=e
  subst e'
  exact(h.at k hk).neRow ho (h.ty _ (yJ hk)).2.2 hx.symm)
end
theorem Chg.keepsB (h:Chg (Sx1 b) w w')(hB:b<B):Ym B w w':=
 ⟨h.size,λg hg hs o=>by
  have hb:=h.block g hs (show ¬g=b by omega)
  unfold World.cell?
  simp only[hb]⟩
def ewy (es:List Eg)(e:Int):Int:=(eat es e.toNat).way
def hdN (l:List Nat):Nat:=l.headD 0
def laL (l:List Nat):Nat:=l.getLastD 0
def ltd (ts:List (List Nat))(i:Nat):List Nat:=ts.getD i []
structure Q2t where
 S:Src
 fin:Int
 ways:List Int
 stop:Bool
def Wi (ws:List Wy)(es:List Eg)(ts:List (List Nat))(e:Nat)(x:Int×List Int):Nat->Int×List Int
 |0=>x
 |i+1=>if hdN (ltd ts i)=e/\(Wi ws es ts e x i).2.length<4 then ((eat es (laL (ltd ts i))).head,(Wi ws es ts e x i).2++[Kb ws (ewy es e)]) else Wi ws es ts e x i
def Q3r (N:Nt)(es:List Eg)(e:Nat)(x:Int×List Int):Int×List Int:=Wi N.ways es (Jt N es (ewy es e).toNat) e x (Jt N es (ewy es e).toNat).length
def T5 (N:Nt)(es:List Eg)(x:Q2t):Q2t:=
 if x.stop then x else if pkV es x.fin true x.S<0 then ⟨pkS es x.fin true x.S,x.fin,x.ways,true⟩
 else ⟨pkS es x.fin true x.S,(Q3r N es (pkV es x.fin true x.S).toNat (x.fin,x.ways)).1,(Q3r N es (pkV es x.fin true x.S).toNat (x.fin,x.ways)).2,false⟩
def Xh (N:Nt)(es:List Eg)(x:Q2t):Nat->Q2t
 |0=>x
 |k+1=>T5 N es (Xh N es x k)
def dnA (es:List Eg)(S1:Src):Int:=nv S1 es.length
def Q6a (es:List Eg)(S1:Src):Int:=(eat es (dnA es S1).toNat).head
def dnB (es:List Eg)(S1:Src):Int:=pkV es (Q6a es S1) true (ns S1 es.length)
def dnS (es:List Eg)(S1:Src):Src:=pkS es (Q6a es S1) true (ns S1 es.length)
def dwW (N:Nt)(S1:Src):Nat:=(nv S1 N.ways.length).toNat
def dwT (N:Nt)(es:List Eg)(S1:Src):List (List Nat):=Jt N es (dwW N S1)
def Qc3 (N:Nt)(es:List Eg)(S1:Src):List Nat:=ltd (dwT N es S1) (nv (ns S1 N.ways.length) (dwT N es S1).length).toNat
def Q68 (N:Nt)(es:List Eg)(S1:Src):Src:=ns (ns S1 N.ways.length) (dwT N es S1).length
def Q9m (N:Nt)(es:List Eg)(S1:Src):Int:=(eat es (hdN (Qc3 N es S1))).tail
def dwA (N:Nt)(es:List Eg)(S1:Src):Int:=pkV es (Q9m N es S1) false (Q68 N es S1)
def Ac (N:Nt)(es:List Eg)(S1:Src):Src:=pkS es (Q9m N es S1) false (Q68 N es S1)
def dwX (N:Nt)(es:List Eg)(S1:Src):Q2t:=⟨ns (Ac N es S1) 3,(eat es (laL (Qc3 N es S1))).head,[(wat N.ways (dwW N S1)).id],false⟩
def dwM (N:Nt)(es:List Eg)(S1:Src):Q2t:=Xh N es (dwX N es S1) (nv (Ac N es S1) 3).toNat
def dwB (N:Nt)(es:List Eg)(S1:Src):Int:=pkV es (dwM N es S1).fin true (dwM N es S1).S
def Q4f (N:Nt)(es:List Eg)(S1:Src):Src:=pkS es (dwM N es S1).fin true (dwM N es S1).S
def drR (N:Nt)(R:Rd)(S:Src):Rl:=
 if nv S 10=0\/R.edges.length=0 then Xi N (ns S 10)
 else if nv S 10<6 then
  if dnB R.edges (ns S 10)<0 then Xi N (dnS R.edges (ns S 10))
  else ⟨0,false,Kb N.ways (ewy R.edges (dnA R.edges (ns S 10))),Kb N.ways (ewy R.edges (dnB R.edges (ns S 10))),true,iat R.nodes (Q6a R.edges (ns S 10)).toNat,[]⟩
 else if dwA N R.edges (ns S 10)<0\/dwB N R.edges (ns S 10)<0 then Xi N (Q4f N R.edges (ns S 10))
 else ⟨0,false,Kb N.ways (ewy R.edges (dwA N R.edges (ns S 10))),Kb N.ways (ewy R.edges (dwB N R.edges (ns S 10))),false,0,(dwM N R.edges (ns S 10)).ways⟩
def drS (N:Nt)(R:Rd)(S:Src):Src:=
 if nv S 10=0\/R.edges.length=0 then Yb N (ns S 10)
 else if nv S 10<6 then
  if dnB R.edges (ns S 10)<0 then Yb N (dnS R.edges (ns S 10)) else dnS R.edges (ns S 10)
 else if dwA N R.edges (ns S 10)<0\/dwB N R.edges (ns S 10)<0 then Yb N (Q4f N R.edges (ns S 10)) else Q4f N R.edges (ns S 10)
theorem Ze {nd:Int}{out:Bool}(h:SOk S):SOk (pkS es nd out S)/\(pkS es nd out S).size=S.size:=by
 unfold pkS
 split
 ·exact⟨h,rfl⟩
 ·exact⟨Qf h _,Qs _ _⟩
theorem Gl (es:List Eg)(nd:Int)(out:Bool):∀k,∀x∈Jc es nd out k,∃e:Nat,x=e/\e<k
 |0,x,hx=>by simp[Jc] at hx
 |k+1,x,hx=>by
  unfold Jc at hx
  split at hx
  ·rcases List.mem_append.1 hx with g|g
   ·obtain⟨e,h1,h2⟩:=Gl es nd out k x g
    exact⟨e,h1,by omega⟩
   ·exact⟨k,by simpa using g,by omega⟩
  ·obtain⟨e,h1,h2⟩:=Gl es nd out k x hx
   exact⟨e,h1,by omega⟩
theorem Q1w {nd:Int}{out:Bool}(h:SOk S):pkV es nd out S=-1\/∃e:Nat,pkV es nd out S=e/\e<es.length:=by
 unfold pkV
 split
 ·exact oL rfl
 ·rename_i q
  have k:=Qv h ((Jc es nd out es.length).length:Int)
  have hi:(nv S (Jc es nd out es.length).length).toNat<(Jc es nd out es.length).length:=by
   have:=k.2 (by omega)
   omega
  rw[V5 hi]
  exact oR (Gl es nd out es.length _ (yH hi))
theorem Ii {N:Nt}{es:List Eg}{x:Q2t}(h:SOk x.S):∀k,SOk (Xh N es x k).S/\(Xh N es x k).S.size=x.S.size
 |0=>⟨h,rfl⟩
 |k+1=>by
  have k1:=Ii (N:=N) (es:=es) h k
  have e:Xh N es x (k+1)=T5 N es (Xh N es x k):=rfl
  rw[e]
  unfold T5
  split
  ·exact k1
  ·split
   ·exact⟨(Ze k1.1).1,(Ze k1.1).2.trans k1.2⟩
   ·exact⟨(Ze k1.1).1,(Ze k1.1).2.trans k1.2⟩
theorem Q0t {N:Nt}{es:List Eg}{x:Q2t}{j:Nat}(h:(Xh N es x j).stop=true):∀k,j<=k->Xh N es x k=Xh N es x j
 |0,hk=>by have:j=0:=by omega
           subst this;rfl
 |k+1,hk=>by
  by_cases e:j=k+1
  ·subst e;rfl
  ·have k1:=Q0t h k (by omega)
   have e1:Xh N es x (k+1)=T5 N es (Xh N es x k):=rfl
   rw[e1,k1]
   unfold T5
   rw[if_pos h]
theorem A7 (ws:List Wy)(es:List Eg)(ts:List (List Nat))(e:Nat){x:Int×List Int}(h:x.2.length<=4):∀i,(Wi ws es ts e x i).2.length<=4
 |0=>h
 |i+1=>by
  have k:=A7 ws es ts e h i
  unfold Wi
  split
  ·rename_i q
   simp only[zA,List.length_singleton]
   omega
  ·exact k
theorem Es {N:Nt}{es:List Eg}{x:Q2t}(h:x.ways.length<=4):∀k,(Xh N es x k).ways.length<=4
 |0=>h
 |k+1=>by
  have k1:=Es (N:=N) (es:=es) h k
  have e:Xh N es x (k+1)=T5 N es (Xh N es x k):=rfl
  rw[e]
  unfold T5
  split
  ·exact k1
  ·split
   ·exact k1
   ·exact A7 _ _ _ _ k1 _
theorem Q69 {R:Rd}(h:SOk S):SOk (drS N R S)/\(drS N R S).size=S.size:=by
 have h1:=Qf h 10
 have z1:=Qs S 10
 have hn:SOk (dnS R.edges (ns S 10))/\(dnS R.edges (ns S 10)).size=S.size:=by
  have k:=Ze (es:=R.edges) (nd:=Q6a R.edges (ns S 10)) (out:=true) (Qf h1 R.edges.length)
  exact⟨k.1,k.2.trans ((Qs _ _).trans z1)⟩
 have h4:SOk (Ac N R.edges (ns S 10))/\(Ac N R.edges (ns S 10)).size=S.size:=by
  have k:=Ze (es:=R.edges) (nd:=Q9m N R.edges (ns S 10)) (out:=false) (S:=Q68 N R.edges (ns S 10)) (Qf (Qf h1 _) _)
  refine⟨k.1,k.2.trans ?_⟩
  unfold Q68
  rw[Qs,Qs,z1]
 have hm:SOk (dwM N R.edges (ns S 10)).S/\(dwM N R.edges (ns S 10)).S.size=S.size:=by
  have k:=Ii (N:=N) (es:=R.edges) (x:=dwX N R.edges (ns S 10)) (Qf h4.1 3) (nv (Ac N R.edges (ns S 10)) 3).toNat
  refine⟨k.1,k.2.trans ?_⟩
  show(ns (Ac N R.edges (ns S 10)) 3).size=_
  rw[Qs,h4.2]
 have h7:SOk (Q4f N R.edges (ns S 10))/\(Q4f N R.edges (ns S 10)).size=S.size:=by
  have k:=Ze (es:=R.edges) (nd:=(dwM N R.edges (ns S 10)).fin) (out:=true) hm.1
  exact⟨k.1,k.2.trans hm.2⟩
 have rd:∀{T:Src},SOk T/\T.size=S.size->SOk (Yb N T)/\(Yb N T).size=S.size:=λhT=>⟨(Q3d hT.1).1,(Q3d hT.1).2.trans hT.2⟩
 unfold drS
 split
 ·exact rd ⟨h1,z1⟩
 ·split
  ·split
   ·exact rd hn
   ·exact hn
  ·split
   ·exact rd h7
   ·exact h7
theorem Q4g {R:Rd}(h:SOk S):(drR N R S).ways.length<=4:=by
 have h1:=Qf h 10
 have rd:∀{T:Src},SOk T->(Xi N T).ways.length<=4:=λ{T} hT=>by
  have hs:SOk (ns (Ud N T) 2):=Qf (Qf (Qf hT _) _) _
  unfold Xi
  split
  ·exact nZ
  ·have k:=(Fw (ws:=N.ways) (x:=⟨ns (ns (Ud N T) 2) 4,[]⟩) (show SOk (ns (ns (Ud N T) 2) 4) from Qf hs _) rfl (1+nv (ns (Ud N T) 2) 4).toNat).2.1
   have v:=Qv hs 4
   show(Ie N T).l.length<=4
   unfold Ie
   rw[k]
   omega
 have hn:SOk (dnS R.edges (ns S 10)):=(Ze (es:=R.edges) (nd:=Q6a R.edges (ns S 10)) (out:=true) (Qf h1 R.edges.length)).1
 have h4:SOk (Ac N R.edges (ns S 10)):=(Ze (es:=R.edges) (nd:=Q9m N R.edges (ns S 10)) (out:=false) (S:=Q68 N R.edges (ns S 10)) (Qf (Qf h1 _) _)).1
 have hm:SOk (dwM N R.edges (ns S 10)).S:=(Ii (N:=N) (es:=R.edges) (x:=dwX N R.edges (ns S 10)) (Qf h4 3) (nv (Ac N R.edges (ns S 10)) 3).toNat).1
 have h7:SOk (Q4f N R.edges (ns S 10)):=(Ze (es:=R.edges) (nd:=(dwM N R.edges (ns S 10)).fin) (out:=true) hm).1
 unfold drR
 split
 ·exact rd h1
 ·split
  ·split
   ·exact rd hn
   ·exact nZ
  ·split
   ·exact rd h7
   ·exact Es (x:=dwX N R.edges (ns S 10)) (show([_]:List Int).length<=4 by simp) _
structure Q4t (N:Nt)(R:Rd):Prop where
 len:R.edges.length<=4000
 way:∀e,e<R.edges.length->∃i:Nat,i<N.ways.length/\(eat R.edges e).way=i
 head:∀e,e<R.edges.length->∃i:Nat,i<R.nodes.length/\(eat R.edges e).head=i
 trav:∀i,i<N.ways.length->0<R.edges.length->∀l∈Jt N R.edges i,l≠[]/\∀e∈l,e<R.edges.length
theorem rd_in (N:Nt):Q4t N (V4 N):=by
 unfold V4
 by_cases hv:J1 N=true
 ·rw[if_pos hv]
  have hr:=Uw hv
  have h2:=Id hv
  refine⟨Q86 hr,(lk_in hv).way,λe he=>?_,λi hi _ l hl=>?_⟩
  ·obtain⟨a,c⟩:=Q87 hr he
   exact⟨(eat (E1 N) e).head.toNat,by show _<N.nodes.length;omega,by show(eat (E1 N) e).head=_;omega⟩
  ·have ht:=Kx hr h2 hi
   replace hl:l∈Jt N (E1 N) i:=hl
   have hin:∀e∈l,e<(E1 N).length:=λe he=>by
    unfold Jt at hl
    rcases List.mem_append.1 hl with g|g
    ·have e1:l=Vv (E1 N) i (E1 N).length:=by simpa using g
     rw[e1] at he
     unfold Vv at he
     exact List.mem_range.1 (List.mem_filter.1 he).1
    ·split at g
     ·have e1:l=Xs (E1 N) i (E1 N).length:=by simpa using g
      rw[e1] at he
      unfold Xs at he
      exact List.mem_range.1 (List.mem_filter.1 (List.mem_reverse.1 he)).1
     ·simp at g
   refine⟨?_,hin⟩
   unfold Jt at hl
   rcases List.mem_append.1 hl with g|g
   ·have e1:l=Vv (E1 N) i (E1 N).length:=by simpa using g
    rw[e1]
    exact ht.1
   ·split at g
    ·rename_i hb
     have e1:l=Xs (E1 N) i (E1 N).length:=by simpa using g
     rw[e1]
     exact ht.2 hb
    ·simp at g
 ·rw[if_neg hv]
  exact⟨nZ,λe he=>absurd he (zK _),λe he=>absurd he (zK _),λi hi h0=>absurd h0 (zK _)⟩
def bl3 (h:Nat)(nt rd:Array Value):List (Nat×Array Value×Nat):=[(h,nt,60),(h+1,rd,86),(h+2,#[iV 0,.bool false,iV 0,iV 0,.bool false,iV 0,sN],89)]
def bl4 (h:Nat)(nt rd:Array Value)(g:Nat)(ra:Array Value):List (Nat×Array Value×Nat):=[(h,nt,60),(h+1,rd,86),(h+2,#[iV 0,.bool false,iV 0,iV 0,.bool false,iV 0,sN],89),(g,ra,89)]
def Qgo (N:Nt):Prop:=0<N.nodes.length/\0<N.ways.length/\N.nodes.length<=1000000/\N.ways.length<=1000000
theorem Chg.mono {S T:Nat->Prop}(h:Chg S w w')(k:∀x,S x->T x):Chg T w w':=⟨h.os,h.tape,h.output,h.size,λx hx hn=>h.block x hx (λe=>hn (k x e))⟩
theorem K7 (B D b:Nat)(v0 v1 v2 v3 q0 q1 q2 q3:Value)(N:Nt)(R:Rd)(S:Src)(w:World)(hN:U0 B w v0 v1 v2 v3 N)(hR:Vy B w q0 q1 q2 q3 R)(hB:b<B)(h0:0<N.nodes.length)(hw0:0<N.ways.length)(hl0:N.nodes.length<=1000000)(hl1:N.ways.length<=1000000)(hS:Jj D w b S)(hok:SOk S)(hE:R.edges.length=0) :
  Calls prog 54 #[.agg #[v0,v1,v2,v3,iV N.uturn],.agg #[q0,q1,q2,q3],pT b] w λe w'=>∃va,e=.returned (.agg #[iV (drR N R S).id,.bool (drR N R S).only,iV (drR N R S).frm,iV (drR N R S).to,.bool (drR N R S).via,iV (drR N R S).node,va])/\Q5 w.heap.size w' va (drR N R S).ways/\Jj D w' b (drS N R S)/\Chg (Sx1 b) w w':=by
 have HOK:Z (SOk S):=hok
 have HOK1:=mh (Qf hok 10)
 have HS0:=mh hS
 have HP:Z (Qgo N):=⟨h0,hw0,hl0,hl1⟩
 have HNK:Z (∀q,Chg (Sx1 b) w q->U0 B q v0 v1 v2 v3 N):=λq hq=>hN.keep (hq.keepsB hB)
 have HRK:Z (∀q,Chg (Sx1 b) w q->Vy B q q0 q1 q2 q3 R):=λq hq=>hR.keep (hq.keepsB hB)
 obtain⟨r0,t0,rfl,_,kn⟩:=hN.1
 obtain⟨r1,c1,rfl,_,kw⟩:=hN.2.1
 obtain⟨r2,t2,rfl,_,_⟩:=hN.2.2.1
 obtain⟨r3,t3,rfl,_,_⟩:=hN.2.2.2
 obtain⟨wb,wo,rfl,hwb,_,hwc⟩:=kw hw0
 obtain⟨nb,no,rfl,hnb,_,hnc⟩:=kn h0
 obtain⟨p0,d0,rfl,_,krn⟩:=hR.1
 obtain⟨p1,e1,rfl,_,kre⟩:=hR.2.1
 obtain⟨p2,d2,rfl,_,_⟩:=hR.2.2.1
 obtain⟨p3,d3,rfl,_,_⟩:=hR.2.2.2
 clear hwc hnc kn kw krn kre hN hR hS hok
 have HDR:Z (drR N R S=Xi N (ns S 10)):=by unfold Z drR;rw[if_pos (oR hE)]
 have HDS:Z (drS N R S=Yb N (ns S 10)):=by unfold Z drS;rw[if_pos (oR hE)]
 rw[hE] at *
 generalize N.nodes.length=m0 at *
 generalize N.ways.length=mw at *
 generalize N.rels.length=m2 at *
 generalize N.turns.length=m3 at *
 generalize R.nodes.length=s0 at *
 generalize R.first.length=s2 at *
 generalize R.o.length=s3 at *
 clear h0 hw0 hl0 hl1 hE
 go_enter func54,ntmps54
 go_upto_region 1 with fail
 generalize hWA:((w.alloc (.cells #[sL (some (aD nb no)) m0 t0,sL (some (aD wb wo)) mw c1,sL r2 m2 t2,sL r3 m3 t3,iV N.uturn] 60)).alloc (.cells #[sL p0 s0 d0,sL p1 0 e1,sL p2 s2 d2,sL p3 s3 d3] 86)).alloc (.cells #[iV 0,.bool false,iV 0,iV 0,.bool false,iV 0,sN] 89)=wA
 have HA0:Z (FR D b w wA S (bl3 w.heap.size #[sL (some (aD nb no)) m0 t0,sL (some (aD wb wo)) mw c1,sL r2 m2 t2,sL r3 m3 t3,iV N.uturn] #[sL p0 s0 d0,sL p1 0 e1,sL p2 s2 d2,sL p3 s3 d3])):=by
  unfold Z
  rw[<-hWA]
  have k0:FR D b w w S []:=⟨Chg.nx (Nx.refl _),HS0.o,λp hp=>absurd hp (by simp),λp hp=>absurd hp (by simp),List.nodup_nil⟩
  have k1:=((k0.alloc #[sL (some (aD nb no)) m0 t0,sL (some (aD wb wo)) mw c1,sL r2 m2 t2,sL r3 m3 t3,iV N.uturn] 60 (by decide)).alloc #[sL p0 s0 d0,sL p1 0 e1,sL p2 s2 d2,sL p3 s3 d3] 86 (by decide)).alloc #[iV 0,.bool false,iV 0,iV 0,.bool false,iV 0,sN] 89 (by decide)
  rw[Q1,Q1,Q1] at k1
  exact k1
 clear hWA
 go_wp2_with fail
 refine(Q6 D b S 10 wA HA0.o.src HOK.o (by omega)).mono ?_
 rintro e w1 ⟨rfl,hs1,hc1⟩
 have H1:=mh (HA0.o.drawn hs1 hc1)
 have hv10:=Qv HOK.o 10
 clear hs1 hc1 HA0
 generalize nv S 10=d10 at *
 by_cases hd:d10=0
 ·subst hd
  have nc0:w1.cell? (aD w.heap.size 0)=some (sL (some (aD nb no)) m0 t0):=(H1.o.at 0 rfl).c 0 rfl
  have nc1:w1.cell? (aD w.heap.size 1)=some (sL (some (aD wb wo)) mw c1):=(H1.o.at 0 rfl).c 1 rfl
  have nc2:w1.cell? (aD w.heap.size 2)=some (sL r2 m2 t2):=(H1.o.at 0 rfl).c 2 rfl
  have nc3:w1.cell? (aD w.heap.size 3)=some (sL r3 m3 t3):=(H1.o.at 0 rfl).c 3 rfl
  have nc4:w1.cell? (aD w.heap.size 4)=some (iV N.uturn):=(H1.o.at 0 rfl).c 4 rfl
  go_wp2_with fail
  refine(Xu B D b (sL (some (aD nb no)) m0 t0) (sL (some (aD wb wo)) mw c1) (sL r2 m2 t2) (sL r3 m3 t3) N.uturn N (ns S 10) w1 (HNK.o _ H1.o.chg) hB HP.o.1 HP.o.2.1 HP.o.2.2.1 HP.o.2.2.2 H1.o.src HOK1.o).mono ?_
  rintro e wz ⟨va,rfl,ho,hs1,hc1⟩
  obtain⟨a7,c7,rfl⟩:=Qd ho
  have HF:=mh (H1.o.drawn hs1 hc1)
  have HO:=mh (ho.base H1.o.chg.size)
  clear ho hs1 hc1 nc0 nc1 nc2 nc3 nc4
  generalize Xi N (ns S 10)=rr at *
  generalize Yb N (ns S 10)=rs at *
  obtain⟨q1,q2,q3,q4,q5,q6,q7⟩:=rr
  simp only at HO ⊢
  generalize q7.length=n7 at *
  have BR:BT wz (w.heap.size+2) #[iV 0,.bool false,iV 0,iV 0,.bool false,iV 0,sN] 89:=HF.o.at 2 rfl
  have x0:=BR.c 0 rfl
  have fz0:=BR.blk.frozen 0
  have x1:=BR.c 1 rfl
  have fz1:=BR.blk.frozen 1
  have x2:=BR.c 2 rfl
  have fz2:=BR.blk.frozen 2
  have x3:=BR.c 3 rfl
  have fz3:=BR.blk.frozen 3
  have x4:=BR.c 4 rfl
  have fz4:=BR.blk.frozen 4
  have x5:=BR.c 5 rfl
  have fz5:=BR.blk.frozen 5
  have x6:=BR.c 6 rfl
  have fz6:=BR.blk.frozen 6
  have BS:=Km (a0:=iV q1) (a1:=.bool q2) (a2:=iV q3) (a3:=iV q4) (a4:=.bool q5) (a5:=iV q6) (a6:=sL a7 n7 c7) BR
  have P0:Z (_=some (iV q1)):=BS.c 0 rfl
  have P1:Z (_=some (Value.bool q2)):=BS.c 1 rfl
  have P2:Z (_=some (iV q3)):=BS.c 2 rfl
  have P3:Z (_=some (iV q4)):=BS.c 3 rfl
  have P4:Z (_=some (Value.bool q5)):=BS.c 4 rfl
  have P5:Z (_=some (iV q6)):=BS.c 5 rfl
  have P6:Z (_=some (sL a7 n7 c7)):=BS.c 6 rfl
  have HCF:Z (Chg (λx=>x=w.heap.size+2) wz (((((((wz.setCell (aD (w.heap.size+2) 0) (iV q1)).setCell (aD (w.heap.size+2) 1) (.bool q2)).setCell (aD (w.heap.size+2) 2) (iV q3)).setCell (aD (w.heap.size+2) 3) (iV q4)).setCell (aD (w.heap.size+2) 4) (.bool q5)).setCell (aD (w.heap.size+2) 5) (iV q6)).setCell (aD (w.heap.size+2) 6) (sL a7 n7 c7))):=Ky
  have HBS:=mh BS
  clear BS BR
  go_wp2
  generalize hWF:(((((((wz.setCell (aD (w.heap.size+2) 0) (iV q1)).setCell (aD (w.heap.size+2) 1) (.bool q2)).setCell (aD (w.heap.size+2) 2) (iV q3)).setCell (aD (w.heap.size+2) 3) (iV q4)).setCell (aD (w.heap.size+2) 4) (.bool q5)).setCell (aD (w.heap.size+2) 5) (iV q6)).setCell (aD (w.heap.size+2) 6) (sL a7 n7 c7))=wF at P0 P1 P2 P3 P4 P5 P6 HBS HCF ⊢
  have p0:=P0.o
  have p1:=P1.o
  have p2:=P2.o
  have p3:=P3.o
  have p4:=P4.o
  have p5:=P5.o
  have p6:=P6.o
  refine bodyPost_ret (v:=.agg #[iV q1,.bool q2,iV q3,iV q4,.bool q5,iV q6,sL a7 n7 c7]) (by simp[results,results54,go_sem,p0,p1,p2,p3,p4,p5,p6]) rfl ?_
  have hF:=HF.o.turn 2 rfl HCF.o HBS.o
  have hR:=HF.o.rowTurn 2 rfl HO.o HCF.o
  rw[HDR.o,HDS.o]
  exact⟨_,rfl,hR,hF.src,hF.chg⟩
 ·have hd':(d10==0)=false:=by simpa using hd
  have rr1:w1.cell? (aD (w.heap.size+1) 1)=some (sL p1 0 e1):=(H1.o.at 1 rfl).c 1 rfl
  have nc0:w1.cell? (aD w.heap.size 0)=some (sL (some (aD nb no)) m0 t0):=(H1.o.at 0 rfl).c 0 rfl
  have nc1:w1.cell? (aD w.heap.size 1)=some (sL (some (aD wb wo)) mw c1):=(H1.o.at 0 rfl).c 1 rfl
  have nc2:w1.cell? (aD w.heap.size 2)=some (sL r2 m2 t2):=(H1.o.at 0 rfl).c 2 rfl
  have nc3:w1.cell? (aD w.heap.size 3)=some (sL r3 m3 t3):=(H1.o.at 0 rfl).c 3 rfl
  have nc4:w1.cell? (aD w.heap.size 4)=some (iV N.uturn):=(H1.o.at 0 rfl).c 4 rfl
  go_wp2_with fail
  refine(Xu B D b (sL (some (aD nb no)) m0 t0) (sL (some (aD wb wo)) mw c1) (sL r2 m2 t2) (sL r3 m3 t3) N.uturn N (ns S 10) w1 (HNK.o _ H1.o.chg) hB HP.o.1 HP.o.2.1 HP.o.2.2.1 HP.o.2.2.2 H1.o.src HOK1.o).mono ?_
  rintro e wz ⟨va,rfl,ho,hs1,hc1⟩
  obtain⟨a7,c7,rfl⟩:=Qd ho
  have HF:=mh (H1.o.drawn hs1 hc1)
  have HO:=mh (ho.base H1.o.chg.size)
  clear ho hs1 hc1 nc0 nc1 nc2 nc3 nc4
  generalize Xi N (ns S 10)=rr at *
  generalize Yb N (ns S 10)=rs at *
  obtain⟨q1,q2,q3,q4,q5,q6,q7⟩:=rr
  simp only at HO ⊢
  generalize q7.length=n7 at *
  have BR:BT wz (w.heap.size+2) #[iV 0,.bool false,iV 0,iV 0,.bool false,iV 0,sN] 89:=HF.o.at 2 rfl
  have x0:=BR.c 0 rfl
  have fz0:=BR.blk.frozen 0
  have x1:=BR.c 1 rfl
  have fz1:=BR.blk.frozen 1
  have x2:=BR.c 2 rfl
  have fz2:=BR.blk.frozen 2
  have x3:=BR.c 3 rfl
  have fz3:=BR.blk.frozen 3
  have x4:=BR.c 4 rfl
  have fz4:=BR.blk.frozen 4
  have x5:=BR.c 5 rfl
  have fz5:=BR.blk.frozen 5
  have x6:=BR.c 6 rfl
  have fz6:=BR.blk.frozen 6
  have BS:=Km (a0:=iV q1) (a1:=.bool q2) (a2:=iV q3) (a3:=iV q4) (a4:=.bool q5) (a5:=iV q6) (a6:=sL a7 n7 c7) BR
  have P0:Z (_=some (iV q1)):=BS.c 0 rfl
  have P1:Z (_=some (Value.bool q2)):=BS.c 1 rfl
  have P2:Z (_=some (iV q3)):=BS.c 2 rfl
  have P3:Z (_=some (iV q4)):=BS.c 3 rfl
  have P4:Z (_=some (Value.bool q5)):=BS.c 4 rfl
  have P5:Z (_=some (iV q6)):=BS.c 5 rfl
  have P6:Z (_=some (sL a7 n7 c7)):=BS.c 6 rfl
  have HCF:Z (Chg (λx=>x=w.heap.size+2) wz (((((((wz.setCell (aD (w.heap.size+2) 0) (iV q1)).setCell (aD (w.heap.size+2) 1) (.bool q2)).setCell (aD (w.heap.size+2) 2) (iV q3)).setCell (aD (w.heap.size+2) 3) (iV q4)).setCell (aD (w.heap.size+2) 4) (.bool q5)).setCell (aD (w.heap.size+2) 5) (iV q6)).setCell (aD (w.heap.size+2) 6) (sL a7 n7 c7))):=Ky
  have HBS:=mh BS
  clear BS BR
  go_wp2
  generalize hWF:(((((((wz.setCell (aD (w.heap.size+2) 0) (iV q1)).setCell (aD (w.heap.size+2) 1) (.bool q2)).setCell (aD (w.heap.size+2) 2) (iV q3)).setCell (aD (w.heap.size+2) 3) (iV q4)).setCell (aD (w.heap.size+2) 4) (.bool q5)).setCell (aD (w.heap.size+2) 5) (iV q6)).setCell (aD (w.heap.size+2) 6) (sL a7 n7 c7))=wF at P0 P1 P2 P3 P4 P5 P6 HBS HCF ⊢
  have p0:=P0.o
  have p1:=P1.o
  have p2:=P2.o
  have p3:=P3.o
  have p4:=P4.o
  have p5:=P5.o
  have p6:=P6.o
  refine bodyPost_ret (v:=.agg #[iV q1,.bool q2,iV q3,iV q4,.bool q5,iV q6,sL a7 n7 c7]) (by simp[results,results54,go_sem,p0,p1,p2,p3,p4,p5,p6]) rfl ?_
  have hF:=HF.o.turn 2 rfl HCF.o HBS.o
  have hR:=HF.o.rowTurn 2 rfl HO.o HCF.o
  rw[HDR.o,HDS.o]
  exact⟨_,rfl,hR,hF.src,hF.chg⟩
theorem Ka (B D b:Nat)(v0 v1 v2 v3 q0 q1 q2 q3:Value)(N:Nt)(R:Rd)(S:Src)(w:World)(hN:U0 B w v0 v1 v2 v3 N)(hR:Vy B w q0 q1 q2 q3 R)(hB:b<B)(h0:0<N.nodes.length)(hw0:0<N.ways.length)(hl0:N.nodes.length<=1000000)(hl1:N.ways.length<=1000000)(hS:Jj D w b S)(hok:SOk S)(hE:0<R.edges.length)(hI:Q4t N R)(h6:nv S 10<6) :
  Calls prog 54 #[.agg #[v0,v1,v2,v3,iV N.uturn],.agg #[q0,q1,q2,q3],pT b] w λe w'=>∃va,e=.returned (.agg #[iV (drR N R S).id,.bool (drR N R S).only,iV (drR N R S).frm,iV (drR N R S).to,.bool (drR N R S).via,iV (drR N R S).node,va])/\Q5 w.heap.size w' va (drR N R S).ways/\Jj D w' b (drS N R S)/\Chg (Sx1 b) w w':=by
 have HOK:Z (SOk S):=hok
 have HOK1:=mh (Qf hok 10)
 have HS0:=mh hS
 have HP:Z (Qgo N):=⟨h0,hw0,hl0,hl1⟩
 have HNK:Z (∀q,Chg (Sx1 b) w q->U0 B q v0 v1 v2 v3 N):=λq hq=>hN.keep (hq.keepsB hB)
 have HRK:Z (∀q,Chg (Sx1 b) w q->Vy B q q0 q1 q2 q3 R):=λq hq=>hR.keep (hq.keepsB hB)
 obtain⟨r0,t0,rfl,_,kn⟩:=hN.1
 obtain⟨r1,c1,rfl,_,kw⟩:=hN.2.1
 obtain⟨r2,t2,rfl,_,_⟩:=hN.2.2.1
 obtain⟨r3,t3,rfl,_,_⟩:=hN.2.2.2
 obtain⟨wb,wo,rfl,hwb,_,hwc⟩:=kw hw0
 obtain⟨nb,no,rfl,hnb,_,hnc⟩:=kn h0
 obtain⟨p0,d0,rfl,_,krn⟩:=hR.1
 obtain⟨p1,e1,rfl,_,kre⟩:=hR.2.1
 obtain⟨p2,d2,rfl,_,_⟩:=hR.2.2.1
 obtain⟨p3,d3,rfl,_,_⟩:=hR.2.2.2
 obtain⟨eb,eo,rfl,heb,_,hec⟩:=kre hE
 obtain⟨i0,hi0,_⟩:=hI.head 0 hE
 obtain⟨rb,ro,rfl,hrb,_,hrc⟩:=krn (by omega)
 have HWC:Z (∀q,Chg (Sx1 b) w q->∀i,i<N.ways.length->q.cell? (aD wb (wo+i*4))=some (iV (wat N.ways i).id)):=λq hq i hi=>by
  obtain⟨_,_,hc,_⟩:=hwc i hi
  exact hq.cellB (by omega) hc
 have HEC:Z (∀q,Chg (Sx1 b) w q->∀e,e<R.edges.length->Kl q eb (eo+e*7) (eat R.edges e)):=λq hq e he=>(hec e he).keep (hq.keepsB hB) heb (Jk (hec e he).1)
 have HNC:Z (∀q,Chg (Sx1 b) w q->∀i,i<R.nodes.length->q.cell? (aD rb (ro+i))=some (iV (iat R.nodes i))):=λq hq i hi=>hq.cellB (by omega) (hrc i hi)
 have HII:=mh hI
 have HLE:=mh hI.len
 have hle:=hI.len
 have HMW:Z (N.ways.length=N.ways.length):=rfl
 have HM1:Z (R.edges.length=R.edges.length):=rfl
 have HM0:Z (R.nodes.length=R.nodes.length):=rfl
 have HNE:Z (¬R.edges.length=0):=by unfold Z;omega
 clear hwc hnc kn kw krn kre hN hR hS hok hec hrc hI hi0
 generalize N.nodes.length=m0 at *
 generalize hmw:N.ways.length=mw at h0 hw0 hl0 hl1 HWC HMW HNK ⊢
 generalize N.rels.length=m2 at *
 generalize N.turns.length=m3 at *
 generalize hms:R.nodes.length=s0 at HNC HM0 HRK ⊢
 generalize hm1:R.edges.length=m1 at hE hle HEC HM1 HNE HRK ⊢
 generalize R.first.length=s2 at *
 generalize R.o.length=s3 at *
 have HW':=mh hmw
 have HE':=mh hm1
 have HS':=mh hms
 clear HMW HM1 HM0 hmw hms hm1
 go_enter func54,ntmps54
 go_upto_region 1 with fail
 generalize hWA:((w.alloc (.cells #[sL (some (aD nb no)) m0 t0,sL (some (aD wb wo)) mw c1,sL r2 m2 t2,sL r3 m3 t3,iV N.uturn] 60)).alloc (.cells #[sL (some (aD rb ro)) s0 d0,sL (some (aD eb eo)) m1 e1,sL p2 s2 d2,sL p3 s3 d3] 86)).alloc (.cells #[iV 0,.bool false,iV 0,iV 0,.bool false,iV 0,sN] 89)=wA
 have HA0:Z (FR D b w wA S (bl3 w.heap.size #[sL (some (aD nb no)) m0 t0,sL (some (aD wb wo)) mw c1,sL r2 m2 t2,sL r3 m3 t3,iV N.uturn] #[sL (some (aD rb ro)) s0 d0,sL (some (aD eb eo)) m1 e1,sL p2 s2 d2,sL p3 s3 d3])):=by
  unfold Z
  rw[<-hWA]
  have k0:FR D b w w S []:=⟨Chg.nx (Nx.refl _),HS0.o,λp hp=>absurd hp (by simp),λp hp=>absurd hp (by simp),List.nodup_nil⟩
  have k1:=((k0.alloc #[sL (some (aD nb no)) m0 t0,sL (some (aD wb wo)) mw c1,sL r2 m2 t2,sL r3 m3 t3,iV N.uturn] 60 (by decide)).alloc #[sL (some (aD rb ro)) s0 d0,sL (some (aD eb eo)) m1 e1,sL p2 s2 d2,sL p3 s3 d3] 86 (by decide)).alloc #[iV 0,.bool false,iV 0,iV 0,.bool false,iV 0,sN] 89 (by decide)
  rw[Q1,Q1,Q1] at k1
  exact k1
 clear hWA
 go_wp2_with fail
 refine(Q6 D b S 10 wA HA0.o.src HOK.o (by omega)).mono ?_
 rintro e w1 ⟨rfl,hs1,hc1⟩
 have H1:=mh (HA0.o.drawn hs1 hc1)
 have hv10:=Qv HOK.o 10
 clear hs1 hc1 HA0
 have HD10:Z (nv S 10=nv S 10):=rfl
 generalize hd10:nv S 10=d10 at hv10 HD10 ⊢
 replace HD10:Z (nv S 10=d10):=hd10
 clear hd10
 by_cases hd:d10=0
 ·have HDR:Z (drR N R S=Xi N (ns S 10)):=by unfold Z drR;rw[HD10.o,if_pos (oL hd)]
  have HDS:Z (drS N R S=Yb N (ns S 10)):=by unfold Z drS;rw[HD10.o,if_pos (oL hd)]
  subst hd
  have nc0:w1.cell? (aD w.heap.size 0)=some (sL (some (aD nb no)) m0 t0):=(H1.o.at 0 rfl).c 0 rfl
  have nc1:w1.cell? (aD w.heap.size 1)=some (sL (some (aD wb wo)) mw c1):=(H1.o.at 0 rfl).c 1 rfl
  have nc2:w1.cell? (aD w.heap.size 2)=some (sL r2 m2 t2):=(H1.o.at 0 rfl).c 2 rfl
  have nc3:w1.cell? (aD w.heap.size 3)=some (sL r3 m3 t3):=(H1.o.at 0 rfl).c 3 rfl
  have nc4:w1.cell? (aD w.heap.size 4)=some (iV N.uturn):=(H1.o.at 0 rfl).c 4 rfl
  go_wp2_with fail
  refine(Xu B D b (sL (some (aD nb no)) m0 t0) (sL (some (aD wb wo)) mw c1) (sL r2 m2 t2) (sL r3 m3 t3) N.uturn N (ns S 10) w1 (HNK.o _ H1.o.chg) hB HP.o.1 HP.o.2.1 HP.o.2.2.1 HP.o.2.2.2 H1.o.src HOK1.o).mono ?_
  rintro e wz ⟨va,rfl,ho,hs1,hc1⟩
  obtain⟨a7,c7,rfl⟩:=Qd ho
  have HF:=mh (H1.o.drawn hs1 hc1)
  have HO:=mh (ho.base H1.o.chg.size)
  clear ho hs1 hc1 nc0 nc1 nc2 nc3 nc4
  generalize Xi N (ns S 10)=rr at *
  generalize Yb N (ns S 10)=rs at *
  obtain⟨q1,q2,q3,q4,q5,q6,q7⟩:=rr
  simp only at HO ⊢
  generalize q7.length=n7 at *
  have BR:BT wz (w.heap.size+2) #[iV 0,.bool false,iV 0,iV 0,.bool false,iV 0,sN] 89:=HF.o.at 2 rfl
  have x0:=BR.c 0 rfl
  have fz0:=BR.blk.frozen 0
  have x1:=BR.c 1 rfl
  have fz1:=BR.blk.frozen 1
  have x2:=BR.c 2 rfl
  have fz2:=BR.blk.frozen 2
  have x3:=BR.c 3 rfl
  have fz3:=BR.blk.frozen 3
  have x4:=BR.c 4 rfl
  have fz4:=BR.blk.frozen 4
  have x5:=BR.c 5 rfl
  have fz5:=BR.blk.frozen 5
  have x6:=BR.c 6 rfl
  have fz6:=BR.blk.frozen 6
  have BS:=Km (a0:=iV q1) (a1:=.bool q2) (a2:=iV q3) (a3:=iV q4) (a4:=.bool q5) (a5:=iV q6) (a6:=sL a7 n7 c7) BR
  have P0:Z (_=some (iV q1)):=BS.c 0 rfl
  have P1:Z (_=some (Value.bool q2)):=BS.c 1 rfl
  have P2:Z (_=some (iV q3)):=BS.c 2 rfl
  have P3:Z (_=some (iV q4)):=BS.c 3 rfl
  have P4:Z (_=some (Value.bool q5)):=BS.c 4 rfl
  have P5:Z (_=some (iV q6)):=BS.c 5 rfl
  have P6:Z (_=some (sL a7 n7 c7)):=BS.c 6 rfl
  have HCF:Z (Chg (λx=>x=w.heap.size+2) wz (((((((wz.setCell (aD (w.heap.size+2) 0) (iV q1)).setCell (aD (w.heap.size+2) 1) (.bool q2)).setCell (aD (w.heap.size+2) 2) (iV q3)).setCell (aD (w.heap.size+2) 3) (iV q4)).setCell (aD (w.heap.size+2) 4) (.bool q5)).setCell (aD (w.heap.size+2) 5) (iV q6)).setCell (aD (w.heap.size+2) 6) (sL a7 n7 c7))):=Ky
  have HBS:=mh BS
  clear BS BR
  go_wp2
  generalize hWF:(((((((wz.setCell (aD (w.heap.size+2) 0) (iV q1)).setCell (aD (w.heap.size+2) 1) (.bool q2)).setCell (aD (w.heap.size+2) 2) (iV q3)).setCell (aD (w.heap.size+2) 3) (iV q4)).setCell (aD (w.heap.size+2) 4) (.bool q5)).setCell (aD (w.heap.size+2) 5) (iV q6)).setCell (aD (w.heap.size+2) 6) (sL a7 n7 c7))=wF at P0 P1 P2 P3 P4 P5 P6 HBS HCF ⊢
  have p0:=P0.o
  have p1:=P1.o
  have p2:=P2.o
  have p3:=P3.o
  have p4:=P4.o
  have p5:=P5.o
  have p6:=P6.o
  refine bodyPost_ret (v:=.agg #[iV q1,.bool q2,iV q3,iV q4,.bool q5,iV q6,sL a7 n7 c7]) (by simp[results,results54,go_sem,p0,p1,p2,p3,p4,p5,p6]) rfl ?_
  have hF:=HF.o.turn 2 rfl HCF.o HBS.o
  have hR:=HF.o.rowTurn 2 rfl HO.o HCF.o
  rw[HDR.o,HDS.o]
  exact⟨_,rfl,hR,hF.src,hF.chg⟩
 have hd':(d10==0)=false:=by simpa using hd
 have HND:Z (¬(d10=0\/R.edges.length=0)):=λh=>h.elim hd (λe=>by rw[HE'.o] at e;omega)
 have rr1:w1.cell? (aD (w.heap.size+1) 1)=some (sL (some (aD eb eo)) m1 e1):=(H1.o.at 1 rfl).c 1 rfl
 have hmz:((m1:Int)==0)=false:=by simp;omega
 have hmy:¬(m1:Int)=0:=by omega
 have hmx:prog.follows .mixedOrders=true:=by kernel_rfl
 have hd6:d10<6:=by rw[<-HD10.o];exact h6
 clear h6
 go_wp2_with fail
 refine(Q6 D b (ns S 10) (m1:Int) w1 H1.o.src HOK1.o (by omega)).mono ?_
 rintro e w2 ⟨rfl,hs1,hc1⟩
 have H2:=mh (H1.o.drawn hs1 hc1)
 have HOK2:Z (SOk (ns (ns S 10) m1)):=Qf HOK1.o _
 obtain⟨ia,hia⟩:∃i:Nat,nv (ns S 10) m1=i:=⟨(nv (ns S 10) m1).toNat,by have:=(Qv HOK1.o m1).1;omega⟩
 have hil:ia<m1:=by have:=(Qv HOK1.o m1).2 (by omega);omega
 have hil':(ia:Int)<m1:=by omega
 have HIA:Z (dnA R.edges (ns S 10)=(ia:Int)):=by unfold Z dnA;rw[HE'.o];exact hia
 rw[hia]
 obtain⟨nh,hnh,hea⟩:=HII.o.head ia (by rw[HE'.o];exact hil)
 rw[HS'.o] at hnh
 have HHD:Z (Q6a R.edges (ns S 10)=(nh:Int)):=by unfold Z Q6a;rw[HIA.o,zU];exact hea
 have HDB:Z (dnB R.edges (ns S 10)=pkV R.edges (nh:Int) true (ns (ns S 10) m1)):=by unfold Z dnB;rw[HHD.o,HE'.o]
 have HDN:Z (dnS R.edges (ns S 10)=pkS R.edges (nh:Int) true (ns (ns S 10) m1)):=by unfold Z dnS;rw[HHD.o,HE'.o]
 have HSN:Z (∀q S',FR D b w q S' (bl3 w.heap.size #[sL (some (aD nb no)) m0 t0,sL (some (aD wb wo)) mw c1,sL r2 m2 t2,sL r3 m3 t3,iV N.uturn] #[sL (some (aD rb ro)) s0 d0,sL (some (aD eb eo)) m1 e1,sL p2 s2 d2,sL p3 s3 d3])->(λq=>q.cell? (aD (w.heap.size+1) 0)=some (sL (some (aD rb ro)) s0 d0)/\q.cell? (aD (w.heap.size+1) 1)=some (sL (some (aD eb eo)) m1 e1)/\q.cell? (aD (w.heap.size+1) 2)=some (sL p2 s2 d2)/\q.cell? (aD (w.heap.size+1) 3)=some (sL p3 s3 d3)/\q.cell? (aD eb (eo+ia*7+1))=some (iV (nh:Int))) q):=λq S' h=>⟨(h.at 1 rfl).c 0 rfl,(h.at 1 rfl).c 1 rfl,(h.at 1 rfl).c 2 rfl,(h.at 1 rfl).c 3 rfl,by have k:=(HEC.o q h.chg ia hil).2.1;rw[hea] at k;exact k⟩
 clear hia hs1 hc1 H1 rr1
 go_upto_region 6 with fail
 have H2D:=mh (H2.o.next (show Nx w2 w2.drew from(Below.refl _ _).drew))
 have HSS:Z ((λq=>q.cell? (aD (w.heap.size+1) 0)=some (sL (some (aD rb ro)) s0 d0)/\q.cell? (aD (w.heap.size+1) 1)=some (sL (some (aD eb eo)) m1 e1)/\q.cell? (aD (w.heap.size+1) 2)=some (sL p2 s2 d2)/\q.cell? (aD (w.heap.size+1) 3)=some (sL p3 s3 d3)/\q.cell? (aD eb (eo+ia*7+1))=some (iV (nh:Int))) w2.drew):=HSN.o _ _ H2D.o
 refine(wpIn_wide (n:=9)).1 ?_
 refine Qb (c:=10) (S:=λq=>q.cell? (aD (w.heap.size+1) 0)=some (sL (some (aD rb ro)) s0 d0)/\q.cell? (aD (w.heap.size+1) 1)=some (sL (some (aD eb eo)) m1 e1)/\q.cell? (aD (w.heap.size+1) 2)=some (sL p2 s2 d2)/\q.cell? (aD (w.heap.size+1) 3)=some (sL p3 s3 d3)/\q.cell? (aD eb (eo+ia*7+1))=some (iV (nh:Int))) hmx (by kernel_rfl) (λhw hcl=>?_)
 refine tq (i:=0) (v:=.agg #[sL (some (aD rb ro)) s0 d0,sL (some (aD eb eo)) m1 e1,sL p2 s2 d2,sL p3 s3 d3]) (λhcl=>?_)
 refine tq (i:=1) (v:=.pointer (some (aD (w.heap.size+1) 1))) (λhcl=>?_)
 refine tq (i:=2) (v:=sL (some (aD eb eo)) m1 e1) (λhcl=>?_)
 refine tq (i:=3) (v:=iV (ia:Int)) (λhcl=>?_)
 refine tq (i:=4) (v:=.pointer (some (aD eb (eo+ia*7)))) (λhcl=>?_)
 refine tq (i:=5) (v:=.pointer (some (aD eb (eo+ia*7+1)))) (λhcl=>?_)
 refine tq (i:=6) (v:=iV (nh:Int)) (λhcl=>?_)
 refine tq (i:=7) (v:=pT b) (λhcl=>?_)
 refine Q8 (i:=8) (by kernel_rfl) hcl (λhcl=>wpOpIn_step rfl (λK hK=>?_))
 go_simp
 refine⟨trivial,(callsIn_wide.2 (T8 B D b (sL (some (aD rb ro)) s0 d0) (sL (some (aD eb eo)) m1 e1) (sL p2 s2 d2) (sL p3 s3 d3) R (nh:Int) true (ns (ns S 10) m1) _ (HRK.o _ H2D.o.chg) HLE.o H2D.o.src HOK2.o)).mono ?_⟩
 rintro e7 w3 ⟨rfl,hs1,hc1⟩
 have H3:=mh (H2D.o.drawn hs1 hc1)
 have HSS:Z ((λq=>q.cell? (aD (w.heap.size+1) 0)=some (sL (some (aD rb ro)) s0 d0)/\q.cell? (aD (w.heap.size+1) 1)=some (sL (some (aD eb eo)) m1 e1)/\q.cell? (aD (w.heap.size+1) 2)=some (sL p2 s2 d2)/\q.cell? (aD (w.heap.size+1) 3)=some (sL p3 s3 d3)/\q.cell? (aD eb (eo+ia*7+1))=some (iV (nh:Int))) w3):=HSN.o _ _ H3.o
 refine hK _ _ ⟨oR HSS.o,?_⟩
 clear hK K hs1 hc1
 refine Q8 (i:=9) (by kernel_rfl) hcl (λhcl=>wpOpIn_step rfl (λK hK=>?_))
 go_simp
 refine hK _ _ ⟨oR HSS.o,?_⟩
 clear hK K
 refine Ql (by kernel_rfl) ?_ _
 clear hw hcl HSS
 have HOK3:Z (SOk (pkS R.edges (nh:Int) true (ns (ns S 10) m1))):=(Ze HOK2.o).1
 have HPV:=mh (Q1w (es:=R.edges) (nd:=(nh:Int)) (out:=true) HOK2.o)
 generalize pkS R.edges (nh:Int) true (ns (ns S 10) m1)=S3 at *
 generalize pkV R.edges (nh:Int) true (ns (ns S 10) m1)=bv at *
 clear H2 H2D HSN
 rcases HPV.o with rfl|⟨ib,rfl,hib⟩
 ·have HDR:Z (drR N R S=Xi N S3):=by unfold Z drR;rw[HD10.o,if_neg HND.o,if_pos hd6,HDB.o,if_pos (by decide),HDN.o]
  have HDS:Z (drS N R S=Yb N S3):=by unfold Z drS;rw[HD10.o,if_neg HND.o,if_pos hd6,HDB.o,if_pos (by decide),HDN.o]
  clear HPV
  have nc0:w3.cell? (aD w.heap.size 0)=some (sL (some (aD nb no)) m0 t0):=(H3.o.at 0 rfl).c 0 rfl
  have nc1:w3.cell? (aD w.heap.size 1)=some (sL (some (aD wb wo)) mw c1):=(H3.o.at 0 rfl).c 1 rfl
  have nc2:w3.cell? (aD w.heap.size 2)=some (sL r2 m2 t2):=(H3.o.at 0 rfl).c 2 rfl
  have nc3:w3.cell? (aD w.heap.size 3)=some (sL r3 m3 t3):=(H3.o.at 0 rfl).c 3 rfl
  have nc4:w3.cell? (aD w.heap.size 4)=some (iV N.uturn):=(H3.o.at 0 rfl).c 4 rfl
  go_wp2_with fail
  refine(Xu B D b (sL (some (aD nb no)) m0 t0) (sL (some (aD wb wo)) mw c1) (sL r2 m2 t2) (sL r3 m3 t3) N.uturn N S3 w3 (HNK.o _ H3.o.chg) hB HP.o.1 HP.o.2.1 HP.o.2.2.1 HP.o.2.2.2 H3.o.src HOK3.o).mono ?_
  rintro e wz ⟨va,rfl,ho,hs1,hc1⟩
  obtain⟨a7,c7,rfl⟩:=Qd ho
  have HF:=mh (H3.o.drawn hs1 hc1)
  have HO:=mh (ho.base H3.o.chg.size)
  clear ho hs1 hc1 nc0 nc1 nc2 nc3 nc4
  generalize Xi N S3=rr at *
  generalize Yb N S3=rs at *
  obtain⟨q1,q2,q3,q4,q5,q6,q7⟩:=rr
  simp only at HO ⊢
  generalize q7.length=n7 at *
  have BR:BT wz (w.heap.size+2) #[iV 0,.bool false,iV 0,iV 0,.bool false,iV 0,sN] 89:=HF.o.at 2 rfl
  have x0:=BR.c 0 rfl
  have fz0:=BR.blk.frozen 0
  have x1:=BR.c 1 rfl
  have fz1:=BR.blk.frozen 1
  have x2:=BR.c 2 rfl
  have fz2:=BR.blk.frozen 2
  have x3:=BR.c 3 rfl
  have fz3:=BR.blk.frozen 3
  have x4:=BR.c 4 rfl
  have fz4:=BR.blk.frozen 4
  have x5:=BR.c 5 rfl
  have fz5:=BR.blk.frozen 5
  have x6:=BR.c 6 rfl
  have fz6:=BR.blk.frozen 6
  have BS:=Km (a0:=iV q1) (a1:=.bool q2) (a2:=iV q3) (a3:=iV q4) (a4:=.bool q5) (a5:=iV q6) (a6:=sL a7 n7 c7) BR
  have P0:Z (_=some (iV q1)):=BS.c 0 rfl
  have P1:Z (_=some (Value.bool q2)):=BS.c 1 rfl
  have P2:Z (_=some (iV q3)):=BS.c 2 rfl
  have P3:Z (_=some (iV q4)):=BS.c 3 rfl
  have P4:Z (_=some (Value.bool q5)):=BS.c 4 rfl
  have P5:Z (_=some (iV q6)):=BS.c 5 rfl
  have P6:Z (_=some (sL a7 n7 c7)):=BS.c 6 rfl
  have HCF:Z (Chg (λx=>x=w.heap.size+2) wz (((((((wz.setCell (aD (w.heap.size+2) 0) (iV q1)).setCell (aD (w.heap.size+2) 1) (.bool q2)).setCell (aD (w.heap.size+2) 2) (iV q3)).setCell (aD (w.heap.size+2) 3) (iV q4)).setCell (aD (w.heap.size+2) 4) (.bool q5)).setCell (aD (w.heap.size+2) 5) (iV q6)).setCell (aD (w.heap.size+2) 6) (sL a7 n7 c7))):=Ky
  have HBS:=mh BS
  clear BS BR
  go_wp2
  generalize hWF:(((((((wz.setCell (aD (w.heap.size+2) 0) (iV q1)).setCell (aD (w.heap.size+2) 1) (.bool q2)).setCell (aD (w.heap.size+2) 2) (iV q3)).setCell (aD (w.heap.size+2) 3) (iV q4)).setCell (aD (w.heap.size+2) 4) (.bool q5)).setCell (aD (w.heap.size+2) 5) (iV q6)).setCell (aD (w.heap.size+2) 6) (sL a7 n7 c7))=wF at P0 P1 P2 P3 P4 P5 P6 HBS HCF ⊢
  have p0:=P0.o
  have p1:=P1.o
  have p2:=P2.o
  have p3:=P3.o
  have p4:=P4.o
  have p5:=P5.o
  have p6:=P6.o
  refine bodyPost_ret (v:=.agg #[iV q1,.bool q2,iV q3,iV q4,.bool q5,iV q6,sL a7 n7 c7]) (by simp[results,results54,go_sem,p0,p1,p2,p3,p4,p5,p6]) rfl ?_
  have hF:=HF.o.turn 2 rfl HCF.o HBS.o
  have hR:=HF.o.rowTurn 2 rfl HO.o HCF.o
  rw[HDR.o,HDS.o]
  exact⟨_,rfl,hR,hF.src,hF.chg⟩
 ·rw[HE'.o] at hib
  have hib':(ib:Int)<m1:=by omega
  have hibn:¬((ib:Int)<0):=by omega
  have hibd:decide ((ib:Int)<0)=false:=by simp
  obtain⟨ya,hya,eya⟩:=HII.o.way ia (by rw[HE'.o];exact hil)
  obtain⟨yb,hyb,eyb⟩:=HII.o.way ib (by rw[HE'.o];exact hib)
  rw[HW'.o] at hya hyb
  obtain⟨fa,hfa⟩:∃z,z=(wat N.ways ya).id:=⟨_,rfl⟩
  obtain⟨fb,hfb⟩:∃z,z=(wat N.ways yb).id:=⟨_,rfl⟩
  obtain⟨zn,hzn⟩:∃z,z=iat R.nodes nh:=⟨_,rfl⟩
  have HDR:Z (drR N R S=⟨0,false,fa,fb,true,zn,[]⟩):=by
   unfold Z drR
   rw[HD10.o,if_neg HND.o,if_pos hd6,HDB.o,if_neg hibn,HIA.o,HHD.o]
   unfold ewy Kb
   rw[zU,zU,zU,eya,eyb,zU,zU,hfa,hfb,hzn]
  have HDS:Z (drS N R S=S3):=by unfold Z drS;rw[HD10.o,if_neg HND.o,if_pos hd6,HDB.o,if_neg hibn,HDN.o]
  have hya':(ya:Int)<mw:=by omega
  have hyb':(yb:Int)<mw:=by omega
  have hnh':(nh:Int)<s0:=by omega
  have HSM:Z (∀q S',FR D b w q S' (bl3 w.heap.size #[sL (some (aD nb no)) m0 t0,sL (some (aD wb wo)) mw c1,sL r2 m2 t2,sL r3 m3 t3,iV N.uturn] #[sL (some (aD rb ro)) s0 d0,sL (some (aD eb eo)) m1 e1,sL p2 s2 d2,sL p3 s3 d3])->(λq=>q.cell? (aD w.heap.size 1)=some (sL (some (aD wb wo)) mw c1)/\q.cell? (aD (w.heap.size+1) 0)=some (sL (some (aD rb ro)) s0 d0)/\q.cell? (aD (w.heap.size+1) 1)=some (sL (some (aD eb eo)) m1 e1)/\q.cell? (aD eb (eo+ia*7+3))=some (iV (ya:Int))/\q.cell? (aD eb (eo+ia*7+1))=some (iV (nh:Int))/\q.cell? (aD eb (eo+ib*7+3))=some (iV (yb:Int))/\q.cell? (aD wb (wo+ya*4))=some (iV fa)/\q.cell? (aD wb (wo+yb*4))=some (iV fb)/\q.cell? (aD rb (ro+nh))=some (iV zn)) q):=λq S' h=>by
   have k1:=HEC.o q h.chg ia hil
   have k2:=HEC.o q h.chg ib hib
   refine⟨(h.at 0 rfl).c 1 rfl,(h.at 1 rfl).c 0 rfl,(h.at 1 rfl).c 1 rfl,?_,?_,?_,?_,?_,?_⟩
   ·rw[<-eya];exact k1.2.2.2.1
   ·rw[<-hea];exact k1.2.1
   ·rw[<-eyb];exact k2.2.2.2.1
   ·rw[hfa];exact HWC.o q h.chg ya hya
   ·rw[hfb];exact HWC.o q h.chg yb hyb
   ·rw[hzn];exact HNC.o q h.chg nh hnh
  clear hea eya eyb hfa hfb hzn HPV
  go_upto_region 9 with fail
  have H3D:=mh (H3.o.next (show Nx w3 w3.drew from(Below.refl _ _).drew))
  have HSS:=mh (HSM.o _ _ H3D.o)
  refine(wpIn_wide (n:=9)).1 ?_
  refine Qb (c:=33) (S:=λq=>q.cell? (aD w.heap.size 1)=some (sL (some (aD wb wo)) mw c1)/\q.cell? (aD (w.heap.size+1) 0)=some (sL (some (aD rb ro)) s0 d0)/\q.cell? (aD (w.heap.size+1) 1)=some (sL (some (aD eb eo)) m1 e1)/\q.cell? (aD eb (eo+ia*7+3))=some (iV (ya:Int))/\q.cell? (aD eb (eo+ia*7+1))=some (iV (nh:Int))/\q.cell? (aD eb (eo+ib*7+3))=some (iV (yb:Int))/\q.cell? (aD wb (wo+ya*4))=some (iV fa)/\q.cell? (aD wb (wo+yb*4))=some (iV fb)/\q.cell? (aD rb (ro+nh))=some (iV zn)) hmx (by kernel_rfl) (λhw hcl=>?_)
  generalize w3.drew=wd at *
  refine tq (i:=0) (v:=.pointer (some (aD w.heap.size 1))) (λhcl=>?_)
  refine tq (i:=1) (v:=sL (some (aD wb wo)) mw c1) (λhcl=>?_)
  refine tq (i:=2) (v:=.pointer (some (aD (w.heap.size+1) 1))) (λhcl=>?_)
  refine tq (i:=3) (v:=sL (some (aD eb eo)) m1 e1) (λhcl=>?_)
  refine tq (i:=4) (v:=iV (ia:Int)) (λhcl=>?_)
  refine tq (i:=5) (v:=.pointer (some (aD eb (eo+ia*7)))) (λhcl=>?_)
  refine tq (i:=6) (v:=.pointer (some (aD eb (eo+ia*7+3)))) (λhcl=>?_)
  refine tq (i:=7) (v:=iV (ya:Int)) (λhcl=>?_)
  refine tq (i:=8) (v:=.pointer (some (aD wb (wo+ya*4)))) (λhcl=>?_)
  refine tq (i:=9) (v:=.pointer (some (aD wb (wo+ya*4)))) (λhcl=>?_)
  refine tq (i:=10) (v:=iV fa) (λhcl=>?_)
  refine tq (i:=11) (v:=.pointer (some (aD w.heap.size 1))) (λhcl=>?_)
  refine tq (i:=12) (v:=sL (some (aD wb wo)) mw c1) (λhcl=>?_)
  refine tq (i:=13) (v:=.pointer (some (aD (w.heap.size+1) 1))) (λhcl=>?_)
  refine tq (i:=14) (v:=sL (some (aD eb eo)) m1 e1) (λhcl=>?_)
  refine tq (i:=15) (v:=iV (ib:Int)) (λhcl=>?_)
  refine tq (i:=16) (v:=.pointer (some (aD eb (eo+ib*7)))) (λhcl=>?_)
  refine tq (i:=17) (v:=.pointer (some (aD eb (eo+ib*7+3)))) (λhcl=>?_)
  refine tq (i:=18) (v:=iV (yb:Int)) (λhcl=>?_)
  refine tq (i:=19) (v:=.pointer (some (aD wb (wo+yb*4)))) (λhcl=>?_)
  refine tq (i:=20) (v:=.pointer (some (aD wb (wo+yb*4)))) (λhcl=>?_)
  refine tq (i:=21) (v:=iV fb) (λhcl=>?_)
  refine tq (i:=22) (v:=pT (w.heap.size+1)) (λhcl=>?_)
  refine tq (i:=23) (v:=sL (some (aD rb ro)) s0 d0) (λhcl=>?_)
  refine tq (i:=24) (v:=.pointer (some (aD (w.heap.size+1) 1))) (λhcl=>?_)
  refine tq (i:=25) (v:=sL (some (aD eb eo)) m1 e1) (λhcl=>?_)
  refine tq (i:=26) (v:=iV (ia:Int)) (λhcl=>?_)
  refine tq (i:=27) (v:=.pointer (some (aD eb (eo+ia*7)))) (λhcl=>?_)
  refine tq (i:=28) (v:=.pointer (some (aD eb (eo+ia*7+1)))) (λhcl=>?_)
  refine tq (i:=29) (v:=iV (nh:Int)) (λhcl=>?_)
  refine tq (i:=30) (v:=.pointer (some (aD rb (ro+nh)))) (λhcl=>?_)
  refine tq (i:=31) (v:=iV zn) (λhcl=>?_)
  refine tq (i:=32) (v:=.agg #[iV 0,.bool false,iV fa,iV fb,.bool true,iV zn,sN]) (λhcl=>?_)
  have BR:BT wd (w.heap.size+2) #[iV 0,.bool false,iV 0,iV 0,.bool false,iV 0,sN] 89:=H3D.o.at 2 rfl
  have x0:=BR.c 0 rfl
  have fz0:=BR.blk.frozen 0
  have x1:=BR.c 1 rfl
  have fz1:=BR.blk.frozen 1
  have x2:=BR.c 2 rfl
  have fz2:=BR.blk.frozen 2
  have x3:=BR.c 3 rfl
  have fz3:=BR.blk.frozen 3
  have x4:=BR.c 4 rfl
  have fz4:=BR.blk.frozen 4
  have x5:=BR.c 5 rfl
  have fz5:=BR.blk.frozen 5
  have x6:=BR.c 6 rfl
  have fz6:=BR.blk.frozen 6
  have BS:=Km (a0:=iV 0) (a1:=.bool false) (a2:=iV fa) (a3:=iV fb) (a4:=.bool true) (a5:=iV zn) (a6:=sN) BR
  have P0:Z (_=some (iV 0)):=BS.c 0 rfl
  have P1:Z (_=some (Value.bool false)):=BS.c 1 rfl
  have P2:Z (_=some (iV fa)):=BS.c 2 rfl
  have P3:Z (_=some (iV fb)):=BS.c 3 rfl
  have P4:Z (_=some (Value.bool true)):=BS.c 4 rfl
  have P5:Z (_=some (iV zn)):=BS.c 5 rfl
  have P6:Z (_=some sN):=BS.c 6 rfl
  have HCF:Z (Chg (λx=>x=w.heap.size+2) wd (((((((wd.setCell (aD (w.heap.size+2) 0) (iV 0)).setCell (aD (w.heap.size+2) 1) (.bool false)).setCell (aD (w.heap.size+2) 2) (iV fa)).setCell (aD (w.heap.size+2) 3) (iV fb)).setCell (aD (w.heap.size+2) 4) (.bool true)).setCell (aD (w.heap.size+2) 5) (iV zn)).setCell (aD (w.heap.size+2) 6) sN)):=Ky
  have HBS:=mh BS
  clear BS BR
  refine Qh (i:=33) (by kernel_rfl) (wpOpIn_step rfl (λK hK=>?_))
  go_simp
  refine hK _ _ ⟨oL (by decide),?_⟩
  clear hK K
  refine Ql (by kernel_rfl) ?_ _
  clear hw hcl
  go_wp2
  generalize hWF:(((((((wd.setCell (aD (w.heap.size+2) 0) (iV 0)).setCell (aD (w.heap.size+2) 1) (.bool false)).setCell (aD (w.heap.size+2) 2) (iV fa)).setCell (aD (w.heap.size+2) 3) (iV fb)).setCell (aD (w.heap.size+2) 4) (.bool true)).setCell (aD (w.heap.size+2) 5) (iV zn)).setCell (aD (w.heap.size+2) 6) sN)=wF at P0 P1 P2 P3 P4 P5 P6 HBS HCF ⊢
  have p0:=P0.o
  have p1:=P1.o
  have p2:=P2.o
  have p3:=P3.o
  have p4:=P4.o
  have p5:=P5.o
  have p6:=P6.o
  refine bodyPost_ret (v:=.agg #[iV 0,.bool false,iV fa,iV fb,.bool true,iV zn,sN]) (by simp[results,results54,go_sem,p0,p1,p2,p3,p4,p5,p6]) rfl ?_
  have hF:=H3D.o.turn 2 rfl HCF.o HBS.o
  have hR:=H3D.o.rowTurn 2 rfl (show Q5 w.heap.size wd sN [] from⟨rfl,oL ⟨rfl,rfl⟩⟩) HCF.o
  rw[HDR.o,HDS.o]
  exact⟨_,rfl,hR,hF.src,hF.chg⟩
theorem Q8i (N:Nt)(es:List Eg)(i:Nat):1<=(Jt N es i).length:=by
 unfold Jt
 split<;>simp
theorem Q7i {ts:List (List Nat)}(h:i<ts.length):ltd ts i∈ts:=by
 unfold ltd
 rw[zD,zH h]
 exact yH h
theorem Q7l (h:l≠[]):laL l∈l:=by
 unfold laL
 rw[List.getLastD_eq_getLast?,List.getLast?_eq_some_getLast h]
 exact List.getLast_mem h
theorem Qdz (h:l≠[]):hdN l∈l:=by
 cases l with
 |nil=>exact absurd rfl h
 |cons a l=>simp[hdN]
theorem Jm.slice' {ws:List (List Int)}(h:Jm C w v ws):∃a c,v=sL a ws.length c:=by
 obtain⟨a,c,e,_⟩:=h
 exact⟨a,c,e⟩
theorem Chg.cellU (h:Chg (λx=>x<C) w w'){o:Nat}(hn:C<=g)(hc:w.cell? (aD g o)=some v):w'.cell? (aD g o)=some v:=by
 have hb:=h.block g (Jk hc) (by omega)
 unfold World.cell? at hc ⊢
 simp only[hb]
 exact hc
theorem Qdj (h:l≠[]):iat (Qp l) 0=(hdN l:Int):=by
 cases l with
 |nil=>exact absurd rfl h
 |cons a l=>simp[iat,Qp,hdN]
theorem Qdi (h:l.length=n+1):iat (Qp l) n=(laL l:Int):=by
 have hl:n<l.length:=by omega
 have hn:n<(Qp l).length:=by unfold Qp;rw[zF];exact hl
 unfold iat Qp laL
 rw[List.getLastD_eq_getLast?,List.getLast?_eq_getElem?,h,zD,zY]
 simp[hl]
theorem Q6v {u:Value}{ts:List (List Nat)}(h:Jm C w u (ts.map Qp))(hi:i<ts.length)(hne:ltd ts i≠[]) :
  ∃tb to_ c lb lo n c',u=sL (some (aD tb to_)) ts.length c/\(ltd ts i).length=n+1/\C<=tb/\tb<w.heap.size/\C<=lb/\lb<w.heap.size/\n+1<=maxLen/\w.cell? (aD tb (to_+i))=some (sL (some (aD lb lo)) (n+1) c')/\w.cell? (aD lb lo)=some (iV (hdN (ltd ts i):Int))/\w.cell? (aD lb (lo+n))=some (iV (laL (ltd ts i):Int)):=by
 obtain⟨a,c,e,_,k⟩:=h
 rw[zF] at e k
 obtain⟨tb,to_,rfl,h1,h2,k1⟩:=k (by omega)
 obtain⟨vi,c1,⟨a2,c2,e2,hm,k2⟩,_⟩:=k1 i hi
 have ew:wd (ts.map Qp) i=Qp (ltd ts i):=by
  unfold wd ltd
  rw[zD,zD,zY,zH hi]
  rfl
 rw[ew] at e2 hm k2
 have hl:(Qp (ltd ts i)).length=(ltd ts i).length:=by unfold Qp;rw[zF]
 have hp:=List.length_pos_iff.2 hne
 obtain⟨n,hn⟩:∃n,(ltd ts i).length=n+1:=⟨(ltd ts i).length-1,by omega⟩
 obtain⟨lb,lo,rfl,h3,h4,k3⟩:=k2 (by omega)
 have c0:w.cell? (aD lb (lo+0))=some (iV (iat (Qp (ltd ts i)) 0)):=k3 0 (by omega)
 have cn:w.cell? (aD lb (lo+n))=some (iV (iat (Qp (ltd ts i)) n)):=k3 n (by omega)
 rw[Qdj hne] at c0
 rw[Qdi hn] at cn
 rw[hl,hn] at e2 hm
 subst e2
 exact⟨tb,to_,c,lb,lo,n,c2,e,hn,h1,h2,h3,h4,hm,c1,c0,cn⟩
theorem Pz (B D b:Nat)(v0 v1 v2 v3 q0 q1 q2 q3:Value)(N:Nt)(R:Rd)(S:Src)(w:World)(hN:U0 B w v0 v1 v2 v3 N)(hR:Vy B w q0 q1 q2 q3 R)(hB:b<B)(h0:0<N.nodes.length)(hw0:0<N.ways.length)(hl0:N.nodes.length<=1000000)(hl1:N.ways.length<=1000000)(hS:Jj D w b S)(hok:SOk S)(hE:0<R.edges.length)(hI:Q4t N R)(h6:¬nv S 10<6) :
  Calls prog 54 #[.agg #[v0,v1,v2,v3,iV N.uturn],.agg #[q0,q1,q2,q3],pT b] w λe w'=>∃va,e=.returned (.agg #[iV (drR N R S).id,.bool (drR N R S).only,iV (drR N R S).frm,iV (drR N R S).to,.bool (drR N R S).via,iV (drR N R S).node,va])/\Q5 w.heap.size w' va (drR N R S).ways/\Jj D w' b (drS N R S)/\Chg (Sx1 b) w w':=by
 have HOK:Z (SOk S):=hok
 have HOK1:=mh (Qf hok 10)
 have HS0:=mh hS
 have HP:Z (Qgo N):=⟨h0,hw0,hl0,hl1⟩
 have HNK:Z (∀q,Chg (Sx1 b) w q->U0 B q v0 v1 v2 v3 N):=λq hq=>hN.keep (hq.keepsB hB)
 have HRK:Z (∀q,Chg (Sx1 b) w q->Vy B q q0 q1 q2 q3 R):=λq hq=>hR.keep (hq.keepsB hB)
 obtain⟨r0,t0,rfl,_,kn⟩:=hN.1
 obtain⟨r1,c1,rfl,_,kw⟩:=hN.2.1
 obtain⟨r2,t2,rfl,_,_⟩:=hN.2.2.1
 obtain⟨r3,t3,rfl,_,_⟩:=hN.2.2.2
 obtain⟨wb,wo,rfl,hwb,_,hwc⟩:=kw hw0
 obtain⟨nb,no,rfl,hnb,_,hnc⟩:=kn h0
 obtain⟨p0,d0,rfl,_,krn⟩:=hR.1
 obtain⟨p1,e1,rfl,_,kre⟩:=hR.2.1
 obtain⟨p2,d2,rfl,_,_⟩:=hR.2.2.1
 obtain⟨p3,d3,rfl,_,_⟩:=hR.2.2.2
 obtain⟨eb,eo,rfl,heb,_,hec⟩:=kre hE
 obtain⟨i0,hi0,_⟩:=hI.head 0 hE
 obtain⟨rb,ro,rfl,hrb,_,hrc⟩:=krn (by omega)
 have HWC:Z (∀q,Chg (Sx1 b) w q->∀i,i<N.ways.length->q.cell? (aD wb (wo+i*4))=some (iV (wat N.ways i).id)):=λq hq i hi=>by
  obtain⟨_,_,hc,_⟩:=hwc i hi
  exact hq.cellB (by omega) hc
 have HEC:Z (∀q,Chg (Sx1 b) w q->∀e,e<R.edges.length->Kl q eb (eo+e*7) (eat R.edges e)):=λq hq e he=>(hec e he).keep (hq.keepsB hB) heb (Jk (hec e he).1)
 have HNC:Z (∀q,Chg (Sx1 b) w q->∀i,i<R.nodes.length->q.cell? (aD rb (ro+i))=some (iV (iat R.nodes i))):=λq hq i hi=>hq.cellB (by omega) (hrc i hi)
 have HII:=mh hI
 have HLE:=mh hI.len
 have hle:=hI.len
 have HMW:Z (N.ways.length=N.ways.length):=rfl
 have HM1:Z (R.edges.length=R.edges.length):=rfl
 have HM0:Z (R.nodes.length=R.nodes.length):=rfl
 have HNE:Z (¬R.edges.length=0):=by unfold Z;omega
 clear hwc hnc kn kw krn kre hN hR hS hok hec hrc hI hi0
 generalize N.nodes.length=m0 at *
 generalize hmw:N.ways.length=mw at h0 hw0 hl0 hl1 HWC HMW HNK ⊢
 generalize N.rels.length=m2 at *
 generalize N.turns.length=m3 at *
 generalize hms:R.nodes.length=s0 at HNC HM0 HRK ⊢
 generalize hm1:R.edges.length=m1 at hE hle HEC HM1 HNE HRK ⊢
 generalize R.first.length=s2 at *
 generalize R.o.length=s3 at *
 have HW':=mh hmw
 have HE':=mh hm1
 have HS':=mh hms
 clear HMW HM1 HM0 hmw hms hm1
 go_enter func54,ntmps54
 go_upto_region 1 with fail
 generalize hWA:((w.alloc (.cells #[sL (some (aD nb no)) m0 t0,sL (some (aD wb wo)) mw c1,sL r2 m2 t2,sL r3 m3 t3,iV N.uturn] 60)).alloc (.cells #[sL (some (aD rb ro)) s0 d0,sL (some (aD eb eo)) m1 e1,sL p2 s2 d2,sL p3 s3 d3] 86)).alloc (.cells #[iV 0,.bool false,iV 0,iV 0,.bool false,iV 0,sN] 89)=wA
 have HA0:Z (FR D b w wA S (bl3 w.heap.size #[sL (some (aD nb no)) m0 t0,sL (some (aD wb wo)) mw c1,sL r2 m2 t2,sL r3 m3 t3,iV N.uturn] #[sL (some (aD rb ro)) s0 d0,sL (some (aD eb eo)) m1 e1,sL p2 s2 d2,sL p3 s3 d3])):=by
  unfold Z
  rw[<-hWA]
  have k0:FR D b w w S []:=⟨Chg.nx (Nx.refl _),HS0.o,λp hp=>absurd hp (by simp),λp hp=>absurd hp (by simp),List.nodup_nil⟩
  have k1:=((k0.alloc #[sL (some (aD nb no)) m0 t0,sL (some (aD wb wo)) mw c1,sL r2 m2 t2,sL r3 m3 t3,iV N.uturn] 60 (by decide)).alloc #[sL (some (aD rb ro)) s0 d0,sL (some (aD eb eo)) m1 e1,sL p2 s2 d2,sL p3 s3 d3] 86 (by decide)).alloc #[iV 0,.bool false,iV 0,iV 0,.bool false,iV 0,sN] 89 (by decide)
  rw[Q1,Q1,Q1] at k1
  exact k1
 clear hWA
 go_wp2_with fail
 refine(Q6 D b S 10 wA HA0.o.src HOK.o (by omega)).mono ?_
 rintro e w1 ⟨rfl,hs1,hc1⟩
 have H1:=mh (HA0.o.drawn hs1 hc1)
 have hv10:=Qv HOK.o 10
 clear hs1 hc1 HA0
 have HD10:Z (nv S 10=nv S 10):=rfl
 generalize hd10:nv S 10=d10 at hv10 HD10 h6 ⊢
 replace HD10:Z (nv S 10=d10):=hd10
 clear hd10
 have hd:¬d10=0:=by omega
 have hd':(d10==0)=false:=by simpa using hd
 have HND:Z (¬(d10=0\/R.edges.length=0)):=λh=>h.elim hd (λe=>by rw[HE'.o] at e;omega)
 have HD6:Z (¬d10<6):=by unfold Z;omega
 have rr1:w1.cell? (aD (w.heap.size+1) 1)=some (sL (some (aD eb eo)) m1 e1):=(H1.o.at 1 rfl).c 1 rfl
 have nn1:w1.cell? (aD w.heap.size 1)=some (sL (some (aD wb wo)) mw c1):=(H1.o.at 0 rfl).c 1 rfl
 have hmz:((m1:Int)==0)=false:=by simp;omega
 have hmy:¬(m1:Int)=0:=by omega
 have hmx:prog.follows .mixedOrders=true:=by kernel_rfl
 go_wp2_with fail
 refine(Q6 D b (ns S 10) (mw:Int) w1 H1.o.src HOK1.o (by omega)).mono ?_
 rintro e w2 ⟨rfl,hs1,hc1⟩
 have H2:=mh (H1.o.drawn hs1 hc1)
 have HOK2:Z (SOk (ns (ns S 10) mw)):=Qf HOK1.o _
 obtain⟨iw,hiw⟩:∃i:Nat,nv (ns S 10) mw=i:=⟨(nv (ns S 10) mw).toNat,by have:=(Qv HOK1.o mw).1;omega⟩
 have hil:iw<mw:=by have:=(Qv HOK1.o mw).2 (by omega);omega
 have hil':(iw:Int)<mw:=by omega
 have HDW:Z (dwW N (ns S 10)=iw):=by unfold Z dwW;rw[HW'.o,hiw,zU]
 rw[hiw]
 clear hs1 hc1 rr1 nn1 hiw H1 h6 hd hd' hmz hmy hv10
 go_upto_region 12 with fail
 generalize hW3:w2.alloc (.cells #[iV 0,.bool false,iV 0,iV 0,.bool false,iV 0,sN] 89)=w3
 have H3:Z (FR D b w w3 (ns (ns S 10) mw) (bl4 w.heap.size #[sL (some (aD nb no)) m0 t0,sL (some (aD wb wo)) mw c1,sL r2 m2 t2,sL r3 m3 t3,iV N.uturn] #[sL (some (aD rb ro)) s0 d0,sL (some (aD eb eo)) m1 e1,sL p2 s2 d2,sL p3 s3 d3] w2.heap.size #[iV 0,.bool false,iV 0,iV 0,.bool false,iV 0,sN])):=by rw[<-hW3];exact H2.o.alloc #[iV 0,.bool false,iV 0,iV 0,.bool false,iV 0,sN] 89 (by decide)
 clear hW3 H2
 generalize w2.heap.size=g at *
 have HGL:=mh ((show BT w3 g _ 89 from H3.o.at 3 rfl).lt)
 have HBL:Z (b<w3.heap.size):=by
  obtain⟨v,hb,_⟩:=H3.o.src
  exact hb.lt
 have nc0:w3.cell? (aD w.heap.size 0)=some (sL (some (aD nb no)) m0 t0):=(H3.o.at 0 rfl).c 0 rfl
 have nc1:w3.cell? (aD w.heap.size 1)=some (sL (some (aD wb wo)) mw c1):=(H3.o.at 0 rfl).c 1 rfl
 have nc2:w3.cell? (aD w.heap.size 2)=some (sL r2 m2 t2):=(H3.o.at 0 rfl).c 2 rfl
 have nc3:w3.cell? (aD w.heap.size 3)=some (sL r3 m3 t3):=(H3.o.at 0 rfl).c 3 rfl
 have nc4:w3.cell? (aD w.heap.size 4)=some (iV N.uturn):=(H3.o.at 0 rfl).c 4 rfl
 have rc0:w3.cell? (aD (w.heap.size+1) 0)=some (sL (some (aD rb ro)) s0 d0):=(H3.o.at 1 rfl).c 0 rfl
 have rc1:w3.cell? (aD (w.heap.size+1) 1)=some (sL (some (aD eb eo)) m1 e1):=(H3.o.at 1 rfl).c 1 rfl
 have rc2:w3.cell? (aD (w.heap.size+1) 2)=some (sL p2 s2 d2):=(H3.o.at 1 rfl).c 2 rfl
 have rc3:w3.cell? (aD (w.heap.size+1) 3)=some (sL p3 s3 d3):=(H3.o.at 1 rfl).c 3 rfl
 go_wp2_with fail
 refine(Zi B B (sL (some (aD nb no)) m0 t0) (sL (some (aD wb wo)) mw c1) (sL r2 m2 t2) (sL r3 m3 t3) N (sL (some (aD rb ro)) s0 d0) (sL (some (aD eb eo)) m1 e1) (sL p2 s2 d2) (sL p3 s3 d3) R iw w3 (HNK.o _ H3.o.chg) (HRK.o _ H3.o.chg) HLE.o (by rw[HW'.o];exact hil)).mono ?_
 rintro e w4 ⟨⟨ut,rfl,how⟩,hx4⟩
 have H4:=mh (H3.o.next hx4)
 have HWT:=mh how.held
 have HTV:=mh (HII.o.trav iw (by rw[HW'.o];exact hil) (by rw[HE'.o];exact hE))
 have HDT:Z (dwT N R.edges (ns S 10)=Jt N R.edges iw):=by unfold Z dwT;rw[HDW.o]
 obtain⟨ta,tc,rfl⟩:=HWT.o.slice'
 generalize hTL:((Jt N R.edges iw).map Qp).length=T0
 have HTL:Z ((Jt N R.edges iw).length=T0):=by unfold Z;rw[<-hTL,zF]
 rw[hTL] at HWT
 have hT2:T0<=2:=by rw[<-HTL.o];exact Pl _ _ _
 have hT1:1<=T0:=by rw[<-HTL.o];exact Q8i _ _ _
 generalize htt:Jt N R.edges iw=tt at *
 clear hTL htt how hx4 nc0 nc1 nc2 nc3 nc4 rc0 rc1 rc2 rc3 H3
 go_wp2_with fail
 refine(Q6 D b (ns (ns S 10) mw) (T0:Int) w4 H4.o.src HOK2.o (by omega)).mono ?_
 rintro e w5 ⟨rfl,hs1,hc1⟩
 have H5:=mh (H4.o.drawn hs1 hc1)
 have HK5:Z (Chg (λx=>x<w3.heap.size) w4 w5):=hc1.mono (λx hx=>by have hx':x=b:=hx;have:=HBL.o;omega)
 obtain⟨li,hli⟩:∃i:Nat,nv (ns (ns S 10) mw) T0=i:=⟨(nv (ns (ns S 10) mw) T0).toNat,by have:=(Qv HOK2.o T0).1;omega⟩
 have hll':li<T0:=by have:=(Qv HOK2.o T0).2 (by omega);omega
 have hlli:(li:Int)<T0:=by omega
 rw[hli]
 have HOK3:Z (SOk (ns (ns (ns S 10) mw) T0)):=Qf HOK2.o _
 have HDLI:Z (Qc3 N R.edges (ns S 10)=ltd tt li):=by unfold Z Qc3;rw[HDT.o,HW'.o,HTL.o,hli,zU]
 have HDS3:Z (Q68 N R.edges (ns S 10)=ns (ns (ns S 10) mw) T0):=by unfold Z Q68;rw[HDT.o,HW'.o,HTL.o]
 generalize ns (ns (ns S 10) mw) T0=S3 at *
 obtain⟨hne,hall⟩:=HTV.o (ltd tt li) (Q7i (by rw[HTL.o];exact hll'))
 obtain⟨tb,to_,tc',lb,lo,ln,lc,eu,hlen,hct,htl,hcl,hll,hlm,k0,k1,k2⟩:=Q6v HWT.o (by rw[HTL.o];exact hll') hne
 rw[HTL.o] at eu
 simp only[zC] at eu
 obtain⟨rfl,_,rfl⟩:=eu
 have hhn:hdN (ltd tt li)<m1:=by rw[<-HE'.o];exact hall _ (Qdz hne)
 have hla:laL (ltd tt li)<m1:=by rw[<-HE'.o];exact hall _ (Q7l hne)
 obtain⟨nh,hnh,eh⟩:=HII.o.head (laL (ltd tt li)) (by rw[HE'.o];exact hla)
 obtain⟨tl,htl2⟩:∃z,z=(eat R.edges (hdN (ltd tt li))).tail:=⟨_,rfl⟩
 obtain⟨idw,hidw⟩:∃z,z=(wat N.ways iw).id:=⟨_,rfl⟩
 have HIDW:=mh hidw
 clear hidw
 have HDTL:Z (Q9m N R.edges (ns S 10)=tl):=by unfold Z Q9m;rw[HDLI.o,htl2]
 have HKC:Z (∀q,Chg (λx=>x<w3.heap.size) w4 q->q.cell? (aD tb (to_+li))=some (sL (some (aD lb lo)) (ln+1) lc)/\q.cell? (aD lb lo)=some (iV (hdN (ltd tt li):Int))/\q.cell? (aD lb (lo+ln))=some (iV (laL (ltd tt li):Int))):=λq hq=>⟨hq.cellU (by omega) k0,hq.cellU (by omega) k1,hq.cellU (by omega) k2⟩
 have HEH:Z (∀q,Chg (Sx1 b) w q->q.cell? (aD eb (eo+laL (ltd tt li)*7+1))=some (iV (nh:Int))):=λq hq=>by have k:=(HEC.o q hq (laL (ltd tt li)) hla).2.1;rw[eh] at k;exact k
 have HET:Z (∀q,Chg (Sx1 b) w q->q.cell? (aD eb (eo+hdN (ltd tt li)*7))=some (iV tl)):=λq hq=>by rw[htl2];exact(HEC.o q hq (hdN (ltd tt li)) hhn).1
 have HXH:Z ((eat R.edges (laL (Qc3 N R.edges (ns S 10)))).head=(nh:Int)):=by rw[HDLI.o];exact eh
 have HLM:=mh hlm
 generalize hdN (ltd tt li)=hn at *
 generalize laL (ltd tt li)=la at *
 have HHN:=mh hhn
 have HLA:=mh hla
 obtain⟨y0,_⟩:=HKC.o w5 HK5.o
 clear hs1 hc1 hli k0 k1 k2 htl2 hne hall hlen hct htl hcl hll hlm hnh eh hhn hla HWT H4
 go_upto_region 14 with fail
 clear y0
 have HSA:Z (∀q S',FR D b w q S' (bl4 w.heap.size #[sL (some (aD nb no)) m0 t0,sL (some (aD wb wo)) mw c1,sL r2 m2 t2,sL r3 m3 t3,iV N.uturn] #[sL (some (aD rb ro)) s0 d0,sL (some (aD eb eo)) m1 e1,sL p2 s2 d2,sL p3 s3 d3] g #[iV 0,.bool false,iV 0,iV 0,.bool false,iV 0,sN])->∀{q'},Nx q q'->(λq=>q.cell? (aD g 6)=some sN/\q.cell? (aD w.heap.size 1)=some (sL (some (aD wb wo)) mw c1)/\q.cell? (aD wb (wo+iw*4))=some (iV idw)) q'):=λq S' h q' hq=>⟨Q0 hq ((h.at 3 rfl).c 6 rfl),Q0 hq ((h.at 0 rfl).c 1 rfl),Q0 hq (by rw[HIDW.o];exact HWC.o q h.chg iw hil)⟩
 have H5D:=mh (H5.o.next (show Nx w5 w5.drew from(Below.refl _ _).drew))
 have HSS:=mh (HSA.o _ _ H5D.o (Nx.refl _))
 refine(wpIn_wide (n:=9)).1 ?_
 refine Qb (c:=11) (S:=λq=>q.cell? (aD g 6)=some sN/\q.cell? (aD w.heap.size 1)=some (sL (some (aD wb wo)) mw c1)/\q.cell? (aD wb (wo+iw*4))=some (iV idw)) hmx (by kernel_rfl) (λhw hcl=>?_)
 have HX5:=mh ((show Nx w5 w5.drew from(Below.refl _ _).drew))
 generalize w5.drew=wd5 at *
 refine tq (i:=0) (v:=.pointer (some (aD g 6))) (λhcl=>?_)
 refine tq (i:=1) (v:=sN) (λhcl=>?_)
 refine tq (i:=2) (v:=.pointer (some (aD w.heap.size 1))) (λhcl=>?_)
 refine tq (i:=3) (v:=sL (some (aD wb wo)) mw c1) (λhcl=>?_)
 refine tq (i:=4) (v:=iV (iw:Int)) (λhcl=>?_)
 refine tq (i:=5) (v:=.pointer (some (aD wb (wo+iw*4)))) (λhcl=>?_)
 refine tq (i:=6) (v:=.pointer (some (aD wb (wo+iw*4)))) (λhcl=>?_)
 refine tq (i:=7) (v:=iV idw) (λhcl=>?_)
 refine Q8 (i:=8) (by kernel_rfl) hcl (λhcl=>wpOpIn_step rfl (λK hK=>?_))
 go_simp
 refine hK _ _ ⟨oR (HSA.o _ _ H5D.o (Qe _ _)),?_⟩
 clear hK K
 refine Q8 (i:=9) (by kernel_rfl) hcl (λhcl=>wpOpIn_step rfl (λK hK=>?_))
 have hz5:=H5D.o.chg.size
 refine Jl rfl (.tmp 107) (.tmp 114) rfl w.heap.size 0 sN [] idw wd5 _ rfl (by simp[Act.eval]) ⟨rfl,oL ⟨rfl,rfl⟩⟩ (by simp[Act.eval]) rfl (by omega) hz5 ?_
 intro a6 c6 w6 r1 r2 r3
 have hC6:=r2
 have HX6:Z (Nx wd5 w6):=hC6.below lR (λx hx=>by cases hx)
 have H6a:=mh (H5D.o.next HX6.o)
 have HO6a:Z (Q5 w.heap.size w6 (sL a6 (0+1) c6) [idw]):=r1
 have HN6:Z (∀y,(sL a6 (0+1) c6).ownBlock=some y->wd5.heap.size<=y):=λy hy=>(r3 y hy).elim (λe=>by cases e) id
 have HS6:=mh (HSA.o _ _ H6a.o (Nx.refl _))
 refine hK _ _ ⟨oR HS6.o,?_⟩
 clear hK K r1 r2 r3 hC6
 refine Q8 (i:=10) (by kernel_rfl) hcl (λhcl=>wpOpIn_step rfl (λK hK=>?_))
 go_simp
 refine hK _ _ ⟨oR HS6.o,?_⟩
 clear hK K
 have BG:BT w6 g #[iV 0,.bool false,iV 0,iV 0,.bool false,iV 0,sN] 89:=H6a.o.at 3 rfl
 have x6:=BG.c 6 rfl
 have fz6:=BG.blk.frozen 6
 refine Qh (i:=11) (by kernel_rfl) (wpOpIn_step rfl (λK hK=>?_))
 go_simp
 refine hK _ _ ⟨oL (by decide),?_⟩
 clear hK K
 refine Ql (by kernel_rfl) ?_ _
 clear x6 fz6 hw hcl HSS HS6
 have H6:Z (FR D b w (w6.setCell (aD g 6) (sL a6 (0+1) c6)) S3 (bl4 w.heap.size #[sL (some (aD nb no)) m0 t0,sL (some (aD wb wo)) mw c1,sL r2 m2 t2,sL r3 m3 t3,iV N.uturn] #[sL (some (aD rb ro)) s0 d0,sL (some (aD eb eo)) m1 e1,sL p2 s2 d2,sL p3 s3 d3] g #[iV 0,.bool false,iV 0,iV 0,.bool false,iV 0,(sL a6 (0+1) c6)])):=H6a.o.set 3 rfl 6 _
 have HO6:Z (Q5 w.heap.size (w6.setCell (aD g 6) (sL a6 (0+1) c6)) (sL a6 (0+1) c6) [idw]):=H6a.o.rowTurn 3 rfl HO6a.o (Chg.set _ _ _ rfl)
 have HK6:Z (Chg (λx=>x<w3.heap.size) w4 (w6.setCell (aD g 6) (sL a6 (0+1) c6))):=((HK5.o.trans (Chg.nx HX5.o)).trans (Chg.nx HX6.o)).trans (Chg.set _ _ _ HGL.o)
 generalize w6.setCell (aD g 6) (sL a6 (0+1) c6)=w7 at *
 clear BG H6a HO6a HX6 H5D HN6
 have HSB:Z (∀q S',FR D b w q S' (bl4 w.heap.size #[sL (some (aD nb no)) m0 t0,sL (some (aD wb wo)) mw c1,sL r2 m2 t2,sL r3 m3 t3,iV N.uturn] #[sL (some (aD rb ro)) s0 d0,sL (some (aD eb eo)) m1 e1,sL p2 s2 d2,sL p3 s3 d3] g #[iV 0,.bool false,iV 0,iV 0,.bool false,iV 0,(sL a6 (0+1) c6)])->Chg (λx=>x<w3.heap.size) w4 q->(λq=>q.cell? (aD (w.heap.size+1) 0)=some (sL (some (aD rb ro)) s0 d0)/\q.cell? (aD (w.heap.size+1) 1)=some (sL (some (aD eb eo)) m1 e1)/\q.cell? (aD (w.heap.size+1) 2)=some (sL p2 s2 d2)/\q.cell? (aD (w.heap.size+1) 3)=some (sL p3 s3 d3)/\q.cell? (aD lb lo)=some (iV (hn:Int))/\q.cell? (aD eb (eo+hn*7))=some (iV tl)) q):=λq S' h hk=>⟨(h.at 1 rfl).c 0 rfl,(h.at 1 rfl).c 1 rfl,(h.at 1 rfl).c 2 rfl,(h.at 1 rfl).c 3 rfl,(HKC.o q hk).2.1,HET.o q h.chg⟩
 have hhn:=HHN.o
 have hhn':(hn:Int)<m1:=by omega
 clear HSA H5
 go_upto_region 15 with fail
 have H7D:=mh (H6.o.next (show Nx w7 w7.drew from(Below.refl _ _).drew))
 have HSS:=mh (HSB.o _ _ H7D.o (HK6.o.trans (Chg.nx (show Nx w7 w7.drew from(Below.refl _ _).drew))))
 refine(wpIn_wide (n:=9)).1 ?_
 refine Qb (c:=12) (S:=λq=>q.cell? (aD (w.heap.size+1) 0)=some (sL (some (aD rb ro)) s0 d0)/\q.cell? (aD (w.heap.size+1) 1)=some (sL (some (aD eb eo)) m1 e1)/\q.cell? (aD (w.heap.size+1) 2)=some (sL p2 s2 d2)/\q.cell? (aD (w.heap.size+1) 3)=some (sL p3 s3 d3)/\q.cell? (aD lb lo)=some (iV (hn:Int))/\q.cell? (aD eb (eo+hn*7))=some (iV tl)) hmx (by kernel_rfl) (λhw hcl=>?_)
 refine tq (i:=0) (v:=.agg #[sL (some (aD rb ro)) s0 d0,sL (some (aD eb eo)) m1 e1,sL p2 s2 d2,sL p3 s3 d3]) (λhcl=>?_)
 refine tq (i:=1) (v:=.pointer (some (aD (w.heap.size+1) 1))) (λhcl=>?_)
 refine tq (i:=2) (v:=sL (some (aD eb eo)) m1 e1) (λhcl=>?_)
 refine tq (i:=3) (v:=sL (some (aD lb lo)) (ln+1) lc) (λhcl=>?_)
 refine tq (i:=4) (v:=.pointer (some (aD lb lo))) (λhcl=>?_)
 refine tq (i:=5) (v:=iV (hn:Int)) (λhcl=>?_)
 refine tq (i:=6) (v:=.pointer (some (aD eb (eo+hn*7)))) (λhcl=>?_)
 refine tq (i:=7) (v:=.pointer (some (aD eb (eo+hn*7)))) (λhcl=>?_)
 refine tq (i:=8) (v:=iV tl) (λhcl=>?_)
 refine tq (i:=9) (v:=pT b) (λhcl=>?_)
 refine Q8 (i:=10) (by kernel_rfl) hcl (λhcl=>wpOpIn_step rfl (λK hK=>?_))
 go_simp
 refine⟨trivial,(callsIn_wide.2 (T8 B D b (sL (some (aD rb ro)) s0 d0) (sL (some (aD eb eo)) m1 e1) (sL p2 s2 d2) (sL p3 s3 d3) R tl false S3 _ (HRK.o _ H7D.o.chg) HLE.o H7D.o.src HOK3.o)).mono ?_⟩
 rintro e7 w8 ⟨rfl,hs1,hc1⟩
 have H8:=mh (H7D.o.drawn hs1 hc1)
 have HO8:=mh (H7D.o.rowDrawn (HO6.o.next (show Nx w7 w7.drew from(Below.refl _ _).drew)) hc1)
 have HK8:=mh ((HK6.o.trans (Chg.nx (show Nx w7 w7.drew from(Below.refl _ _).drew))).trans (hc1.mono (λx hx=>by have hx':x=b:=hx;have:=HBL.o;omega)))
 have HSS:=mh (HSB.o _ _ H8.o HK8.o)
 refine hK _ _ ⟨oR HSS.o,?_⟩
 clear hK K hs1 hc1
 refine Q8 (i:=11) (by kernel_rfl) hcl (λhcl=>wpOpIn_step rfl (λK hK=>?_))
 go_simp
 refine hK _ _ ⟨oR HSS.o,?_⟩
 clear hK K
 refine Ql (by kernel_rfl) ?_ _
 clear hw hcl HSS H7D
 have HOK4:Z (SOk (pkS R.edges tl false S3)):=(Ze HOK3.o).1
 have HPA:=mh (Q1w (es:=R.edges) (nd:=tl) (out:=false) HOK3.o)
 have HDA:Z (dwA N R.edges (ns S 10)=pkV R.edges tl false S3):=by unfold Z dwA;rw[HDTL.o,HDS3.o]
 have HDS4:Z (Ac N R.edges (ns S 10)=pkS R.edges tl false S3):=by unfold Z Ac;rw[HDTL.o,HDS3.o]
 generalize pkS R.edges tl false S3=S4 at *
 generalize pkV R.edges tl false S3=aV at *
 clear hhn hhn' HSB H6 HO6 HK6
 obtain⟨_,_,y2⟩:=HKC.o w8 HK8.o
 have y3:w8.cell? (aD (w.heap.size+1) 1)=some (sL (some (aD eb eo)) m1 e1):=(H8.o.at 1 rfl).c 1 rfl
 have y4:=HEH.o w8 H8.o.chg
 have hla:=HLA.o
 have hla':(la:Int)<m1:=by omega
 have hwl:IntKind.i64.wrap (ln:Int)=ln:=Va _ (by have:=HLM.o;unfold maxLen at this;omega)
 have hln1:(ln:Int)<(ln:Int)+1:=by omega
 go_upto_region 16 with fail
 go_cut [15] from 128 to 138 (λs15 wc=>s15=iV (nh:Int)/\Z (Nx w8 wc))
 case first=>
  go_quiet (fail)
  go_wp2
  go_meet
  exact⟨rfl,J3 _ _⟩
 case rest=>
 obtain⟨rfl,HX9⟩:=hcut
 generalize wc=w9 at *
 clear y2 y3 y4 hwl hln1 hla hla'
 have H9:=mh (H8.o.next HX9.o)
 have HO9:=mh (HO8.o.next HX9.o)
 clear H8 HO8 HX9 HK8 HKC HEH HET
 obtain⟨mF,hmF⟩:∃x,x=dwM N R.edges (ns S 10):=⟨_,rfl⟩
 have HDM:=mh hmF.symm
 have HOKm:Z (SOk mF.S):=by rw[<-HDM.o];exact(Ii (show SOk (ns (Ac N R.edges (ns S 10)) 3) from Qf (by rw[HDS4.o];exact HOK4.o) _) _).1
 clear hmF
 go_wp2_with fail
 refine(Q6 D b S4 3 w9 H9.o.src HOK4.o (by omega)).mono ?_
 rintro e w10 ⟨rfl,hs1,hc1⟩
 have H10:=mh (H9.o.drawn hs1 hc1)
 have HO10:=mh (H9.o.rowDrawn HO9.o hc1)
 obtain⟨M,hM⟩:∃i:Nat,nv S4 3=i:=⟨(nv S4 3).toNat,by have:=(Qv HOK4.o 3).1;omega⟩
 have hM3:M<=3:=by have:=(Qv HOK4.o 3).2 (by omega);omega
 rw[hM]
 obtain⟨x0,hx0⟩:∃x,x=dwX N R.edges (ns S 10):=⟨_,rfl⟩
 have hx0':x0=⟨ns S4 3,(nh:Int),[idw],false⟩:=by rw[hx0];unfold dwX;rw[HDS4.o,HXH.o,HDW.o,<-HIDW.o]
 have HF0:Z (mF=Xh N R.edges x0 M):=by unfold Z;rw[<-HDM.o];unfold dwM;rw[<-hx0,HDS4.o,hM,zU]
 have HX0f:Z ((Xh N R.edges x0 0).fin=(nh:Int)):=by unfold Z;rw[hx0'];rfl
 have HX0p:Z ((Xh N R.edges x0 0).stop=false):=by unfold Z;rw[hx0'];rfl
 have HX0l:Z ((Xh N R.edges x0 0).ways.length=1):=by unfold Z;rw[hx0'];rfl
 have HL0:Z (FR D b w w10 (Xh N R.edges x0 0).S (bl4 w.heap.size #[sL (some (aD nb no)) m0 t0,sL (some (aD wb wo)) mw c1,sL r2 m2 t2,sL r3 m3 t3,iV N.uturn] #[sL (some (aD rb ro)) s0 d0,sL (some (aD eb eo)) m1 e1,sL p2 s2 d2,sL p3 s3 d3] g #[iV 0,.bool false,iV 0,iV 0,.bool false,iV 0,(sL a6 1 c6)])):=by rw[hx0'];exact H10.o
 have HLo0:Z (Q5 w.heap.size w10 (sL a6 1 c6) (Xh N R.edges x0 0).ways):=by rw[hx0'];exact HO10.o
 have HX0k:Z (SOk x0.S):=by unfold Z;rw[hx0'];show SOk (ns S4 3);exact Qf HOK4.o _
 have HX04:Z (x0.ways.length<=4):=by unfold Z;rw[hx0'];show([_]:List Int).length<=4;simp
 clear hs1 hc1 hM hx0 hx0' H9 HO9 H10 HO10 HXH HIDW
 go_upto_block 0 with fail
 go_cut [15,16,17,18,19] from 141 to 215 (λs15 s16 s17 s18 s19 wc=>∃(n cv:Nat) (av:Option Addr),s15=iV mF.fin/\Z (mF.ways.length=n)/\Z (FR D b w wc mF.S (bl4 w.heap.size #[sL (some (aD nb no)) m0 t0,sL (some (aD wb wo)) mw c1,sL r2 m2 t2,sL r3 m3 t3,iV N.uturn] #[sL (some (aD rb ro)) s0 d0,sL (some (aD eb eo)) m1 e1,sL p2 s2 d2,sL p3 s3 d3] g #[iV 0,.bool false,iV 0,iV 0,.bool false,iV 0,(sL av n cv)]))/\Z (Q5 w.heap.size wc (sL av n cv) mF.ways))
 case first=>
  go_wp2_with fail
  go_loopw [15,16] (λs15 s16 wr=>∃(l j n cv:Nat) (av:Option Addr),l+j=M/\s16=iV (l:Int)/\s15=iV (Xh N R.edges x0 j).fin/\Z ((Xh N R.edges x0 j).stop=false)/\Z ((Xh N R.edges x0 j).ways.length=n)/\Z (FR D b w wr (Xh N R.edges x0 j).S (bl4 w.heap.size #[sL (some (aD nb no)) m0 t0,sL (some (aD wb wo)) mw c1,sL r2 m2 t2,sL r3 m3 t3,iV N.uturn] #[sL (some (aD rb ro)) s0 d0,sL (some (aD eb eo)) m1 e1,sL p2 s2 d2,sL p3 s3 d3] g #[iV 0,.bool false,iV 0,iV 0,.bool false,iV 0,(sL av n cv)]))/\Z (Q5 w.heap.size wr (sL av n cv) (Xh N R.edges x0 j).ways)) (λ_ i _=>(intOf i).toNat)
  case atStart=>exact⟨M,0,1,c6,a6,rfl,rfl,by rw[HX0f.o],HX0p,HX0l,HL0,HLo0⟩
  obtain⟨l,j,n,cv,av,hlj,rfl,rfl,HSTP,HLn,Hj,HOj⟩:=hrel
  by_cases hl:0<l
  ·have hl':(0:Int)<l:=by omega
   have HOKj:Z (SOk (Xh N R.edges x0 j).S):=(Ii HX0k.o j).1
   have HW4:Z ((Xh N R.edges x0 j).ways.length<=4):=Es HX04.o j
   have HST:Z (Xh N R.edges x0 (j+1)=T5 N R.edges (Xh N R.edges x0 j)):=rfl
   have HFI:Z (∀x,x=Xh N R.edges x0 j->T5 N R.edges x=if x.stop then x else if pkV R.edges x.fin true x.S<0 then ⟨pkS R.edges x.fin true x.S,x.fin,x.ways,true⟩ else ⟨pkS R.edges x.fin true x.S,(Q3r N R.edges (pkV R.edges x.fin true x.S).toNat (x.fin,x.ways)).1,(Q3r N R.edges (pkV R.edges x.fin true x.S).toNat (x.fin,x.ways)).2,false⟩):=λx _=>rfl
   replace HFI:=mh (HFI.o _ rfl)
   rw[HSTP.o] at HFI
   obtain⟨l',rfl⟩:∃l',l=l'+1:=⟨l-1,by omega⟩
   have hwr:IntKind.i64.wrap (l':Int)=l':=Va _ (by omega)
   generalize hxj:Xh N R.edges x0 j=xj at *
   have HXJ:=mh hxj
   clear hxj HSTP hl hl'
   obtain⟨sj,fj,yj,bj⟩:=xj
   simp only at HLn Hj HOj HOKj HW4 HFI ⊢
   have rc0:wr.cell? (aD (w.heap.size+1) 0)=some (sL (some (aD rb ro)) s0 d0):=(Hj.o.at 1 rfl).c 0 rfl
   have rc1:wr.cell? (aD (w.heap.size+1) 1)=some (sL (some (aD eb eo)) m1 e1):=(Hj.o.at 1 rfl).c 1 rfl
   have rc2:wr.cell? (aD (w.heap.size+1) 2)=some (sL p2 s2 d2):=(Hj.o.at 1 rfl).c 2 rfl
   have rc3:wr.cell? (aD (w.heap.size+1) 3)=some (sL p3 s3 d3):=(Hj.o.at 1 rfl).c 3 rfl
   go_wp2_with fail
   refine(T8 B D b (sL (some (aD rb ro)) s0 d0) (sL (some (aD eb eo)) m1 e1) (sL p2 s2 d2) (sL p3 s3 d3) R fj true sj wr (HRK.o _ Hj.o.chg) HLE.o Hj.o.src HOKj.o).mono ?_
   rintro e wq ⟨rfl,hs1,hc1⟩
   have Hq:=mh (Hj.o.drawn hs1 hc1)
   have HOq:=mh (Hj.o.rowDrawn HOj.o hc1)
   have HPV:=mh (Q1w (es:=R.edges) (nd:=fj) (out:=true) HOKj.o)
   generalize pkS R.edges fj true sj=S' at *
   generalize pkV R.edges fj true sj=ev at *
   clear hs1 hc1 rc0 rc1 rc2 rc3 Hj HOj
   rcases HPV.o with rfl|⟨ie,rfl,hie⟩
   ·have HJ1:Z (Xh N R.edges x0 (j+1)=⟨S',fj,yj,true⟩):=by unfold Z;rw[HST.o,HFI.o,if_neg (by decide),if_pos (by decide)]
    have HMF:Z (mF=⟨S',fj,yj,true⟩):=by
     unfold Z
     rw[HF0.o,<-HJ1.o]
     exact Q0t (by rw[HJ1.o]) M (by omega)
    go_wp2
    go_meet
    rw[HMF.o]
    exact⟨n,cv,av,rfl,HLn,Hq,HOq⟩
   ·rw[HE'.o] at hie
    have hie':(ie:Int)<m1:=by omega
    have hien:¬((ie:Int)<0):=by omega
    have hied:decide ((ie:Int)<0)=false:=by simp
    obtain⟨ye,hye,eye⟩:=HII.o.way ie (by rw[HE'.o];exact hie)
    have EYE:=mh eye
    clear eye
    rw[HW'.o] at hye
    have hye':(ye:Int)<mw:=by omega
    have HSD:Z (∀q S',FR D b w q S' (bl4 w.heap.size #[sL (some (aD nb no)) m0 t0,sL (some (aD wb wo)) mw c1,sL r2 m2 t2,sL r3 m3 t3,iV N.uturn] #[sL (some (aD rb ro)) s0 d0,sL (some (aD eb eo)) m1 e1,sL p2 s2 d2,sL p3 s3 d3] g #[iV 0,.bool false,iV 0,iV 0,.bool false,iV 0,(sL av n cv)])->(λq=>q.cell? (aD w.heap.size 0)=some (sL (some (aD nb no)) m0 t0)/\q.cell? (aD w.heap.size 1)=some (sL (some (aD wb wo)) mw c1)/\q.cell? (aD w.heap.size 2)=some (sL r2 m2 t2)/\q.cell? (aD w.heap.size 3)=some (sL r3 m3 t3)/\q.cell? (aD w.heap.size 4)=some (iV N.uturn)/\q.cell? (aD (w.heap.size+1) 0)=some (sL (some (aD rb ro)) s0 d0)/\q.cell? (aD (w.heap.size+1) 1)=some (sL (some (aD eb eo)) m1 e1)/\q.cell? (aD (w.heap.size+1) 2)=some (sL p2 s2 d2)/\q.cell? (aD (w.heap.size+1) 3)=some (sL p3 s3 d3)/\q.cell? (aD eb (eo+ie*7+3))=some (iV (ye:Int))) q):=λq S' h=>⟨(h.at 0 rfl).c 0 rfl,(h.at 0 rfl).c 1 rfl,(h.at 0 rfl).c 2 rfl,(h.at 0 rfl).c 3 rfl,(h.at 0 rfl).c 4 rfl,(h.at 1 rfl).c 0 rfl,(h.at 1 rfl).c 1 rfl,(h.at 1 rfl).c 2 rfl,(h.at 1 rfl).c 3 rfl,by have k:=(HEC.o q h.chg ie hie).2.2.2.1;rw[EYE.o] at k;exact k⟩
    go_upto_region 22 with fail
    have HqD:=mh (Hq.o.next (show Nx wq wq.drew from(Below.refl _ _).drew))
    have HSS:Z ((λq=>q.cell? (aD w.heap.size 0)=some (sL (some (aD nb no)) m0 t0)/\q.cell? (aD w.heap.size 1)=some (sL (some (aD wb wo)) mw c1)/\q.cell? (aD w.heap.size 2)=some (sL r2 m2 t2)/\q.cell? (aD w.heap.size 3)=some (sL r3 m3 t3)/\q.cell? (aD w.heap.size 4)=some (iV N.uturn)/\q.cell? (aD (w.heap.size+1) 0)=some (sL (some (aD rb ro)) s0 d0)/\q.cell? (aD (w.heap.size+1) 1)=some (sL (some (aD eb eo)) m1 e1)/\q.cell? (aD (w.heap.size+1) 2)=some (sL p2 s2 d2)/\q.cell? (aD (w.heap.size+1) 3)=some (sL p3 s3 d3)/\q.cell? (aD eb (eo+ie*7+3))=some (iV (ye:Int))) wq.drew):=HSD.o _ _ HqD.o
    refine(wpIn_wide (n:=9)).1 ?_
    refine Qb (c:=10) (S:=λq=>q.cell? (aD w.heap.size 0)=some (sL (some (aD nb no)) m0 t0)/\q.cell? (aD w.heap.size 1)=some (sL (some (aD wb wo)) mw c1)/\q.cell? (aD w.heap.size 2)=some (sL r2 m2 t2)/\q.cell? (aD w.heap.size 3)=some (sL r3 m3 t3)/\q.cell? (aD w.heap.size 4)=some (iV N.uturn)/\q.cell? (aD (w.heap.size+1) 0)=some (sL (some (aD rb ro)) s0 d0)/\q.cell? (aD (w.heap.size+1) 1)=some (sL (some (aD eb eo)) m1 e1)/\q.cell? (aD (w.heap.size+1) 2)=some (sL p2 s2 d2)/\q.cell? (aD (w.heap.size+1) 3)=some (sL p3 s3 d3)/\q.cell? (aD eb (eo+ie*7+3))=some (iV (ye:Int))) hmx (by kernel_rfl) (λhw hcl=>?_)
    refine tq (i:=0) (v:=.agg #[sL (some (aD nb no)) m0 t0,sL (some (aD wb wo)) mw c1,sL r2 m2 t2,sL r3 m3 t3,iV N.uturn]) (λhcl=>?_)
    refine tq (i:=1) (v:=.agg #[sL (some (aD rb ro)) s0 d0,sL (some (aD eb eo)) m1 e1,sL p2 s2 d2,sL p3 s3 d3]) (λhcl=>?_)
    refine tq (i:=2) (v:=.pointer (some (aD (w.heap.size+1) 1))) (λhcl=>?_)
    refine tq (i:=3) (v:=sL (some (aD eb eo)) m1 e1) (λhcl=>?_)
    refine tq (i:=4) (v:=iV (ie:Int)) (λhcl=>?_)
    refine tq (i:=5) (v:=.pointer (some (aD eb (eo+ie*7)))) (λhcl=>?_)
    refine tq (i:=6) (v:=.pointer (some (aD eb (eo+ie*7+3)))) (λhcl=>?_)
    refine tq (i:=7) (v:=iV (ye:Int)) (λhcl=>?_)
    refine Q8 (i:=8) (by kernel_rfl) hcl (λhcl=>wpOpIn_step rfl (λK hK=>?_))
    go_simp
    refine⟨trivial,(callsIn_wide.2 (Zi B B (sL (some (aD nb no)) m0 t0) (sL (some (aD wb wo)) mw c1) (sL r2 m2 t2) (sL r3 m3 t3) N (sL (some (aD rb ro)) s0 d0) (sL (some (aD eb eo)) m1 e1) (sL p2 s2 d2) (sL p3 s3 d3) R ye _ (HNK.o _ HqD.o.chg) (HRK.o _ HqD.o.chg) HLE.o (by rw[HW'.o];exact hye))).mono ?_⟩
    rintro e7 wt ⟨⟨ut,rfl,how⟩,hxt⟩
    have Ht:=mh (HqD.o.next hxt)
    have HOt:=mh ((HOq.o.next (show Nx wq wq.drew from(Below.refl _ _).drew)).next hxt)
    have HSS:Z ((λq=>q.cell? (aD w.heap.size 0)=some (sL (some (aD nb no)) m0 t0)/\q.cell? (aD w.heap.size 1)=some (sL (some (aD wb wo)) mw c1)/\q.cell? (aD w.heap.size 2)=some (sL r2 m2 t2)/\q.cell? (aD w.heap.size 3)=some (sL r3 m3 t3)/\q.cell? (aD w.heap.size 4)=some (iV N.uturn)/\q.cell? (aD (w.heap.size+1) 0)=some (sL (some (aD rb ro)) s0 d0)/\q.cell? (aD (w.heap.size+1) 1)=some (sL (some (aD eb eo)) m1 e1)/\q.cell? (aD (w.heap.size+1) 2)=some (sL p2 s2 d2)/\q.cell? (aD (w.heap.size+1) 3)=some (sL p3 s3 d3)/\q.cell? (aD eb (eo+ie*7+3))=some (iV (ye:Int))) wt):=HSD.o _ _ Ht.o
    refine hK _ _ ⟨oR HSS.o,?_⟩
    clear hK K
    refine Q8 (i:=9) (by kernel_rfl) hcl (λhcl=>wpOpIn_step rfl (λK hK=>?_))
    go_simp
    refine hK _ _ ⟨oR HSS.o,?_⟩
    clear hK K
    refine Ql (by kernel_rfl) ?_ _
    clear hw hcl HSS
    have HWT:=mh how.held
    have HBC:Z (b<wq.drew.heap.size):=by
     obtain⟨v,hb,_⟩:=HqD.o.src
     exact hb.lt
    have HGC:=mh ((show BT wq.drew g _ 89 from HqD.o.at 3 rfl).lt)
    have HV0:Z (∀y,(sL av n cv).ownBlock=some y->y<wq.drew.heap.size\/wt.heap.size<=y):=λy hy=>oL (Q7 (HOq.o.next (show Nx wq wq.drew from(Below.refl _ _).drew)) y hy).2
    have HTV:=mh (HII.o.trav ye (by rw[HW'.o];exact hye) (by rw[HE'.o];exact hE))
    have HEY:Z (ewy R.edges (ie:Int)=(ye:Int)):=by unfold Z ewy;rw[zU];exact EYE.o
    obtain⟨ide,hide⟩:∃z,z=(wat N.ways ye).id:=⟨_,rfl⟩
    have HIDE:=mh hide
    have HIE:Z (Kb N.ways (ewy R.edges (ie:Int))=ide):=by unfold Z;rw[HEY.o,hide];unfold Kb;rw[zU]
    have HMI:Z (Q3r N R.edges ie (fj,yj)=Wi N.ways R.edges (Jt N R.edges ye) ie (fj,yj) (Jt N R.edges ye).length):=by unfold Z Q3r;rw[HEY.o,zU]
    have HJ1:Z (Xh N R.edges x0 (j+1)=⟨S',(Q3r N R.edges ie (fj,yj)).1,(Q3r N R.edges ie (fj,yj)).2,false⟩):=by unfold Z;rw[HST.o,HFI.o,if_neg (by decide),if_neg (show ¬((ie:Int)<0) by omega),zU]
    rw[HMI.o] at HJ1
    clear hide
    generalize hC1:wq.drew.heap.size=C1 at *
    clear HqD HSD hxt how hC1 HMI HPV HFI HST
    obtain⟨ta,tc,rfl⟩:=HWT.o.slice'
    generalize hTL:((Jt N R.edges ye).map Qp).length=TL0
    have HTL:Z ((Jt N R.edges ye).length=TL0):=by unfold Z;rw[<-hTL,zF]
    rw[hTL] at HWT
    clear hTL
    rw[HTL.o] at HJ1
    have hT4:TL0<=2:=by rw[<-HTL.o];exact Pl _ _ _
    generalize htt:Jt N R.edges ye=tt at *
    clear htt
    go_wp2
    go_loopw [15,19] (λs15 s19 wr=>∃(i n cv:Nat) (av:Option Addr),i<=TL0/\s19=iV (i:Int)/\s15=iV (Wi N.ways R.edges tt ie (fj,yj) i).1/\Z ((Wi N.ways R.edges tt ie (fj,yj) i).2.length=n)/\Z (FR D b w wr S' (bl4 w.heap.size #[sL (some (aD nb no)) m0 t0,sL (some (aD wb wo)) mw c1,sL r2 m2 t2,sL r3 m3 t3,iV N.uturn] #[sL (some (aD rb ro)) s0 d0,sL (some (aD eb eo)) m1 e1,sL p2 s2 d2,sL p3 s3 d3] g #[iV 0,.bool false,iV 0,iV 0,.bool false,iV 0,(sL av n cv)]))/\Z (Q5 w.heap.size wr (sL av n cv) (Wi N.ways R.edges tt ie (fj,yj) i).2)/\Z (Chg (λx=>x<C1) wt wr)/\Z (∀y,(sL av n cv).ownBlock=some y->y<C1\/wt.heap.size<=y)) (λ_ i _=>TL0-(intOf i).toNat)
    case atStart=>exact⟨0,n,cv,av,nZ,rfl,rfl,HLn,Ht,HOt,Chg.nx (Nx.refl _),HV0⟩
    clear HLn Ht HOt HV0 Hq HOq
    obtain⟨i,n,cv,av,hi,rfl,rfl,HLn,Hi,HOi,HKi,HVi⟩:=hrel
    by_cases hlt:i<TL0
    ·have hlt':(i:Int)<TL0:=by omega
     obtain⟨hne,hall⟩:=HTV.o (ltd tt i) (Q7i (by rw[HTL.o];exact hlt))
     obtain⟨tb,to_,tc',lb,lo,ln,lc,eu,hlen,hct,htl,hcl,hll,hlm,k0,k1,k2⟩:=Q6v HWT.o (by rw[HTL.o];exact hlt) hne
     rw[HTL.o] at eu
     simp only[zC] at eu
     obtain⟨rfl,_,rfl⟩:=eu
     have HI1:Z (Wi N.ways R.edges tt ie (fj,yj) (i+1)=if hdN (ltd tt i)=ie/\(Wi N.ways R.edges tt ie (fj,yj) i).2.length<4 then ((eat R.edges (laL (ltd tt i))).head,(Wi N.ways R.edges tt ie (fj,yj) i).2++[Kb N.ways (ewy R.edges ie)]) else Wi N.ways R.edges tt ie (fj,yj) i):=rfl
     rw[HIE.o,HLn.o] at HI1
     have HL4:Z ((Wi N.ways R.edges tt ie (fj,yj) i).2.length<=4):=A7 _ _ _ _ HW4.o i
     rw[HLn.o] at HL4
     have hn4:=HL4.o
     have hla:laL (ltd tt i)<m1:=by rw[<-HE'.o];exact hall _ (Q7l hne)
     obtain⟨nh,hnh,eh⟩:=HII.o.head (laL (ltd tt i)) (by rw[HE'.o];exact hla)
     rw[eh] at HI1
     have HKC:Z (∀q,Chg (λx=>x<C1) wt q->q.cell? (aD tb (to_+i))=some (sL (some (aD lb lo)) (ln+1) lc)/\q.cell? (aD lb lo)=some (iV (hdN (ltd tt i):Int))/\q.cell? (aD lb (lo+ln))=some (iV (laL (ltd tt i):Int))):=λq hq=>⟨hq.cellU (by omega) k0,hq.cellU (by omega) k1,hq.cellU (by omega) k2⟩
     have HEH:Z (∀q,Chg (Sx1 b) w q->q.cell? (aD eb (eo+laL (ltd tt i)*7+1))=some (iV (nh:Int))):=λq hq=>by have k:=(HEC.o q hq (laL (ltd tt i)) hla).2.1;rw[eh] at k;exact k
     have HHE:=mh hla
     have HLM:=mh hlm
     clear hlm
     generalize hhd:hdN (ltd tt i)=hd0 at *
     generalize hlL:laL (ltd tt i)=la at *
     obtain⟨y0,y1,y2⟩:=HKC.o wr HKi.o
     have y3:wr.cell? (aD g 6)=some (sL av n cv):=(Hi.o.at 3 rfl).c 6 rfl
     clear k0 k1 k2 hhd hlL hne hall hlen hct htl hcl hll hla eh hnh
     generalize hx:Wi N.ways R.edges tt ie (fj,yj) i=xi at *
     have HXI:=mh hx
     clear hx
     obtain⟨xf,xl⟩:=xi
     simp only at HLn HOi HI1 ⊢
     by_cases c1':hd0=ie
     ·have c3:=c1'.symm
      clear c1'
      subst c3
      by_cases c2':n<4
      ·have c2i:(n:Int)<4:=by omega
       rw[if_pos ⟨rfl,c2'⟩] at HI1
       have HSE:Z (∀q S',FR D b w q S' (bl4 w.heap.size #[sL (some (aD nb no)) m0 t0,sL (some (aD wb wo)) mw c1,sL r2 m2 t2,sL r3 m3 t3,iV N.uturn] #[sL (some (aD rb ro)) s0 d0,sL (some (aD eb eo)) m1 e1,sL p2 s2 d2,sL p3 s3 d3] g #[iV 0,.bool false,iV 0,iV 0,.bool false,iV 0,(sL av n cv)])->∀{q'},Nx q q'->(λq=>q.cell? (aD g 6)=some (sL av n cv)/\q.cell? (aD w.heap.size 1)=some (sL (some (aD wb wo)) mw c1)/\q.cell? (aD (w.heap.size+1) 1)=some (sL (some (aD eb eo)) m1 e1)/\q.cell? (aD eb (eo+ie*7+3))=some (iV (ye:Int))/\q.cell? (aD wb (wo+ye*4))=some (iV ide)) q'):=λq S' h q' hq=>⟨Q0 hq ((h.at 3 rfl).c 6 rfl),Q0 hq ((h.at 0 rfl).c 1 rfl),Q0 hq ((h.at 1 rfl).c 1 rfl),Q0 hq (by have k:=(HEC.o q h.chg ie hie).2.2.2.1;rw[EYE.o] at k;exact k),Q0 hq (by rw[HIDE.o];exact HWC.o q h.chg ye hye)⟩
       go_upto_region 27 with fail
       have HiD:=mh (Hi.o.next (show Nx wr wr.drew from(Below.refl _ _).drew))
       have HOiD:=mh (HOi.o.next (show Nx wr wr.drew from(Below.refl _ _).drew))
       have HSS:=mh (HSE.o _ _ HiD.o (Nx.refl _))
       clear y0 y1 y2 y3
       refine(wpIn_wide (n:=9)).1 ?_
       refine Qb (c:=16) (S:=λq=>q.cell? (aD g 6)=some (sL av n cv)/\q.cell? (aD w.heap.size 1)=some (sL (some (aD wb wo)) mw c1)/\q.cell? (aD (w.heap.size+1) 1)=some (sL (some (aD eb eo)) m1 e1)/\q.cell? (aD eb (eo+ie*7+3))=some (iV (ye:Int))/\q.cell? (aD wb (wo+ye*4))=some (iV ide)) hmx (by kernel_rfl) (λhw hcl=>?_)
       have HXi:Z (Nx wr wr.drew):=(Below.refl _ _).drew
       generalize wr.drew=wdi at *
       refine tq (i:=0) (v:=.pointer (some (aD g 6))) (λhcl=>?_)
       refine tq (i:=1) (v:=sL av n cv) (λhcl=>?_)
       refine tq (i:=2) (v:=.pointer (some (aD w.heap.size 1))) (λhcl=>?_)
       refine tq (i:=3) (v:=sL (some (aD wb wo)) mw c1) (λhcl=>?_)
       refine tq (i:=4) (v:=.pointer (some (aD (w.heap.size+1) 1))) (λhcl=>?_)
       refine tq (i:=5) (v:=sL (some (aD eb eo)) m1 e1) (λhcl=>?_)
       refine tq (i:=6) (v:=iV (ie:Int)) (λhcl=>?_)
       refine tq (i:=7) (v:=.pointer (some (aD eb (eo+ie*7)))) (λhcl=>?_)
       refine tq (i:=8) (v:=.pointer (some (aD eb (eo+ie*7+3)))) (λhcl=>?_)
       refine tq (i:=9) (v:=iV (ye:Int)) (λhcl=>?_)
       refine tq (i:=10) (v:=.pointer (some (aD wb (wo+ye*4)))) (λhcl=>?_)
       refine tq (i:=11) (v:=.pointer (some (aD wb (wo+ye*4)))) (λhcl=>?_)
       refine tq (i:=12) (v:=iV ide) (λhcl=>?_)
       refine Q8 (i:=13) (by kernel_rfl) hcl (λhcl=>wpOpIn_step rfl (λK hK=>?_))
       go_simp
       refine hK _ _ ⟨oR (HSE.o _ _ HiD.o (Qe _ _)),?_⟩
       clear hK K
       refine Q8 (i:=14) (by kernel_rfl) hcl (λhcl=>wpOpIn_step rfl (λK hK=>?_))
       have hzi:=HiD.o.chg.size
       refine Jl rfl (.tmp 182) (.tmp 194) rfl w.heap.size n (sL av n cv) xl ide wdi _ rfl (by simp[Act.eval]) HOiD.o (by simp[Act.eval]) HLn.o (by omega) hzi ?_
       intro a9 c9 w9 r1 r2 r3
       have H9a:=mh (HiD.o.grow HOiD.o lR r2)
       have HO9a:=mh r1
       have HK9a:=mh ((HKi.o.trans (Chg.nx HXi.o)).young r2 (λx hx hl=>(HVi.o x hx.symm).resolve_right (by omega)))
       have HV9:Z (∀y,(sL a9 (n+1) c9).ownBlock=some y->y<C1\/wt.heap.size<=y):=λy hy=>(r3 y hy).elim (HVi.o y) (λh=>oR (zM HKi.o.size (zM HXi.o.size h)))
       have HS9:=mh (HSE.o _ _ H9a.o (Nx.refl _))
       refine hK _ _ ⟨oR HS9.o,?_⟩
       clear hK K r1 r2 r3
       refine Q8 (i:=15) (by kernel_rfl) hcl (λhcl=>wpOpIn_step rfl (λK hK=>?_))
       go_simp
       refine hK _ _ ⟨oR HS9.o,?_⟩
       clear hK K
       have BG:BT w9 g #[iV 0,.bool false,iV 0,iV 0,.bool false,iV 0,(sL av n cv)] 89:=H9a.o.at 3 rfl
       have x6:=BG.c 6 rfl
       have fz6:=BG.blk.frozen 6
       refine Qh (i:=16) (by kernel_rfl) (wpOpIn_step rfl (λK hK=>?_))
       go_simp
       refine hK _ _ ⟨oL (by decide),?_⟩
       clear hK K
       refine Ql (by kernel_rfl) ?_ _
       clear x6 fz6 hw hcl HSS HS9
       have H9:Z (FR D b w (w9.setCell (aD g 6) (sL a9 (n+1) c9)) S' (bl4 w.heap.size #[sL (some (aD nb no)) m0 t0,sL (some (aD wb wo)) mw c1,sL r2 m2 t2,sL r3 m3 t3,iV N.uturn] #[sL (some (aD rb ro)) s0 d0,sL (some (aD eb eo)) m1 e1,sL p2 s2 d2,sL p3 s3 d3] g #[iV 0,.bool false,iV 0,iV 0,.bool false,iV 0,(sL a9 (n+1) c9)])):=H9a.o.set 3 rfl 6 _
       have HO9:Z (Q5 w.heap.size (w9.setCell (aD g 6) (sL a9 (n+1) c9)) (sL a9 (n+1) c9) (xl++[ide])):=H9a.o.rowTurn 3 rfl HO9a.o (Chg.set _ _ _ rfl)
       have HK9:Z (Chg (λx=>x<C1) wt (w9.setCell (aD g 6) (sL a9 (n+1) c9))):=HK9a.o.trans (Chg.set _ _ _ HGC.o)
       generalize w9.setCell (aD g 6) (sL a9 (n+1) c9)=w10 at *
       clear BG H9a HO9a HK9a HiD HOiD
       obtain⟨y0,y1,y2⟩:=HKC.o w10 HK9.o
       have y3:w10.cell? (aD (w.heap.size+1) 1)=some (sL (some (aD eb eo)) m1 e1):=(H9.o.at 1 rfl).c 1 rfl
       have y4:=HEH.o w10 H9.o.chg
       have hla:=HHE.o
       have hla':(la:Int)<m1:=by omega
       have hwl:IntKind.i64.wrap (ln:Int)=ln:=Va _ (by have:=HLM.o;unfold maxLen at this;omega)
       go_upto_region 28 with fail
       go_quiet (fail)
       generalize wdq:w10.drewN nq=w11 at *
       have HX11:Z (Nx w10 w11):=by rw[<-wdq];exact J3 _ _
       clear wdq y0 y1 y2 y3 y4
       have H11:=mh (H9.o.next HX11.o)
       have HO11:Z (Q5 w.heap.size w11 (sL a9 (n+1) c9) (Wi N.ways R.edges tt ie (fj,yj) (i+1)).2):=by rw[HI1.o];exact HO9.o.next HX11.o
       have HK11:=mh (HK9.o.trans (Chg.nx HX11.o))
       have HL11:Z ((Wi N.ways R.edges tt ie (fj,yj) (i+1)).2.length=n+1):=by unfold Z;rw[HI1.o];show(xl++[ide]).length=_;rw[zA,HLn.o];rfl
       have HF11:Z ((Wi N.ways R.edges tt ie (fj,yj) (i+1)).1=(nh:Int)):=by unfold Z;rw[HI1.o]
       go_wp2
       go_roundw
       case rel=>exact⟨i+1,n+1,c9,a9,by omega,by go_num,by rw[HF11.o],HL11,H11,HO11,HK11,HV9⟩
       case measure=>simp[intOf];omega
      ·have c2i:¬(n:Int)<4:=by omega
       have c2d:decide ((n:Int)<4)=false:=by simp;omega
       rw[if_neg (λh=>c2' h.2)] at HI1
       go_wp2
       go_roundw
       case rel=>exact⟨i+1,n,cv,av,by omega,by go_num,by rw[HI1.o],by rw[HI1.o];exact HLn,Hi,by rw[HI1.o];exact HOi,HKi,HVi⟩
       case measure=>simp[intOf];omega
     ·have c1d:((hd0:Int)==(ie:Int))=false:=by simp;omega
      rw[if_neg (λh=>c1' h.1)] at HI1
      go_wp2
      go_roundw
      case rel=>exact⟨i+1,n,cv,av,by omega,by go_num,by rw[HI1.o],by rw[HI1.o];exact HLn,Hi,by rw[HI1.o];exact HOi,HKi,HVi⟩
      case measure=>simp[intOf];omega
    ·have hit:i=TL0:=by omega
     subst hit
     have HJ2:Z ((Xh N R.edges x0 (j+1)).ways=(Wi N.ways R.edges tt ie (fj,yj) i).2/\(Xh N R.edges x0 (j+1)).fin=(Wi N.ways R.edges tt ie (fj,yj) i).1/\(Xh N R.edges x0 (j+1)).S=S'/\(Xh N R.edges x0 (j+1)).stop=false):=by rw[HJ1.o];exact⟨rfl,rfl,rfl,rfl⟩
     clear HJ1
     go_wp2
     go_roundw
     case rel=>exact⟨l',j+1,n,cv,av,by omega,by go_num,by rw[HJ2.o.2.1],HJ2.o.2.2.2,by rw[HJ2.o.1];exact HLn,by rw[HJ2.o.2.2.1];exact Hi,by rw[HJ2.o.1];exact HOi⟩
     case measure=>simp[intOf]
  ·have hl0':l=0:=by omega
   subst hl0'
   have hjM:j=M:=by omega
   subst hjM
   rw[<-HF0.o] at HLn Hj HOj ⊢
   clear hl hlj
   go_wp2
   go_meet
   exact⟨n,cv,av,rfl,HLn,Hj,HOj⟩
 case rest=>
 obtain⟨n,cv,av,rfl,HLn,Hz0,HOz⟩:=hcut
 have rc0:wc.cell? (aD (w.heap.size+1) 0)=some (sL (some (aD rb ro)) s0 d0):=(Hz0.o.at 1 rfl).c 0 rfl
 have rc1:wc.cell? (aD (w.heap.size+1) 1)=some (sL (some (aD eb eo)) m1 e1):=(Hz0.o.at 1 rfl).c 1 rfl
 have rc2:wc.cell? (aD (w.heap.size+1) 2)=some (sL p2 s2 d2):=(Hz0.o.at 1 rfl).c 2 rfl
 have rc3:wc.cell? (aD (w.heap.size+1) 3)=some (sL p3 s3 d3):=(Hz0.o.at 1 rfl).c 3 rfl
 have HDB:Z (dwB N R.edges (ns S 10)=pkV R.edges mF.fin true mF.S):=by unfold Z dwB;rw[HDM.o]
 have HDS7:Z (Q4f N R.edges (ns S 10)=pkS R.edges mF.fin true mF.S):=by unfold Z Q4f;rw[HDM.o]
 go_wp2_with fail
 refine(T8 B D b (sL (some (aD rb ro)) s0 d0) (sL (some (aD eb eo)) m1 e1) (sL p2 s2 d2) (sL p3 s3 d3) R mF.fin true mF.S wc (HRK.o _ Hz0.o.chg) HLE.o Hz0.o.src HOKm.o).mono ?_
 rintro e wz0 ⟨rfl,hs1,hc1⟩
 have Hz:=mh (Hz0.o.drawn hs1 hc1)
 replace HOz:=mh (Hz0.o.rowDrawn HOz.o hc1)
 have HPB:=mh (Q1w (es:=R.edges) (nd:=mF.fin) (out:=true) HOKm.o)
 have HOK7:Z (SOk (pkS R.edges mF.fin true mF.S)):=(Ze HOKm.o).1
 generalize pkS R.edges mF.fin true mF.S=S7 at *
 generalize pkV R.edges mF.fin true mF.S=bV at *
 clear hs1 hc1 rc0 rc1 rc2 rc3 Hz0 HOKm
 rcases HPA.o with rfl|⟨ia,rfl,hia⟩
 ·have HDR:Z (drR N R S=Xi N S7):=by unfold Z drR;rw[HD10.o,if_neg HND.o,if_neg (show ¬d10<6 by have:=HD6.o;omega),if_pos (oL (by rw[HDA.o];decide)),HDS7.o]
  have HDS:Z (drS N R S=Yb N S7):=by unfold Z drS;rw[HD10.o,if_neg HND.o,if_neg (show ¬d10<6 by have:=HD6.o;omega),if_pos (oL (by rw[HDA.o];decide)),HDS7.o]
  clear HPA HPB
  have nc0:wz0.cell? (aD w.heap.size 0)=some (sL (some (aD nb no)) m0 t0):=(Hz.o.at 0 rfl).c 0 rfl
  have nc1:wz0.cell? (aD w.heap.size 1)=some (sL (some (aD wb wo)) mw c1):=(Hz.o.at 0 rfl).c 1 rfl
  have nc2:wz0.cell? (aD w.heap.size 2)=some (sL r2 m2 t2):=(Hz.o.at 0 rfl).c 2 rfl
  have nc3:wz0.cell? (aD w.heap.size 3)=some (sL r3 m3 t3):=(Hz.o.at 0 rfl).c 3 rfl
  have nc4:wz0.cell? (aD w.heap.size 4)=some (iV N.uturn):=(Hz.o.at 0 rfl).c 4 rfl
  go_wp2_with fail
  refine(Xu B D b (sL (some (aD nb no)) m0 t0) (sL (some (aD wb wo)) mw c1) (sL r2 m2 t2) (sL r3 m3 t3) N.uturn N S7 wz0 (HNK.o _ Hz.o.chg) hB HP.o.1 HP.o.2.1 HP.o.2.2.1 HP.o.2.2.2 Hz.o.src HOK7.o).mono ?_
  rintro e wz ⟨va,rfl,ho,hs1,hc1⟩
  obtain⟨a7,c7,rfl⟩:=Qd ho
  have HF:=mh (Hz.o.drawn hs1 hc1)
  have HO:=mh (ho.base Hz.o.chg.size)
  clear ho hs1 hc1 nc0 nc1 nc2 nc3 nc4
  generalize Xi N S7=rr at *
  generalize Yb N S7=rs at *
  obtain⟨q1,q2,q3,q4,q5,q6,q7⟩:=rr
  simp only at HO ⊢
  generalize q7.length=n7 at *
  have BR:BT wz (w.heap.size+2) #[iV 0,.bool false,iV 0,iV 0,.bool false,iV 0,sN] 89:=HF.o.at 2 rfl
  have x0:=BR.c 0 rfl
  have fz0:=BR.blk.frozen 0
  have x1:=BR.c 1 rfl
  have fz1:=BR.blk.frozen 1
  have x2:=BR.c 2 rfl
  have fz2:=BR.blk.frozen 2
  have x3:=BR.c 3 rfl
  have fz3:=BR.blk.frozen 3
  have x4:=BR.c 4 rfl
  have fz4:=BR.blk.frozen 4
  have x5:=BR.c 5 rfl
  have fz5:=BR.blk.frozen 5
  have x6:=BR.c 6 rfl
  have fz6:=BR.blk.frozen 6
  have BS:=Km (a0:=iV q1) (a1:=.bool q2) (a2:=iV q3) (a3:=iV q4) (a4:=.bool q5) (a5:=iV q6) (a6:=sL a7 n7 c7) BR
  have P0:Z (_=some (iV q1)):=BS.c 0 rfl
  have P1:Z (_=some (Value.bool q2)):=BS.c 1 rfl
  have P2:Z (_=some (iV q3)):=BS.c 2 rfl
  have P3:Z (_=some (iV q4)):=BS.c 3 rfl
  have P4:Z (_=some (Value.bool q5)):=BS.c 4 rfl
  have P5:Z (_=some (iV q6)):=BS.c 5 rfl
  have P6:Z (_=some (sL a7 n7 c7)):=BS.c 6 rfl
  have HCF:Z (Chg (λx=>x=w.heap.size+2) wz (((((((wz.setCell (aD (w.heap.size+2) 0) (iV q1)).setCell (aD (w.heap.size+2) 1) (.bool q2)).setCell (aD (w.heap.size+2) 2) (iV q3)).setCell (aD (w.heap.size+2) 3) (iV q4)).setCell (aD (w.heap.size+2) 4) (.bool q5)).setCell (aD (w.heap.size+2) 5) (iV q6)).setCell (aD (w.heap.size+2) 6) (sL a7 n7 c7))):=Ky
  have HBS:=mh BS
  clear BS BR
  go_wp2
  generalize hWF:(((((((wz.setCell (aD (w.heap.size+2) 0) (iV q1)).setCell (aD (w.heap.size+2) 1) (.bool q2)).setCell (aD (w.heap.size+2) 2) (iV q3)).setCell (aD (w.heap.size+2) 3) (iV q4)).setCell (aD (w.heap.size+2) 4) (.bool q5)).setCell (aD (w.heap.size+2) 5) (iV q6)).setCell (aD (w.heap.size+2) 6) (sL a7 n7 c7))=wF at P0 P1 P2 P3 P4 P5 P6 HBS HCF ⊢
  have p0:=P0.o
  have p1:=P1.o
  have p2:=P2.o
  have p3:=P3.o
  have p4:=P4.o
  have p5:=P5.o
  have p6:=P6.o
  refine bodyPost_ret (v:=.agg #[iV q1,.bool q2,iV q3,iV q4,.bool q5,iV q6,sL a7 n7 c7]) (by simp[results,results54,go_sem,p0,p1,p2,p3,p4,p5,p6]) rfl ?_
  have hF:=HF.o.turn 2 rfl HCF.o HBS.o
  have hR:=HF.o.rowTurn 2 rfl HO.o HCF.o
  rw[HDR.o,HDS.o]
  exact⟨_,rfl,hR,hF.src,hF.chg⟩
 have hian:¬((ia:Int)<0):=by omega
 have hiad:decide ((ia:Int)<0)=false:=by simp
 rcases HPB.o with rfl|⟨ib,rfl,hib⟩
 ·have HDR:Z (drR N R S=Xi N S7):=by unfold Z drR;rw[HD10.o,if_neg HND.o,if_neg (show ¬d10<6 by have:=HD6.o;omega),if_pos (oR (by rw[HDB.o];decide)),HDS7.o]
  have HDS:Z (drS N R S=Yb N S7):=by unfold Z drS;rw[HD10.o,if_neg HND.o,if_neg (show ¬d10<6 by have:=HD6.o;omega),if_pos (oR (by rw[HDB.o];decide)),HDS7.o]
  clear HPA HPB
  have nc0:wz0.cell? (aD w.heap.size 0)=some (sL (some (aD nb no)) m0 t0):=(Hz.o.at 0 rfl).c 0 rfl
  have nc1:wz0.cell? (aD w.heap.size 1)=some (sL (some (aD wb wo)) mw c1):=(Hz.o.at 0 rfl).c 1 rfl
  have nc2:wz0.cell? (aD w.heap.size 2)=some (sL r2 m2 t2):=(Hz.o.at 0 rfl).c 2 rfl
  have nc3:wz0.cell? (aD w.heap.size 3)=some (sL r3 m3 t3):=(Hz.o.at 0 rfl).c 3 rfl
  have nc4:wz0.cell? (aD w.heap.size 4)=some (iV N.uturn):=(Hz.o.at 0 rfl).c 4 rfl
  go_wp2_with fail
  refine(Xu B D b (sL (some (aD nb no)) m0 t0) (sL (some (aD wb wo)) mw c1) (sL r2 m2 t2) (sL r3 m3 t3) N.uturn N S7 wz0 (HNK.o _ Hz.o.chg) hB HP.o.1 HP.o.2.1 HP.o.2.2.1 HP.o.2.2.2 Hz.o.src HOK7.o).mono ?_
  rintro e wz ⟨va,rfl,ho,hs1,hc1⟩
  obtain⟨a7,c7,rfl⟩:=Qd ho
  have HF:=mh (Hz.o.drawn hs1 hc1)
  have HO:=mh (ho.base Hz.o.chg.size)
  clear ho hs1 hc1 nc0 nc1 nc2 nc3 nc4
  generalize Xi N S7=rr at *
  generalize Yb N S7=rs at *
  obtain⟨q1,q2,q3,q4,q5,q6,q7⟩:=rr
  simp only at HO ⊢
  generalize q7.length=n7 at *
  have BR:BT wz (w.heap.size+2) #[iV 0,.bool false,iV 0,iV 0,.bool false,iV 0,sN] 89:=HF.o.at 2 rfl
  have x0:=BR.c 0 rfl
  have fz0:=BR.blk.frozen 0
  have x1:=BR.c 1 rfl
  have fz1:=BR.blk.frozen 1
  have x2:=BR.c 2 rfl
  have fz2:=BR.blk.frozen 2
  have x3:=BR.c 3 rfl
  have fz3:=BR.blk.frozen 3
  have x4:=BR.c 4 rfl
  have fz4:=BR.blk.frozen 4
  have x5:=BR.c 5 rfl
  have fz5:=BR.blk.frozen 5
  have x6:=BR.c 6 rfl
  have fz6:=BR.blk.frozen 6
  have BS:=Km (a0:=iV q1) (a1:=.bool q2) (a2:=iV q3) (a3:=iV q4) (a4:=.bool q5) (a5:=iV q6) (a6:=sL a7 n7 c7) BR
  have P0:Z (_=some (iV q1)):=BS.c 0 rfl
  have P1:Z (_=some (Value.bool q2)):=BS.c 1 rfl
  have P2:Z (_=some (iV q3)):=BS.c 2 rfl
  have P3:Z (_=some (iV q4)):=BS.c 3 rfl
  have P4:Z (_=some (Value.bool q5)):=BS.c 4 rfl
  have P5:Z (_=some (iV q6)):=BS.c 5 rfl
  have P6:Z (_=some (sL a7 n7 c7)):=BS.c 6 rfl
  have HCF:Z (Chg (λx=>x=w.heap.size+2) wz (((((((wz.setCell (aD (w.heap.size+2) 0) (iV q1)).setCell (aD (w.heap.size+2) 1) (.bool q2)).setCell (aD (w.heap.size+2) 2) (iV q3)).setCell (aD (w.heap.size+2) 3) (iV q4)).setCell (aD (w.heap.size+2) 4) (.bool q5)).setCell (aD (w.heap.size+2) 5) (iV q6)).setCell (aD (w.heap.size+2) 6) (sL a7 n7 c7))):=Ky
  have HBS:=mh BS
  clear BS BR
  go_wp2
  generalize hWF:(((((((wz.setCell (aD (w.heap.size+2) 0) (iV q1)).setCell (aD (w.heap.size+2) 1) (.bool q2)).setCell (aD (w.heap.size+2) 2) (iV q3)).setCell (aD (w.heap.size+2) 3) (iV q4)).setCell (aD (w.heap.size+2) 4) (.bool q5)).setCell (aD (w.heap.size+2) 5) (iV q6)).setCell (aD (w.heap.size+2) 6) (sL a7 n7 c7))=wF at P0 P1 P2 P3 P4 P5 P6 HBS HCF ⊢
  have p0:=P0.o
  have p1:=P1.o
  have p2:=P2.o
  have p3:=P3.o
  have p4:=P4.o
  have p5:=P5.o
  have p6:=P6.o
  refine bodyPost_ret (v:=.agg #[iV q1,.bool q2,iV q3,iV q4,.bool q5,iV q6,sL a7 n7 c7]) (by simp[results,results54,go_sem,p0,p1,p2,p3,p4,p5,p6]) rfl ?_
  have hF:=HF.o.turn 2 rfl HCF.o HBS.o
  have hR:=HF.o.rowTurn 2 rfl HO.o HCF.o
  rw[HDR.o,HDS.o]
  exact⟨_,rfl,hR,hF.src,hF.chg⟩
 have hibn:¬((ib:Int)<0):=by omega
 have hibd:decide ((ib:Int)<0)=false:=by simp
 obtain⟨ya,hya,eya⟩:=HII.o.way ia hia
 obtain⟨yb,hyb,eyb⟩:=HII.o.way ib hib
 rw[HE'.o] at hia hib
 rw[HW'.o] at hya hyb
 have hia':(ia:Int)<m1:=by omega
 have hib':(ib:Int)<m1:=by omega
 have hya':(ya:Int)<mw:=by omega
 have hyb':(yb:Int)<mw:=by omega
 obtain⟨fa,hfa⟩:∃z,z=(wat N.ways ya).id:=⟨_,rfl⟩
 obtain⟨fb,hfb⟩:∃z,z=(wat N.ways yb).id:=⟨_,rfl⟩
 have Hfa:=mh hfa
 have Hfb:=mh hfb
 have Eya:=mh eya
 have Eyb:=mh eyb
 have HNA:Z (¬(dwA N R.edges (ns S 10)<0\/dwB N R.edges (ns S 10)<0)):=λh=>h.elim (λe=>by rw[HDA.o] at e;omega) (λe=>by rw[HDB.o] at e;omega)
 have HDR:Z (drR N R S=⟨0,false,fa,fb,false,0,mF.ways⟩):=by
  unfold Z drR
  rw[HD10.o,if_neg HND.o,if_neg (show ¬d10<6 by have:=HD6.o;omega),if_neg HNA.o,HDA.o,HDB.o,HDM.o]
  unfold ewy Kb
  rw[zU,zU,eya,eyb,zU,zU,hfa,hfb]
 have HDS:Z (drS N R S=S7):=by unfold Z drS;rw[HD10.o,if_neg HND.o,if_neg (show ¬d10<6 by have:=HD6.o;omega),if_neg HNA.o,HDS7.o]
 clear HPA HPB HNA hfa hfb eya eyb
 have HSX:Z (∀q S' ra,FR D b w q S' (bl4 w.heap.size #[sL (some (aD nb no)) m0 t0,sL (some (aD wb wo)) mw c1,sL r2 m2 t2,sL r3 m3 t3,iV N.uturn] #[sL (some (aD rb ro)) s0 d0,sL (some (aD eb eo)) m1 e1,sL p2 s2 d2,sL p3 s3 d3] g ra)->(λq=>q.cell? (aD w.heap.size 1)=some (sL (some (aD wb wo)) mw c1)/\q.cell? (aD (w.heap.size+1) 1)=some (sL (some (aD eb eo)) m1 e1)/\q.cell? (aD eb (eo+ia*7+3))=some (iV (ya:Int))/\q.cell? (aD wb (wo+ya*4))=some (iV fa)) q):=λq S' ra h=>⟨(h.at 0 rfl).c 1 rfl,(h.at 1 rfl).c 1 rfl,by have k:=(HEC.o q h.chg ia hia).2.2.2.1;rw[Eya.o] at k;exact k,by rw[Hfa.o];exact HWC.o q h.chg ya hya⟩
 go_upto_region 32 with fail
 have HxD:=mh (Hz.o.next (show Nx wz0 wz0.drew from(Below.refl _ _).drew))
 have HOxD:=mh (HOz.o.next (show Nx wz0 wz0.drew from(Below.refl _ _).drew))
 have HSS:Z ((λq=>q.cell? (aD w.heap.size 1)=some (sL (some (aD wb wo)) mw c1)/\q.cell? (aD (w.heap.size+1) 1)=some (sL (some (aD eb eo)) m1 e1)/\q.cell? (aD eb (eo+ia*7+3))=some (iV (ya:Int))/\q.cell? (aD wb (wo+ya*4))=some (iV fa)) wz0.drew):=HSX.o _ _ _ HxD.o
 refine(wpIn_wide (n:=9)).1 ?_
 refine Qb (c:=12) (S:=λq=>q.cell? (aD w.heap.size 1)=some (sL (some (aD wb wo)) mw c1)/\q.cell? (aD (w.heap.size+1) 1)=some (sL (some (aD eb eo)) m1 e1)/\q.cell? (aD eb (eo+ia*7+3))=some (iV (ya:Int))/\q.cell? (aD wb (wo+ya*4))=some (iV fa)) hmx (by kernel_rfl) (λhw hcl=>?_)
 generalize wz0.drew=wd at *
 refine tq (i:=0) (v:=.pointer (some (aD w.heap.size 1))) (λhcl=>?_)
 refine tq (i:=1) (v:=sL (some (aD wb wo)) mw c1) (λhcl=>?_)
 refine tq (i:=2) (v:=.pointer (some (aD (w.heap.size+1) 1))) (λhcl=>?_)
 refine tq (i:=3) (v:=sL (some (aD eb eo)) m1 e1) (λhcl=>?_)
 refine tq (i:=4) (v:=iV (ia:Int)) (λhcl=>?_)
 refine tq (i:=5) (v:=.pointer (some (aD eb (eo+ia*7)))) (λhcl=>?_)
 refine tq (i:=6) (v:=.pointer (some (aD eb (eo+ia*7+3)))) (λhcl=>?_)
 refine tq (i:=7) (v:=iV (ya:Int)) (λhcl=>?_)
 refine tq (i:=8) (v:=.pointer (some (aD wb (wo+ya*4)))) (λhcl=>?_)
 refine tq (i:=9) (v:=.pointer (some (aD wb (wo+ya*4)))) (λhcl=>?_)
 refine tq (i:=10) (v:=iV fa) (λhcl=>?_)
 refine tq (i:=11) (v:=.pointer (some (aD g 2))) (λhcl=>?_)
 have BG:BT wd g #[iV 0,.bool false,iV 0,iV 0,.bool false,iV 0,sL av n cv] 89:=HxD.o.at 3 rfl
 have x6:=BG.c 2 rfl
 have fz6:=BG.blk.frozen 2
 refine Qh (i:=12) (by kernel_rfl) (wpOpIn_step rfl (λK hK=>?_))
 go_simp
 refine hK _ _ ⟨oL (by decide),?_⟩
 clear hK K
 refine Ql (by kernel_rfl) ?_ _
 clear x6 fz6 hw hcl HSS HSX
 have Hz1:Z (FR D b w (wd.setCell (aD g 2) (iV fa)) S7 (bl4 w.heap.size #[sL (some (aD nb no)) m0 t0,sL (some (aD wb wo)) mw c1,sL r2 m2 t2,sL r3 m3 t3,iV N.uturn] #[sL (some (aD rb ro)) s0 d0,sL (some (aD eb eo)) m1 e1,sL p2 s2 d2,sL p3 s3 d3] g #[iV 0,.bool false,iV fa,iV 0,.bool false,iV 0,sL av n cv])):=HxD.o.set 3 rfl 2 _
 replace HOz:=mh (HxD.o.rowTurn 3 rfl HOxD.o (Chg.set g 2 (iV fa) rfl))
 generalize wd.setCell (aD g 2) (iV fa)=wz1 at *
 clear BG HxD HOxD
 have HSX:Z (∀q S' ra,FR D b w q S' (bl4 w.heap.size #[sL (some (aD nb no)) m0 t0,sL (some (aD wb wo)) mw c1,sL r2 m2 t2,sL r3 m3 t3,iV N.uturn] #[sL (some (aD rb ro)) s0 d0,sL (some (aD eb eo)) m1 e1,sL p2 s2 d2,sL p3 s3 d3] g ra)->(λq=>q.cell? (aD w.heap.size 1)=some (sL (some (aD wb wo)) mw c1)/\q.cell? (aD (w.heap.size+1) 1)=some (sL (some (aD eb eo)) m1 e1)/\q.cell? (aD eb (eo+ib*7+3))=some (iV (yb:Int))/\q.cell? (aD wb (wo+yb*4))=some (iV fb)) q):=λq S' ra h=>⟨(h.at 0 rfl).c 1 rfl,(h.at 1 rfl).c 1 rfl,by have k:=(HEC.o q h.chg ib hib).2.2.2.1;rw[Eyb.o] at k;exact k,by rw[Hfb.o];exact HWC.o q h.chg yb hyb⟩
 go_upto_region 33 with fail
 have HxD:=mh (Hz1.o.next (show Nx wz1 wz1.drew from(Below.refl _ _).drew))
 have HOxD:=mh (HOz.o.next (show Nx wz1 wz1.drew from(Below.refl _ _).drew))
 have HSS:=mh (HSX.o _ _ _ HxD.o)
 refine(wpIn_wide (n:=9)).1 ?_
 refine Qb (c:=12) (S:=λq=>q.cell? (aD w.heap.size 1)=some (sL (some (aD wb wo)) mw c1)/\q.cell? (aD (w.heap.size+1) 1)=some (sL (some (aD eb eo)) m1 e1)/\q.cell? (aD eb (eo+ib*7+3))=some (iV (yb:Int))/\q.cell? (aD wb (wo+yb*4))=some (iV fb)) hmx (by kernel_rfl) (λhw hcl=>?_)
 generalize wz1.drew=wd at *
 refine tq (i:=0) (v:=.pointer (some (aD w.heap.size 1))) (λhcl=>?_)
 refine tq (i:=1) (v:=sL (some (aD wb wo)) mw c1) (λhcl=>?_)
 refine tq (i:=2) (v:=.pointer (some (aD (w.heap.size+1) 1))) (λhcl=>?_)
 refine tq (i:=3) (v:=sL (some (aD eb eo)) m1 e1) (λhcl=>?_)
 refine tq (i:=4) (v:=iV (ib:Int)) (λhcl=>?_)
 refine tq (i:=5) (v:=.pointer (some (aD eb (eo+ib*7)))) (λhcl=>?_)
 refine tq (i:=6) (v:=.pointer (some (aD eb (eo+ib*7+3)))) (λhcl=>?_)
 refine tq (i:=7) (v:=iV (yb:Int)) (λhcl=>?_)
 refine tq (i:=8) (v:=.pointer (some (aD wb (wo+yb*4)))) (λhcl=>?_)
 refine tq (i:=9) (v:=.pointer (some (aD wb (wo+yb*4)))) (λhcl=>?_)
 refine tq (i:=10) (v:=iV fb) (λhcl=>?_)
 refine tq (i:=11) (v:=.pointer (some (aD g 3))) (λhcl=>?_)
 have BG:BT wd g #[iV 0,.bool false,iV fa,iV 0,.bool false,iV 0,sL av n cv] 89:=HxD.o.at 3 rfl
 have x6:=BG.c 3 rfl
 have fz6:=BG.blk.frozen 3
 refine Qh (i:=12) (by kernel_rfl) (wpOpIn_step rfl (λK hK=>?_))
 go_simp
 refine hK _ _ ⟨oL (by decide),?_⟩
 clear hK K
 refine Ql (by kernel_rfl) ?_ _
 clear x6 fz6 hw hcl HSS HSX
 have Hz2:Z (FR D b w (wd.setCell (aD g 3) (iV fb)) S7 (bl4 w.heap.size #[sL (some (aD nb no)) m0 t0,sL (some (aD wb wo)) mw c1,sL r2 m2 t2,sL r3 m3 t3,iV N.uturn] #[sL (some (aD rb ro)) s0 d0,sL (some (aD eb eo)) m1 e1,sL p2 s2 d2,sL p3 s3 d3] g #[iV 0,.bool false,iV fa,iV fb,.bool false,iV 0,sL av n cv])):=HxD.o.set 3 rfl 3 _
 replace HOz:=mh (HxD.o.rowTurn 3 rfl HOxD.o (Chg.set g 3 (iV fb) rfl))
 generalize wd.setCell (aD g 3) (iV fb)=wz2 at *
 clear BG HxD HOxD
 have BG:BT wz2 g #[iV 0,.bool false,iV fa,iV fb,.bool false,iV 0,sL av n cv] 89:=Hz2.o.at 3 rfl
 have yy0:=BG.c 0 rfl
 have yy1:=BG.c 1 rfl
 have yy2:=BG.c 2 rfl
 have yy3:=BG.c 3 rfl
 have yy4:=BG.c 4 rfl
 have yy5:=BG.c 5 rfl
 have yy6:=BG.c 6 rfl
 clear BG
 have BR:BT wz2 (w.heap.size+2) #[iV 0,.bool false,iV 0,iV 0,.bool false,iV 0,sN] 89:=Hz2.o.at 2 rfl
 have x0:=BR.c 0 rfl
 have fz0:=BR.blk.frozen 0
 have x1:=BR.c 1 rfl
 have fz1:=BR.blk.frozen 1
 have x2:=BR.c 2 rfl
 have fz2:=BR.blk.frozen 2
 have x3:=BR.c 3 rfl
 have fz3:=BR.blk.frozen 3
 have x4:=BR.c 4 rfl
 have fz4:=BR.blk.frozen 4
 have x5:=BR.c 5 rfl
 have fz5:=BR.blk.frozen 5
 have x6:=BR.c 6 rfl
 have fz6:=BR.blk.frozen 6
 have BS:=Km (a0:=iV 0) (a1:=.bool false) (a2:=iV fa) (a3:=iV fb) (a4:=.bool false) (a5:=iV 0) (a6:=sL av n cv) BR
 have P0:Z (_=some (iV 0)):=BS.c 0 rfl
 have P1:Z (_=some (Value.bool false)):=BS.c 1 rfl
 have P2:Z (_=some (iV fa)):=BS.c 2 rfl
 have P3:Z (_=some (iV fb)):=BS.c 3 rfl
 have P4:Z (_=some (Value.bool false)):=BS.c 4 rfl
 have P5:Z (_=some (iV 0)):=BS.c 5 rfl
 have P6:Z (_=some (sL av n cv)):=BS.c 6 rfl
 have HCF:Z (Chg (λx=>x=w.heap.size+2) wz2 (((((((wz2.setCell (aD (w.heap.size+2) 0) (iV 0)).setCell (aD (w.heap.size+2) 1) (.bool false)).setCell (aD (w.heap.size+2) 2) (iV fa)).setCell (aD (w.heap.size+2) 3) (iV fb)).setCell (aD (w.heap.size+2) 4) (.bool false)).setCell (aD (w.heap.size+2) 5) (iV 0)).setCell (aD (w.heap.size+2) 6) (sL av n cv))):=Ky
 have HBS:=mh BS
 clear BS BR
 go_wp2
 generalize hWF:(((((((wz2.setCell (aD (w.heap.size+2) 0) (iV 0)).setCell (aD (w.heap.size+2) 1) (.bool false)).setCell (aD (w.heap.size+2) 2) (iV fa)).setCell (aD (w.heap.size+2) 3) (iV fb)).setCell (aD (w.heap.size+2) 4) (.bool false)).setCell (aD (w.heap.size+2) 5) (iV 0)).setCell (aD (w.heap.size+2) 6) (sL av n cv))=wF at P0 P1 P2 P3 P4 P5 P6 HBS HCF ⊢
 have p0:=P0.o
 have p1:=P1.o
 have p2:=P2.o
 have p3:=P3.o
 have p4:=P4.o
 have p5:=P5.o
 have p6:=P6.o
 refine bodyPost_ret (v:=.agg #[iV 0,.bool false,iV fa,iV fb,.bool false,iV 0,sL av n cv]) (by simp[results,results54,go_sem,p0,p1,p2,p3,p4,p5,p6]) rfl ?_
 have hF:=Hz2.o.turn 2 rfl HCF.o HBS.o
 have hR:=Hz2.o.rowTurn 2 rfl HOz.o HCF.o
 rw[HDR.o,HDS.o]
 exact⟨_,rfl,hR,hF.src,hF.chg⟩
theorem Ks (B D b:Nat)(v0 v1 v2 v3 q0 q1 q2 q3:Value)(N:Nt)(R:Rd)(S:Src)(w:World)(hN:U0 B w v0 v1 v2 v3 N)(hR:Vy B w q0 q1 q2 q3 R)(hB:b<B)(h0:0<N.nodes.length)(hw0:0<N.ways.length)(hl0:N.nodes.length<=1000000)(hl1:N.ways.length<=1000000)(hS:Jj D w b S)(hok:SOk S)(hI:Q4t N R) :
  Calls prog 54 #[.agg #[v0,v1,v2,v3,iV N.uturn],.agg #[q0,q1,q2,q3],pT b] w λe w'=>∃va,e=.returned (.agg #[iV (drR N R S).id,.bool (drR N R S).only,iV (drR N R S).frm,iV (drR N R S).to,.bool (drR N R S).via,iV (drR N R S).node,va])/\Q5 w.heap.size w' va (drR N R S).ways/\Jj D w' b (drS N R S)/\Chg (Sx1 b) w w':=by
 by_cases hE:0<R.edges.length
 ·by_cases h6:nv S 10<6
  ·exact Ka B D b v0 v1 v2 v3 q0 q1 q2 q3 N R S w hN hR hB h0 hw0 hl0 hl1 hS hok hE hI h6
  ·exact Pz B D b v0 v1 v2 v3 q0 q1 q2 q3 N R S w hN hR hB h0 hw0 hl0 hl1 hS hok hE hI h6
 ·exact K7 B D b v0 v1 v2 v3 q0 q1 q2 q3 N R S w hN hR hB h0 hw0 hl0 hl1 hS hok (by omega)
def nW (N:Nt)(rs:List Rl):Nt:=⟨N.nodes,N.ways,rs,N.turns,N.uturn⟩
structure Kc where
 S:Src
 id:Int
 rels:List Rl
def El (N:Nt)(R:Rd)(x:Kc):Src:=ns (drS (nW N x.rels) R x.S) 4
def rcY (N:Nt)(R:Rd)(x:Kc):Rl:=⟨0,decide (nv (drS (nW N x.rels) R x.S) 4=0),(drR (nW N x.rels) R x.S).frm,(drR (nW N x.rels) R x.S).to,(drR (nW N x.rels) R x.S).via,(drR (nW N x.rels) R x.S).node,(drR (nW N x.rels) R x.S).ways⟩
def rcP (x:Kc)(S3:Src):Rl:=rat x.rels (nv S3 x.rels.length).toNat
def rcC (x:Kc)(S3:Src):Rl:=⟨0,if nv (ns S3 x.rels.length) 3=0 then !(rcP x S3).only else (rcP x S3).only,(rcP x S3).frm,(rcP x S3).to,(rcP x S3).via,(rcP x S3).node,(rcP x S3).ways⟩
def rcB (N:Nt)(R:Rd)(x:Kc):Bool:=decide (0<x.rels.length)&&decide (nv (El N R x) 10=0)
def Q1u (N:Nt)(R:Rd)(x:Kc):Src:=if rcB N R x then ns (ns (ns (El N R x) 10) x.rels.length) 3 else if 0<x.rels.length then ns (El N R x) 10 else El N R x
def rcZ (N:Nt)(R:Rd)(x:Kc):Rl:=if rcB N R x then rcC x (ns (El N R x) 10) else rcY N R x
def Q5h (N:Nt)(R:Rd)(x:Kc):Kc:=⟨ns (Q1u N R x) 2,x.id+(1+nv (Q1u N R x) 2),x.rels++[⟨x.id,(rcZ N R x).only,(rcZ N R x).frm,(rcZ N R x).to,(rcZ N R x).via,(rcZ N R x).node,(rcZ N R x).ways⟩]⟩
def Xk (N:Nt)(R:Rd)(x:Kc):Nat->Kc
 |0=>x
 |k+1=>Q5h N R (Xk N R x k)
def riN (S:Src):Nt:=Qa S
def riR (S:Src):Rd:=V4 (Qa S)
def Aw (S:Src):Src:=ns (ns (dbS S) (2+(dbS S).size)) 16
def Ic (S:Src):Int:=if nv (ns (dbS S) (2+(dbS S).size)) 16=0 then 0 else 1+nv (dbS S) (2+(dbS S).size)
def riX (S:Src):Kc:=Xk (riN S) (riR S) ⟨ns (Aw S) 3,nv (Aw S) 3,[]⟩ (Ic S).toNat
def Yk (S:Src):Nt:=if (Qa S).ways.length=0 then Qa S else nW (Qa S) (riX S).rels
def riS (S:Src):Src:=if (Qa S).ways.length=0 then dbS S else (riX S).S
theorem Q78 {R:Rd}{x:Kc}(h:SOk x.S):SOk (Q1u N R x)/\(Q1u N R x).size=x.S.size:=by
 have h1:=Q69 (N:=nW N x.rels) (R:=R) h
 have h2:SOk (El N R x)/\(El N R x).size=x.S.size:=⟨Qf h1.1 _,(Qs _ _).trans h1.2⟩
 unfold Q1u
 split
 ·exact⟨Qf (Qf (Qf h2.1 _) _) _,by rw[Qs,Qs,Qs,h2.2]⟩
 ·split
  ·exact⟨Qf h2.1 _,by rw[Qs,h2.2]⟩
  ·exact h2
structure Q9w (k:Nat)(s:Int)(x:Kc):Prop where
 ok:SOk x.S
 size:x.S.size=s
 id:0<=x.id/\x.id<=3+2*k
 len:x.rels.length=k
 wl:∀r∈x.rels,r.ways.length<=4
theorem Q1t {N:Nt}{R:Rd}{x:Kc}{s:Int}(h:Q9w 0 s x):∀k,Q9w k s (Xk N R x k)
 |0=>h
 |k+1=>by
  have q:=Q1t (N:=N) (R:=R) h k
  have h5:=Q78 (N:=N) (R:=R) q.ok
  have v:=Qv h5.1 2
  have e:Xk N R x (k+1)=Q5h N R (Xk N R x k):=rfl
  rw[e]
  refine⟨(show SOk (ns (Q1u N R (Xk N R x k)) 2) from Qf h5.1 _),(show(ns (Q1u N R (Xk N R x k)) 2).size=s from(Qs _ _).trans (h5.2.trans q.size)),?_,?_,λr hr=>?_⟩
  ·show 0<=(Xk N R x k).id+(1+_)/\(Xk N R x k).id+(1+_)<=_
   have:=q.id
   have:=v.2 (by omega)
   omega
  ·show((Xk N R x k).rels++[_]).length=_
   rw[zA,q.len];rfl
  ·rcases List.mem_append.1 hr with g|g
   ·exact q.wl r g
   ·have e1:=List.mem_singleton.1 g
    rw[e1]
    show(rcZ N R (Xk N R x k)).ways.length<=4
    unfold rcZ
    split
    ·rename_i hb
     have hb1:0<(Xk N R x k).rels.length:=by
      unfold rcB at hb
      rw[zG,decide_eq_true_eq] at hb
      exact hb.1
     have hi:(nv (ns (El N R (Xk N R x k)) 10) (Xk N R x k).rels.length).toNat<(Xk N R x k).rels.length:=by
      have h2:SOk (El N R (Xk N R x k)):=Qf (Q69 q.ok).1 _
      have v2:=Qv (Qf h2 10) (Xk N R x k).rels.length
      have:=v2.2 (by omega)
      omega
     show(rcP (Xk N R x k) (ns (El N R (Xk N R x k)) 10)).ways.length<=4
     unfold rcP
     rw[Qan hi]
     exact q.wl _ (yH hi)
    ·exact Q4g q.ok
theorem Jw.base {B':Nat}(h:Jw B w v es)(hB:B'<=B):Jw B' w v es:=Jn.mono h hB lR λb off hb hs i hi hc=>hc
theorem Vy.base {B':Nat}{v0 v1 v2 v3:Value}{R:Rd}(h:Vy B w v0 v1 v2 v3 R)(hB:B'<=B):Vy B' w v0 v1 v2 v3 R:=⟨h.1.base hB,h.2.1.base hB,h.2.2.1.base hB,h.2.2.2.base hB⟩
theorem Chg.keepsU (h:Chg (λx=>x<C) w w'):Ym C w w':=
 ⟨h.size,λg hg hs o=>by
  have hb:=h.block g hs (show ¬g<C by omega)
  unfold World.cell?
  simp only[hb]⟩
theorem FR.less {D:Nat}{w0:World}{bl:List (Nat×Array Value×Nat)}(h:FR D b w0 w S bl)(n:Nat):FR D b w0 w S (bl.take n):=
 ⟨h.chg,h.src,λp hp=>h.bx p (List.mem_of_mem_take hp),λp hp=>h.ty p (List.mem_of_mem_take hp),by rw[List.map_take];exact h.nd.sublist (List.take_sublist _ _)⟩
theorem FR.growX {D:Nat}{w0:World}{bl:List (Nat×Array Value×Nat)}{T:Nat->Prop}(h:FR D b w0 w S bl)(hc:Chg T w w')(hn:∀p∈bl,¬T p.1)(hs:∀x,T x->∃cs t,BT w x cs t/\t≠44/\t≠5)(hy:∀x,T x->w0.heap.size<=x):FR D b w0 w' S bl:=
 ⟨h.chg.young hc (λx hx hl=>by have:=hy x hx;omega),h.src.chg hc hs,λp hp=>⟨(h.bx p hp).1.chg hc (hn p hp),(h.bx p hp).2⟩,h.ty,h.nd⟩
section
variable {C:Nat}{w w':World}{v0 v1 v2 v3:Value}{N:Nt}{vn vw vr:Nat->Value}
theorem ONt.turnBox {t:Nat}(h:ONt C w v0 v1 v2 v3 N vn vw vr)(hb:BT w g cs t)(ht:t≠2/\t≠93/\t≠137)(hn:t=89->v2.ownBlock≠some g)(hc:Chg (λx=>x=g) w w'):ONt C w' v0 v1 v2 v3 N vn vw vr:=by
 have key:∀{u sz n:Nat}{v:Value}{xs:List Value},w.ownsRow C u sz v n xs->t≠u->w'.ownsRow C u sz v n xs:=λhr hu=>J5 hr hc (λx hx e=>by
  have e':=e
  subst e'
  exact hb.neRow hr hu hx.symm)
 refine⟨key h.nodes ht.1,key h.ways ht.2.1,λi hi=>key (h.wn i hi) ht.1,λi hi=>key (h.ww i hi) ht.1,?_,λi hi=>key (h.rw_ i hi) ht.1,key h.turns ht.2.2,h.apart⟩
 by_cases e:t=89
 ·exact J5 h.rels hc (λx hx e'=>by
   have e2:=e'
   subst e2
   exact hn e hx)
 ·exact key h.rels e
theorem A2 (h:ONt C w v0 v1 v2 v3 N vn vw vr):∀u∈W1 N v0 vn vw vr,∀g,u.ownBlock=some g->g<w.heap.size:=λu hu g hg=>by
 unfold W1 at hu
 rcases List.mem_append.1 hu with q|q
 ·rcases List.mem_cons.1 q with rfl|q
  ·exact(Q7 h.nodes g hg).2
  ·obtain⟨i,hi,rfl|rfl⟩:=Q1v q
   ·exact(Q7 (h.wn i hi) g hg).2
   ·exact(Q7 (h.ww i hi) g hg).2
 ·obtain⟨i,hi,rfl⟩:=List.mem_map.1 q
  exact(Q7 (h.rw_ i (List.mem_range.1 hi)) g hg).2
theorem Q5z (a:Value)(x:Rl):W1 (nW N (N.rels++[x])) v0 vn vw (upd vr N.rels.length a)=W1 N v0 vn vw vr++[a]:=by
 unfold W1 nW
 simp only[zA,List.length_singleton]
 rw[List.range_succ,yF,zZ]
 congr 1
 congr 1
 ·refine List.map_congr_left λi hi=>?_
  have:=List.mem_range.1 hi
  rw[Jq _ _ (by omega)]
 ·simp[Vp]
theorem ONt.addRel (h:ONt C w v0 v1 v2 v3 N vn vw vr){z:Nat}(hz:∀u∈W1 N v0 vn vw vr,∀g,u.ownBlock=some g->g<z){va:Value}{x:Rl}(hr:w'.ownsRow C 89 7 v (N.rels.length+1) (Fp N.rels vr++Qak x va))(hc:Chg (λy=>some y=v2.ownBlock) w w')(ha:Q5 z w va x.ways)(hCz:C<=z) :
  ONt C w' v0 v1 v v3 (nW N (N.rels++[x])) vn vw (upd vr N.rels.length va):=by
 have far:∀{u:Value}{zs:List Int},Q5 C w u zs->Q5 C w' u zs:=λho=>Xe ho h.rels (by decide) hc
 have hl:(N.rels++[x]).length=N.rels.length+1:=by simp
 refine⟨far h.nodes,Xe h.ways h.rels (by decide) hc,λi hi=>far (h.wn i hi),λi hi=>far (h.ww i hi),?_,λi hi=>?_,Xe h.turns h.rels (by decide) hc,?_⟩
 ·show w'.ownsRow C _ 7 v (N.rels++[x]).length (Fp (N.rels++[x]) (upd vr N.rels.length va))
  rw[hl,Q8t]
  exact hr
 ·replace hi:i<(N.rels++[x]).length:=hi
  show Q5 C w' (upd vr N.rels.length va i) (rat (N.rels++[x]) i).ways
  by_cases e:i=N.rels.length
  ·subst e
   rw[Vp,Q3g]
   exact far (ha.base hCz)
  ·rw[Jq _ _ e,Q3f (by omega)]
   exact far (h.rw_ i (by omega))
 ·rw[Q5z]
  refine List.pairwise_append.2 ⟨h.apart,List.pairwise_singleton _ _,λu hu t ht g hg e=>?_⟩
  have e1:t=va:=by simpa using ht
  subst e1
  have h1:=hz u hu g hg
  have h2:=(Q7 ha g e).1
  omega
end
theorem Q6s (ws:List Wy):∀k,(∀i,i<k->(wat ws i).weights.length<=3)->Wx ws k<=3*k
 |0,_=>lR
 |k+1,h=>by
  have h1:=Q6s ws k (λi hi=>h i (by omega))
  have h2:=h k (by omega)
  show Wx ws k+(wat ws k).weights.length<=_
  omega
theorem Q4i (h:SOk S):SOk (dbS S)/\(2<=(Qa S).nodes.length/\(Qa S).nodes.length<=8)/\(Qa S).ways.length<=12/\∀i,i<(Qa S).ways.length->(wat (Qa S).ways i).weights.length<=3:=by
 have hz:=h.size
 have h1:=Qf h (1+S.size/2)
 have v1:=Qv h (1+S.size/2)
 have v2:=Qv h1 3
 have hc:2<=Xb S/\Xb S<=6:=by
  unfold Xb
  have:=v1.2 (by omega)
  omega
 have hn:=Q20 (x:=⟨ns (ns S (1+S.size/2)) 3,nv (ns S (1+S.size/2)) 3,[]⟩) (show SOk (ns (ns S (1+S.size/2)) 3) from Qf h1 3) (show 0<=nv (ns S (1+S.size/2)) 3/\nv (ns S (1+S.size/2)) 3<=3 by have:=v2.2 (by omega);omega) rfl (Xb S).toNat
 have hnd:SOk (Tr S).S/\(Tr S).l.length=(Xb S).toNat:=⟨hn.1,hn.2.2.1⟩
 have hl:2<=(Qg S).length/\(Qg S).length<=8:=by
  unfold Qg
  split
  ·rw[zA,hnd.2]
   simp only[List.length_singleton]
   omega
  ·rw[hnd.2]
   omega
 have hN:1<=dbN S:=by
  unfold dbN
  split<;>omega
 have h2:SOk (Yi S):=Qf hnd.1 _
 have v3:=Qv h2 (2+S.size)
 have hw:0<=Y8 S/\Y8 S<=12:=by
  unfold Y8
  have:=v3.2 (by omega)
  split<;>omega
 have h3:SOk (ns (ns (ns (Yi S) (2+S.size)) 24) 4):=Qf (Qf (Qf h2 _) _) _
 have v4:=Qv (Qf (Qf h2 (2+S.size)) 24) 4
 have hy:=Q1d (count:=dbN S) (ways:=Y8 S) (ids:=Qg S) hN (x:=⟨ns (ns (ns (Yi S) (2+S.size)) 24) 4,nv (ns (ns (Yi S) (2+S.size)) 24) 4,[]⟩) (s:=(ns (ns (ns (Yi S) (2+S.size)) 24) 4).size) ⟨h3,(show 0<=nv (ns (ns (Yi S) (2+S.size)) 24) 4/\nv (ns (ns (Yi S) (2+S.size)) 24) 4<=4+2*((0:Nat):Int) by have:=v4.2 (by omega);omega),rfl,rfl,λi hi=>absurd hi (zK _)⟩ (Y8 S).toNat
 have hwl:(Qa S).ways.length=(Y8 S).toNat:=hy.len
 have hwy:SOk (Tq S).S:=hy.ok
 refine⟨?_,hl,by omega,λi hi=>(hy.seg i (by rw[<-hwl];exact hi)).1⟩
 refine Q67 ?_
 unfold Wu
 split
 ·exact hwy
 ·exact(Q1l (ws:=(Tq S).ways) (x:=⟨ns (Tq S).S (3+S.size),[]⟩) (show SOk (ns (Tq S).S (3+S.size)) from Qf hwy _) rfl _).1
theorem Q4t.nW {R:Rd}(h:Q4t N R)(rs:List Rl):Q4t (nW N rs) R:=⟨h.len,h.way,h.head,h.trav⟩
end Go.Proofs.YtphiaobccollhaaGreat
