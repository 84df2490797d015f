import Derived.Test.YtmmolhlihhdkcaaGreatDoorBDH
namespace Go.Proofs.YtmmolhlihhdkcaaGreatDoor
open Go.RowKit Go.Sort
set_option linter.unusedVariables false
set_option maxRecDepth 1000000
set_option maxHeartbeats 16000000
theorem Ij {F:Fence}{n:Nat}{P:Program}{ops:Array Oper}{Q:Exit->Act->World->Prop}{md:Region.Mode}{S:World->Prop}{c i j fuel:Nat}{listed:Array Bool}{a:Act}{w:World}(hr:Region.ready md ops listed=[i,j])(hcl:Cl md ops listed)(h1:Cl md ops (listed.setIfInBounds i true)->wpOpIn F n P ops Q i (λa' w'=>(c<=i\/S w')/\Vr F n P md ops Q S c fuel (listed.setIfInBounds i true) a' w') a w)(h2:Cl md ops (listed.setIfInBounds j true)->wpOpIn F n P ops Q j (λa' w'=>(c<=j\/S w')/\Vr F n P md ops Q S c fuel (listed.setIfInBounds j true) a' w') a w):Vr F n P md ops Q S c (fuel+1) listed a w:=
 ⟨λh0=>absurd (hr▸h0) (by simp),λx hx=>by
  rw[hr] at hx
  simp at hx
  rcases hx with rfl|rfl
  ·exact h1 (hcl.step (by rw[hr];simp))
  ·exact h2 (hcl.step (by rw[hr];simp))⟩
theorem tk {n:Nat}{P:Program}{ops:Array Oper}{Q:Exit->Act->World->Prop}{md:Region.Mode}{S:World->Prop}{c i fuel:Nat}{oi:Oper}{v:Value}{listed:Array Bool}{a:Act}{w:World}(hw:At md ops c)(hcl:Cl md ops listed)(hy:YF P ops S oi v a)(hS:S w)(h:Cl md ops (listed.setIfInBounds i true)->Vr Fence.wide n P md ops Q S c fuel (listed.setIfInBounds i true) (a.put oi.dst v) w)
  (hic:i<c:=by decide) (hi:ops[i]?=some oi:=by rfl) (hs:Region.noSelect ops=true:=by kernel_rfl) (hf:Region.free md ops listed i=true:=by kernel_rfl) (hr:(Region.ready md ops listed).contains i=true:=by kernel_rfl) (hQ:∀c a w,Q (.panic c) (a.put oi.dst v) w->Q (.panic c) a w:=by exact λ_ _ _ h=>h):Vr Fence.wide n P md ops Q S c (fuel+1) listed a w:=
 Qo hw hic hcl (Qh rfl) hi hs hf hr hQ hy hS h
theorem Chg.cellB {b:Nat}{w w':World}(h:Chg (Sx1 b) w w'){g o:Nat}(hn:g≠b){v:Value}(hc:w.cell? ⟨g,o,none⟩=some v):w'.cell? ⟨g,o,none⟩=some v:=by
 have hb:=h.block g (Zc hc) hn
 unfold World.cell? at hc ⊢
 simp only[hb]
 exact hc
def Tq (ws:List Wy)(i:Int):Int:=(wat ws i.toNat).id
structure Q4f where
 S:Src
 l:List Int
def Q3f (ws:List Wy)(x:Q4f):Q4f:=⟨ns x.S ws.length,x.l++[Tq ws (nv x.S ws.length)]⟩
def Xp (ws:List Wy)(x:Q4f):Nat->Q4f
 |0=>x
 |k+1=>Q3f ws (Xp ws x k)
def Zk (N:Nt)(S:Src):Src:=ns (ns S N.ways.length) N.ways.length
def A8 (N:Nt)(S:Src):Int:=Tq N.ways (nv S N.ways.length)
def Q70 (N:Nt)(S:Src):Int:=Tq N.ways (nv (ns S N.ways.length) N.ways.length)
def K5 (N:Nt)(S:Src):Q4f:=Xp N.ways ⟨ns (ns (Zk N S) 2) 4,[]⟩ (1+nv (ns (Zk N S) 2) 4).toNat
def Jq (N:Nt)(S:Src):Rl:=if nv (Zk N S) 2=0 then ⟨0,false,A8 N S,Q70 N S,true,iat N.nodes (nv (ns (Zk N S) 2) N.nodes.length).toNat,[]⟩ else ⟨0,false,A8 N S,Q70 N S,false,0,(K5 N S).l⟩
def Xr (N:Nt)(S:Src):Src:=if nv (Zk N S) 2=0 then ns (ns (Zk N S) 2) N.nodes.length else (K5 N S).S
theorem Ga {ws:List Wy}{x:Q4f}(h:SOk x.S)(hl:x.l=[]):∀k,SOk (Xp ws x k).S/\(Xp ws x k).l.length=k/\(Xp ws x k).S.size=x.S.size
 |0=>⟨h,by simp[Xp,hl],rfl⟩
 |k+1=>by
  obtain⟨h1,h2,h3⟩:=Ga (ws:=ws) h hl k
  refine⟨show SOk (ns (Xp ws x k).S ws.length) from Qj h1 _,?_,?_⟩
  ·show((Xp ws x k).l++[_]).length=_
   rw[List.length_append,h2];rfl
  ·show(ns _ _).size=_
   rw[Qs,h3]
theorem Q1i {N:Nt}{S:Src}(h:SOk S):SOk (Xr N S)/\(Xr N S).size=S.size:=by
 unfold Xr
 split
 ·exact⟨Qj (Qj (Qj (Qj h _) _) _) _,by rw[Qs,Qs];unfold Zk;rw[Qs,Qs]⟩
 ·have k:=Ga (ws:=N.ways) (x:=⟨ns (ns (Zk N S) 2) 4,[]⟩) (show SOk (ns (ns (Zk N S) 2) 4) from Qj (Qj (Qj (Qj h _) _) _) _) rfl (1+nv (ns (Zk N S) 2) 4).toNat
  refine⟨k.1,k.2.2.trans ?_⟩
  show(ns (ns (Zk N S) 2) 4).size=_
  rw[Qs,Qs];unfold Zk;rw[Qs,Qs]
structure RM0 (D b:Nat)(w0 w:World)(S:Src)(nt:Array Value):Prop where
 chg:Chg (Sx1 b) w0 w
 src:J8 D w b S
 box:BT w w0.heap.size nt 28
 res:BT w (w0.heap.size+1) #[.int .i64 0,.bool false,.int .i64 0,.int .i64 0,.bool false,.int .i64 0,.slice none 0 0] 48
structure RMs (D b:Nat)(w0 w:World)(S:Src)(nt:Array Value)(g:Nat)(fr tt nd:Int)(via:Bool)(va:Value)(ws:List Int):Prop extends RM0 D b w0 w S nt where
 rel:BT w g #[.int .i64 0,.bool false,.int .i64 fr,.int .i64 tt,.bool via,.int .i64 nd,va] 48
 far:w0.heap.size+2<=g
 row:Qb w0.heap.size w va ws
section
variable {D b g:Nat}{w0 w w':World}{S S':Src}{nt:Array Value}{fr tt nd:Int}{via:Bool}{va:Value}{ws:List Int}
theorem RM0.next (h:RM0 D b w0 w S nt)(k:Nx w w'):RM0 D b w0 w' S nt:=⟨h.chg.trans (Chg.nx k),h.src.next k,h.box.next k,h.res.next k⟩
theorem RMs.next (h:RMs D b w0 w S nt g fr tt nd via va ws)(k:Nx w w'):RMs D b w0 w' S nt g fr tt nd via va ws:=⟨h.toRM0.next k,h.rel.next k,h.far,h.row.next k⟩
theorem RM0.drawn (h:RM0 D b w0 w S nt)(hS:J8 D w' b S')(k:Chg (Sx1 b) w w'):RM0 D b w0 w' S' nt:=by
 obtain⟨v,hb,_⟩:=h.src
 exact⟨h.chg.trans k,hS,h.box.chg k (h.box.ne hb (by decide)),h.res.chg k (h.res.ne hb (by decide))⟩
theorem RMs.drawn (h:RMs D b w0 w S nt g fr tt nd via va ws)(hS:J8 D w' b S')(k:Chg (Sx1 b) w w'):RMs D b w0 w' S' nt g fr tt nd via va ws:=by
 obtain⟨v,hb,_⟩:=h.src
 exact⟨h.toRM0.drawn hS k,h.rel.chg k (h.rel.ne hb (by decide)),h.far,Jm h.row k (λx hx e=>by
  have e':x=b:=e
  subst e'
  exact hb.neRow h.row (by decide) hx.symm)⟩
theorem RM0.al (h:RM0 D b w0 w S nt):RMs D b w0 (w.alloc (.cells #[.int .i64 0,.bool false,.int .i64 0,.int .i64 0,.bool false,.int .i64 0,.slice none 0 0] 48)) S nt w.heap.size 0 0 0 false (.slice none 0 0) []:=
 ⟨h.next (Qd _ _),BT.new _ _ _ _ rfl,by have:=h.res.lt;omega,⟨rfl,Or.inl ⟨rfl,rfl⟩⟩⟩
theorem RM0.turn {cs:Array Value}(h:RM0 D b w0 w S nt)(hg:BT w g cs 48)(hf:w0.heap.size+2<=g)(k:Chg (λx=>x=g) w w'):RM0 D b w0 w' S nt:=by
 refine⟨h.chg.young k (λx hx hl=>by have hx':x=g:=hx;omega),h.src.chg k (λx hx=>?_),h.box.chg k (λe=>by have e':w0.heap.size=g:=e;omega),h.res.chg k (λe=>by have e':w0.heap.size+1=g:=e;omega)⟩
 have hx':x=g:=hx
 subst hx'
 exact⟨_,_,hg,by decide,by decide⟩
theorem Gb {cs:Array Value}{C:Nat}(ho:Qb C w va ws)(hg:BT w g cs 48)(k:Chg (λx=>x=g) w w'):Qb C w' va ws:=
 Jm ho k (λx hx e=>by
  have e':x=g:=e
  subst e'
  exact hg.neRow ho (by decide) hx.symm)
theorem RMs.setVia (h:RMs D b w0 w S nt g fr tt nd via va ws):RMs D b w0 (w.setCell ⟨g,4,none⟩ (.bool true)) S nt g fr tt nd true va ws:=
 ⟨h.toRM0.turn h.rel h.far (Chg.set _ _ _ rfl),h.rel.set 4 _,h.far,Gb h.row h.rel (Chg.set _ _ _ rfl)⟩
theorem RMs.setNode (h:RMs D b w0 w S nt g fr tt nd via va ws)(z:Int):RMs D b w0 (w.setCell ⟨g,5,none⟩ (.int .i64 z)) S nt g fr tt z via va ws:=
 ⟨h.toRM0.turn h.rel h.far (Chg.set _ _ _ rfl),h.rel.set 5 _,h.far,Gb h.row h.rel (Chg.set _ _ _ rfl)⟩
theorem RMs.addWay (h:RMs D b w0 w S nt g fr tt nd via va ws){v:Value}{z:Int}(hr:Qb w0.heap.size w' v (ws++[z]))(hc:Chg (λx=>some x=va.ownBlock) w w'):RMs D b w0 (w'.setCell ⟨g,6,none⟩ v) S nt g fr tt nd via v (ws++[z]):=by
 have k0:RM0 D b w0 w' S nt:=⟨h.chg.young hc (λx hx hl=>by have:=(Ql h.row x hx.symm).1;omega),h.src.row h.row (by decide) (by decide) hc,h.box.row h.row (by decide) hc,h.res.row h.row (by decide) hc⟩
 have k1:=h.rel.row h.row (by decide) hc
 exact⟨k0.turn k1 h.far (Chg.set _ _ _ rfl),k1.set 6 _,h.far,Gb hr k1 (Chg.set _ _ _ rfl)⟩
theorem RMs.out (h:RMs D b w0 w S nt g fr tt nd via va ws)(k:Chg (λx=>x=w0.heap.size+1) w w'):Qb w0.heap.size w' va ws/\J8 D w' b S/\Chg (Sx1 b) w0 w':=by
 refine⟨Gb h.row h.res k,h.src.chg k (λx hx=>?_),h.chg.young k (λx hx hl=>by have hx':x=w0.heap.size+1:=hx;omega)⟩
 have hx':x=w0.heap.size+1:=hx
 subst hx'
 exact⟨_,_,h.res,by decide,by decide⟩
theorem Pw {w:World}{g t:Nat}{a0 a1 a2 a3 a4 a5 a6 c0 c1 c2 c3 c4 c5 c6:Value}(h:BT w g #[c0,c1,c2,c3,c4,c5,c6] t):BT (((((((w.setCell ⟨g,0,none⟩ a0).setCell ⟨g,1,none⟩ a1).setCell ⟨g,2,none⟩ a2).setCell ⟨g,3,none⟩ a3).setCell ⟨g,4,none⟩ a4).setCell ⟨g,5,none⟩ a5).setCell ⟨g,6,none⟩ a6) g #[a0,a1,a2,a3,a4,a5,a6] t:=by
 have k0:BT (w.setCell ⟨g,0,none⟩ a0) g #[a0,c1,c2,c3,c4,c5,c6] t:=h.set 0 a0
 have k1:BT ((w.setCell ⟨g,0,none⟩ a0).setCell ⟨g,1,none⟩ a1) g #[a0,a1,c2,c3,c4,c5,c6] t:=k0.set 1 a1
 have k2:BT (((w.setCell ⟨g,0,none⟩ a0).setCell ⟨g,1,none⟩ a1).setCell ⟨g,2,none⟩ a2) g #[a0,a1,a2,c3,c4,c5,c6] t:=k1.set 2 a2
 have k3:BT ((((w.setCell ⟨g,0,none⟩ a0).setCell ⟨g,1,none⟩ a1).setCell ⟨g,2,none⟩ a2).setCell ⟨g,3,none⟩ a3) g #[a0,a1,a2,a3,c4,c5,c6] t:=k2.set 3 a3
 have k4:BT (((((w.setCell ⟨g,0,none⟩ a0).setCell ⟨g,1,none⟩ a1).setCell ⟨g,2,none⟩ a2).setCell ⟨g,3,none⟩ a3).setCell ⟨g,4,none⟩ a4) g #[a0,a1,a2,a3,a4,c5,c6] t:=k3.set 4 a4
 have k5:BT ((((((w.setCell ⟨g,0,none⟩ a0).setCell ⟨g,1,none⟩ a1).setCell ⟨g,2,none⟩ a2).setCell ⟨g,3,none⟩ a3).setCell ⟨g,4,none⟩ a4).setCell ⟨g,5,none⟩ a5) g #[a0,a1,a2,a3,a4,a5,c6] t:=k4.set 5 a5
 have k6:BT (((((((w.setCell ⟨g,0,none⟩ a0).setCell ⟨g,1,none⟩ a1).setCell ⟨g,2,none⟩ a2).setCell ⟨g,3,none⟩ a3).setCell ⟨g,4,none⟩ a4).setCell ⟨g,5,none⟩ a5).setCell ⟨g,6,none⟩ a6) g #[a0,a1,a2,a3,a4,a5,a6] t:=k5.set 6 a6
 exact k6
theorem Kj {w:World}{g:Nat}{a0 a1 a2 a3 a4 a5 a6:Value}:Chg (λx=>x=g) w (((((((w.setCell ⟨g,0,none⟩ a0).setCell ⟨g,1,none⟩ a1).setCell ⟨g,2,none⟩ a2).setCell ⟨g,3,none⟩ a3).setCell ⟨g,4,none⟩ a4).setCell ⟨g,5,none⟩ a5).setCell ⟨g,6,none⟩ a6):=by
 have k0:Chg (λx=>x=g) w (w.setCell ⟨g,0,none⟩ a0):=Chg.set g 0 a0 rfl
 have k1:Chg (λx=>x=g) w ((w.setCell ⟨g,0,none⟩ a0).setCell ⟨g,1,none⟩ a1):=k0.trans (Chg.set g 1 a1 rfl)
 have k2:Chg (λx=>x=g) w (((w.setCell ⟨g,0,none⟩ a0).setCell ⟨g,1,none⟩ a1).setCell ⟨g,2,none⟩ a2):=k1.trans (Chg.set g 2 a2 rfl)
 have k3:Chg (λx=>x=g) w ((((w.setCell ⟨g,0,none⟩ a0).setCell ⟨g,1,none⟩ a1).setCell ⟨g,2,none⟩ a2).setCell ⟨g,3,none⟩ a3):=k2.trans (Chg.set g 3 a3 rfl)
 have k4:Chg (λx=>x=g) w (((((w.setCell ⟨g,0,none⟩ a0).setCell ⟨g,1,none⟩ a1).setCell ⟨g,2,none⟩ a2).setCell ⟨g,3,none⟩ a3).setCell ⟨g,4,none⟩ a4):=k3.trans (Chg.set g 4 a4 rfl)
 have k5:Chg (λx=>x=g) w ((((((w.setCell ⟨g,0,none⟩ a0).setCell ⟨g,1,none⟩ a1).setCell ⟨g,2,none⟩ a2).setCell ⟨g,3,none⟩ a3).setCell ⟨g,4,none⟩ a4).setCell ⟨g,5,none⟩ a5):=k4.trans (Chg.set g 5 a5 rfl)
 have k6:Chg (λx=>x=g) w (((((((w.setCell ⟨g,0,none⟩ a0).setCell ⟨g,1,none⟩ a1).setCell ⟨g,2,none⟩ a2).setCell ⟨g,3,none⟩ a3).setCell ⟨g,4,none⟩ a4).setCell ⟨g,5,none⟩ a5).setCell ⟨g,6,none⟩ a6):=k5.trans (Chg.set g 6 a6 rfl)
 exact k6
theorem RMs.fill (h:RMs D b w0 w S nt g 0 0 0 false (.slice none 0 0) [])(f1 f2:Int):RMs D b w0 (((((((w.setCell ⟨g,0,none⟩ (.int .i64 0)).setCell ⟨g,1,none⟩ (.bool false)).setCell ⟨g,2,none⟩ (.int .i64 f1)).setCell ⟨g,3,none⟩ (.int .i64 f2)).setCell ⟨g,4,none⟩ (.bool false)).setCell ⟨g,5,none⟩ (.int .i64 0)).setCell ⟨g,6,none⟩ (.slice none 0 0)) S nt g f1 f2 0 false (.slice none 0 0) []:=
 ⟨h.toRM0.turn h.rel h.far Kj,Pw h.rel,h.far,⟨rfl,Or.inl ⟨rfl,rfl⟩⟩⟩
end
theorem Xl (B D b:Nat)(v0 v1 v2 v3:Value)(u:Int)(N:Nt)(S:Src)(w:World)(hN:Yf B w v0 v1 v2 v3 N)(hB:b<B)(h0:0<N.nodes.length)(hw0:0<N.ways.length)(hl0:N.nodes.length<=1000000)(hl1:N.ways.length<=1000000)(hS:J8 D w b S)(hok:SOk S) :
  Calls Tryz.prog 94 #[.agg #[v0,v1,v2,v3,.int .i64 u],.pointer (some ⟨b,0,none⟩)] w λe w'=>∃va,e=.returned (.agg #[.int .i64 (Jq N S).id,.bool (Jq N S).only,.int .i64 (Jq N S).frm,.int .i64 (Jq N S).to,.bool (Jq N S).via,.int .i64 (Jq N S).node,va])/\Qb w.heap.size w' va (Jq N S).ways/\J8 D w' b (Xr N S)/\Chg (Sx1 b) w w':=by
 have HOK:Hid (SOk S):=hok
 have HS0:Hid (J8 D w b S):=hS
 obtain⟨r0,t0,rfl,_,kn⟩:=hN.1
 obtain⟨r1,c1,rfl,_,kw⟩:=hN.2.1
 obtain⟨r2,t2,rfl,_,_⟩:=hN.2.2.1
 obtain⟨r3,t3,rfl,_,_⟩:=hN.2.2.2
 obtain⟨wb,wo,rfl,hwb,_,hwc⟩:=kw hw0
 obtain⟨nb,no,rfl,hnb,_,hnc⟩:=kn h0
 have HWC:Hid (∀q,Chg (Sx1 b) w q->∀i,i<N.ways.length->q.cell? ⟨wb,wo+i*4,none⟩=some (.int .i64 (wat N.ways i).id)):=λq hq i hi=>by
  obtain⟨_,_,hc,_⟩:=hwc i hi
  exact hq.cellB (by omega) hc
 have HNC:Hid (∀q,Chg (Sx1 b) w q->∀i,i<N.nodes.length->q.cell? ⟨nb,no+i,none⟩=some (.int .i64 (iat N.nodes i))):=λq hq i hi=>hq.cellB (by omega) (hnc i hi)
 have HRF:Hid (A8 N S=Tq N.ways (nv S N.ways.length)):=rfl
 have HRT:Hid (Q70 N S=Tq N.ways (nv (ns S N.ways.length) N.ways.length)):=rfl
 have HR2:Hid (Zk N S=ns (ns S N.ways.length) N.ways.length):=rfl
 clear hwc hnc kn kw hN hS hok
 generalize N.rels.length=m2 at *
 generalize N.turns.length=m3 at *
 generalize hk:N.ways.length=k at *
 have HK:Hid (N.ways.length=k):=hk
 generalize hm:N.nodes.length=m0 at *
 have HM:Hid (N.nodes.length=m0):=hm
 clear hk hm
 have HOK1:Hid (SOk (ns S k)):=Qj HOK.out _
 have HOK2:Hid (SOk (ns (ns S k) k)):=Qj HOK1.out _
 obtain⟨i1,hi1⟩:∃i:Nat,nv S k=i:=⟨(nv S k).toNat,by have:=(Qt HOK.out k).1;omega⟩
 obtain⟨i2,hi2⟩:∃i:Nat,nv (ns S k) k=i:=⟨(nv (ns S k) k).toNat,by have:=(Qt HOK1.out k).1;omega⟩
 have hl1':i1<k:=by have:=(Qt HOK.out k).2 (by omega);omega
 have hl2':i2<k:=by have:=(Qt HOK1.out k).2 (by omega);omega
 have HI1:Hid (nv S k=i1):=hi1
 have HI2:Hid (nv (ns S k) k=i2):=hi2
 have hj1:(i1:Int)<k:=by omega
 have hj2:(i2:Int)<k:=by omega
 obtain⟨f1,hf1⟩:∃f,f=(wat N.ways i1).id:=⟨_,rfl⟩
 obtain⟨f2,hf2⟩:∃f,f=(wat N.ways i2).id:=⟨_,rfl⟩
 have HF1:Hid (A8 N S=f1):=by unfold Hid;rw[HRF.out,HI1.out,hf1];rfl
 have HF2:Hid (Q70 N S=f2):=by unfold Hid;rw[HRT.out,HI2.out,hf2];rfl
 have HSN:Hid (∀q S',RM0 D b w q S' #[.slice (some ⟨nb,no,none⟩) m0 t0,.slice (some ⟨wb,wo,none⟩) k c1,.slice r2 m2 t2,.slice r3 m3 t3,.int .i64 u]->(λq=>q.cell? ⟨w.heap.size,1,none⟩=some (.slice (some ⟨wb,wo,none⟩) k c1)/\q.cell? ⟨wb,wo+i1*4,none⟩=some (.int .i64 f1)/\q.cell? ⟨wb,wo+i2*4,none⟩=some (.int .i64 f2)) q):=λq S' h=>⟨h.box.blk.cell (i:=1) rfl,by rw[hf1];exact HWC.out q h.chg i1 hl1',by rw[hf2];exact HWC.out q h.chg i2 hl2'⟩
 clear hi1 hi2 hf1 hf2 HRF HRT
 go_enter Tryz.func94,Tryz.ntmps94
 go_upto_region 2 with fail
 generalize hWA:(w.alloc (.cells #[.slice (some ⟨nb,no,none⟩) m0 t0,.slice (some ⟨wb,wo,none⟩) k c1,.slice r2 m2 t2,.slice r3 m3 t3,.int .i64 u] 28)).alloc (.cells #[.int .i64 0,.bool false,.int .i64 0,.int .i64 0,.bool false,.int .i64 0,.slice none 0 0] 48)=wA
 have HR0:Hid (RM0 D b w wA S #[.slice (some ⟨nb,no,none⟩) m0 t0,.slice (some ⟨wb,wo,none⟩) k c1,.slice r2 m2 t2,.slice r3 m3 t3,.int .i64 u]):=by
  unfold Hid
  rw[<-hWA]
  exact⟨Chg.nx (G0 _ _ _),HS0.out.next (G0 _ _ _),(BT.new w _ _ _ rfl).alloc _,BT.new _ _ _ _ (by rw[Q7])⟩
 clear hWA
 have HRD:Hid (RM0 D b w wA.drew S #[.slice (some ⟨nb,no,none⟩) m0 t0,.slice (some ⟨wb,wo,none⟩) k c1,.slice r2 m2 t2,.slice r3 m3 t3,.int .i64 u]):=HR0.out.next (show Nx wA wA.drew from(Below.refl _ _).drew)
 have HSS:Hid ((λq=>q.cell? ⟨w.heap.size,1,none⟩=some (.slice (some ⟨wb,wo,none⟩) k c1)/\q.cell? ⟨wb,wo+i1*4,none⟩=some (.int .i64 f1)/\q.cell? ⟨wb,wo+i2*4,none⟩=some (.int .i64 f2)) wA.drew):=HSN.out _ _ HRD.out
 have hmx:Tryz.prog.follows .mixedOrders=true:=by kernel_rfl
 go_cut [6] from 11 to 27 (λs6 wc=>∃g,s6=.pointer (some ⟨g,0,none⟩)/\RMs D b w wc (ns (ns S k) k) #[.slice (some ⟨nb,no,none⟩) m0 t0,.slice (some ⟨wb,wo,none⟩) k c1,.slice r2 m2 t2,.slice r3 m3 t3,.int .i64 u] g f1 f2 0 false (.slice none 0 0) [])
 case first=>
  refine(wpIn_wide (n:=9)).1 ?_
  refine Q9 (c:=18) (S:=λq=>q.cell? ⟨w.heap.size,1,none⟩=some (.slice (some ⟨wb,wo,none⟩) k c1)/\q.cell? ⟨wb,wo+i1*4,none⟩=some (.int .i64 f1)/\q.cell? ⟨wb,wo+i2*4,none⟩=some (.int .i64 f2)) hmx (by kernel_rfl) (λhw hcl=>?_)
  refine tq (i:=0) (v:=.pointer (some ⟨w.heap.size,1,none⟩)) (λhcl=>?_)
  refine tq (i:=1) (v:=.slice (some ⟨wb,wo,none⟩) k c1) (λhcl=>?_)
  refine tq (i:=2) (v:=.pointer (some ⟨b,0,none⟩)) (λhcl=>?_)
  refine tq (i:=3) (v:=.int .i64 (k:Int)) (λhcl=>?_)
  refine tq (i:=8) (v:=.pointer (some ⟨w.heap.size,1,none⟩)) (λhcl=>?_)
  refine tq (i:=9) (v:=.slice (some ⟨wb,wo,none⟩) k c1) (λhcl=>?_)
  refine tq (i:=10) (v:=.pointer (some ⟨b,0,none⟩)) (λhcl=>?_)
  refine tq (i:=11) (v:=.int .i64 (k:Int)) (λhcl=>?_)
  refine Ij (i:=4) (j:=17) (by kernel_rfl) hcl (λhcl=>wpOpIn_step rfl (λK hK=>?_)) (λhcl=>wpOpIn_step rfl (λK hK=>?_))
  ·go_simp
   refine⟨trivial,(callsIn_wide.2 (Qe D b S (k:Int) _ HRD.out.src HOK.out (by omega))).mono ?_⟩
   rintro e7 w1 ⟨rfl,hs1,hc1⟩
   rw[HI1.out]
   have HB1:=Q0 (HRD.out.drawn hs1 hc1)
   have HSS:Hid ((λq=>q.cell? ⟨w.heap.size,1,none⟩=some (.slice (some ⟨wb,wo,none⟩) k c1)/\q.cell? ⟨wb,wo+i1*4,none⟩=some (.int .i64 f1)/\q.cell? ⟨wb,wo+i2*4,none⟩=some (.int .i64 f2)) w1):=HSN.out _ _ HB1.out
   refine hK _ _ ⟨Or.inr HSS.out,?_⟩
   clear hK K hs1 hc1
   refine tq (i:=5) (v:=.pointer (some ⟨wb,wo+i1*4,none⟩)) (λhcl=>?_)
   refine tq (i:=6) (v:=.pointer (some ⟨wb,wo+i1*4,none⟩)) (λhcl=>?_)
   refine tq (i:=7) (v:=.int .i64 f1) (λhcl=>?_)
   refine Ij (i:=12) (j:=17) (by kernel_rfl) hcl (λhcl=>wpOpIn_step rfl (λK hK=>?_)) (λhcl=>wpOpIn_step rfl (λK hK=>?_))
   ·go_simp
    refine⟨trivial,(callsIn_wide.2 (Qe D b (ns S k) (k:Int) _ HB1.out.src HOK1.out (by omega))).mono ?_⟩
    rintro e7 w2 ⟨rfl,hs1,hc1⟩
    rw[HI2.out]
    have HB2:=Q0 (HB1.out.drawn hs1 hc1)
    have HSS:Hid ((λq=>q.cell? ⟨w.heap.size,1,none⟩=some (.slice (some ⟨wb,wo,none⟩) k c1)/\q.cell? ⟨wb,wo+i1*4,none⟩=some (.int .i64 f1)/\q.cell? ⟨wb,wo+i2*4,none⟩=some (.int .i64 f2)) w2):=HSN.out _ _ HB2.out
    refine hK _ _ ⟨Or.inr HSS.out,?_⟩
    clear hK K hs1 hc1
    refine tq (i:=13) (v:=.pointer (some ⟨wb,wo+i2*4,none⟩)) (λhcl=>?_)
    refine tq (i:=14) (v:=.pointer (some ⟨wb,wo+i2*4,none⟩)) (λhcl=>?_)
    refine tq (i:=15) (v:=.int .i64 f2) (λhcl=>?_)
    refine tq (i:=16) (v:=.agg #[.int .i64 0,.bool false,.int .i64 f1,.int .i64 f2,.bool false,.int .i64 0,.slice none 0 0]) (λhcl=>?_)
    refine Q5 (i:=17) (by kernel_rfl) hcl (λhcl=>wpOpIn_step rfl (λK hK=>?_))
    go_simp
    generalize hWa:w2.alloc (.cells #[.int .i64 0,.bool false,.int .i64 0,.int .i64 0,.bool false,.int .i64 0,.slice none 0 0] 48)=wa
    have HA:Hid (RMs D b w wa (ns (ns S k) k) #[.slice (some ⟨nb,no,none⟩) m0 t0,.slice (some ⟨wb,wo,none⟩) k c1,.slice r2 m2 t2,.slice r3 m3 t3,.int .i64 u] w2.heap.size 0 0 0 false (.slice none 0 0) []):=by unfold Hid;rw[<-hWa];exact HB2.out.al
    clear hWa
    have HSS:Hid ((λq=>q.cell? ⟨w.heap.size,1,none⟩=some (.slice (some ⟨wb,wo,none⟩) k c1)/\q.cell? ⟨wb,wo+i1*4,none⟩=some (.int .i64 f1)/\q.cell? ⟨wb,wo+i2*4,none⟩=some (.int .i64 f2)) wa):=HSN.out _ _ HA.out.toRM0
    refine hK _ _ ⟨Or.inr HSS.out,?_⟩
    clear hK K
    have x0:=HA.out.rel.blk.cell (i:=0) rfl
    have x1:=HA.out.rel.blk.cell (i:=1) rfl
    have x2:=HA.out.rel.blk.cell (i:=2) rfl
    have x3:=HA.out.rel.blk.cell (i:=3) rfl
    have x4:=HA.out.rel.blk.cell (i:=4) rfl
    have x5:=HA.out.rel.blk.cell (i:=5) rfl
    have x6:=HA.out.rel.blk.cell (i:=6) rfl
    have z0:=HA.out.rel.blk.frozen 0
    have z1:=HA.out.rel.blk.frozen 1
    have z2:=HA.out.rel.blk.frozen 2
    have z3:=HA.out.rel.blk.frozen 3
    have z4:=HA.out.rel.blk.frozen 4
    have z5:=HA.out.rel.blk.frozen 5
    have z6:=HA.out.rel.blk.frozen 6
    refine Qk (i:=18) (by kernel_rfl) (wpOpIn_step rfl (λK hK=>?_))
    go_simp
    refine hK _ _ ⟨Or.inl (by decide),?_⟩
    clear hK K
    refine Qi (by kernel_rfl) ?_ _
    go_wp2
    go_meet
    exact⟨w2.heap.size,rfl,HA.out.fill f1 f2⟩
   ·go_simp
    generalize hWa:w1.alloc (.cells #[.int .i64 0,.bool false,.int .i64 0,.int .i64 0,.bool false,.int .i64 0,.slice none 0 0] 48)=wa
    have HA:Hid (RMs D b w wa (ns S k) #[.slice (some ⟨nb,no,none⟩) m0 t0,.slice (some ⟨wb,wo,none⟩) k c1,.slice r2 m2 t2,.slice r3 m3 t3,.int .i64 u] w1.heap.size 0 0 0 false (.slice none 0 0) []):=by unfold Hid;rw[<-hWa];exact HB1.out.al
    clear hWa
    have HSS:Hid ((λq=>q.cell? ⟨w.heap.size,1,none⟩=some (.slice (some ⟨wb,wo,none⟩) k c1)/\q.cell? ⟨wb,wo+i1*4,none⟩=some (.int .i64 f1)/\q.cell? ⟨wb,wo+i2*4,none⟩=some (.int .i64 f2)) wa):=HSN.out _ _ HA.out.toRM0
    refine hK _ _ ⟨Or.inr HSS.out,?_⟩
    clear hK K
    refine Q5 (i:=12) (by kernel_rfl) hcl (λhcl=>wpOpIn_step rfl (λK hK=>?_))
    go_simp
    refine⟨trivial,(callsIn_wide.2 (Qe D b (ns S k) (k:Int) _ HA.out.src HOK1.out (by omega))).mono ?_⟩
    rintro e7 w2 ⟨rfl,hs1,hc1⟩
    rw[HI2.out]
    have HA2:=Q0 (HA.out.drawn hs1 hc1)
    have HSS:Hid ((λq=>q.cell? ⟨w.heap.size,1,none⟩=some (.slice (some ⟨wb,wo,none⟩) k c1)/\q.cell? ⟨wb,wo+i1*4,none⟩=some (.int .i64 f1)/\q.cell? ⟨wb,wo+i2*4,none⟩=some (.int .i64 f2)) w2):=HSN.out _ _ HA2.out.toRM0
    refine hK _ _ ⟨Or.inr HSS.out,?_⟩
    clear hK K hs1 hc1
    refine tq (i:=13) (v:=.pointer (some ⟨wb,wo+i2*4,none⟩)) (λhcl=>?_)
    refine tq (i:=14) (v:=.pointer (some ⟨wb,wo+i2*4,none⟩)) (λhcl=>?_)
    refine tq (i:=15) (v:=.int .i64 f2) (λhcl=>?_)
    refine tq (i:=16) (v:=.agg #[.int .i64 0,.bool false,.int .i64 f1,.int .i64 f2,.bool false,.int .i64 0,.slice none 0 0]) (λhcl=>?_)
    have x0:=HA2.out.rel.blk.cell (i:=0) rfl
    have x1:=HA2.out.rel.blk.cell (i:=1) rfl
    have x2:=HA2.out.rel.blk.cell (i:=2) rfl
    have x3:=HA2.out.rel.blk.cell (i:=3) rfl
    have x4:=HA2.out.rel.blk.cell (i:=4) rfl
    have x5:=HA2.out.rel.blk.cell (i:=5) rfl
    have x6:=HA2.out.rel.blk.cell (i:=6) rfl
    have z0:=HA2.out.rel.blk.frozen 0
    have z1:=HA2.out.rel.blk.frozen 1
    have z2:=HA2.out.rel.blk.frozen 2
    have z3:=HA2.out.rel.blk.frozen 3
    have z4:=HA2.out.rel.blk.frozen 4
    have z5:=HA2.out.rel.blk.frozen 5
    have z6:=HA2.out.rel.blk.frozen 6
    refine Qk (i:=18) (by kernel_rfl) (wpOpIn_step rfl (λK hK=>?_))
    go_simp
    refine hK _ _ ⟨Or.inl (by decide),?_⟩
    clear hK K
    refine Qi (by kernel_rfl) ?_ _
    go_wp2
    go_meet
    exact⟨w1.heap.size,rfl,HA2.out.fill f1 f2⟩
  ·go_simp
   generalize hWa:(wA.alloc (.cells #[.int .i64 0,.bool false,.int .i64 0,.int .i64 0,.bool false,.int .i64 0,.slice none 0 0] 48)).drew=wa
   have HA:Hid (RMs D b w wa S #[.slice (some ⟨nb,no,none⟩) m0 t0,.slice (some ⟨wb,wo,none⟩) k c1,.slice r2 m2 t2,.slice r3 m3 t3,.int .i64 u] wA.heap.size 0 0 0 false (.slice none 0 0) []):=by unfold Hid;rw[<-hWa];exact(HR0.out.al).next (show Nx _ _ from(Below.refl _ _).drew)
   clear hWa
   have HSS:Hid ((λq=>q.cell? ⟨w.heap.size,1,none⟩=some (.slice (some ⟨wb,wo,none⟩) k c1)/\q.cell? ⟨wb,wo+i1*4,none⟩=some (.int .i64 f1)/\q.cell? ⟨wb,wo+i2*4,none⟩=some (.int .i64 f2)) wa):=HSN.out _ _ HA.out.toRM0
   refine hK _ _ ⟨Or.inr HSS.out,?_⟩
   clear hK K
   refine Q5 (i:=4) (by kernel_rfl) hcl (λhcl=>wpOpIn_step rfl (λK hK=>?_))
   go_simp
   refine⟨trivial,(callsIn_wide.2 (Qe D b S (k:Int) _ HA.out.src HOK.out (by omega))).mono ?_⟩
   rintro e7 w1 ⟨rfl,hs1,hc1⟩
   rw[HI1.out]
   have HA1:=Q0 (HA.out.drawn hs1 hc1)
   have HSS:Hid ((λq=>q.cell? ⟨w.heap.size,1,none⟩=some (.slice (some ⟨wb,wo,none⟩) k c1)/\q.cell? ⟨wb,wo+i1*4,none⟩=some (.int .i64 f1)/\q.cell? ⟨wb,wo+i2*4,none⟩=some (.int .i64 f2)) w1):=HSN.out _ _ HA1.out.toRM0
   refine hK _ _ ⟨Or.inr HSS.out,?_⟩
   clear hK K hs1 hc1
   refine tq (i:=5) (v:=.pointer (some ⟨wb,wo+i1*4,none⟩)) (λhcl=>?_)
   refine tq (i:=6) (v:=.pointer (some ⟨wb,wo+i1*4,none⟩)) (λhcl=>?_)
   refine tq (i:=7) (v:=.int .i64 f1) (λhcl=>?_)
   refine Q5 (i:=12) (by kernel_rfl) hcl (λhcl=>wpOpIn_step rfl (λK hK=>?_))
   go_simp
   refine⟨trivial,(callsIn_wide.2 (Qe D b (ns S k) (k:Int) _ HA1.out.src HOK1.out (by omega))).mono ?_⟩
   rintro e7 w2 ⟨rfl,hs1,hc1⟩
   rw[HI2.out]
   have HA2:=Q0 (HA1.out.drawn hs1 hc1)
   have HSS:Hid ((λq=>q.cell? ⟨w.heap.size,1,none⟩=some (.slice (some ⟨wb,wo,none⟩) k c1)/\q.cell? ⟨wb,wo+i1*4,none⟩=some (.int .i64 f1)/\q.cell? ⟨wb,wo+i2*4,none⟩=some (.int .i64 f2)) w2):=HSN.out _ _ HA2.out.toRM0
   refine hK _ _ ⟨Or.inr HSS.out,?_⟩
   clear hK K hs1 hc1
   refine tq (i:=13) (v:=.pointer (some ⟨wb,wo+i2*4,none⟩)) (λhcl=>?_)
   refine tq (i:=14) (v:=.pointer (some ⟨wb,wo+i2*4,none⟩)) (λhcl=>?_)
   refine tq (i:=15) (v:=.int .i64 f2) (λhcl=>?_)
   refine tq (i:=16) (v:=.agg #[.int .i64 0,.bool false,.int .i64 f1,.int .i64 f2,.bool false,.int .i64 0,.slice none 0 0]) (λhcl=>?_)
   have x0:=HA2.out.rel.blk.cell (i:=0) rfl
   have x1:=HA2.out.rel.blk.cell (i:=1) rfl
   have x2:=HA2.out.rel.blk.cell (i:=2) rfl
   have x3:=HA2.out.rel.blk.cell (i:=3) rfl
   have x4:=HA2.out.rel.blk.cell (i:=4) rfl
   have x5:=HA2.out.rel.blk.cell (i:=5) rfl
   have x6:=HA2.out.rel.blk.cell (i:=6) rfl
   have z0:=HA2.out.rel.blk.frozen 0
   have z1:=HA2.out.rel.blk.frozen 1
   have z2:=HA2.out.rel.blk.frozen 2
   have z3:=HA2.out.rel.blk.frozen 3
   have z4:=HA2.out.rel.blk.frozen 4
   have z5:=HA2.out.rel.blk.frozen 5
   have z6:=HA2.out.rel.blk.frozen 6
   refine Qk (i:=18) (by kernel_rfl) (wpOpIn_step rfl (λK hK=>?_))
   go_simp
   refine hK _ _ ⟨Or.inl (by decide),?_⟩
   clear hK K
   refine Qi (by kernel_rfl) ?_ _
   go_wp2
   go_meet
   exact⟨wA.heap.size,rfl,HA2.out.fill f1 f2⟩
 case rest=>
 obtain⟨g,rfl,hcut⟩:=hcut
 have HG:Hid (RMs D b w wc (ns (ns S k) k) #[.slice (some ⟨nb,no,none⟩) m0 t0,.slice (some ⟨wb,wo,none⟩) k c1,.slice r2 m2 t2,.slice r3 m3 t3,.int .i64 u] g f1 f2 0 false (.slice none 0 0) []):=hcut
 have HOK3:Hid (SOk (ns (ns (ns S k) k) 2)):=Qj HOK2.out _
 have HRR:Hid (Jq N S=if nv (Zk N S) 2=0 then ⟨0,false,A8 N S,Q70 N S,true,iat N.nodes (nv (ns (Zk N S) 2) N.nodes.length).toNat,[]⟩ else ⟨0,false,A8 N S,Q70 N S,false,0,(K5 N S).l⟩):=rfl
 have HRS:Hid (Xr N S=if nv (Zk N S) 2=0 then ns (ns (Zk N S) 2) N.nodes.length else (K5 N S).S):=rfl
 have HRV:Hid (K5 N S=Xp N.ways ⟨ns (ns (Zk N S) 2) 4,[]⟩ (1+nv (ns (Zk N S) 2) 4).toNat):=rfl
 rw[HR2.out,HF1.out,HF2.out,HM.out] at HRR
 rw[HR2.out,HM.out] at HRS
 rw[HR2.out] at HRV
 clear hcut HSS HRD HR0
 go_wp2_with fail
 refine(Qe D b (ns (ns S k) k) 2 wc HG.out.src HOK2.out (by omega)).mono ?_
 rintro e w3 ⟨rfl,hs1,hc1⟩
 have HG3:=Q0 (HG.out.drawn hs1 hc1)
 clear hs1 hc1 HG
 generalize nv (ns (ns S k) k) 2=d2 at *
 by_cases hd2:d2=0
 ·obtain⟨i3,hi3⟩:∃i:Nat,nv (ns (ns (ns S k) k) 2) m0=i:=⟨(nv (ns (ns (ns S k) k) 2) m0).toNat,by have:=(Qt HOK3.out m0).1;omega⟩
  have hl3:i3<m0:=by have:=(Qt HOK3.out m0).2 (by omega);omega
  have HI3:Hid (nv (ns (ns (ns S k) k) 2) m0=i3):=hi3
  have hj3:(i3:Int)<m0:=by omega
  rw[if_pos hd2,HI3.out,Int.toNat_natCast] at HRR
  rw[if_pos hd2] at HRS
  obtain⟨z3,hz3⟩:∃z,z=iat N.nodes i3:=⟨_,rfl⟩
  rw[<-hz3] at HRR
  have HSM:Hid (∀q S',RM0 D b w q S' #[.slice (some ⟨nb,no,none⟩) m0 t0,.slice (some ⟨wb,wo,none⟩) k c1,.slice r2 m2 t2,.slice r3 m3 t3,.int .i64 u]->(λq=>q.cell? ⟨w.heap.size,0,none⟩=some (.slice (some ⟨nb,no,none⟩) m0 t0)/\q.cell? ⟨nb,no+i3,none⟩=some (.int .i64 z3)) q):=λq S' h=>⟨h.box.blk.cell (i:=0) rfl,by rw[hz3];exact HNC.out q h.chg i3 hl3⟩
  subst hd2
  have y4:=HG3.out.rel.blk.cell (i:=4) rfl
  have e4:=HG3.out.rel.blk.frozen 4
  clear hi3 hz3 HRV
  go_upto_region 5 with fail
  have HG4:=Q0 HG3.out.setVia
  generalize w3.setCell ⟨g,4,none⟩ (.bool true)=w3' at *
  clear y4 e4 HG3
  have HGD:=Q0 (HG4.out.next (show Nx w3' w3'.drew from(Below.refl _ _).drew))
  have HSS:Hid ((λq=>q.cell? ⟨w.heap.size,0,none⟩=some (.slice (some ⟨nb,no,none⟩) m0 t0)/\q.cell? ⟨nb,no+i3,none⟩=some (.int .i64 z3)) w3'.drew):=HSM.out _ _ HGD.out.toRM0
  refine(wpIn_wide (n:=9)).1 ?_
  refine Q9 (c:=10) (S:=λq=>q.cell? ⟨w.heap.size,0,none⟩=some (.slice (some ⟨nb,no,none⟩) m0 t0)/\q.cell? ⟨nb,no+i3,none⟩=some (.int .i64 z3)) hmx (by kernel_rfl) (λhw hcl=>?_)
  refine tq (i:=0) (v:=.pointer (some ⟨w.heap.size,0,none⟩)) (λhcl=>?_)
  refine tq (i:=1) (v:=.slice (some ⟨nb,no,none⟩) m0 t0) (λhcl=>?_)
  refine tq (i:=2) (v:=.pointer (some ⟨b,0,none⟩)) (λhcl=>?_)
  refine tq (i:=3) (v:=.pointer (some ⟨w.heap.size,0,none⟩)) (λhcl=>?_)
  refine tq (i:=4) (v:=.slice (some ⟨nb,no,none⟩) m0 t0) (λhcl=>?_)
  refine tq (i:=5) (v:=.int .i64 (m0:Int)) (λhcl=>?_)
  refine Q5 (i:=6) (by kernel_rfl) hcl (λhcl=>wpOpIn_step rfl (λK hK=>?_))
  go_simp
  refine⟨trivial,(callsIn_wide.2 (Qe D b (ns (ns (ns S k) k) 2) (m0:Int) _ HGD.out.src HOK3.out (by omega))).mono ?_⟩
  rintro e7 w4 ⟨rfl,hs1,hc1⟩
  rw[HI3.out]
  have HG4:=Q0 (HGD.out.drawn hs1 hc1)
  have HSS:Hid ((λq=>q.cell? ⟨w.heap.size,0,none⟩=some (.slice (some ⟨nb,no,none⟩) m0 t0)/\q.cell? ⟨nb,no+i3,none⟩=some (.int .i64 z3)) w4):=HSM.out _ _ HG4.out.toRM0
  refine hK _ _ ⟨Or.inr HSS.out,?_⟩
  clear hK K hs1 hc1
  refine tq (i:=7) (v:=.pointer (some ⟨nb,no+i3,none⟩)) (λhcl=>?_)
  refine tq (i:=8) (v:=.int .i64 z3) (λhcl=>?_)
  refine tq (i:=9) (v:=.pointer (some ⟨g,5,none⟩)) (λhcl=>?_)
  have x5:=HG4.out.rel.blk.cell (i:=5) rfl
  have z5:=HG4.out.rel.blk.frozen 5
  refine Qk (i:=10) (by kernel_rfl) (wpOpIn_step rfl (λK hK=>?_))
  go_simp
  refine hK _ _ ⟨Or.inl (by decide),?_⟩
  clear hK K
  refine Qi (by kernel_rfl) ?_ _
  clear x5 z5 hw hcl HSS
  have HG5:=Q0 (HG4.out.setNode z3)
  generalize w4.setCell ⟨g,5,none⟩ (.int .i64 z3)=w5 at *
  have y0:=HG5.out.rel.blk.cell (i:=0) rfl
  have y1:=HG5.out.rel.blk.cell (i:=1) rfl
  have y2:=HG5.out.rel.blk.cell (i:=2) rfl
  have y3:=HG5.out.rel.blk.cell (i:=3) rfl
  have y4:=HG5.out.rel.blk.cell (i:=4) rfl
  have y5:=HG5.out.rel.blk.cell (i:=5) rfl
  have y6:=HG5.out.rel.blk.cell (i:=6) rfl
  have x0:=HG5.out.res.blk.cell (i:=0) rfl
  have fz0:=HG5.out.res.blk.frozen 0
  have x1:=HG5.out.res.blk.cell (i:=1) rfl
  have fz1:=HG5.out.res.blk.frozen 1
  have x2:=HG5.out.res.blk.cell (i:=2) rfl
  have fz2:=HG5.out.res.blk.frozen 2
  have x3:=HG5.out.res.blk.cell (i:=3) rfl
  have fz3:=HG5.out.res.blk.frozen 3
  have x4:=HG5.out.res.blk.cell (i:=4) rfl
  have fz4:=HG5.out.res.blk.frozen 4
  have x5:=HG5.out.res.blk.cell (i:=5) rfl
  have fz5:=HG5.out.res.blk.frozen 5
  have x6:=HG5.out.res.blk.cell (i:=6) rfl
  have fz6:=HG5.out.res.blk.frozen 6
  have BR:=Pw (a0:=.int .i64 0) (a1:=.bool false) (a2:=.int .i64 f1) (a3:=.int .i64 f2) (a4:=.bool true) (a5:=.int .i64 z3) (a6:=.slice none 0 0) HG5.out.res
  have P0:Hid (_=some (Value.int .i64 0)):=BR.blk.cell (i:=0) rfl
  have P1:Hid (_=some (Value.bool false)):=BR.blk.cell (i:=1) rfl
  have P2:Hid (_=some (Value.int .i64 f1)):=BR.blk.cell (i:=2) rfl
  have P3:Hid (_=some (Value.int .i64 f2)):=BR.blk.cell (i:=3) rfl
  have P4:Hid (_=some (Value.bool true)):=BR.blk.cell (i:=4) rfl
  have P5:Hid (_=some (Value.int .i64 z3)):=BR.blk.cell (i:=5) rfl
  have P6:Hid (_=some (Value.slice none 0 0)):=BR.blk.cell (i:=6) rfl
  clear BR
  go_wp2
  generalize hWF:(((((((w5.setCell ⟨w.heap.size+1,0,none⟩ (.int .i64 0)).setCell ⟨w.heap.size+1,1,none⟩ (.bool false)).setCell ⟨w.heap.size+1,2,none⟩ (.int .i64 f1)).setCell ⟨w.heap.size+1,3,none⟩ (.int .i64 f2)).setCell ⟨w.heap.size+1,4,none⟩ (.bool true)).setCell ⟨w.heap.size+1,5,none⟩ (.int .i64 z3)).setCell ⟨w.heap.size+1,6,none⟩ (.slice none 0 0))=wF at P0 P1 P2 P3 P4 P5 P6 ⊢
  have p0:=P0.out
  have p1:=P1.out
  have p2:=P2.out
  have p3:=P3.out
  have p4:=P4.out
  have p5:=P5.out
  have p6:=P6.out
  refine bodyPost_ret (v:=.agg #[.int .i64 0,.bool false,.int .i64 f1,.int .i64 f2,.bool true,.int .i64 z3,.slice none 0 0]) (by simp[results,Tryz.results94,go_sem,p0,p1,p2,p3,p4,p5,p6]) rfl ?_
  rw[HRR.out,HRS.out]
  have hO:=HG5.out.out (Kj (a0:=.int .i64 0) (a1:=.bool false) (a2:=.int .i64 f1) (a3:=.int .i64 f2) (a4:=.bool true) (a5:=.int .i64 z3) (a6:=.slice none 0 0))
  rw[hWF] at hO
  exact⟨_,rfl,hO.1,hO.2.1,hO.2.2⟩
 ·have hb2:(d2==0)=false:=by simpa using hd2
  rw[if_neg hd2] at HRR HRS
  clear hd2
  go_wp2_with fail
  refine(Qe D b (ns (ns (ns S k) k) 2) 4 w3 HG3.out.src HOK3.out (by omega)).mono ?_
  rintro e w4 ⟨rfl,hs1,hc1⟩
  have HG4:=Q0 (HG3.out.drawn hs1 hc1)
  have HOK4:Hid (SOk (ns (ns (ns (ns S k) k) 2) 4)):=Qj HOK3.out _
  have hv4:=Qt HOK3.out 4
  obtain⟨M,hM⟩:∃M:Nat,1+nv (ns (ns (ns S k) k) 2) 4=M:=⟨(1+nv (ns (ns (ns S k) k) 2) 4).toNat,by omega⟩
  have hM4:M<=4:=by omega
  rw[hM,Int.toNat_natCast] at HRV
  have HMM:Hid (1+nv (ns (ns (ns S k) k) 2) 4=M):=hM
  generalize nv (ns (ns (ns S k) k) 2) 4=d4 at *
  clear hs1 hc1 HG3
  obtain⟨x0,hx0⟩:∃x:Q4f,x=⟨ns (ns (ns (ns S k) k) 2) 4,[]⟩:=⟨_,rfl⟩
  rw[<-hx0] at HRV
  have HXO:Hid (∀j,SOk (Xp N.ways x0 j).S/\(Xp N.ways x0 j).l.length=j/\(Xp N.ways x0 j).S.size=x0.S.size):=by rw[hx0];exact Ga HOK4.out rfl
  have HG5:Hid (RMs D b w w4 (Xp N.ways x0 0).S #[.slice (some ⟨nb,no,none⟩) m0 t0,.slice (some ⟨wb,wo,none⟩) k c1,.slice r2 m2 t2,.slice r3 m3 t3,.int .i64 u] g f1 f2 0 false (.slice none 0 0) (Xp N.ways x0 0).l):=by rw[hx0];exact HG4.out
  clear hx0 HG4 hM
  go_wp2
  rw[HMM.out]
  clear HMM hv4
  go_loopw [7] (λs7 wr=>∃(l j c:Nat) (a:Option Addr),l+j=M/\s7=.int .i64 (l:Int)/\Hid (RMs D b w wr (Xp N.ways x0 j).S #[.slice (some ⟨nb,no,none⟩) m0 t0,.slice (some ⟨wb,wo,none⟩) k c1,.slice r2 m2 t2,.slice r3 m3 t3,.int .i64 u] g f1 f2 0 false (.slice a j c) (Xp N.ways x0 j).l)) (λi _=>(intOf i).toNat)
  case atStart=>exact⟨M,0,0,none,rfl,rfl,HG5⟩
  obtain⟨l,j,c,a,hlj,rfl,HGj⟩:=hrel
  by_cases hl:0<l
  ·have hl':(0:Int)<l:=by omega
   obtain⟨HOKj',HLj',_⟩:=HXO.out j
   have HOKj:Hid (SOk (Xp N.ways x0 j).S):=HOKj'
   have HLj:Hid ((Xp N.ways x0 j).l.length=j):=HLj'
   obtain⟨i4,hi4⟩:∃i:Nat,nv (Xp N.ways x0 j).S k=i:=⟨(nv (Xp N.ways x0 j).S k).toNat,by have:=(Qt HOKj.out k).1;omega⟩
   have hl4:i4<k:=by have:=(Qt HOKj.out k).2 (by omega);omega
   have HI4:Hid (nv (Xp N.ways x0 j).S k=i4):=hi4
   have hj4:(i4:Int)<k:=by omega
   obtain⟨z4,hz4⟩:∃z,z=(wat N.ways i4).id:=⟨_,rfl⟩
   have HSTEP:Hid (Xp N.ways x0 (j+1)=⟨ns (Xp N.ways x0 j).S k,(Xp N.ways x0 j).l++[z4]⟩):=by
    unfold Hid
    show Q3f N.ways (Xp N.ways x0 j)=_
    unfold Q3f Tq
    rw[HK.out,HI4.out,Int.toNat_natCast,hz4]
   have HSTEPl:Hid ((Xp N.ways x0 (j+1)).l=(Xp N.ways x0 j).l++[z4]):=by unfold Hid;rw[HSTEP.out]
   have HSTEPs:Hid ((Xp N.ways x0 (j+1)).S=ns (Xp N.ways x0 j).S k):=by unfold Hid;rw[HSTEP.out]
   have HID4:Hid (∀q,Chg (Sx1 b) w q->q.cell? ⟨wb,wo+i4*4,none⟩=some (.int .i64 z4)):=λq hq=>by rw[hz4];exact HWC.out q hq i4 hl4
   have HSP:Hid (∀q S',RMs D b w q S' #[.slice (some ⟨nb,no,none⟩) m0 t0,.slice (some ⟨wb,wo,none⟩) k c1,.slice r2 m2 t2,.slice r3 m3 t3,.int .i64 u] g f1 f2 0 false (.slice a j c) (Xp N.ways x0 j).l->∀{q'},Nx q q'->(λq=>q.cell? ⟨g,6,none⟩=some (.slice a j c)/\q.cell? ⟨w.heap.size,1,none⟩=some (.slice (some ⟨wb,wo,none⟩) k c1)/\q.cell? ⟨wb,wo+i4*4,none⟩=some (.int .i64 z4)) q'):=λq S' h q' hq=>⟨Qf hq (h.rel.blk.cell (i:=6) rfl),Qf hq (h.box.blk.cell (i:=1) rfl),Qf hq (HID4.out q h.chg)⟩
   clear hi4 hz4 HSTEP HOKj' HLj'
   go_upto_region 10 with fail
   have HGD:=Q0 (HGj.out.next (show Nx wr wr.drew from(Below.refl _ _).drew))
   have HSS:Hid ((λq=>q.cell? ⟨g,6,none⟩=some (.slice a j c)/\q.cell? ⟨w.heap.size,1,none⟩=some (.slice (some ⟨wb,wo,none⟩) k c1)/\q.cell? ⟨wb,wo+i4*4,none⟩=some (.int .i64 z4)) wr.drew):=HSP.out _ _ HGD.out (Nx.refl _)
   refine(wpIn_wide (n:=9)).1 ?_
   refine Q9 (c:=13) (S:=λq=>q.cell? ⟨g,6,none⟩=some (.slice a j c)/\q.cell? ⟨w.heap.size,1,none⟩=some (.slice (some ⟨wb,wo,none⟩) k c1)/\q.cell? ⟨wb,wo+i4*4,none⟩=some (.int .i64 z4)) hmx (by kernel_rfl) (λhw hcl=>?_)
   refine tq (i:=0) (v:=.pointer (some ⟨g,6,none⟩)) (λhcl=>?_)
   refine tq (i:=1) (v:=.slice a j c) (λhcl=>?_)
   refine tq (i:=2) (v:=.pointer (some ⟨w.heap.size,1,none⟩)) (λhcl=>?_)
   refine tq (i:=3) (v:=.slice (some ⟨wb,wo,none⟩) k c1) (λhcl=>?_)
   refine tq (i:=4) (v:=.pointer (some ⟨b,0,none⟩)) (λhcl=>?_)
   refine tq (i:=5) (v:=.int .i64 (k:Int)) (λhcl=>?_)
   refine Q5 (i:=6) (by kernel_rfl) hcl (λhcl=>wpOpIn_step rfl (λK hK=>?_))
   go_simp
   refine⟨trivial,(callsIn_wide.2 (Qe D b (Xp N.ways x0 j).S (k:Int) _ HGD.out.src HOKj.out (by omega))).mono ?_⟩
   rintro e7 w4 ⟨rfl,hs1,hc1⟩
   rw[HI4.out]
   have HG4:=Q0 (HGD.out.drawn hs1 hc1)
   have HSS:Hid ((λq=>q.cell? ⟨g,6,none⟩=some (.slice a j c)/\q.cell? ⟨w.heap.size,1,none⟩=some (.slice (some ⟨wb,wo,none⟩) k c1)/\q.cell? ⟨wb,wo+i4*4,none⟩=some (.int .i64 z4)) w4):=HSP.out _ _ HG4.out (Nx.refl _)
   refine hK _ _ ⟨Or.inr HSS.out,?_⟩
   clear hK K hs1 hc1
   refine tq (i:=7) (v:=.pointer (some ⟨wb,wo+i4*4,none⟩)) (λhcl=>?_)
   refine tq (i:=8) (v:=.pointer (some ⟨wb,wo+i4*4,none⟩)) (λhcl=>?_)
   refine tq (i:=9) (v:=.int .i64 z4) (λhcl=>?_)
   refine Q5 (i:=10) (by kernel_rfl) hcl (λhcl=>wpOpIn_step rfl (λK hK=>?_))
   go_simp
   refine hK _ _ ⟨Or.inr (HSP.out _ _ HG4.out (Qd _ _)),?_⟩
   clear hK K
   refine Q5 (i:=11) (by kernel_rfl) hcl (λhcl=>wpOpIn_step rfl (λK hK=>?_))
   have hz4:w.heap.size<=w4.heap.size:=HG4.out.chg.size
   refine Xz rfl (.tmp 51) (.tmp 60) rfl w.heap.size j (.slice a j c) (Xp N.ways x0 j).l z4 w4 _ rfl (by simp[Act.eval]) HG4.out.row (by simp[Act.eval]) HLj.out (by omega) hz4 ?_
   intro a8 c8 w8 r1 r2 r3
   have HG8:=Q0 (HG4.out.addWay r1 r2)
   have HB8:=Q0 (HG4.out.rel.row HG4.out.row (by decide) r2)
   have HS8:Hid ((λq=>q.cell? ⟨g,6,none⟩=some (.slice a j c)/\q.cell? ⟨w.heap.size,1,none⟩=some (.slice (some ⟨wb,wo,none⟩) k c1)/\q.cell? ⟨wb,wo+i4*4,none⟩=some (.int .i64 z4)) w8):=⟨HB8.out.blk.cell (i:=6) rfl,(HG4.out.box.row HG4.out.row (by decide) r2).blk.cell (i:=1) rfl,HID4.out _ (HG4.out.chg.young r2 (λx hx hl=>by have:=(Ql HG4.out.row x hx.symm).1;omega))⟩
   refine hK _ _ ⟨Or.inr HS8.out,?_⟩
   clear hK K r1 r2 r3
   have x6:=HB8.out.blk.cell (i:=6) rfl
   have z6:=HB8.out.blk.frozen 6
   refine Q5 (i:=12) (by kernel_rfl) hcl (λhcl=>wpOpIn_step rfl (λK hK=>?_))
   go_simp
   refine hK _ _ ⟨Or.inr HS8.out,?_⟩
   clear hK K
   refine Qk (i:=13) (by kernel_rfl) (wpOpIn_step rfl (λK hK=>?_))
   go_simp
   refine hK _ _ ⟨Or.inl (by decide),?_⟩
   clear hK K
   refine Qi (by kernel_rfl) ?_ _
   clear x6 z6 hw hcl HSS HS8 HB8
   rw[<-HSTEPl.out] at HG8
   generalize w8.setCell ⟨g,6,none⟩ (.slice a8 (j+1) c8)=w9 at *
   rw[<-HSTEPs.out] at HG8
   obtain⟨l',rfl⟩:∃l',l=l'+1:=⟨l-1,by omega⟩
   have hwr:IntKind.i64.wrap (l':Int)=l':=W8 _ (by omega)
   clear hl hl'
   go_wp2
   go_roundw
   case rel=>exact⟨l',j+1,c8,a8,by omega,by go_num,HG8⟩
   case measure=>simp[intOf]
  ·have hl0:l=0:=by omega
   subst hl0
   have hjM:j=M:=by omega
   subst hjM
   clear hlj hl
   rw[<-HRV.out] at HGj
   generalize hvl:(K5 N S).l=vl at *
   generalize (K5 N S).S=vS at *
   clear hvl
   have y0:=HGj.out.rel.blk.cell (i:=0) rfl
   have y1:=HGj.out.rel.blk.cell (i:=1) rfl
   have y2:=HGj.out.rel.blk.cell (i:=2) rfl
   have y3:=HGj.out.rel.blk.cell (i:=3) rfl
   have y4:=HGj.out.rel.blk.cell (i:=4) rfl
   have y5:=HGj.out.rel.blk.cell (i:=5) rfl
   have y6:=HGj.out.rel.blk.cell (i:=6) rfl
   have x0:=HGj.out.res.blk.cell (i:=0) rfl
   have fz0:=HGj.out.res.blk.frozen 0
   have x1:=HGj.out.res.blk.cell (i:=1) rfl
   have fz1:=HGj.out.res.blk.frozen 1
   have x2:=HGj.out.res.blk.cell (i:=2) rfl
   have fz2:=HGj.out.res.blk.frozen 2
   have x3:=HGj.out.res.blk.cell (i:=3) rfl
   have fz3:=HGj.out.res.blk.frozen 3
   have x4:=HGj.out.res.blk.cell (i:=4) rfl
   have fz4:=HGj.out.res.blk.frozen 4
   have x5:=HGj.out.res.blk.cell (i:=5) rfl
   have fz5:=HGj.out.res.blk.frozen 5
   have x6:=HGj.out.res.blk.cell (i:=6) rfl
   have fz6:=HGj.out.res.blk.frozen 6
   have BR:=Pw (a0:=.int .i64 0) (a1:=.bool false) (a2:=.int .i64 f1) (a3:=.int .i64 f2) (a4:=.bool false) (a5:=.int .i64 0) (a6:=.slice a j c) HGj.out.res
   have P0:Hid (_=some (Value.int .i64 0)):=BR.blk.cell (i:=0) rfl
   have P1:Hid (_=some (Value.bool false)):=BR.blk.cell (i:=1) rfl
   have P2:Hid (_=some (Value.int .i64 f1)):=BR.blk.cell (i:=2) rfl
   have P3:Hid (_=some (Value.int .i64 f2)):=BR.blk.cell (i:=3) rfl
   have P4:Hid (_=some (Value.bool false)):=BR.blk.cell (i:=4) rfl
   have P5:Hid (_=some (Value.int .i64 0)):=BR.blk.cell (i:=5) rfl
   have P6:Hid (_=some (Value.slice a j c)):=BR.blk.cell (i:=6) rfl
   clear BR
   go_wp2
   generalize hWF:(((((((wr.setCell ⟨w.heap.size+1,0,none⟩ (.int .i64 0)).setCell ⟨w.heap.size+1,1,none⟩ (.bool false)).setCell ⟨w.heap.size+1,2,none⟩ (.int .i64 f1)).setCell ⟨w.heap.size+1,3,none⟩ (.int .i64 f2)).setCell ⟨w.heap.size+1,4,none⟩ (.bool false)).setCell ⟨w.heap.size+1,5,none⟩ (.int .i64 0)).setCell ⟨w.heap.size+1,6,none⟩ (.slice a j c))=wF at P0 P1 P2 P3 P4 P5 P6 ⊢
   have p0:=P0.out
   have p1:=P1.out
   have p2:=P2.out
   have p3:=P3.out
   have p4:=P4.out
   have p5:=P5.out
   have p6:=P6.out
   refine bodyPost_ret (v:=.agg #[.int .i64 0,.bool false,.int .i64 f1,.int .i64 f2,.bool false,.int .i64 0,.slice a j c]) (by simp[results,Tryz.results94,go_sem,p0,p1,p2,p3,p4,p5,p6]) rfl ?_
   rw[HRR.out,HRS.out]
   have hO:=HGj.out.out (Kj (a0:=.int .i64 0) (a1:=.bool false) (a2:=.int .i64 f1) (a3:=.int .i64 f2) (a4:=.bool false) (a5:=.int .i64 0) (a6:=.slice a j c))
   rw[hWF] at hO
   exact⟨_,rfl,hO.1,hO.2.1,hO.2.2⟩
structure FR (D b:Nat)(w0 w:World)(S:Src)(bl:List (Nat×Array Value×Nat)):Prop where
 chg:Chg (Sx1 b) w0 w
 src:J8 D w b S
 bx:∀p∈bl,BT w p.1 p.2.1 p.2.2/\w0.heap.size<=p.1
 ty:∀p∈bl,p.2.2≠73/\p.2.2≠5/\p.2.2≠2
 nd:(bl.map (·.1)).Nodup
section
variable {D b g:Nat}{w0 w w':World}{S S':Src}{bl:List (Nat×Array Value×Nat)}
theorem FR.at (h:FR D b w0 w S bl)(k:Nat){p:Nat×Array Value×Nat}(hk:bl[k]?=some p):BT w p.1 p.2.1 p.2.2:=(h.bx p (List.mem_of_getElem? hk)).1
theorem FR.next (h:FR D b w0 w S bl)(k:Nx w w'):FR D b w0 w' S bl:=⟨h.chg.trans (Chg.nx k),h.src.next k,λp hp=>⟨(h.bx p hp).1.next k,(h.bx p hp).2⟩,h.ty,h.nd⟩
theorem FR.drawn (h:FR D b w0 w S bl)(hS:J8 D w' b S')(k:Chg (Sx1 b) w w'):FR D b w0 w' S' bl:=by
 obtain⟨v,hb,_⟩:=h.src
 exact⟨h.chg.trans k,hS,λp hp=>⟨(h.bx p hp).1.chg k ((h.bx p hp).1.ne hb (h.ty p hp).1),(h.bx p hp).2⟩,h.ty,h.nd⟩
theorem FR.alloc (h:FR D b w0 w S bl)(cs:Array Value)(t:Nat)(ht:t≠73/\t≠5/\t≠2):FR D b w0 (w.alloc (.cells cs t)) S (bl++[(w.heap.size,cs,t)]):=by
 have k:=h.next (Qd w (.cells cs t))
 refine⟨k.chg,k.src,λp hp=>?_,λp hp=>?_,?_⟩
 ·rcases List.mem_append.1 hp with g|g
  ·exact k.bx p g
  ·have e:p=(w.heap.size,cs,t):=by simpa using g
   subst e
   exact⟨BT.new _ _ _ _ rfl,h.chg.size⟩
 ·rcases List.mem_append.1 hp with g|g
  ·exact k.ty p g
  ·have e:p=(w.heap.size,cs,t):=by simpa using g
   subst e
   exact ht
 ·rw[List.map_append,List.nodup_append]
  refine⟨h.nd,by simp,λx hx y hy=>?_⟩
  obtain⟨p,hp,rfl⟩:=List.mem_map.1 hx
  have e:y=w.heap.size:=by simpa using hy
  have:=(h.bx p hp).1.lt
  omega
theorem FR.other (h:FR D b w0 w S bl){k:Nat}{g t:Nat}{cs:Array Value}(hk:bl[k]?=some (g,cs,t)){j:Nat}{p:Nat×Array Value×Nat}(hj:bl[j]?=some p)(hn:j≠k):p.1≠g:=by
 intro e
 have h1:(bl.map (·.1))[j]?=some g:=by rw[List.getElem?_map,hj];simp[e]
 have h2:(bl.map (·.1))[k]?=some g:=by rw[List.getElem?_map,hk];rfl
 obtain⟨l1,e1⟩:=List.getElem?_eq_some_iff.1 h1
 obtain⟨l2,e2⟩:=List.getElem?_eq_some_iff.1 h2
 rcases Nat.lt_trichotomy j k with q|q|q
 ·exact List.pairwise_iff_getElem.1 h.nd j k l1 l2 q (e1.trans e2.symm)
 ·exact hn q
 ·exact List.pairwise_iff_getElem.1 h.nd k j l2 l1 q (e2.trans e1.symm)
theorem FR.turn (h:FR D b w0 w S bl)(k:Nat){g t:Nat}{cs cs':Array Value}(hk:bl[k]?=some (g,cs,t))(hc:Chg (λx=>x=g) w w')(hb:BT w' g cs' t):FR D b w0 w' S (bl.set k (g,cs',t)):=by
 have hg:=h.bx _ (List.mem_of_getElem? hk)
 have ht:=h.ty _ (List.mem_of_getElem? hk)
 have key:∀p∈bl.set k (g,cs',t),(BT w' p.1 p.2.1 p.2.2/\w0.heap.size<=p.1)/\p.2.2≠73/\p.2.2≠5/\p.2.2≠2:=λp hp=>by
  obtain⟨j,hj⟩:=List.getElem?_of_mem hp
  by_cases e:j=k
  ·subst e
   have e1:p=(g,cs',t):=by
    rw[List.getElem?_set_self (List.getElem?_eq_some_iff.1 hk).1] at hj
    exact(Option.some.inj hj).symm
   subst e1
   exact⟨⟨hb,hg.2⟩,ht⟩
  ·rw[List.getElem?_set_ne (λe'=>e e'.symm)] at hj
   have hm:=List.mem_of_getElem? hj
   exact⟨⟨(h.bx p hm).1.chg hc (h.other hk hj e),(h.bx p hm).2⟩,h.ty p hm⟩
 refine⟨h.chg.young hc (λx hx hl=>by have hx':x=g:=hx;have:=hg.2;simp only at this;omega),h.src.chg hc (λx hx=>?_),λp hp=>(key p hp).1,λp hp=>(key p hp).2,?_⟩
 ·have hx':x=g:=hx
  subst hx'
  exact⟨_,_,hg.1,ht.1,ht.2.1⟩
 ·rw[List.map_set]
  have e:(bl.map (·.1)).set k g=bl.map (·.1):=by
   apply List.ext_getElem?
   intro j
   by_cases e:j=k
   ·subst e
    rw[List.getElem?_set_self (by rw[List.length_map];exact(List.getElem?_eq_some_iff.1 hk).1),List.getElem?_map,hk]
    rfl
   ·rw[List.getElem?_set_ne (λe'=>e e'.symm)]
  show(List.map (λx=>x.1) bl |>.set k g).Nodup
  rw[e]
  exact h.nd
theorem FR.set (h:FR D b w0 w S bl)(k:Nat){g t:Nat}{cs:Array Value}(hk:bl[k]?=some (g,cs,t))(i:Nat)(v:Value):FR D b w0 (w.setCell ⟨g,i,none⟩ v) S (bl.set k (g,cs.setIfInBounds i v,t)):=
 h.turn k hk (Chg.set _ _ _ rfl) ((h.at k hk).set i v)
theorem FR.grow (h:FR D b w0 w S bl){v:Value}{zs:List Int}{C:Nat}(ho:Qb C w v zs)(hC:w0.heap.size<=C)(hc:Chg (λx=>some x=v.ownBlock) w w'):FR D b w0 w' S bl:=
 ⟨h.chg.young hc (λx hx hl=>by have:=(Ql ho x hx.symm).1;omega),h.src.row ho (by decide) (by decide) hc,λp hp=>⟨(h.bx p hp).1.row ho (h.ty p hp).2.2 hc,(h.bx p hp).2⟩,h.ty,h.nd⟩
theorem FR.rowDrawn (h:FR D b w0 w S bl){v:Value}{zs:List Int}{C:Nat}(ho:Qb C w v zs)(k:Chg (Sx1 b) w w'):Qb C w' v zs:=by
 obtain⟨u,hb,_⟩:=h.src
 exact Jm ho k (λx hx e=>by
  have e':x=b:=e
  subst e'
  exact hb.neRow ho (by decide) hx.symm)
theorem FR.rowTurn (h:FR D b w0 w S bl)(k:Nat){g t:Nat}{cs:Array Value}(hk:bl[k]?=some (g,cs,t)){v:Value}{zs:List Int}{C:Nat}(ho:Qb C w v zs)(hc:Chg (λx=>x=g) w w'):Qb C w' v zs:=
 Jm ho hc (λx hx e=>by
  have e':x=g:=e
  subst e'
  exact(h.at k hk).neRow ho (h.ty _ (List.mem_of_getElem? hk)).2.2 hx.symm)
end
theorem Chg.keepsB {b B:Nat}{w w':World}(h:Chg (Sx1 b) w w')(hB:b<B):Xs B w w':=
 ⟨h.size,λg hg hs o=>by
  have hb:=h.block g hs (show ¬g=b by omega)
  unfold World.cell?
  simp only[hb]⟩
def ewy (es:List Eg)(e:Int):Int:=(eat es e.toNat).way
def hdN (l:List Nat):Nat:=l.headD 0
def laL (l:List Nat):Nat:=l.getLastD 0
def ltd (ts:List (List Nat))(i:Nat):List Nat:=ts.getD i []
structure Q0y where
 S:Src
 fin:Int
 ways:List Int
 stop:Bool
def U2 (ws:List Wy)(es:List Eg)(ts:List (List Nat))(e:Nat)(x:Int×List Int):Nat->Int×List Int
 |0=>x
 |i+1=>if hdN (ltd ts i)=e/\(U2 ws es ts e x i).2.length<4 then ((eat es (laL (ltd ts i))).head,(U2 ws es ts e x i).2++[Tq ws (ewy es e)]) else U2 ws es ts e x i
def Q1z (N:Nt)(es:List Eg)(e:Nat)(x:Int×List Int):Int×List Int:=U2 N.ways es (Vg N es (ewy es e).toNat) e x (Vg N es (ewy es e).toNat).length
def Uw (N:Nt)(es:List Eg)(x:Q0y):Q0y:=
 if x.stop then x else if pkV es x.fin true x.S<0 then ⟨pkS es x.fin true x.S,x.fin,x.ways,true⟩
 else ⟨pkS es x.fin true x.S,(Q1z N es (pkV es x.fin true x.S).toNat (x.fin,x.ways)).1,(Q1z N es (pkV es x.fin true x.S).toNat (x.fin,x.ways)).2,false⟩
def Vz (N:Nt)(es:List Eg)(x:Q0y):Nat->Q0y
 |0=>x
 |k+1=>Uw N es (Vz N es x k)
def dnA (es:List Eg)(S1:Src):Int:=nv S1 es.length
def Q44 (es:List Eg)(S1:Src):Int:=(eat es (dnA es S1).toNat).head
def dnB (es:List Eg)(S1:Src):Int:=pkV es (Q44 es S1) true (ns S1 es.length)
def dnS (es:List Eg)(S1:Src):Src:=pkS es (Q44 es S1) true (ns S1 es.length)
def dwW (N:Nt)(S1:Src):Nat:=(nv S1 N.ways.length).toNat
def dwT (N:Nt)(es:List Eg)(S1:Src):List (List Nat):=Vg N es (dwW N S1)
def Qab (N:Nt)(es:List Eg)(S1:Src):List Nat:=ltd (dwT N es S1) (nv (ns S1 N.ways.length) (dwT N es S1).length).toNat
def Q42 (N:Nt)(es:List Eg)(S1:Src):Src:=ns (ns S1 N.ways.length) (dwT N es S1).length
def Q7j (N:Nt)(es:List Eg)(S1:Src):Int:=(eat es (hdN (Qab N es S1))).tail
def dwA (N:Nt)(es:List Eg)(S1:Src):Int:=pkV es (Q7j N es S1) false (Q42 N es S1)
def Fu (N:Nt)(es:List Eg)(S1:Src):Src:=pkS es (Q7j N es S1) false (Q42 N es S1)
def dwX (N:Nt)(es:List Eg)(S1:Src):Q0y:=⟨ns (Fu N es S1) 3,(eat es (laL (Qab N es S1))).head,[(wat N.ways (dwW N S1)).id],false⟩
def dwM (N:Nt)(es:List Eg)(S1:Src):Q0y:=Vz N es (dwX N es S1) (nv (Fu N es S1) 3).toNat
def dwB (N:Nt)(es:List Eg)(S1:Src):Int:=pkV es (dwM N es S1).fin true (dwM N es S1).S
def Q2g (N:Nt)(es:List Eg)(S1:Src):Src:=pkS es (dwM N es S1).fin true (dwM N es S1).S
def drR (N:Nt)(R:Rd)(S:Src):Rl:=
 if nv S 10=0\/R.edges.length=0 then Jq N (ns S 10)
 else if nv S 10<6 then
  if dnB R.edges (ns S 10)<0 then Jq N (dnS R.edges (ns S 10))
  else ⟨0,false,Tq N.ways (ewy R.edges (dnA R.edges (ns S 10))),Tq N.ways (ewy R.edges (dnB R.edges (ns S 10))),true,iat R.nodes (Q44 R.edges (ns S 10)).toNat,[]⟩
 else if dwA N R.edges (ns S 10)<0\/dwB N R.edges (ns S 10)<0 then Jq N (Q2g N R.edges (ns S 10))
 else ⟨0,false,Tq N.ways (ewy R.edges (dwA N R.edges (ns S 10))),Tq N.ways (ewy R.edges (dwB N R.edges (ns S 10))),false,0,(dwM N R.edges (ns S 10)).ways⟩
def drS (N:Nt)(R:Rd)(S:Src):Src:=
 if nv S 10=0\/R.edges.length=0 then Xr N (ns S 10)
 else if nv S 10<6 then
  if dnB R.edges (ns S 10)<0 then Xr N (dnS R.edges (ns S 10)) else dnS R.edges (ns S 10)
 else if dwA N R.edges (ns S 10)<0\/dwB N R.edges (ns S 10)<0 then Xr N (Q2g N R.edges (ns S 10)) else Q2g N R.edges (ns S 10)
theorem Yp {es:List Eg}{nd:Int}{out:Bool}{S:Src}(h:SOk S):SOk (pkS es nd out S)/\(pkS es nd out S).size=S.size:=by
 unfold pkS
 split
 ·exact⟨h,rfl⟩
 ·exact⟨Qj h _,Qs _ _⟩
theorem I6 (es:List Eg)(nd:Int)(out:Bool):∀k,∀x∈J5 es nd out k,∃e:Nat,x=e/\e<k
 |0,x,hx=>by simp[J5] at hx
 |k+1,x,hx=>by
  unfold J5 at hx
  split at hx
  ·rcases List.mem_append.1 hx with g|g
   ·obtain⟨e,h1,h2⟩:=I6 es nd out k x g
    exact⟨e,h1,by omega⟩
   ·exact⟨k,by simpa using g,by omega⟩
  ·obtain⟨e,h1,h2⟩:=I6 es nd out k x hx
   exact⟨e,h1,by omega⟩
theorem Q0j {es:List Eg}{nd:Int}{out:Bool}{S:Src}(h:SOk S):pkV es nd out S=-1\/∃e:Nat,pkV es nd out S=e/\e<es.length:=by
 unfold pkV
 split
 ·exact Or.inl rfl
 ·rename_i q
  have k:=Qt h ((J5 es nd out es.length).length:Int)
  have hi:(nv S (J5 es nd out es.length).length).toNat<(J5 es nd out es.length).length:=by
   have:=k.2 (by omega)
   omega
  rw[V7 hi]
  exact Or.inr (I6 es nd out es.length _ (List.getElem_mem hi))
theorem Kb {N:Nt}{es:List Eg}{x:Q0y}(h:SOk x.S):∀k,SOk (Vz N es x k).S/\(Vz N es x k).S.size=x.S.size
 |0=>⟨h,rfl⟩
 |k+1=>by
  have k1:=Kb (N:=N) (es:=es) h k
  have e:Vz N es x (k+1)=Uw N es (Vz N es x k):=rfl
  rw[e]
  unfold Uw
  split
  ·exact k1
  ·split
   ·exact⟨(Yp k1.1).1,(Yp k1.1).2.trans k1.2⟩
   ·exact⟨(Yp k1.1).1,(Yp k1.1).2.trans k1.2⟩
theorem Ab {N:Nt}{es:List Eg}{x:Q0y}{j:Nat}(h:(Vz N es x j).stop=true):∀k,j<=k->Vz N es x k=Vz N es x j
 |0,hk=>by have:j=0:=by omega
           subst this;rfl
 |k+1,hk=>by
  by_cases e:j=k+1
  ·subst e;rfl
  ·have k1:=Ab h k (by omega)
   have e1:Vz N es x (k+1)=Uw N es (Vz N es x k):=rfl
   rw[e1,k1]
   unfold Uw
   rw[if_pos h]
theorem Fl (ws:List Wy)(es:List Eg)(ts:List (List Nat))(e:Nat){x:Int×List Int}(h:x.2.length<=4):∀i,(U2 ws es ts e x i).2.length<=4
 |0=>h
 |i+1=>by
  have k:=Fl ws es ts e h i
  unfold U2
  split
  ·rename_i q
   simp only[List.length_append,List.length_singleton]
   omega
  ·exact k
theorem Fb {N:Nt}{es:List Eg}{x:Q0y}(h:x.ways.length<=4):∀k,(Vz N es x k).ways.length<=4
 |0=>h
 |k+1=>by
  have k1:=Fb (N:=N) (es:=es) h k
  have e:Vz N es x (k+1)=Uw N es (Vz N es x k):=rfl
  rw[e]
  unfold Uw
  split
  ·exact k1
  ·split
   ·exact k1
   ·exact Fl _ _ _ _ k1 _
theorem Q43 {N:Nt}{R:Rd}{S:Src}(h:SOk S):SOk (drS N R S)/\(drS N R S).size=S.size:=by
 have h1:=Qj h 10
 have z1:=Qs S 10
 have hn:SOk (dnS R.edges (ns S 10))/\(dnS R.edges (ns S 10)).size=S.size:=by
  have k:=Yp (es:=R.edges) (nd:=Q44 R.edges (ns S 10)) (out:=true) (Qj h1 R.edges.length)
  exact⟨k.1,k.2.trans ((Qs _ _).trans z1)⟩
 have h4:SOk (Fu N R.edges (ns S 10))/\(Fu N R.edges (ns S 10)).size=S.size:=by
  have k:=Yp (es:=R.edges) (nd:=Q7j N R.edges (ns S 10)) (out:=false) (S:=Q42 N R.edges (ns S 10)) (Qj (Qj h1 _) _)
  refine⟨k.1,k.2.trans ?_⟩
  unfold Q42
  rw[Qs,Qs,z1]
 have hm:SOk (dwM N R.edges (ns S 10)).S/\(dwM N R.edges (ns S 10)).S.size=S.size:=by
  have k:=Kb (N:=N) (es:=R.edges) (x:=dwX N R.edges (ns S 10)) (Qj h4.1 3) (nv (Fu N R.edges (ns S 10)) 3).toNat
  refine⟨k.1,k.2.trans ?_⟩
  show(ns (Fu N R.edges (ns S 10)) 3).size=_
  rw[Qs,h4.2]
 have h7:SOk (Q2g N R.edges (ns S 10))/\(Q2g N R.edges (ns S 10)).size=S.size:=by
  have k:=Yp (es:=R.edges) (nd:=(dwM N R.edges (ns S 10)).fin) (out:=true) hm.1
  exact⟨k.1,k.2.trans hm.2⟩
 have rd:∀{T:Src},SOk T/\T.size=S.size->SOk (Xr N T)/\(Xr N T).size=S.size:=λhT=>⟨(Q1i hT.1).1,(Q1i hT.1).2.trans hT.2⟩
 unfold drS
 split
 ·exact rd ⟨h1,z1⟩
 ·split
  ·split
   ·exact rd hn
   ·exact hn
  ·split
   ·exact rd h7
   ·exact h7
theorem Q2i {N:Nt}{R:Rd}{S:Src}(h:SOk S):(drR N R S).ways.length<=4:=by
 have h1:=Qj h 10
 have rd:∀{T:Src},SOk T->(Jq N T).ways.length<=4:=λ{T} hT=>by
  have hs:SOk (ns (Zk N T) 2):=Qj (Qj (Qj hT _) _) _
  unfold Jq
  split
  ·exact Nat.zero_le _
  ·have k:=(Ga (ws:=N.ways) (x:=⟨ns (ns (Zk N T) 2) 4,[]⟩) (show SOk (ns (ns (Zk N T) 2) 4) from Qj hs _) rfl (1+nv (ns (Zk N T) 2) 4).toNat).2.1
   have v:=Qt hs 4
   show(K5 N T).l.length<=4
   unfold K5
   rw[k]
   omega
 have hn:SOk (dnS R.edges (ns S 10)):=(Yp (es:=R.edges) (nd:=Q44 R.edges (ns S 10)) (out:=true) (Qj h1 R.edges.length)).1
 have h4:SOk (Fu N R.edges (ns S 10)):=(Yp (es:=R.edges) (nd:=Q7j N R.edges (ns S 10)) (out:=false) (S:=Q42 N R.edges (ns S 10)) (Qj (Qj h1 _) _)).1
 have hm:SOk (dwM N R.edges (ns S 10)).S:=(Kb (N:=N) (es:=R.edges) (x:=dwX N R.edges (ns S 10)) (Qj h4 3) (nv (Fu N R.edges (ns S 10)) 3).toNat).1
 have h7:SOk (Q2g N R.edges (ns S 10)):=(Yp (es:=R.edges) (nd:=(dwM N R.edges (ns S 10)).fin) (out:=true) hm).1
 unfold drR
 split
 ·exact rd h1
 ·split
  ·split
   ·exact rd hn
   ·exact Nat.zero_le _
  ·split
   ·exact rd h7
   ·exact Fb (x:=dwX N R.edges (ns S 10)) (show([_]:List Int).length<=4 by simp) _
structure Eu (N:Nt)(R:Rd):Prop where
 len:R.edges.length<=4000
 way:∀e,e<R.edges.length->∃i:Nat,i<N.ways.length/\(eat R.edges e).way=i
 head:∀e,e<R.edges.length->∃i:Nat,i<R.nodes.length/\(eat R.edges e).head=i
 trav:∀i,i<N.ways.length->0<R.edges.length->∀l∈Vg N R.edges i,l≠[]/\∀e∈l,e<R.edges.length
theorem rd_in (N:Nt):Eu N (Vb N):=by
 unfold Vb
 by_cases hv:Qn N=true
 ·rw[if_pos hv]
  have hr:=Gc hv
  have h2:=Q0a hv
  refine⟨E1_le hr,(lk_in hv).way,λe he=>?_,λi hi _ l hl=>?_⟩
  ·obtain⟨a,c⟩:=Qcp hr he
   exact⟨(eat (E1 N) e).head.toNat,by show _<N.nodes.length;omega,by show(eat (E1 N) e).head=_;omega⟩
  ·have ht:=Ft hr h2 hi
   replace hl:l∈Vg N (E1 N) i:=hl
   have hin:∀e∈l,e<(E1 N).length:=λe he=>by
    unfold Vg at hl
    rcases List.mem_append.1 hl with g|g
    ·have e1:l=Vv (E1 N) i (E1 N).length:=by simpa using g
     rw[e1] at he
     unfold Vv at he
     exact List.mem_range.1 (List.mem_filter.1 he).1
    ·split at g
     ·have e1:l=Xm (E1 N) i (E1 N).length:=by simpa using g
      rw[e1] at he
      unfold Xm at he
      exact List.mem_range.1 (List.mem_filter.1 (List.mem_reverse.1 he)).1
     ·simp at g
   refine⟨?_,hin⟩
   unfold Vg at hl
   rcases List.mem_append.1 hl with g|g
   ·have e1:l=Vv (E1 N) i (E1 N).length:=by simpa using g
    rw[e1]
    exact ht.1
   ·split at g
    ·rename_i hb
     have e1:l=Xm (E1 N) i (E1 N).length:=by simpa using g
     rw[e1]
     exact ht.2 hb
    ·simp at g
 ·rw[if_neg hv]
  exact⟨Nat.zero_le _,λe he=>absurd he (Nat.not_lt_zero _),λe he=>absurd he (Nat.not_lt_zero _),λi hi h0=>absurd h0 (Nat.not_lt_zero _)⟩
end Go.Proofs.YtmmolhlihhdkcaaGreatDoor
