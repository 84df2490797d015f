import Derived.Test.YtphiaobccollhaaGreatQBD
import Derived.Test.YtphiaobccollhaaGreatQVQH
import Derived.Test.YtphiaobccollhaaGreatQVGF
import Derived.Test.YtphiaobccollhaaGreatRows
import Derived.ProofKit
import Derived.OpenShut
import Derived.ShutString
import Derived.ChangeOld
import Derived.Below
namespace Go.Proofs.YtphiaobccollhaaGreat
open Go.RowKit Go.Sort
set_option linter.unusedVariables false
set_option maxRecDepth 1000000
set_option maxHeartbeats 16000000
variable {G:Gr}{s v:Nat}{E:List Int}{c:Int}{w:World}
theorem E3 {G:Gr}(h:VG G){v:Nat}(hv:v<G.eo.length){b:Nat}(hb:fst G v<=b):∀d,b+d+1<fst G (v+1)->Us G b<Us G (b+d+1)
 |0,hd=>by
  have h1:=(Jr h (v:=v) (by omega)).1
  have h2:=(Jr h (v:=v+1) (by omega)).1
  have:=h.asc v hv (b+1) (by omega) (by omega)
  simpa using this
 |d+1,hd=>by
  have h1:=(Jr h (v:=v) (by omega)).1
  have h2:=(Jr h (v:=v+1) (by omega)).1
  have h3:=E3 h hv hb d (by omega)
  have h4:=h.asc v hv (b+d+1+1) (by omega) (by omega)
  rw[Nat.add_sub_cancel] at h4
  show Us G b<Us G (b+d+1+1)
  omega
theorem Qcj (h:VG G){a:Nat}(hv:v<G.eo.length)(h1:fst G v<=a)(h2:a<fst G (v+1)):Xd G v (iat G.tt a)=a:=by
 unfold Xd
 refine Wt h1 (by omega) (by simp) λb hb hba=>?_
 have hg:=E3 h hv hb (a-b-1) (by omega)
 rw[show b+(a-b-1)+1=a by omega] at hg
 rw[Bool.eq_false_iff]
 intro e
 have e':iat G.tt b=iat G.tt a:=by simpa using e
 unfold Us at hg
 rw[e'] at hg
 omega
theorem Q34 {G:Gr}(h:VG G){v u:Nat}{k:Int}(hm:(u,k)∈Qz G v):∀n,u<n->n<=G.eo.length->Vw G v (eoG G u) n=u
 |0,hn,_=>absurd hn (zK _)
 |n+1,hn,hl=>by
  obtain⟨hv,a,h1,h2,h3,-⟩:=(Ul h).1 hm
  have ht:=h.tt a (Q2c h hv h2)
  have hu:iat G.tt a=(u:Int):=by omega
  unfold Vw
  by_cases e:n=u
  ·subst e
   have ha:=Qcj h hv h1 h2
   rw[hu] at ha
   rw[if_pos]
   rw[ha]
   simp[eoG]
  ·rw[if_neg]
   ·exact Q34 h hm n (by omega) (by omega)
   ·intro c
    simp only[zG,beq_iff_eq,decide_eq_true_eq] at c
    obtain⟨b,-,b1,b2,-,b4⟩:=Ai h hv c.2
    have gb:Us G b=iat G.eo n:=by unfold Us;rw[b4,zU]
    have ga:Us G a=iat G.eo u:=by unfold Us;rw[hu,zU]
    have ge:Us G a=Us G b:=by rw[ga,gb,c.1];rfl
    rcases Nat.lt_trichotomy a b with q|q|q
    ·have hg:=E3 h hv h1 (b-a-1) (by omega)
     rw[show a+(b-a-1)+1=b by omega] at hg
     omega
    ·subst q;omega
    ·have hg:=E3 h hv b1 (a-b-1) (by omega)
     rw[show b+(a-b-1)+1=a by omega] at hg
     omega
theorem Yt {l m:List Int}{i:Nat}(h:i<l.length):iat (l++m) i=iat l i:=by
 unfold iat
 rw[zD,zD,zT h]
theorem It (l:List Int)(x:Int):iat (l++[x]) l.length=x:=by
 unfold iat
 rw[zD,yA lR,Nat.sub_self]
 rfl
theorem Ad {G:Gr}{P X:List Int}:∀k,k<P.length->Jp G (P++X) k=Jp G P k
 |0,h=>by unfold Jp;rw[Yt h]
 |k+1,h=>by unfold Jp;rw[Ad k (by omega),Yt h,Yt (by omega)]
theorem Q0u {G:Gr}{E X:List Int}:∀k,k<E.length->Vr G (E++X) k=Vr G E k
 |0,h=>by unfold Vr;rw[Yt h]
 |k+1,h=>by unfold Vr;rw[Q0u k (by omega),Yt h]
structure PWk (G:Gr)(s:Nat)(E:List Int)(c:Int)(v:Nat)(Q:List Int):Prop where
 le:Q.length=E.length
 l0:0<Q.length
 la:iat Q (Q.length-1)=v
 co:Jp G Q (Q.length-1)=c
 eo:Q.map (λx=>iat G.eo x.toNat)=E
 b:∀i,i<Q.length->0<=iat Q i/\iat Q i<G.eo.length
 st:iat G.sr (iat G.eo (iat Q 0).toNat).toNat=iat Q 0
 a:∀i,i+1<Q.length->0<=Xd G (iat Q i).toNat (iat Q (i+1))
 lf:Vr G E (E.length-1)=some Q
 hd:iat E 0=s
 wk:WK (eoG G) (Qz G) (stG G s) (iat G.we s) E c v
theorem PWk.base (h:VG G)(hs:s<G.sr.length):PWk G s [eoG G (stG G s)] (iat G.we s) (stG G s) [iat G.sr s]:=by
 obtain⟨h1,h2,h3⟩:=Qac h hs
 have h4:iat G.eo (iat G.sr s).toNat=s:=h3
 refine⟨rfl,Nat.one_pos,h2,?_,rfl,λi hi=>?_,?_,λi hi=>by simp at hi,?_,h3,WK.base⟩
 ·show iat G.we (iat G.eo (iat G.sr s).toNat).toNat=_
  rw[h4,zU]
 ·have:i=0:=by simp at hi;omega
  subst this
  show 0<=iat G.sr s/\iat G.sr s<_
  omega
 ·show iat G.sr (iat G.eo (iat G.sr s).toNat).toNat=iat G.sr s
  rw[h4,zU]
 ·show some [iat G.sr (eoG G (stG G s)).toNat]=_
  rw[h3,zU]
theorem PWk.step (h:VG G){u:Nat}{Q:List Int}{k:Int}(hp:PWk G s E c v Q)(hm:(u,k)∈Qz G v):PWk G s (E++[eoG G u]) (c+k) u (Q++[(u:Int)]):=by
 obtain⟨hv,a,h1,h2,h3,h4⟩:=(Ul h).1 hm
 have ht:=h.tt a (Q2c h hv h2)
 have hu:iat G.tt a=(u:Int):=by omega
 have ha:=Qcj h hv h1 h2
 rw[hu] at ha
 have hle:=hp.le
 have hl0:=hp.l0
 have hq:(Q++[(u:Int)]).length=Q.length+1:=by simp
 have he:(E++[eoG G u]).length-1=Q.length-1+1:=by simp;omega
 have hla:=hp.la
 have e1:iat (Q++[(u:Int)]) (Q.length-1+1)=u:=by rw[show Q.length-1+1=Q.length by omega];exact It _ _
 have e2:iat (Q++[(u:Int)]) (Q.length-1)=v:=by rw[Yt (by omega)];exact hla
 refine⟨by simp[hle],by omega,?_,?_,?_,λi hi=>?_,?_,λi hi=>?_,?_,?_,hp.wk.step hm⟩
 ·rw[hq,Nat.add_sub_cancel];exact It _ _
 ·rw[hq,Nat.add_sub_cancel,show Q.length=Q.length-1+1 by omega]
  unfold Jp
  rw[Ad _ (by omega),hp.co,e2,e1,zU,ha,zU,h4]
 ·rw[yF,hp.eo];rfl
 ·by_cases e:i<Q.length
  ·rw[Yt e];exact hp.b i e
  ·have:i=Q.length:=by omega
   subst this
   rw[It]
   omega
 ·rw[Yt hl0];exact hp.st
 ·by_cases e:i+1<Q.length
  ·rw[Yt e,Yt (by omega)];exact hp.a i e
  ·have:i=Q.length-1:=by omega
   subst this
   rw[e2,e1,zU,ha]
   omega
 ·rw[he]
  have hf:Vr G (E++[eoG G u]) (Q.length-1)=some Q:=by rw[Q0u _ (by omega),hle];exact hp.lf
  have hx:iat (E++[eoG G u]) (Q.length-1+1)=eoG G u:=by rw[show Q.length-1+1=E.length by omega];exact It _ _
  have hs:=Q34 h hm G.eo.length (by omega) lR
  rw[Q3u hf (by rw[hla,zU,hx,hs];omega),hla,zU,hx,hs]
 ·rw[Yt (by omega)];exact hp.hd
theorem PWk.of (h:VG G)(hs:s<G.sr.length)(k:WK (eoG G) (Qz G) (stG G s) (iat G.we s) E c v):∃Q,PWk G s E c v Q:=by
 induction k using WK.ind with
 |base=>exact⟨_,PWk.base h hs⟩
 |step _ hm ih=>
  obtain⟨Q,hQ⟩:=ih
  exact⟨_,hQ.step h hm⟩
section
variable {G:Gr}{s v:Nat}{E Q:List Int}{c:Int}
theorem PWk.path (h:PWk G s E c v Q)(hl:Q.length<=10000):Xr G Q=true:=by
 refine(Qbf rfl h.l0 hl (Qt lR λi hi=>?_)).symm
 have h1:=h.b i hi
 unfold pOk
 rw[zG,zG,decide_eq_true_eq,decide_eq_true_eq]
 refine⟨h1,?_⟩
 match i with
 |0=>simp[En,h.st]
 |i+1=>simp[En,h.a i hi]
theorem PWk.cost (h:PWk G s E c v Q)(hV:Qq G=true)(hl:Q.length<=10000):Xo G Q=c:=by
 unfold Xo
 rw[hV,h.path hl,Bool.and_self,if_pos rfl]
 exact h.co
theorem PWk.edges (h:PWk G s E c v Q)(hV:Qq G=true)(hl:Q.length<=10000):Xf G Q=E:=by
 unfold Xf
 rw[hV,h.path hl,Bool.and_self,if_pos rfl]
 exact h.eo
theorem PWk.lift (h:PWk G s E c v Q)(hV:Qq G=true)(hl:E.length<=10000)(hs:s<G.sr.length):Vd G E=Q:=by
 have h1:=h.l0
 have h2:=h.le
 unfold Vd
 rw[if_pos,h.lf]
 ·rfl
 ·unfold Qb9
  rw[hV,h.hd]
  simp
  omega
theorem PWk.last (h:PWk G s E c v Q):iat E (E.length-1)=eoG G v:=by
 obtain⟨E0,rfl⟩:=h.wk.last
 rw[zA,List.length_singleton,Nat.add_sub_cancel]
 exact It _ _
end
theorem Qek (hV:Qq G=true)(hs:s<G.sr.length){P:List Int}(hp:PWk G s E c v P){r:Rt}(hr:G4 G s (eoG G v) r)(hl:r.edges.length<=7001) :
  r.code=0/\0<r.edges.length/\iat r.edges 0=s/\iat r.edges (r.edges.length-1)=eoG G v/\Xo G (Vd G r.edges)=r.cost/\¬Qen c E r.cost r.edges:=by
 have hG:=Q0c hV
 have hvl:v<G.eo.length:=by have:=hp.b (P.length-1) (by have:=hp.l0;omega);rw[hp.la] at this;omega
 have hev:=hG.eo v hvl
 rcases hr with⟨h,_⟩|⟨_,h,_⟩|⟨_,_,hB⟩
 ·rw[hV] at h;cases h
 ·exact absurd ⟨by omega,by omega,hev.1,hev.2⟩ h
 ·rw[zU] at hB
  have hc:r.code=0:=by
   apply Classical.byContradiction
   intro hn
   exact(hB.none hn).2 c E ⟨v,hp.wk,rfl⟩
  obtain⟨⟨u,hu,heu⟩,hmin⟩:=hB.some hc
  obtain⟨Q,hQ⟩:=PWk.of hG hs hu
  have h1:=hQ.le
  have h2:=hQ.l0
  refine⟨hc,by omega,hQ.hd,?_,?_,hmin c E ⟨v,hp.wk,rfl⟩⟩
  ·rw[hQ.last,heu]
  ·rw[hQ.lift hV (by omega) hs]
   exact hQ.cost hV (by omega)
theorem Qdk {c':Int}{E':List Int}(h:¬Qen c E c' E'):c'<=c/\(c'=c->E'.length<=E.length/\(E'.length=E.length->∀i,i<E.length->Q07 E E' i->iat E i≠iat E' i->iat E' i<iat E i)):=by
 unfold Qen at h
 refine⟨by omega,λe=>?_⟩
 have h1:Vh E E'=false:=by
  rw[Bool.eq_false_iff]
  intro hb
  exact h (oR ⟨e.symm,hb⟩)
 unfold Vh at h1
 by_cases el:E.length=E'.length
 ·rw[if_pos el] at h1
  refine⟨by omega,λ_ i hi ha hn=>?_⟩
  rw[Qbb ha hi (by omega) hn] at h1
  have:=of_decide_eq_false h1
  omega
 ·rw[if_neg el] at h1
  have:=of_decide_eq_false h1
  exact⟨by omega,λe2=>absurd e2.symm el⟩
def grF (G:Nat->List Int):Gr:=⟨G 0,G 1,G 2,G 3,G 4,G 5,G 6⟩
theorem R7.hg {C:Nat}{V:Nat->Value}{G:Nat->List Int}(h:R7 C w V G):HG C w (V 0) (V 1) (V 2) (V 3) (V 4) (V 5) (V 6) (grF G):=⟨(h.o 0).held,(h.o 1).held,(h.o 2).held,(h.o 3).held,(h.o 4).held,(h.o 5).held,(h.o 6).held,(h.o 3).capOk⟩
theorem Sml.g {G:Nat->List Int}(h:Sml G):Q2r (grF G):=by
 have k:∀j,j<7->(G j).length<=1048576:=λj hj=>by have:=h j hj;omega
 exact⟨k 0 (by omega),k 1 (by omega),k 2 (by omega),k 3 (by omega),k 4 (by omega),k 5 (by omega),k 6 (by omega)⟩
open Go.Proofs.Tryz
theorem Qi.rw7 {B n:Nat}{a:Option Addr}{m c:Nat}{zs:List Int}(h:Qi B w (sL a m c) zs)(hn:zs.length=n)(hp:0<n):∃b off,a=some (aD b off)/\B<=b/\b<w.heap.size/\∀i,i<n->w.cell? (aD b (off+i))=some (iV (iat zs i)):=by
 subst hn
 obtain⟨a',c',e,-,hk⟩:=h
 simp only[zC] at e
 obtain⟨rfl,-,-⟩:=e
 exact hk hp
def BCp (G:Gr)(s:Nat)(w2:World)(s9:Value)(wX:World):Prop:=∃(j c:Nat) (a:Option Addr) (P E:List Int) (cst:Int) (v:Nat),s9=sL a (j+1) c/\j<=41/\Z (PWk G s E cst v P)/\Z (P.length=j+1)/\Z (Q5 w2.heap.size wX (sL a (j+1) c) P)/\Z (Nx w2 wX)
def BLp (G:Gr)(s st:Nat)(w2:World)(s9 s11:Value)(wr:World):Prop:=∃(i j c:Nat) (a:Option Addr) (P E:List Int) (cst:Int) (v:Nat),s11=iV (i:Int)/\1<=i/\i<=st+1/\j<i/\s9=sL a (j+1) c/\Z (PWk G s E cst v P)/\Z (P.length=j+1)/\Z (Q5 w2.heap.size wr (sL a (j+1) c) P)/\Z (Nx w2 wr)
theorem Qca (B B':Nat)(v v':Value)(code more:List UInt8)(w:World)(h:HBy B w v code)(h':HBy B' w v' more) :
  Calls prog 3 #[v,v'] w λe w'=>e=.returned (.bool true)/\Nx w w':=by
 have hmx:prog.follows .mixedOrders=true:=by kernel_rfl
 obtain⟨F,hF⟩:=Qg5
 have HB:=mh h
 have HM:=mh h'
 have HGF:Z (GcF F):=hF
 obtain⟨ca,cc,rfl,hm1,hk⟩:=h
 obtain⟨ma,mc,rfl,hm2,hk'⟩:=h'
 by_cases hn:code.length<=1048576
 case neg=>
  have hn':(1048576:Int)<(code.length:Int):=by omega
  clear hk hk' hm1 hm2
  generalize code.length=n at *
  generalize more.length=n' at *
  go_enter func3,ntmps3
  go_wp2
  go_ret
  exact⟨rfl,Nx.refl _⟩
 case pos=>
 by_cases hm:more.length<=1048576
 case neg=>
  have hn':¬(1048576:Int)<(code.length:Int):=by omega
  have hn2':(1048576:Int)<(more.length:Int):=by omega
  clear hk hk' hm1 hm2
  generalize code.length=n at *
  generalize more.length=n' at *
  go_enter func3,ntmps3
  go_wp2
  go_ret
  exact⟨rfl,Nx.refl _⟩
 case pos=>
 have hn':¬(1048576:Int)<(code.length:Int):=by omega
 have hn2':¬(1048576:Int)<(more.length:Int):=by omega
 have HL:=mh hn
 have HLM:=mh hm
 clear hk hk' hm1 hm2 hn hm hF
 generalize hcl:code.length=n at *
 generalize hml:more.length=n' at *
 go_enter func3,ntmps3
 go_upto_region 3 with fail
 replace HL:Z (code.length<=1048576):=by rw[hcl];exact HL.o
 replace HLM:Z (more.length<=1048576):=by rw[hml];exact HLM.o
 clear hn' hn2' hcl hml
 go_wp2_with fail
 refine(Kg B _ code F HGF.o w HB.o HL.o).mono ?_
 rintro e w1 ⟨⟨V,y1,z1,rfl,hR,hSm⟩,hx1⟩
 have HR1:=mh hR
 have HSM:=mh hSm
 have HX1:=mh hx1
 have HDR:Z (∀w',Nx w w'->Calls prog 4 #[sL ca n cc] w' λe w''=>DSE w' w'' (dgX (dvX F (Kd code))).1 e):=λw' hx=>Kg B _ code F HGF.o w' (HB.o.next hx) HL.o
 clear hR hSm hx1 HB HGF HL
 generalize (dgX (dvX F (Kd code))).1=ZZ at *
 obtain⟨m0,hl0⟩:∃m,(ZZ 0).length=m:=⟨_,rfl⟩
 obtain⟨m1,hl1⟩:∃m,(ZZ 1).length=m:=⟨_,rfl⟩
 obtain⟨m2,hl2⟩:∃m,(ZZ 2).length=m:=⟨_,rfl⟩
 obtain⟨m3,hl3⟩:∃m,(ZZ 3).length=m:=⟨_,rfl⟩
 obtain⟨m4,hl4⟩:∃m,(ZZ 4).length=m:=⟨_,rfl⟩
 obtain⟨m5,hl5⟩:∃m,(ZZ 5).length=m:=⟨_,rfl⟩
 obtain⟨m6,hl6⟩:∃m,(ZZ 6).length=m:=⟨_,rfl⟩
 obtain⟨a0,c0,e0⟩:=(HR1.o.o 0).slice
 rw[hl0] at e0
 obtain⟨a1,c1,e1⟩:=(HR1.o.o 1).slice
 rw[hl1] at e1
 obtain⟨a2,c2,e2⟩:=(HR1.o.o 2).slice
 rw[hl2] at e2
 obtain⟨a3,c3,e3⟩:=(HR1.o.o 3).slice
 rw[hl3] at e3
 obtain⟨a4,c4,e4⟩:=(HR1.o.o 4).slice
 rw[hl4] at e4
 obtain⟨a5,c5,e5⟩:=(HR1.o.o 5).slice
 rw[hl5] at e5
 obtain⟨a6,c6,e6⟩:=(HR1.o.o 6).slice
 rw[hl6] at e6
 have HG1:Z (HG w.heap.size w1 (sL a0 m0 c0) (sL a1 m1 c1) (sL a2 m2 c2) (sL a3 m3 c3) (sL a4 m4 c4) (sL a5 m5 c5) (sL a6 m6 c6) (grF ZZ)):=by rw[<-e0,<-e1,<-e2,<-e3,<-e4,<-e5,<-e6];exact HR1.o.hg
 rw[gx,e0,e1,e2,e3,e4,e5,e6]
 clear e0 e1 e2 e3 e4 e5 e6
 have HSG:=mh HSM.o.g
 have hm5:m5<=60000:=by rw[<-hl5];exact HSM.o 5 (by omega)
 have HLS:Z ((grF ZZ).sr.length=m5):=hl5
 have HLE:Z ((grF ZZ).eo.length=m0):=hl0
 have HLT:Z ((grF ZZ).tt.length=m3):=hl3
 have HLF:Z ((grF ZZ).fi.length=m2):=hl2
 have HR2X:Z (∀w' w'',Nx w w'->∀e,DSE w' w'' ZZ e->∃b0 d0 b1 d1 b2 d2 b3 d3 b4 d4 b5 d5 b6 d6 y z,e=.returned (.tuple #[.agg #[sL b0 m0 d0,sL b1 m1 d1,sL b2 m2 d2,sL b3 m3 d3,sL b4 m4 d4,sL b5 m5 d5,sL b6 m6 d6],iV y,iV z])/\HG w.heap.size w'' (sL b0 m0 d0) (sL b1 m1 d1) (sL b2 m2 d2) (sL b3 m3 d3) (sL b4 m4 d4) (sL b5 m5 d5) (sL b6 m6 d6) (grF ZZ)/\Nx w' w''):=λw' w'' hx e hd=>by
  obtain⟨⟨V,y,z,rfl,hR,-⟩,hx2⟩:=hd
  obtain⟨b0,d0,e0⟩:=(hR.o 0).slice
  rw[hl0] at e0
  obtain⟨b1,d1,e1⟩:=(hR.o 1).slice
  rw[hl1] at e1
  obtain⟨b2,d2,e2⟩:=(hR.o 2).slice
  rw[hl2] at e2
  obtain⟨b3,d3,e3⟩:=(hR.o 3).slice
  rw[hl3] at e3
  obtain⟨b4,d4,e4⟩:=(hR.o 4).slice
  rw[hl4] at e4
  obtain⟨b5,d5,e5⟩:=(hR.o 5).slice
  rw[hl5] at e5
  obtain⟨b6,d6,e6⟩:=(hR.o 6).slice
  rw[hl6] at e6
  refine⟨b0,d0,b1,d1,b2,d2,b3,d3,b4,d4,b5,d5,b6,d6,y,z,by rw[gx,e0,e1,e2,e3,e4,e5,e6],?_,hx2⟩
  rw[<-e0,<-e1,<-e2,<-e3,<-e4,<-e5,<-e6]
  exact hR.hg.base hx.size
 clear hl0 hl1 hl2 hl3 hl4 hl5 hl6 HR1 HSM
 generalize grF ZZ=G at *
 go_upto_region 4 with fail
 have HBX:Z (BT (w1.alloc (.cells #[sL a0 m0 c0,sL a1 m1 c1,sL a2 m2 c2,sL a3 m3 c3,sL a4 m4 c4,sL a5 m5 c5,sL a6 m6 c6] 25)) w1.heap.size #[sL a0 m0 c0,sL a1 m1 c1,sL a2 m2 c2,sL a3 m3 c3,sL a4 m4 c4,sL a5 m5 c5,sL a6 m6 c6] 25):=BT.new _ _ _ _ rfl
 have HXA:Z (Nx w1 (w1.alloc (.cells #[sL a0 m0 c0,sL a1 m1 c1,sL a2 m2 c2,sL a3 m3 c3,sL a4 m4 c4,sL a5 m5 c5,sL a6 m6 c6] 25))):=Qe _ _
 generalize w1.alloc (.cells #[sL a0 m0 c0,sL a1 m1 c1,sL a2 m2 c2,sL a3 m3 c3,sL a4 m4 c4,sL a5 m5 c5,sL a6 m6 c6] 25)=w2 at *
 generalize w1.heap.size=g at *
 have HX2:=mh (HX1.o.trans HXA.o)
 have HG2:=mh (HG1.o.next HXA.o)
 clear HG1 HXA HX1
 have y0:=(HBX.o.next (Nx.refl _)).c 0 rfl
 have y1:=(HBX.o.next (Nx.refl _)).c 1 rfl
 have y2:=(HBX.o.next (Nx.refl _)).c 2 rfl
 have y3:=(HBX.o.next (Nx.refl _)).c 3 rfl
 have y4:=(HBX.o.next (Nx.refl _)).c 4 rfl
 have y5:=(HBX.o.next (Nx.refl _)).c 5 rfl
 have y6:=(HBX.o.next (Nx.refl _)).c 6 rfl
 go_wp2_with fail
 refine(Yo w.heap.size _ _ _ _ _ _ _ G w2 HG2.o).mono ?_
 rintro e w3 ⟨rfl,hx3⟩
 have HX3:=mh hx3
 clear hx3 y0 y1 y2 y3 y4 y5 y6
 cases hv:Qq G
 case false=>
  go_wp2
  go_ret
  exact⟨rfl,HX2.o.trans HX3.o⟩
 case true=>
 have HV:=mh hv
 have HVG:Z (VG G):=Q0c hv
 clear hv
 have y5:=(HBX.o.next HX3.o).c 5 rfl
 by_cases h5:m5=0
 case pos=>
  subst h5
  go_wp2
  go_ret
  exact⟨rfl,HX2.o.trans HX3.o⟩
 case neg=>
 have h5':((m5:Int)==0)=false:=by simp;omega
 have h5'':¬(m5:Int)=0:=by omega
 go_upto_region 6 with fail
 go_wp2_with fail
 refine(Et B' _ more 1 m5 w3 (HM.o.next (HX2.o.trans HX3.o)) (by omega) (by omega) HLM.o).mono ?_
 rintro e w4 ⟨rfl,hx4⟩
 have HX4:=mh (HX3.o.trans hx4)
 have hs5:lwV more 1 m5<m5:=Q5t (by omega)
 clear hx4 y5 HX3 h5' h5''
 generalize lwV more 1 m5=s at *
 have y5:=(HBX.o.next HX4.o).c 5 rfl
 obtain⟨q5,o5,rfl,-,-,hc5⟩:=(HG2.o.h5).rw7 HLS.o (by omega)
 have z5:=Q0 HX4.o (hc5 s hs5)
 have hs5':(s:Int)<m5:=by omega
 have HP0:=mh (PWk.base HVG.o (by rw[HLS.o];exact hs5))
 generalize iat G.sr s=ss at *
 clear hc5
 have HO4:Z (Q5 w2.heap.size (w4.alloc (.cells #[iV ss] 2)) (sL (sA w4.heap.size) 1 1) [ss]):=⟨rfl,oR ⟨w4.heap.size,1,#[iV ss],rfl,HX4.o.size,BT.new _ _ _ _ rfl,lR,by simp[maxLen],rfl,rfl⟩⟩
 have HX5:Z (Nx w2 (w4.alloc (.cells #[iV ss] 2))):=HX4.o.trans (Qe _ _)
 go_upto_region 8 with fail
 generalize w4.alloc (.cells #[iV ss] 2)=w5 at *
 generalize w4.heap.size=pb at *
 clear y5 z5 HX4
 go_wp2_with fail
 refine(Et B' _ more 0 40 w5 (HM.o.next (HX2.o.trans HX5.o)) (by omega) (by omega) HLM.o).mono ?_
 rintro e w6 ⟨rfl,hx6⟩
 have HX6:=mh (HX5.o.trans hx6)
 have hst:lwV more 0 40<40:=Q5t (by omega)
 have HO6:=mh (HO4.o.next hx6)
 clear hx6 HX5 HO4
 generalize lwV more 0 40=st at *
 obtain⟨q2,o2,rfl,-,-,hc2⟩:=HG2.o.h2.rw7 HLF.o (by have h:=HVG.o.lf;rw[HLF.o] at h;omega)
 have HC2:=mh hc2
 clear hc2
 go_upto_block 0 with fail
 go_cut [9,11,12,13] from 58 to 100 (λs9 s11 s12 s13 wX=>BCp G s w2 s9 wX)
 case first=>
  go_wp2_with fail
  go_loopw [9,11,12,13] (λs9 s11 s12 s13 wr=>BLp G s st w2 s9 s11 wr) (λ_ s11 _ _ _=>st+2-(intOf s11).toNat)
  case atStart=>exact⟨1,0,1,_,[ss],_,_,_,rfl,by omega,by omega,by omega,rfl,HP0,rfl,HO6,HX6⟩
  clear HP0 HO6 HX6
  obtain⟨i,j,pc,pa0,P,E,cst,v,rfl,hi1,hi2,hji,rfl,HP,HPL,HO,HX⟩:=hrel
  by_cases hle:i<=st
  ·have hle':(i:Int)<=st:=by omega
   obtain⟨pa,rfl,hcp⟩:=Q5.cell HO.o (i:=j) (by rw[HPL.o];omega)
   have hla:iat P j=v:=by have h:=HP.o.la;rw[HPL.o,Nat.add_sub_cancel] at h;exact h
   rw[hla] at hcp
   have hwj:IntKind.i64.wrap (j:Int)=(j:Int):=by rw[IntKind.wrap_i64];omega
   have hjj:(j:Int)<(j:Int)+1:=by omega
   have hvl:v<m0:=by have h:=HP.o.b j (by rw[HPL.o];omega);rw[hla,HLE.o] at h;omega
   have hm2:m2=m0+1:=by rw[<-HLF.o,<-HLE.o];exact HVG.o.lf
   have hF0:=Jr HVG.o (v:=v) (by rw[HLE.o];omega)
   have hF1:=Jr HVG.o (v:=v+1) (by rw[HLE.o];omega)
   have hFL:=Ku HVG.o (v:=v) (by rw[HLE.o];omega)
   rw[HLT.o] at hF0 hF1
   have hm3:m3<=60000:=by rw[<-HLT.o];have:=HVG.o.t;omega
   have hmv:m2<=60000:=by have:=HVG.o.v;rw[HLE.o] at this;omega
   have x0:=Q0 HX.o (HC2.o v (by omega))
   have x1:=Q0 HX.o (HC2.o (v+1) (by omega))
   rw[hF0.1] at x0
   rw[hF1.1] at x1
   obtain⟨f0,hf0⟩:∃z,fst G v=z:=⟨_,rfl⟩
   obtain⟨kk,hkk⟩:∃z,fst G (v+1)=f0+z:=⟨fst G (v+1)-f0,by omega⟩
   have HF0:=mh hf0
   have HF1:=mh hkk
   rw[hf0] at x0 hF0
   rw[hkk] at x1 hF1
   have hk3:=hF1.2
   have hwv:IntKind.i64.wrap ((v:Int)+1)=(v:Int)+1:=by rw[IntKind.wrap_i64];omega
   have hv2:(v:Int)+1<m2:=by omega
   have hv2':(v:Int)<m2:=by omega
   have hwk:IntKind.i64.wrap (((f0+kk:Nat):Int)-f0)=(kk:Int):=by rw[IntKind.wrap_i64];omega
   have hwk':IntKind.i64.wrap ((f0:Int)+kk-f0)=(kk:Int):=by rw[IntKind.wrap_i64];omega
   have y2:wr.cell? (aD g 2)=some (sL (some (aD q2 o2)) m2 c2):=(HBX.o.next HX.o).c 2 rfl
   have HM2:=mh hm2
   clear hF0 hF1 hFL hla hf0 hkk hm2
   go_upto_region 13 with fail
   go_region
   have HOd:=mh (HO.o.next (show Nx wr wr.drew from(Below.refl _ _).drew))
   have HXd:=mh (HX.o.trans (show Nx wr wr.drew from(Below.refl _ _).drew))
   clear HO HX y2 x0 x1 hcp
   generalize wr.drew=wr' at *
   by_cases hk0:kk=0
   ·have hk0':((kk:Int)==0)=true:=by simp;omega
    have hk0'':(kk:Int)=0:=by omega
    clear hk0
    go_wp2
    go_meet
    exact⟨j,pc,_,P,E,cst,v,rfl,by omega,HP,HPL,HOd,HXd⟩
   have hk0':((kk:Int)==0)=false:=by simp;omega
   obtain⟨q3,o3,e3,-,-,hc3⟩:=HG2.o.h3.rw7 HLT.o (by omega)
   have HE3:=mh e3
   have HC3:=mh hc3
   have HSX:Z (∀q,Nx w2 q->(λq=>q.cell? (aD g 2)=some (sL (some (aD q2 o2)) m2 c2)/\q.cell? (aD g 3)=some (sL (some (aD q3 o3)) m3 c3)/\q.cell? (aD q2 (o2+v))=some (iV (f0:Int))/\∀i,i<m3->q.cell? (aD q3 (o3+i))=some (iV (iat G.tt i))) q):=λq hq=>⟨(HBX.o.next hq).c 2 rfl,by rw[<-HE3.o];exact(HBX.o.next hq).c 3 rfl,by rw[<-HF0.o,<-(Jr HVG.o (v:=v) (by rw[HLE.o];omega)).1];exact Q0 hq (HC2.o v (by have:=HM2.o;omega)),λi hi=>Q0 hq (HC3.o i hi)⟩
   have hkp:1<=kk:=by omega
   clear e3 hc3 hk0
   go_upto_region 15 with fail
   have HD:=mh (HOd.o.next (show Nx wr' wr'.drew from(Below.refl _ _).drew))
   have HXe:=mh (HXd.o.trans (show Nx wr' wr'.drew from(Below.refl _ _).drew))
   have HSS:=mh (HSX.o _ HXe.o)
   clear HOd HXd hk0'
   refine(wpIn_wide (n:=9)).1 ?_
   refine Qb (c:=17) (S:=λq=>q.cell? (aD g 2)=some (sL (some (aD q2 o2)) m2 c2)/\q.cell? (aD g 3)=some (sL (some (aD q3 o3)) m3 c3)/\q.cell? (aD q2 (o2+v))=some (iV (f0:Int))/\∀i,i<m3->q.cell? (aD q3 (o3+i))=some (iV (iat G.tt i))) hmx (by kernel_rfl) (λhw hcl=>?_)
   generalize wr'.drew=wd at *
   refine tq (i:=0) (v:=sL (sA pa) (j+1) pc) (λhcl=>?_)
   refine tq (i:=1) (v:=.pointer (some (aD g 3))) (λhcl=>?_)
   refine tq (i:=2) (v:=sL (some (aD q3 o3)) m3 c3) (λhcl=>?_)
   refine tq (i:=3) (v:=.pointer (some (aD g 2))) (λhcl=>?_)
   refine tq (i:=4) (v:=sL (some (aD q2 o2)) m2 c2) (λhcl=>?_)
   refine tq (i:=5) (v:=iV (v:Int)) (λhcl=>?_)
   refine tq (i:=6) (v:=.pointer (some (aD q2 (o2+v)))) (λhcl=>?_)
   refine tq (i:=7) (v:=iV (f0:Int)) (λhcl=>?_)
   refine tq (i:=8) (v:=sL ma n' mc) (λhcl=>?_)
   refine tq (i:=9) (v:=iV (i:Int)) (λhcl=>?_)
   refine tk (i:=10) (v:=iV ((i:Int)+1)) hw hcl ⟨oL ⟨by kernel_rfl,?y10⟩,λ_=>rfl⟩ HSS.o (λhcl=>?_)
   case y10=>
    rintro q ⟨c1,c2,c3,c4⟩
    go_simp
    rw[IntKind.wrap_i64];omega
   refine tq (i:=11) (v:=iV (kk:Int)) (λhcl=>?_)
   refine Q8 (i:=12) (by kernel_rfl) hcl (λhcl=>wpOpIn_step rfl (λK hK=>?_))
   go_simp
   refine⟨trivial,(callsIn_wide.2 (Et B' _ more (i+1) kk _ (HM.o.next (HX2.o.trans HXe.o)) (by omega) (by omega) HLM.o)).mono ?_⟩
   rintro e7 w7 ⟨rfl,hx7⟩
   have HX7:=mh (HXe.o.trans hx7)
   have HD7:=mh (HD.o.next hx7)
   have hzz:lwV more (i+1) kk<kk:=Q5t (by omega)
   have HSS:=mh (HSX.o _ HX7.o)
   refine hK _ _ ⟨oR HSS.o,?_⟩
   clear hK K hx7 HXe HD
   generalize lwV more (i+1) kk=zz at *
   have htu:=HVG.o.tt (f0+zz) (by rw[HLT.o];omega)
   obtain⟨u,hu⟩:∃u:Nat,iat G.tt (f0+zz)=(u:Int):=⟨(iat G.tt (f0+zz)).toNat,by omega⟩
   have HU:=mh hu
   have HP':=mh (HP.o.step HVG.o (u:=u) (k:=iat G.co (f0+zz)) ((Ul HVG.o).2 ⟨by rw[HLE.o];exact hvl,f0+zz,by rw[HF0.o];omega,by rw[HF1.o];omega,by rw[hu];rfl,rfl⟩))
   have hz3:((f0+zz:Nat):Int)<m3:=by omega
   have hz3':(f0:Int)+zz<m3:=by omega
   have hz0:(0:Int)<=(f0:Int)+zz:=by omega
   have hzt:((f0:Int)+zz).toNat=f0+zz:=by omega
   clear htu hu
   refine tk (i:=13) (v:=iV ((f0+zz:Nat):Int)) hw hcl ⟨oL ⟨by kernel_rfl,?y13⟩,λ_=>rfl⟩ HSS.o (λhcl=>?_)
   case y13=>
    rintro q ⟨c1,c2,c3,c4⟩
    go_simp
    rw[IntKind.wrap_i64];omega
   refine tq (i:=14) (v:=.pointer (some (aD q3 (o3+(f0+zz))))) (λhcl=>?_)
   refine tk (i:=15) (v:=iV (u:Int)) hw hcl ⟨oL ⟨by kernel_rfl,?y15⟩,λ_=>rfl⟩ HSS.o (λhcl=>?_)
   case y15=>
    rintro q ⟨c1,c2,c3,c4⟩
    have c5:=c4 (f0+zz) (by omega)
    rw[HU.o] at c5
    go_simp
   refine Q8 (i:=16) (by kernel_rfl) hcl (λhcl=>wpOpIn_step rfl (λK hK=>?_))
   go_simp
   have hSA:=HSX.o _ (HX7.o.trans (Qe w7 (.cells #[iV (u:Int)] 2)))
   refine hK _ _ ⟨oR hSA,?_⟩
   clear hK K hSA
   refine Q8 (i:=17) (by kernel_rfl) hcl (λhcl=>wpOpIn_step rfl (λK hK=>?_))
   have hz7:=HX7.o.size
   refine Jl rfl (.tmp 83) (.tmp 99) rfl w2.heap.size (j+1) (sL (sA pa) (j+1) pc) P (u:Int) w7 _ rfl (by simp[Act.eval]) HD7.o (by simp[Act.eval]) HPL.o (by omega) hz7 ?_
   intro a8 c8 w8 r1 r2 r3
   have HO8:=mh r1
   have HX8:Z (Nx w2 w8):=Below.trans HX7.o (r2.below hz7 (λx hx=>(Q7 HD7.o x hx.symm).1))
   refine hK _ _ ⟨oL (by decide),?_⟩
   clear hK K r1 r2 r3
   refine Qh (i:=18) (by kernel_rfl) (wpOpIn_step rfl (λK hK=>?_))
   go_simp
   refine hK _ _ ⟨oL (by decide),?_⟩
   clear hK K
   refine Ql (by kernel_rfl) ?_ _
   clear hw hcl HSS HSX HD7 HX7
   go_wp2
   go_roundw
   case rel=>exact⟨i+1,j+1,c8,a8,P++[(u:Int)],_,_,u,by go_num,by omega,by omega,by omega,rfl,HP',by unfold Z;rw[zA,HPL.o];rfl,HO8,HX8⟩
   case measure=>simp[intOf];omega
  ·have hle':¬(i:Int)<=st:=by omega
   go_wp2
   go_meet
   exact⟨j,pc,_,P,E,cst,v,rfl,by omega,HP,HPL,HO,HX⟩
 case rest=>
 clear HP0 HO6 HX6 HC2
 obtain⟨j,pc,pa0,P,E,cst,v,rfl,hj,HP,HPL,HO,HX⟩:=hcut
 have HLQ:Z (P.length<=10000):=by unfold Z;rw[HPL.o];omega
 have HEL:Z (E.length=j+1):=by rw[<-HP.o.le];exact HPL.o
 have y0:=(HBX.o.next HX.o).c 0 rfl
 have y1:=(HBX.o.next HX.o).c 1 rfl
 have y2:=(HBX.o.next HX.o).c 2 rfl
 have y3:=(HBX.o.next HX.o).c 3 rfl
 have y4:=(HBX.o.next HX.o).c 4 rfl
 have y5:=(HBX.o.next HX.o).c 5 rfl
 have y6:=(HBX.o.next HX.o).c 6 rfl
 go_wp2_with fail
 refine(At w.heap.size _ _ _ _ _ _ _ _ G P wc (HG2.o.next HX.o) (HO.o.held.base HX2.o.size)).mono ?_
 rintro e w3 ⟨⟨ve,rfl,hoe⟩,hx3⟩
 rw[HP.o.edges HV.o HLQ.o] at hoe
 obtain⟨ea,ec,e9⟩:=Qd hoe
 rw[HEL.o] at e9
 subst e9
 have HOE:=mh hoe
 have HX3:=mh (HX.o.trans hx3)
 have HO3:=mh (HO.o.next hx3)
 clear hoe hx3 HX HO y0 y1 y2 y3 y4 y5 y6
 have y0:=(HBX.o.next HX3.o).c 0 rfl
 have y1:=(HBX.o.next HX3.o).c 1 rfl
 have y2:=(HBX.o.next HX3.o).c 2 rfl
 have y3:=(HBX.o.next HX3.o).c 3 rfl
 have y4:=(HBX.o.next HX3.o).c 4 rfl
 have y5:=(HBX.o.next HX3.o).c 5 rfl
 have y6:=(HBX.o.next HX3.o).c 6 rfl
 go_wp2_with fail
 refine(I9 w.heap.size _ _ _ _ _ _ _ _ G P w3 (HG2.o.next HX3.o) (HO3.o.held.base HX2.o.size)).mono ?_
 rintro e w4 ⟨rfl,hx4⟩
 rw[HP.o.cost HV.o HLQ.o]
 have HX4:=mh (HX3.o.trans hx4)
 have HOE4:=mh (HOE.o.next hx4)
 clear hx4 HX3 HO3 HOE y0 y1 y2 y3 y4 y5 y6
 obtain⟨eb,rfl,hce⟩:=Q5.cell HOE4.o (i:=j) (by rw[HEL.o];omega)
 have hlE:iat E j=eoG G v:=by have h:=HP.o.last;rw[HEL.o,Nat.add_sub_cancel] at h;exact h
 rw[hlE] at hce
 have hwj:IntKind.i64.wrap (j:Int)=(j:Int):=by rw[IntKind.wrap_i64];omega
 have hjj:(j:Int)<(j:Int)+1:=by omega
 obtain⟨tv,htv⟩:∃z,z=eoG G v:=⟨_,rfl⟩
 have HTV:=mh htv
 rw[<-htv] at hce
 clear hlE htv
 go_upto_region 19 with fail
 clear hce
 go_wp2_with fail
 refine(HDR.o w4 (HX2.o.trans HX4.o)).mono ?_
 intro e w5 hd
 obtain⟨b0,d0,b1,d1,b2,d2,b3,d3,b4,d4,b5,d5,b6,d6,y2_,z2_,rfl,hg5,hx5⟩:=HR2X.o w4 w5 (HX2.o.trans HX4.o) e hd
 have HG5:=mh hg5
 have HX5:=mh (HX4.o.trans hx5)
 have HOE5:=mh (HOE4.o.next hx5)
 have HBH:Z (BT (w5.alloc (.cells #[sL b0 m0 d0,sL b1 m1 d1,sL b2 m2 d2,sL b3 m3 d3,sL b4 m4 d4,sL b5 m5 d5,sL b6 m6 d6] 25)) w5.heap.size #[sL b0 m0 d0,sL b1 m1 d1,sL b2 m2 d2,sL b3 m3 d3,sL b4 m4 d4,sL b5 m5 d5,sL b6 m6 d6] 25):=BT.new _ _ _ _ rfl
 have HXA:Z (Nx w5 (w5.alloc (.cells #[sL b0 m0 d0,sL b1 m1 d1,sL b2 m2 d2,sL b3 m3 d3,sL b4 m4 d4,sL b5 m5 d5,sL b6 m6 d6] 25))):=Qe _ _
 clear hd hg5 hx5 HX4 HOE4 HDR HR2X
 go_upto_region 20 with fail
 generalize w5.alloc (.cells #[sL b0 m0 d0,sL b1 m1 d1,sL b2 m2 d2,sL b3 m3 d3,sL b4 m4 d4,sL b5 m5 d5,sL b6 m6 d6] 25)=w6 at *
 generalize w5.heap.size=gh at *
 have y0:=(HBH.o.next (Nx.refl _)).c 0 rfl
 have y1:=(HBH.o.next (Nx.refl _)).c 1 rfl
 have y2:=(HBH.o.next (Nx.refl _)).c 2 rfl
 have y3:=(HBH.o.next (Nx.refl _)).c 3 rfl
 have y4:=(HBH.o.next (Nx.refl _)).c 4 rfl
 have y5:=(HBH.o.next (Nx.refl _)).c 5 rfl
 have y6:=(HBH.o.next (Nx.refl _)).c 6 rfl
 go_wp2_with fail
 have HZ6:=mh ((HX2.o.trans (HX5.o.trans HXA.o)).size)
 refine(Q03 w.heap.size _ _ _ _ _ _ _ G (s:Int) tv w6 (HG5.o.next HXA.o) HSG.o).mono ?_
 rintro e w7 ⟨⟨rc,rk,oa,on,oc,r,rfl,hRt,⟨e1,e2,ho⟩,hl⟩,hx7⟩
 rw[HTV.o] at hRt
 obtain⟨k1,k2,k3,k4,k5,k6⟩:=Qek HV.o (by rw[HLS.o];exact hs5) HP.o hRt hl
 obtain⟨oj,hoj⟩:∃z,r.edges.length=z+1:=⟨r.edges.length-1,by omega⟩
 obtain⟨a',c',e9⟩:=Qd ho
 rw[hoj] at e9
 simp only[zC] at e9
 obtain⟨-,e9,-⟩:=e9
 subst e9
 obtain⟨ob,rfl,hco⟩:=Q5.cell ho (i:=oj) (by omega)
 have HRL:=mh hoj
 have HK5:=mh k5
 have HK6:=mh (Qdk k6)
 have hcs:w7.cell? (aD ob 0)=some (iV (s:Int)):=by
  obtain⟨ob',e,h⟩:=Q5.cell ho (i:=0) (by omega)
  simp only[Option.some.injEq,Addr.mk.injEq,and_true] at e
  subst e
  rw[k3] at h
  exact h
 rw[hoj,Nat.add_sub_cancel] at k4
 rw[k4,<-HTV.o] at hco
 have hoc:oj<=7001:=by omega
 have hRC:=e1.trans k1
 subst hRC
 have HRK:=mh e2
 have HX7:=mh ((HX5.o.trans HXA.o).trans hx7)
 have HOE7:=mh (HOE5.o.next (HXA.o.trans hx7))
 have HOR:=mh ho
 have HBA:Z (BT (w7.alloc (.cells #[iV 0,iV rk,sL (sA ob) (oj+1) oc] 33)) w7.heap.size #[iV 0,iV rk,sL (sA ob) (oj+1) oc] 33):=BT.new _ _ _ _ rfl
 have HXB:Z (Nx w7 (w7.alloc (.cells #[iV 0,iV rk,sL (sA ob) (oj+1) oc] 33))):=Qe _ _
 have hco8:=Q0 HXB.o hco
 have hcs8:=Q0 HXB.o hcs
 have hwo:IntKind.i64.wrap (oj:Int)=(oj:Int):=by rw[IntKind.wrap_i64];omega
 have hoo:(oj:Int)<(oj:Int)+1:=by omega
 have ho0:¬(oj:Int)+1=0:=by omega
 clear hRt ho hl hx7 k1 k2 k3 k4 k5 k6 hoj e1 e2 hco hcs HX5 HOE5 HG5 HBH HXA HSG y0 y1 y2 y3 y4 y5 y6
 go_upto_region 21 with fail
 generalize w7.alloc (.cells #[iV 0,iV rk,sL (sA ob) (oj+1) oc] 33)=w8 at *
 generalize w7.heap.size=ra at *
 have HX8:=mh (HX7.o.trans HXB.o)
 have HOE8:=mh (HOE7.o.next HXB.o)
 have HOR8:=mh (HOR.o.next HXB.o)
 clear HX7 HOE7 HOR HXB
 have x0:=(HBA.o.next (Nx.refl _)).c 0 rfl
 have x1:=(HBA.o.next (Nx.refl _)).c 1 rfl
 have x2:=(HBA.o.next (Nx.refl _)).c 2 rfl
 go_upto_region 23 with fail
 clear hco8 hcs8 x0 x1 x2 hwo hoo ho0
 have HD:Z (Nx w8 w8.drew):=(Below.refl _ _).drew
 have HSX:Z (∀q,Nx w8 q->(λq=>q.cell? (aD g 0)=some (sL a0 m0 c0)/\q.cell? (aD g 1)=some (sL a1 m1 c1)/\q.cell? (aD g 2)=some (sL (some (aD q2 o2)) m2 c2)/\q.cell? (aD g 3)=some (sL a3 m3 c3)/\q.cell? (aD g 4)=some (sL a4 m4 c4)/\q.cell? (aD g 5)=some (sL (some (aD q5 o5)) m5 c5)/\q.cell? (aD g 6)=some (sL a6 m6 c6)/\q.cell? (aD ra 1)=some (iV rk)/\q.cell? (aD ra 2)=some (sL (sA ob) (oj+1) oc)) q):=λq hq=>⟨(HBX.o.next (HX8.o.trans hq)).c 0 rfl,(HBX.o.next (HX8.o.trans hq)).c 1 rfl,(HBX.o.next (HX8.o.trans hq)).c 2 rfl,(HBX.o.next (HX8.o.trans hq)).c 3 rfl,(HBX.o.next (HX8.o.trans hq)).c 4 rfl,(HBX.o.next (HX8.o.trans hq)).c 5 rfl,(HBX.o.next (HX8.o.trans hq)).c 6 rfl,(HBA.o.next hq).c 1 rfl,(HBA.o.next hq).c 2 rfl⟩
 have HSS:=mh (HSX.o _ HD.o)
 refine(wpIn_wide (n:=9)).1 ?_
 refine Qb (c:=9) (S:=λq=>q.cell? (aD g 0)=some (sL a0 m0 c0)/\q.cell? (aD g 1)=some (sL a1 m1 c1)/\q.cell? (aD g 2)=some (sL (some (aD q2 o2)) m2 c2)/\q.cell? (aD g 3)=some (sL a3 m3 c3)/\q.cell? (aD g 4)=some (sL a4 m4 c4)/\q.cell? (aD g 5)=some (sL (some (aD q5 o5)) m5 c5)/\q.cell? (aD g 6)=some (sL a6 m6 c6)/\q.cell? (aD ra 1)=some (iV rk)/\q.cell? (aD ra 2)=some (sL (sA ob) (oj+1) oc)) hmx (by kernel_rfl) (λhw hcl=>?_)
 generalize w8.drew=wd at *
 refine tq (i:=0) (v:=.agg #[sL a0 m0 c0,sL a1 m1 c1,sL (some (aD q2 o2)) m2 c2,sL a3 m3 c3,sL a4 m4 c4,sL (some (aD q5 o5)) m5 c5,sL a6 m6 c6]) (λhcl=>?_)
 refine tq (i:=1) (v:=.agg #[sL a0 m0 c0,sL a1 m1 c1,sL (some (aD q2 o2)) m2 c2,sL a3 m3 c3,sL a4 m4 c4,sL (some (aD q5 o5)) m5 c5,sL a6 m6 c6]) (λhcl=>?_)
 refine tq (i:=2) (v:=.pointer (some (aD ra 2))) (λhcl=>?_)
 refine tq (i:=3) (v:=sL (sA ob) (oj+1) oc) (λhcl=>?_)
 refine tq (i:=6) (v:=.pointer (some (aD ra 1))) (λhcl=>?_)
 refine tq (i:=7) (v:=iV rk) (λhcl=>?_)
 refine Q8 (i:=4) (by kernel_rfl) hcl (λhcl=>wpOpIn_step rfl (λK hK=>?_))
 go_simp
 refine⟨trivial,(callsIn_wide.2 (Q1n w.heap.size _ _ _ _ _ _ _ _ G r.edges _ (HG2.o.next (HX8.o.trans HD.o)) ((HOR8.o.next HD.o).held.base HZ6.o))).mono ?_⟩
 rintro e9 w9 ⟨⟨vl9,rfl,ho9⟩,hx9⟩
 obtain⟨la,lc,rfl⟩:=Qd ho9
 have HX9:=mh (HD.o.trans hx9)
 have HO9:=mh ho9
 have HSS:=mh (HSX.o _ HX9.o)
 have HDS:=mh ((HX2.o.trans (HX8.o.trans HD.o)).size)
 refine hK _ _ ⟨oR HSS.o,?_⟩
 clear hK K ho9 hx9 HD
 generalize (Vd G r.edges).length=ll at *
 refine Q8 (i:=5) (by kernel_rfl) hcl (λhcl=>wpOpIn_step rfl (λK hK=>?_))
 go_simp
 refine⟨trivial,(callsIn_wide.2 (I9 w.heap.size _ _ _ _ _ _ _ _ G (Vd G r.edges) _ (HG2.o.next (HX8.o.trans HX9.o)) (HO9.o.held.base HDS.o))).mono ?_⟩
 rintro e9 w10 ⟨rfl,hx10⟩
 rw[HK5.o,<-HRK.o]
 have HX10:=mh (HX9.o.trans hx10)
 have HSS:=mh (HSX.o _ HX10.o)
 refine hK _ _ ⟨oR HSS.o,?_⟩
 clear hK K hx10 HX9 HO9 HDS
 refine Qh (i:=8) (by kernel_rfl) (wpOpIn_step rfl (λK hK=>?_))
 go_simp
 refine hK _ _ ⟨oR HSS.o,?_⟩
 clear hK K
 refine Ql (by kernel_rfl) ?_ _
 clear hw hcl HSS HSX
 have HOE10:=mh (HOE8.o.next HX10.o)
 have HOR10:=mh (HOR8.o.next HX10.o)
 have HNW:=mh (HX2.o.trans (HX8.o.trans HX10.o))
 have HBA10:=mh (HBA.o.next HX10.o)
 rw[<-HRK.o] at HK6
 clear HX8 HX10 HOE8 HOR8 HBA HK5
 have x1:=(HBA10.o.next (Nx.refl _)).c 1 rfl
 have x2:=(HBA10.o.next (Nx.refl _)).c 2 rfl
 have hle:=HK6.o.1
 by_cases hc:rk=cst
 case neg=>
  have hc':(rk !=cst)=true:=by simp[hc]
  have hlt:rk<cst:=by omega
  go_wp2
  go_ret
  exact⟨rfl,HNW.o⟩
 case pos=>
 have HK7:=mh (HK6.o.2 hc)
 subst hc
 rw[HRL.o,HEL.o] at HK7
 have hln:=HK7.o.1
 by_cases hq:oj=j
 case neg=>
  have hq1:¬((oj:Int)+1=(j:Int)+1):=by omega
  have hq2:(((oj:Int)+1) !=((j:Int)+1))=true:=by simp;omega
  have hq3:(oj:Int)+1<(j:Int)+1:=by omega
  have hq4:oj<j:=by omega
  go_wp2
  go_ret
  exact⟨rfl,HNW.o⟩
 case pos=>
 subst hq
 have HK8:=mh (HK7.o.2 rfl)
 clear HK6 HK7 hln hle
 go_wp2
 go_loopw [21] (λs21 wr=>∃i:Nat,i<=oj+1/\s21=iV i/\Z (Q07 E r.edges i)/\Z (Nx w10 wr)) (λs21 _=>oj+1-(intOf s21).toNat)
 case atStart=>exact⟨0,nZ,rfl,F8 _ _,Nx.refl _⟩
 obtain⟨i,hi,rfl,HAG,HXr⟩:=hrel
 by_cases hlt:i<oj+1
 ·have hlt':(i:Int)<(oj:Int)+1:=by omega
  have x2r:=Q0 HXr.o x2
  obtain⟨eb',he',ce⟩:=Q5.cell (HOE10.o.next HXr.o) (i:=i) (by rw[HEL.o];exact hlt)
  obtain⟨ob',ho',cr⟩:=Q5.cell (HOR10.o.next HXr.o) (i:=i) (by rw[HRL.o];exact hlt)
  simp only[Option.some.injEq,Addr.mk.injEq,and_true] at he' ho'
  subst he' ho'
  have HNr:=mh ((HNW.o.trans HXr.o).trans (show Nx wr wr.drew from(Below.refl _ _).drew))
  have HNr2:=mh (HNr.o.trans (show Nx wr.drew wr.drew.drew from(Below.refl _ _).drew))
  have HK9:=mh (HK8.o i hlt HAG.o)
  have HXd:=mh (HXr.o.trans (show Nx wr wr.drew from(Below.refl _ _).drew))
  have HAS:Z (iat E i=iat r.edges i->Q07 E r.edges (i+1)):=λh=>F9 HAG.o h
  clear x2
  generalize iat E i=ze at *
  generalize iat r.edges i=zr at *
  go_upto_region 32 with fail
  go_region
  by_cases hz:zr=ze
  ·have hz':(zr !=ze)=false:=by simp[hz]
   have HA2:=mh (HAS.o hz.symm)
   clear HAS HK9 hz
   go_wp2
   go_roundw
   case rel=>exact⟨i+1,by omega,by go_num,HA2,HXd⟩
   case measure=>simp[intOf];omega
  ·have hz':(zr !=ze)=true:=by simp[hz]
   have hzl:=HK9.o (Ne.symm hz)
   clear HAS HK9 hz
   go_upto_region 33 with fail
   go_region
   go_wp2
   go_ret
   exact⟨rfl,HNr2.o⟩
 ·have hlt':¬(i:Int)<(oj:Int)+1:=by omega
  go_wp2
  go_ret
  exact⟨rfl,HNW.o.trans HXr.o⟩
open Go.ChangeShapes Go.WideShapes Go.ChangeAt
open Go.ChangeMaps (open_string shut_string)
theorem Q8o {a:Addr}{v:Value}(h:w.cell? (a.add 0)=some v):∃b off,a=⟨b,off,none⟩:=by
 have hs:=World.cell?_spot h
 obtain⟨b,off,s⟩:=a
 simp[Addr.add] at hs
 exact⟨b,off,by rw[hs]⟩
theorem Q4p (b off i:Nat):(⟨b,off,none⟩:Addr).add i=⟨b,off+i,none⟩:=by
 unfold Addr.add
 by_cases hi:i=0<;>simp[hi]
theorem Qed:Tryz.prog.cellsOf 5=1:=by kernel_rfl
theorem Qeg {z:Int}(h:(Lit.int .u8 z).wf=true):((UInt8.ofNat z.toNat).toNat:Int)=z:=by
 have h2:0<=z/\z<=255:=by simpa [Lit.wf,IntKind.min,IntKind.max,IntKind.signed,IntKind.bits] using h
 rw[UInt8.toNat_ofNat']
 omega
set_option maxRecDepth 100000 in
theorem Ep {H:Type}{enc:TypeId×Value->H}{m n c:Nat}{a:Option Addr}{y:DataW H×List MemPlace}(hf:DataW.trod enc Tryz.prog w 0 (λ_=>true) true m 22 [.slice a n c]=some y):∃bs,HBy 0 w (.slice a n c) bs:=by
 rcases open_ints Tryz.underlying22 Tryz.underlying5 Qed hf with⟨hcs,_⟩|⟨a',len,cap,zs,hcs,_,hl,hm,hz,_,hcell,hwf⟩
 ·simp only[List.cons.injEq,Value.slice.injEq,and_true] at hcs
  obtain⟨rfl,rfl,rfl⟩:=hcs
  exact⟨[],none,0,rfl,Nat.zero_le _,λh0=>absurd h0 (Nat.lt_irrefl _)⟩
 ·simp only[List.cons.injEq,Value.slice.injEq,and_true] at hcs
  obtain⟨rfl,rfl,rfl⟩:=hcs
  have hz':zs.length=c:=by simpa using hz
  have hlen:((zs.take n).map λz=>UInt8.ofNat z.toNat).length=n:=by rw[List.length_map,List.length_take];omega
  refine⟨(zs.take n).map λz=>UInt8.ofNat z.toNat,some a',c,by rw[hlen],by rw[hlen];omega,λh0=>?_⟩
  rw[hlen] at h0
  obtain⟨b,off,rfl⟩:=Q8o (hcell 0 (by omega))
  refine⟨b,off,rfl,Nat.zero_le _,?_,λi hi=>?_⟩
  ·have h1:=hcell 0 (by omega)
   rw[Q4p] at h1
   exact Jk h1
  ·rw[hlen] at hi
   have h1:=hcell i (by omega)
   rw[Q4p] at h1
   rw[h1]
   have hi2:i<zs.length:=by omega
   have e1:zs.getD i 0=zs[i]:=by simp[List.getD,hi2]
   have e2:V7 ((zs.take n).map λz=>UInt8.ofNat z.toNat) i=zs[i]:=by
    unfold V7
    have e3:((zs.take n).map λz=>UInt8.ofNat z.toNat).getD i 0=UInt8.ofNat (zs[i]).toNat:=by
     rw[List.getD_eq_getElem?_getD,List.getElem?_map,List.getElem?_take_of_lt hi,List.getElem?_eq_getElem hi2]
     rfl
    rw[e3]
    exact Qeg (hwf _ (List.getElem_mem hi2))
   rw[e1,e2]
theorem Q0n {H:Type}{enc:TypeId×Value->H}{v:Value}{d:DataW H}{p:List MemPlace}(h:DataW.Trod enc Tryz.prog w 0 (λ_=>true) true 22 v d p)(hs:∃a n c,v=.slice a n c):∃bs,HBy 0 w v bs:=by
 obtain⟨fuel,hf⟩:=h
 obtain⟨a,n,c,rfl⟩:=hs
 exact Ep hf
theorem own:ownKnob Tryz.prog.godebug=none:=by kernel_rfl
set_option maxRecDepth 100000 in
theorem Qfv (os:Os)(started:os.Started)(H:Type)(enc:TypeId×Value->H) :
  ReturnsInHanded {} Tryz.checked os 3 .any (Rows.fnBestSpec.pre6 enc Tryz.prog Tryz.f3 Rows.fnBestRow.domain false) (Rows.fnBestSpec.post enc Tryz.prog Tryz.f3 false true false false):=by
 refine returnsInHanded_of_change (C:=Tryz.checked) own started (by kernel_rfl) Tryz.func3
  (ChangeSpec.witness6 (enc:=enc) (C:=Tryz.checked) false ⟨#[],#[.slice none 0 0,.slice none 0 0],[]⟩ 8 (by kernel_rfl) (by kernel_rfl) (by kernel_rfl) (by kernel_rfl)) ?_
 intro W base args ds gs before hval0 hW hcnd _
 have hval:∀(j:Nat) t v,Tryz.f3.params[j]?=some t->args[j]?=some v->Value.okWide Tryz.prog W .any base t v:=hval0
 have hW':=hW
 obtain⟨p,q,hA0,hV,rfl,hfz,hnd⟩:=hW
 have hA:DataW.TrodAll enc Tryz.prog W 0 (λ_=>true) true Tryz.f3.params.toList args.toList ds p:=hA0
 rw[Tryz.params3] at hA hval
 obtain⟨v0,vs0,d0,ds0,p0,q0,hargs,rfl,rfl,h0,r0⟩:=trodAll_cons hA
 obtain⟨v1,vs1,d1,ds1,p1,q1,hargs1,rfl,rfl,h1,r1⟩:=trodAll_cons r0
 obtain⟨rfl,rfl,rfl⟩:=trodAll_nil r1
 obtain rfl:args=#[v0,v1]:=by cases args;simp_all
 obtain⟨rfl,rfl⟩:=trodVars_none hV
 have k0:=h0
 have k1:=h1
 have lt0:∀x∈p0,x.block<W.heap.size:=by obtain⟨m,hm⟩:=k0;exact DataW.trod_lt m _ _ _ hm
 have lt1:∀x∈p1,x.block<W.heap.size:=by obtain⟨m,hm⟩:=k1;exact DataW.trod_lt m _ _ _ hm
 obtain⟨P,hP⟩:=Q0n h0 (okWide_slice Tryz.underlying22 (hval 0 22 v0 rfl rfl))
 obtain⟨P1,hP1⟩:=Q0n h1 (okWide_slice Tryz.underlying22 (hval 1 22 v1 rfl rfl))
 clear hA0 hval0
 refine(Qca 0 0 v0 v1 P P1 W hP hP1).mono λe W' ⟨he,bel⟩=>?_
 subst he
 exact⟨_,rfl,_,_,_,[],_,[],hW',trodAll_mk1 (shut_bool Tryz.underlying4 _),(trodAll_cons_mk (Below.trod Q7k (by kernel_rfl) (of_decide_eq_true (by kernel_rfl)) k0 bel lt0) (trodAll_cons_mk (Below.trod Q7k (by kernel_rfl) (of_decide_eq_true (by kernel_rfl)) k1 bel lt1) trodAll_mk0)),rfl,bel.frame _,λh=>by cases h⟩
theorem over:Rows.fnBestRow.holds Tryz.pinned (OpenSpec.ofChange Rows.fnBestSpec):=
 OpenClaim.holds_of_wide 3 Tryz.f3 rfl rfl rfl rfl rfl rfl rfl ⟨rfl,rfl,rfl,rfl,rfl⟩ rfl rfl rfl rfl rfl (by kernel_rfl) Tryz.func3 (by kernel_rfl)
  (of_decide_eq_true (by kernel_rfl)) (by unfold Func.isWrapper;first|(rw[if_pos (by decide +kernel)];kernel_rfl)|(rw[if_neg (by decide +kernel)];exact⟨rfl,rfl⟩))
  (λos started H enc _=>Qfv os started H enc)
theorem best_holds:Rows.FnBestSaid:=over
#print axioms best_holds
end Go.Proofs.YtphiaobccollhaaGreat
