import Derived.Test.YtphiaobccollhaaGreatQYF
import Derived.Test.YtphiaobccollhaaGreatQXCE
namespace Go.Proofs.YtphiaobccollhaaGreat
open Go.RowKit Go.Sort Tryz
set_option linter.unusedVariables false
set_option maxRecDepth 1000000
set_option maxHeartbeats 16000000
variable {w:World}{N:Nt}{A:Au}{vs:List Vx}{C c k:Nat}{a:Option Addr}{rs:List Ru}
def Aps (l:List Value):Prop:=∀(j j':Nat) (v v':Value) (g:Nat),j≠j'->l[j]?=some v->l[j']?=some v'->v.ownBlock=some g->v'.ownBlock≠some g
theorem MS.aps {w0:World}{bl:List (Nat×Array Value×Nat)}{rs:List (Value×List Int)}(h:MS w0 w bl rs):Aps (rs.map (·.1)):=λj j' v v' g hj hv hv'=>by
 rw[zY] at hv hv'
 obtain⟨r,hr,rfl⟩:=Option.map_eq_some_iff.1 hv
 obtain⟨r',hr',rfl⟩:=Option.map_eq_some_iff.1 hv'
 exact h.ap j j' r r' g hj hr hr'
theorem Qev:Aps [sN,sN,sN,sN,sN,sN,sN]:=λj j' v v' g _ hv _ hg=>by
 have h:=yJ hv
 have e:v=sN:=by simpa using h
 subst e
 simp[Value.ownBlock] at hg
def G5 (N:Nt)(code:Int)(G:Gc):Prop:=
 (J1 N=false/\code=14/\G=gcZ) \/
 (J1 N=true/\∃c A,Z8 (Vj N).rules c A/\((c≠0/\code=c/\G=gcZ)\/(c=0/\∃k vs,Fi (E1 N) (Q4 A (wsA A)) k vs/\((40000<arcs (E1 N) (Q4 A (wsA A)) vs/\code=15/\G=gcZ)\/(arcs (E1 N) (Q4 A (wsA A)) vs<=40000/\code=0/\G=Q64 N (E1 N) (Q4 A (wsA A)) vs)))))
def Q09 (N:Nt)(w w':World)(e:Ending):Prop:=(∃code v0 v1 v2 v3 v4 v5 v6 G,e=.returned (.agg #[iV code,v0,v1,v2,v3,v4,v5,v6])/\(Q5 w.heap.size w' v0 G.eo/\Q5 w.heap.size w' v1 G.so/\Q5 w.heap.size w' v2 G.fi/\Q5 w.heap.size w' v3 G.tt/\Q5 w.heap.size w' v4 G.co/\Q5 w.heap.size w' v5 G.sa/\Q5 w.heap.size w' v6 G.we)/\Aps [v0,v1,v2,v3,v4,v5,v6]/\G5 N code G)/\Nx w w'
theorem Q09.none {w':World}{code:Int}(hx:Nx w w')(h:G5 N code gcZ):Q09 N w w' (.returned (.agg #[iV code,sN,sN,sN,sN,sN,sN,sN])):=⟨⟨code,_,_,_,_,_,_,_,gcZ,rfl,⟨⟨rfl,.inl ⟨rfl,rfl⟩⟩,⟨rfl,.inl ⟨rfl,rfl⟩⟩,⟨rfl,.inl ⟨rfl,rfl⟩⟩,⟨rfl,.inl ⟨rfl,rfl⟩⟩,⟨rfl,.inl ⟨rfl,rfl⟩⟩,⟨rfl,.inl ⟨rfl,rfl⟩⟩,⟨rfl,.inl ⟨rfl,rfl⟩⟩⟩,Qev,h⟩,hx⟩
theorem Q09.some {w':World}{p m:Nat}{v0 v1 v2 v3 v4 v5 v6:Value}(hx:Nx w w')(h:Q5 w.heap.size w' v0 (gEo vs p)/\Q5 w.heap.size w' v1 (gSo vs p)/\Q5 w.heap.size w' v2 (gFi (E1 N) (Q4 A (wsA A)) vs (p+1))/\Q5 w.heap.size w' v3 (gTo (E1 N) (Q4 A (wsA A)) vs p)/\Q5 w.heap.size w' v4 (gCo N (E1 N) (Q4 A (wsA A)) vs p)/\Q5 w.heap.size w' v5 (gSa (Q4 A (wsA A)) vs m)/\Q5 w.heap.size w' v6 (gWe (E1 N) m))(hp:vs.length=p)(hm:(E1 N).length=m)(hv:J1 N=true)(hB:Z8 (Vj N).rules 0 A)(hR:Fi (E1 N) (Q4 A (wsA A)) k vs)(ha:arcs (E1 N) (Q4 A (wsA A)) vs<=40000)(hap:Aps [v0,v1,v2,v3,v4,v5,v6]):Q09 N w w' (.returned (.agg #[iV 0,v0,v1,v2,v3,v4,v5,v6])):=by
 subst hp
 subst hm
 exact⟨⟨0,_,_,_,_,_,_,_,Q64 N (E1 N) (Q4 A (wsA A)) vs,rfl,h,hap,oR ⟨hv,0,A,hB,oR ⟨rfl,k,vs,hR,oR ⟨ha,rfl,rfl⟩⟩⟩⟩,hx⟩
theorem Qdf {n:Nat}{zs:List Int}(h:Q5 C w (sL a n c) zs):zs.length=n:=by
 obtain⟨a',c',e⟩:=Qd h
 simp only[zC] at e
 exact e.2.1.symm
theorem Qax {n:Nat}{zs:List Bool}(h:An C w (sL a n c) zs):zs.length=n:=by
 obtain⟨a',c',e⟩:=Qd h
 simp only[zC] at e
 exact e.2.1.symm
theorem O5.ha {v0 v1 v2 v3 v4:Value}(h:O5 C w v0 v1 v2 v3 v4 A):HA C w v0 v1 v2 v3 v4 A:=⟨h.o0.held,h.o1.held,h.o2.held,h.o3.held,h.o4.held⟩
theorem Uo.sl {D:Nat}{v:Value}{xs:List Ru}(h:Uo C D w v xs):∃a c,v=sL a xs.length c:=by
 obtain⟨vs,h0,h1,-⟩:=h
 obtain⟨a,c,e⟩:=Qd h1
 exact⟨a,c,e⟩
theorem Uo.rules {v:Value}{xs:List Ru}(h:Uo C C w v xs):Zl C w v xs:=by
 obtain⟨vs,h0,h1,h2⟩:=h
 have hO:Uo C C w v xs:=⟨vs,h0,h1,h2⟩
 obtain⟨a,c,rfl⟩:=Qd h1
 refine⟨a,c,rfl,Ib h1,λhp=>?_⟩
 have hb:∃g,a=some (aD g 0)/\C<=g/\g<w.heap.size:=by
  rcases h1.2 with⟨_,h3⟩|⟨g,cap,cur,hv,hg,hh,_⟩
  ·omega
  ·simp only[zC] at hv
   exact⟨g,hv.1,hg,(Array.getElem?_eq_some_iff.1 hh).1⟩
 obtain⟨g,rfl,hg,hgl⟩:=hb
 refine⟨g,0,rfl,hg,hgl,λi hi=>?_⟩
 obtain⟨g',u,e,c0,c1,c2,hu⟩:=hO.at hi
 have e':g'=g:=by simpa using e.symm
 subst e'
 obtain⟨ua,uc,eu⟩:=hu.slice
 subst eu
 rw[Nat.zero_add]
 refine⟨ua,uc,c0,c1,c2,hu.held,?_⟩
 rcases hu.2 with⟨e3,h3⟩|⟨g3,cap,cur,hv,_,_,hc,_⟩
 ·show(Zr xs i).seq.length<=uc
  omega
 ·simp only[zC] at hv
  show(Zr xs i).seq.length<=uc
  omega
theorem Q66 {B:Nat}{m:Nat}{es:List Eg}(h:Jw B w (sL a m c) es)(hm:es.length=m):∀b off,a=some (aD b off)->∀i,i<m->Kl w b (off+i*7) (eat es i):=by
 intro b off e i hi
 obtain⟨a',c',e1,-,hk⟩:=h
 simp only[zC] at e1
 obtain⟨b',off',e2,-,-,hc⟩:=hk (by omega)
 have e3:=e.symm.trans (e1.1.trans e2)
 simp only[Option.some.injEq,Addr.mk.injEq,and_true] at e3
 obtain⟨rfl,rfl⟩:=e3
 exact hc i (by omega)
theorem Q9x (hv:J1 N=true):∀u,u<(E1 N).length->0<=(eat (E1 N) u).weight/\(eat (E1 N) u).weight<=1048576:=(Q7y hv).weight
theorem field_rules (a d:Option Addr)(b c e f:Nat)(w:World):(Instr.field 105 (.agg #[sL a b c,sL d e f]) 0).run prog w=.ok (sL a b c) w:=by kernel_rfl
attribute [local go_sem] field_rules
theorem Fo (B0:Nat)(v0 v1 v2 v3:Value)(N:Nt)(w:World)(h0:U0 B0 w v0 v1 v2 v3 N)(hs:Wx N.ways N.ways.length<=1048576)(hst:∀A,J1 N=true->Z8 (Vj N).rules 0 A->Wb A=true/\Q9v (Q4 A (wsA A)) (E1 N).length A.pa.length) :
  Calls prog 34 #[.agg #[v0,v1,v2,v3,iV N.uturn]] w λe w'=>Q09 N w w' e:=by
 have HI0:=mh h0
 have HS:=mh hs
 have HSTA:=mh hst
 obtain⟨a0,q0,e0,-,-⟩:=h0.1
 obtain⟨a1,q1,e1,-,-⟩:=h0.2.1
 obtain⟨a2,q2,e2,-,-⟩:=h0.2.2.1
 obtain⟨a3,q3,e3,-,-⟩:=h0.2.2.2
 generalize N.nodes.length=l0 at e0
 generalize N.ways.length=l1 at e1
 generalize N.rels.length=l2 at e2
 generalize N.turns.length=l3 at e3
 subst e0 e1 e2 e3
 clear hs h0 hst
 have HBN:Z (BT ((w.alloc (.cells #[sL a0 l0 q0,sL a1 l1 q1,sL a2 l2 q2,sL a3 l3 q3,iV N.uturn] 60)).alloc (.cells #[iV 0,sN,sN,sN,sN,sN,sN,sN] 63)) w.heap.size #[sL a0 l0 q0,sL a1 l1 q1,sL a2 l2 q2,sL a3 l3 q3,iV N.uturn] 60):=(BT.new w #[sL a0 l0 q0,sL a1 l1 q1,sL a2 l2 q2,sL a3 l3 q3,iV N.uturn] 60 _ rfl).next (Qe _ _)
 have HBC:Z (BT ((w.alloc (.cells #[sL a0 l0 q0,sL a1 l1 q1,sL a2 l2 q2,sL a3 l3 q3,iV N.uturn] 60)).alloc (.cells #[iV 0,sN,sN,sN,sN,sN,sN,sN] 63)) (w.heap.size+1) #[iV 0,sN,sN,sN,sN,sN,sN,sN] 63):=by have h:=BT.new (w.alloc (.cells #[sL a0 l0 q0,sL a1 l1 q1,sL a2 l2 q2,sL a3 l3 q3,iV N.uturn] 60)) #[iV 0,sN,sN,sN,sN,sN,sN,sN] 63 _ rfl;rw[Q1] at h;exact h
 have HXA:Z (Nx w ((w.alloc (.cells #[sL a0 l0 q0,sL a1 l1 q1,sL a2 l2 q2,sL a3 l3 q3,iV N.uturn] 60)).alloc (.cells #[iV 0,sN,sN,sN,sN,sN,sN,sN] 63))):=(Qe _ _).trans (Qe _ _)
 go_enter func34,ntmps34
 go_upto_region 1 with fail
 generalize (w.alloc (.cells #[sL a0 l0 q0,sL a1 l1 q1,sL a2 l2 q2,sL a3 l3 q3,iV N.uturn] 60)).alloc (.cells #[iV 0,sN,sN,sN,sN,sN,sN,sN] 63)=wA at *
 have k0:=HBN.o.c 0 rfl
 have k1:=HBN.o.c 1 rfl
 have k2:=HBN.o.c 2 rfl
 have k3:=HBN.o.c 3 rfl
 have k4:=HBN.o.c 4 rfl
 go_wp2_with fail
 refine(Ke B0 _ _ _ _ N _ (HI0.o.next HXA.o) HS.o).mono ?_
 rintro e w1 ⟨rfl,hx⟩
 rw[Eh]
 have HX1:=mh (HXA.o.trans hx)
 have HBN1:=mh (HBN.o.next hx)
 have HBC1:=mh (HBC.o.next hx)
 clear hx k0 k1 k2 k3 k4 HBN HBC HXA
 have HB1:=mh HBC1.o.lt
 cases hv:J1 N with
 |false=>
  have HV0:=mh hv
  clear hv
  go_upto_region 2 with fail
  go_wp2_with (refine Zm rfl _ _ rfl rfl rfl HBC1.o rfl rfl rfl ?_)
  intro w9 hb9 hc9
  have HX9:Z (Nx w w9):=Below.trans HX1.o (hc9.below HX1.o.size (λx e=>by have e':x=w.heap.size+1:=e;omega))
  have HB9:=mh hb9
  clear hb9 hc9
  go_wp2
  refine Po rfl rfl HB9.o ?_
  exact Q09.none HX9.o (oL ⟨HV0.o,rfl,rfl⟩)
 |true=>
  have HVN:=mh hv
  have HRO:Z (V4 N=Ux N):=by unfold Z V4;rw[hv];rfl
  have HLE:=mh (Q86 (Uw hv))
  have HCN:=mh ((Id hv).cnt)
  have HALL:=mh (Qgl hv)
  have HCI0:=mh (Q7y hv)
  have HREQ:Z (Vj N=Xx (Td N (Ux N)) N.rels N.rels.length):=by unfold Z Vj;rw[hv];rfl
  clear hv
  have k0:=HBN1.o.c 0 rfl
  have k1:=HBN1.o.c 1 rfl
  have k2:=HBN1.o.c 2 rfl
  have k3:=HBN1.o.c 3 rfl
  have k4:=HBN1.o.c 4 rfl
  go_wp2_with fail
  refine(I8 B0 _ _ _ _ N w1 (HI0.o.next HX1.o) HS.o).mono ?_
  rintro e w2 ⟨⟨rr0,rr1,rr2,rr3,rfl,hR⟩,hx⟩
  rw[HRO.o] at hR
  obtain⟨r0,d0,e0,-,-⟩:=hR.1
  obtain⟨ra,rc,e1,-,-⟩:=hR.2.1
  obtain⟨r2,d2,e2,-,-⟩:=hR.2.2.1
  obtain⟨r3,d3,e3,-,-⟩:=hR.2.2.2
  generalize hm0:(Ux N).nodes.length=m0 at e0
  generalize hm1:(Ux N).edges.length=m at e1
  generalize hm2:(Ux N).first.length=m2 at e2
  generalize hm3:(Ux N).o.length=m3 at e3
  subst e0 e1 e2 e3
  have HM:Z ((E1 N).length=m):=hm1
  have HRR2:=mh hR
  have HX2:=mh hx
  have HBR:Z (BT (w2.alloc (.cells #[sL r0 m0 d0,sL ra m rc,sL r2 m2 d2,sL r3 m3 d3] 86)) w2.heap.size #[sL r0 m0 d0,sL ra m rc,sL r2 m2 d2,sL r3 m3 d3] 86):=BT.new _ _ _ _ rfl
  have HXA:Z (Nx w2 (w2.alloc (.cells #[sL r0 m0 d0,sL ra m rc,sL r2 m2 d2,sL r3 m3 d3] 86))):=Qe _ _
  clear hm0 hm1 hm2 hm3 hR hx k0 k1 k2 k3 k4
  go_upto_region 4 with fail
  generalize w2.alloc (.cells #[sL r0 m0 d0,sL ra m rc,sL r2 m2 d2,sL r3 m3 d3] 86)=w3 at *
  generalize hb3:w2.heap.size=b3 at *
  have HX3:=mh ((HX1.o.trans HX2.o).trans HXA.o)
  have HBN3:=mh ((HBN1.o.next HX2.o).next HXA.o)
  have HBC3:=mh ((HBC1.o.next HX2.o).next HXA.o)
  have HRR3:=mh (HRR2.o.next HXA.o)
  clear hb3 HBN1 HBC1 HRR2 HXA HX2
  have k0:=HBN3.o.c 0 rfl
  have k1:=HBN3.o.c 1 rfl
  have k2:=HBN3.o.c 2 rfl
  have k3:=HBN3.o.c 3 rfl
  have k4:=HBN3.o.c 4 rfl
  have y0:=HBR.o.c 0 rfl
  have y1:=HBR.o.c 1 rfl
  have y2:=HBR.o.c 2 rfl
  have y3:=HBR.o.c 3 rfl
  go_wp2_with fail
  refine(Ay B0 w1.heap.size _ _ _ _ N _ _ _ _ (Ux N) w3 (HI0.o.next HX3.o) HRR3.o HLE.o HALL.o HCN.o).mono ?_
  rintro e w4 ⟨⟨vr,vd,rfl,hr,hd⟩,hx⟩
  obtain⟨u0,u0c,eu0⟩:=hr.sl
  obtain⟨u1,u1c,eu1⟩:=Qd hd
  generalize (Xx (Td N (Ux N)) N.rels N.rels.length).drops.length=lu1 at eu1
  have HRU0:Z (Zl w3.heap.size w4 vr (Vj N).rules):=by rw[HREQ.o];exact hr.rules
  generalize (Xx (Td N (Ux N)) N.rels N.rels.length).rules.length=lu0 at eu0
  subst eu0 eu1
  have HX4:=mh hx
  clear hr hd hx k0 k1 k2 k3 k4 y0 y1 y2 y3
  go_wp2_with fail
  refine(Av w3.heap.size _ (Vj N).rules w4 HRU0.o).mono ?_
  rintro e w5 ⟨hsp,hx⟩
  obtain⟨code,f0,n0,c0,f1,n1,c1,f2,n2,c2,f3,n3,c3,f4,n4,c4,A,rfl,hBI,hO5⟩:=hsp
  have HBI0:=mh hBI
  have HO5:=mh hO5
  have HX5:=mh (HX4.o.trans hx)
  have HBU:Z (BT (w5.alloc (.cells #[iV code,sL f0 n0 c0,sL f1 n1 c1,sL f2 n2 c2,sL f3 n3 c3,sL f4 n4 c4] 100)) w5.heap.size #[iV code,sL f0 n0 c0,sL f1 n1 c1,sL f2 n2 c2,sL f3 n3 c3,sL f4 n4 c4] 100):=BT.new _ _ _ _ rfl
  have HXA:Z (Nx w5 (w5.alloc (.cells #[iV code,sL f0 n0 c0,sL f1 n1 c1,sL f2 n2 c2,sL f3 n3 c3,sL f4 n4 c4] 100))):=Qe _ _
  have HB2:=mh HX4.o.size
  clear hBI hO5 hx HX4 HRU0
  go_upto_region 5 with fail
  generalize w5.alloc (.cells #[iV code,sL f0 n0 c0,sL f1 n1 c1,sL f2 n2 c2,sL f3 n3 c3,sL f4 n4 c4] 100)=w6 at *
  generalize hb4:w5.heap.size=b4 at *
  have HX6:=mh (HX5.o.trans HXA.o)
  have HXW6:=mh (HX3.o.trans HX6.o)
  have HBN6:=mh (HBN3.o.next HX6.o)
  have HBC6:=mh (HBC3.o.next HX6.o)
  have HRR6:=mh (HRR3.o.next HX6.o)
  have HBR6:=mh (HBR.o.next HX6.o)
  have HO56:=mh (HO5.o.next HXA.o)
  clear hb4 HBN3 HBC3 HRR3 HBR HO5 HXA HX5
  have y0:=HBU.o.c 0 rfl
  by_cases hc:code=0
  ·subst hc
   obtain⟨hva,hso⟩:=HSTA.o A HVN.o HBI0.o
   obtain⟨hok,hla,hfa,hpp⟩:=Q6t hva
   have hn3:A.pa.length=n3:=by rw[<-hok.m];exact Qdf HO56.o.o3
   have hn4:n3=n4:=by rw[<-hn3,<-hok.b];exact Qax HO56.o.o4
   subst hn4
   rw[hn3] at hok hso
   have HAU6:=mh HO56.o.ha
   have HOK:=mh hok
   have HST6:=mh hso
   have HPL:=mh hn3
   have HLA:=mh hla
   have hn2:=hok.n
   clear hva hok hla hfa hpp hso hn3 HO56
   have y1:=HBU.o.c 1 rfl
   have y2:=HBU.o.c 2 rfl
   have y3:=HBU.o.c 3 rfl
   have y4:=HBU.o.c 4 rfl
   have y5:=HBU.o.c 5 rfl
   go_wp2_with fail
   refine(Q3z w4.heap.size _ _ _ _ _ A w6 HAU6.o HLA.o (by rw[HPL.o];exact hn2)).mono ?_
   rintro e w7 ⟨⟨vw,rfl,hW⟩,hx⟩
   have hW':Js w6.heap.size w7 vw (wsA A):=hW
   obtain⟨wa,wc,ew⟩:=hW'.slice
   rw[HOK.o.l] at ew
   subst ew
   have HWD7:=mh hW'.held
   have HX7:=mh hx
   have HAU7:=mh (HAU6.o.next hx)
   have HRR7:=mh (HRR6.o.next hx)
   have HBR7:=mh (HBR6.o.next hx)
   have HBU7:=mh (HBU.o.next hx)
   clear hW hW' hx y0 y1 y2 y3 y4 y5
   have y1:=HBU7.o.c 1 rfl
   have y2:=HBU7.o.c 2 rfl
   have y3:=HBU7.o.c 3 rfl
   have y4:=HBU7.o.c 4 rfl
   have y5:=HBU7.o.c 5 rfl
   have z0:=HBR7.o.c 0 rfl
   have z1:=HBR7.o.c 1 rfl
   have z2:=HBR7.o.c 2 rfl
   have z3:=HBR7.o.c 3 rfl
   have hml:m<=4000:=by have:=HLE.o;rw[HM.o] at this;exact this
   go_wp2_with fail
   refine(Q3x w1.heap.size w4.heap.size w6.heap.size r0 ra r2 r3 f0 f1 f2 f3 f4 wa m0 d0 m rc m2 d2 m3 d3 n0 c0 n1 c1 n2 c2 n3 c3 c4 wc (E1 N) A (wsA A) w7 HRR7.o.2.1 HM.o HAU7.o HWD7.o HOK.o hml HST6.o).mono ?_
   rintro e w8 ⟨⟨va,p,vc,rfl,vs,hV,kk,hRC⟩,hx⟩
   obtain⟨wG,hwG⟩:∃z,z=w8:=⟨_,rfl⟩
   subst hwG
   obtain⟨es,hes⟩:∃z,z=E1 N:=⟨_,rfl⟩
   obtain⟨RR,hRR⟩:∃z,z=Ux N:=⟨_,rfl⟩
   obtain⟨B1,hB1⟩:∃z,z=w1.heap.size:=⟨_,rfl⟩
   obtain⟨B2,hB2⟩:∃z,z=w4.heap.size:=⟨_,rfl⟩
   obtain⟨B3,hB3⟩:∃z,z=w6.heap.size:=⟨_,rfl⟩
   have HXG:=mh ((HXW6.o.trans HX7.o).trans hx)
   have HX68:=mh (HX7.o.trans hx)
   have HNB:=mh (HBN6.o.next HX68.o)
   have HCB:=mh (HBC6.o.next HX68.o)
   have HRB:=mh (HBR7.o.next hx)
   have HBB:=mh (HBU7.o.next hx)
   have HNT:=mh (HI0.o.next HXG.o)
   have HRR:Z (Vy B1 wG (sL r0 m0 d0) (sL ra m rc) (sL r2 m2 d2) (sL r3 m3 d3) RR):=by rw[hB1,hRR];exact HRR7.o.next hx
   have HRE:Z (RR.edges=es):=by unfold Z;rw[hRR,hes];rfl
   have HED:Z (Jw B1 wG (sL ra m rc) es):=by rw[<-HRE.o];exact HRR.o.2.1
   have HAU:Z (HA B2 wG (sL f0 n0 c0) (sL f1 n1 c1) (sL f2 n2 c2) (sL f3 n3 c3) (sL f4 n3 c4) A):=by rw[hB2];exact HAU7.o.next hx
   have HWD:Z (Jm B3 wG (sL wa n3 wc) (wsA A)):=by rw[hB3];exact HWD7.o.next hx
   have HVS:=mh hV
   have HVL:=mh hV.len
   have HRC:=mh hRC
   have HRC1:Z (Fi es (Q4 A (wsA A)) kk vs):=by rw[hes];exact hRC
   have HASC:=mh hRC.1.asc
   have HST:Z (Q9v (Q4 A (wsA A)) es.length A.pa.length):=by rw[hes,HPL.o];exact HST6.o
   have HOV:Z (∀v∈vs,OkV es.length A.pa.length v):=λv hv=>Q4k HST.o kk v (by have h:=hRC.1.perm.mem_iff.1 hv;rw[hes];exact h)
   have HCI:Z (Fb N es):=by rw[hes];exact HCI0.o
   have HCI2:Z (Fb N RR.edges):=by rw[HRE.o];exact HCI.o
   have HMe:Z (es.length=m):=by rw[hes];exact HM.o
   have HEQ:=mh hes
   have HWB:Z (∀u,u<m->0<=(eat es u).weight/\(eat es u).weight<=1048576):=by rw[hes,<-HM.o];exact Q9x HVN.o
   have HEDC:=mh (Q66 HED.o HMe.o)
   have hp4:p<=48000:=by rw[<-HVL.o,hRC.1.perm.length_eq];have h1:=Q2k (es:=E1 N) (st:=(Q4 A (wsA A))) kk;have h2:=hRC.1.ar;rw[HM.o] at h1;omega
   have HBI:=mh HBI0.o
   have HGS:=mh HCB.o.lt
   clear hV hRC hx hes hRR hB1 hB2 hB3 HXW6 HX7 HX68 HBN6 HBC6 HBR7 HBU7 HRR7 HAU7 HWD7 HST6 HAU6 HRR6 HBR6 HBU HX6 HI0 HM y1 y2 y3 y4 y5 z0 z1 z2 z3
   have HM:=HMe
   clear HMe
   have HGB:Z (BT (wG.alloc (.cells #[sN,sN,sN,sN,sN,sN,sN] 25)) wG.heap.size #[sN,sN,sN,sN,sN,sN,sN] 25):=BT.new _ _ _ _ rfl
   have HM00:=mh (((((((((MS.start wG).addBox #[sN,sN,sN,sN,sN,sN,sN] 25 (by decide)).addNil).addNil).addNil).addNil).addNil).addNil).addNil)
   generalize hgg:wG.heap.size=g at HM00
   have HGG:=mh hgg
   go_upto_region 10 with fail
   generalize wG.alloc (.cells #[sN,sN,sN,sN,sN,sN,sN] 25)=wM at *
   have HM0:Z (MS wG wM [(g,#[sN,sN,sN,sN,sN,sN,sN],25)] [(sN,[]),(sN,[]),(sN,[]),(sN,[]),(sN,[]),(sN,[]),(sN,[])]):=HM00.o
   clear HM00 HGB hgg
   go_wp2
   go_loopw [8] (λs8 wr=>∃(i al:Nat) (g0:Option Addr) (k0:Nat) (g1:Option Addr) (k1:Nat) (g2:Option Addr) (k2:Nat) (g3:Option Addr) (k3:Nat) (g4:Option Addr) (k4:Nat),i<=p/\al<=40000/\s8=iV i/\Z ((gTo es (Q4 A (wsA A)) vs i).length=al)/\Z (MS wG wr [(g,#[sL g0 i k0,sL g1 i k1,sL g2 i k2,sL g3 al k3,sL g4 al k4,sN,sN],25)] [(sL g0 i k0,gEo vs i),(sL g1 i k1,gSo vs i),(sL g2 i k2,gFi es (Q4 A (wsA A)) vs i),(sL g3 al k3,gTo es (Q4 A (wsA A)) vs i),(sL g4 al k4,gCo N es (Q4 A (wsA A)) vs i),(sN,[]),(sN,[])])) (λi _=>p-(intOf i).toNat)
   case atStart=>exact⟨0,0,none,0,none,0,none,0,none,0,none,0,nZ,by omega,rfl,rfl,HM0⟩
   clear HM0
   obtain⟨i,al,g0,k0,g1,k1,g2,k2,g3,k3,g4,k4,hip,hal,rfl,HAL,HY⟩:=hrel
   by_cases hlt:i<p
   ·have hlt':(i:Int)<p:=by omega
    obtain⟨vb,vo',ve,hvb,hcc⟩:=HVS.o.cell (i:=i) (by rw[HVL.o];exact hlt)
    obtain⟨rfl,-,-⟩:=ve
    obtain⟨u1,hu1⟩:∃z,(vtx vs i).1=z:=⟨_,rfl⟩
    obtain⟨x2,hx2⟩:∃z,(vtx vs i).2=z:=⟨_,rfl⟩
    have hov:=HOV.o _ (Wz (l:=vs) (i:=i) (by rw[HVL.o];exact hlt))
    obtain⟨X,hX⟩:∃X:Nat,u1=(X:Int):=⟨u1.toNat,by rw[<-hu1];have:=hov.1;omega⟩
    subst hX
    have hXm:X<m:=by have:=hov.2.1;rw[hu1,HM.o] at this;omega
    obtain⟨eb,eo,hra⟩:=Jw.addr HED.o HM.o (by omega)
    subst hra
    have HVI:Z (vtx vs i=((X:Int),x2)):=Prod.ext hu1 hx2
    have HV0:Z (wG.cell? (aD vb (i*2))=some (iV (X:Int))):=by have h:=hcc.1;rw[hu1] at h;exact h
    have HV1:Z (wG.cell? (aD vb (i*2+1))=some (iV x2)):=by have h:=hcc.2;rw[hx2] at h;exact h
    have HR0:=mh (HRB.o.c 0 rfl)
    have HR1:=mh (HRB.o.c 1 rfl)
    have HR2:=mh (HRB.o.c 2 rfl)
    have HR3:=mh (HRB.o.c 3 rfl)
    have HU0:=mh (HBB.o.c 1 rfl)
    have HU1:=mh (HBB.o.c 2 rfl)
    have HU2:=mh (HBB.o.c 3 rfl)
    have HU3:=mh (HBB.o.c 4 rfl)
    have HU4:=mh (HBB.o.c 5 rfl)
    have HNb0:=mh (HNB.o.c 0 rfl)
    have HNb1:=mh (HNB.o.c 1 rfl)
    have HNb2:=mh (HNB.o.c 2 rfl)
    have HNb3:=mh (HNB.o.c 3 rfl)
    have HNb4:=mh (HNB.o.c 4 rfl)
    clear hcc hu1 hx2 hov
    have hmx:prog.follows .mixedOrders=true:=by kernel_rfl
    have q_:wr.cell? (aD g 0)=some (sL g0 i k0):=(HY.o.box 0 rfl).c 0 rfl
    have x0_:=Q0 HY.o.nx HV0.o
    go_upto_region 13 with fail
    have hxd:Nx wr wr.drew:=(Below.refl _ _).drew
    have HD1:=mh (HY.o.next hxd)
    have HSS:Z ((λq=>q.cell? (aD g 0)=some (sL g0 i k0)/\q.cell? (aD vb (i*2))=some (iV (X:Int))) wr.drew):=⟨Q0 hxd q_,Q0 hxd x0_⟩
    clear HY q_ x0_ hxd
    refine(wpIn_wide (n:=9)).1 ?_
    refine Qb (c:=10) (S:=λq=>q.cell? (aD g 0)=some (sL g0 i k0)/\q.cell? (aD vb (i*2))=some (iV (X:Int))) hmx (by kernel_rfl) (λhw hcl=>?_)
    generalize wr.drew=wd1 at *
    refine tq (i:=0) (v:=pT g) (λhcl=>?_)
    refine tq (i:=1) (v:=sL g0 i k0) (λhcl=>?_)
    refine tq (i:=2) (v:=sL (sA vb) p vc) (λhcl=>?_)
    refine tq (i:=3) (v:=iV (i:Int)) (λhcl=>?_)
    refine tq (i:=4) (v:=.pointer (some (aD vb (i*2)))) (λhcl=>?_)
    refine tq (i:=5) (v:=.pointer (some (aD vb (i*2)))) (λhcl=>?_)
    refine tq (i:=6) (v:=iV (X:Int)) (λhcl=>?_)
    refine Q8 (i:=7) (by kernel_rfl) hcl (λhcl=>wpOpIn_step rfl (λK hK=>?_))
    go_simp
    refine hK _ _ ⟨oR ⟨Q0 (Qe _ _) HSS.o.1,Q0 (Qe _ _) HSS.o.2⟩,?_⟩
    clear hK K
    have hzz:=HD1.o.nx.size
    refine Q8 (i:=8) (by kernel_rfl) hcl (λhcl=>wpOpIn_step rfl (λK hK=>?_))
    refine Jl rfl (.tmp 45) (.tmp 51) rfl wG.heap.size (i) (sL g0 i k0) (gEo vs i) ((X:Int)) wd1 _ rfl (by simp[Act.eval]) (HD1.o.row 0 rfl) (by simp[Act.eval]) (Q2a i) (by omega) hzz ?_
    intro ar1 cr1 wx1 p1 p2 p3
    have HE1:=mh (HD1.o.grow 0 rfl p1 p2 p3)
    clear p1 p2 p3 hzz
    clear HSS
    have HSS:Z ((λq=>q.cell? (aD g 0)=some (sL g0 i k0)/\q.cell? (aD vb (i*2))=some (iV (X:Int))) wx1):=⟨(HE1.o.box 0 rfl).c 0 rfl,Q0 HE1.o.nx HV0.o⟩
    refine hK _ _ ⟨oR HSS.o,?_⟩
    clear hK K HD1
    refine tq (i:=9) (v:=pT g) (λhcl=>?_)
    have q_:wx1.cell? (aD g 0)=some (sL g0 i k0):=(HE1.o.box 0 rfl).c 0 rfl
    have f_:=(HE1.o.box 0 rfl).blk.frozen 0
    refine Qh (i:=10) (by kernel_rfl) (wpOpIn_step rfl (λK hK=>?_))
    go_simp
    refine hK _ _ ⟨oL (by decide),?_⟩
    clear hK K
    refine Ql (by kernel_rfl) ?_ _
    clear hw hcl q_ f_ HSS
    generalize hW:wx1.setCell (aD g 0) (sL ar1 (i+1) cr1)=ws1
    have HS1:Z (MS wG ws1 [(g,#[sL ar1 (i+1) cr1,sL g1 i k1,sL g2 i k2,sL g3 al k3,sL g4 al k4,sN,sN],25)] [(sL ar1 (i+1) cr1,gEo vs i++[(X:Int)]),(sL g1 i k1,gSo vs i),(sL g2 i k2,gFi es (Q4 A (wsA A)) vs i),(sL g3 al k3,gTo es (Q4 A (wsA A)) vs i),(sL g4 al k4,gCo N es (Q4 A (wsA A)) vs i),(sN,[]),(sN,[])]):=by rw[<-hW];exact HE1.o.set 0 rfl 0 (sL ar1 (i+1) cr1)
    clear hW HE1
    have q_:ws1.cell? (aD g 1)=some (sL g1 i k1):=(HS1.o.box 0 rfl).c 1 rfl
    have x0_:=Q0 HS1.o.nx HV1.o
    go_upto_region 14 with fail
    have hxd:Nx ws1 ws1.drew:=(Below.refl _ _).drew
    have HD2:=mh (HS1.o.next hxd)
    have HSS:Z ((λq=>q.cell? (aD g 1)=some (sL g1 i k1)/\q.cell? (aD vb (i*2+1))=some (iV x2)) ws1.drew):=⟨Q0 hxd q_,Q0 hxd x0_⟩
    clear HS1 q_ x0_ hxd
    refine(wpIn_wide (n:=9)).1 ?_
    refine Qb (c:=10) (S:=λq=>q.cell? (aD g 1)=some (sL g1 i k1)/\q.cell? (aD vb (i*2+1))=some (iV x2)) hmx (by kernel_rfl) (λhw hcl=>?_)
    generalize ws1.drew=wd2 at *
    refine tq (i:=0) (v:=.pointer (some (aD g 1))) (λhcl=>?_)
    refine tq (i:=1) (v:=sL g1 i k1) (λhcl=>?_)
    refine tq (i:=2) (v:=sL (sA vb) p vc) (λhcl=>?_)
    refine tq (i:=3) (v:=iV (i:Int)) (λhcl=>?_)
    refine tq (i:=4) (v:=.pointer (some (aD vb (i*2)))) (λhcl=>?_)
    refine tq (i:=5) (v:=.pointer (some (aD vb (i*2+1)))) (λhcl=>?_)
    refine tq (i:=6) (v:=iV x2) (λhcl=>?_)
    refine Q8 (i:=7) (by kernel_rfl) hcl (λhcl=>wpOpIn_step rfl (λK hK=>?_))
    go_simp
    refine hK _ _ ⟨oR ⟨Q0 (Qe _ _) HSS.o.1,Q0 (Qe _ _) HSS.o.2⟩,?_⟩
    clear hK K
    have hzz:=HD2.o.nx.size
    refine Q8 (i:=8) (by kernel_rfl) hcl (λhcl=>wpOpIn_step rfl (λK hK=>?_))
    refine Jl rfl (.tmp 55) (.tmp 61) rfl wG.heap.size (i) (sL g1 i k1) (gSo vs i) (x2) wd2 _ rfl (by simp[Act.eval]) (HD2.o.row 1 rfl) (by simp[Act.eval]) (Q28 i) (by omega) hzz ?_
    intro ar2 cr2 wx2 p1 p2 p3
    have HE2:=mh (HD2.o.grow 1 rfl p1 p2 p3)
    clear p1 p2 p3 hzz
    clear HSS
    have HSS:Z ((λq=>q.cell? (aD g 1)=some (sL g1 i k1)/\q.cell? (aD vb (i*2+1))=some (iV x2)) wx2):=⟨(HE2.o.box 0 rfl).c 1 rfl,Q0 HE2.o.nx HV1.o⟩
    refine hK _ _ ⟨oR HSS.o,?_⟩
    clear hK K HD2
    refine tq (i:=9) (v:=.pointer (some (aD g 1))) (λhcl=>?_)
    have q_:wx2.cell? (aD g 1)=some (sL g1 i k1):=(HE2.o.box 0 rfl).c 1 rfl
    have f_:=(HE2.o.box 0 rfl).blk.frozen 1
    refine Qh (i:=10) (by kernel_rfl) (wpOpIn_step rfl (λK hK=>?_))
    go_simp
    refine hK _ _ ⟨oL (by decide),?_⟩
    clear hK K
    refine Ql (by kernel_rfl) ?_ _
    clear hw hcl q_ f_ HSS
    generalize hW:wx2.setCell (aD g 1) (sL ar2 (i+1) cr2)=ws2
    have HS2:Z (MS wG ws2 [(g,#[sL ar1 (i+1) cr1,sL ar2 (i+1) cr2,sL g2 i k2,sL g3 al k3,sL g4 al k4,sN,sN],25)] [(sL ar1 (i+1) cr1,gEo vs i++[(X:Int)]),(sL ar2 (i+1) cr2,gSo vs i++[x2]),(sL g2 i k2,gFi es (Q4 A (wsA A)) vs i),(sL g3 al k3,gTo es (Q4 A (wsA A)) vs i),(sL g4 al k4,gCo N es (Q4 A (wsA A)) vs i),(sN,[]),(sN,[])]):=by rw[<-hW];exact HE2.o.set 0 rfl 1 (sL ar2 (i+1) cr2)
    clear hW HE2
    have q2_:ws2.cell? (aD g 2)=some (sL g2 i k2):=(HS2.o.box 0 rfl).c 2 rfl
    have q3_:ws2.cell? (aD g 3)=some (sL g3 al k3):=(HS2.o.box 0 rfl).c 3 rfl
    have hzz:=HS2.o.nx.size
    have hln_:(gFi es (Q4 A (wsA A)) vs i).length=i:=E5 i
    have hlb_:i<=1000000:=by omega
    go_wp2_with (at_builtin;refine Yy rfl _ _ rfl wG.heap.size (i) (sL g2 i k2) (gFi es (Q4 A (wsA A)) vs i) ((al:Int)) ws2 rfl (HS2.o.row 2 rfl) rfl hln_ hlb_ hzz ?_)
    intro ar3 cr3 wx3 p1 p2 p3
    have HE3:=mh (HS2.o.grow 2 rfl p1 p2 p3)
    clear p1 p2 p3 hzz hln_ hlb_ q2_ q3_ HS2
    have q_:wx3.cell? (aD g 2)=some (sL g2 i k2):=(HE3.o.box 0 rfl).c 2 rfl
    have f_:=(HE3.o.box 0 rfl).blk.frozen 2
    go_upto_region 16 with fail
    generalize hW:wx3.setCell (aD g 2) (sL ar3 (i+1) cr3)=ws3
    have HS3:Z (MS wG ws3 [(g,#[sL ar1 (i+1) cr1,sL ar2 (i+1) cr2,sL ar3 (i+1) cr3,sL g3 al k3,sL g4 al k4,sN,sN],25)] [(sL ar1 (i+1) cr1,gEo vs i++[(X:Int)]),(sL ar2 (i+1) cr2,gSo vs i++[x2]),(sL ar3 (i+1) cr3,gFi es (Q4 A (wsA A)) vs i++[(al:Int)]),(sL g3 al k3,gTo es (Q4 A (wsA A)) vs i),(sL g4 al k4,gCo N es (Q4 A (wsA A)) vs i),(sN,[]),(sN,[])]):=by rw[<-hW];exact HE3.o.set 0 rfl 2 (sL ar3 (i+1) cr3)
    clear hW HE3 q_ f_
    have y0:ws3.cell? (aD b3 0)=some (sL r0 m0 d0):=Q0 HS3.o.nx HR0.o
    have y1:ws3.cell? (aD b3 1)=some (sL (some (aD eb eo)) m rc):=Q0 HS3.o.nx HR1.o
    have y2:ws3.cell? (aD b3 2)=some (sL r2 m2 d2):=Q0 HS3.o.nx HR2.o
    have y3:ws3.cell? (aD b3 3)=some (sL r3 m3 d3):=Q0 HS3.o.nx HR3.o
    have y4:ws3.cell? (aD b4 1)=some (sL f0 n0 c0):=Q0 HS3.o.nx HU0.o
    have y5:ws3.cell? (aD b4 2)=some (sL f1 n1 c1):=Q0 HS3.o.nx HU1.o
    have y6:ws3.cell? (aD b4 3)=some (sL f2 n2 c2):=Q0 HS3.o.nx HU2.o
    have y7:ws3.cell? (aD b4 4)=some (sL f3 n3 c3):=Q0 HS3.o.nx HU3.o
    have y8:ws3.cell? (aD b4 5)=some (sL f4 n3 c4):=Q0 HS3.o.nx HU4.o
    have y9:=Q0 HS3.o.nx HV0.o
    have y10:=Q0 HS3.o.nx HV1.o
    have HG16:=mh HS3.o.nx.size
    go_region_held3 (λw'=>w'.cell? (aD b3 0)=some (sL r0 m0 d0)/\w'.cell? (aD b3 1)=some (sL (some (aD eb eo)) m rc)/\w'.cell? (aD b3 2)=some (sL r2 m2 d2)/\w'.cell? (aD b3 3)=some (sL r3 m3 d3)/\w'.cell? (aD b4 1)=some (sL f0 n0 c0)/\w'.cell? (aD b4 2)=some (sL f1 n1 c1)/\w'.cell? (aD b4 3)=some (sL f2 n2 c2)/\w'.cell? (aD b4 4)=some (sL f3 n3 c3)/\w'.cell? (aD b4 5)=some (sL f4 n3 c4)/\w'.cell? (aD vb (i*2))=some (iV (X:Int))/\w'.cell? (aD vb (i*2+1))=some (iV x2)) (first|exact⟨Q0 HX5.o y0,Q0 HX5.o y1,Q0 HX5.o y2,Q0 HX5.o y3,Q0 HX5.o y4,Q0 HX5.o y5,Q0 HX5.o y6,Q0 HX5.o y7,Q0 HX5.o y8,Q0 HX5.o y9,Q0 HX5.o y10⟩|(go_keep;done)) (first|(go_at_call 62;refine(Ew B1 B2 B3 _ _ _ _ _ _ _ _ _ eb eo m0 d0 m rc m2 d2 m3 d3 n0 c0 n1 c1 n2 c2 n3 c3 c4 wc es A (wsA A) X x2 _ (by exact HED.o.next (HS3.o.nx.trans (Below.refl _ _).drew)) HM.o (by exact HAU.o.next (HS3.o.nx.trans (Below.refl _ _).drew)) (by exact HWD.o.next (HS3.o.nx.trans (Below.refl _ _).drew)) HOK.o hXm hml).mono ?_;rintro e w5 ⟨⟨na,r,nc,rfl,hO⟩,hx⟩;have HX5:Z (Nx ws3 w5):=(Below.refl _ _).drew.trans hx;have HNO:Z (J4 ws3.heap.size w5 (sL na r nc) (nxV es (Q4 A (wsA A)) ((X:Int),x2))):=hO;clear hO hx))
    all_goals
     have HM5:=mh (HS3.o.next HX5.o)
     have HNR0:=mh HNO.o.len
     have hrm:r<=4000:=by rw[<-HNR0.o];have:=Q7d (es:=es) (st:=(Q4 A (wsA A))) ((X:Int),x2) es.length;rw[HM.o] at this;unfold nxV;rw[HM.o];omega
     clear y0 y1 y2 y3 y4 y5 y6 y7 y8 y9 y10 HS3 HX5
     obtain⟨nx,hnx⟩:∃z,z=nxV es (Q4 A (wsA A)) ((X:Int),x2):=⟨_,rfl⟩
     have HNE:Z (nx=nxV es (Q4 A (wsA A)) (vtx vs i)):=by rw[HVI.o];exact hnx
     have HNR:Z (nx.length=r):=by rw[hnx];exact HNR0.o
     have HOK2:Z (∀u∈nx,OkV es.length A.pa.length u):=by rw[hnx];exact λu hu=>Qfa HST.o hu
     have HNO1:Z (J4 wG.heap.size w5 (sL na r nc) nx):=by rw[hnx];exact HNO.o.base HG16.o
     clear hnx HNO HNR0
     go_wp2
     go_loopw [10] (λs10 wr=>∃(j:Nat) (g3:Option Addr) (k3:Nat) (g4:Option Addr) (k4:Nat),j<=r/\s10=iV j/\Z (J4 wG.heap.size wr (sL na r nc) nx)/\Z (MS wG wr [(g,#[sL ar1 (i+1) cr1,sL ar2 (i+1) cr2,sL ar3 (i+1) cr3,sL g3 (al+j) k3,sL g4 (al+j) k4,sN,sN],25)] [(sL ar1 (i+1) cr1,gEo vs i++[(X:Int)]),(sL ar2 (i+1) cr2,gSo vs i++[x2]),(sL ar3 (i+1) cr3,gFi es (Q4 A (wsA A)) vs i++[(al:Int)]),(sL g3 (al+j) k3,gTo es (Q4 A (wsA A)) vs i++(nx.take j).map (Xv vs)),(sL g4 (al+j) k4,gCo N es (Q4 A (wsA A)) vs i++(nx.take j).map (Q06 N es (vtx vs i))),(sN,[]),(sN,[])])) (λi _=>r-(intOf i).toNat)
     case atStart=>exact⟨0,_,_,_,_,nZ,rfl,HNO1,by have h:=HM5.o;unfold Z;rw[List.take_zero,List.map_nil,List.map_nil,List.append_nil,List.append_nil];exact h⟩
     clear HNO1 HM5
     obtain⟨j,g3,k3,g4,k4,hjr,rfl,HNI,HI⟩:=hrel
     by_cases hltj:j<r
     ·have hlt':(j:Int)<r:=by omega
      obtain⟨nb,no',ne,hnb,hcc⟩:=HNI.o.cell (i:=j) (by rw[HNR.o];exact hltj)
      obtain⟨rfl,-,-⟩:=ne
      obtain⟨z1,hz1⟩:∃z,(vtx nx j).1=z:=⟨_,rfl⟩
      obtain⟨u2,hz2⟩:∃z,(vtx nx j).2=z:=⟨_,rfl⟩
      have hou:=HOK2.o _ (Wz (l:=nx) (i:=j) (by rw[HNR.o];exact hltj))
      obtain⟨U,hU⟩:∃U:Nat,z1=(U:Int):=⟨z1.toNat,by rw[<-hz1];have:=hou.1;omega⟩
      subst hU
      have hUm:U<m:=by have:=hou.2.1;rw[hz1,HM.o] at this;omega
      have HUJ:Z (vtx nx j=((U:Int),u2)):=Prod.ext hz1 hz2
      have HCN:Z (∀W,J4 wG.heap.size W (sL (sA nb) r nc) nx->W.cell? (aD nb (j*2))=some (iV (U:Int))/\W.cell? (aD nb (j*2+1))=some (iV u2)):=λW hW=>by
       obtain⟨nb',no',ne',-,hcc'⟩:=hW.cell (i:=j) (by rw[HNR.o];exact hltj)
       have e:=ne'.1
       simp only[Option.some.injEq,Addr.mk.injEq,and_true] at e
       subst e
       have h1:=hcc'.1
       have h2:=hcc'.2
       rw[HUJ.o] at h1 h2
       exact⟨h1,h2⟩
      obtain⟨wt,hwt⟩:∃z,(eat es U).weight=z:=⟨_,rfl⟩
      have HWT:Z (wG.cell? (aD eb (eo+U*7+2))=some (iV wt)):=by have h:=(HEDC.o _ _ rfl U hUm).2.2.1;rw[hwt] at h;exact h
      obtain⟨tc,htc⟩:∃z,Tt N es X U=z:=⟨_,rfl⟩
      have hwr:IntKind.i64.wrap (tc+wt)=tc+wt:=by
       have h1:=Qa3 HCI.o X U
       have h2:=HWB.o U hUm
       rw[htc] at h1
       rw[hwt] at h2
       rw[IntKind.wrap_i64]
       omega
      have HTC:=mh htc
      have HZT:Z (Q06 N es (vtx vs i) (vtx nx j)=tc+wt):=by unfold Z Q06;rw[HVI.o,HUJ.o];show Tt N es (X:Int).toNat (U:Int).toNat+_=_;rw[zU,zU,htc];show tc+(eat es (U:Int).toNat).weight=_;rw[zU,hwt]
      clear hcc hz1 hz2 hou hwt htc
      have q_:wr.cell? (aD g 3)=some (sL g3 (al+j) k3):=(HI.o.box 0 rfl).c 3 rfl
      have x0_:=(HCN.o _ HNI.o).1
      have x1_:=(HCN.o _ HNI.o).2
      go_upto_region 20 with fail
      have hxd:Nx wr wr.drew:=(Below.refl _ _).drew
      have HD4:=mh (HI.o.next hxd)
      have HN4:=mh (HNI.o.next hxd)
      have HSS:Z ((λq=>q.cell? (aD g 3)=some (sL g3 (al+j) k3)/\q.cell? (aD nb (j*2))=some (iV (U:Int))/\q.cell? (aD nb (j*2+1))=some (iV u2)) wr.drew):=⟨Q0 hxd q_,Q0 hxd x0_,Q0 hxd x1_⟩
      clear HI q_ x0_ x1_ hxd HNI
      refine(wpIn_wide (n:=9)).1 ?_
      refine Qb (c:=11) (S:=λq=>q.cell? (aD g 3)=some (sL g3 (al+j) k3)/\q.cell? (aD nb (j*2))=some (iV (U:Int))/\q.cell? (aD nb (j*2+1))=some (iV u2)) hmx (by kernel_rfl) (λhw hcl=>?_)
      generalize wr.drew=wd4 at *
      refine tq (i:=0) (v:=.pointer (some (aD g 3))) (λhcl=>?_)
      refine tq (i:=1) (v:=sL g3 (al+j) k3) (λhcl=>?_)
      refine tq (i:=2) (v:=sL (sA vb) p vc) (λhcl=>?_)
      refine tq (i:=3) (v:=sL (sA nb) r nc) (λhcl=>?_)
      refine tq (i:=4) (v:=iV (j:Int)) (λhcl=>?_)
      refine tq (i:=5) (v:=.pointer (some (aD nb (j*2)))) (λhcl=>?_)
      refine tq (i:=6) (v:=.agg #[iV (U:Int),iV u2]) (λhcl=>?_)
      refine Q8 (i:=7) (by kernel_rfl) hcl (λhcl=>wpOpIn_step rfl (λK hK=>?_))
      go_simp
      refine⟨trivial,(callsIn_wide.2 (Pb _ _ vs (U:Int) u2 _ (HVS.o.held.next HD4.o.nx) HASC.o (by rw[HVL.o];omega))).mono ?_⟩
      rintro e9 wc40 ⟨rfl,hx9⟩
      have HDc40:=mh (HD4.o.next hx9)
      have HNc40:=mh (HN4.o.next hx9)
      have HSS:Z ((λq=>q.cell? (aD g 3)=some (sL g3 (al+j) k3)/\q.cell? (aD nb (j*2))=some (iV (U:Int))/\q.cell? (aD nb (j*2+1))=some (iV u2)) wc40):=⟨Q0 hx9 HSS.o.1,Q0 hx9 HSS.o.2.1,Q0 hx9 HSS.o.2.2⟩
      refine hK _ _ ⟨oR HSS.o,?_⟩
      clear hK K hx9 HD4 HN4
      refine Q8 (i:=8) (by kernel_rfl) hcl (λhcl=>wpOpIn_step rfl (λK hK=>?_))
      go_simp
      refine hK _ _ ⟨oR ⟨Q0 (Qe _ _) HSS.o.1,Q0 (Qe _ _) HSS.o.2.1,Q0 (Qe _ _) HSS.o.2.2⟩,?_⟩
      clear hK K
      have hzz:=HDc40.o.nx.size
      refine Q8 (i:=9) (by kernel_rfl) hcl (λhcl=>wpOpIn_step rfl (λK hK=>?_))
      refine Jl rfl (.tmp 88) (.tmp 95) rfl wG.heap.size ((al+j)) (sL g3 (al+j) k3) (gTo es (Q4 A (wsA A)) vs i++(nx.take j).map (Xv vs)) (Xv vs ((U:Int),u2)) wc40 _ rfl (by simp[Act.eval]) (HDc40.o.row 3 rfl) (by simp[Act.eval]) (by rw[zA,HAL.o,zF,zX,HNR.o];omega) (by omega) hzz ?_
      intro ar4 cr4 wx4 p1 p2 p3
      have HE4:=mh (HDc40.o.grow 3 rfl p1 p2 p3)
      have HNx4:=mh (HNc40.o.chgI (HDc40.o.row 3 rfl) p2)
      clear p1 p2 p3 hzz
      clear HSS
      have HSS:Z ((λq=>q.cell? (aD g 3)=some (sL g3 (al+j) k3)/\q.cell? (aD nb (j*2))=some (iV (U:Int))/\q.cell? (aD nb (j*2+1))=some (iV u2)) wx4):=⟨(HE4.o.box 0 rfl).c 3 rfl,(HCN.o _ HNx4.o).1,(HCN.o _ HNx4.o).2⟩
      refine hK _ _ ⟨oR HSS.o,?_⟩
      clear hK K HDc40 HNc40
      refine tq (i:=10) (v:=.pointer (some (aD g 3))) (λhcl=>?_)
      have q_:wx4.cell? (aD g 3)=some (sL g3 (al+j) k3):=(HE4.o.box 0 rfl).c 3 rfl
      have f_:=(HE4.o.box 0 rfl).blk.frozen 3
      refine Qh (i:=11) (by kernel_rfl) (wpOpIn_step rfl (λK hK=>?_))
      go_simp
      refine hK _ _ ⟨oL (by decide),?_⟩
      clear hK K
      refine Ql (by kernel_rfl) ?_ _
      clear hw hcl q_ f_ HSS
      generalize hW:wx4.setCell (aD g 3) (sL ar4 ((al+j)+1) cr4)=ws4
      have HNs4:=mh (HNx4.o.setB (i:=3) (HE4.o.box 0 rfl) (by decide) (sL ar4 ((al+j)+1) cr4))
      rw[hW] at HNs4
      clear HNx4
      have HS4:Z (MS wG ws4 [(g,#[sL ar1 (i+1) cr1,sL ar2 (i+1) cr2,sL ar3 (i+1) cr3,sL ar4 ((al+j)+1) cr4,sL g4 (al+j) k4,sN,sN],25)] [(sL ar1 (i+1) cr1,gEo vs i++[(X:Int)]),(sL ar2 (i+1) cr2,gSo vs i++[x2]),(sL ar3 (i+1) cr3,gFi es (Q4 A (wsA A)) vs i++[(al:Int)]),(sL ar4 ((al+j)+1) cr4,gTo es (Q4 A (wsA A)) vs i++(nx.take j).map (Xv vs)++[Xv vs ((U:Int),u2)]),(sL g4 (al+j) k4,gCo N es (Q4 A (wsA A)) vs i++(nx.take j).map (Q06 N es (vtx vs i))),(sN,[]),(sN,[])]):=by rw[<-hW];exact HE4.o.set 0 rfl 3 (sL ar4 ((al+j)+1) cr4)
      clear hW HE4
      have q_:ws4.cell? (aD g 4)=some (sL g4 (al+j) k4):=(HS4.o.box 0 rfl).c 4 rfl
      have x0_:ws4.cell? (aD w.heap.size 0)=some (sL a0 l0 q0):=Q0 HS4.o.nx HNb0.o
      have x1_:ws4.cell? (aD w.heap.size 1)=some (sL a1 l1 q1):=Q0 HS4.o.nx HNb1.o
      have x2_:ws4.cell? (aD w.heap.size 2)=some (sL a2 l2 q2):=Q0 HS4.o.nx HNb2.o
      have x3_:ws4.cell? (aD w.heap.size 3)=some (sL a3 l3 q3):=Q0 HS4.o.nx HNb3.o
      have x4_:ws4.cell? (aD w.heap.size 4)=some (iV N.uturn):=Q0 HS4.o.nx HNb4.o
      have x5_:ws4.cell? (aD b3 0)=some (sL r0 m0 d0):=Q0 HS4.o.nx HR0.o
      have x6_:ws4.cell? (aD b3 1)=some (sL (some (aD eb eo)) m rc):=Q0 HS4.o.nx HR1.o
      have x7_:ws4.cell? (aD b3 2)=some (sL r2 m2 d2):=Q0 HS4.o.nx HR2.o
      have x8_:ws4.cell? (aD b3 3)=some (sL r3 m3 d3):=Q0 HS4.o.nx HR3.o
      have x9_:=Q0 HS4.o.nx HV0.o
      have x10_:=(HCN.o _ HNs4.o).1
      have x11_:=Q0 HS4.o.nx HWT.o
      go_upto_region 21 with fail
      have hxd:Nx ws4 ws4.drew:=(Below.refl _ _).drew
      have HD5:=mh (HS4.o.next hxd)
      have HN5:=mh (HNs4.o.next hxd)
      have HSS:Z ((λq=>q.cell? (aD g 4)=some (sL g4 (al+j) k4)/\q.cell? (aD w.heap.size 0)=some (sL a0 l0 q0)/\q.cell? (aD w.heap.size 1)=some (sL a1 l1 q1)/\q.cell? (aD w.heap.size 2)=some (sL a2 l2 q2)/\q.cell? (aD w.heap.size 3)=some (sL a3 l3 q3)/\q.cell? (aD w.heap.size 4)=some (iV N.uturn)/\q.cell? (aD b3 0)=some (sL r0 m0 d0)/\q.cell? (aD b3 1)=some (sL (some (aD eb eo)) m rc)/\q.cell? (aD b3 2)=some (sL r2 m2 d2)/\q.cell? (aD b3 3)=some (sL r3 m3 d3)/\q.cell? (aD vb (i*2))=some (iV (X:Int))/\q.cell? (aD nb (j*2))=some (iV (U:Int))/\q.cell? (aD eb (eo+U*7+2))=some (iV wt)) ws4.drew):=⟨Q0 hxd q_,Q0 hxd x0_,Q0 hxd x1_,Q0 hxd x2_,Q0 hxd x3_,Q0 hxd x4_,Q0 hxd x5_,Q0 hxd x6_,Q0 hxd x7_,Q0 hxd x8_,Q0 hxd x9_,Q0 hxd x10_,Q0 hxd x11_⟩
      clear HS4 q_ x0_ x1_ x2_ x3_ x4_ x5_ x6_ x7_ x8_ x9_ x10_ x11_ hxd HNs4
      refine(wpIn_wide (n:=9)).1 ?_
      refine Qb (c:=29) (S:=λq=>q.cell? (aD g 4)=some (sL g4 (al+j) k4)/\q.cell? (aD w.heap.size 0)=some (sL a0 l0 q0)/\q.cell? (aD w.heap.size 1)=some (sL a1 l1 q1)/\q.cell? (aD w.heap.size 2)=some (sL a2 l2 q2)/\q.cell? (aD w.heap.size 3)=some (sL a3 l3 q3)/\q.cell? (aD w.heap.size 4)=some (iV N.uturn)/\q.cell? (aD b3 0)=some (sL r0 m0 d0)/\q.cell? (aD b3 1)=some (sL (some (aD eb eo)) m rc)/\q.cell? (aD b3 2)=some (sL r2 m2 d2)/\q.cell? (aD b3 3)=some (sL r3 m3 d3)/\q.cell? (aD vb (i*2))=some (iV (X:Int))/\q.cell? (aD nb (j*2))=some (iV (U:Int))/\q.cell? (aD eb (eo+U*7+2))=some (iV wt)) hmx (by kernel_rfl) (λhw hcl=>?_)
      generalize ws4.drew=wd5 at *
      refine tq (i:=0) (v:=.pointer (some (aD g 4))) (λhcl=>?_)
      refine tq (i:=1) (v:=sL g4 (al+j) k4) (λhcl=>?_)
      refine tq (i:=2) (v:=.agg #[sL a0 l0 q0,sL a1 l1 q1,sL a2 l2 q2,sL a3 l3 q3,iV N.uturn]) (λhcl=>?_)
      refine tq (i:=3) (v:=.agg #[sL r0 m0 d0,sL (some (aD eb eo)) m rc,sL r2 m2 d2,sL r3 m3 d3]) (λhcl=>?_)
      refine tq (i:=4) (v:=sL (sA vb) p vc) (λhcl=>?_)
      refine tq (i:=5) (v:=iV (i:Int)) (λhcl=>?_)
      refine tq (i:=6) (v:=.pointer (some (aD vb (i*2)))) (λhcl=>?_)
      refine tq (i:=7) (v:=.pointer (some (aD vb (i*2)))) (λhcl=>?_)
      refine tq (i:=8) (v:=iV (X:Int)) (λhcl=>?_)
      refine tq (i:=9) (v:=sL (sA nb) r nc) (λhcl=>?_)
      refine tq (i:=10) (v:=iV (j:Int)) (λhcl=>?_)
      refine tq (i:=11) (v:=.pointer (some (aD nb (j*2)))) (λhcl=>?_)
      refine tq (i:=12) (v:=.pointer (some (aD nb (j*2)))) (λhcl=>?_)
      refine tq (i:=13) (v:=iV (U:Int)) (λhcl=>?_)
      refine tq (i:=15) (v:=.pointer (some (aD b3 1))) (λhcl=>?_)
      refine tq (i:=16) (v:=sL (some (aD eb eo)) m rc) (λhcl=>?_)
      refine tq (i:=17) (v:=sL (sA nb) r nc) (λhcl=>?_)
      refine tq (i:=18) (v:=iV (j:Int)) (λhcl=>?_)
      refine tq (i:=19) (v:=.pointer (some (aD nb (j*2)))) (λhcl=>?_)
      refine tq (i:=20) (v:=.pointer (some (aD nb (j*2)))) (λhcl=>?_)
      refine tq (i:=21) (v:=iV (U:Int)) (λhcl=>?_)
      refine tq (i:=22) (v:=.pointer (some (aD eb (eo+U*7)))) (λhcl=>?_)
      refine tq (i:=23) (v:=.pointer (some (aD eb (eo+U*7+2)))) (λhcl=>?_)
      refine tq (i:=24) (v:=iV wt) (λhcl=>?_)
      refine Q8 (i:=14) (by kernel_rfl) hcl (λhcl=>wpOpIn_step rfl (λK hK=>?_))
      go_simp
      refine⟨trivial,(callsIn_wide.2 (Ey B0 B1 _ _ _ _ N _ _ _ _ RR X U _ (HNT.o.next HD5.o.nx) (HRR.o.next HD5.o.nx) HCI2.o (by rw[HRE.o,HM.o];exact hXm) (by rw[HRE.o,HM.o];exact hUm))).mono ?_⟩
      rintro e9 wc50 ⟨rfl,hx9⟩
      rw[HRE.o,HTC.o]
      have HDc50:=mh (HD5.o.next hx9)
      have HNc50:=mh (HN5.o.next hx9)
      have HSS:Z ((λq=>q.cell? (aD g 4)=some (sL g4 (al+j) k4)/\q.cell? (aD w.heap.size 0)=some (sL a0 l0 q0)/\q.cell? (aD w.heap.size 1)=some (sL a1 l1 q1)/\q.cell? (aD w.heap.size 2)=some (sL a2 l2 q2)/\q.cell? (aD w.heap.size 3)=some (sL a3 l3 q3)/\q.cell? (aD w.heap.size 4)=some (iV N.uturn)/\q.cell? (aD b3 0)=some (sL r0 m0 d0)/\q.cell? (aD b3 1)=some (sL (some (aD eb eo)) m rc)/\q.cell? (aD b3 2)=some (sL r2 m2 d2)/\q.cell? (aD b3 3)=some (sL r3 m3 d3)/\q.cell? (aD vb (i*2))=some (iV (X:Int))/\q.cell? (aD nb (j*2))=some (iV (U:Int))/\q.cell? (aD eb (eo+U*7+2))=some (iV wt)) wc50):=⟨Q0 hx9 HSS.o.1,Q0 hx9 HSS.o.2.1,Q0 hx9 HSS.o.2.2.1,Q0 hx9 HSS.o.2.2.2.1,Q0 hx9 HSS.o.2.2.2.2.1,Q0 hx9 HSS.o.2.2.2.2.2.1,Q0 hx9 HSS.o.2.2.2.2.2.2.1,Q0 hx9 HSS.o.2.2.2.2.2.2.2.1,Q0 hx9 HSS.o.2.2.2.2.2.2.2.2.1,Q0 hx9 HSS.o.2.2.2.2.2.2.2.2.2.1,Q0 hx9 HSS.o.2.2.2.2.2.2.2.2.2.2.1,Q0 hx9 HSS.o.2.2.2.2.2.2.2.2.2.2.2.1,Q0 hx9 HSS.o.2.2.2.2.2.2.2.2.2.2.2.2⟩
      refine hK _ _ ⟨oR HSS.o,?_⟩
      clear hK K hx9 HD5 HN5
      refine tq (i:=25) (v:=iV (tc+wt)) (λhcl=>?_)
      refine Q8 (i:=26) (by kernel_rfl) hcl (λhcl=>wpOpIn_step rfl (λK hK=>?_))
      go_simp
      refine hK _ _ ⟨oR ⟨Q0 (Qe _ _) HSS.o.1,Q0 (Qe _ _) HSS.o.2.1,Q0 (Qe _ _) HSS.o.2.2.1,Q0 (Qe _ _) HSS.o.2.2.2.1,Q0 (Qe _ _) HSS.o.2.2.2.2.1,Q0 (Qe _ _) HSS.o.2.2.2.2.2.1,Q0 (Qe _ _) HSS.o.2.2.2.2.2.2.1,Q0 (Qe _ _) HSS.o.2.2.2.2.2.2.2.1,Q0 (Qe _ _) HSS.o.2.2.2.2.2.2.2.2.1,Q0 (Qe _ _) HSS.o.2.2.2.2.2.2.2.2.2.1,Q0 (Qe _ _) HSS.o.2.2.2.2.2.2.2.2.2.2.1,Q0 (Qe _ _) HSS.o.2.2.2.2.2.2.2.2.2.2.2.1,Q0 (Qe _ _) HSS.o.2.2.2.2.2.2.2.2.2.2.2.2⟩,?_⟩
      clear hK K
      have hzz:=HDc50.o.nx.size
      refine Q8 (i:=27) (by kernel_rfl) hcl (λhcl=>wpOpIn_step rfl (λK hK=>?_))
      refine Jl rfl (.tmp 99) (.tmp 124) rfl wG.heap.size ((al+j)) (sL g4 (al+j) k4) (gCo N es (Q4 A (wsA A)) vs i++(nx.take j).map (Q06 N es (vtx vs i))) (tc+wt) wc50 _ rfl (by simp[Act.eval]) (HDc50.o.row 4 rfl) (by simp[Act.eval]) (by rw[zA,Q2b,HAL.o,zF,zX,HNR.o];omega) (by omega) hzz ?_
      intro ar5 cr5 wx5 p1 p2 p3
      have HE5:=mh (HDc50.o.grow 4 rfl p1 p2 p3)
      have HNx5:=mh (HNc50.o.chgI (HDc50.o.row 4 rfl) p2)
      clear p1 p2 p3 hzz
      clear HSS
      have HSS:Z ((λq=>q.cell? (aD g 4)=some (sL g4 (al+j) k4)/\q.cell? (aD w.heap.size 0)=some (sL a0 l0 q0)/\q.cell? (aD w.heap.size 1)=some (sL a1 l1 q1)/\q.cell? (aD w.heap.size 2)=some (sL a2 l2 q2)/\q.cell? (aD w.heap.size 3)=some (sL a3 l3 q3)/\q.cell? (aD w.heap.size 4)=some (iV N.uturn)/\q.cell? (aD b3 0)=some (sL r0 m0 d0)/\q.cell? (aD b3 1)=some (sL (some (aD eb eo)) m rc)/\q.cell? (aD b3 2)=some (sL r2 m2 d2)/\q.cell? (aD b3 3)=some (sL r3 m3 d3)/\q.cell? (aD vb (i*2))=some (iV (X:Int))/\q.cell? (aD nb (j*2))=some (iV (U:Int))/\q.cell? (aD eb (eo+U*7+2))=some (iV wt)) wx5):=⟨(HE5.o.box 0 rfl).c 4 rfl,Q0 HE5.o.nx HNb0.o,Q0 HE5.o.nx HNb1.o,Q0 HE5.o.nx HNb2.o,Q0 HE5.o.nx HNb3.o,Q0 HE5.o.nx HNb4.o,Q0 HE5.o.nx HR0.o,Q0 HE5.o.nx HR1.o,Q0 HE5.o.nx HR2.o,Q0 HE5.o.nx HR3.o,Q0 HE5.o.nx HV0.o,(HCN.o _ HNx5.o).1,Q0 HE5.o.nx HWT.o⟩
      refine hK _ _ ⟨oR HSS.o,?_⟩
      clear hK K HDc50 HNc50
      refine tq (i:=28) (v:=.pointer (some (aD g 4))) (λhcl=>?_)
      have q_:wx5.cell? (aD g 4)=some (sL g4 (al+j) k4):=(HE5.o.box 0 rfl).c 4 rfl
      have f_:=(HE5.o.box 0 rfl).blk.frozen 4
      refine Qh (i:=29) (by kernel_rfl) (wpOpIn_step rfl (λK hK=>?_))
      go_simp
      refine hK _ _ ⟨oL (by decide),?_⟩
      clear hK K
      refine Ql (by kernel_rfl) ?_ _
      clear hw hcl q_ f_ HSS
      generalize hW:wx5.setCell (aD g 4) (sL ar5 ((al+j)+1) cr5)=ws5
      have HNs5:=mh (HNx5.o.setB (i:=4) (HE5.o.box 0 rfl) (by decide) (sL ar5 ((al+j)+1) cr5))
      rw[hW] at HNs5
      clear HNx5
      have HS5:Z (MS wG ws5 [(g,#[sL ar1 (i+1) cr1,sL ar2 (i+1) cr2,sL ar3 (i+1) cr3,sL ar4 ((al+j)+1) cr4,sL ar5 ((al+j)+1) cr5,sN,sN],25)] [(sL ar1 (i+1) cr1,gEo vs i++[(X:Int)]),(sL ar2 (i+1) cr2,gSo vs i++[x2]),(sL ar3 (i+1) cr3,gFi es (Q4 A (wsA A)) vs i++[(al:Int)]),(sL ar4 ((al+j)+1) cr4,gTo es (Q4 A (wsA A)) vs i++(nx.take j).map (Xv vs)++[Xv vs ((U:Int),u2)]),(sL ar5 ((al+j)+1) cr5,gCo N es (Q4 A (wsA A)) vs i++(nx.take j).map (Q06 N es (vtx vs i))++[tc+wt]),(sN,[]),(sN,[])]):=by rw[<-hW];exact HE5.o.set 0 rfl 4 (sL ar5 ((al+j)+1) cr5)
      clear hW HE5
      have HF3:Z (gTo es (Q4 A (wsA A)) vs i++(nx.take (j+1)).map (Xv vs)=gTo es (Q4 A (wsA A)) vs i++(nx.take j).map (Xv vs)++[Xv vs ((U:Int),u2)]):=by unfold Z;rw[Q7g (by rw[HNR.o];exact hltj),HUJ.o,zZ]
      have HF4:Z (gCo N es (Q4 A (wsA A)) vs i++(nx.take (j+1)).map (Q06 N es (vtx vs i))=gCo N es (Q4 A (wsA A)) vs i++(nx.take j).map (Q06 N es (vtx vs i))++[tc+wt]):=by unfold Z;rw[Q7g (by rw[HNR.o];exact hltj),HZT.o,zZ]
      go_wp2
      go_roundw
      case rel=>exact⟨j+1,ar4,cr4,ar5,cr5,by omega,by go_num,HNs5,by rw[HF3.o,HF4.o];exact HS5.o⟩
      case measure=>simp[intOf];omega
     have ej:j=r:=by omega
     subst ej
     have hlt0:¬(j:Int)<j:=by omega
     have HT3:Z (gTo es (Q4 A (wsA A)) vs i++(nx.take j).map (Xv vs)=gTo es (Q4 A (wsA A)) vs (i+1)):=by unfold Z;rw[gTo,<-HNE.o,<-HNR.o,zR]
     have HT4:Z (gCo N es (Q4 A (wsA A)) vs i++(nx.take j).map (Q06 N es (vtx vs i))=gCo N es (Q4 A (wsA A)) vs (i+1)):=by unfold Z;rw[gCo,<-HNE.o,<-HNR.o,zR]
     rw[HT3.o,HT4.o] at HI
     have HAL1:Z ((gTo es (Q4 A (wsA A)) vs (i+1)).length=al+j):=by unfold Z;rw[gTo,zA,HAL.o,zF,<-HNE.o,HNR.o]
     have HI2:Z (MS wG wr [(g,#[sL ar1 (i+1) cr1,sL ar2 (i+1) cr2,sL ar3 (i+1) cr3,sL g3 (al+j) k3,sL g4 (al+j) k4,sN,sN],25)] [(sL ar1 (i+1) cr1,gEo vs i++[(X:Int)]),(sL ar2 (i+1) cr2,gSo vs i++[x2]),(sL ar3 (i+1) cr3,gFi es (Q4 A (wsA A)) vs i++[(al:Int)]),(sL g3 (al+j) k3,gTo es (Q4 A (wsA A)) vs (i+1)),(sL g4 (al+j) k4,gCo N es (Q4 A (wsA A)) vs (i+1)),(sN,[]),(sN,[])]):=HI
     clear HI HNI
     have q3_:wr.cell? (aD g 3)=some (sL g3 (al+j) k3):=(HI2.o.box 0 rfl).c 3 rfl
     by_cases hbig:40000<al+j
     ·have hbig':(40000:Int)<((al+j:Nat):Int):=by omega
      have d9:decide ((40000:Int)<(al:Int)+(j:Int))=true:=yB (by omega)
      have HBR:=mh (HCB.o.next HI2.o.nx)
      have HXF:=mh (HXG.o.trans HI2.o.nx)
      have HBIG:Z (40000<arcs es (Q4 A (wsA A)) vs):=by
       unfold Z
       have h1:=E4 (es:=es) (st:=(Q4 A (wsA A))) (vs:=vs) (i+1) (by rw[HVL.o];omega)
       rw[HAL1.o] at h1
       have h2:=Q4n (es:=es) (st:=(Q4 A (wsA A))) (vs.take (i+1)) (vs.drop (i+1))
       rw[List.take_append_drop] at h2
       omega
      go_upto_region 23 with fail
      go_wp2_with (refine Zm rfl _ _ rfl rfl rfl HBR.o rfl rfl rfl ?_)
      intro w9 hb9 hc9
      have HX9:Z (Nx w w9):=Below.trans HXF.o (hc9.below HXF.o.size (λx e=>by have e':x=w.heap.size+1:=e;omega))
      have HB9:=mh hb9
      clear hb9 hc9 q3_
      go_wp2
      refine Po rfl rfl HB9.o ?_
      exact Q09.none HX9.o (oR ⟨HVN.o,0,A,HBI.o,oR ⟨rfl,kk,vs,HRC.o,oL ⟨by rw[<-HEQ.o];exact HBIG.o,rfl,rfl⟩⟩⟩)
     ·have hbig':¬(40000:Int)<((al+j:Nat):Int):=by omega
      have d9:decide ((40000:Int)<(al:Int)+(j:Int))=false:=yC (by omega)
      have HG0:Z (gEo vs (i+1)=gEo vs i++[(X:Int)]):=by unfold Z;rw[gEo,HVI.o]
      have HG1:Z (gSo vs (i+1)=gSo vs i++[x2]):=by unfold Z;rw[gSo,HVI.o]
      have HG2:Z (gFi es (Q4 A (wsA A)) vs (i+1)=gFi es (Q4 A (wsA A)) vs i++[(al:Int)]):=by unfold Z;rw[gFi,HAL.o]
      go_wp2
      go_roundw
      case rel=>exact⟨i+1,al+j,_,_,_,_,_,_,_,_,_,_,by omega,by omega,by go_num,HAL1,by rw[HG0.o,HG1.o,HG2.o];exact HI2.o⟩
      case measure=>simp[intOf];omega
   have ei:i=p:=by omega
   subst ei
   have hlt0:¬(i:Int)<i:=by omega
   have HFI:Z (gFi es (Q4 A (wsA A)) vs (i+1)=gFi es (Q4 A (wsA A)) vs i++[(al:Int)]):=by unfold Z;rw[gFi,HAL.o]
   have q2_:wr.cell? (aD g 2)=some (sL g2 i k2):=(HY.o.box 0 rfl).c 2 rfl
   have q3_:wr.cell? (aD g 3)=some (sL g3 al k3):=(HY.o.box 0 rfl).c 3 rfl
   have hzz:=HY.o.nx.size
   have hln_:(gFi es (Q4 A (wsA A)) vs i).length=i:=E5 i
   have hlb_:i<=1000000:=by omega
   go_wp2_with (at_builtin;refine Yy rfl _ _ rfl wG.heap.size (i) (sL g2 i k2) (gFi es (Q4 A (wsA A)) vs i) ((al:Int)) wr rfl (HY.o.row 2 rfl) rfl hln_ hlb_ hzz ?_)
   intro ar6 cr6 wx6 p1 p2 p3
   have HE6:=mh (HY.o.grow 2 rfl p1 p2 p3)
   clear p1 p2 p3 hzz hln_ hlb_ q2_ q3_ HY
   have q_:wx6.cell? (aD g 2)=some (sL g2 i k2):=(HE6.o.box 0 rfl).c 2 rfl
   have f_:=(HE6.o.box 0 rfl).blk.frozen 2
   go_upto_region 25 with fail
   generalize hW:wx6.setCell (aD g 2) (sL ar6 (i+1) cr6)=ws6
   have HS6:Z (MS wG ws6 [(g,#[sL g0 i k0,sL g1 i k1,sL ar6 (i+1) cr6,sL g3 al k3,sL g4 al k4,sN,sN],25)] [(sL g0 i k0,gEo vs i),(sL g1 i k1,gSo vs i),(sL ar6 (i+1) cr6,gFi es (Q4 A (wsA A)) vs i++[(al:Int)]),(sL g3 al k3,gTo es (Q4 A (wsA A)) vs i),(sL g4 al k4,gCo N es (Q4 A (wsA A)) vs i),(sN,[]),(sN,[])]):=by rw[<-hW];exact HE6.o.set 0 rfl 2 (sL ar6 (i+1) cr6)
   clear hW HE6 q_ f_
   go_wp2
   go_loopw [11] (λs11 wr=>∃(e:Nat) (g5:Option Addr) (k5:Nat) (g6:Option Addr) (k6:Nat),e<=m/\s11=iV e/\Z (MS wG wr [(g,#[sL g0 i k0,sL g1 i k1,sL ar6 (i+1) cr6,sL g3 al k3,sL g4 al k4,sL g5 e k5,sL g6 e k6],25)] [(sL g0 i k0,gEo vs i),(sL g1 i k1,gSo vs i),(sL ar6 (i+1) cr6,gFi es (Q4 A (wsA A)) vs (i+1)),(sL g3 al k3,gTo es (Q4 A (wsA A)) vs i),(sL g4 al k4,gCo N es (Q4 A (wsA A)) vs i),(sL g5 e k5,gSa (Q4 A (wsA A)) vs e),(sL g6 e k6,gWe es e)])) (λi _=>m-(intOf i).toNat)
   case atStart=>exact⟨0,none,0,none,0,nZ,rfl,by rw[HFI.o];exact HS6.o⟩
   clear HS6
   obtain⟨e,g5,k5,g6,k6,hem,rfl,HL⟩:=hrel
   have y1:wr.cell? (aD b3 1)=some (sL ra m rc):=Q0 HL.o.nx (HRB.o.c 1 rfl)
   by_cases hlte:e<m
   ·have hlt':(e:Int)<m:=by omega
    obtain⟨eb,eo,hra⟩:=Jw.addr HED.o HM.o (by omega)
    subst hra
    obtain⟨wt,hwt⟩:∃z,(eat es e).weight=z:=⟨_,rfl⟩
    have HWT:Z (wG.cell? (aD eb (eo+e*7+2))=some (iV wt)):=by have h:=(HEDC.o _ _ rfl e hlte).2.2.1;rw[hwt] at h;exact h
    have HWE:Z (gWe es (e+1)=gWe es e++[wt]):=by unfold Z;rw[gWe,hwt]
    have HSE:Z (gSa (Q4 A (wsA A)) vs (e+1)=gSa (Q4 A (wsA A)) vs e++[Xv vs ((e:Int),Q4 A (wsA A) 0 (e:Int))]):=rfl
    have HR1:=mh (HRB.o.c 1 rfl)
    have HU0:=mh (HBB.o.c 1 rfl)
    have HU1:=mh (HBB.o.c 2 rfl)
    have HU2:=mh (HBB.o.c 3 rfl)
    have HU3:=mh (HBB.o.c 4 rfl)
    have HU4:=mh (HBB.o.c 5 rfl)
    clear hwt
    have hmx:prog.follows .mixedOrders=true:=by kernel_rfl
    have q_:wr.cell? (aD g 5)=some (sL g5 e k5):=(HL.o.box 0 rfl).c 5 rfl
    have x0_:wr.cell? (aD b4 1)=some (sL f0 n0 c0):=Q0 HL.o.nx HU0.o
    have x1_:wr.cell? (aD b4 2)=some (sL f1 n1 c1):=Q0 HL.o.nx HU1.o
    have x2_:wr.cell? (aD b4 3)=some (sL f2 n2 c2):=Q0 HL.o.nx HU2.o
    have x3_:wr.cell? (aD b4 4)=some (sL f3 n3 c3):=Q0 HL.o.nx HU3.o
    have x4_:wr.cell? (aD b4 5)=some (sL f4 n3 c4):=Q0 HL.o.nx HU4.o
    go_upto_region 28 with fail
    have hxd:Nx wr wr.drew:=(Below.refl _ _).drew
    have HD7:=mh (HL.o.next hxd)
    have HSS:Z ((λq=>q.cell? (aD g 5)=some (sL g5 e k5)/\q.cell? (aD b4 1)=some (sL f0 n0 c0)/\q.cell? (aD b4 2)=some (sL f1 n1 c1)/\q.cell? (aD b4 3)=some (sL f2 n2 c2)/\q.cell? (aD b4 4)=some (sL f3 n3 c3)/\q.cell? (aD b4 5)=some (sL f4 n3 c4)) wr.drew):=⟨Q0 hxd q_,Q0 hxd x0_,Q0 hxd x1_,Q0 hxd x2_,Q0 hxd x3_,Q0 hxd x4_⟩
    clear HL q_ x0_ x1_ x2_ x3_ x4_ hxd
    refine(wpIn_wide (n:=9)).1 ?_
    refine Qb (c:=14) (S:=λq=>q.cell? (aD g 5)=some (sL g5 e k5)/\q.cell? (aD b4 1)=some (sL f0 n0 c0)/\q.cell? (aD b4 2)=some (sL f1 n1 c1)/\q.cell? (aD b4 3)=some (sL f2 n2 c2)/\q.cell? (aD b4 4)=some (sL f3 n3 c3)/\q.cell? (aD b4 5)=some (sL f4 n3 c4)) hmx (by kernel_rfl) (λhw hcl=>?_)
    generalize wr.drew=wd7 at *
    refine tq (i:=0) (v:=.pointer (some (aD g 5))) (λhcl=>?_)
    refine tq (i:=1) (v:=sL g5 e k5) (λhcl=>?_)
    refine tq (i:=2) (v:=sL va i vc) (λhcl=>?_)
    refine tq (i:=3) (v:=iV (e:Int)) (λhcl=>?_)
    refine tq (i:=4) (v:=.pointer (some (aD b4 1))) (λhcl=>?_)
    refine tq (i:=5) (v:=.agg #[sL f0 n0 c0,sL f1 n1 c1,sL f2 n2 c2,sL f3 n3 c3,sL f4 n3 c4]) (λhcl=>?_)
    refine tq (i:=6) (v:=sL wa n3 wc) (λhcl=>?_)
    refine tq (i:=7) (v:=iV (e:Int)) (λhcl=>?_)
    refine Q8 (i:=8) (by kernel_rfl) hcl (λhcl=>wpOpIn_step rfl (λK hK=>?_))
    go_simp
    refine⟨trivial,(callsIn_wide.2 (Ko B2 B3 _ _ _ f3 f4 wa n3 c3 c4 wc A (wsA A) 0 (e:Int) _ (HAU.o.next HD7.o.nx) (HWD.o.next HD7.o.nx) HOK.o)).mono ?_⟩
    rintro e9 wc70 ⟨rfl,hx9⟩
    have HDc70:=mh (HD7.o.next hx9)
    have HSS:Z ((λq=>q.cell? (aD g 5)=some (sL g5 e k5)/\q.cell? (aD b4 1)=some (sL f0 n0 c0)/\q.cell? (aD b4 2)=some (sL f1 n1 c1)/\q.cell? (aD b4 3)=some (sL f2 n2 c2)/\q.cell? (aD b4 4)=some (sL f3 n3 c3)/\q.cell? (aD b4 5)=some (sL f4 n3 c4)) wc70):=⟨Q0 hx9 HSS.o.1,Q0 hx9 HSS.o.2.1,Q0 hx9 HSS.o.2.2.1,Q0 hx9 HSS.o.2.2.2.1,Q0 hx9 HSS.o.2.2.2.2.1,Q0 hx9 HSS.o.2.2.2.2.2⟩
    refine hK _ _ ⟨oR HSS.o,?_⟩
    clear hK K hx9 HD7
    refine tq (i:=9) (v:=.agg #[iV (e:Int),iV (Q4 A (wsA A) 0 (e:Int))]) (λhcl=>?_)
    refine Q8 (i:=10) (by kernel_rfl) hcl (λhcl=>wpOpIn_step rfl (λK hK=>?_))
    go_simp
    refine⟨trivial,(callsIn_wide.2 (Pb _ _ vs (e:Int) (Q4 A (wsA A) 0 (e:Int)) _ (HVS.o.held.next HDc70.o.nx) HASC.o (by rw[HVL.o];omega))).mono ?_⟩
    rintro e9 wc71 ⟨rfl,hx9⟩
    have HDc71:=mh (HDc70.o.next hx9)
    have HSS:Z ((λq=>q.cell? (aD g 5)=some (sL g5 e k5)/\q.cell? (aD b4 1)=some (sL f0 n0 c0)/\q.cell? (aD b4 2)=some (sL f1 n1 c1)/\q.cell? (aD b4 3)=some (sL f2 n2 c2)/\q.cell? (aD b4 4)=some (sL f3 n3 c3)/\q.cell? (aD b4 5)=some (sL f4 n3 c4)) wc71):=⟨Q0 hx9 HSS.o.1,Q0 hx9 HSS.o.2.1,Q0 hx9 HSS.o.2.2.1,Q0 hx9 HSS.o.2.2.2.1,Q0 hx9 HSS.o.2.2.2.2.1,Q0 hx9 HSS.o.2.2.2.2.2⟩
    refine hK _ _ ⟨oR HSS.o,?_⟩
    clear hK K hx9 HDc70
    refine Q8 (i:=11) (by kernel_rfl) hcl (λhcl=>wpOpIn_step rfl (λK hK=>?_))
    go_simp
    refine hK _ _ ⟨oR ⟨Q0 (Qe _ _) HSS.o.1,Q0 (Qe _ _) HSS.o.2.1,Q0 (Qe _ _) HSS.o.2.2.1,Q0 (Qe _ _) HSS.o.2.2.2.1,Q0 (Qe _ _) HSS.o.2.2.2.2.1,Q0 (Qe _ _) HSS.o.2.2.2.2.2⟩,?_⟩
    clear hK K
    have hzz:=HDc71.o.nx.size
    refine Q8 (i:=12) (by kernel_rfl) hcl (λhcl=>wpOpIn_step rfl (λK hK=>?_))
    refine Jl rfl (.tmp 148) (.tmp 158) rfl wG.heap.size (e) (sL g5 e k5) (gSa (Q4 A (wsA A)) vs e) (Xv vs ((e:Int),Q4 A (wsA A) 0 (e:Int))) wc71 _ rfl (by simp[Act.eval]) (HDc71.o.row 5 rfl) (by simp[Act.eval]) (Q29 e) (by omega) hzz ?_
    intro ar7 cr7 wx7 p1 p2 p3
    have HE7:=mh (HDc71.o.grow 5 rfl p1 p2 p3)
    clear p1 p2 p3 hzz
    clear HSS
    have HSS:Z ((λq=>q.cell? (aD g 5)=some (sL g5 e k5)/\q.cell? (aD b4 1)=some (sL f0 n0 c0)/\q.cell? (aD b4 2)=some (sL f1 n1 c1)/\q.cell? (aD b4 3)=some (sL f2 n2 c2)/\q.cell? (aD b4 4)=some (sL f3 n3 c3)/\q.cell? (aD b4 5)=some (sL f4 n3 c4)) wx7):=⟨(HE7.o.box 0 rfl).c 5 rfl,Q0 HE7.o.nx HU0.o,Q0 HE7.o.nx HU1.o,Q0 HE7.o.nx HU2.o,Q0 HE7.o.nx HU3.o,Q0 HE7.o.nx HU4.o⟩
    refine hK _ _ ⟨oR HSS.o,?_⟩
    clear hK K HDc71
    refine tq (i:=13) (v:=.pointer (some (aD g 5))) (λhcl=>?_)
    have q_:wx7.cell? (aD g 5)=some (sL g5 e k5):=(HE7.o.box 0 rfl).c 5 rfl
    have f_:=(HE7.o.box 0 rfl).blk.frozen 5
    refine Qh (i:=14) (by kernel_rfl) (wpOpIn_step rfl (λK hK=>?_))
    go_simp
    refine hK _ _ ⟨oL (by decide),?_⟩
    clear hK K
    refine Ql (by kernel_rfl) ?_ _
    clear hw hcl q_ f_ HSS
    generalize hW:wx7.setCell (aD g 5) (sL ar7 (e+1) cr7)=ws7
    have HS7:Z (MS wG ws7 [(g,#[sL g0 i k0,sL g1 i k1,sL ar6 (i+1) cr6,sL g3 al k3,sL g4 al k4,sL ar7 (e+1) cr7,sL g6 e k6],25)] [(sL g0 i k0,gEo vs i),(sL g1 i k1,gSo vs i),(sL ar6 (i+1) cr6,gFi es (Q4 A (wsA A)) vs (i+1)),(sL g3 al k3,gTo es (Q4 A (wsA A)) vs i),(sL g4 al k4,gCo N es (Q4 A (wsA A)) vs i),(sL ar7 (e+1) cr7,gSa (Q4 A (wsA A)) vs e++[Xv vs ((e:Int),Q4 A (wsA A) 0 (e:Int))]),(sL g6 e k6,gWe es e)]):=by rw[<-hW];exact HE7.o.set 0 rfl 5 (sL ar7 (e+1) cr7)
    clear hW HE7
    have q_:ws7.cell? (aD g 6)=some (sL g6 e k6):=(HS7.o.box 0 rfl).c 6 rfl
    have x0_:ws7.cell? (aD b3 1)=some (sL (some (aD eb eo)) m rc):=Q0 HS7.o.nx HR1.o
    have x1_:=Q0 HS7.o.nx HWT.o
    go_upto_region 29 with fail
    have hxd:Nx ws7 ws7.drew:=(Below.refl _ _).drew
    have HD8:=mh (HS7.o.next hxd)
    have HSS:Z ((λq=>q.cell? (aD g 6)=some (sL g6 e k6)/\q.cell? (aD b3 1)=some (sL (some (aD eb eo)) m rc)/\q.cell? (aD eb (eo+e*7+2))=some (iV wt)) ws7.drew):=⟨Q0 hxd q_,Q0 hxd x0_,Q0 hxd x1_⟩
    clear HS7 q_ x0_ x1_ hxd
    refine(wpIn_wide (n:=9)).1 ?_
    refine Qb (c:=11) (S:=λq=>q.cell? (aD g 6)=some (sL g6 e k6)/\q.cell? (aD b3 1)=some (sL (some (aD eb eo)) m rc)/\q.cell? (aD eb (eo+e*7+2))=some (iV wt)) hmx (by kernel_rfl) (λhw hcl=>?_)
    generalize ws7.drew=wd8 at *
    refine tq (i:=0) (v:=.pointer (some (aD g 6))) (λhcl=>?_)
    refine tq (i:=1) (v:=sL g6 e k6) (λhcl=>?_)
    refine tq (i:=2) (v:=.pointer (some (aD b3 1))) (λhcl=>?_)
    refine tq (i:=3) (v:=sL (some (aD eb eo)) m rc) (λhcl=>?_)
    refine tq (i:=4) (v:=iV (e:Int)) (λhcl=>?_)
    refine tq (i:=5) (v:=.pointer (some (aD eb (eo+e*7)))) (λhcl=>?_)
    refine tq (i:=6) (v:=.pointer (some (aD eb (eo+e*7+2)))) (λhcl=>?_)
    refine tq (i:=7) (v:=iV wt) (λhcl=>?_)
    refine Q8 (i:=8) (by kernel_rfl) hcl (λhcl=>wpOpIn_step rfl (λK hK=>?_))
    go_simp
    refine hK _ _ ⟨oR ⟨Q0 (Qe _ _) HSS.o.1,Q0 (Qe _ _) HSS.o.2.1,Q0 (Qe _ _) HSS.o.2.2⟩,?_⟩
    clear hK K
    have hzz:=HD8.o.nx.size
    refine Q8 (i:=9) (by kernel_rfl) hcl (λhcl=>wpOpIn_step rfl (λK hK=>?_))
    refine Jl rfl (.tmp 162) (.tmp 169) rfl wG.heap.size (e) (sL g6 e k6) (gWe es e) (wt) wd8 _ rfl (by simp[Act.eval]) (HD8.o.row 6 rfl) (by simp[Act.eval]) (Q27 e) (by omega) hzz ?_
    intro ar8 cr8 wx8 p1 p2 p3
    have HE8:=mh (HD8.o.grow 6 rfl p1 p2 p3)
    clear p1 p2 p3 hzz
    clear HSS
    have HSS:Z ((λq=>q.cell? (aD g 6)=some (sL g6 e k6)/\q.cell? (aD b3 1)=some (sL (some (aD eb eo)) m rc)/\q.cell? (aD eb (eo+e*7+2))=some (iV wt)) wx8):=⟨(HE8.o.box 0 rfl).c 6 rfl,Q0 HE8.o.nx HR1.o,Q0 HE8.o.nx HWT.o⟩
    refine hK _ _ ⟨oR HSS.o,?_⟩
    clear hK K HD8
    refine tq (i:=10) (v:=.pointer (some (aD g 6))) (λhcl=>?_)
    have q_:wx8.cell? (aD g 6)=some (sL g6 e k6):=(HE8.o.box 0 rfl).c 6 rfl
    have f_:=(HE8.o.box 0 rfl).blk.frozen 6
    refine Qh (i:=11) (by kernel_rfl) (wpOpIn_step rfl (λK hK=>?_))
    go_simp
    refine hK _ _ ⟨oL (by decide),?_⟩
    clear hK K
    refine Ql (by kernel_rfl) ?_ _
    clear hw hcl q_ f_ HSS
    generalize hW:wx8.setCell (aD g 6) (sL ar8 (e+1) cr8)=ws8
    have HS8:Z (MS wG ws8 [(g,#[sL g0 i k0,sL g1 i k1,sL ar6 (i+1) cr6,sL g3 al k3,sL g4 al k4,sL ar7 (e+1) cr7,sL ar8 (e+1) cr8],25)] [(sL g0 i k0,gEo vs i),(sL g1 i k1,gSo vs i),(sL ar6 (i+1) cr6,gFi es (Q4 A (wsA A)) vs (i+1)),(sL g3 al k3,gTo es (Q4 A (wsA A)) vs i),(sL g4 al k4,gCo N es (Q4 A (wsA A)) vs i),(sL ar7 (e+1) cr7,gSa (Q4 A (wsA A)) vs e++[Xv vs ((e:Int),Q4 A (wsA A) 0 (e:Int))]),(sL ar8 (e+1) cr8,gWe es e++[wt])]):=by rw[<-hW];exact HE8.o.set 0 rfl 6 (sL ar8 (e+1) cr8)
    clear hW HE8
    go_wp2
    go_roundw
    case rel=>exact⟨e+1,ar7,cr7,ar8,cr8,by omega,by go_num,by rw[HSE.o,HWE.o];exact HS8.o⟩
    case measure=>simp[intOf];omega
   have ee:e=m:=by omega
   subst ee
   have hlt0:¬(e:Int)<e:=by omega
   have t0_:wr.cell? (aD g 0)=some (sL g0 i k0):=(HL.o.box 0 rfl).c 0 rfl
   have t1_:wr.cell? (aD g 1)=some (sL g1 i k1):=(HL.o.box 0 rfl).c 1 rfl
   have t2_:wr.cell? (aD g 2)=some (sL ar6 (i+1) cr6):=(HL.o.box 0 rfl).c 2 rfl
   have t3_:wr.cell? (aD g 3)=some (sL g3 al k3):=(HL.o.box 0 rfl).c 3 rfl
   have t4_:wr.cell? (aD g 4)=some (sL g4 al k4):=(HL.o.box 0 rfl).c 4 rfl
   have t5_:wr.cell? (aD g 5)=some (sL g5 e k5):=(HL.o.box 0 rfl).c 5 rfl
   have t6_:wr.cell? (aD g 6)=some (sL g6 e k6):=(HL.o.box 0 rfl).c 6 rfl
   have HBR:=mh (HCB.o.next HL.o.nx)
   have HXF:=mh (HXG.o.trans HL.o.nx)
   have HSM:Z (arcs es (Q4 A (wsA A)) vs<=40000):=by
    unfold Z
    have h1:=E4 (es:=es) (st:=(Q4 A (wsA A))) (vs:=vs) i (by rw[HVL.o];exact lR)
    rw[HAL.o,<-HVL.o,zR] at h1
    omega
   have HAP:Z (Aps [sL g0 i k0,sL g1 i k1,sL ar6 (i+1) cr6,sL g3 al k3,sL g4 al k4,sL g5 e k5,sL g6 e k6]):=HL.o.aps
   go_upto_region 30 with fail
   go_wp2_with (refine Zm rfl _ _ rfl rfl rfl HBR.o rfl rfl rfl ?_)
   intro w9 hb9 hc9
   have HX9:Z (Nx w w9):=Below.trans HXF.o (hc9.below HXF.o.size (λx e=>by have e':x=w.heap.size+1:=e;omega))
   have HB9:=mh hb9
   have o0_:Q5 w.heap.size w9 (sL g0 i k0) (gEo vs i):=(Jb (J5 (HL.o.row 0 rfl) hc9 (λb hb ee=>by have e1:b=w.heap.size+1:=ee;have:=(Q7 (HL.o.row 0 rfl) b hb).1;have:=HGS.o;omega)) HXG.o.size)
   have o1_:Q5 w.heap.size w9 (sL g1 i k1) (gSo vs i):=(Jb (J5 (HL.o.row 1 rfl) hc9 (λb hb ee=>by have e1:b=w.heap.size+1:=ee;have:=(Q7 (HL.o.row 1 rfl) b hb).1;have:=HGS.o;omega)) HXG.o.size)
   have o2_:Q5 w.heap.size w9 (sL ar6 (i+1) cr6) (gFi es (Q4 A (wsA A)) vs (i+1)):=(Jb (J5 (HL.o.row 2 rfl) hc9 (λb hb ee=>by have e1:b=w.heap.size+1:=ee;have:=(Q7 (HL.o.row 2 rfl) b hb).1;have:=HGS.o;omega)) HXG.o.size)
   have o3_:Q5 w.heap.size w9 (sL g3 al k3) (gTo es (Q4 A (wsA A)) vs i):=(Jb (J5 (HL.o.row 3 rfl) hc9 (λb hb ee=>by have e1:b=w.heap.size+1:=ee;have:=(Q7 (HL.o.row 3 rfl) b hb).1;have:=HGS.o;omega)) HXG.o.size)
   have o4_:Q5 w.heap.size w9 (sL g4 al k4) (gCo N es (Q4 A (wsA A)) vs i):=(Jb (J5 (HL.o.row 4 rfl) hc9 (λb hb ee=>by have e1:b=w.heap.size+1:=ee;have:=(Q7 (HL.o.row 4 rfl) b hb).1;have:=HGS.o;omega)) HXG.o.size)
   have o5_:Q5 w.heap.size w9 (sL g5 e k5) (gSa (Q4 A (wsA A)) vs e):=(Jb (J5 (HL.o.row 5 rfl) hc9 (λb hb ee=>by have e1:b=w.heap.size+1:=ee;have:=(Q7 (HL.o.row 5 rfl) b hb).1;have:=HGS.o;omega)) HXG.o.size)
   have o6_:Q5 w.heap.size w9 (sL g6 e k6) (gWe es e):=(Jb (J5 (HL.o.row 6 rfl) hc9 (λb hb ee=>by have e1:b=w.heap.size+1:=ee;have:=(Q7 (HL.o.row 6 rfl) b hb).1;have:=HGS.o;omega)) HXG.o.size)
   have HO9:=mh (And.intro o0_ (And.intro o1_ (And.intro o2_ (And.intro o3_ (And.intro o4_ (And.intro o5_ o6_))))))
   clear hb9 hc9 t0_ o0_ t1_ o1_ t2_ o2_ t3_ o3_ t4_ o4_ t5_ o5_ t6_ o6_
   go_wp2
   refine Po rfl rfl HB9.o ?_
   exact Q09.some HX9.o (by rw[HEQ.o] at HO9;exact HO9.o) HVL.o (by rw[<-HEQ.o];exact HM.o) HVN.o HBI.o HRC.o (by rw[<-HEQ.o];exact HSM.o) HAP.o
  ·have d1:(code !=0)=true:=by simpa using hc
   have HC:Z (code≠0):=hc
   clear hc
   go_upto_region 6 with fail
   go_wp2_with (refine Zm rfl _ _ rfl rfl rfl HBC6.o rfl rfl rfl ?_)
   intro w9 hb9 hc9
   have HX9:Z (Nx w w9):=Below.trans HXW6.o (hc9.below HXW6.o.size (λx e=>by have e':x=w.heap.size+1:=e;omega))
   have HB9:=mh hb9
   clear hb9 hc9 y0
   go_wp2
   refine Po rfl rfl HB9.o ?_
   exact Q09.none HX9.o (oR ⟨HVN.o,code,A,HBI0.o,oL ⟨HC.o,rfl,rfl⟩⟩)
theorem Qdn (hg:rgB rs=true)(xs:List Int):-2<=Jd rs xs/\Jd rs xs<4000:=by
 rcases Q0r hg lR xs with⟨h,_⟩|⟨h1,⟨j,hj,h2,h3,h4⟩,_⟩|⟨h,_⟩
 ·show -2<=V2 rs xs rs.length/\V2 rs xs rs.length<4000
  omega
 ·have hr:=Uy hg hj
  have:=hr.2.2 ((J2 rs j).seq.length-1) (by omega)
  show -2<=V2 rs xs rs.length/\V2 rs xs rs.length<4000
  omega
 ·show -2<=V2 rs xs rs.length/\V2 rs xs rs.length<4000
  omega
theorem Q0s (hg:rgB rs=true):Jd rs []=-1:=by
 refine(Q0r hg lR []).uniq (oL ⟨rfl,?_⟩)
 rintro e ⟨j,hj,h2,h3,h4⟩
 have hr:=Uy hg hj
 have:=h3.length_le
 rw[zX,Gq h2] at this
 simp at this
 omega
theorem Qcc (rs:List Ru)(xs:List Int):V3 rs xs=true↔∃j,j<rs.length/\(J2 rs j).only=false/\(J2 rs j).seq <:+ xs:=by
 unfold V3
 rw[Bool.not_eq_true',Bool.eq_false_iff]
 constructor
 ·intro h
  apply Classical.byContradiction
  intro hn
  apply h
  refine Qt lR λi hi=>?_
  unfold Kh
  cases ho:(J2 rs i).only with
  |true=>rfl
  |false=>
   cases hs:Px (J2 rs i).seq xs with
   |false=>rfl
   |true=>exact absurd ⟨i,hi,ho,(Ft _ _).1 hs⟩ hn
 ·rintro⟨j,hj,ho,hs⟩ h
  have:=List.all_eq_true.1 h j (List.mem_range.2 hj)
  unfold Kh at this
  rw[ho,(Ft _ _).2 hs] at this
  cases this
theorem Q4m (hg:rgB rs=true):V3 rs []=false:=by
 rw[Bool.eq_false_iff]
 intro h
 obtain⟨j,hj,_,h3⟩:=(Qcc rs []).1 h
 have hr:=Uy hg hj
 have:=h3.length_le
 rw[List.length_nil] at this
 omega
section
variable {rs:List Ru}{ws:List (List Int)}
theorem Q6i (hg:rgB rs=true)(hl:ws.length<=2000)(ha:U1 ws)(hin:∀y,inW ws y↔PW rs rs.length 1 y):Wb (J6 ws (Jd rs) (V3 rs))=true:=by
 have hW:=E8 hg lR (oL lR) ha hin
 have hp:=hW.pos
 have hlen:(J6 ws (Jd rs) (V3 rs)).pa.length=ws.length:=by simp[J6]
 have h402:∀s,s<ws.length->(wd ws s).length<=402:=λs hs=>Qap hg lR (oL lR) ((hin _).1 ⟨s,hs,rfl⟩)
 rw[Eb]
 unfold Q1g
 rw[hlen,zG,zG,zG]
 refine⟨?_,Qt lR λs hs=>?_,Qt lR λs hs=>?_,Qt lR λs hs=>?_⟩
 ·unfold Gs
  simp[J6]
  omega
 ·unfold okI
  by_cases c:s=0
  ·subst c
   rw[if_pos rfl,zG]
   refine⟨?_,?_⟩
   ·have:iat (J6 ws (Jd rs) (V3 rs)).pa 0=-1:=by
     show iat (ws.map _) 0=_
     rw[Ug _ hp,if_pos hW.root]
    rw[this];rfl
   ·rw[Q2o hp,hW.root];rfl
  ·rw[if_neg c,Q2m hW (by omega) hs,U6 hW hs,Qcf hW s (by omega) hs]
   simpa using h402 s hs
 ·unfold muI
  by_cases c:s=0
  ·subst c
   rw[if_pos rfl,Q2n hp,Q2p hp,hW.root,Q0s hg,Q4m hg]
   rfl
  ·rw[if_neg c,Q2n hs]
   have:=Qdn hg (wd ws s)
   simp
   exact this
 ·unfold faI
  by_cases c:s=0
  ·subst c
   have:iat (J6 ws (Jd rs) (V3 rs)).fa 0=-1:=by
    show iat (ws.map _) 0=_
    rw[Ug _ hp,if_pos hW.root]
   rw[this,if_pos rfl];rfl
  ·have:iat (J6 ws (Jd rs) (V3 rs)).fa s=LW ws (wd ws s) 1:=by
    show iat (ws.map _) s=_
    rw[Ug _ hs,if_neg (hW.ne (by omega) hs)]
   rw[this,if_neg c,(Q9q (mu:=Jd rs) (bd:=V3 rs) hW (by omega) hs).1]
   simp
end
theorem Qf7 (hv:J1 N=true)(hB:Z8 (Vj N).rules 0 A):Wb A=true/\Q9v (Q4 A (wsA A)) (E1 N).length A.pa.length:=by
 rcases hB with⟨-,h,-⟩|⟨hg,ws,hI,⟨-,h,-⟩|⟨hl,-,rfl⟩⟩
 ·exact absurd h (by decide)
 ·exact absurd h (by decide)
 have hin:∀y,inW ws y↔PW (Vj N).rules (Vj N).rules.length 1 y:=λy=>⟨hI.yes y,hI.all hl y⟩
 have hV:=Q6i hg hl hI.asc hin
 have hW:=E8 hg lR (oL lR) hI.asc hin
 have hlen:(J6 ws (Jd (Vj N).rules) (V3 (Vj N).rules)).pa.length=ws.length:=by simp[J6]
 have hT:G3 (J6 ws (Jd (Vj N).rules) (V3 (Vj N).rules)) ws.length:=F6 hW
 have hok:=(Q6t hV).1
 have hp:=hW.pos
 have hbd:∀s e,0<=T6 (wsA (J6 ws (Jd (Vj N).rules) (V3 (Vj N).rules))) s e/\T6 (wsA (J6 ws (Jd (Vj N).rules) (V3 (Vj N).rules))) s e<ws.length:=λs e=>by
  have h:=Q7j (x:=wd (wsA (J6 ws (Jd (Vj N).rules) (V3 (Vj N).rules))) s++[e]) hok.e (k:=0) (f:=(wd (wsA (J6 ws (Jd (Vj N).rules) (V3 (Vj N).rules))) s++[e]).length+1-0) (by omega) (by omega)
  rw[hok.l,hlen] at h
  exact h
 refine⟨hV,⟨λs e=>?_,λs e=>?_,λe he=>?_⟩⟩
 ·rw[hlen]
  unfold Q4
  have:=hbd s.toNat e
  split
  ·omega
  ·split
   ·omega
   ·split<;>omega
 ·unfold Q4
  have:=hbd s.toNat e
  split
  ·omega
  ·split
   ·omega
   ·split<;>omega
 ·have h4:=Q86 (Uw hv)
  have hs:=Q8l hV (s:=0) (by rw[hlen];exact hp) (e:Int)
  rw[show((0:Nat):Int)=0 from rfl] at hs
  rw[hs]
  unfold Qaa
  rw[if_neg (by omega),if_neg (λc=>?_),if_neg (λc=>?_)]
  ·omega
  ·rw[hlen] at c
   obtain⟨g1,g2⟩:=Qfd hT hp (e:Int)
   obtain⟨v,j,h1,h2,-,-,h5⟩:=Ao hT (Wd (J6 ws (Jd (Vj N).rules) (V3 (Vj N).rules)) 0++[(e:Int)]) (k:=0) nZ
   have ev:v=goOf (J6 ws (Jd (Vj N).rules) (V3 (Vj N).rules)) ws.length 0 (e:Int):=by rw[g1] at h2;omega
   subst ev
   rw[Q2p g2,<-U6 (mu:=Jd (Vj N).rules) (bd:=V3 (Vj N).rules) hW g2,h5] at c
   obtain⟨k,hk,-,h3⟩:=(Qcc _ _).1 c
   have hr:=Uy hg hk
   have:=h3.length_le
   rw[List.length_drop,zA,U6 hW hp,hW.root] at this
   simp at this
   omega
  ·rw[Q2p hp,Q2n hp,hW.root,Q4m hg,Q0s hg] at c
   rcases c with c|c
   ·cases c
   ·exact c.1 rfl
theorem Ei (B0:Nat)(v0 v1 v2 v3:Value)(N:Nt)(w:World)(h0:U0 B0 w v0 v1 v2 v3 N)(hs:Wx N.ways N.ways.length<=1048576) :
  Calls prog 34 #[.agg #[v0,v1,v2,v3,iV N.uturn]] w λe w'=>Q09 N w w' e:=Fo B0 v0 v1 v2 v3 N w h0 hs (λA hv hB=>Qf7 hv hB)
theorem Q9n {c c':Int}{A':Au}(h:Z8 rs c A)(k:Z8 rs c' A'):c=c'/\A=A':=by
 rcases h with⟨h1,h2,h3⟩|⟨h1,ws,hI,hc⟩
 ·rcases k with⟨k1,k2,k3⟩|⟨k1,_⟩
  ·exact⟨h2.trans k2.symm,h3.trans k3.symm⟩
  ·rw[h1] at k1;cases k1
 ·rcases k with⟨k1,_⟩|⟨_,us,kI,kc⟩
  ·rw[h1] at k1;cases k1
  ·rcases hc with⟨hl,h2,h3⟩|⟨hl,h2,h3⟩
   ·rcases kc with⟨kl,k2,k3⟩|⟨kl,_,k3⟩
    ·exact⟨h2.trans k2.symm,h3.trans k3.symm⟩
    ·have:=Fu hI.asc kI.asc (λy hy=>kI.all kl y (hI.yes y hy))
     omega
   ·rcases kc with⟨kl,_,k3⟩|⟨kl,k2,k3⟩
    ·have:=Fu kI.asc hI.asc (λy hy=>hI.all hl y (kI.yes y hy))
     omega
    ·have e:=Q59 hI.asc kI.asc λy=>⟨λhy=>kI.all kl y (hI.yes y hy),λhy=>hI.all hl y (kI.yes y hy)⟩
     subst e
     exact⟨h2.trans k2.symm,h3.trans k3.symm⟩
section
variable {es:List Eg}{st:Int->Int->Int}
theorem F5 {j:Nat}:∀{k:Nat},j<=k->∃r,(bf es st k).1=(bf es st j).1++r
 |0,h=>⟨[],by have:j=0:=(by omega);subst this;simp⟩
 |k+1,h=>by
  by_cases e:j=k+1
  ·subst e;exact⟨[],by simp⟩
  ·obtain⟨r,hr⟩:=F5 (j:=j) (k:=k) (by omega)
   obtain⟨r',hr'⟩:=Q6f (es:=es) (st:=st) k
   exact⟨r++r',by rw[hr',hr,zZ]⟩
theorem Qcx {l m:List Vx}{i:Nat}(h:i<l.length):vtx (l++m) i=vtx l i:=by
 unfold vtx
 rw[zD,zD,zT h]
theorem Q9o (hk:k=(bf es st k).1.length)(hg:∀j,j<k->j<(bf es st j).1.length){v u:Vx}(hv:v∈(bf es st k).1)(hu:u∈nxV es st v):u∈(bf es st k).1:=by
 obtain⟨j,hj,rfl⟩:=Q21 hv
 have hjk:j<k:=by omega
 obtain⟨r,hr⟩:=F5 (es:=es) (st:=st) (j:=j) (k:=k) (by omega)
 obtain⟨r',hr'⟩:=F5 (es:=es) (st:=st) (j:=j+1) (k:=k) (by omega)
 rw[hr,Qcx (hg j hjk)] at hu
 rw[hr',yG]
 left
 rw[U5 (hg j hjk)]
 exact(Q1y lR).2 (oR (by rw[zR];exact hu))
theorem Qal {k':Nat}{vs':List Vx}(h:Fi es st k vs)(h':Fi es st k' vs'):vs=vs':=by
 have e:k=k':=by
  rcases Nat.lt_trichotomy k k' with c|c|c
  ·exact absurd (h'.1.go k c) h.2
  ·exact c
  ·exact absurd (h.1.go k' c) h'.2
 subst e
 exact Q16 h.1.asc h'.1.asc (λx=>(h.1.perm.mem_iff).trans h'.1.perm.mem_iff.symm)
theorem Q5g (h:Fi es st k vs)(ha:arcs es st vs<=40000){v u:Vx}(hv:v∈vs)(hu:u∈nxV es st v):u∈vs:=by
 have hl:=h.1.le
 have e:(bf es st k).2<=40000:=by
  have h1:=Qc9 (es:=es) (st:=st) k hl
  have h2:=Q4n (es:=es) (st:=st) ((bf es st k).1.take k) ((bf es st k).1.drop k)
  rw[List.take_append_drop] at h2
  rw[Q9s h.1.perm] at ha
  omega
 have hk:k=(bf es st k).1.length:=by
  apply Classical.byContradiction
  intro hn
  exact h.2 ⟨by omega,e⟩
 exact h.1.perm.mem_iff.2 (Q9o hk (λj hj=>(h.1.go j hj).1) (h.1.perm.mem_iff.1 hv) hu)
theorem Qbt {vs:List Vx}(hc:∀v u,v∈vs->u∈nxV es st v->u∈vs):∀k,k<=vs.length->∀x∈gTo es st vs k,0<=x/\x<vs.length
 |0,_,x,hx=>by simp[gTo] at hx
 |k+1,hk,x,hx=>by
  rw[gTo,yG] at hx
  rcases hx with hx|hx
  ·exact Qbt hc k (by omega) x hx
  ·obtain⟨u,hu,rfl⟩:=List.mem_map.1 hx
   have hm:=hc _ u (Wz (l:=vs) (i:=k) (by omega)) hu
   refine⟨?_,(Q9i u).2⟩
   unfold Xv
   rw[if_pos hm]
   omega
end
theorem Qe7 {c c':Int}{G G':Gc}(h:G5 N c G)(k:G5 N c' G'):G=G':=by
 rcases h with⟨h1,h2,h3⟩|⟨h1,b,A,hb,hc⟩
 ·rcases k with⟨k1,k2,k3⟩|⟨k1,_⟩
  ·exact h3.trans k3.symm
  ·rw[h1] at k1;cases k1
 ·rcases k with⟨k1,_⟩|⟨k1,b',A',kb,kc⟩
  ·rw[h1] at k1;cases k1
  ·obtain⟨e1,e2⟩:=Q9n hb kb
   subst e1 e2
   rcases hc with⟨h2,h3,h4⟩|⟨h2,n,vs,h3,h4⟩
   ·rcases kc with⟨k2,k3,k4⟩|⟨k2,_⟩
    ·exact h4.trans k4.symm
    ·exact absurd k2 h2
   ·rcases kc with⟨k2,_⟩|⟨k2,n',vs',k3,k4⟩
    ·exact absurd h2 k2
    ·have e:=Qal h3 k3
     subst e
     rcases h4 with⟨h5,h6,h7⟩|⟨h5,h6,h7⟩
     ·rcases k4 with⟨k5,k6,k7⟩|⟨k5,k6,k7⟩
      ·exact h7.trans k7.symm
      ·exact absurd h5 (Nat.not_lt.2 k5)
     ·rcases k4 with⟨k5,k6,k7⟩|⟨k5,k6,k7⟩
      ·exact absurd k5 (Nat.not_lt.2 h5)
      ·exact h7.trans k7.symm
def gcR (G:Gc):Nat->List Int
 |0=>G.eo
 |1=>G.so
 |2=>G.fi
 |3=>G.tt
 |4=>G.co
 |5=>G.sa
 |6=>G.we
 |_=>[]
structure GIn (G:Nat->List Int):Prop where
 l1:(G 1).length=(G 0).length
 l2:(G 0).length+1<=(G 2).length
 l4:(G 4).length=(G 3).length
 l6:(G 5).length<=(G 6).length
 tt:∀i,i<(G 3).length->0<=iat (G 3) i/\iat (G 3) i<(G 0).length
 ne:0<(G 0).length->0<(G 5).length
 s0:(G 0).length<=50000
 s2:(G 2).length<=50002
 s3:(G 3).length<=40000
 s6:(G 6).length<=4001
theorem Qgd {c:Int}{G:Gc}(h:G5 N c G):G=gcZ\/GIn (gcR G):=by
 rcases h with⟨_,_,h⟩|⟨hv,b,A,hB,⟨_,_,h⟩|⟨rfl,k,vs,hR,⟨_,_,h⟩|⟨ha,_,rfl⟩⟩⟩
 ·exact oL h
 ·exact oL h
 ·exact oL h
 ·right
  have hS:=(Qf7 hv hB).2
  have hE:=Q86 (Uw hv)
  have hp:=hR.1.perm.length_eq
  have hb:=Q2k (es:=E1 N) (st:=Q4 A (wsA A)) k
  have hr:=hR.1.ar
  have e0:(gcR (Q64 N (E1 N) (Q4 A (wsA A)) vs) 0).length=vs.length:=Q2a _
  have e2:(gcR (Q64 N (E1 N) (Q4 A (wsA A)) vs) 2).length=vs.length+1:=E5 _
  have e3:(gcR (Q64 N (E1 N) (Q4 A (wsA A)) vs) 3).length<=40000:=by
   have h1:=E4 (es:=E1 N) (st:=Q4 A (wsA A)) (vs:=vs) vs.length lR
   rw[zR] at h1
   show(gTo (E1 N) (Q4 A (wsA A)) vs vs.length).length<=40000
   omega
  have e5:(gcR (Q64 N (E1 N) (Q4 A (wsA A)) vs) 5).length=(E1 N).length:=Q29 _
  have e6:(gcR (Q64 N (E1 N) (Q4 A (wsA A)) vs) 6).length=(E1 N).length:=Q27 _
  refine⟨by rw[e0];exact Q28 _,by omega,Q2b _,by omega,λi hi=>?_,λh0=>?_,by omega,by omega,e3,by omega⟩
  ·rw[e0]
   refine Qbt (λv u=>Q5g hR ha) vs.length lR _ ?_
   show iat (gTo (E1 N) (Q4 A (wsA A)) vs vs.length) i∈_
   have hi':i<(gTo (E1 N) (Q4 A (wsA A)) vs vs.length).length:=hi
   unfold iat
   rw[zD,zH hi']
   exact yH hi'
  ·have hm:=Wz (l:=vs) (i:=0) (by omega)
   have:=Q4k hS k _ (hR.1.perm.mem_iff.1 hm)
   unfold OkV at this
   omega
def GcF (F:Nt->Nat->List Int):Prop:=∀N c G,G5 N c G->gcR G=F N
theorem Qg5:∃F,GcF F:=by
 refine⟨λN=>@dite _ (∃G c,G5 N c G) (Classical.propDecidable _) (λh=>gcR (Classical.choose h)) (λ_=>gcR gcZ),λN c G h=>?_⟩
 have hx:∃G c,G5 N c G:=⟨G,c,h⟩
 show gcR G=@dite _ (∃G c,G5 N c G) (Classical.propDecidable _) (λh=>gcR (Classical.choose h)) (λ_=>gcR gcZ)
 rw[dif_pos hx]
 obtain⟨c',h'⟩:=Classical.choose_spec hx
 rw[Qe7 h h']
end Go.Proofs.YtphiaobccollhaaGreat
