import Derived.Test.YtphiaobccollhaaGreatQVQB
import Derived.Test.YtphiaobccollhaaGreatQVHF
namespace Go.Proofs.YtphiaobccollhaaGreat
open Go.RowKit Go.Sort Go.Maps Go.Shelf Tryz
set_option linter.unusedVariables false
set_option maxRecDepth 1000000
set_option maxHeartbeats 16000000
def ShI (G:Gr)(s t:Int)(w w':World)(e:Ending):Prop:=∃(rc rk:Int) (oa:Option Addr) (on oc:Nat) (r:Rt),e=.returned (.agg #[iV rc,iV rk,sL oa on oc])/\G4 G s t r/\HRt w.heap.size w' rc rk oa on oc r/\r.edges.length<=7001
theorem F4 {w:World}{b b' o:Nat}{v x y z:Value}(h:b≠b')(hc:w.cell? (aD b o)=some v):(((w.setCell (aD b' 0) x).setCell (aD b' 1) y).setCell (aD b' 2) z).cell? (aD b o)=some v:=
 (((OnS.set [b'] w (by simp) 0 x).tr (OnS.set [b'] _ (by simp) 1 y)).tr (OnS.set [b'] _ (by simp) 2 z)).cell (by simpa using h) hc
theorem Fy (x:Int)(n:Nat)(w:World)(hn:n<=100000) :
  Calls prog 28 #[iV x,iV (n:Int)] w λe w'=>e=.returned (.bool (decide (0<=x/\x<n)))/\Nx w w':=by
 by_cases h1:0<=x
 ·have d1:=yB h1
  by_cases h2:x<n
  ·have d2:=yB h2
   have HD:Z (decide (0<=x/\x<(n:Int))=true):=yB ⟨h1,h2⟩
   go_enter func28,ntmps28
   go_wp2
   go_ret
   exact⟨Q3 HD.o.symm,Below.refl _ _⟩
  ·have d2:=yC h2
   have HD:Z (decide (0<=x/\x<(n:Int))=false):=yC (λh=>h2 h.2)
   clear h2
   go_enter func28,ntmps28
   go_wp2
   go_ret
   exact⟨Q3 HD.o.symm,Below.refl _ _⟩
 ·have d1:=yC h1
  have HD:Z (decide (0<=x/\x<(n:Int))=false):=yC (λh=>h1 h.1)
  clear h1
  go_enter func28,ntmps28
  go_wp2
  go_ret
  exact⟨Q3 HD.o.symm,Below.refl _ _⟩
theorem Q05 (B:Nat)(a0:Option Addr)(m0 c0:Nat)(a1:Option Addr)(m1 c1:Nat)(a2:Option Addr)(m2 c2:Nat)(a3:Option Addr)(m3 c3:Nat)(a4:Option Addr)(m4 c4:Nat)(a5:Option Addr)(m5 c5:Nat)(a6:Option Addr)(m6 c6:Nat)(G:Gr)(s t:Int)(w:World)(HVG:Z (VG G))(HVB:Z (Qq G=true))(HH:Z (HG B w (sL a0 m0 c0) (sL a1 m1 c1) (sL a2 m2 c2) (sL a3 m3 c3) (sL a4 m4 c4) (sL a5 m5 c5) (sL a6 m6 c6) G)) :
  Calls prog 18 #[.agg #[sL a0 m0 c0,sL a1 m1 c1,sL a2 m2 c2,sL a3 m3 c3,sL a4 m4 c4,sL a5 m5 c5,sL a6 m6 c6],iV s,iV t] w λe w'=>ShI G s t w w' e/\Nx w w':=by
 have HBADR:Z (¬(0<=s/\s<G.sr.length/\0<=t/\t<G.sr.length)->G4 G s t ⟨2,0,[]⟩):=λh=>oR (oL ⟨HVB.o,h,rfl⟩)
 have e5:=HH.o.h5.len
 have e0:=HH.o.h0.len
 have hm5:m5<=100000:=by have:=HVG.o.e;omega
 have HE5:=mh e5
 have HE0:=mh e0
 clear e5 e0
 generalize hWA:(w.alloc (.cells #[sL a0 m0 c0,sL a1 m1 c1,sL a2 m2 c2,sL a3 m3 c3,sL a4 m4 c4,sL a5 m5 c5,sL a6 m6 c6] 25)).alloc (.cells #[iV 0,iV 0,sN] 33)=wA
 have HXA:Z (Nx w wA):=by rw[<-hWA];exact Uk _ _ _
 have BG:Z (Blk wA w.heap.size #[sL a0 m0 c0,sL a1 m1 c1,sL a2 m2 c2,sL a3 m3 c3,sL a4 m4 c4,sL a5 m5 c5,sL a6 m6 c6]):=by rw[<-hWA];exact(Blk.new w _ _ _ rfl).alloc _
 have BZ:Z (Blk wA (w.heap.size+1) #[iV 0,iV 0,sN]):=by rw[<-hWA];exact Blk.new _ _ _ _ (by rw[Q1])
 have HSA:Z (wA.heap.size=w.heap.size+2):=by unfold Z;rw[<-hWA,Q1,Q1]
 go_enter func18,ntmps18
 go_upto_region 1 with fail
 clear hWA
 have k0:wA.cell? (aD w.heap.size 0)=some (sL a0 m0 c0):=BG.o.c 0 rfl
 have k1:wA.cell? (aD w.heap.size 1)=some (sL a1 m1 c1):=BG.o.c 1 rfl
 have k2:wA.cell? (aD w.heap.size 2)=some (sL a2 m2 c2):=BG.o.c 2 rfl
 have k3:wA.cell? (aD w.heap.size 3)=some (sL a3 m3 c3):=BG.o.c 3 rfl
 have k4:wA.cell? (aD w.heap.size 4)=some (sL a4 m4 c4):=BG.o.c 4 rfl
 have k5:wA.cell? (aD w.heap.size 5)=some (sL a5 m5 c5):=BG.o.c 5 rfl
 have k6:wA.cell? (aD w.heap.size 6)=some (sL a6 m6 c6):=BG.o.c 6 rfl
 by_cases g1:0<=s/\s<(m5:Int)
 case neg=>
  have d1:=yC g1
  have HF:=mh (HBADR.o (by have:=HE5.o;omega))
  clear g1
  go_wp2_with fail
  refine(Fy s m5 _ hm5).mono ?_
  rintro e w1 ⟨rfl,hx⟩
  rw[d1]
  have HX1:=mh (HXA.o.trans hx)
  have BZ1:=mh (BZ.o.next hx)
  clear hx d1 k0 k1 k2 k3 k4 k5 k6
  have y0:w1.cell? (aD (w.heap.size+1) 0)=some (iV 0):=BZ1.o.c 0 rfl
  have z0:=BZ1.o.frozen 0
  have y1:w1.cell? (aD (w.heap.size+1) 1)=some (iV 0):=BZ1.o.c 1 rfl
  have z1:=BZ1.o.frozen 1
  have y2:w1.cell? (aD (w.heap.size+1) 2)=some sN:=BZ1.o.c 2 rfl
  have z2:=BZ1.o.frozen 2
  go_wp2
  have BR':=(((BZ1.o).set 0 (iV 2)).set 1 (iV 0)).set 2 sN
  have q0:_=some (iV 2):=BR'.c 0 rfl
  have q1:_=some (iV 0):=BR'.c 1 rfl
  have q2:_=some sN:=BR'.c 2 rfl
  clear y0 y1 y2 BR'
  refine bodyPost_ret (v:=.agg #[iV 2,iV 0,sN]) (by simp[results,results18,go_sem,q0,q1,q2]) rfl ?_
  exact⟨⟨2,0,none,0,0,⟨2,0,[]⟩,rfl,HF.o,Fz _ _ _,nZ⟩,Below.setCell (Below.setCell (Below.setCell HX1.o (Nat.le_succ _) _) (Nat.le_succ _) _) (Nat.le_succ _) _⟩
 have d1:=yB g1
 have HG1:=mh g1
 clear g1
 go_wp2_with fail
 refine(Fy s m5 _ hm5).mono ?_
 rintro e w1 ⟨rfl,hx⟩
 rw[d1]
 have HX1:=mh hx
 have k5':=Q0 hx k5
 clear hx d1
 by_cases g2:0<=t/\t<(m5:Int)
 case neg=>
  have d2:=yC g2
  have HF:=mh (HBADR.o (by have:=HE5.o;omega))
  clear g2
  go_wp2_with fail
  refine(Fy t m5 _ hm5).mono ?_
  rintro e w2 ⟨rfl,hx⟩
  rw[d2]
  have HX2:=mh ((HXA.o.trans HX1.o).trans hx)
  have BZ2:=mh ((BZ.o.next HX1.o).next hx)
  clear hx d2 k0 k1 k2 k3 k4 k5 k6 k5'
  have y0:w2.cell? (aD (w.heap.size+1) 0)=some (iV 0):=BZ2.o.c 0 rfl
  have z0:=BZ2.o.frozen 0
  have y1:w2.cell? (aD (w.heap.size+1) 1)=some (iV 0):=BZ2.o.c 1 rfl
  have z1:=BZ2.o.frozen 1
  have y2:w2.cell? (aD (w.heap.size+1) 2)=some sN:=BZ2.o.c 2 rfl
  have z2:=BZ2.o.frozen 2
  go_wp2
  have BR':=(((BZ2.o).set 0 (iV 2)).set 1 (iV 0)).set 2 sN
  have q0:_=some (iV 2):=BR'.c 0 rfl
  have q1:_=some (iV 0):=BR'.c 1 rfl
  have q2:_=some sN:=BR'.c 2 rfl
  clear y0 y1 y2 BR'
  refine bodyPost_ret (v:=.agg #[iV 2,iV 0,sN]) (by simp[results,results18,go_sem,q0,q1,q2]) rfl ?_
  exact⟨⟨2,0,none,0,0,⟨2,0,[]⟩,rfl,HF.o,Fz _ _ _,nZ⟩,Below.setCell (Below.setCell (Below.setCell HX2.o (Nat.le_succ _) _) (Nat.le_succ _) _) (Nat.le_succ _) _⟩
 have d2:=yB g2
 have HG2:=mh g2
 clear g2
 go_wp2_with fail
 refine(Fy t m5 _ hm5).mono ?_
 rintro e w2 ⟨rfl,hx⟩
 rw[d2]
 have HXA2:=mh (HX1.o.trans hx)
 have HX2:=mh (HXA.o.trans HXA2.o)
 have BG2:=mh (BG.o.next HXA2.o)
 have BZ2:=mh (BZ.o.next HXA2.o)
 clear hx d2 k0 k1 k2 k3 k4 k5 k6 k5' HX1 BG BZ
 obtain⟨sn,rfl⟩:∃sn:Nat,s=sn:=⟨s.toNat,by have:=HG1.o;omega⟩
 have hsn:sn<G.sr.length:=by have:=HG1.o;have:=HE5.o;omega
 have HOKR:Z (∀r,Fl t (λc E=>∃v,WK (eoG G) (Qz G) (stG G sn) (iat G.we sn) E c v/\eoG G v=t) r->G4 G sn t r):=λr h=>oR (oR ⟨HVB.o,by have:=HG1.o;have:=HG2.o;have:=HE5.o;omega,by rw[zU];exact h⟩)
 obtain⟨hst,hsr,hse⟩:=Qac HVG.o hsn
 have HST:=mh hst
 have hwe:=HVG.o.we sn hsn
 have HWE:=mh hwe
 have HH2:=mh (HH.o.next HX2.o)
 obtain⟨hj5,b5,o5,ha5,hc5⟩:=HH.o.h5.row (by omega)
 have HY5:Z (w.cell? (aD b5 (o5+sn))=some (iV (stG G sn:Int))):=by rw[<-hsr];exact hc5 sn hsn
 subst ha5
 have hsm5:=HG1.o.2
 have HSN:=mh hsn
 clear hc5 hst hsr hse hwe hsn hj5
 have k0:w2.cell? (aD w.heap.size 0)=some (sL a0 m0 c0):=BG2.o.c 0 rfl
 have k1:w2.cell? (aD w.heap.size 1)=some (sL a1 m1 c1):=BG2.o.c 1 rfl
 have k2:w2.cell? (aD w.heap.size 2)=some (sL a2 m2 c2):=BG2.o.c 2 rfl
 have k3:w2.cell? (aD w.heap.size 3)=some (sL a3 m3 c3):=BG2.o.c 3 rfl
 have k4:w2.cell? (aD w.heap.size 4)=some (sL a4 m4 c4):=BG2.o.c 4 rfl
 have k5:w2.cell? (aD w.heap.size 5)=some (sL (some (aD b5 o5)) m5 c5):=BG2.o.c 5 rfl
 have k6:w2.cell? (aD w.heap.size 6)=some (sL a6 m6 c6):=BG2.o.c 6 rfl
 go_wp2_with fail
 refine(Ax w2 m0 a0 m0 c0 a1 m1 c1 a2 m2 c2 a3 m3 c3 a4 m4 c4 (some (aD b5 o5)) m5 c5 a6 m6 c6 t rfl (by have:=HVG.o.v;have:=HE0.o;omega)).mono ?_
 rintro e w3 ⟨sb,p,q,mb,rb,rfl,hSR,hx3⟩
 have HX3:=mh hx3
 have HSR:=mh hSR
 clear hSR hx3 k0 k1 k2 k3 k4 k5 k6
 go_wp2_with fail
 refine(Q54 w2 w3 sb p q mb rb m0 a0 m0 c0 a1 m1 c1 a2 m2 c2 a3 m3 c3 a4 m4 c4 (some (aD b5 o5)) m5 c5 a6 m6 c6 t G B sn _ _ _ HVG HH2 HE0.o.symm HSN.o HX3.o HSR.o).mono ?_
 rintro e w4 ⟨hx4,h|⟨rfl,sv,iv,S,K,L,D,v0,hSR4,hv0,hDJ,hle,hev⟩⟩
 ·obtain⟨rfl,hB⟩:=h
  have HF:=mh (HOKR.o _ hB)
  have HX4:=mh (HX2.o.trans hx4)
  have BZ4:=mh (BZ2.o.next hx4)
  clear hx4 hB
  have y0:w4.cell? (aD (w.heap.size+1) 0)=some (iV 0):=BZ4.o.c 0 rfl
  have z0:=BZ4.o.frozen 0
  have y1:w4.cell? (aD (w.heap.size+1) 1)=some (iV 0):=BZ4.o.c 1 rfl
  have z1:=BZ4.o.frozen 1
  have y2:w4.cell? (aD (w.heap.size+1) 2)=some sN:=BZ4.o.c 2 rfl
  have z2:=BZ4.o.frozen 2
  go_wp2
  have BR':=(((BZ4.o).set 0 (iV 1)).set 1 (iV 0)).set 2 sN
  have q0:_=some (iV 1):=BR'.c 0 rfl
  have q1:_=some (iV 0):=BR'.c 1 rfl
  have q2:_=some sN:=BR'.c 2 rfl
  clear y0 y1 y2 BR'
  refine bodyPost_ret (v:=.agg #[iV 1,iV 0,sN]) (by simp[results,results18,go_sem,q0,q1,q2]) rfl ?_
  exact⟨⟨1,0,none,0,0,⟨1,0,[]⟩,rfl,HF.o,Fz _ _ _,nZ⟩,Below.setCell (Below.setCell (Below.setCell HX4.o (Nat.le_succ _) _) (Nat.le_succ _) _) (Nat.le_succ _) _⟩
 have HX4:=mh hx4
 have HSR4:=mh hSR4
 have HDJ:=mh hDJ
 have HLE:=mh hle
 have HEV:=mh hev
 have BZ4:=mh (BZ2.o.next hx4)
 have r11:=hSR4.s.cell.2.2.2.2.1
 have r5:=Q0 hx4 (BG2.o.c 5 rfl)
 have r6:=Q0 (HX2.o.trans hx4) HY5.o
 have HTR:Z (∀W,Nx w4 W->Calls prog 31 #[pT p,iV (stG G sn:Int)] W λe w'=>∃v' E,e=.returned v'/\Q5 W.heap.size w' v' E/\Fl t (λc E=>∃v,WK (eoG G) (Qz G) (stG G sn) (iat G.we sn) E c v/\eoG G v=t) ⟨0,(K v0).1,E⟩/\E.length<=7001/\Nx W w'):=λW hW=>
  Q8j w2 W sb p q mb rb m0 a0 m0 c0 a1 m1 c1 a2 m2 c2 a3 m3 c3 a4 m4 c4 (some (aD b5 o5)) m5 c5 a6 m6 c6 t G B (stG G sn) (iat G.we sn) v0 iv sv K L D S (v0::L) HVG HH2 HE0.o.symm (by have:=HST.o;have:=HE0.o;omega) HWE.o (HX4.o.trans hW) (HSR4.o.next hW) HDJ.o (by simp) HLE.o HEV.o
 have HNE:Z (p≠w.heap.size+1/\w.heap.size≠w.heap.size+1/\b5≠w.heap.size+1):=by
  have h1:=hSR4.cb.2.1
  have h2:=HXA2.o.size
  have h3:=HSA.o
  have h4:=Jk HY5.o
  refine⟨by omega,by omega,by omega⟩
 clear hx4 hSR4 hDJ hle hev hv0
 generalize (K v0).1=kc at *
 go_upto_region 6 with fail
 go_region_held3 (λw'=>w'.cell? (aD p 11)=some (iV kc)/\w'.cell? (aD w.heap.size 5)=some (sL (some (aD b5 o5)) m5 c5)/\w'.cell? (aD b5 (o5+sn))=some (iV (stG G sn:Int))) (first|exact⟨t1,t2,t3⟩|exact⟨F4 HNE.o.1 t1,F4 HNE.o.2.1 t2,F4 HNE.o.2.2 t3⟩|(go_keep;done)) (first|(go_at_call 31;refine(HTR.o _ (Nx.refl _).drew).mono ?_;rintro e w5 ⟨v5,E,rfl,hO5,hB5,hl5,hx5⟩;have HL5:Z (E.length<=7001):=hl5;have HX5:Z (Nx w4 w5):=(Nx.refl _).drew.trans hx5;have HO5:Z (Q5 w4.heap.size w5 v5 E):=hO5;have HB5:Z (Fl t (λc E=>∃v,WK (eoG G) (Qz G) (stG G sn) (iat G.we sn) E c v/\eoG G v=t) ⟨0,kc,E⟩):=hB5;have BZ5:Z (Blk w5 (w.heap.size+1) #[iV 0,iV 0,sN]):=BZ4.o.next HX5.o;have t1:=Q0 HX5.o r11;have t2:=Q0 HX5.o r5;have t3:=Q0 HX5.o r6;have y0:w5.cell? (aD (w.heap.size+1) 0)=some (iV 0):=BZ5.o.c 0 rfl;have z0:=BZ5.o.frozen 0;have y1:w5.cell? (aD (w.heap.size+1) 1)=some (iV 0):=BZ5.o.c 1 rfl;have z1:=BZ5.o.frozen 1;have y2:w5.cell? (aD (w.heap.size+1) 2)=some sN:=BZ5.o.c 2 rfl;have z2:=BZ5.o.frozen 2;obtain⟨oa,oc,hv5⟩:=hO5.slice;subst hv5;clear hO5 hB5 hx5 hl5))
 have BR':=(((BZ5.o).set 0 (iV 0)).set 1 (iV kc)).set 2 (sL oa E.length oc)
 have q0:_=some (iV 0):=BR'.c 0 rfl
 have q1:_=some (iV kc):=BR'.c 1 rfl
 have q2:_=some (sL oa E.length oc):=BR'.c 2 rfl
 clear y0 y1 y2 BR' t1 t2 t3
 go_wp2
 refine bodyPost_ret (v:=.agg #[iV 0,iV kc,sL oa E.length oc]) (by simp[results,results18,go_sem,q0,q1,q2]) rfl ?_
 refine⟨⟨0,kc,oa,E.length,oc,⟨0,kc,E⟩,rfl,HOKR.o _ HB5.o,⟨rfl,rfl,?_⟩,HL5.o⟩,?_⟩
 ·have h1:w.heap.size+1<w4.heap.size:=by have:=HSA.o;have:=HXA2.o.size;have:=HX4.o.size;omega
  exact Q5.base (Qc (Qc (Qc HO5.o h1 _ _) h1 _ _) h1 _ _) (by omega)
 ·exact Below.setCell (Below.setCell (Below.setCell ((HX2.o.trans HX4.o).trans HX5.o) (Nat.le_succ _) _) (Nat.le_succ _) _) (Nat.le_succ _) _
theorem Qi.sl {B:Nat}{w:World}{v:Value}{zs:List Int}(h:Qi B w v zs):∃a m c,v=sL a m c:=by
 obtain⟨a,c,e,_⟩:=h
 exact⟨a,_,c,e⟩
theorem Q03 (B:Nat)(v0 v1 v2 v3 v4 v5 v6:Value)(G:Gr)(s t:Int)(w:World)(h0:HG B w v0 v1 v2 v3 v4 v5 v6 G)(hs:Q2r G) :
  Calls prog 9 #[.agg #[v0,v1,v2,v3,v4,v5,v6],iV s,iV t] w λe w'=>ShI G s t w w' e/\Nx w w':=by
 obtain⟨a0,m0,c0,rfl⟩:=h0.h0.sl
 obtain⟨a1,m1,c1,rfl⟩:=h0.h1.sl
 obtain⟨a2,m2,c2,rfl⟩:=h0.h2.sl
 obtain⟨a3,m3,c3,rfl⟩:=h0.h3.sl
 obtain⟨a4,m4,c4,rfl⟩:=h0.h4.sl
 obtain⟨a5,m5,c5,rfl⟩:=h0.h5.sl
 obtain⟨a6,m6,c6,rfl⟩:=h0.h6.sl
 have HH:=mh h0
 have HS:=mh hs
 clear h0 hs
 generalize hWA:(w.alloc (.cells #[sL a0 m0 c0,sL a1 m1 c1,sL a2 m2 c2,sL a3 m3 c3,sL a4 m4 c4,sL a5 m5 c5,sL a6 m6 c6] 25)).alloc (.cells #[iV 0,iV 0,sN] 33)=wA
 have HXA:Z (Nx w wA):=by rw[<-hWA];exact Uk _ _ _
 have BG:Z (Blk wA w.heap.size #[sL a0 m0 c0,sL a1 m1 c1,sL a2 m2 c2,sL a3 m3 c3,sL a4 m4 c4,sL a5 m5 c5,sL a6 m6 c6]):=by rw[<-hWA];exact(Blk.new w _ _ _ rfl).alloc _
 have BZ:Z (Blk wA (w.heap.size+1) #[iV 0,iV 0,sN]):=by rw[<-hWA];exact Blk.new _ _ _ _ (by rw[Q1])
 have HSA:Z (wA.heap.size=w.heap.size+2):=by unfold Z;rw[<-hWA,Q1,Q1]
 go_enter func9,ntmps9
 go_upto_region 1 with fail
 clear hWA
 have k0:wA.cell? (aD w.heap.size 0)=some (sL a0 m0 c0):=BG.o.c 0 rfl
 have k1:wA.cell? (aD w.heap.size 1)=some (sL a1 m1 c1):=BG.o.c 1 rfl
 have k2:wA.cell? (aD w.heap.size 2)=some (sL a2 m2 c2):=BG.o.c 2 rfl
 have k3:wA.cell? (aD w.heap.size 3)=some (sL a3 m3 c3):=BG.o.c 3 rfl
 have k4:wA.cell? (aD w.heap.size 4)=some (sL a4 m4 c4):=BG.o.c 4 rfl
 have k5:wA.cell? (aD w.heap.size 5)=some (sL a5 m5 c5):=BG.o.c 5 rfl
 have k6:wA.cell? (aD w.heap.size 6)=some (sL a6 m6 c6):=BG.o.c 6 rfl
 go_wp2_with fail
 refine(A8 B _ _ _ _ _ _ _ G _ (HH.o.next HXA.o) HS.o).mono ?_
 rintro e w1 ⟨rfl,hx⟩
 have HXA1:=mh hx
 have HX1:=mh (HXA.o.trans hx)
 have BG1:=mh (BG.o.next hx)
 have BZ1:=mh (BZ.o.next hx)
 clear hx k0 k1 k2 k3 k4 k5 k6
 cases hvg:Qq G
 case false=>
  have HF:Z (G4 G s t ⟨3,0,[]⟩):=oL ⟨hvg,rfl⟩
  clear hvg
  have y0:w1.cell? (aD (w.heap.size+1) 0)=some (iV 0):=BZ1.o.c 0 rfl
  have z0:=BZ1.o.frozen 0
  have y1:w1.cell? (aD (w.heap.size+1) 1)=some (iV 0):=BZ1.o.c 1 rfl
  have z1:=BZ1.o.frozen 1
  have y2:w1.cell? (aD (w.heap.size+1) 2)=some sN:=BZ1.o.c 2 rfl
  have z2:=BZ1.o.frozen 2
  go_wp2
  have BR':=(((BZ1.o).set 0 (iV 3)).set 1 (iV 0)).set 2 sN
  have q0:_=some (iV 3):=BR'.c 0 rfl
  have q1:_=some (iV 0):=BR'.c 1 rfl
  have q2:_=some sN:=BR'.c 2 rfl
  clear y0 y1 y2 BR'
  refine bodyPost_ret (v:=.agg #[iV 3,iV 0,sN]) (by simp[results,results9,go_sem,q0,q1,q2]) rfl ?_
  exact⟨⟨3,0,none,0,0,⟨3,0,[]⟩,rfl,HF.o,Fz _ _ _,nZ⟩,Below.setCell (Below.setCell (Below.setCell HX1.o (Nat.le_succ _) _) (Nat.le_succ _) _) (Nat.le_succ _) _⟩
 have HVG:Z (VG G):=Q0c hvg
 have HVB:=mh hvg
 clear hvg
 have k0:w1.cell? (aD w.heap.size 0)=some (sL a0 m0 c0):=BG1.o.c 0 rfl
 have k1:w1.cell? (aD w.heap.size 1)=some (sL a1 m1 c1):=BG1.o.c 1 rfl
 have k2:w1.cell? (aD w.heap.size 2)=some (sL a2 m2 c2):=BG1.o.c 2 rfl
 have k3:w1.cell? (aD w.heap.size 3)=some (sL a3 m3 c3):=BG1.o.c 3 rfl
 have k4:w1.cell? (aD w.heap.size 4)=some (sL a4 m4 c4):=BG1.o.c 4 rfl
 have k5:w1.cell? (aD w.heap.size 5)=some (sL a5 m5 c5):=BG1.o.c 5 rfl
 have k6:w1.cell? (aD w.heap.size 6)=some (sL a6 m6 c6):=BG1.o.c 6 rfl
 go_wp2_with fail
 refine(Q05 B a0 m0 c0 a1 m1 c1 a2 m2 c2 a3 m3 c3 a4 m4 c4 a5 m5 c5 a6 m6 c6 G s t w1 HVG HVB (HH.o.next HX1.o)).mono ?_
 rintro e w2 ⟨⟨rc,rk,oa,on,oc,r,rfl,hR,hO,hl⟩,hx2⟩
 have HX2:=mh hx2
 have HR:=mh hR
 have HO:=mh hO
 have HL:=mh hl
 have BZ2:=mh (BZ1.o.next hx2)
 clear hx2 hR hO hl k0 k1 k2 k3 k4 k5 k6
 have y0:w2.cell? (aD (w.heap.size+1) 0)=some (iV 0):=BZ2.o.c 0 rfl
 have z0:=BZ2.o.frozen 0
 have y1:w2.cell? (aD (w.heap.size+1) 1)=some (iV 0):=BZ2.o.c 1 rfl
 have z1:=BZ2.o.frozen 1
 have y2:w2.cell? (aD (w.heap.size+1) 2)=some sN:=BZ2.o.c 2 rfl
 have z2:=BZ2.o.frozen 2
 go_wp2
 have BR':=(((BZ2.o).set 0 (iV rc)).set 1 (iV rk)).set 2 (sL oa on oc)
 have q0:_=some (iV rc):=BR'.c 0 rfl
 have q1:_=some (iV rk):=BR'.c 1 rfl
 have q2:_=some (sL oa on oc):=BR'.c 2 rfl
 clear y0 y1 y2 BR'
 refine bodyPost_ret (v:=.agg #[iV rc,iV rk,sL oa on oc]) (by simp[results,results9,go_sem,q0,q1,q2]) rfl ?_
 refine⟨⟨rc,rk,oa,on,oc,r,rfl,HR.o,⟨HO.o.1,HO.o.2.1,?_⟩,HL.o⟩,?_⟩
 ·have h1:w.heap.size+1<w1.heap.size:=by have:=HSA.o;have:=HXA1.o.size;omega
  exact Q5.base (Qc (Qc (Qc HO.o.2.2 h1 _ _) h1 _ _) h1 _ _) (by omega)
 ·exact Below.setCell (Below.setCell (Below.setCell (HX1.o.trans HX2.o) (Nat.le_succ _) _) (Nat.le_succ _) _) (Nat.le_succ _) _
end Go.Proofs.YtphiaobccollhaaGreat
