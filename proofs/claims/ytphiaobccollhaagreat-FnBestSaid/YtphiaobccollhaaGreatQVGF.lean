import Derived.Test.YtphiaobccollhaaGreatQVSV
namespace Go.Proofs.YtphiaobccollhaaGreat
open Go.RowKit Tryz
set_option linter.unusedVariables false
set_option maxRecDepth 1000000
set_option maxHeartbeats 16000000
def Jp (G:Gr)(P:List Int):Nat->Int
 |0=>iat G.we (iat G.eo (iat P 0).toNat).toNat
 |k+1=>Jp G P k+iat G.co (Xd G (iat P k).toNat (iat P (k+1))).toNat
def Xo (G:Gr)(P:List Int):Int:=if Qq G&&Xr G P then Jp G P (P.length-1) else -1
structure IP (G:Gr)(P:List Int):Prop where
 l0:0<P.length
 l1:P.length<=10000
 b:∀i,i<P.length->0<=iat P i/\iat P i<G.eo.length
 s:iat G.sr (iat G.eo (iat P 0).toNat).toNat=iat P 0
 a:∀i,i+1<P.length->0<=Xd G (iat P i).toNat (iat P (i+1))
theorem Qfc {G:Gr}{P:List Int}(h:Xr G P=true):IP G P:=by
 simp only[Xr,zG,decide_eq_true_eq] at h
 obtain⟨⟨h1,h2⟩,h3⟩:=h
 refine⟨h1,h2,λi hi=>Q5j rfl (Jf h3 hi),?_,λi hi=>?_⟩
 ·have:=Jf h3 h1
  simp only[pOk,En,zG,beq_iff_eq] at this
  exact this.2
 ·have:=Jf h3 hi
  simp only[pOk,En,zG,decide_eq_true_eq] at this
  exact this.2
theorem IP.arc {G:Gr}{P:List Int}(h:IP G P)(hG:VG G){i:Nat}(hi:i+1<P.length):∃u s a:Nat,iat P i=(u:Int)/\iat P (i+1)=(s:Int)/\u<G.eo.length/\s<G.eo.length/\Xd G u (s:Int)=(a:Int)/\a<G.tt.length:=by
 obtain⟨u,hu⟩:∃u:Nat,iat P i=(u:Int):=⟨(iat P i).toNat,by have:=(h.b i (by omega)).1;omega⟩
 obtain⟨s,hs⟩:∃s:Nat,iat P (i+1)=(s:Int):=⟨(iat P (i+1)).toNat,by have:=(h.b (i+1) hi).1;omega⟩
 have h1:=(h.b i (by omega)).2
 have h2:=(h.b (i+1) hi).2
 have h3:=h.a i hi
 rw[hu,hs,zU] at h3
 obtain⟨a,e1,_,_,e2,_⟩:=Ai hG (by omega) h3
 exact⟨u,s,a,hu,hs,by omega,by omega,e1,e2⟩
theorem Q6b {G:Gr}{P:List Int}(h:IP G P)(hG:VG G){k:Nat}(hk:k<P.length):0<=Jp G P k/\Jp G P k<=1048576+k*3145728:=by
 induction k with
 |zero=>
  have h1:=h.b 0 hk
  have h2:=hG.eo (iat P 0).toNat (by omega)
  have h3:=hG.we (iat G.eo (iat P 0).toNat).toNat (by omega)
  show 0<=iat G.we _/\iat G.we _<=_
  omega
 |succ k ih=>
  have h1:=ih (by omega)
  obtain⟨u,s,a,hu,hs,_,_,ea,ha⟩:=h.arc hG hk
  have h2:=hG.co a ha
  unfold Jp
  rw[hu,hs,zU,ea,zU]
  push_cast
  omega
theorem I9 (B:Nat)(v0 v1 v2 v3 v4 v5 v6 vp:Value)(G:Gr)(P:List Int)(w:World)(h0:HG B w v0 v1 v2 v3 v4 v5 v6 G)(hp:Qi B w vp P) :
  Calls prog 8 #[.agg #[v0,v1,v2,v3,v4,v5,v6],vp] w λe w'=>e=.returned (iV (Xo G P))/\Nx w w':=by
 have HH:=mh h0
 have HP:=mh hp
 obtain⟨⟨a0,c0,rfl,hn0,hk0⟩,⟨a1,c1,rfl,hn1,hk1⟩,⟨a2,c2,rfl,hn2,hk2⟩,⟨a3,c3,rfl,hn3,hk3⟩,⟨a4,c4,rfl,hn4,hk4⟩,⟨a5,c5,rfl,hn5,hk5⟩,⟨a6,c6,rfl,hn6,hk6⟩⟩:=h0
 obtain⟨a7,c7,rfl,hn7,hk7⟩:=hp
 unfold maxLen at hn0 hn1 hn2 hn3 hn4 hn5 hn6 hn7
 generalize hz0:G.eo.length=n0 at *
 have Z0:=mh hz0
 clear hz0
 generalize hz1:G.so.length=n1 at *
 have Z1:=mh hz1
 clear hz1
 generalize hz2:G.fi.length=n2 at *
 have Z2:=mh hz2
 clear hz2
 generalize hz3:G.tt.length=n3 at *
 have Z3:=mh hz3
 clear hz3
 generalize hz4:G.co.length=n4 at *
 have Z4:=mh hz4
 clear hz4
 generalize hz5:G.sr.length=n5 at *
 have Z5:=mh hz5
 clear hz5
 generalize hz6:G.we.length=n6 at *
 have Z6:=mh hz6
 clear hz6
 generalize hz7:P.length=n7 at *
 have Z7:=mh hz7
 clear hz7
 go_enter func8,ntmps8
 go_wp2_with fail
 refine(Yo B _ _ _ _ _ _ _ G _ (by exact HH.o.next (Qe _ _))).mono ?_
 rintro e w1 ⟨rfl,hx⟩
 have BA:=(Blk.new w #[sL a0 n0 c0,sL a1 n1 c1,sL a2 n2 c2,sL a3 n3 c3,sL a4 n4 c4,sL a5 n5 c5,sL a6 n6 c6] 25 _ rfl).next hx
 have HX:=mh ((Qe _ _).trans hx)
 clear hx
 cases hvb:Qq G
 case false=>
  have HF:Z (-1=Xo G P):=by unfold Z;simp[Xo,hvb]
  go_wp2
  go_ret
  exact⟨Qu HF.o,HX.o⟩
 have HV:Z (VG G):=Q0c hvb
 have k0:=BA.c 0 rfl
 have k1:=BA.c 1 rfl
 have k2:=BA.c 2 rfl
 have k3:=BA.c 3 rfl
 have k4:=BA.c 4 rfl
 have k5:=BA.c 5 rfl
 have k6:=BA.c 6 rfl
 go_wp2_with fail
 refine(Il B _ _ _ _ _ _ _ _ G P _ (by exact HH.o.next HX.o) (by exact HP.o.next HX.o) HV.o).mono ?_
 rintro e w2 ⟨rfl,hx⟩
 have BA2:=BA.next hx
 have HX2:=mh (HX.o.trans hx)
 clear hx BA HX k0 k1 k2 k3 k4 k5 k6
 cases hpb:Xr G P
 case false=>
  have HF:Z (-1=Xo G P):=by unfold Z;simp[Xo,hpb]
  go_wp2
  go_ret
  exact⟨Qu HF.o,HX2.o⟩
 have HI:=mh (Qfc hpb)
 have HC:Z (Xo G P=Jp G P (n7-1)):=by unfold Z;simp[Xo,hvb,hpb,Z7.o]
 have HCB:Z (∀k,k<n7->0<=Jp G P k/\Jp G P k<=1048576+k*3145728):=λk hk=>Q6b HI.o HV.o (by rw[Z7.o];exact hk)
 have hl0:0<n7:=by have:=HI.o.l0;rw[Z7.o] at this;exact this
 have hl1:n7<=10000:=by have:=HI.o.l1;rw[Z7.o] at this;exact this
 have hl0':(0:Int)<n7:=by omega
 obtain⟨b7,o7,ha7,_,hb7,hc7⟩:=hk7 hl0
 subst ha7
 obtain⟨s,hs⟩:∃s:Nat,iat P 0=(s:Int):=⟨(iat P 0).toNat,by have:=(HI.o.b 0 (by rw[Z7.o];exact hl0)).1;omega⟩
 have hsn:s<n0:=by have:=(HI.o.b 0 (by rw[Z7.o];exact hl0)).2;rw[Z0.o] at this;omega
 obtain⟨e,he⟩:∃e:Nat,iat G.eo s=(e:Int):=⟨(iat G.eo s).toNat,by have:=(HV.o.eo s (by rw[Z0.o];exact hsn)).1;omega⟩
 have hen:e<n6:=by have h1:=(HV.o.eo s (by rw[Z0.o];exact hsn)).2;have h2:=HV.o.lw;rw[Z6.o] at h2;omega
 have hen':(e:Int)<n6:=by omega
 have hsn':(s:Int)<n0:=by omega
 obtain⟨b0,o0,ha0,_,hb0,hc0⟩:=hk0 (by omega)
 obtain⟨b6,o6,ha6,_,hb6,hc6⟩:=hk6 (by omega)
 subst ha0 ha6
 have x0:=hc7 0 hl0
 rw[hs,Nat.add_zero] at x0
 have x0:=Q2 HX2.o hb7 x0
 have y0:=hc0 s hsn
 rw[he] at y0
 have y0:=Q2 HX2.o hb0 y0
 have z0:=Q2 HX2.o hb6 (hc6 e hen)
 have k0:=BA2.c 0 rfl
 have k6:=BA2.c 6 rfl
 have HC0:Z (Jp G P 0=iat G.we e):=by
  unfold Z
  show iat G.we (iat G.eo (iat P 0).toNat).toNat=_
  rw[hs,zU,he,zU]
 have HC7:=mh hc7
 clear hc7 hc0 hc6 hs he hk1 hk2 hk3 hk5 hvb hpb
 go_wp2
 go_quiet (fail)
 generalize hwq:World.drewN w2 nq=wq at *
 have HQ:Z (Nx w2 wq):=by rw[<-hwq];exact⟨rfl,rfl,rfl,lR,λ_ _=>rfl⟩
 have BQ:=BA2.next HQ.o
 have HWq:=mh (HX2.o.trans HQ.o)
 clear hwq BA2 x0 y0 z0 k0 k6
 go_wp2
 go_loopw [5,6] (λc i wr=>∃k:Nat,k<n7/\i=iV ((k:Int)+1)/\c=iV (Jp G P k)/\Z (Nx wq wr)) (λ_ i _=>n7-(intOf i).toNat)
 case atStart=>exact⟨0,hl0,rfl,by rw[HC0.o],Nx.refl _⟩
 obtain⟨k,hkn,rfl,rfl,HN⟩:=hrel
 have HW:=mh (HWq.o.trans HN.o)
 by_cases hlt:k+1<n7
 ·have hlt':(k:Int)+1<n7:=by omega
  have hlk:(k:Int)<n7:=by omega
  have hwk:=Va k (by omega)
  obtain⟨u,s',a,hu,hs',hun,hsn2,ea,ha⟩:=HI.o.arc HV.o (i:=k) (by rw[Z7.o];exact hlt)
  have ha3:a<n4:=by have:=HV.o.lc;rw[Z4.o] at this;omega
  have ha3':(a:Int)<n4:=by omega
  have q0:=HCB.o k hkn
  have q1:=HCB.o (k+1) hlt
  have HCS:Z (Jp G P (k+1)=Jp G P k+iat G.co a):=by
   unfold Z
   show Jp G P k+iat G.co (Xd G (iat P k).toNat (iat P (k+1))).toNat=_
   rw[hu,hs',zU,ea,zU]
  rw[HCS.o] at q1
  obtain⟨b4,o4,ha4,_,hb4,hc4⟩:=hk4 (by omega)
  subst ha4
  have BW:=BQ.next HN.o
  have x0:=HC7.o k hkn
  have x1:=HC7.o (k+1) hlt
  rw[hu] at x0
  rw[hs'] at x1
  have x0:=cell_regrown (Q2 HW.o hb7 x0)
  have x1:=cell_regrown (Q2 HW.o hb7 x1)
  have y0:=cell_regrown (Q2 HW.o hb4 (hc4 a ha3))
  have k0:=cell_regrown (BW.c 0 rfl)
  have k1:=cell_regrown (BW.c 1 rfl)
  have k2:=cell_regrown (BW.c 2 rfl)
  have k3:=cell_regrown (BW.c 3 rfl)
  have k4:=cell_regrown (BW.c 4 rfl)
  have k5:=cell_regrown (BW.c 5 rfl)
  have k6:=cell_regrown (BW.c 6 rfl)
  have CG:Z (∀d os,Calls prog 16 #[.agg #[sL (some (aD b0 o0)) n0 c0,sL a1 n1 c1,sL a2 n2 c2,sL a3 n3 c3,sL (some (aD b4 o4)) n4 c4,sL a5 n5 c5,sL (some (aD b6 o6)) n6 c6],iV u,iV (s':Int)] (Sort.grow (redrawn wr d) os) λe w''=>e=.returned (iV (a:Int))/\∃p:Regrown,w''=Sort.grow (redrawn wr p.d) p.os):=by
   intro d os
   rw[<-ea]
   exact Calls.regrown_of (Gt B _ _ _ _ _ _ _ G u (s':Int) _ ((HH.o.next HW.o).next (below_regrown wr d os)) HV.o hun)
  generalize Jp G P k=ck at *
  generalize iat G.co a=ca at *
  clear hc4 BW hu hs' ea ha hun hsn2
  have hwc:IntKind.i64.wrap (ck+ca)=ck+ca:=by rw[IntKind.wrap_i64];omega
  go_wp2
  refine wp_region_quiet_below (by kernel_rfl) (by kernel_rfl) ?_
  repeat (go_big_quiet_step (exact CG.o _ _))
  refine wpQuiet_nil ?_
  intro _ hw'
  obtain⟨⟨dq,osq⟩,hw''⟩:=hw'
  subst hw''
  have HB:Z (Nx wr (Sort.grow (redrawn wr dq) osq)):=below_regrown wr dq osq
  go_wp2
  go_roundw
  case rel=>exact⟨k+1,hlt,by go_num,by rw[HCS.o],HN.o.trans HB.o⟩
  case measure=>simp[intOf];omega
 have ek:n7=k+1:=by omega
 have HF:Z (Jp G P k=Xo G P):=by unfold Z;rw[HC.o,ek];rfl
 have hlt':¬(k:Int)+1<n7:=by omega
 clear hlt
 go_wp2
 go_ret
 exact⟨Qu HF.o,HW.o⟩
end Go.Proofs.YtphiaobccollhaaGreat
namespace Go
set_option maxHeartbeats 16000000
end Go
namespace Go.Proofs.YtphiaobccollhaaGreat
set_option maxHeartbeats 16000000
open Go.RowKit Tryz
set_option linter.unusedVariables false
set_option maxRecDepth 100000
def Xf (G:Gr)(P:List Int):List Int:=if Qq G&&Xr G P then P.map (λv=>iat G.eo v.toNat) else []
def Xj (G:Gr)(P:List Int)(k:Nat):List Int:=(P.take k).map (λv=>iat G.eo v.toNat)
theorem Q4c {G:Gr}{P:List Int}{k:Nat}(h:k<=P.length):(Xj G P k).length=k:=by simp[Xj,h]
theorem Q2e {G:Gr}{P:List Int}{k:Nat}(h:k<P.length):Xj G P (k+1)=Xj G P k++[iat G.eo (iat P k).toNat]:=by
 unfold Xj
 rw[zP h,yF,V5 h]
 rfl
theorem Q4d (G:Gr)(P:List Int):Xj G P P.length=P.map (λv=>iat G.eo v.toNat):=by simp[Xj]
theorem At (B:Nat)(v0 v1 v2 v3 v4 v5 v6 vp:Value)(G:Gr)(P:List Int)(w:World)(h0:HG B w v0 v1 v2 v3 v4 v5 v6 G)(hp:Qi B w vp P) :
  Calls prog 7 #[.agg #[v0,v1,v2,v3,v4,v5,v6],vp] w λe w'=>(∃v,e=.returned v/\Q5 w.heap.size w' v (Xf G P))/\Nx w w':=by
 obtain⟨ii,hi,hz0,hz1,hz2⟩:=info_parts Zp
 have HH:=mh h0
 have HP:=mh hp
 obtain⟨⟨a0,c0,rfl,hn0,hk0⟩,⟨a1,c1,rfl,hn1,hk1⟩,⟨a2,c2,rfl,hn2,hk2⟩,⟨a3,c3,rfl,hn3,hk3⟩,⟨a4,c4,rfl,hn4,hk4⟩,⟨a5,c5,rfl,hn5,hk5⟩,⟨a6,c6,rfl,hn6,hk6⟩⟩:=h0
 obtain⟨a7,c7,rfl,hn7,hk7⟩:=hp
 unfold maxLen at hn0 hn1 hn2 hn3 hn4 hn5 hn6 hn7
 generalize hz0:G.eo.length=n0 at *
 have Z0:=mh hz0
 clear hz0
 generalize hz1:G.so.length=n1 at *
 have Z1:=mh hz1
 clear hz1
 generalize hz2:G.fi.length=n2 at *
 have Z2:=mh hz2
 clear hz2
 generalize hz3:G.tt.length=n3 at *
 have Z3:=mh hz3
 clear hz3
 generalize hz4:G.co.length=n4 at *
 have Z4:=mh hz4
 clear hz4
 generalize hz5:G.sr.length=n5 at *
 have Z5:=mh hz5
 clear hz5
 generalize hz6:G.we.length=n6 at *
 have Z6:=mh hz6
 clear hz6
 generalize hz7:P.length=n7 at *
 have Z7:=mh hz7
 clear hz7
 have HOW:Z (Q5 (w.heap.size+1) ((w.alloc (.cells #[sL a0 n0 c0,sL a1 n1 c1,sL a2 n2 c2,sL a3 n3 c3,sL a4 n4 c4,sL a5 n5 c5,sL a6 n6 c6] 25)).alloc (.cells #[] 2)) (sL (sA (w.heap.size+1)) 0 0) []):=by
  unfold Z
  have:=Vq (w.heap.size+1) (w.alloc (.cells #[sL a0 n0 c0,sL a1 n1 c1,sL a2 n2 c2,sL a3 n3 c3,sL a4 n4 c4,sL a5 n5 c5,sL a6 n6 c6] 25)) (by simp)
  simpa using this
 go_enter func7,ntmps7
 go_wp2_with fail
 refine(Yo B _ _ _ _ _ _ _ G _ (by exact HH.o.next (Uk _ _ _))).mono ?_
 rintro e w1 ⟨rfl,hx⟩
 have BA:=((Blk.new w #[sL a0 n0 c0,sL a1 n1 c1,sL a2 n2 c2,sL a3 n3 c3,sL a4 n4 c4,sL a5 n5 c5,sL a6 n6 c6] 25 _ rfl).alloc (.cells #[] 2)).next hx
 have HX:=mh ((Uk _ _ _).trans hx)
 have HO1:=mh (HOW.o.next hx)
 clear hx HOW
 cases hvb:Qq G
 case false=>
  have HF:Z (Xf G P=[]):=by unfold Z;simp[Xf,hvb]
  go_wp2
  go_ret
  exact⟨⟨_,rfl,by rw[HF.o];exact HO1.o.base (Nat.le_succ _)⟩,HX.o⟩
 have HV:Z (VG G):=Q0c hvb
 have k0:=BA.c 0 rfl
 have k1:=BA.c 1 rfl
 have k2:=BA.c 2 rfl
 have k3:=BA.c 3 rfl
 have k4:=BA.c 4 rfl
 have k5:=BA.c 5 rfl
 have k6:=BA.c 6 rfl
 go_wp2_with fail
 refine(Il B _ _ _ _ _ _ _ _ G P _ (by exact HH.o.next HX.o) (by exact HP.o.next HX.o) HV.o).mono ?_
 rintro e w2 ⟨rfl,hx⟩
 have BA2:=BA.next hx
 have HX2:=mh (HX.o.trans hx)
 have HO2:=mh (HO1.o.next hx)
 clear hx BA HX HO1 k0 k1 k2 k3 k4 k5 k6
 cases hpb:Xr G P
 case false=>
  have HF:Z (Xf G P=[]):=by unfold Z;simp[Xf,hpb]
  go_wp2
  go_ret
  exact⟨⟨_,rfl,by rw[HF.o];exact HO2.o.base (Nat.le_succ _)⟩,HX2.o⟩
 have HI:=mh (Qfc hpb)
 have HPE:Z (Xf G P=P.map (λv=>iat G.eo v.toNat)):=by unfold Z;simp[Xf,hvb,hpb]
 have hl1:n7<=10000:=by have:=HI.o.l1;rw[Z7.o] at this;exact this
 have HZW:Z (w.heap.size+1<w2.heap.size):=(Q7 HO2.o _ rfl).2
 clear hk1 hk2 hk3 hk4 hk5 hk6 hvb hpb
 go_wp2
 go_loopw [5,6] (λv i wr=>∃k:Nat,k<=n7/\i=iV k/\Z (Q5 (w.heap.size+1) wr v (Xj G P k))/\Z (Below (w.heap.size+1) w2 wr)) (λ_ i _=>n7-(intOf i).toNat)
 case atStart=>exact⟨0,nZ,rfl,HO2,Below.refl _ _⟩
 clear HO2
 obtain⟨k,hkn,rfl,HO,HN⟩:=hrel
 have HW:Z (Nx w wr):=Below.trans HX2.o (Below.mono HN.o (Nat.le_succ _))
 by_cases hlt:k<n7
 ·have hlt':(k:Int)<n7:=by omega
  obtain⟨s,hs⟩:∃s:Nat,iat P k=(s:Int):=⟨(iat P k).toNat,by have:=(HI.o.b k (by rw[Z7.o];exact hlt)).1;omega⟩
  have hsn:s<n0:=by have:=(HI.o.b k (by rw[Z7.o];exact hlt)).2;rw[Z0.o] at this;omega
  have hsn':(s:Int)<n0:=by omega
  obtain⟨b7,o7,ha7,_,hb7,hc7⟩:=hk7 (by omega)
  obtain⟨b0,o0,ha0,_,hb0,hc0⟩:=hk0 (by omega)
  subst ha7 ha0
  have x0:=hc7 k hlt
  rw[hs] at x0
  have x0:=Q2 HW.o hb7 x0
  have y0:=Q2 HW.o hb0 (hc0 s hsn)
  have k0:=(BA2.below HN.o (Nat.lt_succ_self _)).c 0 rfl
  have HLK:Z ((Xj G P k).length=k):=Q4c (by rw[Z7.o];omega)
  have HES:Z (Xj G P (k+1)=Xj G P k++[iat G.eo s]):=by
   unfold Z
   rw[Q2e (by rw[Z7.o];exact hlt),hs,zU]
  obtain⟨av,cv,hvs⟩:=HO.o.slice
  rw[HLK.o] at hvs
  subst hvs
  have HZ3:=mh (zJ HZW.o HN.o.size)
  clear hc7 hc0 hk0 hk7 hs
  generalize iat G.eo s=es at *
  go_wp2
  go_region_law (refine Wq rfl (.tmp 21) (.tmp 30) 23 rfl 2 ii (iV 0) 1 8 underlying23 hi hz0 hz1 hz2 rfl (by decide) (w.heap.size+1) (sL av k cv) (Xj G P k).length (J0 (Xj G P k)) (by simp[Act.eval]) (zB (show wr.drew.ownsRow _ _ _ _ _ _ from HO.o) _) (aD wr.heap.size 0) 1 1 [iV es] (by simp[Act.eval]) rfl (λj u hj=>Qn wr.drew _ _ _ rfl j u hj) (by intro u hu;simp at hu;subst hu;rfl) (by rw[HLK.o];unfold maxLen;omega) (by rw[HLK.o];omega) (by have:=HZ3.o;simp;omega) ?_;intro v' w' hown hgrow;have HV':Q5 (w.heap.size+1) w' v' (Xj G P (k+1)):=(by rw[HES.o];exact Q5.snoc hown);have HB':Below (w.heap.size+1) w2 w':=Below.grown (Below.alloc (Below.drew HN.o) (Nat.le_of_lt HZ3.o) _) hgrow (by have:=HZ3.o;simp;omega) (λg hg=>(Q7 HO.o g hg).1))
  all_goals go_wp2
  all_goals
   go_roundw
   case rel=>exact⟨k+1,by omega,by go_num,HV',HB'⟩
   case measure=>simp[intOf];omega
 have ek:n7=k:=by omega
 subst ek
 have HF:Z (Q5 (w.heap.size+1) wr u5 (Xf G P)):=by
  unfold Z
  rw[HPE.o,<-Q4d,Z7.o]
  exact HO.o
 clear HO hlt hkn
 go_wp2
 go_ret
 exact⟨⟨_,rfl,HF.o.base (Nat.le_succ _)⟩,HW.o⟩
end Go.Proofs.YtphiaobccollhaaGreat
namespace Go.Proofs.YtphiaobccollhaaGreat
open Go.RowKit Tryz
set_option linter.unusedVariables false
set_option maxRecDepth 1000000
set_option maxHeartbeats 16000000
def Vw (G:Gr)(u:Nat)(e:Int):Nat->Int
 |0=>-1
 |v+1=>if (iat G.eo v==e&&decide (0<=Xd G u (v:Int)))=true then (v:Int) else Vw G u e v
theorem Qa9 (G:Gr)(u:Nat)(e:Int)(v:Nat):-1<=Vw G u e v/\Vw G u e v<v:=by
 induction v with
 |zero=>simp[Vw]
 |succ v ih=>unfold Vw;split<;>omega
def Vr (G:Gr)(P:List Int):Nat->Option (List Int)
 |0=>some [iat G.sr (iat P 0).toNat]
 |k+1=>(Vr G P k).bind λp=>if Vw G (iat p k).toNat (iat P (k+1)) G.eo.length<0 then none else some (p++[Vw G (iat p k).toNat (iat P (k+1)) G.eo.length])
theorem Q5v {G:Gr}{P:List Int}{k d:Nat}(h:Vr G P k=none):Vr G P (k+d)=none:=by
 induction d with
 |zero=>exact h
 |succ d ih=>rw[<-Nat.add_assoc,Vr,ih];rfl
theorem Q5u {G:Gr}{P p:List Int}{k:Nat}(h:Vr G P k=some p)(hs:Vw G (iat p k).toNat (iat P (k+1)) G.eo.length<0):Vr G P (k+1)=none:=by
 rw[Vr,h,Option.bind_some,if_pos hs]
theorem Q3u {G:Gr}{P p:List Int}{k:Nat}(h:Vr G P k=some p)(hs:¬Vw G (iat p k).toNat (iat P (k+1)) G.eo.length<0):Vr G P (k+1)=some (p++[Vw G (iat p k).toNat (iat P (k+1)) G.eo.length]):=by
 rw[Vr,h,Option.bind_some,if_neg hs]
def Qb9 (G:Gr)(P:List Int):Bool:=Qq G&&(decide (0<P.length)&&(decide (P.length<=10000)&&(decide (0<=iat P 0)&&decide (iat P 0<(G.sr.length:Int)))))
def Vd (G:Gr)(P:List Int):List Int:=if Qb9 G P then (Vr G P (P.length-1)).getD [] else []
theorem Q5y (B:Nat)(v0 v1 v2 v3 v4 v5 v6 vp:Value)(G:Gr)(P:List Int)(w:World)(h0:HG B w v0 v1 v2 v3 v4 v5 v6 G)(hp:Qi B w vp P)(hG:VG G)(hl0:0<P.length)(hl1:P.length<=10000)(hw0:0<=iat P 0)(hw1:iat P 0<(G.sr.length:Int)) :
  Calls prog 19 #[.agg #[v0,v1,v2,v3,v4,v5,v6],vp] w λe w'=>(∃v,e=.returned v/\Q5 w.heap.size w' v ((Vr G P (P.length-1)).getD []))/\Nx w w':=by
 obtain⟨ii,hi,hz0,hz1,hz2⟩:=info_parts Zp
 have HH:=mh h0
 have HV:Z (VG G):=hG
 obtain⟨⟨a0,c0,rfl,hn0,hk0⟩,⟨a1,c1,rfl,hn1,hk1⟩,⟨a2,c2,rfl,hn2,hk2⟩,⟨a3,c3,rfl,hn3,hk3⟩,⟨a4,c4,rfl,hn4,hk4⟩,⟨a5,c5,rfl,hn5,hk5⟩,⟨a6,c6,rfl,hn6,hk6⟩⟩:=h0
 obtain⟨a7,c7,rfl,hn7,hk7⟩:=hp
 unfold maxLen at hn0 hn1 hn2 hn3 hn4 hn5 hn6 hn7
 have hvv:=hG.v
 clear hG
 generalize hz0:G.eo.length=n0 at *
 have Z0:=mh hz0
 clear hz0
 generalize hz1:G.so.length=n1 at *
 have Z1:=mh hz1
 clear hz1
 generalize hz2:G.fi.length=n2 at *
 have Z2:=mh hz2
 clear hz2
 generalize hz3:G.tt.length=n3 at *
 have Z3:=mh hz3
 clear hz3
 generalize hz4:G.co.length=n4 at *
 have Z4:=mh hz4
 clear hz4
 generalize hz5:G.sr.length=n5 at *
 have Z5:=mh hz5
 clear hz5
 generalize hz6:G.we.length=n6 at *
 have Z6:=mh hz6
 clear hz6
 generalize hz7:P.length=n7 at *
 have Z7:=mh hz7
 clear hz7
 obtain⟨e,he⟩:∃e:Nat,iat P 0=(e:Int):=⟨(iat P 0).toNat,by omega⟩
 have hen:e<n5:=by omega
 have hen':(e:Int)<n5:=by omega
 have hl0':(0:Int)<n7:=by omega
 obtain⟨b7,o7,ha7,_,hb7,hc7⟩:=hk7 hl0
 obtain⟨b5,o5,ha5,_,hb5,hc5⟩:=hk5 (by omega)
 subst ha7 ha5
 have HC7:Z (∀i,i<n7->w.cell? (aD b7 (o7+i))=some (iV (iat P i))):=hc7
 have x0:w.cell? (aD b7 (o7+0))=some (iV (iat P 0)):=hc7 0 hl0
 rw[he,Nat.add_zero] at x0
 have y0:w.cell? (aD b5 (o5+e))=some (iV (iat G.sr e)):=hc5 e hen
 have x1:=Lib.cell?_alloc_some (.cells #[sL a0 n0 c0,sL a1 n1 c1,sL a2 n2 c2,sL a3 n3 c3,sL a4 n4 c4,sL (some (aD b5 o5)) n5 c5,sL a6 n6 c6] 25) x0
 have y1:=Lib.cell?_alloc_some (.cells #[sL a0 n0 c0,sL a1 n1 c1,sL a2 n2 c2,sL a3 n3 c3,sL a4 n4 c4,sL (some (aD b5 o5)) n5 c5,sL a6 n6 c6] 25) y0
 have HL0:Z (Vr G P 0=some [iat G.sr e]):=by unfold Z;rw[Vr,he,zU]
 have hsb:=HV.o.sr e (by rw[Z5.o];exact hen)
 rw[Z0.o] at hsb
 have HSB:Z (0<=iat G.sr e/\iat G.sr e<n0):=⟨hsb.1,hsb.2.1⟩
 generalize iat G.sr e=s0 at *
 clear hc7 hc5 he hk1 hk2 hk3 hk4 hk5 hk6 hk7 hsb x0 y0
 go_enter func19,ntmps19
 go_upto_region 1 with fail
 go_cut [5] from 9 (λs5 wc=>Z (Q5 (w.heap.size+1) wc s5 [s0])/\Z (Nx (w.alloc (.cells #[sL a0 n0 c0,sL a1 n1 c1,sL a2 n2 c2,sL a3 n3 c3,sL a4 n4 c4,sL (some (aD b5 o5)) n5 c5,sL a6 n6 c6] 25)) wc))
 case first=>
  go_region
  all_goals go_wp2
  all_goals go_meet
  all_goals exact⟨Q5.drew (Eo w _ s0),by first|exact(Nx.drew (Nx.refl _)).alloc _|exact Nx.drew ((Nx.refl _).alloc _)⟩
 case rest=>
 obtain⟨HOW,HNW⟩:=hcut
 clear x1 y1 hen hen' hw0 hw1
 go_wp2
 go_loopw [5,6,7,8] (λv i s7 s8 wr=>∃k:Nat,k<n7/\i=iV ((k:Int)+1)/\Z (∃p,Vr G P k=some p/\p.length=k+1/\(∀i,i<k+1->0<=iat p i/\iat p i<n0)/\Q5 (w.heap.size+1) wr v p)/\Z (Nx (w.alloc (.cells #[sL a0 n0 c0,sL a1 n1 c1,sL a2 n2 c2,sL a3 n3 c3,sL a4 n4 c4,sL (some (aD b5 o5)) n5 c5,sL a6 n6 c6] 25)) wr)) (λ_ i _ _ _=>n7-(intOf i).toNat)
 case atStart=>exact⟨0,hl0,rfl,⟨[s0],HL0.o,rfl,λi hi=>(by obtain rfl:i=0:=(by omega);exact HSB.o),HOW.o⟩,HNW⟩
 clear HOW HNW HL0 HSB
 obtain⟨k,hkn,rfl,HP,HN⟩:=hrel
 have HW:=mh ((Qe _ _).trans HN.o)
 by_cases hlt:k+1<n7
 ·have hlt':(k:Int)+1<n7:=by omega
  obtain⟨p,hlk,hpl,hpb,hpo⟩:=HP.o
  obtain⟨av,cv,hvs⟩:=hpo.slice
  rw[hpl] at hvs
  subst hvs
  obtain⟨gp,hag,hcp⟩:=hpo.cell (i:=k) (by omega)
  subst hag
  obtain⟨u,hu⟩:∃u:Nat,iat p k=(u:Int):=⟨(iat p k).toNat,by have:=(hpb k (by omega)).1;omega⟩
  have hun:u<n0:=by have:=(hpb k (by omega)).2;omega
  rw[hu] at hcp
  have x0:=Q2 HW.o hb7 (HC7.o (k+1) hlt)
  have HLK:Z (Vr G P k=some p/\p.length=k+1/\(∀i,i<k+1->0<=iat p i/\iat p i<n0)):=⟨hlk,hpl,hpb⟩
  have HPO:=mh hpo
  have HST:Z (Vw G (iat p k).toNat (iat P (k+1)) G.eo.length=Vw G u (iat P (k+1)) n0):=by unfold Z;rw[hu,zU,Z0.o]
  have BA:=(Blk.new w #[sL a0 n0 c0,sL a1 n1 c1,sL a2 n2 c2,sL a3 n3 c3,sL a4 n4 c4,sL (some (aD b5 o5)) n5 c5,sL a6 n6 c6] 25 _ rfl).next HN.o
  clear hlk hpl hpb hpo hu HP
  generalize hEW:iat P (k+1)=ew at *
  have HEW:=mh hEW
  clear hEW
  go_wp2
  generalize hWR:wr=WR at *
  clear hWR
  go_loopw [7,8] (λs7 s8 wq=>∃v:Nat,v<=n0/\s8=iV v/\s7=iV (Vw G u ew v)/\Z (Nx WR wq)) (λ_ s8 _=>n0-(intOf s8).toNat)
  case atStart=>exact⟨0,nZ,rfl,rfl,Nx.refl _⟩
  obtain⟨v,hvn,rfl,rfl,HQ⟩:=hrel
  have BQ:=BA.next HQ.o
  have k0:=BQ.c 0 rfl
  by_cases hvl:v<n0
  ·have hvl':(v:Int)<n0:=by omega
   obtain⟨b0,o0,ha0,_,hb0,hc0⟩:=hk0 (by omega)
   subst ha0
   have HWq:=mh (HW.o.trans HQ.o)
   have y0:=Q2 HWq.o hb0 (hc0 v hvl)
   have x1:=Q0 HQ.o x0
   have z1:=Q0 HQ.o hcp
   have hwk:=Va k (by omega)
   have hkk:(k:Int)<(k:Int)+1:=by omega
   have HSS:Z (Vw G u ew (v+1)=if (iat G.eo v==ew&&decide (0<=Xd G u (v:Int)))=true then (v:Int) else Vw G u ew v):=rfl
   clear hc0 x0 hcp hk0
   by_cases g1:iat G.eo v=ew
   ·have f1:(iat G.eo v==ew)=true:=by simpa using g1
    have CG:Z (∀d os,Calls prog 16 #[.agg #[sL (some (aD b0 o0)) n0 c0,sL a1 n1 c1,sL a2 n2 c2,sL a3 n3 c3,sL a4 n4 c4,sL (some (aD b5 o5)) n5 c5,sL a6 n6 c6],iV u,iV (v:Int)] (Sort.grow (redrawn wr d) os) λe w''=>e=.returned (iV (Xd G u (v:Int)))/\∃p:Regrown,w''=Sort.grow (redrawn wr p.d) p.os):=
     λd os=>Calls.regrown_of (Gt B _ _ _ _ _ _ _ G u (v:Int) _ ((HH.o.next HWq.o).next (below_regrown wr d os)) HV.o (by rw[Z0.o];exact hun))
    have Y0:=cell_regrown y0
    have X1:=cell_regrown x1
    have Z1:=cell_regrown z1
    have K0:=cell_regrown (BQ.c 0 rfl)
    have K1:=cell_regrown (BQ.c 1 rfl)
    have K2:=cell_regrown (BQ.c 2 rfl)
    have K3:=cell_regrown (BQ.c 3 rfl)
    have K4:=cell_regrown (BQ.c 4 rfl)
    have K5:=cell_regrown (BQ.c 5 rfl)
    have K6:=cell_regrown (BQ.c 6 rfl)
    clear g1 BQ
    generalize hAR:Xd G u (v:Int)=ar at *
    clear hAR
    rw[f1,Bool.true_and] at HSS
    by_cases g2:0<=ar
    ·have f2:decide (0<=ar)=true:=by simpa using g2
     have HF:Z (Vw G u ew (v+1)=(v:Int)):=by unfold Z;rw[HSS.o,if_pos f2]
     clear g2 HSS
     generalize Vw G u ew v=sv at *
     go_wp2
     refine wp_region_quiet_below (by kernel_rfl) (by kernel_rfl) ?_
     repeat (go_big_quiet_step (exact CG.o _ _))
     refine wpQuiet_nil ?_
     intro _ hw'
     obtain⟨⟨dq,osq⟩,hw''⟩:=hw'
     subst hw''
     have HB:Z (Nx wr (Sort.grow (redrawn wr dq) osq)):=below_regrown wr dq osq
     go_wp2
     go_roundw
     case rel=>exact⟨v+1,by omega,by go_num,by rw[HF.o],HQ.o.trans HB.o⟩
     case measure=>simp[intOf];omega
    ·have f2:decide (0<=ar)=false:=by simpa using g2
     have HF:Z (Vw G u ew (v+1)=Vw G u ew v):=by unfold Z;rw[HSS.o,if_neg (by rw[f2];simp)]
     clear g2 HSS
     generalize Vw G u ew v=sv at *
     go_wp2
     refine wp_region_quiet_below (by kernel_rfl) (by kernel_rfl) ?_
     repeat (go_big_quiet_step (exact CG.o _ _))
     refine wpQuiet_nil ?_
     intro _ hw'
     obtain⟨⟨dq,osq⟩,hw''⟩:=hw'
     subst hw''
     have HB:Z (Nx wr (Sort.grow (redrawn wr dq) osq)):=below_regrown wr dq osq
     go_wp2
     go_roundw
     case rel=>exact⟨v+1,by omega,by go_num,by rw[HF.o],HQ.o.trans HB.o⟩
     case measure=>simp[intOf];omega
   ·have f1:(iat G.eo v==ew)=false:=by simpa using g1
    have HF:Z (Vw G u ew (v+1)=Vw G u ew v):=by unfold Z;rw[HSS.o,f1,Bool.false_and];simp
    clear g1 HSS BQ
    generalize Vw G u ew v=sv at *
    go_wp2
    go_quiet (fail)
    go_wp2
    go_roundw
    case rel=>exact⟨v+1,by omega,by go_num,by rw[HF.o],HQ.o.trans ⟨rfl,rfl,rfl,lR,λ_ _=>rfl⟩⟩
    case measure=>simp[intOf];omega
  have ev:n0=v:=by omega
  subst ev
  have HPQ:=mh (HPO.o.next HQ.o)
  have HNQ:=mh (HN.o.trans HQ.o)
  have HWQ:=mh (HW.o.trans HQ.o)
  have hsb:=Qa9 G u ew n0
  generalize hsv:Vw G u ew n0=sv at *
  have HSV:=mh hsv
  clear hsv hvn hvl BQ BA x0 hcp hk0 HPO HN HW HQ
  by_cases g3:sv<0
  ·have f3:decide (sv<0)=true:=by simpa using g3
   have HF:Z ((Vr G P (n7-1)).getD []=[]):=by
    unfold Z
    have h1:=Q5u HLK.o.1 (by rw[HEW.o,HST.o];exact g3)
    have h2:=Q5v (d:=n7-1-(k+1)) h1
    rw[show k+1+(n7-1-(k+1))=n7-1 by omega] at h2
    rw[h2]
    rfl
   clear g3 hsb
   go_wp2
   go_ret
   exact⟨⟨_,rfl,by rw[HF.o];exact Vq w.heap.size wr HWQ.o.size⟩,HWQ.o.alloc _⟩
  ·have f3:decide (sv<0)=false:=by simpa using g3
   have HF:Z (Vr G P (k+1)=some (p++[sv])):=by
    unfold Z
    rw[Q3u HLK.o.1 (by rw[HEW.o,HST.o];exact g3),HEW.o,HST.o]
   have HPL:=mh HLK.o.2.1
   have HBB:Z (∀i,i<k+1+1->0<=iat (p++[sv]) i/\iat (p++[sv]) i<n0):=λi hi=>by
    by_cases e:i<k+1
    ·rw[Qbo (by rw[HPL.o];exact e)];exact HLK.o.2.2 i e
    ·rw[Qdx (by rw[HPL.o];omega)];omega
   have HZ3:Z (w.heap.size+1<=wr.heap.size):=by have:=HNQ.o.size;unfold Z;simpa using this
   clear g3 hsb HLK HST HSV
   go_wp2_with (at_builtin;refine wpList_append_own_at _ rfl _ _ 23 rfl (w.heap.size+1) 2 ii (iV 0) 1 8 underlying23 hi hz0 hz1 hz2 rfl (by decide) _ _ _ rfl (zB HPQ.o _) (aD wr.heap.size 0) 1 1 [iV sv] rfl rfl (λj u hj=>Qn wr _ _ _ rfl j u hj) ?c2 ?c3 ?c4 ?c5 ?_)
   case c2=>intro u hu;simp at hu;subst hu;rfl
   case c3=>rw[HPL.o];unfold maxLen;omega
   case c4=>rw[HPL.o];omega
   case c5=>have:=HZ3.o;simp;omega
   intro v7 w7 hown hgrow _ _
   have HO7:=mh (Q5.snoc hown)
   have HN7:Z (Nx (w.alloc (.cells #[sL a0 n0 c0,sL a1 n1 c1,sL a2 n2 c2,sL a3 n3 c3,sL a4 n4 c4,sL (some (aD b5 o5)) n5 c5,sL a6 n6 c6] 25)) w7):=Below.grown (HNQ.o.alloc _) hgrow (by have:=HZ3.o;simp;omega) (λg hg=>by have:=(Q7 HPQ.o g hg).1;simpa using this)
   clear hown hgrow HPQ HNQ
   go_wp2
   go_roundw
   case rel=>exact⟨k+1,hlt,by go_num,⟨p++[sv],HF.o,by rw[zA,HPL.o];rfl,HBB.o,HO7.o⟩,HN7⟩
   case measure=>simp[intOf];omega
 have ek:n7=k+1:=by omega
 have hlt':¬(k:Int)+1<n7:=by omega
 have HF:Z (Q5 (w.heap.size+1) wr u5 ((Vr G P (n7-1)).getD [])):=by
  obtain⟨p,hlk,hpl,hpb,hpo⟩:=HP.o
  unfold Z
  rw[ek,Nat.add_sub_cancel,hlk]
  exact hpo
 clear HP hlt ek hkn
 go_wp2
 go_ret
 exact⟨⟨_,rfl,HF.o.base (Nat.le_succ _)⟩,HW.o⟩
theorem Q1n (B:Nat)(v0 v1 v2 v3 v4 v5 v6 vp:Value)(G:Gr)(P:List Int)(w:World)(h0:HG B w v0 v1 v2 v3 v4 v5 v6 G)(hp:Qi B w vp P) :
  Calls prog 10 #[.agg #[v0,v1,v2,v3,v4,v5,v6],vp] w λe w'=>(∃v,e=.returned v/\Q5 w.heap.size w' v (Vd G P))/\Nx w w':=by
 have HH:=mh h0
 have HP:=mh hp
 obtain⟨⟨a0,c0,rfl,hn0,hk0⟩,⟨a1,c1,rfl,hn1,hk1⟩,⟨a2,c2,rfl,hn2,hk2⟩,⟨a3,c3,rfl,hn3,hk3⟩,⟨a4,c4,rfl,hn4,hk4⟩,⟨a5,c5,rfl,hn5,hk5⟩,⟨a6,c6,rfl,hn6,hk6⟩⟩:=h0
 obtain⟨a7,c7,rfl,hn7,hk7⟩:=hp
 unfold maxLen at hn0 hn1 hn2 hn3 hn4 hn5 hn6 hn7
 generalize hz0:G.eo.length=n0 at *
 have Z0:=mh hz0
 clear hz0
 generalize hz1:G.so.length=n1 at *
 have Z1:=mh hz1
 clear hz1
 generalize hz2:G.fi.length=n2 at *
 have Z2:=mh hz2
 clear hz2
 generalize hz3:G.tt.length=n3 at *
 have Z3:=mh hz3
 clear hz3
 generalize hz4:G.co.length=n4 at *
 have Z4:=mh hz4
 clear hz4
 generalize hz5:G.sr.length=n5 at *
 have Z5:=mh hz5
 clear hz5
 generalize hz6:G.we.length=n6 at *
 have Z6:=mh hz6
 clear hz6
 generalize hz7:P.length=n7 at *
 have Z7:=mh hz7
 clear hz7
 have HLD:Z (Vd G P=if (Qq G&&(decide (0<n7)&&(decide (n7<=10000)&&(decide (0<=iat P 0)&&decide (iat P 0<(n5:Int))))))=true then (Vr G P (n7-1)).getD [] else []):=by
  unfold Z
  rw[<-Z7.o,<-Z5.o]
  rfl
 go_enter func10,ntmps10
 go_upto_region 1 with fail
 generalize hW0:(w.alloc (.cells #[sL a0 n0 c0,sL a1 n1 c1,sL a2 n2 c2,sL a3 n3 c3,sL a4 n4 c4,sL a5 n5 c5,sL a6 n6 c6] 25))=W0 at *
 have HW0:Z (Nx w W0):=by rw[<-hW0];exact Qe _ _
 have BA:Blk W0 w.heap.size #[sL a0 n0 c0,sL a1 n1 c1,sL a2 n2 c2,sL a3 n3 c3,sL a4 n4 c4,sL a5 n5 c5,sL a6 n6 c6]:=by rw[<-hW0];exact Blk.new w #[sL a0 n0 c0,sL a1 n1 c1,sL a2 n2 c2,sL a3 n3 c3,sL a4 n4 c4,sL a5 n5 c5,sL a6 n6 c6] 25 _ rfl
 have HBA:=mh BA
 clear hW0
 have CG:Z (∀d os,Calls prog 5 #[.agg #[sL a0 n0 c0,sL a1 n1 c1,sL a2 n2 c2,sL a3 n3 c3,sL a4 n4 c4,sL a5 n5 c5,sL a6 n6 c6]] (Sort.grow (redrawn W0 d) os) λe w''=>e=.returned (.bool (Qq G))/\∃p:Regrown,w''=Sort.grow (redrawn W0 p.d) p.os):=
  λd os=>Calls.regrown_of (Yo B _ _ _ _ _ _ _ G _ ((HH.o.next HW0.o).next (below_regrown W0 d os)))
 have K0:=cell_regrown (BA.c 0 rfl)
 have K1:=cell_regrown (BA.c 1 rfl)
 have K2:=cell_regrown (BA.c 2 rfl)
 have K3:=cell_regrown (BA.c 3 rfl)
 have K4:=cell_regrown (BA.c 4 rfl)
 have K5:=cell_regrown (BA.c 5 rfl)
 have K6:=cell_regrown (BA.c 6 rfl)
 clear BA hk0 hk1 hk2 hk3 hk4 hk5 hk6
 cases hvb:Qq G
 case false=>
  rw[hvb] at CG HLD
  have HF:Z (Vd G P=[]):=by unfold Z;rw[HLD.o];simp
  go_wp2
  refine wp_region_quiet_below (by kernel_rfl) (by kernel_rfl) ?_
  repeat (go_big_quiet_step (exact CG.o _ _))
  refine wpQuiet_nil ?_
  intro _ hw'
  obtain⟨⟨dq,osq⟩,hw''⟩:=hw'
  subst hw''
  have HB:Z (Nx W0 (Sort.grow (redrawn W0 dq) osq)):=below_regrown W0 dq osq
  generalize hwq:Sort.grow (redrawn W0 dq) osq=wq at *
  clear hwq
  go_wp2
  go_ret
  exact⟨⟨_,rfl,by rw[HF.o];exact Vq w.heap.size _ (zM HW0.o.size HB.o.size)⟩,(HW0.o.trans HB.o).alloc _⟩
 have HV:Z (VG G):=Q0c hvb
 rw[hvb] at CG HLD
 clear hvb
 by_cases g1:0<n7
 case neg=>
  have e1:n7=0:=by omega
  subst e1
  have HF:Z (Vd G P=[]):=by unfold Z;rw[HLD.o];simp
  clear g1
  go_wp2
  refine wp_region_quiet_below (by kernel_rfl) (by kernel_rfl) ?_
  repeat (go_big_quiet_step (exact CG.o _ _))
  refine wpQuiet_nil ?_
  intro _ hw'
  obtain⟨⟨dq,osq⟩,hw''⟩:=hw'
  subst hw''
  have HB:Z (Nx W0 (Sort.grow (redrawn W0 dq) osq)):=below_regrown W0 dq osq
  generalize hwq:Sort.grow (redrawn W0 dq) osq=wq at *
  clear hwq
  go_wp2
  go_ret
  exact⟨⟨_,rfl,by rw[HF.o];exact Vq w.heap.size _ (zM HW0.o.size HB.o.size)⟩,(HW0.o.trans HB.o).alloc _⟩
 have f1:((n7:Int)==0)=false:=by simp;omega
 by_cases g2:n7<=10000
 case neg=>
  have f2:decide (10000<(n7:Int))=true:=by simp;omega
  have HF:Z (Vd G P=[]):=by unfold Z;rw[HLD.o,if_neg (by simp;omega)]
  clear g1 g2
  go_wp2
  refine wp_region_quiet_below (by kernel_rfl) (by kernel_rfl) ?_
  repeat (go_big_quiet_step (exact CG.o _ _))
  refine wpQuiet_nil ?_
  intro _ hw'
  obtain⟨⟨dq,osq⟩,hw''⟩:=hw'
  subst hw''
  have HB:Z (Nx W0 (Sort.grow (redrawn W0 dq) osq)):=below_regrown W0 dq osq
  generalize hwq:Sort.grow (redrawn W0 dq) osq=wq at *
  clear hwq
  go_wp2
  go_ret
  exact⟨⟨_,rfl,by rw[HF.o];exact Vq w.heap.size _ (zM HW0.o.size HB.o.size)⟩,(HW0.o.trans HB.o).alloc _⟩
 have f2:decide (10000<(n7:Int))=false:=by simp;omega
 have hl0':(0:Int)<n7:=by omega
 obtain⟨b7,o7,ha7,_,hb7,hc7⟩:=hk7 g1
 subst ha7
 have x0:w.cell? (aD b7 (o7+0))=some (iV (iat P 0)):=hc7 0 g1
 rw[Nat.add_zero] at x0
 have X0:=cell_regrown (Q2 HW0.o hb7 x0)
 clear hc7 x0
 by_cases g3:iat P 0<0
 ·have f3:decide (iat P 0<0)=true:=by simpa using g3
  have HF:Z (Vd G P=[]):=by unfold Z;rw[HLD.o,if_neg (by simp;omega)]
  clear g1 g2 g3
  go_wp2
  refine wp_region_quiet_below (by kernel_rfl) (by kernel_rfl) ?_
  repeat (go_big_quiet_step (exact CG.o _ _))
  refine wpQuiet_nil ?_
  intro _ hw'
  obtain⟨⟨dq,osq⟩,hw''⟩:=hw'
  subst hw''
  have HB:Z (Nx W0 (Sort.grow (redrawn W0 dq) osq)):=below_regrown W0 dq osq
  generalize hwq:Sort.grow (redrawn W0 dq) osq=wq at *
  clear hwq
  go_wp2
  go_ret
  exact⟨⟨_,rfl,by rw[HF.o];exact Vq w.heap.size _ (zM HW0.o.size HB.o.size)⟩,(HW0.o.trans HB.o).alloc _⟩
 have f3:decide (iat P 0<0)=false:=by simpa using g3
 by_cases g4:(n5:Int)<=iat P 0
 ·have f4:decide ((n5:Int)<=iat P 0)=true:=by simpa using g4
  have HF:Z (Vd G P=[]):=by unfold Z;rw[HLD.o,if_neg (by simp;omega)]
  clear g1 g2 g3 g4
  go_wp2
  refine wp_region_quiet_below (by kernel_rfl) (by kernel_rfl) ?_
  repeat (go_big_quiet_step (exact CG.o _ _))
  refine wpQuiet_nil ?_
  intro _ hw'
  obtain⟨⟨dq,osq⟩,hw''⟩:=hw'
  subst hw''
  have HB:Z (Nx W0 (Sort.grow (redrawn W0 dq) osq)):=below_regrown W0 dq osq
  generalize hwq:Sort.grow (redrawn W0 dq) osq=wq at *
  clear hwq
  go_wp2
  go_ret
  exact⟨⟨_,rfl,by rw[HF.o];exact Vq w.heap.size _ (zM HW0.o.size HB.o.size)⟩,(HW0.o.trans HB.o).alloc _⟩
 have f4:decide ((n5:Int)<=iat P 0)=false:=by simpa using g4
 have HF:Z (Vd G P=(Vr G P (n7-1)).getD []):=by unfold Z;rw[HLD.o,if_pos (by simp;omega)]
 have HL:Z (0<P.length/\P.length<=10000/\0<=iat P 0/\iat P 0<(G.sr.length:Int)):=by unfold Z;rw[Z7.o,Z5.o];omega
 clear g1 g2 g3 g4 HLD
 go_wp2
 refine wp_region_quiet_below (by kernel_rfl) (by kernel_rfl) ?_
 repeat (go_big_quiet_step (exact CG.o _ _))
 refine wpQuiet_nil ?_
 intro _ hw'
 obtain⟨⟨dq,osq⟩,hw''⟩:=hw'
 subst hw''
 have HB:Z (Nx W0 (Sort.grow (redrawn W0 dq) osq)):=below_regrown W0 dq osq
 have HWq:=mh (HW0.o.trans HB.o)
 have BQ:=HBA.o.next HB.o
 clear K0 K1 K2 K3 K4 K5 K6 X0 CG
 generalize hwq:Sort.grow (redrawn W0 dq) osq=wq at *
 clear hwq
 have k0:=BQ.c 0 rfl
 have k1:=BQ.c 1 rfl
 have k2:=BQ.c 2 rfl
 have k3:=BQ.c 3 rfl
 have k4:=BQ.c 4 rfl
 have k5:=BQ.c 5 rfl
 have k6:=BQ.c 6 rfl
 go_wp2_with fail
 refine(Q5y B _ _ _ _ _ _ _ _ G P _ (by exact HH.o.next HWq.o) (by exact HP.o.next HWq.o) HV.o HL.o.1 HL.o.2.1 HL.o.2.2.1 HL.o.2.2.2).mono ?_
 rintro e w2 ⟨⟨v,rfl,ho⟩,hx⟩
 have HFO:Z (Q5 w.heap.size w2 v (Vd G P)):=by rw[HF.o,<-Z7.o];exact ho.base HWq.o.size
 have HX2:=mh (HWq.o.trans hx)
 clear ho hx
 go_wp2
 go_ret
 exact⟨⟨_,rfl,HFO.o⟩,HX2.o⟩
end Go.Proofs.YtphiaobccollhaaGreat
