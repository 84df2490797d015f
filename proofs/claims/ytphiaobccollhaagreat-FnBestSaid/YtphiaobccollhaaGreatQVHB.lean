import Derived.Test.YtphiaobccollhaaGreatQVGA
namespace Go.Proofs.YtphiaobccollhaaGreat
open Go.RowKit Tryz
set_option linter.unusedVariables false
set_option maxRecDepth 1000000
set_option maxHeartbeats 16000000
def vWe (G:Gr):Bool:=decide (G.sr.length<=4000)&&((G.we.length==G.sr.length)&&Ki G.we)
def vFi (G:Gr):Bool:=(G.fi.length==G.eo.length+1)&&((iat G.fi 0==0)&&(Qo G.eo.length (leI G.fi)&&(iat G.fi G.eo.length==(G.tt.length:Int))))
def vAr (G:Gr):Bool:=decide (G.tt.length<=40000)&&((G.co.length==G.tt.length)&&Qo G.tt.length (tOk G))
theorem G9 (B:Nat)(v0 v1 v2 v3 v4 v5 v6:Value)(G:Gr)(w:World)(h0:HG B w v0 v1 v2 v3 v4 v5 v6 G) :
  Calls prog 22 #[.agg #[v0,v1,v2,v3,v4,v5,v6]] w λe w'=>e=.returned (.bool (vWe G))/\Nx w w':=by
 have HH:=mh h0
 obtain⟨⟨a0,c0,rfl,hn0,hk0⟩,⟨a1,c1,rfl,hn1,hk1⟩,⟨a2,c2,rfl,hn2,hk2⟩,⟨a3,c3,rfl,hn3,hk3⟩,⟨a4,c4,rfl,hn4,hk4⟩,⟨a5,c5,rfl,hn5,hk5⟩,⟨a6,c6,rfl,hn6,hk6⟩⟩:=h0
 have HM0:=mh hn0
 have HM5:=mh hn5
 unfold maxLen at hn0 hn1 hn2 hn3 hn4 hn5 hn6
 generalize hz0:G.eo.length=n0 at *
 have Z0:=mh hz0
 clear hz0
 generalize hz1:G.so.length=n1 at *
 have Z1:=mh hz1
 clear hz1
 generalize hz2:G.fi.length=n2 at *
 have Z2:=mh hz2
 clear hz2
 generalize hz3:G.tt.length=n3 at *
 have Z3:=mh hz3
 clear hz3
 generalize hz4:G.co.length=n4 at *
 have Z4:=mh hz4
 clear hz4
 generalize hz5:G.sr.length=n5 at *
 have Z5:=mh hz5
 clear hz5
 generalize hz6:G.we.length=n6 at *
 have Z6:=mh hz6
 clear hz6
 by_cases e1:n5<=4000
 case neg=>
  have d1:decide ((n5:Int)<=4000)=false:=by simp;omega
  have HF:Z (false=vWe G):=by unfold Z vWe;rw[Z5.o,Z6.o];simp[e1]
  go_enter func22,ntmps22
  go_wp2
  go_ret
  exact⟨Q3 HF.o,Qe _ _⟩
 have d1:decide ((n5:Int)<=4000)=true:=by simp;omega
 by_cases e2:n5=n6
 case neg=>
  have d2:((n6:Int)==(n5:Int))=false:=by simp;omega
  have HF:Z (false=vWe G):=by unfold Z vWe;rw[Z5.o,Z6.o];simp[Ne.symm e2]
  go_enter func22,ntmps22
  go_wp2
  go_ret
  exact⟨Q3 HF.o,Qe _ _⟩
 subst e2
 have d2:((n5:Int)==(n5:Int))=true:=by simp
 have HF:Z (vWe G=Ki G.we):=by unfold Z vWe;rw[Z5.o,Z6.o];simp[e1]
 go_enter func22,ntmps22
 go_wp2_with fail
 refine(Gy B _ G.we _ (by exact HH.o.h6.next (Qe _ _))).mono ?_
 rintro e w' ⟨rfl,rfl⟩
 go_wp2
 go_ret
 exact⟨Q3 (by rw[HF.o]<;>simp),Qe _ _⟩
theorem Fm (B:Nat)(v0 v1 v2 v3 v4 v5 v6:Value)(G:Gr)(w:World)(h0:HG B w v0 v1 v2 v3 v4 v5 v6 G) :
  Calls prog 24 #[.agg #[v0,v1,v2,v3,v4,v5,v6]] w λe w'=>e=.returned (.bool (Qo G.sr.length (sOk G)))/\Nx w w':=by
 have HH:=mh h0
 obtain⟨⟨a0,c0,rfl,hn0,hk0⟩,⟨a1,c1,rfl,hn1,hk1⟩,⟨a2,c2,rfl,hn2,hk2⟩,⟨a3,c3,rfl,hn3,hk3⟩,⟨a4,c4,rfl,hn4,hk4⟩,⟨a5,c5,rfl,hn5,hk5⟩,⟨a6,c6,rfl,hn6,hk6⟩⟩:=h0
 have HM0:=mh hn0
 have HM5:=mh hn5
 unfold maxLen at hn0 hn1 hn2 hn3 hn4 hn5 hn6
 generalize hz0:G.eo.length=n0 at *
 have Z0:=mh hz0
 clear hz0
 generalize hz1:G.so.length=n1 at *
 have Z1:=mh hz1
 clear hz1
 generalize hz2:G.fi.length=n2 at *
 have Z2:=mh hz2
 clear hz2
 generalize hz3:G.tt.length=n3 at *
 have Z3:=mh hz3
 clear hz3
 generalize hz4:G.co.length=n4 at *
 have Z4:=mh hz4
 clear hz4
 generalize hz5:G.sr.length=n5 at *
 have Z5:=mh hz5
 clear hz5
 generalize hz6:G.we.length=n6 at *
 have Z6:=mh hz6
 clear hz6
 go_enter func24,ntmps24
 go_wp2
 go_loopw [8] (λi wr=>∃k:Nat,k<=n5/\i=iV k/\Z (Jz (sOk G) k)/\Z (Nx (w.alloc (.cells #[sL a0 n0 c0,sL a1 n1 c1,sL a2 n2 c2,sL a3 n3 c3,sL a4 n4 c4,sL a5 n5 c5,sL a6 n6 c6] 25)) wr)) (λi _=>n5-(intOf i).toNat)
 case atStart=>exact⟨0,nZ,rfl,Qy _,Nx.refl _⟩
 obtain⟨k,hkn,rfl,HA,HN⟩:=hrel
 have BA:=(Blk.new w #[sL a0 n0 c0,sL a1 n1 c1,sL a2 n2 c2,sL a3 n3 c3,sL a4 n4 c4,sL a5 n5 c5,sL a6 n6 c6] 25 _ rfl).next HN.o
 have HW:=mh ((Qe _ _).trans HN.o)
 have k0:=BA.c 0 rfl
 have k5:=BA.c 5 rfl
 have HMX:Z (n0<=maxLen):=HM0
 by_cases hlt:k<n5
 ·obtain⟨b',off',rfl,_,hb',hc'⟩:=hk5 (by omega)
  have hlt':(k:Int)<n5:=by omega
  have y0:=Q2 HW.o hb' (hc' k hlt)
  have HSD:Z (sOk G k=(inZ (iat G.sr k) n0&&(iat G.eo (iat G.sr k).toNat==(k:Int)))):=by unfold Z sOk inZ;rw[<-Z0.o]
  clear BA hc' hk1 hk2 hk3 hk4 hk5 hk6
  by_cases g1:inZ (iat G.sr k) n0=true
  ·obtain⟨p0,p1⟩:=Qg1 g1
   obtain⟨b,off,rfl,_,hb,hc⟩:=hk0 (by omega)
   have x0:=Q2 HW.o hb (hc (iat G.sr k).toNat (by omega))
   clear hc hk0
   by_cases g2:iat G.eo (iat G.sr k).toNat=(k:Int)
   ·have f2:(iat G.eo (iat G.sr k).toNat !=(k:Int))=false:=by simp[g2]
    have HF:Z (sOk G k=true):=by unfold Z;rw[HSD.o,g1];simp[g2]
    clear g2
    go_wp2_with (go_at_call 28;refine(Je _ _ _ (by omega) (by omega)).mono ?_;rintro e w' ⟨rfl,rfl⟩)
    go_roundw
    case rel=>exact⟨k+1,by omega,by go_num,Qm HA.o HF.o,HN.o⟩
    case measure=>simp[intOf];omega
   ·have f2:(iat G.eo (iat G.sr k).toNat !=(k:Int))=true:=by simp[g2]
    have HF:Z (sOk G k=false):=by unfold Z;rw[HSD.o];simp[g2]
    clear g2
    go_wp2_with (go_at_call 28;refine(Je _ _ _ (by omega) (by omega)).mono ?_;rintro e w' ⟨rfl,rfl⟩)
    go_ret
    exact⟨Q3 (by exact(Qx hlt HF.o).symm),HW.o⟩
  ·have g1':inZ (iat G.sr k) n0=false:=by simpa using g1
   have HF:Z (sOk G k=false):=by unfold Z;rw[HSD.o];simp[g1']
   clear g1
   go_wp2_with (go_at_call 28;refine(Je _ _ _ (by omega) (by omega)).mono ?_;rintro e w' ⟨rfl,rfl⟩)
   go_ret
   exact⟨Q3 (by exact(Qx hlt HF.o).symm),HW.o⟩
 ·go_wp2
  go_ret
  exact⟨Q3 (by exact(Qt (by omega) HA.o).symm),HW.o⟩
theorem As (B:Nat)(v0 v1 v2 v3 v4 v5 v6:Value)(G:Gr)(w:World)(h0:HG B w v0 v1 v2 v3 v4 v5 v6 G) :
  Calls prog 26 #[.agg #[v0,v1,v2,v3,v4,v5,v6]] w λe w'=>e=.returned (.bool (vAr G))/\Nx w w':=by
 have HH:=mh h0
 obtain⟨⟨a0,c0,rfl,hn0,hk0⟩,⟨a1,c1,rfl,hn1,hk1⟩,⟨a2,c2,rfl,hn2,hk2⟩,⟨a3,c3,rfl,hn3,hk3⟩,⟨a4,c4,rfl,hn4,hk4⟩,⟨a5,c5,rfl,hn5,hk5⟩,⟨a6,c6,rfl,hn6,hk6⟩⟩:=h0
 have HM0:=mh hn0
 have HM5:=mh hn5
 unfold maxLen at hn0 hn1 hn2 hn3 hn4 hn5 hn6
 generalize hz0:G.eo.length=n0 at *
 have Z0:=mh hz0
 clear hz0
 generalize hz1:G.so.length=n1 at *
 have Z1:=mh hz1
 clear hz1
 generalize hz2:G.fi.length=n2 at *
 have Z2:=mh hz2
 clear hz2
 generalize hz3:G.tt.length=n3 at *
 have Z3:=mh hz3
 clear hz3
 generalize hz4:G.co.length=n4 at *
 have Z4:=mh hz4
 clear hz4
 generalize hz5:G.sr.length=n5 at *
 have Z5:=mh hz5
 clear hz5
 generalize hz6:G.we.length=n6 at *
 have Z6:=mh hz6
 clear hz6
 by_cases e1:n3<=40000
 case neg=>
  have d1:decide (40000<(n3:Int))=true:=by simp;omega
  have HF:Z (false=vAr G):=by unfold Z vAr;rw[Z3.o,Z4.o];simp[e1]
  go_enter func26,ntmps26
  go_wp2
  go_ret
  exact⟨Q3 HF.o,Qe _ _⟩
 have d1:decide (40000<(n3:Int))=false:=by simp;omega
 by_cases e2:n3=n4
 case neg=>
  have d2:((n4:Int) !=(n3:Int))=true:=by simp;omega
  have HF:Z (false=vAr G):=by unfold Z vAr;rw[Z3.o,Z4.o];simp[Ne.symm e2]
  go_enter func26,ntmps26
  go_wp2
  go_ret
  exact⟨Q3 HF.o,Qe _ _⟩
 subst e2
 have d2:((n3:Int) !=(n3:Int))=false:=by simp
 have HG1:Z (vAr G=Qo n3 (tOk G)):=by unfold Z vAr;rw[Z3.o,Z4.o];simp[e1]
 go_enter func26,ntmps26
 go_wp2
 clear d1 d2
 go_loopw [21] (λi wr=>∃k:Nat,k<=n3/\i=iV k/\Z (Jz (tOk G) k)/\Z (Nx (w.alloc (.cells #[sL a0 n0 c0,sL a1 n1 c1,sL a2 n2 c2,sL a3 n3 c3,sL a4 n3 c4,sL a5 n5 c5,sL a6 n6 c6] 25)) wr)) (λi _=>n3-(intOf i).toNat)
 case atStart=>exact⟨0,nZ,rfl,Qy _,Nx.refl _⟩
 obtain⟨k,hkn,rfl,HA,HN⟩:=hrel
 have BA:=(Blk.new w #[sL a0 n0 c0,sL a1 n1 c1,sL a2 n2 c2,sL a3 n3 c3,sL a4 n3 c4,sL a5 n5 c5,sL a6 n6 c6] 25 _ rfl).next HN.o
 have HW:=mh ((Qe _ _).trans HN.o)
 have k0:=BA.c 0 rfl
 have k3:=BA.c 3 rfl
 have k4:=BA.c 4 rfl
 by_cases hlt:k<n3
 ·obtain⟨b,off,rfl,_,hb,hc⟩:=hk3 (by omega)
  obtain⟨b',off',rfl,_,hb',hc'⟩:=hk4 (by omega)
  have hlt':(k:Int)<n3:=by omega
  have x0:=Q2 HW.o hb (hc k hlt)
  have y0:=Q2 HW.o hb' (hc' k hlt)
  have HTD:Z (tOk G k=(inZ (iat G.tt k) n0&&inZ (iat G.co k) 3145729)):=by
   unfold Z tOk inZ
   rw[<-Z0.o]
   by_cases q:iat G.co k<=3145728
   ·have q':iat G.co k<(3145729:Int):=by omega
    simp[q,q']
   ·have q':¬iat G.co k<(3145729:Int):=by omega
    simp[q,q']
  clear BA hc hc' hk0 hk1 hk2 hk3 hk4 hk5 hk6
  by_cases g1:inZ (iat G.tt k) n0=true
  ·by_cases g2:inZ (iat G.co k) 3145729=true
   ·have HF:Z (tOk G k=true):=by unfold Z;rw[HTD.o,g1,g2];rfl
    go_wp2_with fail
    refine(Je _ (n0:Int) _ (by omega) (by omega)).mono ?_
    rintro e w' ⟨rfl,rfl⟩
    go_wp2_with fail
    refine(Je _ 3145729 _ (by omega) (by omega)).mono ?_
    rintro e w' ⟨rfl,rfl⟩
    go_wp2
    go_roundw
    case rel=>exact⟨k+1,by omega,by go_num,Qm HA.o HF.o,HN.o⟩
    case measure=>simp[intOf];omega
   ·have g2':inZ (iat G.co k) 3145729=false:=by simpa using g2
    have HF:Z (tOk G k=false):=by unfold Z;rw[HTD.o,g2'];simp
    clear g2
    go_wp2_with fail
    refine(Je _ (n0:Int) _ (by omega) (by omega)).mono ?_
    rintro e w' ⟨rfl,rfl⟩
    go_wp2_with fail
    refine(Je _ 3145729 _ (by omega) (by omega)).mono ?_
    rintro e w' ⟨rfl,rfl⟩
    go_wp2
    go_ret
    exact⟨Q3 (by rw[HG1.o];exact(Qx hlt HF.o).symm),HW.o⟩
  ·have g1':inZ (iat G.tt k) n0=false:=by simpa using g1
   have HF:Z (tOk G k=false):=by unfold Z;rw[HTD.o,g1'];simp
   clear g1
   go_wp2_with fail
   refine(Je _ (n0:Int) _ (by omega) (by omega)).mono ?_
   rintro e w' ⟨rfl,rfl⟩
   go_wp2
   go_ret
   exact⟨Q3 (by rw[HG1.o];exact(Qx hlt HF.o).symm),HW.o⟩
 ·go_wp2
  go_ret
  exact⟨Q3 (by rw[HG1.o];exact(Qt (by omega) HA.o).symm),HW.o⟩
theorem Ed (B:Nat)(v0 v1 v2 v3 v4 v5 v6:Value)(G:Gr)(w:World)(h0:HG B w v0 v1 v2 v3 v4 v5 v6 G)(hs:Q2r G) :
  Calls prog 25 #[.agg #[v0,v1,v2,v3,v4,v5,v6]] w λe w'=>e=.returned (.bool (vFi G))/\Nx w w':=by
 have hsm:=hs.s0
 have HH:=mh h0
 obtain⟨⟨a0,c0,rfl,hn0,hk0⟩,⟨a1,c1,rfl,hn1,hk1⟩,⟨a2,c2,rfl,hn2,hk2⟩,⟨a3,c3,rfl,hn3,hk3⟩,⟨a4,c4,rfl,hn4,hk4⟩,⟨a5,c5,rfl,hn5,hk5⟩,⟨a6,c6,rfl,hn6,hk6⟩⟩:=h0
 have HM0:=mh hn0
 have HM5:=mh hn5
 unfold maxLen at hn0 hn1 hn2 hn3 hn4 hn5 hn6
 generalize hz0:G.eo.length=n0 at *
 have Z0:=mh hz0
 clear hz0
 generalize hz1:G.so.length=n1 at *
 have Z1:=mh hz1
 clear hz1
 generalize hz2:G.fi.length=n2 at *
 have Z2:=mh hz2
 clear hz2
 generalize hz3:G.tt.length=n3 at *
 have Z3:=mh hz3
 clear hz3
 generalize hz4:G.co.length=n4 at *
 have Z4:=mh hz4
 clear hz4
 generalize hz5:G.sr.length=n5 at *
 have Z5:=mh hz5
 clear hz5
 generalize hz6:G.we.length=n6 at *
 have Z6:=mh hz6
 clear hz6
 have hw0:IntKind.i64.wrap ((n0:Int)+1)=(n0:Int)+1:=by rw[IntKind.wrap_i64];omega
 by_cases e1:n2=n0+1
 case neg=>
  have d1:((n2:Int)==(n0:Int)+1)=false:=by simp;omega
  have HF:Z (false=vFi G):=by unfold Z vFi;rw[Z2.o,Z0.o];simp[e1]
  clear e1
  go_enter func25,ntmps25
  go_wp2
  go_quiet (fail)
  go_wp2
  go_ret
  exact⟨Q3 HF.o,(Qe _ _).trans ⟨rfl,rfl,rfl,lR,λ_ _=>rfl⟩⟩
 subst e1
 have d1:((n0:Int)+1==(n0:Int)+1)=true:=by simp
 obtain⟨b,off,rfl,_,hb,hc⟩:=hk2 (by omega)
 have HF2:Z (vFi G=((iat G.fi 0==0)&&(Qo n0 (leI G.fi)&&(iat G.fi n0==(n3:Int))))):=by unfold Z vFi;rw[Z2.o,Z0.o,Z3.o];simp
 have hl0:(0:Int)<(n0:Int)+1:=by omega
 have hl1:(n0:Int)<(n0:Int)+1:=by omega
 go_enter func25,ntmps25
 go_upto_region 2 with fail
 generalize hW0:(w.alloc (.cells #[sL a0 n0 c0,sL a1 n1 c1,sL (some (aD b off)) (n0+1) c2,sL a3 n3 c3,sL a4 n4 c4,sL a5 n5 c5,sL a6 n6 c6] 25))=W0 at *
 have HW0:Z (Nx w W0):=by rw[<-hW0];exact Qe _ _
 have BA:Blk W0 w.heap.size #[sL a0 n0 c0,sL a1 n1 c1,sL (some (aD b off)) (n0+1) c2,sL a3 n3 c3,sL a4 n4 c4,sL a5 n5 c5,sL a6 n6 c6]:=by rw[<-hW0];exact Blk.new w #[sL a0 n0 c0,sL a1 n1 c1,sL (some (aD b off)) (n0+1) c2,sL a3 n3 c3,sL a4 n4 c4,sL a5 n5 c5,sL a6 n6 c6] 25 _ rfl
 clear hW0
 have CG:Z (∀d os,Calls prog 39 #[sL (some (aD b off)) (n0+1) c2] (Sort.grow (redrawn W0 d) os) λe w''=>e=.returned (.bool (Qo n0 (leI G.fi)))/\∃p:Regrown,w''=Sort.grow (redrawn W0 p.d) p.os):=
  λd os=>Calls.regrown_of (Q24 B _ G.fi n0 _ ((HH.o.h2.next HW0.o).next (below_regrown W0 d os)) Z2.o)
 have x0':W0.cell? (aD b off)=some (iV (iat G.fi 0)):=Q2 HW0.o hb (hc 0 (by omega))
 have x1':=Q2 HW0.o hb (hc n0 (by omega))
 have x0:=cell_regrown x0'
 have x1:=cell_regrown x1'
 have K2:=cell_regrown (BA.c 2 rfl)
 have K3:=cell_regrown (BA.c 3 rfl)
 clear x0' x1' BA hc hk0 hk1 hk2 hk3 hk4 hk5 hk6
 cases g1:(iat G.fi 0==0)
 case false=>
  have HF:Z (false=vFi G):=by unfold Z;rw[HF2.o,g1];rfl
  go_wp2
  refine wp_region_quiet_below (by kernel_rfl) (by kernel_rfl) ?_
  repeat (go_big_quiet_step (exact CG.o _ _))
  refine wpQuiet_nil ?_
  intro _ hw'
  obtain⟨⟨dq,osq⟩,hw''⟩:=hw'
  subst hw''
  have HB:Z (Nx W0 (Sort.grow (redrawn W0 dq) osq)):=below_regrown W0 dq osq
  generalize hwq:Sort.grow (redrawn W0 dq) osq=wq at *
  clear hwq
  go_wp2
  go_ret
  exact⟨Q3 HF.o,HW0.o.trans HB.o⟩
 rw[g1] at HF2
 cases g2:Qo n0 (leI G.fi)
 case false=>
  rw[g2] at CG HF2
  have HF:Z (false=vFi G):=by unfold Z;rw[HF2.o];rfl
  clear g2
  go_wp2
  refine wp_region_quiet_below (by kernel_rfl) (by kernel_rfl) ?_
  repeat (go_big_quiet_step (exact CG.o _ _))
  refine wpQuiet_nil ?_
  intro _ hw'
  obtain⟨⟨dq,osq⟩,hw''⟩:=hw'
  subst hw''
  have HB:Z (Nx W0 (Sort.grow (redrawn W0 dq) osq)):=below_regrown W0 dq osq
  generalize hwq:Sort.grow (redrawn W0 dq) osq=wq at *
  clear hwq
  go_wp2
  go_ret
  exact⟨Q3 HF.o,HW0.o.trans HB.o⟩
 rw[g2] at CG HF2
 clear g2
 cases g3:(iat G.fi n0==(n3:Int))
 case false=>
  have HF:Z (false=vFi G):=by unfold Z;rw[HF2.o,g3];rfl
  go_wp2
  refine wp_region_quiet_below (by kernel_rfl) (by kernel_rfl) ?_
  repeat (go_big_quiet_step (exact CG.o _ _))
  refine wpQuiet_nil ?_
  intro _ hw'
  obtain⟨⟨dq,osq⟩,hw''⟩:=hw'
  subst hw''
  have HB:Z (Nx W0 (Sort.grow (redrawn W0 dq) osq)):=below_regrown W0 dq osq
  generalize hwq:Sort.grow (redrawn W0 dq) osq=wq at *
  clear hwq
  go_wp2
  go_ret
  exact⟨Q3 HF.o,HW0.o.trans HB.o⟩
 case true=>
  have HF:Z (true=vFi G):=by unfold Z;rw[HF2.o,g3];rfl
  go_wp2
  refine wp_region_quiet_below (by kernel_rfl) (by kernel_rfl) ?_
  repeat (go_big_quiet_step (exact CG.o _ _))
  refine wpQuiet_nil ?_
  intro _ hw'
  obtain⟨⟨dq,osq⟩,hw''⟩:=hw'
  subst hw''
  have HB:Z (Nx W0 (Sort.grow (redrawn W0 dq) osq)):=below_regrown W0 dq osq
  generalize hwq:Sort.grow (redrawn W0 dq) osq=wq at *
  clear hwq
  go_wp2
  go_ret
  exact⟨Q3 HF.o,HW0.o.trans HB.o⟩
end Go.Proofs.YtphiaobccollhaaGreat
