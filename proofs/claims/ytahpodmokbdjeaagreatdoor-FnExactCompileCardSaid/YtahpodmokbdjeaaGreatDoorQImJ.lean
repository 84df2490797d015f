import Derived.Test.YtahpodmokbdjeaaGreatDoorQImI
import Derived.Test.YtahpodmokbdjeaaGreatDoorQNets
namespace Go.Proofs.YtahpodmokbdjeaaGreatDoor
open Go.RowKit Tryz
set_option linter.unusedVariables false
set_option maxHeartbeats 16000000
theorem Jy.slice {B:Nat}{w:World}{v:Value}{zs:List Wy}(h:Jy B w v zs):∃a c,v=sL a zs.length c/\zs.length<=maxLen:=by
 obtain⟨a,c,h1,h2,_⟩:=h;exact⟨a,c,h1,h2⟩
theorem Ut.slice {B:Nat}{w:World}{v:Value}{zs:List Rl}(h:Ut B w v zs):∃a c,v=sL a zs.length c/\zs.length<=maxLen:=by
 obtain⟨a,c,h1,h2,_⟩:=h;exact⟨a,c,h1,h2⟩
def U8 (N:Nt):Bool:=decide (N.nodes.length<=2000)&&(decide (N.ways.length<=2000)&&(decide (edTo N.ways N.ways.length<=4000)&&(decide (N.rels.length<=1000)&&decide (N.turns.length<=2000))))
theorem Il (B:Nat)(v0 v1 v2 v3:Value)(u:Int)(N:Nt)(w:World)(h0:Ye B w v0 v1 v2 v3 N)(hs:wsum N.ways N.ways.length<=1048576) :
  Calls prog 71 #[.agg #[v0,v1,v2,v3,iV u]] w λe w'=>e=.returned (.bool (U8 N))/\Nx w w':=by
 obtain⟨i0,i1,i2,i3⟩:=h0
 obtain⟨a0,c0,rfl,hn0⟩:=i0.slice
 obtain⟨a1,c1,e1,hn1⟩:=i1.slice
 obtain⟨a2,c2,rfl,hn2⟩:=i2.slice
 obtain⟨a3,c3,rfl,hn3⟩:=i3.slice
 subst e1
 have ce:=λwq (h:Jy B wq (sL a1 N.ways.length c1) N.ways)=>P5 B (sL a0 N.nodes.length c0) (sL a1 N.ways.length c1) (sL a2 N.rels.length c2) (sL a3 N.turns.length c3) u N.ways wq h hs
 have CE:Z (∀wq,Jy B wq (sL a1 N.ways.length c1) N.ways->Calls prog 105 #[.agg #[sL a0 N.nodes.length c0,sL a1 N.ways.length c1,sL a2 N.rels.length c2,sL a3 N.turns.length c3,iV u]] wq λe w'=>e=.returned (iV (edTo N.ways N.ways.length:Nat))/\Nx wq w'):=ce
 have HC:Z (U8 N=(decide (N.nodes.length<=2000)&&(decide (N.ways.length<=2000)&&(decide (edTo N.ways N.ways.length<=4000)&&(decide (N.rels.length<=1000)&&decide (N.turns.length<=2000)))))):=rfl
 have I1:Z (∀wq,Nx w wq->Jy B wq (sL a1 N.ways.length c1) N.ways):=λwq h=>i1.keep (h.keeps B)
 clear ce hs i0 i1 i2 i3 hn0 hn1 hn2 hn3
 generalize edTo N.ways N.ways.length=ed at *
 generalize U8 N=cn at *
 generalize N.nodes.length=m0 at *
 generalize hw1:N.ways.length=m1 at *
 generalize N.rels.length=m2 at *
 generalize N.turns.length=m3 at *
 clear hw1
 by_cases h1:m0<=2000
 case neg=>
  have d1:decide ((m0:Int)<=2000)=false:=by simp;omega
  have HF:Z (false=cn):=by unfold Z;rw[HC.o];simp[h1]
  clear HC
  go_enter func71,ntmps71
  go_wp2
  go_ret
  exact⟨Q6 HF.o,Q4 _ _⟩
 have d1:decide ((m0:Int)<=2000)=true:=by simp;omega
 by_cases h2:m1<=2000
 case neg=>
  have d2:decide ((m1:Int)<=2000)=false:=by simp;omega
  have HF:Z (false=cn):=by unfold Z;rw[HC.o];simp[h2]
  clear HC
  go_enter func71,ntmps71
  go_wp2
  go_ret
  exact⟨Q6 HF.o,Q4 _ _⟩
 have d2:decide ((m1:Int)<=2000)=true:=by simp;omega
 by_cases h3:ed<=4000
 case neg=>
  have d3:decide ((ed:Int)<=4000)=false:=by simp;omega
  have HF:Z (false=cn):=by unfold Z;rw[HC.o];simp[h3]
  clear HC
  go_enter func71,ntmps71
  go_wp2_with (go_at_call 105;refine(CE.o _ (by exact I1.o _ (Q4 _ _))).mono ?_;rintro e w1 ⟨rfl,hx⟩)
  go_ret
  exact⟨Q6 HF.o,(Q4 _ _).trans hx⟩
 have d3:decide ((ed:Int)<=4000)=true:=by simp;omega
 have HF:Z ((decide ((m2:Int)<=1000)&&decide ((m3:Int)<=2000))=cn):=by
  unfold Z;rw[HC.o]
  rw[show decide ((m2:Int)<=1000)=decide (m2<=1000) from by simp;omega,show decide ((m3:Int)<=2000)=decide (m3<=2000) from by simp;omega]
  simp[h1,h2,h3]
 clear HC
 by_cases h4:m2<=1000
 ·have d4:decide ((m2:Int)<=1000)=true:=by simp;omega
  go_enter func71,ntmps71
  go_wp2_with fail
  refine(CE.o _ (by exact I1.o _ (Q4 _ _))).mono ?_
  rintro e w1 ⟨rfl,hx⟩
  have BA:=(Blk.new w _ 38 _ rfl).next hx
  have k0:=BA.c 2 rfl
  have k1:=BA.c 3 rfl
  have HX:Z (Nx w w1):=(Q4 _ _).trans hx
  clear hx BA
  go_wp2
  go_ret
  exact⟨Q6 (by have:=HF.o;rw[d4] at this;simpa using this),HX.o⟩
 ·have d4:decide ((m2:Int)<=1000)=false:=by simp;omega
  go_enter func71,ntmps71
  go_wp2_with fail
  refine(CE.o _ (by exact I1.o _ (Q4 _ _))).mono ?_
  rintro e w1 ⟨rfl,hx⟩
  have BA:=(Blk.new w _ 38 _ rfl).next hx
  have k0:=BA.c 2 rfl
  have k1:=BA.c 3 rfl
  have HX:Z (Nx w w1):=(Q4 _ _).trans hx
  clear hx BA
  go_wp2
  go_ret
  exact⟨Q6 (by have:=HF.o;rw[d4] at this;simpa using this),HX.o⟩
theorem E5 (B:Nat)(v0 v1 v2 v3:Value)(u:Int)(zs:List Int)(w:World)(h0:Q8 B w v0 zs) :
  Calls prog 73 #[.agg #[v0,v1,v2,v3,iV u]] w λe w'=>e=.returned (.bool (Z4 zs&&Wo zs))/\Nx w w':=by
 cases ha:Z4 zs
 ·have HA:Z (Z4 zs=false):=ha
  clear ha
  go_enter func73,ntmps73
  go_wp2_with fail
  refine(Q5p B _ zs _ (h0.next (Q4 _ _))).mono ?_
  rw[HA.o]
  rintro e w1 ⟨rfl,hx⟩
  have HX:Z (Nx w w1):=(Q4 _ _).trans hx
  clear hx
  go_wp2
  go_ret
  exact⟨rfl,HX.o⟩
 ·have HA:Z (Z4 zs=true):=ha
  clear ha
  go_enter func73,ntmps73
  go_wp2_with fail
  refine(Q5p B _ zs _ (h0.next (Q4 _ _))).mono ?_
  rw[HA.o]
  rintro e w1 ⟨rfl,hx⟩
  have BA:=(Blk.new w _ 38 _ rfl).next hx
  have k0:=BA.c 0 rfl
  have HX:Z (Nx w w1):=(Q4 _ _).trans hx
  clear hx BA
  go_wp2_with (go_at_call 108;refine(Wl B _ zs _ (by exact h0.next HX.o)).mono ?_;rintro e w2 ⟨rfl,rfl⟩)
  go_ret
  exact⟨Q6 (by simp),HX.o⟩
theorem Ki (B:Nat)(v0 v1 v2 v3:Value)(u:Int)(nodes:List Int)(x:Wy)(vn vw:Value)(w:World)(h0:Q8 B w v0 nodes)(hN:Q8 B w vn x.nodes)(hW:Q8 B w vw x.weights)(hasc:Z4 nodes=true) :
  Calls prog 110 #[.agg #[v0,v1,v2,v3,iV u],.agg #[iV x.id,.bool x.both,vn,vw]] w λe w'=>e=.returned (.bool (Qu nodes x))/\Nx w w':=by
 have HASC:Z (Z4 nodes=true):=hasc
 clear hasc
 have hW0:=hW
 obtain⟨a1,cap1,rfl,hn1,hk1⟩:=hN
 obtain⟨a2,cap2,rfl,hn2,hk2⟩:=hW
 clear hk2
 unfold maxLen at hn1 hn2
 generalize hz1:x.nodes.length=n1 at *
 generalize hz2:x.weights.length=n2 at *
 have HZ1:Z (x.nodes.length=n1):=hz1
 have HZ2:Z (x.weights.length=n2):=hz2
 clear hz1 hz2
 have two:Nx w ((w.alloc (.cells #[v0,v1,v2,v3,iV u] 38)).alloc (.cells #[iV x.id,.bool x.both,sL a1 n1 cap1,sL a2 n2 cap2] 108)):=Zk _ _ _
 by_cases e1:inB x.id=true
 case neg=>
  have e1':inB x.id=false:=by simpa using e1
  have HG:Z (false=Qu nodes x):=by unfold Z;simp[Qu,Vp,e1']
  clear e1
  go_enter func110,ntmps110
  go_wp2_with (go_at_call 72;refine(V1 _ _).mono ?_;rintro e w' ⟨rfl,rfl⟩)
  go_ret
  exact⟨Q6 HG.o,two⟩
 by_cases e2:1<=n2
 case neg=>
  have HG:Z (false=Qu nodes x):=by unfold Z;simp[Qu,Vp,HZ2.o];omega
  go_enter func110,ntmps110
  go_wp2_with (go_at_call 72;refine(V1 _ _).mono ?_;rintro e w' ⟨rfl,rfl⟩)
  go_ret
  exact⟨Q6 HG.o,two⟩
 have d2:decide ((n2:Int)<1)=false:=by simp;omega
 by_cases e3:n2<=100
 case neg=>
  have HG:Z (false=Qu nodes x):=by unfold Z;simp[Qu,Vp,HZ2.o];omega
  go_enter func110,ntmps110
  go_wp2_with (go_at_call 72;refine(V1 _ _).mono ?_;rintro e w' ⟨rfl,rfl⟩)
  go_ret
  exact⟨Q6 HG.o,two⟩
 have d3:decide (100<(n2:Int))=false:=by simp;omega
 by_cases e4:n1=n2+1
 case neg=>
  have HG:Z (false=Qu nodes x):=by unfold Z;simp[Qu,Vp,HZ2.o,HZ1.o];omega
  have d4:((n1:Int) !=(n2:Int)+1)=true:=by rw[bne_iff_ne];omega
  go_enter func110,ntmps110
  go_wp2_with (go_at_call 72;refine(V1 _ _).mono ?_;rintro e w' ⟨rfl,rfl⟩)
  go_ret
  exact⟨Q6 HG.o,two⟩
 have d4:((n1:Int) !=(n2:Int)+1)=false:=by simp;omega
 have e4a:n1<=n2+1:=by omega
 have e4b:n2+1<=n1:=by omega
 clear e4
 have HH:Z (Vp x=true):=by unfold Z;simp[Vp,HZ1.o,HZ2.o,e1];omega
 have HTWO:Z (Nx w ((w.alloc (.cells #[v0,v1,v2,v3,iV u] 38)).alloc (.cells #[iV x.id,.bool x.both,sL a1 n1 cap1,sL a2 n2 cap2] 108))):=two
 clear two
 go_enter func110,ntmps110
 go_wp2_with (go_at_call 72;refine(V1 _ _).mono ?_;rintro e w' ⟨rfl,rfl⟩)
 go_loopw [34] (λi wr=>∃k:Nat,k<=n1/\i=iV k/\Z (Vn (λi=>Vs nodes (iat x.nodes i)) k)/\Z (Nx ((w.alloc (.cells #[v0,v1,v2,v3,iV u] 38)).alloc (.cells #[iV x.id,.bool x.both,sL a1 n1 cap1,sL a2 n2 cap2] 108)) wr)) (λi _=>n1-(intOf i).toNat)
 case atStart=>exact⟨0,nZ,rfl,J4 _,Nx.refl _⟩
 case round=>
  obtain⟨k,hkn,rfl,hrel,HN⟩:=hrel
  have BA:=((Blk.new w #[v0,v1,v2,v3,iV u] 38 _ rfl).alloc (.cells #[iV x.id,.bool x.both,sL a1 n1 cap1,sL a2 n2 cap2] 108)).next HN.o
  have BB:=(Blk.new (w.alloc (.cells #[v0,v1,v2,v3,iV u] 38)) #[iV x.id,.bool x.both,sL a1 n1 cap1,sL a2 n2 cap2] 108 (w.heap.size+1) (by simp)).next HN.o
  have k0:=BA.c 0 rfl
  have k1:=BA.c 1 rfl
  have k2:=BA.c 2 rfl
  have k3:=BA.c 3 rfl
  have k4:=BA.c 4 rfl
  have l2:=BB.c 2 rfl
  have l3:=BB.c 3 rfl
  have HW:Z (Nx w wr):=HTWO.o.trans HN.o
  clear BA BB
  by_cases hlt:k<n1
  ·obtain⟨b,off,rfl,hB,hb,hc⟩:=hk1 (by omega)
   have hcc:=Q0 HW.o hb (hc k hlt)
   have hlt':(k:Int)<n1:=by omega
   clear hc hk1
   by_cases hin:Vs nodes (iat x.nodes k)=true
   ·go_wp2_with (go_at_call 147;refine(P2 B _ _ _ _ _ _ nodes _ (by exact h0.next HW.o) HASC.o).mono ?_;rintro e w' ⟨rfl,hx⟩)
    go_roundw
    case rel=>exact⟨k+1,by omega,by go_num,Qr hrel hin,HN.o.trans hx⟩
    case measure=>simp[intOf];omega
   ·have hin':Vs nodes (iat x.nodes k)=false:=by simpa using hin
    go_wp2_with (go_at_call 147;refine(P2 B _ _ _ _ _ _ nodes _ (by exact h0.next HW.o) HASC.o).mono ?_;rintro e w' ⟨rfl,hx⟩)
    go_ret
    exact⟨Q6 (by unfold Qu;rw[J2 (n:=x.nodes.length) (by rw[HZ1.o];exact hlt) hin'];simp),HW.o.trans hx⟩
  ·have HA:Z (Je x.nodes.length (λi=>Vs nodes (iat x.nodes i))=true):=Qz (by rw[HZ1.o];omega) hrel
   go_wp2_with (go_at_call 108;refine(Wl B _ x.weights _ (by exact hW0.next HW.o)).mono ?_;rintro e w2 ⟨rfl,rfl⟩)
   go_ret
   exact⟨Q6 (by unfold Qu;rw[HH.o,HA.o];simp[Wo]),HW.o⟩
def Ui (N:Nt):Bool:=Je N.ways.length (λi=>Qu N.nodes (wat N.ways i))
theorem Aw (B:Nat)(v0 v1 v2 v3:Value)(u:Int)(N:Nt)(w:World)(h0:Q8 B w v0 N.nodes)(h1:Jy B w v1 N.ways)(hasc:Z4 N.nodes=true) :
  Calls prog 74 #[.agg #[v0,v1,v2,v3,iV u]] w λe w'=>e=.returned (.bool (Ui N&&Ur N.ways))/\Nx w w':=by
 have HASC:Z (Z4 N.nodes=true):=hasc
 clear hasc
 have H1:=h1
 obtain⟨a,cap,rfl,hn,hk⟩:=h1
 unfold maxLen at hn
 generalize hz:N.ways.length=n at *
 have HZ:Z (N.ways.length=n):=hz
 clear hz
 go_enter func74,ntmps74
 go_wp2
 go_loopw [4,8] (λp i wr=>∃k:Nat,k<=n/\i=iV k/\Z (Vn (λi=>Qu N.nodes (wat N.ways i)) k)/\Z (Nx (w.alloc (.cells #[v0,sL a n cap,v2,v3,iV u] 38)) wr)) (λ_ i _=>n-(intOf i).toNat)
 case atStart=>exact⟨0,nZ,rfl,J4 _,Nx.refl _⟩
 case round=>
  obtain⟨k,hkn,rfl,hrel,HN⟩:=hrel
  have BA:=(Blk.new w #[v0,sL a n cap,v2,v3,iV u] 38 _ rfl).next HN.o
  have k0:=BA.c 0 rfl
  have k1:=BA.c 1 rfl
  have k2:=BA.c 2 rfl
  have k3:=BA.c 3 rfl
  have k4:=BA.c 4 rfl
  have hsz:=BA.lt
  have HW:Z (Nx w wr):=(Q4 _ _).trans HN.o
  clear BA
  by_cases hlt:k<n
  ·obtain⟨b,off,rfl,hB,hb,hc⟩:=hk (by omega)
   obtain⟨p1,p2,a0,a1,a2,a3,n1,n2⟩:=hc k hlt
   have m1:=n1.next HW.o
   have m2:=n2.next HW.o
   obtain⟨an,cn,rfl,_⟩:=n1.slice
   obtain⟨aw,cw,rfl,_⟩:=n2.slice
   have a0:=Q0 HW.o hb a0
   have a1:=Q0 HW.o hb a1
   have a2:=Q0 HW.o hb a2
   have a3:=Q0 HW.o hb a3
   have hlt':(k:Int)<n:=by omega
   have hbr:b<wr.heap.size:=zK hb HW.o.size
   clear hc hk n1 n2
   by_cases hin:Qu N.nodes (wat N.ways k)=true
   ·go_wp2_with (go_at_call 110;refine(Ki B _ _ _ _ _ N.nodes (wat N.ways k) _ _ _ (by exact(h0.next HW.o).next (Q4 _ _)) (by exact m1.next (Q4 _ _)) (by exact m2.next (Q4 _ _)) HASC.o).mono ?_;rintro e w' ⟨rfl,hx⟩)
    go_roundw
    case rel=>exact⟨k+1,by omega,by go_num,Qr hrel hin,HN.o.trans ((Q4 _ _).trans hx)⟩
    case measure=>simp[intOf];omega
   ·have hin':Qu N.nodes (wat N.ways k)=false:=by simpa using hin
    go_wp2_with (go_at_call 110;refine(Ki B _ _ _ _ _ N.nodes (wat N.ways k) _ _ _ (by exact(h0.next HW.o).next (Q4 _ _)) (by exact m1.next (Q4 _ _)) (by exact m2.next (Q4 _ _)) HASC.o).mono ?_;rintro e w' ⟨rfl,hx⟩)
    go_ret
    exact⟨Q6 (by unfold Ui;rw[J2 (by rw[HZ.o];exact hlt) hin'];rfl),HW.o.trans ((Q4 _ _).trans hx)⟩
  ·have HA:Z (Ui N=true):=Qz (by rw[HZ.o];omega) hrel
   have hge:(n:Int)<=k:=by omega
   go_wp2_with (go_at_call 111;refine(Qdm B _ N.ways _ (by exact H1.keep (HW.o.keeps B))).mono ?_;rintro e w2 ⟨rfl,hx⟩)
   go_ret
   exact⟨Q6 (by rw[HA.o];rfl),HW.o.trans hx⟩
def J3 (N:Nt)(r:Rl):Bool:=
 if r.via then decide (r.ways.length=0)&&Vs N.nodes r.node
 else (r.node==0)&&(decide (1<=r.ways.length)&&(decide (r.ways.length<=4)&&Je r.ways.length (λi=>Ju N.ways (iat r.ways i))))
def J8 (N:Nt)(r:Rl):Bool:=inB r.id&&(Ju N.ways r.frm&&(Ju N.ways r.to&&J3 N r))
theorem Kj (B:Nat)(v0 v1 v2 v3:Value)(u:Int)(N:Nt)(x:Rl)(vw:Value)(w:World)(h0:Q8 B w v0 N.nodes)(h1:Jy B w v1 N.ways)(hW:Q8 B w vw x.ways)(hasc:Z4 N.nodes=true)(hascw:Ur N.ways=true) :
  Calls prog 113 #[.agg #[v0,v1,v2,v3,iV u],.agg #[iV x.id,.bool x.only,iV x.frm,iV x.to,.bool x.via,iV x.node,vw]] w λe w'=>e=.returned (.bool (J8 N x))/\Nx w w':=by
 have HASC:Z (Z4 N.nodes=true):=hasc
 have HASW:Z (Ur N.ways=true):=hascw
 clear hasc hascw
 obtain⟨a2,cap2,rfl,hn2,hk2⟩:=hW
 unfold maxLen at hn2
 generalize hz2:x.ways.length=n2 at *
 have HZ2:Z (x.ways.length=n2):=hz2
 clear hz2
 have HTWO:Z (Nx w ((w.alloc (.cells #[v0,v1,v2,v3,iV u] 38)).alloc (.cells #[iV x.id,.bool x.only,iV x.frm,iV x.to,.bool x.via,iV x.node,sL a2 n2 cap2] 111))):=Zk _ _ _
 have BA:=((Blk.new w #[v0,v1,v2,v3,iV u] 38 _ rfl).alloc (.cells #[iV x.id,.bool x.only,iV x.frm,iV x.to,.bool x.via,iV x.node,sL a2 n2 cap2] 111))
 have BB:=(Blk.new (w.alloc (.cells #[v0,v1,v2,v3,iV u] 38)) #[iV x.id,.bool x.only,iV x.frm,iV x.to,.bool x.via,iV x.node,sL a2 n2 cap2] 111 (w.heap.size+1) (by simp))
 by_cases e1:inB x.id=true
 case neg=>
  have e1':inB x.id=false:=by simpa using e1
  have HG:Z (false=J8 N x):=by unfold Z;simp[J8,e1']
  clear e1
  go_enter func113,ntmps113
  go_wp2_with (go_at_call 72;refine(V1 _ _).mono ?_;rintro e w' ⟨rfl,rfl⟩)
  go_ret
  exact⟨Q6 HG.o,HTWO.o⟩
 by_cases e2:Ju N.ways x.frm=true
 case neg=>
  have e2':Ju N.ways x.frm=false:=by simpa using e2
  have HG:Z (false=J8 N x):=by unfold Z;simp[J8,e2']
  clear e2
  go_enter func113,ntmps113
  go_wp2_with (first|(go_at_call 72;refine(V1 _ _).mono ?_;rintro e w' ⟨rfl,rfl⟩)|(go_at_call 116;refine(Z2 B _ _ _ _ _ _ N.ways _ (by exact h1.keep (HTWO.o.keeps B)) HASW.o).mono ?_;rintro e w' ⟨rfl,hx⟩))
  go_ret
  exact⟨Q6 HG.o,HTWO.o.trans hx⟩
 go_enter func113,ntmps113
 go_wp2_with fail
 refine(V1 _ _).mono ?_
 rintro e w' ⟨rfl,rfl⟩
 go_wp2_with fail
 refine(Z2 B _ _ _ _ _ _ N.ways _ (by exact h1.keep (HTWO.o.keeps B)) HASW.o).mono ?_
 rintro e w1 ⟨rfl,hx⟩
 have BA1:=BA.next hx
 have BB1:=BB.next hx
 have HX1:Z (Nx w w1):=HTWO.o.trans hx
 clear hx BA BB HTWO
 have k0:=BA1.c 0 rfl
 have k1:=BA1.c 1 rfl
 have k2:=BA1.c 2 rfl
 have k3:=BA1.c 3 rfl
 have k4:=BA1.c 4 rfl
 have l3:=BB1.c 3 rfl
 go_wp2_with fail
 refine(Z2 B _ _ _ _ _ _ N.ways _ (by exact h1.keep (HX1.o.keeps B)) HASW.o).mono ?_
 rintro e w2 ⟨rfl,hx⟩
 have BA2:=BA1.next hx
 have BB2:=BB1.next hx
 have HX2:Z (Nx w w2):=HX1.o.trans hx
 clear hx BA1 BB1 HX1 k0 k1 k2 k3 k4 l3
 by_cases e3:Ju N.ways x.to=true
 case neg=>
  have e3':Ju N.ways x.to=false:=by simpa using e3
  have HG:Z (false=J8 N x):=by unfold Z;simp[J8,e3']
  clear e3
  go_wp2
  go_ret
  exact⟨Q6 HG.o,HX2.o⟩
 have HGT:Z (J8 N x=J3 N x):=by unfold Z;simp[J8,e1,e2,e3]
 have k0:=BA2.c 0 rfl
 have k1:=BA2.c 1 rfl
 have k2:=BA2.c 2 rfl
 have k3:=BA2.c 3 rfl
 have k4:=BA2.c 4 rfl
 have l4:=BB2.c 4 rfl
 have l5:=BB2.c 5 rfl
 have l6:=BB2.c 6 rfl
 cases hv:x.via
 case true=>
  rw[hv] at l4
  have hvv:Z (x.via=true):=hv
  clear hv
  go_wp2_with fail
  refine(P2 B _ _ _ _ _ _ N.nodes _ (by exact h0.next HX2.o) HASC.o).mono ?_
  rintro e w3 ⟨rfl,hx⟩
  have BB3:=BB2.next hx
  have HX3:Z (Nx w w3):=HX2.o.trans hx
  clear hx k0 k1 k2 k3 k4 l4 l5 l6 BA2 BB2 HX2
  have l6:=BB3.c 6 rfl
  by_cases e5:Vs N.nodes x.node=true
  ·by_cases e6:n2=0
   ·have d6:((n2:Int)==0)=true:=by simpa using e6
    have HF:Z (J3 N x=true):=by unfold Z;simp[J3,hvv.o,HZ2.o,e5,e6]
    clear e6
    go_wp2
    go_ret
    exact⟨Q6 (by rw[HGT.o,HF.o]),HX3.o⟩
   ·have d6:((n2:Int)==0)=false:=by simp;omega
    have HF:Z (J3 N x=false):=by unfold Z;simp[J3,hvv.o,HZ2.o,e6]
    clear e6
    go_wp2
    go_ret
    exact⟨Q6 (by rw[HGT.o,HF.o]),HX3.o⟩
  ·have e5':Vs N.nodes x.node=false:=by simpa using e5
   have HF:Z (J3 N x=false):=by unfold Z;simp[J3,hvv.o,e5']
   clear e5
   go_wp2
   go_ret
   exact⟨Q6 (by rw[HGT.o,HF.o]),HX3.o⟩
 case false=>
  rw[hv] at l4
  have hvv:Z (x.via=false):=hv
  clear hv
  by_cases e5:x.node=0
  case neg=>
   have d5:(x.node !=0)=true:=by simpa using e5
   have HF:Z (J3 N x=false):=by unfold Z;simp[J3,hvv.o,e5]
   clear e5
   go_wp2
   go_ret
   exact⟨Q6 (by rw[HGT.o,HF.o]),HX2.o⟩
  have d5:(x.node !=0)=false:=by simpa using e5
  have H5:Z (x.node=0):=e5
  clear e5
  by_cases e6:1<=n2
  case neg=>
   have d6:decide ((n2:Int)<1)=true:=by simp;omega
   have HF:Z (J3 N x=false):=by unfold Z;simp[J3,hvv.o,HZ2.o];intros;omega
   go_wp2
   go_ret
   exact⟨Q6 (by rw[HGT.o,HF.o]),HX2.o⟩
  have d6:decide ((n2:Int)<1)=false:=by simp;omega
  by_cases e7:n2<=4
  case neg=>
   have d7:decide (4<(n2:Int))=true:=by simp;omega
   have HF:Z (J3 N x=false):=by unfold Z;simp[J3,hvv.o,HZ2.o];intros;omega
   go_wp2
   go_ret
   exact⟨Q6 (by rw[HGT.o,HF.o]),HX2.o⟩
  have d7:decide (4<(n2:Int))=false:=by simp;omega
  have HT:Z (J3 N x=Je x.ways.length (λi=>Ju N.ways (iat x.ways i))):=by unfold Z;simp[J3,hvv.o,HZ2.o,H5.o,e6,e7]
  go_wp2
  go_loopw [55] (λi wr=>∃k:Nat,k<=n2/\i=iV k/\Z (Vn (λi=>Ju N.ways (iat x.ways i)) k)/\Z (Nx w2 wr)) (λi _=>n2-(intOf i).toNat)
  case atStart=>exact⟨0,nZ,rfl,J4 _,Nx.refl _⟩
  case round=>
   obtain⟨k,hkn,rfl,hrel,HN⟩:=hrel
   have BA3:=BA2.next HN.o
   have k0:=BA3.c 0 rfl
   have k1:=BA3.c 1 rfl
   have k2:=BA3.c 2 rfl
   have k3:=BA3.c 3 rfl
   have k4:=BA3.c 4 rfl
   have HW:Z (Nx w wr):=HX2.o.trans HN.o
   clear BA3
   by_cases hlt:k<n2
   ·obtain⟨b,off,rfl,hB,hb,hc⟩:=hk2 (by omega)
    have hcc:=Q0 HW.o hb (hc k hlt)
    have hlt':(k:Int)<n2:=by omega
    clear hc hk2
    by_cases hin:Ju N.ways (iat x.ways k)=true
    ·go_wp2_with (go_at_call 116;refine(Z2 B _ _ _ _ _ _ N.ways _ (by exact h1.keep (HW.o.keeps B)) HASW.o).mono ?_;rintro e w' ⟨rfl,hx⟩)
     go_roundw
     case rel=>exact⟨k+1,by omega,by go_num,Qr hrel hin,HN.o.trans hx⟩
     case measure=>simp[intOf];omega
    ·have hin':Ju N.ways (iat x.ways k)=false:=by simpa using hin
     go_wp2_with (go_at_call 116;refine(Z2 B _ _ _ _ _ _ N.ways _ (by exact h1.keep (HW.o.keeps B)) HASW.o).mono ?_;rintro e w' ⟨rfl,hx⟩)
     go_ret
     exact⟨Q6 (by rw[HGT.o,HT.o,J2 (by rw[HZ2.o];exact hlt) hin']),HW.o.trans hx⟩
   ·go_wp2
    go_ret
    exact⟨Q6 (by rw[HGT.o,HT.o,Qz (by rw[HZ2.o];omega) hrel]),HW.o⟩
def U5 (N:Nt):Bool:=Je N.rels.length (λi=>J8 N (rat N.rels i))
theorem Ay (B:Nat)(v0 v1 v2 v3:Value)(u:Int)(N:Nt)(w:World)(h0:Q8 B w v0 N.nodes)(h1:Jy B w v1 N.ways)(h2:Ut B w v2 N.rels)(hasc:Z4 N.nodes=true)(hascw:Ur N.ways=true) :
  Calls prog 75 #[.agg #[v0,v1,v2,v3,iV u]] w λe w'=>e=.returned (.bool (U5 N&&Gp N.rels))/\Nx w w':=by
 have HASC:Z (Z4 N.nodes=true):=hasc
 have HASW:Z (Ur N.ways=true):=hascw
 clear hasc hascw
 have H2:=h2
 obtain⟨a,cap,rfl,hn,hk⟩:=h2
 unfold maxLen at hn
 generalize hz:N.rels.length=n at *
 have HZ:Z (N.rels.length=n):=hz
 clear hz
 go_enter func75,ntmps75
 go_wp2
 go_loopw [4,8] (λp i wr=>∃k:Nat,k<=n/\i=iV k/\Z (Vn (λi=>J8 N (rat N.rels i)) k)/\Z (Nx (w.alloc (.cells #[v0,v1,sL a n cap,v3,iV u] 38)) wr)) (λ_ i _=>n-(intOf i).toNat)
 case atStart=>exact⟨0,nZ,rfl,J4 _,Nx.refl _⟩
 case round=>
  obtain⟨k,hkn,rfl,hrel,HN⟩:=hrel
  have BA:=(Blk.new w #[v0,v1,sL a n cap,v3,iV u] 38 _ rfl).next HN.o
  have k0:=BA.c 0 rfl
  have k1:=BA.c 1 rfl
  have k2:=BA.c 2 rfl
  have k3:=BA.c 3 rfl
  have k4:=BA.c 4 rfl
  have hsz:=BA.lt
  have HW:Z (Nx w wr):=(Q4 _ _).trans HN.o
  clear BA
  by_cases hlt:k<n
  ·obtain⟨b,off,rfl,hB,hb,hc⟩:=hk (by omega)
   obtain⟨p1,a0,a1,a2,a3,a4,a5,a6,n1⟩:=hc k hlt
   have m1:=n1.next HW.o
   obtain⟨an,cn,rfl,_⟩:=n1.slice
   have a0:=Q0 HW.o hb a0
   have a1:=Q0 HW.o hb a1
   have a2:=Q0 HW.o hb a2
   have a3:=Q0 HW.o hb a3
   have a4:=Q0 HW.o hb a4
   have a5:=Q0 HW.o hb a5
   have a6:=Q0 HW.o hb a6
   have hlt':(k:Int)<n:=by omega
   have hbr:b<wr.heap.size:=zK hb HW.o.size
   clear hc hk n1
   by_cases hin:J8 N (rat N.rels k)=true
   ·go_wp2_with (go_at_call 113;refine(Kj B _ _ _ _ _ N (rat N.rels k) _ _ (by exact(h0.next HW.o).next (Q4 _ _)) (by exact(h1.keep (HW.o.keeps B)).keep ((Q4 _ _).keeps B)) (by exact m1.next (Q4 _ _)) HASC.o HASW.o).mono ?_;rintro e w' ⟨rfl,hx⟩)
    go_roundw
    case rel=>exact⟨k+1,by omega,by go_num,Qr hrel hin,HN.o.trans ((Q4 _ _).trans hx)⟩
    case measure=>simp[intOf];omega
   ·have hin':J8 N (rat N.rels k)=false:=by simpa using hin
    go_wp2_with (go_at_call 113;refine(Kj B _ _ _ _ _ N (rat N.rels k) _ _ (by exact(h0.next HW.o).next (Q4 _ _)) (by exact(h1.keep (HW.o.keeps B)).keep ((Q4 _ _).keeps B)) (by exact m1.next (Q4 _ _)) HASC.o HASW.o).mono ?_;rintro e w' ⟨rfl,hx⟩)
    go_ret
    exact⟨Q6 (by unfold U5;rw[J2 (by rw[HZ.o];exact hlt) hin'];rfl),HW.o.trans ((Q4 _ _).trans hx)⟩
  ·have HA:Z (U5 N=true):=Qz (by rw[HZ.o];omega) hrel
   have hge:(n:Int)<=k:=by omega
   go_wp2_with (go_at_call 114;refine(Qdo B _ N.rels _ (by exact H2.keep (HW.o.keeps B))).mono ?_;rintro e w2 ⟨rfl,hx⟩)
   go_ret
   exact⟨Q6 (by rw[HA.o];rfl),HW.o.trans hx⟩
def Y3 (N:Nt)(t:Tn):Bool:=Ju N.ways t.frm&&(Ju N.ways t.to&&inB t.cost)
def Xa (N:Nt):Bool:=Je N.turns.length (λi=>Y3 N (tat N.turns i))
theorem E3 (B:Nat)(v0 v1 v2 v3:Value)(u:Int)(N:Nt)(w:World)(h1:Jy B w v1 N.ways)(h3:V5 B w v3 N.turns)(hascw:Ur N.ways=true) :
  Calls prog 76 #[.agg #[v0,v1,v2,v3,iV u]] w λe w'=>e=.returned (.bool (Xa N&&Uw N.turns))/\Nx w w':=by
 have HASW:Z (Ur N.ways=true):=hascw
 clear hascw
 have H3:=h3
 obtain⟨a,cap,rfl,hn,hk⟩:=h3
 unfold maxLen at hn
 generalize hz:N.turns.length=n at *
 have HZ:Z (N.turns.length=n):=hz
 clear hz
 go_enter func76,ntmps76
 go_wp2
 go_loopw [4,8] (λp i wr=>∃k:Nat,k<=n/\i=iV k/\Z (Vn (λi=>Y3 N (tat N.turns i)) k)/\Z (Nx (w.alloc (.cells #[v0,v1,v2,sL a n cap,iV u] 38)) wr)) (λ_ i _=>n-(intOf i).toNat)
 case atStart=>exact⟨0,nZ,rfl,J4 _,Nx.refl _⟩
 case round=>
  obtain⟨k,hkn,rfl,hrel,HN⟩:=hrel
  have BA:=(Blk.new w #[v0,v1,v2,sL a n cap,iV u] 38 _ rfl).next HN.o
  have k0:=BA.c 0 rfl
  have k1:=BA.c 1 rfl
  have k2:=BA.c 2 rfl
  have k3:=BA.c 3 rfl
  have k4:=BA.c 4 rfl
  have hsz:=BA.lt
  have HW:Z (Nx w wr):=(Q4 _ _).trans HN.o
  by_cases hlt:k<n
  ·obtain⟨b,off,rfl,hB,hb,hc⟩:=hk (by omega)
   obtain⟨a0,a1,a2⟩:=hc k hlt
   have a0:=Q0 HW.o hb a0
   have a1:=Q0 HW.o hb a1
   have a2:=Q0 HW.o hb a2
   have hlt':(k:Int)<n:=by omega
   have hbr:b<wr.heap.size:=zK hb HW.o.size
   have HTG:Z (Y3 N (tat N.turns k)=(Ju N.ways (tat N.turns k).frm&&(Ju N.ways (tat N.turns k).to&&inB (tat N.turns k).cost))):=rfl
   generalize htt:tat N.turns k=tk at *
   have HTT:Z (tat N.turns k=tk):=htt
   clear hc hk htt
   have BB:=Blk.new wr #[iV tk.frm,iV tk.to,iV tk.cost] 113 _ rfl
   have BAX:=BA.alloc (.cells #[iV tk.frm,iV tk.to,iV tk.cost] 113)
   go_wp2_with fail
   refine(Z2 B _ _ _ _ _ _ N.ways _ (by exact(h1.keep (HW.o.keeps B)).keep ((Q4 _ _).keeps B)) HASW.o).mono ?_
   rintro e w1 ⟨rfl,hx⟩
   have BA1:=BAX.next hx
   have BB1:=BB.next hx
   have HX1:Z (Nx wr w1):=(Q4 _ _).trans hx
   clear hx BA BB BAX k0 k1 k2 k3 k4 a0 a1 a2
   have k0:=BA1.c 0 rfl
   have k1:=BA1.c 1 rfl
   have k2:=BA1.c 2 rfl
   have k3:=BA1.c 3 rfl
   have k4:=BA1.c 4 rfl
   have l1:=BB1.c 1 rfl
   by_cases e1:Ju N.ways tk.frm=true
   case neg=>
    have e1':Ju N.ways tk.frm=false:=by simpa using e1
    clear e1
    have HF:Z (Y3 N (tat N.turns k)=false):=by unfold Z;rw[HTT.o,HTG.o,e1'];rfl
    go_wp2
    go_ret
    exact⟨Q6 (by unfold Xa;rw[J2 (by rw[HZ.o];exact hlt) HF.o];rfl),HW.o.trans HX1.o⟩
   go_wp2_with fail
   refine(Z2 B _ _ _ _ _ _ N.ways _ (by exact(h1.keep (HW.o.keeps B)).keep (HX1.o.keeps B)) HASW.o).mono ?_
   rintro e w2 ⟨rfl,hx⟩
   have BB2:=BB1.next hx
   have HX2:Z (Nx wr w2):=HX1.o.trans hx
   clear hx BA1 BB1 HX1 k0 k1 k2 k3 k4 l1
   have l2:=BB2.c 2 rfl
   by_cases e2:Ju N.ways tk.to=true
   case neg=>
    have e2':Ju N.ways tk.to=false:=by simpa using e2
    clear e2
    have HF:Z (Y3 N (tat N.turns k)=false):=by unfold Z;rw[HTT.o,HTG.o,e2'];simp
    go_wp2
    go_ret
    exact⟨Q6 (by unfold Xa;rw[J2 (by rw[HZ.o];exact hlt) HF.o];rfl),HW.o.trans HX2.o⟩
   by_cases e3:inB tk.cost=true
   ·have HF:Z (Y3 N (tat N.turns k)=true):=by unfold Z;rw[HTT.o,HTG.o,e1,e2,e3];rfl
    go_wp2_with (go_at_call 72;refine(V1 _ _).mono ?_;rintro e w' ⟨rfl,rfl⟩)
    go_roundw
    case rel=>exact⟨k+1,by omega,by go_num,Qr hrel HF.o,HN.o.trans HX2.o⟩
    case measure=>simp[intOf];omega
   ·have e3':inB tk.cost=false:=by simpa using e3
    clear e3
    have HF:Z (Y3 N (tat N.turns k)=false):=by unfold Z;rw[HTT.o,HTG.o,e3'];simp
    go_wp2_with (go_at_call 72;refine(V1 _ _).mono ?_;rintro e w' ⟨rfl,rfl⟩)
    go_ret
    exact⟨Q6 (by unfold Xa;rw[J2 (by rw[HZ.o];exact hlt) HF.o];rfl),HW.o.trans HX2.o⟩
  ·have HA:Z (Xa N=true):=Qz (by rw[HZ.o];omega) hrel
   have hge:(n:Int)<=k:=by omega
   clear BA
   go_wp2_with (go_at_call 117;refine(Qdn B _ N.turns _ (by exact H3.keep (HW.o.keeps B))).mono ?_;rintro e w2 ⟨rfl,hx⟩)
   go_ret
   exact⟨Q6 (by rw[HA.o];rfl),HW.o.trans hx⟩
def Qe (N:Nt):Bool:=U8 N&&(inB N.uturn&&((Z4 N.nodes&&Wo N.nodes)&&((Ui N&&Ur N.ways)&&((U5 N&&Gp N.rels)&&(Xa N&&Uw N.turns)))))
theorem Q09 (B:Nat)(v0 v1 v2 v3:Value)(N:Nt)(w:World)(h0:Ye B w v0 v1 v2 v3 N)(hs:wsum N.ways N.ways.length<=1048576) :
  Calls prog 31 #[.agg #[v0,v1,v2,v3,iV N.uturn]] w λe w'=>e=.returned (.bool (Qe N))/\Nx w w':=by
 have HV:Z (Qe N=(U8 N&&(inB N.uturn&&((Z4 N.nodes&&Wo N.nodes)&&((Ui N&&Ur N.ways)&&((U5 N&&Gp N.rels)&&(Xa N&&Uw N.turns))))))):=rfl
 have HS:Z (wsum N.ways N.ways.length<=1048576):=hs
 clear hs
 go_enter func31,ntmps31
 go_wp2_with fail
 refine(Il B _ _ _ _ _ N _ (by exact h0.next (Q4 _ _)) HS.o).mono ?_
 rintro e w1 ⟨rfl,hx⟩
 have BA:=(Blk.new w #[v0,v1,v2,v3,iV N.uturn] 38 _ rfl).next hx
 have HX:Z (Nx w w1):=(Q4 _ _).trans hx
 clear hx
 cases g1:U8 N
 case false=>
  have HF:Z (false=Qe N):=by unfold Z;rw[HV.o,g1];rfl
  clear g1
  go_wp2
  go_ret
  exact⟨Q6 HF.o,HX.o⟩
 have HV:Z (Qe N=(inB N.uturn&&((Z4 N.nodes&&Wo N.nodes)&&((Ui N&&Ur N.ways)&&((U5 N&&Gp N.rels)&&(Xa N&&Uw N.turns)))))):=by unfold Z;rw[HV.o,g1];rfl
 clear g1
 have k0:=BA.c 0 rfl
 have k1:=BA.c 1 rfl
 have k2:=BA.c 2 rfl
 have k3:=BA.c 3 rfl
 have k4:=BA.c 4 rfl
 go_wp2_with fail
 refine(V1 _ _).mono ?_
 rintro e w1' ⟨rfl,rfl⟩
 cases g2:inB N.uturn
 case false=>
  have HF:Z (false=Qe N):=by unfold Z;rw[HV.o,g2];rfl
  clear g2
  go_wp2
  go_ret
  exact⟨Q6 HF.o,HX.o⟩
 have HV:Z (Qe N=((Z4 N.nodes&&Wo N.nodes)&&((Ui N&&Ur N.ways)&&((U5 N&&Gp N.rels)&&(Xa N&&Uw N.turns))))):=by unfold Z;rw[HV.o,g2];rfl
 clear g2
 go_wp2_with fail
 refine(E5 B _ _ _ _ _ N.nodes _ (by exact(h0.next HX.o).1)).mono ?_
 rintro e w2 ⟨rfl,hx⟩
 have BA:=BA.next hx
 have HX:Z (Nx w w2):=HX.o.trans hx
 clear hx k0 k1 k2 k3 k4
 cases g3:(Z4 N.nodes&&Wo N.nodes)
 case false=>
  have HF:Z (false=Qe N):=by unfold Z;rw[HV.o,g3];rfl
  clear g3
  go_wp2
  go_ret
  exact⟨Q6 HF.o,HX.o⟩
 have HV:Z (Qe N=((Ui N&&Ur N.ways)&&((U5 N&&Gp N.rels)&&(Xa N&&Uw N.turns)))):=by unfold Z;rw[HV.o,g3];rfl
 have HASC:Z (Z4 N.nodes=true):=((zH _ _).mp g3).1
 clear g3
 have k0:=BA.c 0 rfl
 have k1:=BA.c 1 rfl
 have k2:=BA.c 2 rfl
 have k3:=BA.c 3 rfl
 have k4:=BA.c 4 rfl
 go_wp2_with fail
 refine(Aw B _ _ _ _ _ N _ (by exact(h0.next HX.o).1) (by exact(h0.next HX.o).2.1) HASC.o).mono ?_
 rintro e w3 ⟨rfl,hx⟩
 have BA:=BA.next hx
 have HX:Z (Nx w w3):=HX.o.trans hx
 clear hx k0 k1 k2 k3 k4
 cases g4:(Ui N&&Ur N.ways)
 case false=>
  have HF:Z (false=Qe N):=by unfold Z;rw[HV.o,g4];rfl
  clear g4
  go_wp2
  go_ret
  exact⟨Q6 HF.o,HX.o⟩
 have HV:Z (Qe N=((U5 N&&Gp N.rels)&&(Xa N&&Uw N.turns))):=by unfold Z;rw[HV.o,g4];rfl
 have HASW:Z (Ur N.ways=true):=((zH _ _).mp g4).2
 clear g4
 have k0:=BA.c 0 rfl
 have k1:=BA.c 1 rfl
 have k2:=BA.c 2 rfl
 have k3:=BA.c 3 rfl
 have k4:=BA.c 4 rfl
 go_wp2_with fail
 refine(Ay B _ _ _ _ _ N _ (by exact(h0.next HX.o).1) (by exact(h0.next HX.o).2.1) (by exact(h0.next HX.o).2.2.1) HASC.o HASW.o).mono ?_
 rintro e w4 ⟨rfl,hx⟩
 have BA:=BA.next hx
 have HX:Z (Nx w w4):=HX.o.trans hx
 clear hx k0 k1 k2 k3 k4
 cases g5:(U5 N&&Gp N.rels)
 case false=>
  have HF:Z (false=Qe N):=by unfold Z;rw[HV.o,g5];rfl
  clear g5
  go_wp2
  go_ret
  exact⟨Q6 HF.o,HX.o⟩
 have HV:Z (Qe N=(Xa N&&Uw N.turns)):=by unfold Z;rw[HV.o,g5];rfl
 clear g5
 have k0:=BA.c 0 rfl
 have k1:=BA.c 1 rfl
 have k2:=BA.c 2 rfl
 have k3:=BA.c 3 rfl
 have k4:=BA.c 4 rfl
 go_wp2_with fail
 refine(E3 B _ _ _ _ _ N _ (by exact(h0.next HX.o).2.1) (by exact(h0.next HX.o).2.2.2) HASW.o).mono ?_
 rintro e w5 ⟨rfl,hx⟩
 have BA:=BA.next hx
 have HX:Z (Nx w w5):=HX.o.trans hx
 clear hx k0 k1 k2 k3 k4
 have HF:Z ((Xa N&&Uw N.turns)=Qe N):=HV.o.symm
 generalize (Xa N&&Uw N.turns)=fin at *
 go_wp2
 go_ret
 exact⟨Q6 HF.o,HX.o⟩
theorem Q07 (B:Nat)(v0 v1 v2 v3:Value)(u:Int)(N:Nt)(x:Rl)(vw:Value)(w:World)(h0:Q8 B w v0 N.nodes)(h1:Jy B w v1 N.ways)(hW:Q8 B w vw x.ways) :
  Calls prog 54 #[.agg #[v0,v1,v2,v3,iV u],.agg #[iV x.id,.bool x.only,iV x.frm,iV x.to,.bool x.via,iV x.node,vw]] w λe w'=>e=.returned (.bool (J8 N x))/\Nx w w':=by
 obtain⟨a2,cap2,rfl,hn2,hk2⟩:=hW
 unfold maxLen at hn2
 generalize hz2:x.ways.length=n2 at *
 have HZ2:Z (x.ways.length=n2):=hz2
 clear hz2
 have HTWO:Z (Nx w ((w.alloc (.cells #[v0,v1,v2,v3,iV u] 38)).alloc (.cells #[iV x.id,.bool x.only,iV x.frm,iV x.to,.bool x.via,iV x.node,sL a2 n2 cap2] 111))):=Zk _ _ _
 have BA:=((Blk.new w #[v0,v1,v2,v3,iV u] 38 _ rfl).alloc (.cells #[iV x.id,.bool x.only,iV x.frm,iV x.to,.bool x.via,iV x.node,sL a2 n2 cap2] 111))
 have BB:=(Blk.new (w.alloc (.cells #[v0,v1,v2,v3,iV u] 38)) #[iV x.id,.bool x.only,iV x.frm,iV x.to,.bool x.via,iV x.node,sL a2 n2 cap2] 111 (w.heap.size+1) (by simp))
 by_cases e1:inB x.id=true
 case neg=>
  have e1':inB x.id=false:=by simpa using e1
  have HG:Z (false=J8 N x):=by unfold Z;simp[J8,e1']
  clear e1
  go_enter func54,ntmps54
  go_wp2_with (go_at_call 51;refine(Jj _ _).mono ?_;rintro e w' ⟨rfl,rfl⟩)
  go_ret
  exact⟨Q6 HG.o,HTWO.o⟩
 by_cases e2:Ju N.ways x.frm=true
 case neg=>
  have e2':Ju N.ways x.frm=false:=by simpa using e2
  have HG:Z (false=J8 N x):=by unfold Z;simp[J8,e2']
  clear e2
  go_enter func54,ntmps54
  go_wp2_with (first|(go_at_call 51;refine(Jj _ _).mono ?_;rintro e w' ⟨rfl,rfl⟩)|(go_at_call 55;refine(Y7 B _ _ _ _ _ _ N.ways _ (by exact h1.keep (HTWO.o.keeps B))).mono ?_;rintro e w' ⟨r,rfl,hr,hx⟩))
  go_ret
  exact⟨Q6 HG.o,HTWO.o.trans hx⟩
 go_enter func54,ntmps54
 go_wp2_with fail
 refine(Jj _ _).mono ?_
 rintro e w' ⟨rfl,rfl⟩
 go_wp2_with fail
 refine(Y7 B _ _ _ _ _ _ N.ways _ (by exact h1.keep (HTWO.o.keeps B))).mono ?_
 rintro e w1 ⟨r1,rfl,hr1,hx⟩
 have BA1:=BA.next hx
 have BB1:=BB.next hx
 have HX1:Z (Nx w w1):=HTWO.o.trans hx
 clear hx BA BB HTWO
 have k0:=BA1.c 0 rfl
 have k1:=BA1.c 1 rfl
 have k2:=BA1.c 2 rfl
 have k3:=BA1.c 3 rfl
 have k4:=BA1.c 4 rfl
 have l3:=BB1.c 3 rfl
 go_wp2_with fail
 refine(Y7 B _ _ _ _ _ _ N.ways _ (by exact h1.keep (HX1.o.keeps B))).mono ?_
 rintro e w2 ⟨r2,rfl,hr2,hx⟩
 have BA2:=BA1.next hx
 have BB2:=BB1.next hx
 have HX2:Z (Nx w w2):=HX1.o.trans hx
 clear hx BA1 BB1 HX1 k0 k1 k2 k3 k4 l3
 by_cases e3:Ju N.ways x.to=true
 case neg=>
  have e3':Ju N.ways x.to=false:=by simpa using e3
  have HG:Z (false=J8 N x):=by unfold Z;simp[J8,e3']
  clear e3
  go_wp2
  go_ret
  exact⟨Q6 HG.o,HX2.o⟩
 have HGT:Z (J8 N x=J3 N x):=by unfold Z;simp[J8,e1,e2,e3]
 have k0:=BA2.c 0 rfl
 have k1:=BA2.c 1 rfl
 have k2:=BA2.c 2 rfl
 have k3:=BA2.c 3 rfl
 have k4:=BA2.c 4 rfl
 have l4:=BB2.c 4 rfl
 have l5:=BB2.c 5 rfl
 have l6:=BB2.c 6 rfl
 cases hv:x.via
 case true=>
  rw[hv] at l4
  have hvv:Z (x.via=true):=hv
  clear hv
  by_cases e6:n2=0
  case neg=>
   have d6:((n2:Int)==0)=false:=by simp;omega
   have HF:Z (J3 N x=false):=by unfold Z;simp[J3,hvv.o,HZ2.o,e6]
   clear e6
   go_wp2
   go_ret
   exact⟨Q6 (by rw[HGT.o,HF.o]),HX2.o⟩
  have d6:((n2:Int)==0)=true:=by simpa using e6
  have HT:Z (J3 N x=Vs N.nodes x.node):=by unfold Z;simp[J3,hvv.o,HZ2.o,e6]
  clear e6
  go_wp2_with fail
  refine(W9 B _ _ _ _ _ _ N.nodes _ (by exact h0.next HX2.o)).mono ?_
  rintro e w3 ⟨rfl,hx⟩
  have HX3:Z (Nx w w3):=HX2.o.trans hx
  clear hx k0 k1 k2 k3 k4 l4 l5 l6 BA2 BB2 HX2
  go_wp2
  go_ret
  exact⟨Q6 (by rw[HGT.o,HT.o]),HX3.o⟩
 case false=>
  rw[hv] at l4
  have hvv:Z (x.via=false):=hv
  clear hv
  by_cases e5:x.node=0
  case neg=>
   have d5:(x.node !=0)=true:=by simpa using e5
   have HF:Z (J3 N x=false):=by unfold Z;simp[J3,hvv.o,e5]
   clear e5
   go_wp2
   go_ret
   exact⟨Q6 (by rw[HGT.o,HF.o]),HX2.o⟩
  have d5:(x.node !=0)=false:=by simpa using e5
  have H5:Z (x.node=0):=e5
  clear e5
  by_cases e6:1<=n2
  case neg=>
   have d6:decide ((n2:Int)<1)=true:=by simp;omega
   have HF:Z (J3 N x=false):=by unfold Z;simp[J3,hvv.o,HZ2.o];intros;omega
   go_wp2
   go_ret
   exact⟨Q6 (by rw[HGT.o,HF.o]),HX2.o⟩
  have d6:decide ((n2:Int)<1)=false:=by simp;omega
  by_cases e7:n2<=4
  case neg=>
   have d7:decide (4<(n2:Int))=true:=by simp;omega
   have HF:Z (J3 N x=false):=by unfold Z;simp[J3,hvv.o,HZ2.o];intros;omega
   go_wp2
   go_ret
   exact⟨Q6 (by rw[HGT.o,HF.o]),HX2.o⟩
  have d7:decide (4<(n2:Int))=false:=by simp;omega
  have HT:Z (J3 N x=Je x.ways.length (λi=>Ju N.ways (iat x.ways i))):=by unfold Z;simp[J3,hvv.o,HZ2.o,H5.o,e6,e7]
  go_wp2
  go_loopw [5] (λi wr=>∃k:Nat,k<=n2/\i=iV k/\Z (Vn (λi=>Ju N.ways (iat x.ways i)) k)/\Z (Nx w2 wr)) (λi _=>n2-(intOf i).toNat)
  case atStart=>exact⟨0,nZ,rfl,J4 _,Nx.refl _⟩
  case round=>
   obtain⟨k,hkn,rfl,hrel,HN⟩:=hrel
   have BA3:=BA2.next HN.o
   have BB3:=BB2.next HN.o
   have k0:=BA3.c 0 rfl
   have k1:=BA3.c 1 rfl
   have k2:=BA3.c 2 rfl
   have k3:=BA3.c 3 rfl
   have k4:=BA3.c 4 rfl
   have l6:=BB3.c 6 rfl
   have HW:Z (Nx w wr):=HX2.o.trans HN.o
   by_cases hlt:k<n2
   ·obtain⟨b,off,rfl,hB,hb,hc⟩:=hk2 (by omega)
    have hcc:=Q0 HW.o hb (hc k hlt)
    have hlt':(k:Int)<n2:=by omega
    clear hc hk2
    by_cases hin:Ju N.ways (iat x.ways k)=true
    ·go_wp2
     go_region_with (go_at_call 55;refine(Y7 B _ _ _ _ _ _ N.ways _ (by exact h1.keep (HW.o.drew.keeps B))).mono ?_;rintro e w' ⟨r,rfl,hr,hx⟩)
     all_goals go_wp2
     all_goals
      go_roundw
      case rel=>exact⟨k+1,by omega,by go_num,Qr hrel hin,HN.o.drew.trans hx⟩
      case measure=>simp[intOf];omega
    ·have hin':Ju N.ways (iat x.ways k)=false:=by simpa using hin
     go_wp2
     go_region_with (go_at_call 55;refine(Y7 B _ _ _ _ _ _ N.ways _ (by exact h1.keep (HW.o.drew.keeps B))).mono ?_;rintro e w' ⟨r,rfl,hr,hx⟩)
     all_goals go_wp2
     all_goals
      go_ret
      exact⟨Q6 (by rw[HGT.o,HT.o,J2 (by rw[HZ2.o];exact hlt) hin']),HW.o.drew.trans hx⟩
   ·go_wp2
    go_ret
    exact⟨Q6 (by rw[HGT.o,HT.o,Qz (by rw[HZ2.o];omega) hrel]),HW.o⟩
end Go.Proofs.YtahpodmokbdjeaaGreatDoor
namespace Go.Proofs.YtahpodmokbdjeaaGreatDoor
open Go.RowKit
set_option linter.unusedVariables false
set_option maxHeartbeats 16000000
def U6 (zs:List Int)(i:Nat):Bool:=inB (iat zs i)&&X9 (ltI zs) i
def Tf (N:Nt)(i:Nat):Bool:=Qu N.nodes (wat N.ways i)&&X9 (ltW N.ways) i
def Th (N:Nt)(i:Nat):Bool:=J8 N (rat N.rels i)&&X9 (ltR N.rels) i
def Y4 (N:Nt)(i:Nat):Bool:=(inB (tat N.turns i).cost&&(Ju N.ways (tat N.turns i).frm&&Ju N.ways (tat N.turns i).to))&&X9 (ltT N.turns) i
def Vj (N:Nt):Bool:=inB N.uturn&&(decide (N.nodes.length<=2000)&&(decide (N.ways.length<=2000)&&(decide (N.rels.length<=1000)&&decide (N.turns.length<=2000))))
def Jf (N:Nt):Bool:=
 Vj N&&(Je N.nodes.length (U6 N.nodes)&&(Je N.ways.length (Tf N)&&(decide (edTo N.ways N.ways.length<=4000)&&(Je N.rels.length (Th N)&&Je N.turns.length (Y4 N)))))
theorem P8 (n:Nat)(p q:Nat->Bool):Je n (λi=>p i&&q i)=(Je n p&&Je n q):=by
 unfold Je
 rw[Bool.eq_iff_iff]
 simp only[zH,List.all_eq_true,zV]
 constructor
 ·intro h;exact⟨λi hi=>(h i hi).1,λi hi=>(h i hi).2⟩
 ·rintro⟨h1,h2⟩ i hi;exact⟨h1 i hi,h2 i hi⟩
theorem Ec (N:Nt):Qe N=Jf N:=by
 have n1:Je N.nodes.length (U6 N.nodes)=(Wo N.nodes&&Z4 N.nodes):=P8 _ _ _
 have w1:Je N.ways.length (Tf N)=(Ui N&&Ur N.ways):=P8 _ _ _
 have r1:Je N.rels.length (Th N)=(U5 N&&Gp N.rels):=P8 _ _ _
 have t1:Je N.turns.length (Y4 N)=(Xa N&&Uw N.turns):=by
  have h:Je N.turns.length (Y4 N)=Je N.turns.length (λi=>Y3 N (tat N.turns i)&&X9 (ltT N.turns) i):=by
   unfold Je
   congr 1
   funext i
   unfold Y4 Y3
   cases inB (tat N.turns i).cost<;>cases Ju N.ways (tat N.turns i).frm<;>cases Ju N.ways (tat N.turns i).to<;>rfl
  rw[h]
  exact P8 _ _ _
 unfold Qe Jf U8 Vj
 rw[n1,w1,r1,t1]
 generalize Wo N.nodes=b1
 generalize Z4 N.nodes=b2
 generalize (Ui N&&Ur N.ways)=b3
 generalize (U5 N&&Gp N.rels)=b4
 generalize (Xa N&&Uw N.turns)=b5
 generalize inB N.uturn=b6
 generalize decide (N.nodes.length<=2000)=b7
 generalize decide (N.ways.length<=2000)=b8
 generalize decide (N.rels.length<=1000)=b9
 generalize decide (N.turns.length<=2000)=b10
 generalize decide (edTo N.ways N.ways.length<=4000)=b11
 revert b1 b2 b3 b4 b5 b6 b7 b8 b9 b10 b11
 decide
end Go.Proofs.YtahpodmokbdjeaaGreatDoor
