import Derived.Test.YtphiaobccollhaaGreatQImJ
import Derived.Lib.QuietBelow
namespace Go.Proofs.YtphiaobccollhaaGreat
open Go.RowKit Go.Sort Tryz
set_option linter.unusedVariables false
set_option maxHeartbeats 16000000
theorem Q2x {nodes:List Int}{x:Wy}(h:Jg nodes x=true):x.weights.length<=100:=by
 simp only[Jg,Yn,zG,decide_eq_true_eq] at h
 exact h.1.1.1.2
theorem Uh {N:Nt}(h:V0 N=false):false=J9 N:=by simp[J9,h]
set_option maxRecDepth 100000 in
theorem Ke (B:Nat)(v0 v1 v2 v3:Value)(N:Nt)(w:World)(h0:U0 B w v0 v1 v2 v3 N)(hs:Wx N.ways N.ways.length<=1048576) :
  Calls prog 57 #[.agg #[v0,v1,v2,v3,iV N.uturn]] w λe w'=>e=.returned (.bool (J9 N))/\Nx w w':=by
 have I0:=h0.1
 have I1:=h0.2.1
 have I2:=h0.2.2.1
 have I3:=h0.2.2.2
 obtain⟨i0,i1,i2,i3⟩:=h0
 obtain⟨a0,c0,rfl,hn0,hk0⟩:=i0
 obtain⟨a1,c1,rfl,hn1,hk1⟩:=i1
 obtain⟨a2,c2,rfl,hn2,hk2⟩:=i2
 obtain⟨a3,c3,rfl,hn3,hk3⟩:=i3
 unfold maxLen at hn0 hn1 hn2 hn3
 have HS:Z (∀k,k<=N.ways.length->Wj N.ways k<=2097152):=λk hk=>by have:=Qe5 N.ways k;have:=Q8a N.ways hk;omega
 clear hs
 generalize hz0:N.nodes.length=m0 at *
 generalize hz1:N.ways.length=m1 at *
 generalize hz2:N.rels.length=m2 at *
 generalize hz3:N.turns.length=m3 at *
 have HZ:Z (N.nodes.length=m0/\N.ways.length=m1/\N.rels.length=m2/\N.turns.length=m3):=⟨hz0,hz1,hz2,hz3⟩
 clear hz0 hz1 hz2 hz3
 by_cases e0:inB N.uturn=true
 case neg=>
  have e0':inB N.uturn=false:=by simpa using e0
  have HF:Z (V0 N=false):=by unfold Z;simp[V0,e0']
  clear e0
  go_enter func57,ntmps57
  go_wp2_with (go_at_call 14;refine(J8 _ _).mono ?_;rintro e w' ⟨rfl,rfl⟩)
  go_ret
  exact⟨Q3 (Uh HF.o),Qe _ _⟩
 by_cases e1:m0<=2000
 case neg=>
  have d1:decide (2000<(m0:Int))=true:=by simp;omega
  have HF:Z (V0 N=false):=by unfold Z;simp[V0,HZ.o.1,e1]
  go_enter func57,ntmps57
  go_wp2_with (go_at_call 14;refine(J8 _ _).mono ?_;rintro e w' ⟨rfl,rfl⟩)
  go_ret
  exact⟨Q3 (Uh HF.o),Qe _ _⟩
 have d1:decide (2000<(m0:Int))=false:=by simp;omega
 by_cases e2:m1<=2000
 case neg=>
  have d2:decide (2000<(m1:Int))=true:=by simp;omega
  have HF:Z (V0 N=false):=by unfold Z;simp[V0,HZ.o.2.1,e2]
  go_enter func57,ntmps57
  go_wp2_with (go_at_call 14;refine(J8 _ _).mono ?_;rintro e w' ⟨rfl,rfl⟩)
  go_ret
  exact⟨Q3 (Uh HF.o),Qe _ _⟩
 have d2:decide (2000<(m1:Int))=false:=by simp;omega
 by_cases e3:m2<=1000
 case neg=>
  have d3:decide (1000<(m2:Int))=true:=by simp;omega
  have HF:Z (V0 N=false):=by unfold Z;simp[V0,HZ.o.2.2.1,e3]
  go_enter func57,ntmps57
  go_wp2_with (go_at_call 14;refine(J8 _ _).mono ?_;rintro e w' ⟨rfl,rfl⟩)
  go_ret
  exact⟨Q3 (Uh HF.o),Qe _ _⟩
 have d3:decide (1000<(m2:Int))=false:=by simp;omega
 by_cases e4:m3<=2000
 case neg=>
  have d4:decide (2000<(m3:Int))=true:=by simp;omega
  have HF:Z (V0 N=false):=by unfold Z;simp[V0,HZ.o.2.2.2,e4]
  go_enter func57,ntmps57
  go_wp2_with (go_at_call 14;refine(J8 _ _).mono ?_;rintro e w' ⟨rfl,rfl⟩)
  go_ret
  exact⟨Q3 (Uh HF.o),Qe _ _⟩
 have d4:decide (2000<(m3:Int))=false:=by simp;omega
 have HH:Z (V0 N=true):=by unfold Z;simp[V0,HZ.o.1,HZ.o.2.1,HZ.o.2.2.1,HZ.o.2.2.2,e0,e1,e2,e3,e4]
 go_enter func57,ntmps57
 go_wp2_with (go_at_call 14;refine(J8 _ _).mono ?_;rintro e w' ⟨rfl,rfl⟩)
 go_loopw [3] (λi wr=>∃k:Nat,k<=m0/\i=iV k/\Z (Jz (Zz N.nodes) k)/\Z (Nx (w.alloc (.cells #[sL a0 m0 c0,sL a1 m1 c1,sL a2 m2 c2,sL a3 m3 c3,iV N.uturn] 60)) wr)) (λi _=>m0-(intOf i).toNat)
 case atStart=>exact⟨0,nZ,rfl,Qy _,Nx.refl _⟩
 case round=>
  obtain⟨k,hkn,rfl,hrel,HN⟩:=hrel
  have BA:=(Blk.new w #[sL a0 m0 c0,sL a1 m1 c1,sL a2 m2 c2,sL a3 m3 c3,iV N.uturn] 60 _ rfl).next HN.o
  have k0:=BA.c 0 rfl
  have HW:=mh ((Qe _ _).trans HN.o)
  by_cases hlt:k<m0
  ·obtain⟨b,off,rfl,hB,hb,hc⟩:=hk0 (by omega)
   have hlt':(k:Int)<m0:=by omega
   clear BA hk1 hk2 hk3 hk0
   have hcc:=Q2 HW.o hb (hc k hlt)
   by_cases hin:inB (iat N.nodes k)=true
   case neg=>
    have hin':inB (iat N.nodes k)=false:=by simpa using hin
    clear hc hin
    have HF:Z (Zz N.nodes k=false):=by unfold Z;simp[Zz,hin']
    go_wp2
    go_quiet ((go_at_call 14;exact Calls.quiet_of_same (J8 _ _)))
    go_wp2
    go_ret
    exact⟨Q3 (by unfold J9;rw[Qx (by rw[HZ.o.1];exact hlt) HF.o];simp),HW.o.trans ⟨rfl,rfl,rfl,lR,λ_ _=>rfl⟩⟩
   by_cases hk:k=0
   ·have HF:Z (Zz N.nodes k=true):=by unfold Z Zz;rw[hin];simp[Xy,hk]
    have hkp:decide (0<k)=false:=by simp;omega
    have hkq:decide (0<(k:Int))=false:=by simp;omega
    clear hc hk
    go_wp2
    go_quiet ((go_at_call 14;exact Calls.quiet_of_same (J8 _ _)))
    go_wp2
    go_roundw
    case rel=>exact⟨k+1,by omega,by go_num,Qm hrel HF.o,HN.o.trans ⟨rfl,rfl,rfl,lR,λ_ _=>rfl⟩⟩
    case measure=>simp[intOf];omega
   ·obtain⟨j,rfl⟩:∃j,k=j+1:=⟨k-1,by omega⟩
    have hcd:=Q2 HW.o hb (hc j (by omega))
    have hwj:=Va j (by omega)
    have hjl:(j:Int)<m0:=by omega
    have hjp:decide (0<(j:Int)+1)=true:=by rw[decide_eq_true_iff];omega
    clear hc hk
    by_cases hab:iat N.nodes j<iat N.nodes (j+1)
    ·have HF:Z (Zz N.nodes (j+1)=true):=by unfold Z;simp only[Zz,hin,Ji];simp[ltI,hab]
     have hd:decide (iat N.nodes (j+1)<=iat N.nodes j)=false:=by simpa using hab
     clear hab
     go_wp2
     go_quiet ((go_at_call 14;exact Calls.quiet_of_same (J8 _ _)))
     go_wp2
     go_roundw
     case rel=>exact⟨j+1+1,by omega,by go_num,Qm hrel HF.o,HN.o.trans ⟨rfl,rfl,rfl,lR,λ_ _=>rfl⟩⟩
     case measure=>simp[intOf];omega
    ·have HF:Z (Zz N.nodes (j+1)=false):=by unfold Z;simp only[Zz,Ji];simp[ltI];intros;omega
     have hd:decide (iat N.nodes (j+1)<=iat N.nodes j)=true:=by simpa using hab
     clear hab
     go_wp2
     go_quiet ((go_at_call 14;exact Calls.quiet_of_same (J8 _ _)))
     go_wp2
     go_ret
     exact⟨Q3 (by unfold J9;rw[Qx (by rw[HZ.o.1];exact hlt) HF.o];simp),HW.o.trans ⟨rfl,rfl,rfl,lR,λ_ _=>rfl⟩⟩
  ·have HA0:Z (Qo N.nodes.length (Zz N.nodes)=true):=Qt (by rw[HZ.o.1];omega) hrel
   clear hk0 hrel BA
   go_wp2
   go_loopw [4,5] (λed i wr=>∃k:Nat,k<=m1/\i=iV k/\ed=iV (Wj N.ways k:Nat)/\Z (Jz (Tj N) k)/\Z (Nx (w.alloc (.cells #[sL a0 m0 c0,sL a1 m1 c1,sL a2 m2 c2,sL a3 m3 c3,iV N.uturn] 60)) wr)) (λ_ i _=>m1-(intOf i).toNat)
   case atStart=>exact⟨0,nZ,rfl,rfl,Qy _,HN.o⟩
   case round=>
    clear hkn hlt HN HW k0
    obtain⟨k,hkn,rfl,rfl,hrel,HN⟩:=hrel
    have BA:=(Blk.new w #[sL a0 m0 c0,sL a1 m1 c1,sL a2 m2 c2,sL a3 m3 c3,iV N.uturn] 60 _ rfl).next HN.o
    have k0:=BA.c 0 rfl
    have k1:=BA.c 1 rfl
    have k2:=BA.c 2 rfl
    have k3:=BA.c 3 rfl
    have k4:=BA.c 4 rfl
    have hwr:=BA.lt
    have HW:=mh ((Qe _ _).trans HN.o)
    by_cases hlt:k<m1
    ·obtain⟨b,off,rfl,hB,hb,hc⟩:=hk1 (by omega)
     have hlt':(k:Int)<m1:=by omega
     have hbr:=zJ hb HW.o.size
     clear BA hk2 hk3 hk1
     obtain⟨q1,q2,x0,x1,x2,x3,g1,g2⟩:=hc k hlt
     obtain⟨an,cn,rfl,_⟩:=g1.slice
     obtain⟨aw,cw,rfl,_⟩:=g2.slice
     have x0:=Q2 HW.o hb x0
     have x1:=Q2 HW.o hb x1
     have x2:=Q2 HW.o hb x2
     have x3:=Q2 HW.o hb x3
     generalize hmn:(wat N.ways k).nodes.length=mn at *
     generalize hmw:(wat N.ways k).weights.length=mw at *
     have HMW:=mh hmw
     clear hmn hmw
     have X0:=cell_regrown x0
     have X1:=cell_regrown x1
     have X2:=cell_regrown x2
     have X3:=cell_regrown x3
     have K0:=cell_regrown k0
     have K1:=cell_regrown k1
     have K2:=cell_regrown k2
     have K3:=cell_regrown k3
     have K4:=cell_regrown k4
     have CG:Z (∀d os,Calls prog 84 #[.agg #[sL a0 m0 c0,sL (some (aD b off)) m1 c1,sL a2 m2 c2,sL a3 m3 c3,iV N.uturn],.agg #[iV (wat N.ways k).id,.bool (wat N.ways k).both,sL an mn cn,sL aw mw cw]] (grow (redrawn wr d) os) λe w''=>e=.returned (.bool (Jg N.nodes (wat N.ways k)))/\∃p:Regrown,w''=grow (redrawn wr p.d) p.os):=
      λd os=>Calls.regrown_of (Az B _ _ _ _ _ N.nodes (wat N.ways k) _ _ _ ((I0.next HW.o).next (below_regrown wr d os)) ((g1.next HW.o).next (below_regrown wr d os)) ((g2.next HW.o).next (below_regrown wr d os)))
     by_cases hin:Jg N.nodes (wat N.ways k)=true
     case neg=>
      have hin':Jg N.nodes (wat N.ways k)=false:=by simpa using hin
      have HF:Z (Tj N k=false):=by unfold Z Tj;rw[hin'];rfl
      clear hc hin
      rw[hin'] at CG
      go_wp2
      refine wp_region_quiet_below (by kernel_rfl) (by kernel_rfl) ?_
      repeat (go_big_quiet_step (exact CG.o _ _))
      refine wpQuiet_nil ?_
      intro _ hw'
      obtain⟨⟨dq,osq⟩,hw''⟩:=hw'
      subst hw''
      have HB:Z (Nx wr (grow (redrawn wr dq) osq)):=below_regrown wr dq osq
      go_wp2
      go_ret
      exact⟨Q3 (by unfold J9;rw[Qx (n:=N.ways.length) (by rw[HZ.o.2.1];exact hlt) HF.o];simp),HW.o.trans HB.o⟩
     rw[hin] at CG
     have HLW:=mh (Q2x hin)
     have EQ:Z (Wj N.ways (k+1)=Wj N.ways k+Q12 (wat N.ways k)):=rfl
     have CE:Z (∀d os,Calls prog 85 #[.agg #[iV (wat N.ways k).id,.bool (wat N.ways k).both,sL an mn cn,sL aw mw cw]] (grow (redrawn wr d) os) λe w'=>e=.returned (iV (Q12 (wat N.ways k):Nat))/\Nx (grow (redrawn wr d) os) w'):=
      λd os=>A0 _ _ _ _ B (wat N.ways k).weights _ ((g2.next HW.o).next (below_regrown wr d os)) (by have:=HLW.o;omega)
     have hb1:=HS.o k hkn
     have hb2:=HS.o (k+1) (by omega)
     rw[EQ.o] at hb2
     generalize hek:Wj N.ways k=ek at *
     generalize hen:Q12 (wat N.ways k)=en at *
     clear hek hen g1 g2
     by_cases hk:k=0
     ·have HF:Z (Tj N k=true):=by unfold Z Tj;rw[hin];simp[Xy,hk]
      have hkp:decide (0<k)=false:=by simp;omega
      have hkq:decide (0<(k:Int))=false:=by simp;omega
      clear hc hk hin
      go_wp2
      refine wp_region_quiet_below (by kernel_rfl) (by kernel_rfl) ?_
      repeat (go_big_quiet_step (exact CG.o _ _))
      refine wpQuiet_nil ?_
      intro _ hw'
      obtain⟨⟨dq,osq⟩,hw''⟩:=hw'
      subst hw''
      have HB:Z (Nx wr (grow (redrawn wr dq) osq)):=below_regrown wr dq osq
      go_wp2_with (go_at_call 85;refine(CE.o _ _).mono ?_;rintro e w2 ⟨rfl,hx⟩)
      go_roundw
      case rel=>exact⟨k+1,by omega,by go_num,by rw[EQ.o];go_num,Qm hrel HF.o,HN.o.trans (HB.o.trans hx)⟩
      case measure=>simp[intOf];omega
     ·obtain⟨j,rfl⟩:∃j,k=j+1:=⟨k-1,by omega⟩
      obtain⟨r1,r2,y0,_⟩:=hc j (by omega)
      have y0:=Q2 HW.o hb y0
      have Y0:=cell_regrown y0
      have hwj:=Va j (by omega)
      have hjl:(j:Int)<m1:=by omega
      have hjp:decide (0<(j:Int)+1)=true:=by rw[decide_eq_true_iff];omega
      clear hc hk
      by_cases hab:(wat N.ways j).id<(wat N.ways (j+1)).id
      ·have HF:Z (Tj N (j+1)=true):=by unfold Z Tj;rw[hin,Ji];simp[ltW,hab]
       have hd:decide ((wat N.ways (j+1)).id<=(wat N.ways j).id)=false:=by simpa using hab
       clear hab hin
       go_wp2
       refine wp_region_quiet_below (by kernel_rfl) (by kernel_rfl) ?_
       repeat (go_big_quiet_step (exact CG.o _ _))
       refine wpQuiet_nil ?_
       intro _ hw'
       obtain⟨⟨dq,osq⟩,hw''⟩:=hw'
       subst hw''
       have HB:Z (Nx wr (grow (redrawn wr dq) osq)):=below_regrown wr dq osq
       go_wp2_with (go_at_call 85;refine(CE.o _ _).mono ?_;rintro e w2 ⟨rfl,hx⟩)
       go_roundw
       case rel=>exact⟨j+1+1,by omega,by go_num,by rw[EQ.o];go_num,Qm hrel HF.o,HN.o.trans (HB.o.trans hx)⟩
       case measure=>simp[intOf];omega
      ·have HF:Z (Tj N (j+1)=false):=by unfold Z Tj;rw[Ji];simp[ltW];intros;omega
       have hd:decide ((wat N.ways (j+1)).id<=(wat N.ways j).id)=true:=by simpa using hab
       clear hab hin
       go_wp2
       refine wp_region_quiet_below (by kernel_rfl) (by kernel_rfl) ?_
       repeat (go_big_quiet_step (exact CG.o _ _))
       refine wpQuiet_nil ?_
       intro _ hw'
       obtain⟨⟨dq,osq⟩,hw''⟩:=hw'
       subst hw''
       have HB:Z (Nx wr (grow (redrawn wr dq) osq)):=below_regrown wr dq osq
       go_wp2
       go_ret
       exact⟨Q3 (by unfold J9;rw[Qx (n:=N.ways.length) (by rw[HZ.o.2.1];exact hlt) HF.o];simp),HW.o.trans HB.o⟩
    ·have HA1:Z (Qo N.ways.length (Tj N)=true):=Qt (by rw[HZ.o.2.1];omega) hrel
     have ek:m1=k:=by omega
     subst ek
     clear hk1 hrel BA
     by_cases hed:Wj N.ways m1<=4000
     case neg=>
      have HF:Z (false=J9 N):=by unfold Z J9;rw[HZ.o.2.1];simp[hed]
      have hb1:=HS.o m1 hkn
      have hdd:decide (4000<((Wj N.ways m1:Nat):Int))=true:=by rw[decide_eq_true_iff];omega
      generalize Wj N.ways m1=ek at *
      go_wp2
      go_ret
      exact⟨Q3 HF.o,HW.o⟩
     have HED:Z (decide (Wj N.ways N.ways.length<=4000)=true):=by unfold Z;rw[HZ.o.2.1];simpa using hed
     have hdd:decide (4000<((Wj N.ways m1:Nat):Int))=false:=by rw[decide_eq_false_iff_not];omega
     generalize Wj N.ways m1=ek at *
     go_wp2
     go_loopw [6] (λi wr=>∃k:Nat,k<=m2/\i=iV k/\Z (Jz (Tl N) k)/\Z (Nx (w.alloc (.cells #[sL a0 m0 c0,sL a1 m1 c1,sL a2 m2 c2,sL a3 m3 c3,iV N.uturn] 60)) wr)) (λi _=>m2-(intOf i).toNat)
     case atStart=>exact⟨0,nZ,rfl,Qy _,HN.o⟩
     case round=>
      clear hkn hlt HN HW k0 k1 k2 k3 k4 hwr hdd hed
      obtain⟨k,hkn,rfl,hrel,HN⟩:=hrel
      have BA:=(Blk.new w #[sL a0 m0 c0,sL a1 m1 c1,sL a2 m2 c2,sL a3 m3 c3,iV N.uturn] 60 _ rfl).next HN.o
      have k0:=BA.c 0 rfl
      have k1:=BA.c 1 rfl
      have k2:=BA.c 2 rfl
      have k3:=BA.c 3 rfl
      have k4:=BA.c 4 rfl
      have HW:=mh ((Qe _ _).trans HN.o)
      by_cases hlt:k<m2
      ·obtain⟨b,off,rfl,hB,hb,hc⟩:=hk2 (by omega)
       have hlt':(k:Int)<m2:=by omega
       clear BA hk2 hk3
       obtain⟨q1,x0,x1,x2,x3,x4,x5,x6,g1⟩:=hc k hlt
       obtain⟨an,cn,rfl,_⟩:=g1.slice
       have x0:=Q2 HW.o hb x0
       have x1:=Q2 HW.o hb x1
       have x2:=Q2 HW.o hb x2
       have x3:=Q2 HW.o hb x3
       have x4:=Q2 HW.o hb x4
       have x5:=Q2 HW.o hb x5
       have x6:=Q2 HW.o hb x6
       generalize hmn:(rat N.rels k).ways.length=mn at *
       clear hmn
       have X0:=cell_regrown x0
       have X1:=cell_regrown x1
       have X2:=cell_regrown x2
       have X3:=cell_regrown x3
       have X4:=cell_regrown x4
       have X5:=cell_regrown x5
       have X6:=cell_regrown x6
       have K0:=cell_regrown k0
       have K1:=cell_regrown k1
       have K2:=cell_regrown k2
       have K3:=cell_regrown k3
       have K4:=cell_regrown k4
       have CG:Z (∀d os,Calls prog 86 #[.agg #[sL a0 m0 c0,sL a1 m1 c1,sL (some (aD b off)) m2 c2,sL a3 m3 c3,iV N.uturn],.agg #[iV (rat N.rels k).id,.bool (rat N.rels k).only,iV (rat N.rels k).frm,iV (rat N.rels k).to,.bool (rat N.rels k).via,iV (rat N.rels k).node,sL an mn cn]] (grow (redrawn wr d) os) λe w''=>e=.returned (.bool (Vm N (rat N.rels k)))/\∃p:Regrown,w''=grow (redrawn wr p.d) p.os):=
        λd os=>Calls.regrown_of (Q00 B _ _ _ _ _ N (rat N.rels k) _ _ ((I0.next HW.o).next (below_regrown wr d os)) ((I1.keep (HW.o.keeps B)).keep (Nx.keeps (below_regrown wr d os) B)) ((g1.next HW.o).next (below_regrown wr d os)))
       clear g1
       by_cases hin:Vm N (rat N.rels k)=true
       case neg=>
        have hin':Vm N (rat N.rels k)=false:=by simpa using hin
        have HF:Z (Tl N k=false):=by unfold Z Tl;rw[hin'];rfl
        clear hc hin
        rw[hin'] at CG
        go_wp2
        refine wp_region_quiet_below (by kernel_rfl) (by kernel_rfl) ?_
        repeat (go_big_quiet_step (exact CG.o _ _))
        refine wpQuiet_nil ?_
        intro _ hw'
        obtain⟨⟨dq,osq⟩,hw''⟩:=hw'
        subst hw''
        have HB:Z (Nx wr (grow (redrawn wr dq) osq)):=below_regrown wr dq osq
        go_wp2
        go_ret
        exact⟨Q3 (by unfold J9;rw[Qx (n:=N.rels.length) (by rw[HZ.o.2.2.1];exact hlt) HF.o];simp),HW.o.trans HB.o⟩
       rw[hin] at CG
       by_cases hk:k=0
       ·have HF:Z (Tl N k=true):=by unfold Z Tl;rw[hin];simp[Xy,hk]
        have hkp:decide (0<k)=false:=by simp;omega
        have hkq:decide (0<(k:Int))=false:=by simp;omega
        clear hc hk hin
        go_wp2
        refine wp_region_quiet_below (by kernel_rfl) (by kernel_rfl) ?_
        repeat (go_big_quiet_step (exact CG.o _ _))
        refine wpQuiet_nil ?_
        intro _ hw'
        obtain⟨⟨dq,osq⟩,hw''⟩:=hw'
        subst hw''
        have HB:Z (Nx wr (grow (redrawn wr dq) osq)):=below_regrown wr dq osq
        go_wp2
        go_roundw
        case rel=>exact⟨k+1,by omega,by go_num,Qm hrel HF.o,HN.o.trans HB.o⟩
        case measure=>simp[intOf];omega
       ·obtain⟨j,rfl⟩:∃j,k=j+1:=⟨k-1,by omega⟩
        obtain⟨r1,y0,_⟩:=hc j (by omega)
        have y0:=Q2 HW.o hb y0
        have Y0:=cell_regrown y0
        have hwj:=Va j (by omega)
        have hjl:(j:Int)<m2:=by omega
        have hjp:decide (0<(j:Int)+1)=true:=by rw[decide_eq_true_iff];omega
        clear hc hk
        by_cases hab:(rat N.rels j).id<(rat N.rels (j+1)).id
        ·have HF:Z (Tl N (j+1)=true):=by unfold Z Tl;rw[hin,Ji];simp[ltR,hab]
         have hd:decide ((rat N.rels (j+1)).id<=(rat N.rels j).id)=false:=by simpa using hab
         clear hab hin
         go_wp2
         refine wp_region_quiet_below (by kernel_rfl) (by kernel_rfl) ?_
         repeat (go_big_quiet_step (exact CG.o _ _))
         refine wpQuiet_nil ?_
         intro _ hw'
         obtain⟨⟨dq,osq⟩,hw''⟩:=hw'
         subst hw''
         have HB:Z (Nx wr (grow (redrawn wr dq) osq)):=below_regrown wr dq osq
         go_wp2
         go_roundw
         case rel=>exact⟨j+1+1,by omega,by go_num,Qm hrel HF.o,HN.o.trans HB.o⟩
         case measure=>simp[intOf];omega
        ·have HF:Z (Tl N (j+1)=false):=by unfold Z Tl;rw[Ji];simp[ltR];intros;omega
         have hd:decide ((rat N.rels (j+1)).id<=(rat N.rels j).id)=true:=by simpa using hab
         clear hab hin
         go_wp2
         refine wp_region_quiet_below (by kernel_rfl) (by kernel_rfl) ?_
         repeat (go_big_quiet_step (exact CG.o _ _))
         refine wpQuiet_nil ?_
         intro _ hw'
         obtain⟨⟨dq,osq⟩,hw''⟩:=hw'
         subst hw''
         have HB:Z (Nx wr (grow (redrawn wr dq) osq)):=below_regrown wr dq osq
         go_wp2
         go_ret
         exact⟨Q3 (by unfold J9;rw[Qx (n:=N.rels.length) (by rw[HZ.o.2.2.1];exact hlt) HF.o];simp),HW.o.trans HB.o⟩
      ·have HA2:Z (Qo N.rels.length (Tl N)=true):=Qt (by rw[HZ.o.2.2.1];omega) hrel
       clear hk2 hrel BA
       go_wp2
       go_loopw [7] (λi wr=>∃k:Nat,k<=m3/\i=iV k/\Z (Jz (Xm N) k)/\Z (Nx (w.alloc (.cells #[sL a0 m0 c0,sL a1 m1 c1,sL a2 m2 c2,sL a3 m3 c3,iV N.uturn] 60)) wr)) (λi _=>m3-(intOf i).toNat)
       case atStart=>exact⟨0,nZ,rfl,Qy _,HN.o⟩
       case round=>
        clear hkn hlt HN HW k0 k1 k2 k3 k4
        obtain⟨k,hkn,rfl,hrel,HN⟩:=hrel
        have BA:=(Blk.new w #[sL a0 m0 c0,sL a1 m1 c1,sL a2 m2 c2,sL a3 m3 c3,iV N.uturn] 60 _ rfl).next HN.o
        have k0:=BA.c 0 rfl
        have k1:=BA.c 1 rfl
        have k2:=BA.c 2 rfl
        have k3:=BA.c 3 rfl
        have k4:=BA.c 4 rfl
        have HW:=mh ((Qe _ _).trans HN.o)
        by_cases hlt:k<m3
        ·obtain⟨b,off,rfl,hB,hb,hc⟩:=hk3 (by omega)
         have hlt':(k:Int)<m3:=by omega
         clear hk3
         obtain⟨x0,x1,x2⟩:=hc k hlt
         have x0:=Q2 HW.o hb x0
         have x1:=Q2 HW.o hb x1
         have x2:=Q2 HW.o hb x2
         have HTA:Z (Xm N k=((inB (tat N.turns k).cost&&(Xw N.ways (tat N.turns k).frm&&Xw N.ways (tat N.turns k).to))&&Xy (ltT N.turns) k)):=rfl
         have hwr:=BA.lt
         generalize htt:tat N.turns k=tk at *
         have HTT:=mh htt
         clear htt
         have BT:=Blk.new wr #[iV tk.frm,iV tk.to,iV tk.cost] 137 _ rfl
         have BAX:=BA.alloc (.cells #[iV tk.frm,iV tk.to,iV tk.cost] 137)
         by_cases e5:inB tk.cost=true
         case neg=>
          have e5':inB tk.cost=false:=by simpa using e5
          have HF:Z (Xm N k=false):=by unfold Z;rw[HTA.o,e5'];rfl
          clear e5 hc BA BT BAX
          go_wp2_with (go_at_call 14;refine(J8 _ _).mono ?_;rintro e w' ⟨rfl,rfl⟩)
          go_ret
          exact⟨Q3 (by unfold J9;rw[Qx (n:=N.turns.length) (by rw[HZ.o.2.2.2];exact hlt) HF.o];simp),HW.o.trans (Qe _ _)⟩
         go_wp2_with fail
         refine(J8 _ _).mono ?_
         rintro e w' ⟨rfl,rfl⟩
         go_wp2_with fail
         refine(Xq B _ _ _ _ _ _ N.ways _ (by exact(I1.keep (HW.o.keeps B)).keep ((Qe _ _).keeps B))).mono ?_
         rintro e w1 ⟨r1,rfl,hr1,hx⟩
         have BA1:=BAX.next hx
         have BT1:=BT.next hx
         have HX1:=mh ((Qe _ _).trans hx)
         clear hx BA BT BAX k0 k1 k2 k3 k4 x0 x1 x2
         by_cases e6:Xw N.ways tk.frm=true
         case neg=>
          have e6':Xw N.ways tk.frm=false:=by simpa using e6
          have HF:Z (Xm N k=false):=by unfold Z;rw[HTA.o,e6'];simp
          clear e6 hc
          go_wp2
          go_ret
          exact⟨Q3 (by unfold J9;rw[Qx (n:=N.turns.length) (by rw[HZ.o.2.2.2];exact hlt) HF.o];simp),HW.o.trans HX1.o⟩
         have k0:=BA1.c 0 rfl
         have k1:=BA1.c 1 rfl
         have k2:=BA1.c 2 rfl
         have k3:=BA1.c 3 rfl
         have k4:=BA1.c 4 rfl
         have l1:=BT1.c 1 rfl
         go_wp2_with fail
         refine(Xq B _ _ _ _ _ _ N.ways _ (by exact(I1.keep (HW.o.keeps B)).keep (HX1.o.keeps B))).mono ?_
         rintro e w2 ⟨r2,rfl,hr2,hx⟩
         have BA2:=BA1.next hx
         have BT2:=BT1.next hx
         have HX2:=mh (HX1.o.trans hx)
         clear hx BA1 BT1 HX1 k0 k1 k2 k3 k4 l1
         by_cases e7:Xw N.ways tk.to=true
         case neg=>
          have e7':Xw N.ways tk.to=false:=by simpa using e7
          have HF:Z (Xm N k=false):=by unfold Z;rw[HTA.o,e7'];simp
          clear e7 hc
          go_wp2
          go_ret
          exact⟨Q3 (by unfold J9;rw[Qx (n:=N.turns.length) (by rw[HZ.o.2.2.2];exact hlt) HF.o];simp),HW.o.trans HX2.o⟩
         have HTA:Z (Xm N k=Xy (ltT N.turns) k):=by unfold Z;rw[HTA.o,e5,e6,e7];rfl
         by_cases hk:k=0
         ·have HF:Z (Xm N k=true):=by unfold Z;rw[HTA.o];simp[Xy,hk]
          have hkp:decide (0<k)=false:=by simp;omega
          have hkq:decide (0<(k:Int))=false:=by simp;omega
          clear hc hk
          go_wp2
          go_roundw
          case rel=>exact⟨k+1,by omega,by go_num,Qm hrel HF.o,HN.o.trans HX2.o⟩
          case measure=>simp[intOf];omega
         ·obtain⟨j,rfl⟩:∃j,k=j+1:=⟨k-1,by omega⟩
          obtain⟨y0,y1,y2⟩:=hc j (by omega)
          have HWW:=mh (HW.o.trans HX2.o)
          have y0:=Q2 HWW.o hb y0
          have y1:=Q2 HWW.o hb y1
          have y2:=Q2 HWW.o hb y2
          have HLT:Z (Xm N (j+1)=Q9b (tat N.turns j) tk):=by unfold Z;rw[HTA.o,Ji];unfold ltT;rw[HTT.o]
          generalize tat N.turns j=tj at *
          have k3:=BA2.c 3 rfl
          have l0:=BT2.c 0 rfl
          have l1:=BT2.c 1 rfl
          have hwr2:=BT2.lt
          have hbr:=zJ hb HWW.o.size
          have hwj:=Va j (by omega)
          have hjl:(j:Int)<m3:=by omega
          have hjp:decide (0<(j:Int)+1)=true:=by rw[decide_eq_true_iff];omega
          clear hc hk BA2 BT2
          by_cases f1:tk.frm<tj.frm
          ·have HF:Z (Xm N (j+1)=false):=by unfold Z;rw[HLT.o];simp[Q9b];omega
           have g1:decide (tk.frm<tj.frm)=true:=by simpa using f1
           clear f1
           go_wp2
           go_ret
           exact⟨Q3 (by unfold J9;rw[Qx (n:=N.turns.length) (by rw[HZ.o.2.2.2];exact hlt) HF.o];simp),HWW.o.trans (Qe _ _)⟩
          ·have g1:decide (tk.frm<tj.frm)=false:=by simpa using f1
           by_cases f2:tk.frm=tj.frm
           ·have g2:(tk.frm==tj.frm)=true:=by simpa using f2
            by_cases f3:tk.to<=tj.to
            ·have HF:Z (Xm N (j+1)=false):=by unfold Z;rw[HLT.o];simp[Q9b,f2];omega
             have g3:decide (tk.to<=tj.to)=true:=by simpa using f3
             clear f1 f2 f3
             go_wp2
             go_ret
             exact⟨Q3 (by unfold J9;rw[Qx (n:=N.turns.length) (by rw[HZ.o.2.2.2];exact hlt) HF.o];simp),HWW.o.trans (Qe _ _)⟩
            ·have HF:Z (Xm N (j+1)=true):=by unfold Z;rw[HLT.o];simp[Q9b,f2];omega
             have g3:decide (tk.to<=tj.to)=false:=by simpa using f3
             clear f1 f2 f3
             go_wp2
             go_roundw
             case rel=>exact⟨j+1+1,by omega,by go_num,Qm hrel HF.o,HN.o.trans (HX2.o.trans (Qe _ _))⟩
             case measure=>simp[intOf];omega
           ·have g2:(tk.frm==tj.frm)=false:=by simpa using f2
            have HF:Z (Xm N (j+1)=true):=by unfold Z;rw[HLT.o];simp[Q9b];omega
            clear f1 f2
            go_wp2
            go_roundw
            case rel=>exact⟨j+1+1,by omega,by go_num,Qm hrel HF.o,HN.o.trans (HX2.o.trans (Qe _ _))⟩
            case measure=>simp[intOf];omega
        ·have HA3:Z (Qo N.turns.length (Xm N)=true):=Qt (by rw[HZ.o.2.2.2];omega) hrel
         have hge:(m3:Int)<=k:=by omega
         clear hk3 BA
         go_wp2
         go_ret
         exact⟨Q3 (by unfold J9;rw[HH.o,HA0.o,HA1.o,HED.o,HA2.o,HA3.o];rfl),HW.o⟩
end Go.Proofs.YtphiaobccollhaaGreat
