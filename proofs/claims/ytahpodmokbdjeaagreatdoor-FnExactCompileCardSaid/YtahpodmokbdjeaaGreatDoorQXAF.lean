import Derived.Test.YtahpodmokbdjeaaGreatDoorQXAA
namespace Go.Proofs.YtahpodmokbdjeaaGreatDoor
open Go.RowKit Tryz
set_option linter.unusedVariables false
set_option maxRecDepth 1000000
set_option maxHeartbeats 16000000
theorem J7.at {B:Nat}{w:World}{a:Option Addr}{n c:Nat}{ws:List (List Int)}(h:J7 B w (sL a n c) ws)(h0:0<n):∃b off,a=some (aD b off)/\∀i,i<n->∃vi,w.cell? (aD b (off+i))=some vi/\Q8 B w vi (wd ws i)/\Vw vi:=by
 obtain⟨a',c',e,_,hk⟩:=h
 simp only[zC] at e
 obtain⟨rfl,rfl,rfl⟩:=e
 obtain⟨b,off,ha,_,_,hc⟩:=hk h0
 exact⟨b,off,ha,hc⟩
theorem Q0p {A:Au}{s:Nat}{ws:List (List Int)}(h:Qp A s=(ws,true)):∀i,(wd ws i).length<=402:=by
 induction s generalizing ws with
 |zero=>
  rw[Qp] at h
  obtain⟨rfl,_⟩:=Prod.mk.inj h
  intro i
  simp[wd]
 |succ s ih=>
  rw[Qp] at h
  split at h
  ·rename_i hc
   simp only[zH] at hc
   have h1:=ih (ws:=(Qp A s).1) (by rw[<-hc.1])
   obtain⟨rfl,_⟩:=Prod.mk.inj h
   intro i
   by_cases e:i<(Qp A s).1.length
   ·rw[Uy e];exact h1 i
   ·by_cases e':i=(Qp A s).1.length
    ·rw[Fy e']
     split
     ·simp
     ·rename_i hs
      have:=hc.2
      unfold okS okW at this
      rw[if_neg hs] at this
      simp only[zH,decide_eq_true_eq] at this
      exact this.2.1
    ·have:wd ((Qp A s).1++[if s=0 then [] else nw A (Qp A s).1 s]) i=[]:=by
      simp[wd,List.getD,List.getElem?_eq_none (show((Qp A s).1++[if s=0 then [] else nw A (Qp A s).1 s]).length<=i by simp;omega)]
     rw[this]
     simp
  ·obtain⟨_,h2⟩:=Prod.mk.inj h
   simp at h2
theorem Q4i (B:Nat)(v0 v1 v2 v3 v4:Value)(A:Au)(w:World)(h0:HA B w v0 v1 v2 v3 v4 A)(hl:A.la.length=A.pa.length)(hn:A.pa.length<=2000) :
  Calls prog 21 #[.agg #[v0,v1,v2,v3,v4]] w λe w'=>(∃v,e=.returned v/\J9 w.heap.size w' v (Qp A A.pa.length).1)/\Nx w w':=by
 obtain⟨ii,hi,hz0,hz1,hz2⟩:=info_parts P1
 obtain⟨⟨a0,c0,rfl,hm0,hk0⟩,⟨a1,c1,rfl,hm1,hk1⟩,h2,h3,h4⟩:=h0
 clear h2 h3 h4 hm0 hm1
 rw[hl] at hk1 ⊢
 generalize hz:A.pa.length=n at *
 clear hl
 clear hz
 have HO1:Z (J9 (w.heap.size+1) ((w.alloc (.cells #[sL a0 n c0,sL a1 n c1,v2,v3,v4] 56)).alloc (.cells #[] 119)) (sL (sA (w.heap.size+1)) 0 0) []):=by
  unfold Z
  have:=Iz (w.heap.size+1) (w.alloc (.cells #[sL a0 n c0,sL a1 n c1,v2,v3,v4] 56)) (by simp)
  simpa using this
 go_enter func21,ntmps21
 go_wp2
 go_loopw [3,4,5] (λv i s5 wr=>∃k:Nat,k<=n/\i=iV k/\Z (∃ws,Qp A k=(ws,true)/\ws.length=k/\J9 (w.heap.size+1) wr v ws)/\Z (Nx (w.alloc (.cells #[sL a0 n c0,sL a1 n c1,v2,v3,v4] 56)) wr)) (λ_ i _ _=>n-(intOf i).toNat)
 case atStart=>exact⟨0,nZ,rfl,⟨[],rfl,rfl,HO1.o⟩,Q4 _ _⟩
 clear HO1
 obtain⟨k,hkn,rfl,HP,HN⟩:=hrel
 have HW:Z (Nx w wr):=(Q4 _ _).trans HN.o
 have BA:=(Blk.new w #[sL a0 n c0,sL a1 n c1,v2,v3,v4] 56 _ rfl).next HN.o
 have HBA:Z (Blk wr w.heap.size #[sL a0 n c0,sL a1 n c1,v2,v3,v4]):=BA
 have HZ3:Z (w.heap.size+1<=wr.heap.size):=by have:=HN.o.size;unfold Z;simpa using this
 by_cases hlt:k<n
 ·have hlt':(k:Int)<n:=by omega
  obtain⟨b0,o0,ha0,_,hb0,hc0⟩:=hk0 (by omega)
  obtain⟨b1,o1,ha1,_,hb1,hc1⟩:=hk1 (by omega)
  subst ha0 ha1
  obtain⟨ws,hsp,hwl,hwo⟩:=HP.o
  obtain⟨av,cv,hvs⟩:=hwo.slice
  rw[hwl] at hvs
  subst hvs
  have HWO:Z (J9 (w.heap.size+1) wr (sL av k cv) ws):=hwo
  have HSP:Z (Qp A k=(ws,true)):=hsp
  have HWL:Z (ws.length=k):=hwl
  have HLW:Z (∀i,(wd ws i).length<=402):=Q0p hsp
  have x0:=Q0 HW.o hb0 (hc0 k hlt)
  have y0:=Q0 HW.o hb1 (hc1 k hlt)
  have k0:=BA.c 0 rfl
  have k1:=BA.c 1 rfl
  have HRS:Z (okS A ws k=false->J9 w.heap.size wr (sL av k cv) (Qp A n).1):=λh=>by
   have:=Q3l HSP.o h (n-(k+1))
   rw[show k+1+(n-(k+1))=n by omega] at this
   rw[this]
   obtain⟨cs,q1,q2⟩:=HWO.o
   refine⟨cs,?_,λi hi=>(q2 i hi).base (Nat.le_succ _)⟩
   obtain⟨r1,r2⟩:=q1
   refine⟨r1,?_⟩
   rcases r2 with r2|⟨g,cap,cur,hv,hg,r⟩
   ·exact oL r2
   ·exact oR ⟨g,cap,cur,hv,by omega,r⟩
  clear hc0 hc1 hk0 hk1 HP hsp hwl hwo BA
  by_cases hk:k=0
  ·subst hk
   rw[Nat.add_zero] at x0 y0
   have hn0:(0:Int)<n:=by omega
   by_cases g1:iat A.pa 0=-1
   ·have f1:(iat A.pa 0 !=-1)=false:=by simpa using g1
    by_cases g2:iat A.la 0=-1
    ·have f2:(iat A.la 0 !=-1)=false:=by simpa using g2
     have HOK:Z (okS A ws 0=true):=by unfold Z okS;simp[g1,g2]
     have HRO:Z (Qd (w.heap.size+1) (wr.alloc (.cells #[] 2)) (sL (sA wr.heap.size) 0 0) []):=G4 _ wr HZ3.o
     have HWO':Z (J9 (w.heap.size+1) (wr.alloc (.cells #[] 2)) (sL av 0 cv) ws):=HWO.o.next (Q4 _ _)
     clear g1 g2
     obtain⟨cs,q1,q2⟩:=HWO'.o
     have HQ1:Z ((wr.alloc (.cells #[] 2)).ownsRow (w.heap.size+1) 119 1 (sL av 0 cv) ws.length cs):=q1
     have HQ2:Z (∀i,i<ws.length->Qd (w.heap.size+1) (wr.alloc (.cells #[] 2)) (vat cs i) (wd ws i)):=q2
     clear q1 q2
     go_wp2_with (at_builtin;refine wpList_append_own_at _ rfl _ _ 65 rfl (w.heap.size+1) 119 ii (.agg #[sN]) 1 24 underlying65 hi hz0 hz1 hz2 rfl (by decide) _ _ _ rfl (zB HQ1.o _) (aD (wr.heap.size+1) 0) 1 1 [sL (sA wr.heap.size) 0 0] rfl rfl ?c1 ?c2 ?c3 ?c4 ?c5 ?_)
     case c1=>
      intro j u hj
      have:=Ql (wr.alloc (.cells #[] 2)) _ 119 [sL (sA wr.heap.size) 0 0] rfl j u hj
      rwa [Q3] at this
     case c2=>intro u hu;simp at hu;subst hu;rfl
     case c3=>rw[HWL.o];unfold maxLen;omega
     case c4=>rw[HWL.o];omega
     case c5=>have:=HZ3.o;simp;omega
     intro v7 w7 hown hgrow _ _
     have HO7:Z (J9 (w.heap.size+1) w7 v7 (ws++[[]])):=J9.snoc HQ1.o HQ2.o HRO.o _ hgrow hown
     have HS7:Z (Qp A 1=(ws++[[]],true)):=Q0r HSP.o HOK.o
     have HN7:Z (Nx (w.alloc (.cells #[sL (some (aD b0 o0)) n c0,sL (some (aD b1 o1)) n c1,v2,v3,v4] 56)) w7):=Below.grown ((HN.o.alloc _).alloc _) hgrow (by have:=HZ3.o;simp;omega) (λg hg=>by have:=(Q5 HQ1.o g hg).1;simpa using this)
     clear hown hgrow HQ1 HQ2 HRO HWO' x0 y0 k0 k1 HN
     go_wp2
     go_roundw
     case rel=>exact⟨1,by omega,by go_num,⟨_,HS7.o,by rw[zA,HWL.o];rfl,HO7.o⟩,HN7⟩
     case measure=>simp[intOf];omega
    ·have f2:(iat A.la 0 !=-1)=true:=by simpa using g2
     have HF:Z (J9 w.heap.size wr (sL av 0 cv) (Qp A n).1):=HRS.o (by unfold okS;simp;omega)
     clear g1 g2
     go_wp2
     go_ret
     exact⟨⟨_,rfl,HF.o⟩,HW.o⟩
   ·have f1:(iat A.pa 0 !=-1)=true:=by simpa using g1
    have HF:Z (J9 w.heap.size wr (sL av 0 cv) (Qp A n).1):=HRS.o (by unfold okS;simp;omega)
    clear g1
    go_wp2
    go_ret
    exact⟨⟨_,rfl,HF.o⟩,HW.o⟩
  have hkz:((k:Int)==0)=false:=by simp;omega
  have HOD:Z (okS A ws k=okW A ws k):=by unfold Z okS;rw[if_neg hk]
  have HK1:Z (1<=k):=by unfold Z;omega
  clear hk
  by_cases g1:iat A.pa k<0
  ·have f1:decide (iat A.pa k<0)=true:=by simpa using g1
   have HF:Z (J9 w.heap.size wr (sL av k cv) (Qp A n).1):=HRS.o (by rw[HOD.o];unfold okW okR;simp;omega)
   clear g1
   go_wp2
   go_ret
   exact⟨⟨_,rfl,HF.o⟩,HW.o⟩
  have f1:decide (iat A.pa k<0)=false:=by simpa using g1
  by_cases g2:(k:Int)<=iat A.pa k
  ·have f2:decide ((k:Int)<=iat A.pa k)=true:=by simpa using g2
   have HF:Z (J9 w.heap.size wr (sL av k cv) (Qp A n).1):=HRS.o (by rw[HOD.o];unfold okW okR;simp;omega)
   clear g1 g2
   go_wp2
   go_ret
   exact⟨⟨_,rfl,HF.o⟩,HW.o⟩
  have f2:decide ((k:Int)<=iat A.pa k)=false:=by simpa using g2
  by_cases g3:iat A.la k<0
  ·have f3:decide (iat A.la k<0)=true:=by simpa using g3
   have HF:Z (J9 w.heap.size wr (sL av k cv) (Qp A n).1):=HRS.o (by rw[HOD.o];unfold okW okR;simp;omega)
   clear g1 g2 g3
   go_wp2
   go_ret
   exact⟨⟨_,rfl,HF.o⟩,HW.o⟩
  have f3:decide (iat A.la k<0)=false:=by simpa using g3
  by_cases g4:4000<=iat A.la k
  ·have f4:decide (4000<=iat A.la k)=true:=by simpa using g4
   have HF:Z (J9 w.heap.size wr (sL av k cv) (Qp A n).1):=HRS.o (by rw[HOD.o];unfold okW okR;simp;omega)
   clear g1 g2 g3 g4
   go_wp2
   go_ret
   exact⟨⟨_,rfl,HF.o⟩,HW.o⟩
  have f4:decide (4000<=iat A.la k)=false:=by simpa using g4
  have HOR:Z (okR A k=true):=by unfold Z okR;simp;omega
  obtain⟨p,hp⟩:∃p:Nat,iat A.pa k=(p:Int):=⟨(iat A.pa k).toNat,by omega⟩
  have hpk:p<k:=by omega
  have hpk':(p:Int)<k:=by omega
  have HNW:Z (nw A ws k=wd ws p++[iat A.la k]):=by unfold Z nw;rw[hp,zX]
  rw[hp] at x0 f1 f2
  clear g1 g2 g3 g4 hp
  obtain⟨gw,ow,hav,hcw⟩:=HWO.o.held.at (by omega)
  subst hav
  obtain⟨vp,hvp1,hvp2,_⟩:=hcw p hpk
  obtain⟨vq,hvq1,hvq2,_⟩:=hcw (k-1) (by omega)
  have HVP:Z (Q8 (w.heap.size+1) wr vp (wd ws p)):=hvp2
  have HVQ:Z (Q8 (w.heap.size+1) wr vq (wd ws (k-1))):=hvq2
  have HLP:Z ((wd ws p).length<=402):=HLW.o p
  have HVQ1:Z (wr.cell? (aD gw (ow+(k-1)))=some vq):=hvq1
  clear hcw hvp2 hvq2 hvq1
  generalize hla:iat A.la k=lk at *
  have HLA:Z (iat A.la k=lk):=hla
  clear hla
  have ne1:=World.new_ne wr _ hvp1
  have ne2:=World.new_ne wr _ x0
  have ne3:=World.new_ne wr _ y0
  have ne4:=World.new_ne wr _ k0
  go_upto_region 11 with fail
  go_cut [5] from 7 to 101 (λs5 wc=>Z (Qd wr.heap.size wc s5 (wd ws p++[lk]))/\Z (Nx wr wc))
  case first=>
   go_region_held3 (λw'=>w'.cell? (aD w.heap.size 0)=some (sL (some (aD b0 o0)) n c0)/\w'.cell? (aD w.heap.size 1)=some (sL (some (aD b1 o1)) n c1)/\w'.cell? (aD b0 (o0+k))=some (iV (p:Int))/\w'.cell? (aD b1 (o1+k))=some (iV lk)/\w'.cell? (aD gw (ow+p))=some vp) (go_keep) (first|(go_at_call 65;refine(Zx (w.heap.size+1) wr.heap.size _ _ (wd ws p) [lk] _ (by first|exact HVP.o.next ((Nx.refl wr).drew.alloc _)|exact HVP.o.next ((Nx.refl wr).alloc _).drew) (by first|exact(Tu wr.heap.size wr.drew lk lR).held|exact(Tu wr.heap.size wr lk lR).drew.held) (by have:=HLP.o;omega) (by simp)).mono ?_;rintro e w1 ⟨⟨u,rfl,hu⟩,hx⟩;have hxw:Nx wr w1:=(by first|exact(((Nx.refl wr).alloc _).drew).trans hx|exact((Nx.refl wr).drew.alloc _).trans hx);have t0:=Q1 hxw k0;have t1:=Q1 hxw k1;have t2:=Q1 hxw x0;have t3:=Q1 hxw y0;have t4:=Q1 hxw hvp1))
   all_goals go_wp2
   all_goals go_meet
   all_goals exact⟨hu.base (Nat.le_of_lt (by simp)),hxw⟩
  case rest=>
  obtain⟨HU,HC⟩:=hcut
  rw[<-HNW.o] at HU
  have HWc:Z (Nx w wc):=HW.o.trans HC.o
  have HNc:Z (Nx (w.alloc (.cells #[sL (some (aD b0 o0)) n c0,sL (some (aD b1 o1)) n c1,v2,v3,v4] 56)) wc):=HN.o.trans HC.o
  have HWOc:Z (J9 (w.heap.size+1) wc (sL (some (aD gw ow)) k cv) ws):=HWO.o.next HC.o
  have HUc:Z (Qd (w.heap.size+1) wc u5 (nw A ws k)):=HU.o.base HZ3.o
  have HZc:Z (w.heap.size+1<=wc.heap.size):=zP HZ3.o HC.o.size
  have HVQc:Z (Q8 (w.heap.size+1) wc vq (wd ws (k-1))):=HVQ.o.next HC.o
  have HRSc:Z (okS A ws k=false->J9 w.heap.size wc (sL (some (aD gw ow)) k cv) (Qp A n).1):=λh=>(HRS.o h).next HC.o
  have hvq:=Q1 HC.o HVQ1.o
  have HOKW:Z (okW A ws k=(decide ((nw A ws k).length<=402)&&Vv (wd ws (k-1)) (nw A ws k))):=by unfold Z okW;rw[HOR.o,Bool.true_and]
  obtain⟨au,cu,hus⟩:=HUc.o.slice
  subst hus
  generalize hnl:(nw A ws k).length=nl at *
  have HNL:Z ((nw A ws k).length=nl):=hnl
  clear hnl x0 y0 k0 k1 hvp1 ne1 ne2 ne3 ne4 HVP HVQ HU HWO HRS HN HW HC f1 f2 f3 f4 hpk'
  obtain⟨j,rfl⟩:∃j,k=j+1:=⟨k-1,by have:=HK1.o;omega⟩
  have hwj:=Yk j (by omega)
  have hjl:(j:Int)<(j:Int)+1:=by omega
  rw[Nat.add_sub_cancel] at hvq HVQc HOKW
  by_cases g5:nl<=402
  case neg=>
   have f5:decide (402<(nl:Int))=true:=by simp;omega
   have HF:Z (J9 w.heap.size wc (sL (some (aD gw ow)) (j+1) cv) (Qp A n).1):=HRSc.o (by rw[HOD.o,HOKW.o];simp;omega)
   clear g5
   go_wp2
   go_ret
   exact⟨⟨_,rfl,HF.o⟩,HWc.o⟩
  have f5:decide (402<(nl:Int))=false:=by simp;omega
  go_wp2_with fail
  refine(Kz (w.heap.size+1) (w.heap.size+1) _ _ (wd ws j) (nw A ws (j+1)) _ HVQc.o HUc.o.held).mono ?_
  rintro e w2 ⟨rfl,hx⟩
  have HC2:Z (Nx wc w2):=hx
  have HW2:Z (Nx w w2):=HWc.o.trans hx
  clear hx hvq
  cases hbf:Vv (wd ws j) (nw A ws (j+1))
  ·have HF:Z (J9 w.heap.size w2 (sL (some (aD gw ow)) (j+1) cv) (Qp A n).1):=(HRSc.o (by rw[HOD.o,HOKW.o,hbf];simp)).next HC2.o
   clear hbf g5
   go_wp2
   go_ret
   exact⟨⟨_,rfl,HF.o⟩,HW2.o⟩
  have HOK:Z (okS A ws (j+1)=true):=by unfold Z;rw[HOD.o,HOKW.o,hbf];simp;omega
  have HWO2:Z (J9 (w.heap.size+1) w2 (sL (some (aD gw ow)) (j+1) cv) ws):=HWOc.o.next HC2.o
  have HU2:Z (Qd (w.heap.size+1) w2 (sL au nl cu) (nw A ws (j+1))):=HUc.o.next HC2.o
  have HN2:Z (Nx (w.alloc (.cells #[sL (some (aD b0 o0)) n c0,sL (some (aD b1 o1)) n c1,v2,v3,v4] 56)) w2):=HNc.o.trans HC2.o
  have HZ2:Z (w.heap.size+1<=w2.heap.size):=zP HZc.o HC2.o.size
  obtain⟨cs,q1,q2⟩:=HWO2.o
  have HQ1:Z (w2.ownsRow (w.heap.size+1) 119 1 (sL (some (aD gw ow)) (j+1) cv) ws.length cs):=q1
  have HQ2:Z (∀i,i<ws.length->Qd (w.heap.size+1) w2 (vat cs i) (wd ws i)):=q2
  clear q1 q2 hbf g5 HRSc HWOc HUc HNc HVQc
  go_wp2_with (at_builtin;refine wpList_append_own_at _ rfl _ _ 65 rfl (w.heap.size+1) 119 ii (.agg #[sN]) 1 24 underlying65 hi hz0 hz1 hz2 rfl (by decide) _ _ _ rfl (zB HQ1.o _) (aD w2.heap.size 0) 1 1 [sL au nl cu] rfl rfl (λj u hj=>Ql w2 _ _ _ rfl j u hj) ?c2 ?c3 ?c4 ?c5 ?_)
  case c2=>intro u hu;simp at hu;subst hu;rfl
  case c3=>rw[HWL.o];unfold maxLen;omega
  case c4=>rw[HWL.o];omega
  case c5=>have:=HZ2.o;simp;omega
  intro v7 w7 hown hgrow _ _
  have HO7:Z (J9 (w.heap.size+1) w7 v7 (ws++[nw A ws (j+1)])):=J9.snoc HQ1.o HQ2.o HU2.o _ hgrow hown
  have HS7:Z (Qp A (j+1+1)=(ws++[nw A ws (j+1)],true)):=Q0r HSP.o HOK.o
  have HN7:Z (Nx (w.alloc (.cells #[sL (some (aD b0 o0)) n c0,sL (some (aD b1 o1)) n c1,v2,v3,v4] 56)) w7):=Below.grown (HN2.o.alloc _) hgrow (by have:=HZ2.o;simp;omega) (λg hg=>by have:=(Q5 HQ1.o g hg).1;simpa using this)
  clear hown hgrow HQ1 HQ2 HU2 HWO2 HN2
  go_wp2
  go_roundw
  case rel=>exact⟨j+1+1,by omega,by go_num,⟨_,HS7.o,by rw[zA,HWL.o];rfl,HO7.o⟩,HN7⟩
  case measure=>simp[intOf];omega
 have ek:n=k:=by omega
 subst ek
 have k0:=BA.c 0 rfl
 have HF:Z (J9 w.heap.size wr u3 (Qp A n).1):=by
  obtain⟨ws,hsp,hwl,hwo⟩:=HP.o
  unfold Z
  rw[hsp]
  obtain⟨cs,q1,q2⟩:=hwo
  refine⟨cs,?_,λi hi=>(q2 i hi).base (Nat.le_succ _)⟩
  obtain⟨r1,r2⟩:=q1
  refine⟨r1,?_⟩
  rcases r2 with r2|⟨g,cap,cur,hv,hg,r⟩
  ·exact oL r2
  ·exact oR ⟨g,cap,cur,hv,by omega,r⟩
 clear HP BA hlt hkn
 go_wp2
 go_ret
 exact⟨⟨_,rfl,HF.o⟩,HW.o⟩
end Go.Proofs.YtahpodmokbdjeaaGreatDoor
namespace Go.Proofs.YtahpodmokbdjeaaGreatDoor
open Go.RowKit
set_option linter.unusedVariables false
set_option maxRecDepth 1000000
set_option maxHeartbeats 16000000
theorem It {A:Au}{s:Nat}:((Qp A s).2=true->(Qp A s).1.length=s)/\((Qp A s).2=false->(Qp A s).1.length<s):=by
 induction s with
 |zero=>exact⟨λ_=>rfl,λh=>by simp[Qp] at h⟩
 |succ s ih=>
  rw[Qp]
  split
  ·rename_i hc
   simp only[zH] at hc
   exact⟨λ_=>by rw[zA,ih.1 hc.1];rfl,λh=>by simp at h⟩
  ·refine⟨λh=>by simp at h,λ_=>?_⟩
   show(Qp A s).1.length<s+1
   cases e:(Qp A s).2 with
   |true=>rw[ih.1 e];omega
   |false=>have:=ih.2 e;omega
theorem Q9j {A:Au}{s:Nat}{ws:List (List Int)}(h:Qp A s=(ws,true)):Y2 ws:=by
 induction s generalizing ws with
 |zero=>
  rw[Qp] at h
  obtain⟨rfl,_⟩:=Prod.mk.inj h
  intro i j _ hj
  simp at hj
 |succ s ih=>
  rw[Qp] at h
  split at h
  ·rename_i hc
   simp only[zH] at hc
   have h1:=ih (ws:=(Qp A s).1) (by rw[<-hc.1])
   have hl:=It.1 hc.1
   obtain⟨rfl,_⟩:=Prod.mk.inj h
   intro i j hij hj
   rw[zA,List.length_singleton,hl] at hj
   by_cases e:j<s
   ·rw[Uy (by omega),Uy (by omega)]
    exact h1 i j hij (by omega)
   ·have ej:j=s:=by omega
    subst ej
    rw[Uy (i:=i) (by omega),Fy (i:=j) (by omega),if_neg (by omega)]
    have hb:=hc.2
    unfold okS okW at hb
    rw[if_neg (by omega)] at hb
    simp only[zH] at hb
    rcases Nat.lt_or_eq_of_le (show i<=j-1 by omega) with h2|h2
    ·exact Za (h1 i (j-1) h2 (by omega)) hb.2.2
    ·rw[h2];exact hb.2.2
  ·obtain⟨_,h2⟩:=Prod.mk.inj h
   simp at h2
def Gb (A:Au):Bool:=decide (1<=A.pa.length)&&(decide (A.pa.length<=2000)&&((A.la.length==A.pa.length)&&((A.fa.length==A.pa.length)&&((A.mu.length==A.pa.length)&&(A.bd.length==A.pa.length)))))
def Qgm (A:Au)(ws:List (List Int))(s:Nat):Bool:=s==0||(decide (-2<=iat A.mu s)&&(decide (iat A.mu s<4000)&&(iat A.fa s==Xx ws (wd ws s) 1 ((wd ws s).length+1-1))))
def Uj (A:Au):Bool:=Gb A&&((Qp A A.pa.length).2&&((iat A.fa 0==-1)&&((iat A.mu 0==-1)&&((!bat A.bd 0)&&Je A.pa.length (Qgm A (Qp A A.pa.length).1)))))
end Go.Proofs.YtahpodmokbdjeaaGreatDoor
namespace Go.Proofs.YtahpodmokbdjeaaGreatDoor
open Go.RowKit Tryz
set_option linter.unusedVariables false
set_option maxRecDepth 1000000
set_option maxHeartbeats 16000000
theorem Q88 {ws:List (List Int)}{x:List Int}(h0:0<=stW ws []){k f:Nat}(hf:k+f=x.length+1)(h1:1<=f):0<=Xx ws x k f/\Xx ws x k f<ws.length:=by
 induction f generalizing k with
 |zero=>omega
 |succ f ih=>
  rw[Xx]
  split
  ·rename_i h
   obtain⟨a,e,_,ha,_⟩:=Kb h
   unfold stW
   rw[e]
   omega
  ·rename_i h
   by_cases e:f=0
   ·subst e
    have hk:k=x.length:=by omega
    rw[hk,List.drop_length] at h
    exact absurd h0 h
   ·exact ih (by omega) (by omega)
def T3 (ws:List (List Int))(s:Nat)(e:Int):Int:=Xx ws (wd ws s++[e]) 0 ((wd ws s++[e]).length+1-0)
def Q9 (A:Au)(ws:List (List Int))(s e:Int):Int:=
 if s<0\/(ws.length:Int)<=s\/e<0\/4000<=e then -1
 else if bat A.bd s.toNat=true\/(iat A.mu s.toNat≠-1/\iat A.mu s.toNat≠e) then -1
 else if bat A.bd (T3 ws s.toNat e).toNat=true then -1 else T3 ws s.toNat e
structure Qdq (A:Au)(ws:List (List Int))(n:Nat):Prop where
 l:ws.length=n
 m:A.mu.length=n
 b:A.bd.length=n
 n:n<=2000
 asc:Y2 ws
 len:∀i,(wd ws i).length<=402
 e:0<=stW ws []
theorem Q8.cellAt {B:Nat}{w w':World}{a:Option Addr}{n c:Nat}{xs:List Int}(h:Q8 B w (sL a n c) xs)(k:Nx w w'){i:Nat}(hi:i<n):∃b off,a=some (aD b off)/\w'.cell? (aD b (off+i))=some (iV (iat xs i)):=by
 obtain⟨a',c',e,_,hk⟩:=h
 simp only[zC] at e
 obtain⟨rfl,rfl,rfl⟩:=e
 obtain⟨b,off,ha,_,hb,hc⟩:=hk (by omega)
 exact⟨b,off,ha,Q0 k hb (hc i hi)⟩
theorem P9.rowAt {B:Nat}{w:World}{a:Option Addr}{n c:Nat}{xs:List Bool}(h:P9 B w (sL a n c) xs)(h0:0<n):∃b off,a=some (aD b off)/\b<w.heap.size/\∀i,i<n->w.cell? (aD b (off+i))=some (.bool (bat xs i)):=by
 obtain⟨a',c',e,_,hk⟩:=h
 simp only[zC] at e
 obtain⟨rfl,rfl,rfl⟩:=e
 obtain⟨b,off,ha,_,hb,hc⟩:=hk h0
 exact⟨b,off,ha,hb,hc⟩
theorem K8 (B Bw:Nat)(v0 v1 v2:Value)(a3 a4 aw:Option Addr)(n c3 c4 cw:Nat)(A:Au)(ws:List (List Int))(s e:Int)(w:World)(h0:HA B w v0 v1 v2 (sL a3 n c3) (sL a4 n c4) A)(hw:J7 Bw w (sL aw n cw) ws)(hW:Qdq A ws n) :
  Calls prog 26 #[.agg #[v0,v1,v2,sL a3 n c3,sL a4 n c4],sL aw n cw,iV s,iV e] w λr w'=>r=.returned (iV (Q9 A ws s e))/\Nx w w':=by
 have HWD:Z (J7 Bw w (sL aw n cw) ws):=hw
 have HWS:Z (Qdq A ws n):=hW
 have HD:Z (Q9 A ws s e=if s<0\/(n:Int)<=s\/e<0\/4000<=e then -1 else if bat A.bd s.toNat=true\/(iat A.mu s.toNat≠-1/\iat A.mu s.toNat≠e) then -1 else if bat A.bd (T3 ws s.toNat e).toNat=true then -1 else T3 ws s.toNat e):=by unfold Z Q9;rw[hW.l]
 have hn:=hW.n
 have h3:=h0.h3
 have h4:=h0.h4
 clear h0 hW
 by_cases g1:s<0
 ·have f1:decide (s<0)=true:=by simpa using g1
  have HF:Z (-1=Q9 A ws s e):=by unfold Z;rw[HD.o,if_pos (oL g1)]
  clear g1
  go_enter func26,ntmps26
  go_wp2
  go_ret
  exact⟨Qv HF.o,Q4 _ _⟩
 have f1:decide (s<0)=false:=by simpa using g1
 by_cases g2:(n:Int)<=s
 ·have f2:decide ((n:Int)<=s)=true:=by simpa using g2
  have HF:Z (-1=Q9 A ws s e):=by unfold Z;rw[HD.o,if_pos (oR (oL g2))]
  clear g1 g2
  go_enter func26,ntmps26
  go_wp2
  go_ret
  exact⟨Qv HF.o,Q4 _ _⟩
 have f2:decide ((n:Int)<=s)=false:=by simpa using g2
 by_cases g3:e<0
 ·have f3:decide (e<0)=true:=by simpa using g3
  have HF:Z (-1=Q9 A ws s e):=by unfold Z;rw[HD.o,if_pos (oR (oR (oL g3)))]
  clear g1 g2 g3
  go_enter func26,ntmps26
  go_wp2
  go_ret
  exact⟨Qv HF.o,Q4 _ _⟩
 have f3:decide (e<0)=false:=by simpa using g3
 by_cases g4:4000<=e
 ·have f4:decide (4000<=e)=true:=by simpa using g4
  have HF:Z (-1=Q9 A ws s e):=by unfold Z;rw[HD.o,if_pos (oR (oR (oR g4)))]
  clear g1 g2 g3 g4
  go_enter func26,ntmps26
  go_wp2
  go_ret
  exact⟨Qv HF.o,Q4 _ _⟩
 have f4:decide (4000<=e)=false:=by simpa using g4
 obtain⟨k,rfl⟩:∃k:Nat,s=(k:Int):=⟨s.toNat,by omega⟩
 have hkn:k<n:=by omega
 have hkn':(k:Int)<n:=by omega
 have HD2:Z (Q9 A ws k e=if bat A.bd k=true\/(iat A.mu k≠-1/\iat A.mu k≠e) then -1 else if bat A.bd (T3 ws k e).toNat=true then -1 else T3 ws k e):=by
  unfold Z
  rw[HD.o,if_neg (by omega),zX]
 clear g1 g2 g3 g4 HD
 obtain⟨b3,o3,ha3,y3⟩:=h3.cellAt (Nx.refl w) hkn
 obtain⟨b4,o4,ha4,hb4,hc4⟩:=h4.rowAt (by omega)
 subst ha3 ha4
 have HC4:Z (∀i,i<n->w.cell? (aD b4 (o4+i))=some (.bool (bat A.bd i))):=hc4
 have x3:=Lib.cell?_alloc_some (.cells #[v0,v1,v2,sL (some (aD b3 o3)) n c3,sL (some (aD b4 o4)) n c4] 56) y3
 have x4:=Lib.cell?_alloc_some (.cells #[v0,v1,v2,sL (some (aD b3 o3)) n c3,sL (some (aD b4 o4)) n c4] 56) (hc4 k hkn)
 clear hc4 h3 h4 y3
 cases g5:bat A.bd k
 case true=>
  have HF:Z (-1=Q9 A ws k e):=by unfold Z;rw[HD2.o,if_pos (oL g5)]
  rw[g5] at x4
  clear g5
  go_enter func26,ntmps26
  go_wp2
  go_ret
  exact⟨Qv HF.o,Q4 _ _⟩
 rw[g5] at x4
 by_cases g6:iat A.mu k=-1\/iat A.mu k=e
 case neg=>
  have f6:(iat A.mu k !=-1)=true:=by simp;omega
  have f7:(iat A.mu k !=e)=true:=by simp;omega
  have HF:Z (-1=Q9 A ws k e):=by unfold Z;rw[HD2.o,if_pos (oR (by omega))]
  clear g5 g6
  go_enter func26,ntmps26
  go_wp2
  go_ret
  exact⟨Qv HF.o,Q4 _ _⟩
 have HD3:Z (Q9 A ws k e=if bat A.bd (T3 ws k e).toNat=true then -1 else T3 ws k e):=by
  unfold Z
  rw[HD2.o,if_neg (by rw[g5];simp;omega)]
 have HLB:Z (0<=T3 ws k e/\T3 ws k e<n):=by
  have:=Q88 (ws:=ws) (x:=wd ws k++[e]) HWS.o.e (k:=0) (f:=(wd ws k++[e]).length+1-0) (by omega) (by omega)
  rw[HWS.o.l] at this
  exact this
 have HLD:Z (T3 ws k e=Xx ws (wd ws k++[e]) 0 ((wd ws k++[e]).length+1-0)):=rfl
 have W0:Z (∀o:Obj,Nx w (w.alloc o)):=λo=>Q4 w o
 obtain⟨gw,ow,hav,hcw⟩:=HWD.o.at (by omega)
 subst hav
 obtain⟨vi,hv1,hv2,_⟩:=hcw k hkn
 have HV1:Z (w.cell? (aD gw (ow+k))=some vi):=hv1
 have HV2:Z (Q8 Bw w vi (wd ws k)):=hv2
 have z1:=Lib.cell?_alloc_some (.cells #[v0,v1,v2,sL (some (aD b3 o3)) n c3,sL (some (aD b4 o4)) n c4] 56) hv1
 have HBX:Z (Blk (w.alloc (.cells #[v0,v1,v2,sL (some (aD b3 o3)) n c3,sL (some (aD b4 o4)) n c4] 56)) w.heap.size #[v0,v1,v2,sL (some (aD b3 o3)) n c3,sL (some (aD b4 o4)) n c4]):=Blk.new w _ 56 _ rfl
 clear hcw hv1 hv2 HD2 g5
 have ht:∃t1 t2:Bool,(iat A.mu k !=-1)=t1/\(iat A.mu k !=e)=t2/\(t1&&t2)=false:=⟨_,_,rfl,rfl,by simp;omega⟩
 obtain⟨t1,t2,f6,f7,f8⟩:=ht
 clear g6
 go_enter func26,ntmps26
 cases t1
 ·go_wp2_with fail
  refine(Zx Bw (w.heap.size+1) _ _ (wd ws k) [e] _ (by exact HV2.o.next (Zk _ _ _)) (by exact(Q3z w _ e).held) (by have:=HWS.o.len k;omega) (by simp)).mono ?_
  rintro r w1 ⟨⟨u,rfl,hu⟩,hx⟩
  have HN1:Z (Nx w w1):=(Zk _ _ _).trans hx
  have HB1:=(HBX.o.alloc (.cells #[iV e] 2)).next hx
  have HU1:Z (Qd (w.heap.size+2) w1 u (wd ws k++[e])):=by unfold Z;simpa using hu
  clear hx hu x3 x4 z1
  go_wp2_with fail
  refine(W8 Bw (w.heap.size+2) _ _ ws (wd ws k++[e]) 0 _ (by exact HWD.o.next HN1.o) (by exact HU1.o.held) HWS.o.asc (by rw[HWS.o.l];omega) (by have:=HWS.o.len k;simp;omega) (by omega) HU1.o.capOk).mono ?_
  rintro r w2 ⟨rfl,hx⟩
  rw[<-HLD.o]
  obtain⟨z,hz⟩:∃z:Nat,T3 ws k e=(z:Int):=⟨(T3 ws k e).toNat,by have:=HLB.o.1;omega⟩
  have hzn:z<n:=by have:=HLB.o.2;omega
  have hzn':(z:Int)<n:=by omega
  have HN2:Z (Nx w w2):=HN1.o.trans hx
  have HB2:=HB1.next hx
  have k4:=HB2.c 4 rfl
  have x4:=Q0 HN2.o hb4 (HC4.o z hzn)
  rw[hz] at HD3 ⊢
  rw[zX] at HD3
  clear hx hz HB1 HB2
  cases g9:bat A.bd z
  ·have HF:Z ((z:Int)=Q9 A ws k e):=by unfold Z;rw[HD3.o,if_neg (by rw[g9];simp)]
   rw[g9] at x4
   clear g9
   go_wp2
   go_ret
   exact⟨Qv HF.o,HN2.o⟩
  ·have HF:Z (-1=Q9 A ws k e):=by unfold Z;rw[HD3.o,if_pos g9]
   rw[g9] at x4
   clear g9
   go_wp2
   go_ret
   exact⟨Qv HF.o,HN2.o⟩
 ·cases t2
  ·go_wp2_with fail
   refine(Zx Bw (w.heap.size+1) _ _ (wd ws k) [e] _ (by exact HV2.o.next (Zk _ _ _)) (by exact(Q3z w _ e).held) (by have:=HWS.o.len k;omega) (by simp)).mono ?_
   rintro r w1 ⟨⟨u,rfl,hu⟩,hx⟩
   have HN1:Z (Nx w w1):=(Zk _ _ _).trans hx
   have HB1:=(HBX.o.alloc (.cells #[iV e] 2)).next hx
   have HU1:Z (Qd (w.heap.size+2) w1 u (wd ws k++[e])):=by unfold Z;simpa using hu
   clear hx hu x3 x4 z1
   go_wp2_with fail
   refine(W8 Bw (w.heap.size+2) _ _ ws (wd ws k++[e]) 0 _ (by exact HWD.o.next HN1.o) (by exact HU1.o.held) HWS.o.asc (by rw[HWS.o.l];omega) (by have:=HWS.o.len k;simp;omega) (by omega) HU1.o.capOk).mono ?_
   rintro r w2 ⟨rfl,hx⟩
   rw[<-HLD.o]
   obtain⟨z,hz⟩:∃z:Nat,T3 ws k e=(z:Int):=⟨(T3 ws k e).toNat,by have:=HLB.o.1;omega⟩
   have hzn:z<n:=by have:=HLB.o.2;omega
   have hzn':(z:Int)<n:=by omega
   have HN2:Z (Nx w w2):=HN1.o.trans hx
   have HB2:=HB1.next hx
   have k4:=HB2.c 4 rfl
   have x4:=Q0 HN2.o hb4 (HC4.o z hzn)
   rw[hz] at HD3 ⊢
   rw[zX] at HD3
   clear hx hz HB1 HB2
   cases g9:bat A.bd z
   ·have HF:Z ((z:Int)=Q9 A ws k e):=by unfold Z;rw[HD3.o,if_neg (by rw[g9];simp)]
    rw[g9] at x4
    clear g9
    go_wp2
    go_ret
    exact⟨Qv HF.o,HN2.o⟩
   ·have HF:Z (-1=Q9 A ws k e):=by unfold Z;rw[HD3.o,if_pos g9]
    rw[g9] at x4
    clear g9
    go_wp2
    go_ret
    exact⟨Qv HF.o,HN2.o⟩
  ·simp at f8
end Go.Proofs.YtahpodmokbdjeaaGreatDoor
namespace Go.Proofs.YtahpodmokbdjeaaGreatDoor
open Go.RowKit
set_option linter.unusedVariables false
set_option maxRecDepth 1000000
set_option maxHeartbeats 16000000
def wsA (A:Au):List (List Int):=(Qp A A.pa.length).1
theorem Q69 {A:Au}{s:Nat}{ws:List (List Int)}(h:Qp A (s+1)=(ws,true)):wd ws 0=[]:=by
 induction s generalizing ws with
 |zero=>
  rw[Qp] at h
  split at h
  ·obtain⟨rfl,_⟩:=Prod.mk.inj h
   rfl
  ·obtain⟨_,h2⟩:=Prod.mk.inj h
   simp at h2
 |succ s ih=>
  rw[Qp] at h
  split at h
  ·rename_i hc
   simp only[zH] at hc
   have h1:=ih (ws:=(Qp A (s+1)).1) (by rw[<-hc.1])
   have hl:=It.1 hc.1
   obtain⟨rfl,_⟩:=Prod.mk.inj h
   rw[Uy (by omega)]
   exact h1
  ·obtain⟨_,h2⟩:=Prod.mk.inj h
   simp at h2
theorem Q7i {A:Au}(h:Uj A=true):Qdq A (wsA A) A.pa.length/\A.la.length=A.pa.length/\A.fa.length=A.pa.length/\1<=A.pa.length:=by
 unfold Uj at h
 simp only[zH] at h
 obtain⟨h1,h2,h3,h4,h5,h6⟩:=h
 unfold Gb at h1
 simp only[zH,decide_eq_true_eq,beq_iff_eq] at h1
 obtain⟨q1,q2,q3,q4,q5,q6⟩:=h1
 have hs:Qp A A.pa.length=(wsA A,true):=by rw[<-h2];rfl
 have hl:(wsA A).length=A.pa.length:=It.1 h2
 obtain⟨m,hm⟩:∃m,A.pa.length=m+1:=⟨A.pa.length-1,by omega⟩
 have hz:wd (wsA A) 0=[]:=by rw[hm] at hs;exact Q69 hs
 refine⟨⟨hl,q5,q6,q2,Q9j hs,Q0p hs,?_⟩,q3,q4,q1⟩
 have:stW (wsA A) []=((0:Nat):Int):=Wj lR (by omega) (by rw[hz];rfl) (λb _ hb=>absurd hb (zM _))
 rw[this]
 omega
def wl (A:Au):Nat->List (List Int)
 |0=>[]
 |s+1=>wl A s++[if s=0 then [] else nw A (wl A s) s]
theorem Fw (A:Au)(s:Nat):(wl A s).length=s:=by
 induction s with
 |zero=>rfl
 |succ s ih=>rw[wl,zA,ih];rfl
def Wd (A:Au)(s:Nat):List Int:=if s=0 then [] else nw A (wl A s) s
theorem Kf {A:Au}{m s:Nat}(h:s<m):wd (wl A m) s=Wd A s:=by
 induction m with
 |zero=>omega
 |succ m ih=>
  rw[wl]
  by_cases e:s<m
  ·rw[Uy (by rw[Fw];exact e)]
   exact ih e
  ·have:s=m:=by omega
   subst this
   rw[Fy (by rw[Fw])]
   rfl
theorem Ih (A:Au):Wd A 0=[]:=rfl
theorem Ww {A:Au}{s:Nat}(h:okR A s=true):0<=iat A.pa s/\iat A.pa s<s/\0<=iat A.la s/\iat A.la s<4000:=by
 simp only[okR,zH,decide_eq_true_eq] at h
 omega
theorem Tb {A:Au}{s:Nat}(h:okR A s=true)(h0:1<=s):Wd A s=Wd A (iat A.pa s).toNat++[iat A.la s]:=by
 have:=Ww h
 unfold Wd
 rw[if_neg (by omega)]
 unfold nw
 rw[Kf (by omega)]
 rfl
theorem Q0q (A:Au)(s:Nat):(Qp A s).2=Je s (λt=>okS A (wl A t) t)/\((Qp A s).2=true->Qp A s=(wl A s,true)):=by
 induction s with
 |zero=>exact⟨rfl,λ_=>rfl⟩
 |succ s ih=>
  have ea:Je (s+1) (λt=>okS A (wl A t) t)=(Je s (λt=>okS A (wl A t) t)&&okS A (wl A s) s):=by
   unfold Je
   rw[List.range_succ,List.all_append]
   simp
  rw[ea,<-ih.1]
  cases hf:(Qp A s).2 with
  |false=>
   rw[Qp,hf]
   simp
  |true=>
   have hs:=ih.2 hf
   rw[Qp,hs]
   simp only[Bool.true_and]
   by_cases ho:okS A (wl A s) s=true
   ·rw[if_pos ho]
    exact⟨ho.symm,λ_=>rfl⟩
   ·rw[if_neg ho]
    exact⟨by simp at ho;rw[ho],λh=>by simp at h⟩
theorem Qcf {x y:List Int}(a b:Int)(h:x.length=y.length):Uu (x++[a]) (y++[b])=(Uu x y||(decide (x=y)&&decide (a<b))):=by
 induction x generalizing y with
 |nil=>
  match y,h with
  |[],_=>
   simp only[List.nil_append,Uu]
   by_cases e:a=b
   ·subst e;simp
   ·rw[if_neg e];simp
 |cons c x ih=>
  match y,h with
  |d::y,h=>
   simp only[List.cons_append,Uu]
   by_cases e:c=d
   ·subst e
    rw[if_pos rfl,if_pos rfl,ih (by simpa using h)]
    simp
   ·rw[if_neg e,if_neg e]
    simp[e]
theorem Ai (x y:List Int)(a b:Int):Vv (x++[a]) (y++[b])=(Vv x y||(decide (x=y)&&decide (a<b))):=by
 unfold Vv
 by_cases e:x.length=y.length
 ·rw[if_pos (by simp[e]),if_pos e]
  exact Qcf a b e
 ·have:x≠y:=λh=>e (by rw[h])
  rw[if_neg (by simp[e]),if_neg e]
  simp[this]
def Xv (A:Au)(s:Nat):Bool:=decide (iat A.pa (s-1)<iat A.pa s)||(decide (iat A.pa (s-1)=iat A.pa s)&&decide (iat A.la (s-1)<iat A.la s))
def At (A:Au)(s:Nat):Prop:=∀i j,i<j->j<s->Vv (Wd A i) (Wd A j)=true
theorem At.ne {A:Au}{s i j:Nat}(h:At A s)(hi:i<s)(hj:j<s):Vv (Wd A i) (Wd A j)=decide (i<j)/\decide (Wd A i=Wd A j)=decide (i=j):=by
 rcases Nat.lt_trichotomy i j with e|rfl|e
 ·have hb:=h i j e hj
  refine⟨by rw[hb];simp[e],?_⟩
  have:Wd A i≠Wd A j:=λh'=>by rw[h',Vm] at hb;simp at hb
  simp[this]
  omega
 ·exact⟨by rw[Vm];simp,by simp⟩
 ·have hb:=h j i e hi
  refine⟨?_,?_⟩
  ·cases e2:Vv (Wd A i) (Wd A j) with
   |false=>symm;simp;omega
   |true=>
    have:=Za hb e2
    rw[Vm] at this
    simp at this
  ·have:Wd A i≠Wd A j:=λh'=>by rw[h',Vm] at hb;simp at hb
   simp[this]
   omega
theorem Q5m {A:Au}{s:Nat}(hr:iat A.pa 0=-1)(ho:∀t,1<=t->t<=s->okR A t=true)(ha:At A s)(hs:1<=s):Vv (Wd A (s-1)) (Wd A s)=Xv A s:=by
 have h1:=Ww (ho s hs lR)
 rw[Tb (ho s hs lR) hs]
 by_cases e:s=1
 ·subst e
  have hp:iat A.pa 1=0:=by omega
  have:Xv A 1=true:=by
   unfold Xv
   simp only[Nat.sub_self]
   rw[hr,hp]
   rfl
  rw[this,Nat.sub_self,Ih,hp]
  show Vv [] ([]++[iat A.la 1])=true
  rfl
 ·have h2:=Ww (ho (s-1) (by omega) (by omega))
  obtain⟨q1,q2⟩:=ha.ne (i:=(iat A.pa (s-1)).toNat) (j:=(iat A.pa s).toNat) (by omega) (by omega)
  rw[Tb (ho (s-1) (by omega) (by omega)) (by omega),Ai,q1,q2]
  unfold Xv
  congr 1
  ·simp;omega
  ·congr 1
   simp
   omega
theorem Qho {A:Au}{s:Nat}(ha:At A s)(hb:1<=s->Vv (Wd A (s-1)) (Wd A s)=true):At A (s+1):=by
 intro i j hij hj
 by_cases e:j<s
 ·exact ha i j hij e
 ·have:j=s:=by omega
  subst this
  have h1:=hb (by omega)
  rcases Nat.lt_or_eq_of_le (show i<=j-1 by omega) with h2|h2
  ·exact Za (ha i (j-1) h2 (by omega)) h1
  ·rw[h2];exact h1
def okI (A:Au)(s:Nat):Bool:=if s=0 then (iat A.pa 0==-1)&&(iat A.la 0==-1) else okR A s&&(decide ((Wd A s).length<=402)&&Xv A s)
theorem Is {A:Au}(s:Nat):Je s (λt=>okS A (wl A t) t)=Je s (okI A)/\(Je s (okI A)=true->At A s):=by
 induction s with
 |zero=>exact⟨rfl,λ_ i j h1 h2=>absurd h2 (zM _)⟩
 |succ s ih=>
  have e1:∀p:Nat->Bool,Je (s+1) p=(Je s p&&p s):=λp=>by
   unfold Je
   rw[List.range_succ,List.all_append]
   simp
  rw[e1,e1,ih.1]
  cases hf:Je s (okI A) with
  |false=>exact⟨rfl,λh=>by simp at h⟩
  |true=>
   have hasc:=ih.2 hf
   simp only[Bool.true_and]
   have ho:∀t,1<=t->t<s->okR A t=true:=λt h1 h2=>by
    have:=List.all_eq_true.1 hf t (List.mem_range.2 h2)
    unfold okI at this
    rw[if_neg (by omega)] at this
    simp only[zH] at this
    exact this.1
   have key:okS A (wl A s) s=okI A s:=by
    unfold okS okI
    by_cases e:s=0
    ·rw[if_pos e,if_pos e]
    ·rw[if_neg e,if_neg e]
     unfold okW
     have eW:nw A (wl A s) s=Wd A s:=by unfold Wd;rw[if_neg e]
     rw[eW,Kf (by omega)]
     cases hr:okR A s with
     |false=>rfl
     |true=>
      have hz:iat A.pa 0=-1:=by
       have:=List.all_eq_true.1 hf 0 (List.mem_range.2 (by omega))
       unfold okI at this
       rw[if_pos rfl] at this
       simp only[zH,beq_iff_eq] at this
       exact this.1
      rw[Q5m hz (λt h1 h2=>by rcases Nat.lt_or_eq_of_le h2 with h3|rfl;exact ho t h1 h3;exact hr) hasc (by omega)]
   refine⟨key,λh=>Qho hasc λh1=>?_⟩
   rw[<-key] at h
   unfold okS okW at h
   rw[if_neg (by omega)] at h
   simp only[zH] at h
   have h3:=h.2.2
   rw[Kf (by omega)] at h3
   unfold Wd
   rw[if_neg (show ¬s=0 by omega)]
   exact h3
structure Zc (A:Au)(n:Nat):Prop where
 pos:1<=n
 ok:∀t,1<=t->t<n->okR A t=true
 asc:At A n
theorem Zc.inj {A:Au}{n i j:Nat}(h:Zc A n)(hi:i<n)(hj:j<n)(e:Wd A i=Wd A j):i=j:=by
 have:=(h.asc.ne hi hj).2
 rw[yH (by exact e)] at this
 simpa using this.symm
theorem Q1u {A:Au}{n s:Nat}(h:Zc A n)(hs:s<n):stW (wl A n) (Wd A s)=s:=by
 unfold stW
 rw[Fw]
 refine Wj nZ (by omega) ?_ λb _ hb=>?_
 ·rw[Kf hs];simp
 ·rw[Kf (by omega),decide_eq_false_iff_not]
  intro e
  have:=h.inj (by omega) hs e
  omega
theorem Fg {A:Au}{n:Nat}{x:List Int}(h:0<=stW (wl A n) x):∃s,s<n/\Wd A s=x/\stW (wl A n) x=s:=by
 unfold stW at h ⊢
 rw[Fw] at h ⊢
 obtain⟨a,e,_,ha,hf⟩:=Kb h
 refine⟨a,by omega,?_,e⟩
 rw[Kf (by omega)] at hf
 simpa using hf
theorem Qdr {A:Au}{n s:Nat}(h:Zc A n)(h1:1<=s)(hs:s<n):Wd A s≠[]:=by
 rw[Tb (h.ok s h1 hs) h1]
 simp
def Gs (A:Au)(n s:Nat)(e:Int)(t:Nat):Prop:=1<=t/\t<n/\iat A.pa t=s/\iat A.la t=e
theorem Gs.word {A:Au}{n s t:Nat}{e:Int}(h:Zc A n)(hc:Gs A n s e t):Wd A t=Wd A s++[e]:=by
 rw[Tb (h.ok t hc.1 hc.2.1) hc.1,hc.2.2.1,hc.2.2.2,zX]
theorem ch_of {A:Au}{n s:Nat}{e:Int}(h:Zc A n)(hs:s<n)(hp:0<=stW (wl A n) (Wd A s++[e])):∃t,Gs A n s e t/\stW (wl A n) (Wd A s++[e])=t:=by
 obtain⟨t,ht,hw,hst⟩:=Fg hp
 have h1:1<=t:=by
  rcases Nat.eq_zero_or_pos t with e0|e0
  ·subst e0
   rw[Ih] at hw
   simp at hw
  ·exact e0
 have ho:=Ww (h.ok t h1 ht)
 rw[Tb (h.ok t h1 ht) h1] at hw
 obtain⟨h2,h3⟩:=List.append_inj' hw rfl
 have:=h.inj (i:=(iat A.pa t).toNat) (j:=s) (by omega) hs h2
 exact⟨t,⟨h1,ht,by omega,by simpa using h3⟩,hst⟩
theorem Qbq {A:Au}{n:Nat}{x:List Int}{e:Int}(h:Zc A n)(hp:0<=stW (wl A n) (x++[e])):0<=stW (wl A n) x:=by
 obtain⟨t,ht,hw,_⟩:=Fg hp
 have h1:1<=t:=by
  rcases Nat.eq_zero_or_pos t with e0|e0
  ·subst e0
   rw[Ih] at hw
   simp at hw
  ·exact e0
 have ho:=Ww (h.ok t h1 ht)
 rw[Tb (h.ok t h1 ht) h1] at hw
 obtain⟨h2,_⟩:=List.append_inj' hw rfl
 rw[<-h2,Q1u h (by omega)]
 omega
def LW (ws:List (List Int))(x:List Int)(k:Nat):Int:=Xx ws x k (x.length+1-k)
theorem Q33 {ws:List (List Int)}{x:List Int}{k:Nat}(hk:k<=x.length)(h:0<=stW ws (x.drop k)):LW ws x k=stW ws (x.drop k):=by
 unfold LW
 rw[show x.length+1-k=(x.length-k)+1 by omega,Xx,if_pos h]
theorem Ii {ws:List (List Int)}{x:List Int}{k:Nat}(hk:k<=x.length)(h:¬0<=stW ws (x.drop k)):LW ws x k=LW ws x (k+1):=by
 unfold LW
 rw[show x.length+1-k=(x.length+1-(k+1))+1 by omega,Xx,if_neg h]
theorem Qce {ws:List (List Int)}(x:List Int)(j k f:Nat):Xx ws (x.drop j) k f=Xx ws x (j+k) f:=by
 induction f generalizing k with
 |zero=>rw[Xx,Xx]
 |succ f ih=>rw[Xx,Xx,List.drop_drop,ih,Nat.add_assoc]
theorem Q93 {ws:List (List Int)}{x:List Int}{j:Nat}(hj:j<=x.length):LW ws (x.drop j) 0=LW ws x j:=by
 unfold LW
 rw[Qce,List.length_drop,Nat.add_zero]
 congr 1
 omega
theorem Qb3 {A:Au}{n:Nat}(h:Zc A n):stW (wl A n) []=((0:Nat):Int):=by
 have:=Q1u h (s:=0) h.pos
 rwa [Ih] at this
theorem Q34 {A:Au}{n:Nat}(h:Zc A n)(x:List Int):LW (wl A n) x x.length=0:=by
 rw[Q33 lR (by rw[List.drop_length,Qb3 h];omega),List.drop_length,Qb3 h]
 rfl
theorem Aq {A:Au}{n:Nat}(h:Zc A n)(x:List Int){k:Nat}(hk:k<=x.length):∃v j,v<n/\LW (wl A n) x k=v/\k<=j/\j<=x.length/\Wd A v=x.drop j:=by
 generalize hd:x.length-k=d
 induction d generalizing k with
 |zero=>
  have:k=x.length:=by omega
  subst this
  exact⟨0,x.length,h.pos,Q34 h x,lR,lR,by rw[List.drop_length];rfl⟩
 |succ d ih=>
  by_cases hp:0<=stW (wl A n) (x.drop k)
  ·obtain⟨s,hs,hw,hst⟩:=Fg hp
   exact⟨s,k,hs,by rw[Q33 hk hp,hst],lR,hk,hw⟩
  ·obtain⟨v,j,h1,h2,h3,h4,h5⟩:=ih (k:=k+1) (by omega) (by omega)
   exact⟨v,j,h1,by rw[Ii hk hp,h2],by omega,h4,h5⟩
theorem Q5v {A:Au}{n:Nat}(h:Zc A n)(x:List Int)(e:Int){k v:Nat}(hk:k<=x.length)(hv:LW (wl A n) x k=v):LW (wl A n) (x++[e]) k=LW (wl A n) (Wd A v++[e]) 0:=by
 generalize hd:x.length-k=d
 induction d generalizing k with
 |zero=>
  have:k=x.length:=by omega
  subst this
  have hv0:v=0:=by rw[Q34 h x] at hv;omega
  subst hv0
  have:(x++[e]).drop x.length=[e]:=by simp
  rw[<-Q93 (x:=x++[e]) (by simp),this]
  rfl
 |succ d ih=>
  by_cases hp:0<=stW (wl A n) (x.drop k)
  ·obtain⟨s,hs,hw,hst⟩:=Fg hp
   rw[Q33 hk hp,hst] at hv
   have:s=v:=by omega
   subst this
   have:(x++[e]).drop k=x.drop k++[e]:=by rw[List.drop_append_of_le_length hk]
   rw[<-Q93 (x:=x++[e]) (by simp;omega),this,hw]
  ·have hn:¬0<=stW (wl A n) ((x++[e]).drop k):=λhq=>hp (by rw[List.drop_append_of_le_length hk] at hq;exact Qbq h hq)
   rw[Ii (by simp;omega) hn]
   rw[Ii hk hp] at hv
   exact ih (by omega) hv (by omega)
def failOf (A:Au)(n s:Nat):Nat:=(LW (wl A n) (Wd A s) 1).toNat
theorem Ug {A:Au}{n s:Nat}(h:Zc A n)(h1:1<=s)(hs:s<n):LW (wl A n) (Wd A s) 1=(failOf A n s:Int)/\failOf A n s<s:=by
 have hne:=Qdr h h1 hs
 have hl:1<=(Wd A s).length:=List.length_pos_iff.2 hne
 obtain⟨v,j,hv,e,hj,hj2,hw⟩:=Aq h (Wd A s) (k:=1) hl
 have ev:failOf A n s=v:=by unfold failOf;rw[e,zX]
 rw[ev]
 refine⟨e,?_⟩
 have hlen:(Wd A v).length<(Wd A s).length:=by rw[hw,List.length_drop];omega
 have hb:Vv (Wd A v) (Wd A s)=true:=by
  unfold Vv
  rw[if_neg (by omega)]
  simpa using hlen
 rw[(h.asc.ne hv hs).1] at hb
 simpa using hb
def goOf (A:Au)(n s:Nat)(e:Int):Nat:=(LW (wl A n) (Wd A s++[e]) 0).toNat
theorem Q8m {A:Au}{n s:Nat}(h:Zc A n)(hs:s<n)(e:Int):LW (wl A n) (Wd A s++[e]) 0=(goOf A n s e:Int)/\goOf A n s e<n:=by
 obtain⟨v,j,hv,e1,_⟩:=Aq h (Wd A s++[e]) (k:=0) nZ
 have:goOf A n s e=v:=by unfold goOf;rw[e1,zX]
 rw[this]
 exact⟨e1,hv⟩
theorem Qd3 {A:Au}{n s t:Nat}{e:Int}(h:Zc A n)(hs:s<n)(hc:Gs A n s e t):goOf A n s e=t:=by
 have hw:=hc.word h
 have hst:=Q1u h hc.2.1
 rw[hw] at hst
 unfold goOf
 rw[Q33 nZ (by rw[List.drop_zero,hst];omega),List.drop_zero,hst,zX]
theorem Q46 {A:Au}{n s:Nat}{e:Int}(h:Zc A n)(hs:s<n)(hc:∀t,¬Gs A n s e t):¬0<=stW (wl A n) (Wd A s++[e]):=λhp=>by
 obtain⟨t,ht,_⟩:=ch_of h hs hp
 exact hc t ht
theorem Qfa {A:Au}{n:Nat}{e:Int}(h:Zc A n)(hc:∀t,¬Gs A n 0 e t):goOf A n 0 e=0:=by
 have hn:=Q46 h h.pos hc
 unfold goOf
 rw[Ii nZ (by rw[List.drop_zero];exact hn)]
 have:(Wd A 0++[e]).length=1:=rfl
 have h2:=Q34 h (Wd A 0++[e])
 rw[this] at h2
 rw[h2]
 rfl
theorem Qfb {A:Au}{n s:Nat}{e:Int}(h:Zc A n)(h1:1<=s)(hs:s<n)(hc:∀t,¬Gs A n s e t):goOf A n s e=goOf A n (failOf A n s) e:=by
 have hn:=Q46 h hs hc
 have hl:1<=(Wd A s).length:=List.length_pos_iff.2 (Qdr h h1 hs)
 unfold goOf
 rw[Ii nZ (by rw[List.drop_zero];exact hn),Q5v h (Wd A s) e hl (Ug h h1 hs).1]
theorem Ad {A:Au}{n s t:Nat}{e:Int}(h:Zc A n)(hs:s<n)(hc:Gs A n s e t):failOf A n t=if s=0 then 0 else goOf A n (failOf A n s) e:=by
 have hw:=hc.word h
 by_cases e0:s=0
 ·subst e0
  rw[if_pos rfl]
  unfold failOf
  rw[hw]
  have:(Wd A 0++[e]).length=1:=rfl
  have h2:=Q34 h (Wd A 0++[e])
  rw[this] at h2
  rw[h2]
  rfl
 ·rw[if_neg e0]
  have hl:1<=(Wd A s).length:=List.length_pos_iff.2 (Qdr h (by omega) hs)
  show(LW (wl A n) (Wd A t) 1).toNat=_
  rw[hw,Q5v h (Wd A s) e hl (Ug h (by omega) hs).1]
  rfl
theorem Q7o {A:Au}{n:Nat}(hn:1<=n)(h:Je n (okI A)=true):Zc A n:=by
 refine⟨hn,λt h1 h2=>?_,(Is n).2 h⟩
 have:=List.all_eq_true.1 h t (List.mem_range.2 h2)
 unfold okI at this
 rw[if_neg (by omega)] at this
 simp only[zH] at this
 exact this.1
def muI (A:Au)(s:Nat):Bool:=if s=0 then (iat A.mu 0==-1)&&!bat A.bd 0 else decide (-2<=iat A.mu s)&&decide (iat A.mu s<4000)
def faI (A:Au)(n s:Nat):Bool:=iat A.fa s==(if s=0 then -1 else (failOf A n s:Int))
def Q1q (A:Au):Bool:=Gb A&&(Je A.pa.length (okI A)&&(Je A.pa.length (muI A)&&Je A.pa.length (faI A A.pa.length)))
theorem Am {n:Nat}{p:Nat->Bool}(hn:1<=n):Je n p=(p 0&&Je n (λs=>s==0||p s)):=by
 unfold Je
 rw[Bool.eq_iff_iff,zH,List.all_eq_true,List.all_eq_true]
 constructor
 ·intro h
  exact⟨h 0 (List.mem_range.2 hn),λs hs=>by rw[h s hs];simp⟩
 ·rintro⟨h0,h⟩ s hs
  by_cases e:s=0
  ·rw[e];exact h0
  ·have:=h s hs
   simpa [e] using this
theorem Q7e {n:Nat}{p q:Nat->Bool}(h:∀s,s<n->p s=q s):Je n p=Je n q:=by
 unfold Je
 rw[Bool.eq_iff_iff,List.all_eq_true,List.all_eq_true]
 constructor
 ·intro k s hs;rw[<-h s (List.mem_range.1 hs)];exact k s hs
 ·intro k s hs;rw[h s (List.mem_range.1 hs)];exact k s hs
theorem E2 (A:Au):Uj A=Q1q A:=by
 unfold Uj Q1q
 cases hl:Gb A with
 |false=>rfl
 |true=>
  simp only[Bool.true_and]
  have hn:1<=A.pa.length:=by
   unfold Gb at hl
   simp only[zH,decide_eq_true_eq] at hl
   exact hl.1
  obtain⟨s1,s2⟩:=Q0q A A.pa.length
  rw[(Is A.pa.length).1] at s1
  cases ho:Je A.pa.length (okI A) with
  |false=>rw[s1,ho];rfl
  |true=>
   rw[ho] at s1
   rw[s2 s1]
   simp only[Bool.true_and]
   have T:=Q7o hn ho
   rw[Am (p:=muI A) hn,Am (p:=faI A A.pa.length) hn]
   have e1:Je A.pa.length (Qgm A (wl A A.pa.length))=(Je A.pa.length (λs=>s==0||muI A s)&&Je A.pa.length (λs=>s==0||faI A A.pa.length s)):=by
    rw[<-P8]
    refine Q7e λs hs=>?_
    unfold Qgm muI faI
    by_cases e:s=0
    ·subst e;rfl
    ·have e':(s==0)=false:=by simpa using e
     rw[e',if_neg e,if_neg e]
     simp only[Bool.false_or]
     have:Xx (wl A A.pa.length) (wd (wl A A.pa.length) s) 1 ((wd (wl A A.pa.length) s).length+1-1)=(failOf A A.pa.length s:Int):=by
      rw[Kf hs]
      exact(Ug T (by omega) hs).1
     rw[this,Bool.and_assoc]
   rw[e1]
   have m0:muI A 0=((iat A.mu 0==-1)&&!bat A.bd 0):=rfl
   have f0:faI A A.pa.length 0=(iat A.fa 0==-1):=rfl
   rw[m0,f0]
   cases (iat A.fa 0==-1)<;>cases (iat A.mu 0==-1)<;>cases bat A.bd 0<;>simp
theorem Qe0 {A:Au}(h:Uj A=true):wsA A=wl A A.pa.length/\Zc A A.pa.length:=by
 have h1:=h
 rw[E2] at h1
 unfold Q1q at h1
 simp only[zH] at h1
 have hn:1<=A.pa.length:=(Q7i h).2.2.2
 obtain⟨s1,s2⟩:=Q0q A A.pa.length
 rw[(Is A.pa.length).1,h1.2.1] at s1
 refine⟨?_,Q7o hn h1.2.1⟩
 unfold wsA
 rw[s2 s1]
theorem Qf0 {A:Au}(h:Uj A=true){s:Nat}(hs:s<A.pa.length)(e:Int):T3 (wsA A) s e=(goOf A A.pa.length s e:Int):=by
 obtain⟨e1,T⟩:=Qe0 h
 unfold T3
 rw[e1,Kf hs]
 exact(Q8m T hs e).1
def Q7t (A:Au)(s:Nat)(e:Int):Int:=
 if e<0\/4000<=e then -1
 else if bat A.bd s=true\/(iat A.mu s≠-1/\iat A.mu s≠e) then -1
 else if bat A.bd (goOf A A.pa.length s e)=true then -1 else (goOf A A.pa.length s e:Int)
theorem Q0m {A:Au}(h:Uj A=true){s:Nat}(hs:s<A.pa.length)(e:Int):Q9 A (wsA A) (s:Int) e=Q7t A s e:=by
 have hl:=(Q7i h).1.l
 unfold Q9 Q7t
 rw[hl]
 by_cases g:e<0\/4000<=e
 ·rw[if_pos g,if_pos (by omega)]
 ·rw[if_neg g,if_neg (by omega),zX,Qf0 h hs,zX]
end Go.Proofs.YtahpodmokbdjeaaGreatDoor
namespace Go.Proofs.YtahpodmokbdjeaaGreatDoor
open Go.RowKit Tryz
set_option linter.unusedVariables false
set_option maxRecDepth 1000000
set_option maxHeartbeats 16000000
def noE (e:Int):Bool:=decide (e<0\/4000<=e)
theorem Xk (e:Int)(w:World):Calls prog 122 #[iV e] w λr w'=>r=.returned (.bool (noE e))/\w'=w:=by
 by_cases h1:e<0
 ·have f1:decide (e<0)=true:=by simpa using h1
  have HF:Z (true=noE e):=by unfold Z noE;simp;omega
  go_enter func122,ntmps122
  go_wp2
  go_ret
  exact⟨Q6 HF.o,rfl⟩
 ·have f1:decide (e<0)=false:=by simpa using h1
  by_cases h2:4000<=e
  ·have f2:decide (4000<=e)=true:=by simpa using h2
   have HF:Z (true=noE e):=by unfold Z noE;simp;omega
   go_enter func122,ntmps122
   go_wp2
   go_ret
   exact⟨Q6 HF.o,rfl⟩
  ·have f2:decide (4000<=e)=false:=by simpa using h2
   have HF:Z (false=noE e):=by unfold Z noE;simp;omega
   go_enter func122,ntmps122
   go_wp2
   go_ret
   exact⟨Q6 HF.o,rfl⟩
end Go.Proofs.YtahpodmokbdjeaaGreatDoor
namespace Go.Proofs.YtahpodmokbdjeaaGreatDoor
open Go.RowKit
set_option linter.unusedVariables false
set_option maxRecDepth 1000000
set_option maxHeartbeats 16000000
end Go.Proofs.YtahpodmokbdjeaaGreatDoor
namespace Go.Proofs.YtahpodmokbdjeaaGreatDoor
open Go.RowKit Go.Maps Tryz
set_option linter.unusedVariables false
set_option maxRecDepth 1000000
set_option maxHeartbeats 16000000
def ptr (b:Nat):Value:=.pointer (some ⟨b,0,none⟩)
theorem Q0v {v:Value}{x:Int}{ps:List MemPlace}(h:Zh v=some (.lit (.int .i64 x),ps)):(x=-1/\v=.pointer none)\/∃b:Nat,x=b/\v=ptr b:=by
 unfold Zh at h
 split at h
 ·simp at h
  exact oL ⟨h.1.symm,rfl⟩
 ·rename_i b
  simp at h
  exact oR ⟨b,h.1.symm,rfl⟩
 ·simp at h
def Q22:Option Nat->Value
 |none=>.pointer none
 |some b=>ptr b
def MK (w:World)(m:Value)(ks:List (Int×Nat)):Prop:=(m=.map none/\ks=[])\/∃mb,m=.map (some mb)/\w.ownsMap prog 2 Zh mb ks.length (X8 ks)
def Jq:Value->Option Nat
 |.map (some b)=>some b
 |_=>none
structure But (o o':Option Nat)(w w':World):Prop where
 os:w'.os=w.os
 tape:w'.tape=w.tape
 output:w'.output=w.output
 size:w.heap.size<=w'.heap.size
 block:∀b,b<w.heap.size->some b≠o->some b≠o'->w'.heap[b]?=w.heap[b]?
theorem Q7h (w:World):(zeroValue 147).run prog w=.ok (.pointer none) w:=by kernel_rfl
def node (num len last must:Int)(bad:Bool)(par fl m:Value):Array Value:=#[.int .i64 num,.int .i64 len,.int .i64 last,.int .i64 must,.bool bad,par,fl,m]
theorem Qep {w:World}{P:Program}{k:TypeId}{R:Value->Option (DataW Unit×List MemPlace)}{mb n b i:Nat}{D:DataW Unit}(h:w.ownsMap P k R mb n D)(hne:mb≠b)(v:Value):(w.setCell ⟨b,i,none⟩ v).ownsMap P k R mb n D:=by
 obtain⟨es,clock,hb,r⟩:=h
 exact⟨es,clock,(Below.heap_setCell _ _ _ _ hne).trans hb,r⟩
theorem Blk.grownB {w w':World}{o:Option Nat}{b:Nat}{cs:Array Value}(h:Blk w b cs)(k:w.grownBy w' o)(hn:some b≠o):Blk w' b cs:=by
 have hl:=h.lt
 obtain⟨t,hb⟩:=h
 exact⟨t,(k.block b hl hn).trans hb⟩
theorem But.of_nx {o o':Option Nat}{w w':World}(h:Nx w w'):But o o' w w':=⟨h.os,h.tape,h.output,h.size,λb hb _ _=>h.block b hb⟩
theorem But.set {o o':Option Nat}{w w':World}(h:But o o' w w'){g i:Nat}(hg:o=some g)(u:Value):But o o' w (w'.setCell ⟨g,i,none⟩ u):=
 ⟨h.os,h.tape,h.output,by simpa [World.setCell] using h.size,λb hb hn hn'=>(Below.heap_setCell _ _ _ _ (λe=>hn (by rw[hg,e]))).trans (h.block b hb hn hn')⟩
theorem But.alloc {o o':Option Nat}{w w':World}(h:But o o' w w')(x:Obj):But o o' w (w'.alloc x):=
 ⟨h.os,h.tape,h.output,by rw[Q3];have:=h.size;omega,λb hb hn hn'=>((Q4 w' x).block b (by have:=h.size;omega)).trans (h.block b hb hn hn')⟩
theorem Q0s (w:World)(a:Addr)(v:Value):(w.setCell a v).heap.size=w.heap.size:=by simp[World.setCell]
theorem But.grow {o o' r:Option Nat}{w w' w2:World}(h:But o o' w w')(k:w'.grownBy w2 r)(hr:∀g,r=some g->w.heap.size<=g\/o'=some g):But o o' w w2:=
 ⟨k.os.trans h.os,k.tape.trans h.tape,k.output.trans h.output,zP h.size k.size,λb hb hn hn'=>(k.block b (zK hb h.size) (λe=>by
  rcases hr b e.symm with h1|h1
  ·omega
  ·exact hn' h1.symm)).trans (h.block b hb hn hn')⟩
theorem Q48 (w:World):Calls prog 123 #[] w λr w'=>r=.returned (ptr w.heap.size)/\Blk w' w.heap.size (node 0 0 (-1) (-1) false (.pointer none) (.pointer none) (.map none))/\Nx w w':=by
 go_enter func123,ntmps123
 go_wp2
 go_ret
 exact⟨rfl,Blk.new w _ _ _ rfl,Q4 _ _⟩
theorem Q25 (b:Nat)(num len last must:Int)(bad:Bool)(par fl m:Value)(w:World)(h:Blk w b (node num len last must bad par fl m)):Calls prog 139 #[ptr b] w λr w'=>r=.returned (.int .i64 num)/\w'=w:=by
 have k0:w.cell? ⟨b,0,none⟩=some (.int .i64 num):=h.c 0 rfl
 unfold ptr
 go_enter func139,ntmps139
 go_wp2
 go_ret
 exact⟨rfl,rfl⟩
theorem Qd1 (b:Nat)(num len last must:Int)(bad:Bool)(par fl:Value)(e:Int)(w:World)(hb:Blk w b (node num len last must bad par fl (.map none)))(hl0:0<=len)(hl1:len<=100000)(hw:(Lit.int .i64 e).wf=true) :
  Calls prog 150 #[ptr b,.int .i64 e] w λr w'=>r=.returned (ptr w.heap.size)/\Blk w' w.heap.size (node 0 (len+1) e (-1) false (ptr b) (.pointer none) (.map none))/\Blk w' b (node num len last must bad par fl (.map (some (w.heap.size+1))))/\MK w' (.map (some (w.heap.size+1))) [(e,w.heap.size)]/\But (some b) none w w':=by
 have HB:Z (Blk w b (node num len last must bad par fl (.map none))):=hb
 have k1:w.cell? ⟨b,1,none⟩=some (.int .i64 len):=hb.c 1 rfl
 have hlt:=hb.lt
 have hwl:IntKind.i64.wrap (len+1)=len+1:=by rw[IntKind.wrap_i64];omega
 unfold ptr
 go_enter func150,ntmps150
 go_upto_region 2 with fail
 have B1:=HB.o.alloc (.cells #[.int .i64 0,.int .i64 (len+1),.int .i64 e,.int .i64 (-1),.bool false,.pointer (some ⟨b,0,none⟩),.pointer none,.map none] 223)
 have HB1:Z (Blk (w.alloc (.cells #[.int .i64 0,.int .i64 (len+1),.int .i64 e,.int .i64 (-1),.bool false,.pointer (some ⟨b,0,none⟩),.pointer none,.map none] 223)) b (node num len last must bad par fl (.map none))):=B1
 have BC:=Blk.new w #[.int .i64 0,.int .i64 (len+1),.int .i64 e,.int .i64 (-1),.bool false,.pointer (some ⟨b,0,none⟩),.pointer none,.map none] 223 _ rfl
 have HBC:Z (Blk (w.alloc (.cells #[.int .i64 0,.int .i64 (len+1),.int .i64 e,.int .i64 (-1),.bool false,.pointer (some ⟨b,0,none⟩),.pointer none,.map none] 223)) w.heap.size (node 0 (len+1) e (-1) false (ptr b) (.pointer none) (.map none))):=BC
 have HN1:Z (Nx w (w.alloc (.cells #[.int .i64 0,.int .i64 (len+1),.int .i64 e,.int .i64 (-1),.bool false,.pointer (some ⟨b,0,none⟩),.pointer none,.map none] 223))):=Q4 _ _
 clear B1 BC hb k1
 generalize hw1:w.alloc (.cells #[.int .i64 0,.int .i64 (len+1),.int .i64 e,.int .i64 (-1),.bool false,.pointer (some ⟨b,0,none⟩),.pointer none,.map none] 223)=w1 at *
 have hz1:w1.heap.size=w.heap.size+1:=by rw[<-hw1];exact Q3 w _
 have HZ1:Z (w1.heap.size=w.heap.size+1):=hz1
 clear hw1 hz1
 have k7:w1.cell? ⟨b,7,none⟩=some (.map none):=HB1.o.c 7 rfl
 have z7:=HB1.o.frozen 7
 have hbl:b<w1.heap.size:=HB1.o.lt
 have q53:∀(w:World) (r:Option Nat),(binOp .eql 221 (.map r) (.map none)).run prog w=.ok (.bool r.isNone) w:=λw r=>run_eql_map_nil w _ _ _ r underlying221
 have qmk:∀w:World,(Instr.makeMap 221 none).run prog w=.ok (.map (some w.heap.size)) (w.alloc (.map #[] 0)):=λw=>run_makeMap _ w
 have B2:=HB1.o.alloc (.map #[] 0)
 have k7':(w1.alloc (.map #[] 0)).cell? ⟨b,7,none⟩=some (.map none):=B2.c 7 rfl
 have z7':=B2.frozen 7
 have HB3:Z (Blk ((w1.setCell ⟨b,7,none⟩ (.map (some w1.heap.size))).alloc (.map #[] 0)) b (node num len last must bad par fl (.map (some w1.heap.size)))):=(HB1.o.set 7 _).alloc _
 have HM3:Z (((w1.setCell ⟨b,7,none⟩ (.map (some w1.heap.size))).alloc (.map #[] 0)).ownsMap prog 2 Zh w1.heap.size 0 (X8 [])):=by
  have:=World.ownsMap_made (w1.setCell ⟨b,7,none⟩ (.map (some w1.heap.size))) prog 2 Zh
  rw[Q0s] at this
  exact this
 have HC3:Z (Blk ((w1.setCell ⟨b,7,none⟩ (.map (some w1.heap.size))).alloc (.map #[] 0)) w.heap.size (node 0 (len+1) e (-1) false (ptr b) (.pointer none) (.map none))):=(HBC.o.setOther (by omega) _ _).alloc _
 have HW3:Z (But (some b) none w ((w1.setCell ⟨b,7,none⟩ (.map (some w1.heap.size))).alloc (.map #[] 0))):=((But.of_nx HN1.o).set rfl _).alloc _
 have k8:((w1.setCell ⟨b,7,none⟩ (.map (some w1.heap.size))).alloc (.map #[] 0)).cell? ⟨b,7,none⟩=some (.map (some w1.heap.size)):=HB3.o.c 7 rfl
 clear B2
 go_upto_region 4 with fail
 clear k7 z7 k7' z7' qmk
 generalize hw3:(w1.setCell ⟨b,7,none⟩ (.map (some w1.heap.size))).alloc (.map #[] 0)=w3 at *
 clear hw3
 go_wp2_with (at_mapUpdate;refine wpList_mapUpdate_own _ rfl _ _ _ 221 rfl 2 147 Q6n underlying221 Zh w1.heap.size 0 (X8 []) rfl HM3.o (by simp[maxLen]) (.int .i64 e) (.pointer (some ⟨w.heap.size,0,none⟩)) (.int .i64 e) rfl rfl (keyOf_int_mk underlying2 hw) (.lit (.int .i64 (w.heap.size:Int))) [] rfl ?_)
 intro w4 hown hg
 have HM4:Z (MK w4 (.map (some w1.heap.size)) [(e,w.heap.size)]):=oR ⟨_,rfl,by rw[Q4l _ (by simp)] at hown;exact hown⟩
 have HC4:Z (Blk w4 w.heap.size (node 0 (len+1) e (-1) false (ptr b) (.pointer none) (.map none))):=HC3.o.grownB hg (by have:=HZ1.o;intro e;have:=zF e;omega)
 have HB4:Z (Blk w4 b (node num len last must bad par fl (.map (some w1.heap.size)))):=HB3.o.grownB hg (by intro e;have:=zF e;omega)
 have HW4:Z (But (some b) none w w4):=HW3.o.grow hg (λg hg=>oL (by have:=HZ1.o;have:=zF hg;omega))
 clear hown hg k8
 go_wp2
 go_ret
 rw[HZ1.o] at HM4 HB4
 exact⟨rfl,HC4.o,HB4.o,HM4.o,HW4.o⟩
theorem MK.look {w:World}{m:Value}{ks:List (Int×Nat)}(h:MK w m ks){e:Int}(hw:(Lit.int .i64 e).wf=true):(Instr.lookup 221 m (.int .i64 e) false).run prog w=.ok (Q22 (Y8 ks e)) w:=by
 rcases h with⟨rfl,rfl⟩|⟨mb,rfl,h⟩
 ·simp[Instr.lookup,Y8,Q22]
  have hc:=Q6n.check w true (keyOf_int_mk underlying2 hw)
  have hz:=Q7h w
  rcases Q6n.find w (keyOf_int_mk underlying2 hw) [] (by simp) with⟨hf,_⟩|⟨j,x,_,h2,_⟩
  ·simp[hc,hf,hz,Result.andThen]
  ·simp at h2
 ·obtain⟨v,ps,hrun,hv⟩:=h.lookup Q6n underlying221 (Q7h w) (zd:=.lit (.int .i64 (-1))) (zp:=[]) rfl (keyOf_int_mk underlying2 hw)
  rw[Q8c] at hv
  rw[hrun]
  cases hk:Y8 ks e with
  |none=>
   rw[hk] at hv
   rcases Q0v hv with⟨_,rfl⟩|⟨b,hb,_⟩
   ·rfl
   ·simp at hb
  |some c=>
   rw[hk] at hv
   rcases Q0v hv with⟨hb,_⟩|⟨b,hb,rfl⟩
   ·simp at hb
   ·have hb':c=b:=by simp at hb;omega
    subst hb'
    rfl
def Z6 (A:Au)(n:Nat)(bl:Nat->Nat)(s:Nat):List (Int×Nat):=((List.range n).filter (λt=>decide (1<=t/\iat A.pa t=s))).map (λt=>(iat A.la t,bl t))
theorem Q8d {A:Au}{n s:Nat}{bl:Nat->Nat}{e:Int}{b:Nat}(h:Y8 (Z6 A n bl s) e=some b):∃t,Gs A n s e t/\b=bl t:=by
 unfold Y8 at h
 rw[Option.map_eq_some_iff] at h
 obtain⟨p,hp,rfl⟩:=h
 have h1:=List.find?_some hp
 have h2:=List.mem_of_find?_eq_some hp
 unfold Z6 at h2
 obtain⟨t,ht,rfl⟩:=List.mem_map.1 h2
 rw[yB,zV] at ht
 simp at h1 ht
 exact⟨t,⟨ht.2.1,ht.1,ht.2.2,h1⟩,rfl⟩
theorem Qcm {A:Au}{n s:Nat}{bl:Nat->Nat}{e:Int}(h:Y8 (Z6 A n bl s) e=none):∀t,¬Gs A n s e t:=by
 intro t ht
 unfold Y8 at h
 rw[Option.map_eq_none_iff,List.find?_eq_none] at h
 have:=h (iat A.la t,bl t) (by
  unfold Z6
  refine List.mem_map.2 ⟨t,?_,rfl⟩
  rw[yB,zV]
  simp
  exact⟨ht.2.1,ht.1,ht.2.2.1⟩)
 simp at this
 exact this ht.2.2.2
def Qcw (bl:Nat->Nat)(k:Nat):Value->Nat
 |.pointer (some ⟨b,0,none⟩)=>(Tk (λu=>bl u==b) 0 k).toNat
 |_=>0
theorem Qcv {bl:Nat->Nat}{k u:Nat}(hi:∀s t,s<k->t<k->bl s=bl t->s=t)(hu:u<k):Qcw bl k (.pointer (some ⟨bl u,0,none⟩))=u:=by
 show(Tk (λv=>bl v==bl u) 0 k).toNat=u
 rw[Wj (a:=u) nZ (by omega) (by simp) (λb _ hb=>by
  simp
  intro e
  have:=hi b u (by omega) hu e
  omega)]
 rfl
structure TR (A:Au)(n k:Nat)(w:World)(bl:Nat->Nat)(fl mv:Nat->Value)(num:Nat->Int):Prop where
 nd:∀s,s<n->Blk w (bl s) (node (num s) (Wd A s).length (iat A.la s) (if s=0 then -1 else iat A.mu s) (if s=0 then false else bat A.bd s) (if s=0 then .pointer none else ptr (bl (iat A.pa s).toNat)) (fl s) (mv s))
 kd:∀s,s<n->MK w (mv s) (Z6 A n bl s)
 fz:fl 0=.pointer none
 fs:∀s,1<=s->s<k->fl s=ptr (bl (failOf A n s))
 inj:∀s t,s<n->t<n->bl s=bl t->s=t
theorem U1 (A:Au)(n k s:Nat)(e:Int)(w:World)(bl:Nat->Nat)(fl mv:Nat->Value)(num:Nat->Int)(T:Zc A n)(h:TR A n k w bl fl mv num)(hk:k<=n)(hs:s<k)(hw:(Lit.int .i64 e).wf=true) :
  Calls prog 129 #[ptr (bl s),.int .i64 e] w λr w'=>r=.returned (ptr (bl (goOf A n s e)))/\w'=w:=by
 have HT:Z (Zc A n):=T
 have HR:Z (TR A n k w bl fl mv num):=h
 have HIX:Z (∀u,u<k->Qcw bl k (.pointer (some ⟨bl u,0,none⟩))=u):=λu hu=>Qcv (λs t h1 h2=>h.inj s t (by omega) (by omega)) hu
 clear T h
 unfold ptr
 go_enter func129,ntmps129
 go_wp2
 go_loop [5] (λv=>∃u:Nat,u<k/\v=.pointer (some ⟨bl u,0,none⟩)/\Z (goOf A n s e=goOf A n u e)) (λv=>Qcw bl k v)
 case atStart=>exact⟨s,hs,rfl,rfl⟩
 case round=>
  obtain⟨u,huk,rfl,HG⟩:=hrel
  have hB:=HR.o.nd u (by omega)
  have k6:w.cell? ⟨bl u,6,none⟩=some (fl u):=hB.c 6 rfl
  have k7:w.cell? ⟨bl u,7,none⟩=some (mv u):=hB.c 7 rfl
  have hl:=(HR.o.kd u (by omega)).look hw
  cases hc:Y8 (Z6 A n bl u) e with
  |some c=>
   obtain⟨t,ht,rfl⟩:=Q8d hc
   have HF:Z (goOf A n s e=t):=by rw[HG.o];exact Qd3 HT.o (by omega) ht
   rw[hc] at hl
   simp only[Q22,ptr] at hl
   clear hc hB
   by_cases hu0:u=0
   ·subst hu0
    rw[HR.o.fz] at k6
    go_wp2
    go_ret
    exact⟨by rw[HF.o];rfl,rfl⟩
   ·rw[HR.o.fs u (by omega) huk] at k6
    unfold ptr at k6
    go_wp2
    go_ret
    exact⟨by rw[HF.o];rfl,rfl⟩
  |none=>
   have hn:=Qcm hc
   rw[hc] at hl
   simp only[Q22] at hl
   clear hc hB
   by_cases hu0:u=0
   ·subst hu0
    have HF:Z (goOf A n s e=0):=by rw[HG.o];exact Qfa HT.o hn
    rw[HR.o.fz] at k6
    clear hn
    go_wp2
    go_ret
    exact⟨by rw[HF.o];rfl,rfl⟩
   ·have hf:=Ug HT.o (s:=u) (by omega) (by omega)
    have HF:Z (goOf A n s e=goOf A n (failOf A n u) e):=by rw[HG.o];exact Qfb HT.o (by omega) (by omega) hn
    have HLT:Z (failOf A n u<u):=hf.2
    rw[HR.o.fs u (by omega) huk] at k6
    unfold ptr at k6
    clear hn hf
    go_wp2
    go_round
    case rel=>exact⟨failOf A n u,by have:=HLT.o;omega,rfl,HF⟩
    case measure=>rw[HIX.o u huk,HIX.o _ (by have:=HLT.o;omega)];exact HLT.o
def Uz (A:Au)(n:Nat)(bl:Nat->Nat)(s:Nat)(e:Int):Value:=
 if e<0\/4000<=e then .pointer none
 else if bat A.bd s=true\/(iat A.mu s≠-1/\iat A.mu s≠e) then .pointer none
 else if bat A.bd (goOf A n s e)=true then .pointer none else ptr (bl (goOf A n s e))
theorem TR.cells {A:Au}{n k:Nat}{w:World}{bl:Nat->Nat}{fl mv:Nat->Value}{num:Nat->Int}(h:TR A n k w bl fl mv num)(hm:iat A.mu 0=-1)(hb:bat A.bd 0=false){s:Nat}(hs:s<n) :
  w.cell? ⟨bl s,3,none⟩=some (.int .i64 (iat A.mu s))/\w.cell? ⟨bl s,4,none⟩=some (.bool (bat A.bd s)):=by
 have:=h.nd s hs
 by_cases e:s=0
 ·subst e
  exact⟨by rw[hm];exact this.c 3 rfl,by rw[hb];exact this.c 4 rfl⟩
 ·simp only[if_neg e] at this
  exact⟨this.c 3 rfl,this.c 4 rfl⟩
theorem Kg {e:Int}(h0:0<=e)(h1:e<4000):(Lit.int .i64 e).wf=true:=by
 have a:IntKind.i64.min=-9223372036854775808:=rfl
 have b:IntKind.i64.max=9223372036854775807:=rfl
 simp only[Lit.wf,a,b,zH,decide_eq_true_eq]
 omega
theorem Q3j (A:Au)(n s:Nat)(e:Int)(w:World)(bl:Nat->Nat)(fl mv:Nat->Value)(num:Nat->Int)(T:Zc A n)(h:TR A n n w bl fl mv num)(hm:iat A.mu 0=-1)(hb:bat A.bd 0=false)(hs:s<n) :
  Calls prog 140 #[ptr (bl s),.int .i64 e] w λr w'=>r=.returned (Uz A n bl s e)/\w'=w:=by
 obtain⟨k3,k4⟩:=h.cells hm hb hs
 have HT:Z (Zc A n):=T
 have HR:Z (TR A n n w bl fl mv num):=h
 have HD:Z (Uz A n bl s e=if e<0\/4000<=e then .pointer none else if bat A.bd s=true\/(iat A.mu s≠-1/\iat A.mu s≠e) then .pointer none else if bat A.bd (goOf A n s e)=true then .pointer none else ptr (bl (goOf A n s e))):=rfl
 have HG:Z (w.cell? ⟨bl (goOf A n s e),4,none⟩=some (.bool (bat A.bd (goOf A n s e)))):=(h.cells hm hb (Q8m T hs e).2).2
 clear T h hm hb
 unfold ptr
 cases g1:noE e
 case true=>
  have HF:Z (Uz A n bl s e=.pointer none):=by unfold Z;rw[HD.o,if_pos (by unfold noE at g1;simpa using g1)]
  go_enter func140,ntmps140
  go_wp2_with (go_at_call 122;refine(Xk _ _).mono ?_;rintro r w' ⟨rfl,rfl⟩;rw[g1])
  go_ret
  exact⟨by rw[HF.o];rfl,rfl⟩
 have hw:(Lit.int .i64 e).wf=true:=by
  unfold noE at g1
  simp at g1
  exact Kg (by omega) (by omega)
 have HD2:Z (Uz A n bl s e=if bat A.bd s=true\/(iat A.mu s≠-1/\iat A.mu s≠e) then .pointer none else if bat A.bd (goOf A n s e)=true then .pointer none else ptr (bl (goOf A n s e))):=by
  unfold Z
  rw[HD.o,if_neg (by unfold noE at g1;simp at g1;omega)]
 cases g2:bat A.bd s
 case true=>
  have HF:Z (Uz A n bl s e=.pointer none):=by unfold Z;rw[HD2.o,if_pos (oL g2)]
  rw[g2] at k4
  go_enter func140,ntmps140
  go_wp2_with (go_at_call 122;refine(Xk _ _).mono ?_;rintro r w' ⟨rfl,rfl⟩;rw[g1])
  go_ret
  exact⟨by rw[HF.o];rfl,rfl⟩
 rw[g2] at k4
 by_cases g6:iat A.mu s=-1\/iat A.mu s=e
 case neg=>
  have f6:(iat A.mu s !=-1)=true:=by simp;omega
  have f7:(iat A.mu s !=e)=true:=by simp;omega
  have HF:Z (Uz A n bl s e=.pointer none):=by unfold Z;rw[HD2.o,if_pos (oR (by omega))]
  clear g6 g2
  go_enter func140,ntmps140
  go_wp2_with (go_at_call 122;refine(Xk _ _).mono ?_;rintro r w' ⟨rfl,rfl⟩;rw[g1])
  go_ret
  exact⟨by rw[HF.o];rfl,rfl⟩
 have HD3:Z (Uz A n bl s e=if bat A.bd (goOf A n s e)=true then .pointer none else ptr (bl (goOf A n s e))):=by
  unfold Z
  rw[HD2.o,if_neg (by rw[g2];simp;omega)]
 have ht:∃t1 t2:Bool,(iat A.mu s !=-1)=t1/\(iat A.mu s !=e)=t2/\(t1&&t2)=false:=⟨_,_,rfl,rfl,by simp;omega⟩
 obtain⟨t1,t2,f6,f7,f8⟩:=ht
 clear g6 g2 HD HD2
 have g9:=HG.o
 cases g5:bat A.bd (goOf A n s e)
 ·have HF:Z (Uz A n bl s e=.pointer (some ⟨bl (goOf A n s e),0,none⟩)):=by unfold Z;rw[HD3.o,if_neg (by rw[g5];simp)];rfl
  rw[g5] at g9
  cases t1
  ·go_enter func140,ntmps140
   go_wp2_with (first|(go_at_call 122;refine(Xk _ _).mono ?_;rintro r w' ⟨rfl,hw'⟩;have hw2:=hw'.symm;subst hw2;rw[g1])|(go_at_call 129;refine(U1 A n n s e _ bl fl mv num HT.o HR.o lR hs hw).mono ?_;rintro r w' ⟨rfl,hw'⟩;have hw2:=hw'.symm;subst hw2;unfold ptr))
   go_ret
   exact⟨by rw[HF.o];rfl,rfl⟩
  ·cases t2
   ·go_enter func140,ntmps140
    go_wp2_with (first|(go_at_call 122;refine(Xk _ _).mono ?_;rintro r w' ⟨rfl,hw'⟩;have hw2:=hw'.symm;subst hw2;rw[g1])|(go_at_call 129;refine(U1 A n n s e _ bl fl mv num HT.o HR.o lR hs hw).mono ?_;rintro r w' ⟨rfl,hw'⟩;have hw2:=hw'.symm;subst hw2;unfold ptr))
    go_ret
    exact⟨by rw[HF.o];rfl,rfl⟩
   ·simp at f8
 ·have HF:Z (Uz A n bl s e=.pointer none):=by unfold Z;rw[HD3.o,if_pos g5]
  rw[g5] at g9
  cases t1
  ·go_enter func140,ntmps140
   go_wp2_with (first|(go_at_call 122;refine(Xk _ _).mono ?_;rintro r w' ⟨rfl,hw'⟩;have hw2:=hw'.symm;subst hw2;rw[g1])|(go_at_call 129;refine(U1 A n n s e _ bl fl mv num HT.o HR.o lR hs hw).mono ?_;rintro r w' ⟨rfl,hw'⟩;have hw2:=hw'.symm;subst hw2;unfold ptr))
   go_ret
   exact⟨by rw[HF.o];rfl,rfl⟩
  ·cases t2
   ·go_enter func140,ntmps140
    go_wp2_with (first|(go_at_call 122;refine(Xk _ _).mono ?_;rintro r w' ⟨rfl,hw'⟩;have hw2:=hw'.symm;subst hw2;rw[g1])|(go_at_call 129;refine(U1 A n n s e _ bl fl mv num HT.o HR.o lR hs hw).mono ?_;rintro r w' ⟨rfl,hw'⟩;have hw2:=hw'.symm;subst hw2;unfold ptr))
    go_ret
    exact⟨by rw[HF.o];rfl,rfl⟩
   ·simp at f8
theorem Q4s:(prog.info? 147).map (λi=>(i.zero,i.size,i.bytes))=some (some (.pointer none),1,8):=by kernel_rfl
def Wu (bs:List Nat):List Value:=bs.map ptr
def Xg (C:Nat)(w:World)(v:Value)(bs:List Nat):Prop:=w.ownsRow C 147 1 v bs.length (Wu bs)
theorem Xg.snoc {C:Nat}{w:World}{v:Value}{bs:List Nat}{b:Nat}(h:w.ownsRow C 147 1 v (bs.length+1) (Wu bs++[ptr b])):Xg C w v (bs++[b]):=by
 unfold Xg
 have e:Wu (bs++[b])=Wu bs++[ptr b]:=by simp[Wu]
 rw[zA,e]
 exact h
theorem Xg.slice {C:Nat}{w:World}{v:Value}{bs:List Nat}(h:Xg C w v bs):∃a c,v=sL a bs.length c:=by
 rcases h.2 with⟨rfl,h2⟩|⟨g,cap,cur,rfl,_⟩
 ·exact⟨none,0,by rw[h2]⟩
 ·exact⟨_,_,rfl⟩
def nat (bs:List Nat)(i:Nat):Nat:=bs.getD i 0
theorem Xg.cell {C:Nat}{w:World}{a:Option Addr}{n c:Nat}{bs:List Nat}(h:Xg C w (sL a n c) bs){i:Nat}(hi:i<bs.length):∃g,a=some (aD g 0)/\w.cell? (aD g i)=some (ptr (nat bs i)):=by
 obtain⟨h1,h2⟩:=h
 rcases h2 with⟨h2,h3⟩|⟨g,cap,cur,hv,hg,hh,hc,hm,hs,ht⟩
 ·omega
 ·simp only[zC] at hv
  refine⟨g,hv.1,?_⟩
  have e:(cur.toList.take (bs.length*1))[i]?=(Wu bs)[i]?:=by rw[ht]
  rw[zT (by omega),zQ] at e
  simp[World.cell?,hh,e,Wu,nat,List.getD,hi]
theorem Xg.next {C:Nat}{w w':World}{v:Value}{bs:List Nat}(h:Xg C w v bs)(k:Nx w w'):Xg C w' v bs:=by
 obtain⟨h1,h2⟩:=h
 refine⟨h1,?_⟩
 rcases h2 with h2|⟨g,cap,cur,hv,hg,hh,r⟩
 ·exact oL h2
 ·exact oR ⟨g,cap,cur,hv,hg,(k.block g (Array.getElem?_eq_some_iff.1 hh).1).trans hh,r⟩
theorem Q21 (q C:Nat)(v:Value)(bs:List Nat)(tk:Int)(b:Nat)(w:World)(hq:Blk w q #[v,iV tk])(ho:Xg C w v bs)(hC:q<C)(hl:bs.length<=100000)(hz:C<=w.heap.size) :
  Calls prog 125 #[ptr q,ptr b] w λr w'=>∃x v',r=.returned x/\Blk w' q #[v',iV tk]/\Xg C w' v' (bs++[b])/\(v'.ownBlock=v.ownBlock\/v'.ownBlock=some (w.heap.size+1))/\But (some q) v.ownBlock w w':=by
 obtain⟨ii,hi,hz0,hz1,hz2⟩:=info_parts Q4s
 have HQ:Z (Blk w q #[v,iV tk]):=hq
 have HO:Z (Xg C w v bs):=ho
 obtain⟨av,cv,hvs⟩:=ho.slice
 generalize hbl:bs.length=n at *
 have HBL:Z (bs.length=n):=hbl
 subst hvs
 have k0:w.cell? (aD q 0)=some (sL av n cv):=hq.c 0 rfl
 clear hq ho hbl
 unfold ptr
 go_enter func125,ntmps125
 go_wp2_with (at_builtin;refine wpList_append_own_at _ rfl _ _ 83 rfl C 147 ii (.pointer none) 1 8 underlying83 hi hz0 hz1 hz2 rfl (by decide) _ _ _ rfl (zB HO.o _) (aD w.heap.size 0) 1 1 [ptr b] rfl rfl (λj u hj=>Ql w _ _ _ rfl j u hj) ?c2 ?c3 ?c4 ?c5 ?_)
 case c2=>intro u hu;simp at hu;subst hu;rfl
 case c3=>rw[HBL.o];unfold maxLen;omega
 case c4=>rw[HBL.o];omega
 case c5=>simp;omega
 intro v7 w7 hown hgrow _ hat
 have HQ7:=(HQ.o.alloc (.cells #[ptr b] 147)).grownB hgrow (λe=>by have:=(Q5 HO.o q e.symm).1;omega)
 have HO7:Z (Xg C (w7.setCell (aD q 0) v7) v7 (bs++[b])):=Qc (Xg.snoc hown) hC 0 _
 have HB7:Z (Blk (w7.setCell (aD q 0) v7) q #[v7,iV tk]):=HQ7.set 0 _
 have HW7:Z (But (some q) (sL av n cv).ownBlock w (w7.setCell (aD q 0) v7)):=But.set ((But.of_nx (Q4 w _)).grow hgrow (λg hg=>oR hg)) rfl _
 have HAT:Z (v7.ownBlock=(sL av n cv).ownBlock\/v7.ownBlock=some (w.heap.size+1)):=by have:=hat;unfold Z;simpa using this
 obtain⟨a7,c7,hv7⟩:=HO7.o.slice
 generalize (bs++[b]).length=m7 at hv7
 subst hv7
 have k7:w7.cell? (aD q 0)=some (sL av n cv):=HQ7.c 0 rfl
 have z7:=HQ7.frozen 0
 clear hown hgrow hat HQ7
 go_wp2
 refine bodyPost_end (v:=.tuple #[]) (by simp[results,results125,go_sem]) rfl ⟨_,_,rfl,HB7.o,HO7.o,HAT.o,HW7.o⟩
theorem Q9f (q C:Nat)(v:Value)(bs:List Nat)(w:World)(hq:Blk w q #[v,iV (bs.length:Int)])(ho:Xg C w v bs) :
  Calls prog 126 #[ptr q] w λr w'=>r=.returned (.tuple #[.pointer none,.bool false])/\Nx w w':=by
 obtain⟨av,cv,hvs⟩:=ho.slice
 generalize hbl:bs.length=n at *
 subst hvs
 have k0:w.cell? (aD q 0)=some (sL av n cv):=hq.c 0 rfl
 have k1:w.cell? (aD q 1)=some (iV (n:Int)):=hq.c 1 rfl
 have hd:((n:Int)==(n:Int))=true:=by simp
 clear hq ho hbl
 unfold ptr
 go_enter func126,ntmps126
 go_wp2
 go_quiet (fail)
 go_wp2
 refine bodyPost_ret (v:=.tuple #[.pointer none,.bool false]) (by simp[results,results126,go_sem]) rfl ⟨rfl,⟨rfl,rfl,rfl,lR,λ_ _=>rfl⟩⟩
theorem Q0l (q C tk:Nat)(v:Value)(bs:List Nat)(w:World)(hq:Blk w q #[v,iV (tk:Int)])(ho:Xg C w v bs)(hC:q<C)(ht:tk<bs.length)(hl:bs.length<=100000) :
  Calls prog 126 #[ptr q] w λr w'=>r=.returned (.tuple #[ptr (nat bs tk),.bool true])/\Blk w' q #[v,iV ((tk:Int)+1)]/\But (some q) none w w':=by
 have HQ:Z (Blk w q #[v,iV (tk:Int)]):=hq
 obtain⟨av,cv,hvs⟩:=ho.slice
 generalize hbl:bs.length=n at *
 subst hvs
 obtain⟨g,hag,hcg⟩:=ho.cell (i:=tk) (by omega)
 subst hag
 have hgq:g≠q:=λe=>by
  have:=(Q5 ho g rfl).1
  omega
 have k0:w.cell? (aD q 0)=some (sL (sA g) n cv):=hq.c 0 rfl
 have k1:w.cell? (aD q 1)=some (iV (tk:Int)):=hq.c 1 rfl
 have z1:=hq.frozen 1
 have hd:((tk:Int)==(n:Int))=false:=by simp;omega
 have htn:(tk:Int)<n:=by omega
 have hwt:IntKind.i64.wrap ((tk:Int)+1)=(tk:Int)+1:=by rw[IntKind.wrap_i64];omega
 have hws:=Yk tk (by omega)
 clear hq hbl
 unfold ptr at hcg ⊢
 go_enter func126,ntmps126
 go_wp2
 go_quiet (fail)
 generalize hwq:World.drewN w nq=wq at *
 have HN:Z (Nx w wq):=by rw[<-hwq];exact⟨rfl,rfl,rfl,lR,λ_ _=>rfl⟩
 have BQ:=HQ.o.next HN.o
 have HBQ:Z (Blk wq q #[sL (sA g) n cv,iV (tk:Int)]):=BQ
 have j1:wq.cell? (aD q 1)=some (iV (tk:Int)):=BQ.c 1 rfl
 have y1:=BQ.frozen 1
 have B2:=BQ.set 1 (iV ((tk:Int)+1))
 have HB2:Z (Blk (wq.setCell (aD q 1) (iV ((tk:Int)+1))) q #[sL (sA g) n cv,iV ((tk:Int)+1)]):=B2
 have m0:(wq.setCell (aD q 1) (iV ((tk:Int)+1))).cell? (aD q 0)=some (sL (sA g) n cv):=HB2.o.c 0 rfl
 have m1:(wq.setCell (aD q 1) (iV ((tk:Int)+1))).cell? (aD q 1)=some (iV ((tk:Int)+1)):=HB2.o.c 1 rfl
 have m2:(wq.setCell (aD q 1) (iV ((tk:Int)+1))).cell? (aD g tk)=some (pT (nat bs tk)):=(World.cell?_of_block (w:=wq) (Below.heap_setCell _ _ _ _ hgq)).trans (Q1 HN.o hcg)
 have HW:Z (But (some q) none w (wq.setCell (aD q 1) (iV ((tk:Int)+1)))):=(But.of_nx HN.o).set rfl _
 clear hwq k0 k1 z1 hcg BQ B2 hd
 go_upto_region 5 with fail
 generalize hw2:wq.setCell (aD q 1) (iV ((tk:Int)+1))=w2 at *
 clear hw2 j1 y1
 go_wp2
 go_quiet (fail)
 go_wp2
 refine bodyPost_ret (v:=.tuple #[pT (nat bs tk),.bool true]) (by simp[results,results126,go_sem]) rfl ⟨rfl,HB2.o,⟨HW.o.os,HW.o.tape,HW.o.output,HW.o.size,HW.o.block⟩⟩
end Go.Proofs.YtahpodmokbdjeaaGreatDoor
namespace Go.Proofs.YtahpodmokbdjeaaGreatDoor
open Go.RowKit Go.Maps
set_option linter.unusedVariables false
set_option maxRecDepth 1000000
set_option maxHeartbeats 16000000
theorem Fi {A:Au}{n:Nat}(h:∀t,1<=t->t<n->Xv A t=true)(i j:Nat)(hij:i<j)(hj:j<n):iat A.pa i<iat A.pa j\/(iat A.pa i=iat A.pa j/\iat A.la i<iat A.la j):=by
 induction j with
 |zero=>omega
 |succ j ih=>
  have hs:=h (j+1) (by omega) hj
  unfold Xv at hs
  simp only[Nat.add_sub_cancel,Bool.or_eq_true,zH,decide_eq_true_eq] at hs
  by_cases e:i=j
  ·subst e;exact hs
  ·have:=ih (by omega) (by omega)
   omega
theorem Qck (A:Au)(s p:Nat)(bl:Nat->Nat):(Z6 A s bl p).length<=s:=by
 unfold Z6
 rw[zG]
 exact zP (yA _ _) (by simp)
theorem Q14 {w:World}{P:Program}{k:TypeId}{R:Value->Option (DataW Unit×List MemPlace)}{mb n b:Nat}{D:DataW Unit}{cs:Array Value}(h:w.ownsMap P k R mb n D)(hb:Blk w b cs):mb≠b:=by
 intro e
 subst e
 obtain⟨t,h1⟩:=hb
 obtain⟨es,clock,h2,_⟩:=h
 rw[h1] at h2
 simp at h2
theorem MK.set {w:World}{m:Value}{ks:List (Int×Nat)}(h:MK w m ks){b:Nat}{cs:Array Value}(hb:Blk w b cs)(i:Nat)(v:Value):MK (w.setCell (aD b i) v) m ks:=by
 rcases h with h|⟨mb,rfl,h⟩
 ·exact oL h
 ·exact oR ⟨mb,rfl,Qep h (Q14 h hb) v⟩
theorem MK.keep {o o':Option Nat}{w w':World}{m:Value}{ks:List (Int×Nat)}(h:MK w m ks)(k:But o o' w w')(h1:∀mb,Jq m=some mb->some mb≠o/\some mb≠o'):MK w' m ks:=by
 rcases h with h|⟨mb,rfl,h⟩
 ·exact oL h
 ·refine oR ⟨mb,rfl,?_⟩
  have hl:=h.lt
  obtain⟨es,clock,hb,r⟩:=h
  exact⟨es,clock,(k.block mb hl (h1 mb rfl).1 (h1 mb rfl).2).trans hb,r⟩
theorem MK.lt {w:World}{m:Value}{ks:List (Int×Nat)}(h:MK w m ks){mb:Nat}(e:Jq m=some mb):mb<w.heap.size:=by
 rcases h with⟨rfl,_⟩|⟨b,rfl,h⟩
 ·simp[Jq] at e
 ·simp[Jq] at e
  subst e
  exact h.lt
theorem MK.ne {w:World}{m:Value}{ks:List (Int×Nat)}(h:MK w m ks){mb:Nat}(e:Jq m=some mb){b:Nat}{cs:Array Value}(hb:Blk w b cs):mb≠b:=by
 rcases h with⟨rfl,_⟩|⟨b',rfl,h⟩
 ·simp[Jq] at e
 ·simp[Jq] at e
  subst e
  exact Q14 h hb
theorem Blk.keep {o o':Option Nat}{w w':World}{b:Nat}{cs:Array Value}(h:Blk w b cs)(k:But o o' w w')(h1:some b≠o)(h2:some b≠o'):Blk w' b cs:=by
 have hl:=h.lt
 obtain⟨t,hb⟩:=h
 exact⟨t,(k.block b hl h1 h2).trans hb⟩
end Go.Proofs.YtahpodmokbdjeaaGreatDoor
