import Derived.Test.YtphiaobccollhaaGreatQVHB
import Derived.Test.YtphiaobccollhaaGreatQVSV
import Derived.Test.YtphiaobccollhaaGreatQVHD
namespace Go.Proofs.YtphiaobccollhaaGreat
open Go.RowKit Tryz
set_option linter.unusedVariables false
set_option maxRecDepth 1000000
set_option maxHeartbeats 16000000
theorem Q8f (G:Gr):Qo G.eo.length (vOk G)=(Qo G.eo.length (rOk G)&&Tg G.eo.length (Eu (iat G.eo) (iat G.so))):=by
 unfold Tg
 rw[<-Wv]
 congr 1
 funext i
 unfold vOk rOk inZ Xy Eu ltV We
 simp only[Bool.and_assoc]
theorem Q1h (G:Gr):Qq G=(vWe G&&(vVe G&&(Qo G.sr.length (sOk G)&&(vFi G&&(vAr G&&Qo G.eo.length (oOk G)))))):=by
 have e1:Ki G.we=Qo G.we.length (wOk G):=rfl
 have e2:Qo G.eo.length (leI G.fi)=Qo G.eo.length (fOk G):=rfl
 unfold Qq vWe vVe vFi vAr Ag Ph Kz
 rw[Q8f,e1,e2]
 ac_rfl
theorem tw_of {G:Gr}(h1:vVe G=true)(h2:vFi G=true)(h3:vAr G=true):TW G:=by
 unfold vVe at h1
 unfold vFi at h2
 unfold vAr at h3
 simp only[zG,decide_eq_true_eq,beq_iff_eq] at h1 h2 h3
 have h5:Ph G=true:=by unfold Ph;simp[h2.1,h2.2.1,h2.2.2.2]
 have h6:Qo G.eo.length (fOk G)=true:=h2.2.2.1
 exact⟨h1.1,h3.1,h2.1,λi hi=>Qby rfl rfl h5 h6 hi,λi hi=>by have:=Jf h6 hi;simpa [fOk] using this,λk hk=>Qa4 rfl h3.2.2 hk⟩
theorem A8 (B:Nat)(v0 v1 v2 v3 v4 v5 v6:Value)(G:Gr)(w:World)(h0:HG B w v0 v1 v2 v3 v4 v5 v6 G)(hs:Q2r G) :
  Calls prog 17 #[.agg #[v0,v1,v2,v3,v4,v5,v6]] w λe w'=>e=.returned (.bool (Qq G))/\Nx w w':=by
 have HS:=mh hs
 clear hs
 have HH0:=mh h0
 have HH:=mh h0
 obtain⟨⟨a0,c0,rfl,hn0,hk0⟩,⟨a1,c1,rfl,hn1,hk1⟩,⟨a2,c2,rfl,hn2,hk2⟩,⟨a3,c3,rfl,hn3,hk3⟩,⟨a4,c4,rfl,hn4,hk4⟩,⟨a5,c5,rfl,hn5,hk5⟩,⟨a6,c6,rfl,hn6,hk6⟩⟩:=h0
 have HM0:=mh hn0
 have HM5:=mh hn5
 unfold maxLen at hn0 hn1 hn2 hn3 hn4 hn5 hn6
 generalize hz0:G.eo.length=n0 at *
 have Z0:=mh hz0
 clear hz0
 generalize hz1:G.so.length=n1 at *
 have Z1:=mh hz1
 clear hz1
 generalize hz2:G.fi.length=n2 at *
 have Z2:=mh hz2
 clear hz2
 generalize hz3:G.tt.length=n3 at *
 have Z3:=mh hz3
 clear hz3
 generalize hz4:G.co.length=n4 at *
 have Z4:=mh hz4
 clear hz4
 generalize hz5:G.sr.length=n5 at *
 have Z5:=mh hz5
 clear hz5
 generalize hz6:G.we.length=n6 at *
 have Z6:=mh hz6
 clear hz6
 have HV:=mh (Q1h G)
 clear hk0 hk1 hk2 hk3 hk4 hk5 hk6
 go_enter func17,ntmps17
 go_wp2
 go_loopw [9] (λi wr=>Z (Nx w wr/\Blk wr w.heap.size #[sL a0 n0 c0,sL a1 n1 c1,sL a2 n2 c2,sL a3 n3 c3,sL a4 n4 c4,sL a5 n5 c5,sL a6 n6 c6]/\Blk wr (w.heap.size+1) #[.func (.func 22) #[] #[],.func (.func 23) #[] #[],.func (.func 24) #[] #[],.func (.func 25) #[] #[],.func (.func 26) #[] #[],.func (.func 27) #[] #[]])/\((i=iV 0/\Z (True))\/(i=iV 1/\Z (vWe G=true))\/(i=iV 2/\Z (vWe G=true/\vVe G=true))\/(i=iV 3/\Z (vWe G=true/\vVe G=true/\Qo G.sr.length (sOk G)=true))\/(i=iV 4/\Z (vWe G=true/\vVe G=true/\Qo G.sr.length (sOk G)=true/\vFi G=true))\/(i=iV 5/\Z (vWe G=true/\vVe G=true/\Qo G.sr.length (sOk G)=true/\vFi G=true/\vAr G=true))\/(i=iV 6/\Z (vWe G=true/\vVe G=true/\Qo G.sr.length (sOk G)=true/\vFi G=true/\vAr G=true/\Qo G.eo.length (oOk G)=true)))) (λi _=>6-(intOf i).toNat)
 case atStart=>exact⟨⟨Uk _ _ _,(Blk.new w #[sL a0 n0 c0,sL a1 n1 c1,sL a2 n2 c2,sL a3 n3 c3,sL a4 n4 c4,sL a5 n5 c5,sL a6 n6 c6] 25 _ rfl).alloc _,Blk.new _ #[.func (.func 22) #[] #[],.func (.func 23) #[] #[],.func (.func 24) #[] #[],.func (.func 25) #[] #[],.func (.func 26) #[] #[],.func (.func 27) #[] #[]] _ _ (by simp)⟩,oL ⟨rfl,trivial⟩⟩
 obtain⟨HI,hrel⟩:=hrel
 obtain⟨hx,BA,BF⟩:=HI.o
 have HW:=mh hx
 have HBA:=mh BA
 have HBF:=mh BF
 have k0:=BA.c 0 rfl
 have k1:=BA.c 1 rfl
 have k2:=BA.c 2 rfl
 have k3:=BA.c 3 rfl
 have k4:=BA.c 4 rfl
 have k5:=BA.c 5 rfl
 have k6:=BA.c 6 rfl
 clear hx BA HI
 rcases hrel with⟨rfl,HP⟩|⟨rfl,HP⟩|⟨rfl,HP⟩|⟨rfl,HP⟩|⟨rfl,HP⟩|⟨rfl,HP⟩|⟨rfl,HP⟩
 ·have f0:=BF.c 0 rfl
  clear BF
  go_wp2_with fail
  refine(G9 B _ _ _ _ _ _ _ G _ (by exact HH.o.next HW.o)).mono ?_
  rintro e w1 ⟨rfl,hx⟩
  have HN:Z (Nx w w1/\Blk w1 w.heap.size #[sL a0 n0 c0,sL a1 n1 c1,sL a2 n2 c2,sL a3 n3 c3,sL a4 n4 c4,sL a5 n5 c5,sL a6 n6 c6]/\Blk w1 (w.heap.size+1) #[.func (.func 22) #[] #[],.func (.func 23) #[] #[],.func (.func 24) #[] #[],.func (.func 25) #[] #[],.func (.func 26) #[] #[],.func (.func 27) #[] #[]]):=⟨HW.o.trans hx,HBA.o.next hx,HBF.o.next hx⟩
  clear hx f0 k0 k1 k2 k3 k4 k5 k6
  cases g:vWe G
  case false=>
   have HF:Z (false=Qq G):=by unfold Z;rw[HV.o,g];rfl
   clear g
   go_wp2
   go_ret
   exact⟨Q3 HF.o,HN.o.1⟩
  case true=>
   have HQ:=mh g
   clear g
   go_wp2
   go_roundw
   case rel=>exact⟨HN,oR (oL ⟨by go_num,HQ⟩)⟩
   case measure=>simp[intOf]
 ·have f0:=BF.c 1 rfl
  clear BF
  go_wp2_with fail
  refine(I5 B _ _ _ _ _ _ _ G _ (by exact HH.o.next HW.o)).mono ?_
  rintro e w1 ⟨rfl,hx⟩
  have HN:Z (Nx w w1/\Blk w1 w.heap.size #[sL a0 n0 c0,sL a1 n1 c1,sL a2 n2 c2,sL a3 n3 c3,sL a4 n4 c4,sL a5 n5 c5,sL a6 n6 c6]/\Blk w1 (w.heap.size+1) #[.func (.func 22) #[] #[],.func (.func 23) #[] #[],.func (.func 24) #[] #[],.func (.func 25) #[] #[],.func (.func 26) #[] #[],.func (.func 27) #[] #[]]):=⟨HW.o.trans hx,HBA.o.next hx,HBF.o.next hx⟩
  clear hx f0 k0 k1 k2 k3 k4 k5 k6
  cases g:vVe G
  case false=>
   have HF:Z (false=Qq G):=by unfold Z;rw[HV.o,HP.o,g];rfl
   clear g
   go_wp2
   go_ret
   exact⟨Q3 HF.o,HN.o.1⟩
  case true=>
   have HQ:Z (vWe G=true/\vVe G=true):=⟨HP.o,g⟩
   clear g
   go_wp2
   go_roundw
   case rel=>exact⟨HN,oR (oR (oL ⟨by go_num,HQ⟩))⟩
   case measure=>simp[intOf]
 ·have f0:=BF.c 2 rfl
  clear BF
  go_wp2_with fail
  refine(Fm B _ _ _ _ _ _ _ G _ (by exact HH.o.next HW.o)).mono ?_
  rintro e w1 ⟨rfl,hx⟩
  have HN:Z (Nx w w1/\Blk w1 w.heap.size #[sL a0 n0 c0,sL a1 n1 c1,sL a2 n2 c2,sL a3 n3 c3,sL a4 n4 c4,sL a5 n5 c5,sL a6 n6 c6]/\Blk w1 (w.heap.size+1) #[.func (.func 22) #[] #[],.func (.func 23) #[] #[],.func (.func 24) #[] #[],.func (.func 25) #[] #[],.func (.func 26) #[] #[],.func (.func 27) #[] #[]]):=⟨HW.o.trans hx,HBA.o.next hx,HBF.o.next hx⟩
  clear hx f0 k0 k1 k2 k3 k4 k5 k6
  cases g:Qo G.sr.length (sOk G)
  case false=>
   have HF:Z (false=Qq G):=by unfold Z;rw[HV.o,HP.o.1,HP.o.2,g];rfl
   clear g
   go_wp2
   go_ret
   exact⟨Q3 HF.o,HN.o.1⟩
  case true=>
   have HQ:Z (vWe G=true/\vVe G=true/\Qo G.sr.length (sOk G)=true):=⟨HP.o.1,HP.o.2,g⟩
   clear g
   go_wp2
   go_roundw
   case rel=>exact⟨HN,oR (oR (oR (oL ⟨by go_num,HQ⟩)))⟩
   case measure=>simp[intOf]
 ·have f0:=BF.c 3 rfl
  clear BF
  go_wp2_with fail
  refine(Ed B _ _ _ _ _ _ _ G _ (by exact HH.o.next HW.o) HS.o).mono ?_
  rintro e w1 ⟨rfl,hx⟩
  have HN:Z (Nx w w1/\Blk w1 w.heap.size #[sL a0 n0 c0,sL a1 n1 c1,sL a2 n2 c2,sL a3 n3 c3,sL a4 n4 c4,sL a5 n5 c5,sL a6 n6 c6]/\Blk w1 (w.heap.size+1) #[.func (.func 22) #[] #[],.func (.func 23) #[] #[],.func (.func 24) #[] #[],.func (.func 25) #[] #[],.func (.func 26) #[] #[],.func (.func 27) #[] #[]]):=⟨HW.o.trans hx,HBA.o.next hx,HBF.o.next hx⟩
  clear hx f0 k0 k1 k2 k3 k4 k5 k6
  cases g:vFi G
  case false=>
   have HF:Z (false=Qq G):=by unfold Z;rw[HV.o,HP.o.1,HP.o.2.1,HP.o.2.2,g];rfl
   clear g
   go_wp2
   go_ret
   exact⟨Q3 HF.o,HN.o.1⟩
  case true=>
   have HQ:Z (vWe G=true/\vVe G=true/\Qo G.sr.length (sOk G)=true/\vFi G=true):=⟨HP.o.1,HP.o.2.1,HP.o.2.2,g⟩
   clear g
   go_wp2
   go_roundw
   case rel=>exact⟨HN,oR (oR (oR (oR (oL ⟨by go_num,HQ⟩))))⟩
   case measure=>simp[intOf]
 ·have f0:=BF.c 4 rfl
  clear BF
  go_wp2_with fail
  refine(As B _ _ _ _ _ _ _ G _ (by exact HH.o.next HW.o)).mono ?_
  rintro e w1 ⟨rfl,hx⟩
  have HN:Z (Nx w w1/\Blk w1 w.heap.size #[sL a0 n0 c0,sL a1 n1 c1,sL a2 n2 c2,sL a3 n3 c3,sL a4 n4 c4,sL a5 n5 c5,sL a6 n6 c6]/\Blk w1 (w.heap.size+1) #[.func (.func 22) #[] #[],.func (.func 23) #[] #[],.func (.func 24) #[] #[],.func (.func 25) #[] #[],.func (.func 26) #[] #[],.func (.func 27) #[] #[]]):=⟨HW.o.trans hx,HBA.o.next hx,HBF.o.next hx⟩
  clear hx f0 k0 k1 k2 k3 k4 k5 k6
  cases g:vAr G
  case false=>
   have HF:Z (false=Qq G):=by unfold Z;rw[HV.o,HP.o.1,HP.o.2.1,HP.o.2.2.1,HP.o.2.2.2,g];rfl
   clear g
   go_wp2
   go_ret
   exact⟨Q3 HF.o,HN.o.1⟩
  case true=>
   have HQ:Z (vWe G=true/\vVe G=true/\Qo G.sr.length (sOk G)=true/\vFi G=true/\vAr G=true):=⟨HP.o.1,HP.o.2.1,HP.o.2.2.1,HP.o.2.2.2,g⟩
   clear g
   go_wp2
   go_roundw
   case rel=>exact⟨HN,oR (oR (oR (oR (oR (oL ⟨by go_num,HQ⟩)))))⟩
   case measure=>simp[intOf]
 ·have f0:=BF.c 5 rfl
  clear BF
  go_wp2_with fail
  refine(Ec B _ _ _ _ _ _ _ G _ (by exact HH.o.next HW.o) (tw_of HP.o.2.1 HP.o.2.2.2.1 HP.o.2.2.2.2)).mono ?_
  rintro e w1 ⟨rfl,hx⟩
  have HN:Z (Nx w w1/\Blk w1 w.heap.size #[sL a0 n0 c0,sL a1 n1 c1,sL a2 n2 c2,sL a3 n3 c3,sL a4 n4 c4,sL a5 n5 c5,sL a6 n6 c6]/\Blk w1 (w.heap.size+1) #[.func (.func 22) #[] #[],.func (.func 23) #[] #[],.func (.func 24) #[] #[],.func (.func 25) #[] #[],.func (.func 26) #[] #[],.func (.func 27) #[] #[]]):=⟨HW.o.trans hx,HBA.o.next hx,HBF.o.next hx⟩
  clear hx f0 k0 k1 k2 k3 k4 k5 k6
  cases g:Qo G.eo.length (oOk G)
  case false=>
   have HF:Z (false=Qq G):=by unfold Z;rw[HV.o,HP.o.1,HP.o.2.1,HP.o.2.2.1,HP.o.2.2.2.1,HP.o.2.2.2.2,g];rfl
   clear g
   go_wp2
   go_ret
   exact⟨Q3 HF.o,HN.o.1⟩
  case true=>
   have HQ:Z (vWe G=true/\vVe G=true/\Qo G.sr.length (sOk G)=true/\vFi G=true/\vAr G=true/\Qo G.eo.length (oOk G)=true):=⟨HP.o.1,HP.o.2.1,HP.o.2.2.1,HP.o.2.2.2.1,HP.o.2.2.2.2,g⟩
   clear g
   go_wp2
   go_roundw
   case rel=>exact⟨HN,oR (oR (oR (oR (oR (oR (⟨by go_num,HQ⟩))))))⟩
   case measure=>simp[intOf]
 ·have HF:Z (true=Qq G):=by unfold Z;rw[HV.o,HP.o.1,HP.o.2.1,HP.o.2.2.1,HP.o.2.2.2.1,HP.o.2.2.2.2.1,HP.o.2.2.2.2.2];rfl
  clear BF
  go_wp2
  go_ret
  exact⟨Q3 HF.o,HW.o⟩
end Go.Proofs.YtphiaobccollhaaGreat
