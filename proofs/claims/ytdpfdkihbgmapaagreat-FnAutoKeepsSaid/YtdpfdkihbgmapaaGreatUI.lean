import Derived.Test.YtdpfdkihbgmapaaGreatUB
import Derived.Test.YtdpfdkihbgmapaaGreatUH
import Derived.Test.YtdpfdkihbgmapaaGreatXDG
import Derived.Test.YtdpfdkihbgmapaaGreatXCE
import Derived.Test.YtdpfdkihbgmapaaGreatRows
import Derived.WalkKit
import Derived.ProofKit
import Derived.OpenShut
import Derived.ShutString
import Derived.ChangeOld
import Derived.Below
namespace Go.Proofs.YtdpfdkihbgmapaaGreat
open Go.RowKit Go.Sort
set_option linter.unusedVariables false
set_option maxRecDepth 1000000
set_option maxHeartbeats 16000000
theorem built_cases {rs:List Ru}{c:Int}{A:Au}(h:BuiltI rs c A):(c≠0/\A=auZ)\/(c=0/\rgB rs=true/\∃ws:List (List Int),ws.length<=2000/\AscW ws/\(∀y,inW ws y↔PW rs rs.length 1 y)/\A=autoOf ws (mustS rs) (badS rs)):=by
 rcases h with⟨_,h2,h3⟩|⟨_,_,h2,h3⟩|⟨h1,ws,h2,h3,h4,h5,h6⟩
 ·exact Or.inl ⟨by omega,h3⟩
 ·exact Or.inl ⟨by omega,h3⟩
 ·exact Or.inr ⟨h5,h1,ws,h2,h3,h4,h6⟩
theorem auZ_bad:validS auZ=false:=rfl
theorem auZ_run (P:List Int):runA auZ P=-1:=by
 unfold runA
 rw[if_neg]
 rintro⟨h,_⟩
 rw[auZ_bad] at h
 cases h
theorem auZ_small:SmallA auZ:=⟨Nat.zero_le _,Nat.zero_le _,Nat.zero_le _,Nat.zero_le _,Nat.zero_le _⟩
theorem autoOf_small {ws:List (List Int)}{mu:List Int->Int}{bd:List Int->Bool}(h:ws.length<=2000):SmallA (autoOf ws mu bd):=⟨by simp[autoOf];omega,by simp[autoOf];omega,by simp[autoOf];omega,by simp[autoOf];omega,by simp[autoOf];omega⟩
theorem O5.ha {C:Nat}{w:World}{v0 v1 v2 v3 v4:Value}{A:Au}(h:O5 C w v0 v1 v2 v3 v4 A):HA C w v0 v1 v2 v3 v4 A:=⟨h.o0.held,h.o1.held,h.o2.held,h.o3.held,h.o4.held⟩
theorem field_code (code:Int)(a0 a1 a2 a3 a4:Option Addr)(n0 c0 n1 c1 n2 c2 n3 c3 n4 c4:Nat)(w:World):(Instr.field 30 (.agg #[.int .i64 code,.slice a0 n0 c0,.slice a1 n1 c1,.slice a2 n2 c2,.slice a3 n3 c3,.slice a4 n4 c4]) 0).run Tryz.prog w=.ok (.int .i64 code) w:=by kernel_rfl
attribute [local go_sem] field_code
theorem wpList_unguard {P:Program}{ops:Array Oper}{Q:Exit->Act->World->Prop}{a:Act}{w:World}{rest:List Oper}{o:Oper}(hw:Region.wanted o (yielded ops a.tmps)=true)(h:wpList P ops Q ({ o with guard:=none }::rest) a w):wpList P ops Q (o::rest) a w:=by
 unfold wpList at h ⊢
 rw[if_pos hw]
 have h1:Region.wanted { o with guard:=none } (yielded ops a.tmps)=true:=rfl
 rw[if_pos h1] at h
 exact h
def Eok (P:List Int):Prop:=∀i,i<P.length->0<=iat P i/\iat P i<4000
theorem Eok.snoc {P:List Int}{f:Int}(h:Eok P)(h0:0<=f)(h1:f<4000):Eok (P++[f]):=by
 intro i hi
 rw[List.length_append,List.length_singleton] at hi
 by_cases c:i<P.length
 ·have e:iat (P++[f]) i=iat P i:=by simp[iat,List.getD,List.getElem?_append_left c]
  rw[e];exact h i c
 ·have e:i=P.length:=by omega
  subst e
  have e2:iat (P++[f]) P.length=f:=by simp[iat,List.getD]
  rw[e2];exact⟨h0,h1⟩
theorem HA.lower {C C':Nat}{w:World}{v0 v1 v2 v3 v4:Value}{A:Au}(h:HA C w v0 v1 v2 v3 v4 A)(hC:C'<=C):HA C' w v0 v1 v2 v3 v4 A:=⟨h.h0.base hC,h.h1.base hC,h.h2.base hC,h.h3.base hC,h.h4.base hC⟩
theorem lawKeeps_any (B B2:Nat)(v v2:Value)(code more:List UInt8)(w:World)(h:HBy B w v code)(h2:HBy B2 w v2 more) :
  Calls Tryz.prog 3 #[v,v2] w λe w'=>e=.returned (.bool true)/\Nx w w':=by
 have HI:Hid (HBy B w v code):=h
 have HM:Hid (HBy B2 w v2 more):=h2
 obtain⟨va,vc,ev,-,-⟩:=id h
 obtain⟨ma,mc,em,-,-⟩:=id h2
 generalize hcl:code.length=cl at *
 have HCL:Hid (code.length=cl):=hcl
 generalize hml:more.length=ml at *
 have HML:Hid (more.length=ml):=hml
 subst ev em
 clear h h2 hcl hml
 by_cases hb1:1048576<cl
 ·have hb1':(1048576:Int)<(cl:Int):=by omega
  go_enter Tryz.func3,Tryz.ntmps3
  go_wp2
  go_ret
  exact⟨rfl,Nx.refl _⟩
 have hb1':¬(1048576:Int)<(cl:Int):=by omega
 by_cases hb2:1048576<ml
 ·have hb2':(1048576:Int)<(ml:Int):=by omega
  go_enter Tryz.func3,Tryz.ntmps3
  go_wp2
  go_ret
  exact⟨rfl,Nx.refl _⟩
 have hb2':¬(1048576:Int)<(ml:Int):=by omega
 generalize hR:anyR (srcOf code)=R
 have HR:Hid (anyR (srcOf code)=R):=hR
 clear hR
 obtain⟨rn,hrn⟩:∃n,R.length=n:=⟨_,rfl⟩
 have HRN:Hid (R.length=rn):=hrn
 clear hrn
 go_enter Tryz.func3,Tryz.ntmps3
 go_wp2_with fail
 refine(drawBuild_any B _ code w HI.out (by rw[HCL.out];omega)).mono ?_
 rintro e w1 ⟨⟨u,rfl,hr⟩,hx1⟩
 rw[HR.out] at hr
 have HRU1:Hid (HRules w.heap.size w1 u R):=hr
 have HX1:Hid (Nx w w1):=hx1
 obtain⟨ra,rc,er,-,-⟩:=id hr
 rw[HRN.out] at er
 subst er
 clear hr hx1
 go_wp2_with fail
 refine(drawBuild_any B _ code w1 (HI.out.next HX1.out) (by rw[HCL.out];omega)).mono ?_
 rintro e w2 ⟨⟨u2,rfl,hr⟩,hx2⟩
 rw[HR.out] at hr
 have HRU2:Hid (HRules w1.heap.size w2 u2 R):=hr
 have HX2:Hid (Nx w1 w2):=hx2
 obtain⟨ra2,rc2,er,-,-⟩:=id hr
 rw[HRN.out] at er
 subst er
 clear hr hx2
 go_wp2_with fail
 refine(implBuild_any w1.heap.size _ R w2 HRU2.out).mono ?_
 rintro e w3 ⟨⟨cd,a0,n0,c0,a1,n1,c1,a2,n2,c2,a3,n3,c3,a4,n4,c4,A,rfl,hbi,ho5⟩,hx3⟩
 have HBI:Hid (BuiltI R cd A):=hbi
 have HO3:Hid (HA w2.heap.size w3 (.slice a0 n0 c0) (.slice a1 n1 c1) (.slice a2 n2 c2) (.slice a3 n3 c3) (.slice a4 n4 c4) A):=ho5.ha
 have HX3:Hid (Nx w2 w3):=hx3
 clear hbi ho5 hx3
 go_upto_region 5 with fail
 generalize hWB:w3.alloc (.cells #[.int .i64 cd,.slice a0 n0 c0,.slice a1 n1 c1,.slice a2 n2 c2,.slice a3 n3 c3,.slice a4 n4 c4] 30)=w4
 have HX4:Hid (Nx w3 w4):=by unfold Hid;rw[<-hWB];exact box1 _ _
 have HB4:Hid (BT w4 w3.heap.size #[.int .i64 cd,.slice a0 n0 c0,.slice a1 n1 c1,.slice a2 n2 c2,.slice a3 n3 c3,.slice a4 n4 c4] 30):=by unfold Hid;rw[<-hWB];exact BT.new w3 _ _ _ rfl
 have HX14:Hid (Nx w1 w4):=(HX2.out.trans HX3.out).trans HX4.out
 have hz2:w.heap.size<=w2.heap.size:=Nat.le_trans HX1.out.size HX2.out.size
 have HA4:Hid (HA w.heap.size w4 (.slice a0 n0 c0) (.slice a1 n1 c1) (.slice a2 n2 c2) (.slice a3 n3 c3) (.slice a4 n4 c4) A):=(HO3.out.next HX4.out).lower hz2
 generalize hg6:w3.heap.size=g6 at *
 clear hWB hg6
 go_wp2_with fail
 refine(specBuild_any w.heap.size _ R w4 (HRU1.out.next HX14.out)).mono ?_
 rintro e w5 ⟨⟨cd',a0',n0',c0',a1',n1',c1',a2',n2',c2',a3',n3',c3',a4',n4',c4',A',rfl,hbs,-⟩,hx5⟩
 obtain⟨ecd,eA⟩:=built_same hbs HBI.out
 subst ecd
 clear eA hbs
 have HB5:Hid (BT w5 g6 #[.int .i64 cd',.slice a0 n0 c0,.slice a1 n1 c1,.slice a2 n2 c2,.slice a3 n3 c3,.slice a4 n4 c4] 30):=HB4.out.next hx5
 have HA5:=mkHid' (HA4.out.next hx5)
 have HX5:Hid (Nx w w5):=(HX1.out.trans HX14.out).trans hx5
 have HR5:Hid (HRules w.heap.size w5 (.slice ra rn rc) R):=(HRU1.out.next HX14.out).next hx5
 have HM5:Hid (HBy B2 w5 (.slice ma ml mc) more):=HM.out.next HX5.out
 clear hx5 HB4 HA4 HX14 HX1 HX2 HX3 HX4 HRU1 HRU2 HO3 HI HCL HM
 generalize hcd:cd'=cd at *
 clear hcd
 rcases built_cases HBI.out with⟨hc0,rfl⟩|⟨rfl,hrg,ws,hws,hasc,hin,rfl⟩
 ·have hc0':(cd !=0)=true:=by simpa using hc0
  have hc1':(cd !=cd)=false:=by simp
  have y0:w5.cell? ⟨g6,0,none⟩=some (.int .i64 cd):=HB5.out.blk.cell (i:=0) rfl
  have y1:w5.cell? ⟨g6,1,none⟩=some (.slice a0 n0 c0):=HB5.out.blk.cell (i:=1) rfl
  have y2:w5.cell? ⟨g6,2,none⟩=some (.slice a1 n1 c1):=HB5.out.blk.cell (i:=2) rfl
  have y3:w5.cell? ⟨g6,3,none⟩=some (.slice a2 n2 c2):=HB5.out.blk.cell (i:=3) rfl
  have y4:w5.cell? ⟨g6,4,none⟩=some (.slice a3 n3 c3):=HB5.out.blk.cell (i:=4) rfl
  have y5:w5.cell? ⟨g6,5,none⟩=some (.slice a4 n4 c4):=HB5.out.blk.cell (i:=5) rfl
  go_wp2_with fail
  refine(implValidA_any w.heap.size (.slice a0 n0 c0) (.slice a1 n1 c1) (.slice a2 n2 c2) (.slice a3 n3 c3) (.slice a4 n4 c4) auZ w5 HA5.out auZ_small).mono ?_
  rintro e w6 ⟨rfl,hx6⟩
  rw[auZ_bad]
  have HB6:Hid (BT w6 g6 #[.int .i64 cd,.slice a0 n0 c0,.slice a1 n1 c1,.slice a2 n2 c2,.slice a3 n3 c3,.slice a4 n4 c4] 30):=HB5.out.next hx6
  have HA6:=mkHid' (HA5.out.next hx6)
  have HX6:Hid (Nx w w6):=HX5.out.trans hx6
  clear y0 y1 y2 y3 y4 y5
  clear hx6
  have HE0:Hid (HInts w.heap.size (w6.alloc (.cells #[] 2)) (.slice (some ⟨w6.heap.size,0,none⟩) 0 0) []):=(ownI_none _ _ HX6.out.size).held
  have HB7:Hid (BT (w6.alloc (.cells #[] 2)) g6 #[.int .i64 cd,.slice a0 n0 c0,.slice a1 n1 c1,.slice a2 n2 c2,.slice a3 n3 c3,.slice a4 n4 c4] 30):=HB6.out.next (box1 _ _)
  have HA7:Hid (HA w.heap.size (w6.alloc (.cells #[] 2)) (.slice a0 n0 c0) (.slice a1 n1 c1) (.slice a2 n2 c2) (.slice a3 n3 c3) (.slice a4 n4 c4) auZ):=HA6.out.next (box1 _ _)
  have HX7:Hid (Nx w (w6.alloc (.cells #[] 2))):=HX6.out.trans (box1 _ _)
  have y0:w6.cell? ⟨g6,0,none⟩=some (.int .i64 cd):=HB6.out.blk.cell (i:=0) rfl
  have y1:w6.cell? ⟨g6,1,none⟩=some (.slice a0 n0 c0):=HB6.out.blk.cell (i:=1) rfl
  have y2:w6.cell? ⟨g6,2,none⟩=some (.slice a1 n1 c1):=HB6.out.blk.cell (i:=2) rfl
  have y3:w6.cell? ⟨g6,3,none⟩=some (.slice a2 n2 c2):=HB6.out.blk.cell (i:=3) rfl
  have y4:w6.cell? ⟨g6,4,none⟩=some (.slice a3 n3 c3):=HB6.out.blk.cell (i:=4) rfl
  have y5:w6.cell? ⟨g6,5,none⟩=some (.slice a4 n4 c4):=HB6.out.blk.cell (i:=5) rfl
  go_wp2_with fail
  refine(implRun_any w.heap.size (.slice a0 n0 c0) (.slice a1 n1 c1) (.slice a2 n2 c2) (.slice a3 n3 c3) (.slice a4 n4 c4) (.slice (some ⟨w6.heap.size,0,none⟩) 0 0) auZ [] (w6.alloc (.cells #[] 2)) HA7.out HE0.out auZ_small (by simp)).mono ?_
  rintro e w8 ⟨rfl,hx8⟩
  rw[auZ_run]
  have HX8:Hid (Nx w w8):=HX7.out.trans hx8
  clear y0 y1 y2 y3 y4 y5
  clear hx8
  go_wp2
  go_ret
  exact⟨rfl,HX8.out⟩
 have hc1':((0:Int) !=0)=false:=rfl
 have HV:Hid (validS (autoOf ws (mustS R) (badS R))=true):=auto_valid hrg hws hasc hin
 have HSM:Hid (SmallA (autoOf ws (mustS R) (badS R))):=autoOf_small hws
 have HKI:Hid (∀P:List Int,Eok P->P.length<=10000->(decide (0<=runA (autoOf ws (mustS R) (badS R)) P)==kpB R P)=true):=λP hP hl=>by
  have h1:=keeps_iff hrg hws hasc hin hP hl
  have h2:=kp_ok (P:=P) hrg
  have h3:decide (0<=runA (autoOf ws (mustS R) (badS R)) P)=kpB R P:=by
   rw[Bool.eq_iff_iff,decide_eq_true_eq,h1,h2]
  rw[h3];simp
 have HRG:Hid (∀i,i<R.length->2<=(ratA R i).seq.length/\(ratA R i).seq.length<=402/\∀j,j<(ratA R i).seq.length->0<=iat (ratA R i).seq j/\iat (ratA R i).seq j<4000):=λi hi=>rg_at hrg hi
 have hrl:rn<=1000:=by
  have h:=hrg
  unfold rgB at h
  rw[Bool.and_eq_true,decide_eq_true_eq,HRN.out] at h
  exact h.1
 clear hrg hin hasc hws HBI
 generalize (autoOf ws (mustS R) (badS R))=A at *
 have y0:w5.cell? ⟨g6,0,none⟩=some (.int .i64 0):=HB5.out.blk.cell (i:=0) rfl
 have y1:w5.cell? ⟨g6,1,none⟩=some (.slice a0 n0 c0):=HB5.out.blk.cell (i:=1) rfl
 have y2:w5.cell? ⟨g6,2,none⟩=some (.slice a1 n1 c1):=HB5.out.blk.cell (i:=2) rfl
 have y3:w5.cell? ⟨g6,3,none⟩=some (.slice a2 n2 c2):=HB5.out.blk.cell (i:=3) rfl
 have y4:w5.cell? ⟨g6,4,none⟩=some (.slice a3 n3 c3):=HB5.out.blk.cell (i:=4) rfl
 have y5:w5.cell? ⟨g6,5,none⟩=some (.slice a4 n4 c4):=HB5.out.blk.cell (i:=5) rfl
 go_wp2_with fail
 refine(specValidA_any w.heap.size (.slice a0 n0 c0) (.slice a1 n1 c1) (.slice a2 n2 c2) (.slice a3 n3 c3) (.slice a4 n4 c4) A w5 HA5.out).mono ?_
 rintro e w6 ⟨rfl,hx6⟩
 rw[HV.out]
 have HB6:Hid (BT w6 g6 #[.int .i64 0,.slice a0 n0 c0,.slice a1 n1 c1,.slice a2 n2 c2,.slice a3 n3 c3,.slice a4 n4 c4] 30):=HB5.out.next hx6
 have HA6:=mkHid' (HA5.out.next hx6)
 have HX6:Hid (Nx w5 w6):=hx6
 clear y0 y1 y2 y3 y4 y5
 clear hx6
 have y0:w6.cell? ⟨g6,0,none⟩=some (.int .i64 0):=HB6.out.blk.cell (i:=0) rfl
 have y1:w6.cell? ⟨g6,1,none⟩=some (.slice a0 n0 c0):=HB6.out.blk.cell (i:=1) rfl
 have y2:w6.cell? ⟨g6,2,none⟩=some (.slice a1 n1 c1):=HB6.out.blk.cell (i:=2) rfl
 have y3:w6.cell? ⟨g6,3,none⟩=some (.slice a2 n2 c2):=HB6.out.blk.cell (i:=3) rfl
 have y4:w6.cell? ⟨g6,4,none⟩=some (.slice a3 n3 c3):=HB6.out.blk.cell (i:=4) rfl
 have y5:w6.cell? ⟨g6,5,none⟩=some (.slice a4 n4 c4):=HB6.out.blk.cell (i:=5) rfl
 go_wp2_with fail
 refine(implValidA_any w.heap.size (.slice a0 n0 c0) (.slice a1 n1 c1) (.slice a2 n2 c2) (.slice a3 n3 c3) (.slice a4 n4 c4) A w6 HA6.out HSM.out).mono ?_
 rintro e w7 ⟨rfl,hx7⟩
 rw[HV.out]
 have HX7:Hid (Nx w5 w7):=HX6.out.trans hx7
 clear y0 y1 y2 y3 y4 y5
 clear hx7 HB6 HA6 HX6
 have HE0:Hid (OwnI w7.heap.size (w7.alloc (.cells #[] 2)) (.slice (some ⟨w7.heap.size,0,none⟩) 0 0) []):=ownI_none _ _ (Nat.le_refl _)
 have HX8:Hid (Nx w5 (w7.alloc (.cells #[] 2))):=HX7.out.trans (box1 _ _)
 have HZ8:Hid (w7.heap.size<=(w7.alloc (.cells #[] 2)).heap.size):=(show Nx w7 (w7.alloc (.cells #[] 2)) from box1 _ _).size
 have HZ5:Hid (w5.heap.size<=w7.heap.size):=HX7.out.size
 clear HX7
 go_upto_region 13 with fail
 generalize w7.alloc (.cells #[] 2)=w8 at *
 generalize w7.heap.size=Z at *
 go_wp2_with fail
 refine(lwAt_any B2 _ more 0 32 w8 (HM5.out.next HX8.out) (by omega) (by omega) (by rw[HML.out];omega)).mono ?_
 rintro e w9 ⟨rfl,hx9⟩
 have hst:=lwV_lt (bs:=more) (i:=0) (n:=32) (by omega)
 generalize lwV more 0 32=st at *
 have HE9:Hid (OwnI Z w9 (.slice (some ⟨Z,0,none⟩) 0 0) []):=HE0.out.next hx9
 have HX9:Hid (Nx w5 w9):=HX8.out.trans hx9
 have HZ9:Hid (Z<=w9.heap.size):=Nat.le_trans HZ8.out hx9.size
 clear hx9 HE0 HX8 HZ8
 go_wp2
 go_loopw [8,10] (λs8 s10 wr=>∃(i m c:Nat) (a:Option Addr) (P:List Int),s10=.int .i64 i/\s8=.slice a m c/\1<=i/\i<=st+1/\m<i/\Hid (P.length=m)/\Hid (Eok P)/\Hid (OwnI Z wr (.slice a m c) P)/\Hid (Nx w5 wr)/\Hid (Z<=wr.heap.size)) (λ_ s10 _=>st+1-(intOf s10).toNat)
 case atStart=>exact⟨1,0,0,_,[],rfl,rfl,by omega,by omega,by omega,rfl,(λi hi=>absurd hi (Nat.not_lt_zero _)),HE9,HX9,HZ9⟩
 clear HE9 HX9 HZ9
 obtain⟨i,m,c,a,P,rfl,rfl,hi1,his,hmi,HPL,HEK,HO,HX,HZ⟩:=hrel
 by_cases hlt:i<=st
 ·have hlt':(i:Int)<=(st:Int):=by omega
  go_wp2_with fail
  refine(lwAt_any B2 _ more i 4 wr (HM5.out.next HX.out) (by omega) (by omega) (by rw[HML.out];omega)).mono ?_
  rintro e w1 ⟨rfl,hx1⟩
  have hf0:=lwV_lt (bs:=more) (i:=i) (n:=4) (by omega)
  generalize lwV more i 4=f0 at *
  have HO1:Hid (OwnI Z w1 (.slice a m c) P):=HO.out.next hx1
  have HX1:Hid (Nx w5 w1):=HX.out.trans hx1
  have HZ1:Hid (Z<=w1.heap.size):=Nat.le_trans HZ.out hx1.size
  clear hx1 HO HX HZ
  go_upto_region 18 with fail
  go_cut [76] from 67 to 75 (λs76 wc=>∃bq:Bool,s76=.bool bq/\(bq=true->0<rn)/\Hid (Nx w1 wc))
  case first=>
   by_cases h0:0<rn
   ·have h0':(0:Int)<(rn:Int):=by omega
    have d0:decide (0<rn)=true:=by simp;omega
    have d0':decide ((0:Int)<(rn:Int))=true:=by simp;omega
    go_wp2_with fail
    refine(lwAt_any B2 _ more (i+3) 4 w1 (HM5.out.next HX1.out) (by omega) (by omega) (by rw[HML.out];omega)).mono ?_
    rintro e w2 ⟨rfl,hx2⟩
    have HX2:Hid (Nx w1 w2):=hx2
    clear hx2
    generalize lwV more (i+3) 4=d3 at *
    go_wp2
    go_meet
    exact⟨_,rfl,λ_=>h0,HX2⟩
   ·have e0:rn=0:=by omega
    subst e0
    go_wp2
    go_meet
    exact⟨false,rfl,λh=>(by cases h),Nx.refl _⟩
  case rest=>
  obtain⟨bq,rfl,hbq,HXc⟩:=hcut
  have HO2:Hid (OwnI Z wc (.slice a m c) P):=HO1.out.next HXc.out
  have HX2:Hid (Nx w5 wc):=HX1.out.trans HXc.out
  have HZ2:Hid (Z<=wc.heap.size):=Nat.le_trans HZ1.out HXc.out.size
  clear HXc HO1 HX1 HZ1
  obtain⟨w2,hw2⟩:∃w2:World,w2=wc:=⟨_,rfl⟩
  rw[<-hw2] at HO2 HX2 HZ2 ⊢
  clear hw2
  go_upto_if 76 with fail
  go_cut [11,12] from 77 to 95 (λs11 s12 wc=>∃f:Int,s11=.int .i64 f/\0<=f/\f<4000/\Hid (Nx w2 wc))
  case first=>
   cases bq with
   |false=>
    go_wp2
    go_meet
    exact⟨_,rfl,by omega,by omega,Nx.refl _⟩
   |true=>
    have hrp:=hbq rfl
    clear hbq
    go_wp2_with fail
    refine(lwAt_any B2 _ more (i+1) rn w2 (HM5.out.next HX2.out) (by omega) (by omega) (by rw[HML.out];omega)).mono ?_
    rintro e w3 ⟨rfl,hx3⟩
    have ht1:=lwV_lt (bs:=more) (i:=i+1) (n:=rn) hrp
    generalize lwV more (i+1) rn=t1 at *
    have HX3:Hid (Nx w2 w3):=hx3
    have HX53:Hid (Nx w5 w3):=HX2.out.trans hx3
    clear hx3
    obtain⟨ra',rc',er,-,hrk⟩:=HR5.out
    rw[HRN.out] at er hrk
    simp only[Value.slice.injEq] at er
    obtain⟨rfl,-,rfl⟩:=er
    obtain⟨rb,ro,rfl,-,hrb,hrc⟩:=hrk (by omega)
    obtain⟨sa,sc,q0,q1,q2,hS,hcap⟩:=hrc t1 ht1
    have q2:=cell_next HX53.out hrb q2
    have hg:=HRG.out t1 (by rw[HRN.out];exact ht1)
    have ht1':(t1:Int)<(rn:Int):=by omega
    obtain⟨sl,hsl⟩:∃n,(ratA R t1).seq.length=n:=⟨_,rfl⟩
    have HSL:Hid ((ratA R t1).seq.length=sl):=hsl
    rw[hsl] at hS hcap q2
    have hsl2:2<=sl:=by have:=hg.1;omega
    have hsl3:sl<=402:=by have:=hg.2.1;omega
    have HGE:Hid (∀j,j<sl->0<=iat (ratA R t1).seq j/\iat (ratA R t1).seq j<4000):=by unfold Hid;rw[<-HSL.out];exact hg.2.2
    obtain⟨sa',sc',es,-,hsk⟩:=hS
    rw[HSL.out] at es hsk
    simp only[Value.slice.injEq] at es
    obtain⟨rfl,-,rfl⟩:=es
    obtain⟨sb,so,rfl,-,hsb,hsc⟩:=hsk (by omega)
    clear hrk hrc q0 q1 hg hsl hsk
    go_wp2_with fail
    refine(lwAt_any B2 _ more (i+2) sl w3 (HM5.out.next HX53.out) (by omega) (by omega) (by rw[HML.out];omega)).mono ?_
    rintro e w4 ⟨rfl,hx4⟩
    have ht2:=lwV_lt (bs:=more) (i:=i+2) (n:=sl) (by omega)
    generalize lwV more (i+2) sl=t2 at *
    have HX4:Hid (Nx w2 w4):=HX3.out.trans hx4
    have hcf:=cell_next (HX53.out.trans hx4) hsb (hsc t2 ht2)
    have ht2':(t2:Int)<(sl:Int):=by omega
    have hge:=HGE.out t2 ht2
    clear hx4 hsc q2
    generalize iat (ratA R t1).seq t2=fv at *
    go_wp2
    go_meet
    exact⟨_,rfl,hge.1,hge.2,HX4⟩
  case rest=>
  obtain⟨f,rfl,hf1,hf2,HXc⟩:=hcut
  have HO3:Hid (OwnI Z wc (.slice a m c) P):=HO2.out.next HXc.out
  have HX3:Hid (Nx w5 wc):=HX2.out.trans HXc.out
  have HZ3:Hid (Z<=wc.heap.size):=Nat.le_trans HZ2.out HXc.out.size
  clear HXc HO2 HX2 HZ2 hbq
  obtain⟨w3,hw3⟩:∃w3:World,w3=wc:=⟨_,rfl⟩
  rw[<-hw3] at HO3 HX3 HZ3 ⊢
  clear hw3
  go_upto_region 21 with fail
  go_cut [107] from 96 to 106 (λs107 wc=>∃bk:Bool,s107=.bool bk/\Hid (Nx w3 wc))
  case first=>
   go_wp2_with fail
   refine(lwAt_any B2 _ more 1 2 w3 (HM5.out.next HX3.out) (by omega) (by omega) (by rw[HML.out];omega)).mono ?_
   rintro e w4 ⟨rfl,hx4⟩
   generalize lwV more 1 2=d1 at *
   have HX4:Hid (Nx w3 w4):=hx4
   have HX54:Hid (Nx w5 w4):=HX3.out.trans hx4
   have HO4:Hid (OwnI Z w4 (.slice a m c) P):=HO3.out.next hx4
   clear hx4
   by_cases hd:d1=0
   ·subst hd
    go_wp2
    go_meet
    exact⟨true,rfl,HX4⟩
   have hd':((d1:Int)==0)=false:=by simp;omega
   go_wp2_with fail
   refine(lwCopy_any Z _ P w4 HO4.out.held (by rw[HPL.out];omega)).mono ?_
   rintro e w6 ⟨⟨ac,cc,rfl,hoc⟩,hx6⟩
   rw[HPL.out] at hoc ⊢
   have HOC:Hid (OwnI w4.heap.size w6 (.slice ac m cc) P):=hoc
   have HX6:Hid (Nx w4 w6):=hx6
   have hz6:w4.heap.size<=w6.heap.size:=hx6.size
   clear hoc hx6
   go_wp2_with (at_builtin;refine wpList_unguard (by kernel_rfl) (app_int rfl _ _ rfl w4.heap.size m (.slice ac m cc) P f w6 rfl HOC.out rfl HPL.out (by omega) hz6 ?_))
   intro a7 c7 w7 r1 r2 r3
   have HO7:Hid (OwnI w4.heap.size w7 (.slice a7 (m+1) c7) (P++[f])):=r1
   have HX7:Hid (Nx w4 w7):=Below.trans HX6.out (r2.below HX6.out.size (λx hx=>(own_lt HOC.out x hx.symm).1))
   have HR7:Hid (HRules w.heap.size w7 (.slice ra rn rc) R):=(HR5.out.next HX54.out).next HX7.out
   clear r1 r2 r3 HOC HX6 hz6
   go_wp2_with fail
   refine(lwKeeps_any w.heap.size w4.heap.size _ _ R (P++[f]) w7 HR7.out HO7.out.held (λi hi=>(HRG.out i hi).1) (by rw[List.length_append,HPL.out];simp;omega)).mono ?_
   rintro e w8 ⟨rfl,hx8⟩
   have HX8:Hid (Nx w3 w8):=(HX4.out.trans HX7.out).trans hx8
   clear hx8 HR7 HO7
   generalize kpB R (P++[f])=kb at *
   go_wp2
   go_meet
   exact⟨_,rfl,HX8⟩
  case rest=>
  obtain⟨bk,rfl,HXc⟩:=hcut
  have HO4:Hid (OwnI Z wc (.slice a m c) P):=HO3.out.next HXc.out
  have HX4:Hid (Nx w5 wc):=HX3.out.trans HXc.out
  have HZ4:Hid (Z<=wc.heap.size):=Nat.le_trans HZ3.out HXc.out.size
  clear HXc HO3 HX3 HZ3
  cases bk with
  |false=>
   go_wp2
   go_roundw
   case rel=>exact⟨i+1,m,c,a,P,by go_num,rfl,by omega,by omega,by omega,HPL,HEK,HO4,HX4,HZ4⟩
   case measure=>simp[intOf];omega
  |true=>
   have hzz:Z<=wc.heap.size:=HZ4.out
   go_wp2_with (at_builtin;refine app_int rfl _ _ rfl Z m (.slice a m c) P f wc rfl HO4.out rfl HPL.out (by omega) hzz ?_)
   intro a1 c1 w4 r1 r2 r3
   have HO5:Hid (OwnI Z w4 (.slice a1 (m+1) c1) (P++[f])):=r1
   have HX5:Hid (Nx w5 w4):=Below.trans HX4.out (r2.below HX4.out.size (λx hx=>by have:=(own_lt HO4.out x hx.symm).1;have:=HZ5.out;omega))
   have HZ6:Hid (Z<=w4.heap.size):=Nat.le_trans HZ4.out r2.size
   have HPL2:Hid ((P++[f]).length=m+1):=by unfold Hid;rw[List.length_append,HPL.out];rfl
   have HEK2:Hid (Eok (P++[f])):=HEK.out.snoc hf1 hf2
   clear r1 r2 r3 HO4
   go_wp2
   go_roundw
   case rel=>exact⟨i+1,m+1,c1,a1,P++[f],by go_num,rfl,by omega,by omega,by omega,HPL2,HEK2,HO5,HX5,HZ6⟩
   case measure=>simp[intOf];omega
 have HKF:Hid ((decide (0<=runA A P)==kpB R P)=true):=HKI.out P HEK.out (by rw[HPL.out];omega)
 have hlf:¬(i:Int)<=(st:Int):=by omega
 have hmx:Tryz.prog.follows .mixedOrders=true:=by kernel_rfl
 go_upto_region 23 with fail
 have hxd:Nx wr wr.drew:=(Below.refl _ _).drew
 have HXd:Hid (Nx w5 wr.drew):=HX.out.trans hxd
 have HOd:Hid (OwnI Z wr.drew (.slice a m c) P):=HO.out.next hxd
 have HSN:Hid (∀q,Nx w5 q->(λq=>q.cell? ⟨g6,1,none⟩=some (.slice a0 n0 c0)/\q.cell? ⟨g6,2,none⟩=some (.slice a1 n1 c1)/\q.cell? ⟨g6,3,none⟩=some (.slice a2 n2 c2)/\q.cell? ⟨g6,4,none⟩=some (.slice a3 n3 c3)/\q.cell? ⟨g6,5,none⟩=some (.slice a4 n4 c4)) q):=λq hq=>⟨(HB5.out.next hq).blk.cell (i:=1) rfl,(HB5.out.next hq).blk.cell (i:=2) rfl,(HB5.out.next hq).blk.cell (i:=3) rfl,(HB5.out.next hq).blk.cell (i:=4) rfl,(HB5.out.next hq).blk.cell (i:=5) rfl⟩
 have HSS:Hid ((λq=>q.cell? ⟨g6,1,none⟩=some (.slice a0 n0 c0)/\q.cell? ⟨g6,2,none⟩=some (.slice a1 n1 c1)/\q.cell? ⟨g6,3,none⟩=some (.slice a2 n2 c2)/\q.cell? ⟨g6,4,none⟩=some (.slice a3 n3 c3)/\q.cell? ⟨g6,5,none⟩=some (.slice a4 n4 c4)) wr.drew):=HSN.out _ HXd.out
 clear HX HO hxd
 refine(wpIn_wide (n:=9)).1 ?_
 refine wpIn_region_S (c:=10) (S:=λq=>q.cell? ⟨g6,1,none⟩=some (.slice a0 n0 c0)/\q.cell? ⟨g6,2,none⟩=some (.slice a1 n1 c1)/\q.cell? ⟨g6,3,none⟩=some (.slice a2 n2 c2)/\q.cell? ⟨g6,4,none⟩=some (.slice a3 n3 c3)/\q.cell? ⟨g6,5,none⟩=some (.slice a4 n4 c4)) hmx (by kernel_rfl) (λhw hcl=>?_)
 generalize wr.drew=wd at *
 refine tq (i:=0) (v:=.pointer (some ⟨g6,1,none⟩)) (λhcl=>?_)
 refine tq (i:=1) (v:=.agg #[.slice a0 n0 c0,.slice a1 n1 c1,.slice a2 n2 c2,.slice a3 n3 c3,.slice a4 n4 c4]) (λhcl=>?_)
 refine tq (i:=2) (v:=.slice a m c) (λhcl=>?_)
 refine tq (i:=6) (v:=.slice ra rn rc) (λhcl=>?_)
 refine tq (i:=7) (v:=.slice a m c) (λhcl=>?_)
 refine anyS_one2 (i:=3) (by kernel_rfl) hcl (λhcl=>wpOpIn_step rfl (λK hK=>?_))
 go_simp
 refine⟨trivial,(callsIn_wide.2 (lwCopy_any Z _ P wd (HOd.out.next (Nx.refl wd)).held (by rw[HPL.out];omega))).mono ?_⟩
 rintro e3 x1 ⟨⟨ac,cc,rfl,hoc⟩,hx⟩
 rw[HPL.out] at hoc ⊢
 have HOC:Hid (HInts wd.heap.size x1 (.slice ac m cc) P):=hoc.held
 have HCZ:Hid (w.heap.size<=wd.heap.size):=Nat.le_trans HX5.out.size HXd.out.size
 clear hoc
 have HXn1:Hid (Nx w5 x1):=HXd.out.trans hx
 have HNd1:Hid (Nx wd x1):=(Nx.refl wd).trans hx
 have HNl1:Hid (Nx wd x1):=hx
 refine hK _ _ ⟨Or.inr (HSN.out _ HXn1.out),?_⟩
 clear hK K hx
 have HSS:=mkHid' (HSN.out _ HXn1.out)
 have HCP1:Hid (HInts w.heap.size x1 (.slice ac m cc) P):=HOC.out.base HCZ.out
 clear HOC HCZ
 refine anyS_one2 (i:=4) (by kernel_rfl) hcl (λhcl=>wpOpIn_step rfl (λK hK=>?_))
 go_simp
 refine⟨trivial,(callsIn_wide.2 (implRun_any w.heap.size (.slice a0 n0 c0) (.slice a1 n1 c1) (.slice a2 n2 c2) (.slice a3 n3 c3) (.slice a4 n4 c4) (.slice ac m cc) A P x1 (HA5.out.next HXn1.out) (by exact HCP1.out) HSM.out (by rw[HPL.out];omega))).mono ?_⟩
 rintro e4 x2 ⟨rfl,hx⟩
 have HXn2:Hid (Nx w5 x2):=HXn1.out.trans hx
 have HNd2:Hid (Nx wd x2):=HNd1.out.trans hx
 have HNl2:Hid (Nx x1 x2):=hx
 refine hK _ _ ⟨Or.inr (HSN.out _ HXn2.out),?_⟩
 clear hK K hx
 have HSS:=mkHid' (HSN.out _ HXn2.out)
 have HCP2:Hid (HInts w.heap.size x2 (.slice ac m cc) P):=HInts.next HCP1.out HNl2.out
 refine tq (i:=5) (v:=.bool (decide (0<=runA A P))) (λhcl=>?_)
 refine anyS_one2 (i:=8) (by kernel_rfl) hcl (λhcl=>wpOpIn_step rfl (λK hK=>?_))
 go_simp
 refine⟨trivial,(callsIn_wide.2 (lwKeeps_any w.heap.size Z (.slice ra rn rc) (.slice a m c) R P x2 (HR5.out.next HXn2.out) (HOd.out.next HNd2.out).held (λi hi=>(HRG.out i hi).1) (by rw[HPL.out];omega))).mono ?_⟩
 rintro e8 x3 ⟨rfl,hx⟩
 have HXn3:Hid (Nx w5 x3):=HXn2.out.trans hx
 have HNd3:Hid (Nx wd x3):=HNd2.out.trans hx
 have HNl3:Hid (Nx x2 x3):=hx
 refine hK _ _ ⟨Or.inr (HSN.out _ HXn3.out),?_⟩
 clear hK K hx
 have HSS:=mkHid' (HSN.out _ HXn3.out)
 have HCP3:Hid (HInts w.heap.size x3 (.slice ac m cc) P):=HInts.next HCP2.out HNl3.out
 refine tq (i:=9) (v:=.bool (decide (0<=runA A P)==kpB R P)) (λhcl=>?_)
 refine anyS_one (i:=10) (by kernel_rfl) (wpOpIn_step rfl (λK hK=>?_))
 go_simp
 refine hK _ _ ⟨Or.inl (by decide),?_⟩
 clear hK K
 refine anyS_done (by kernel_rfl) ?_ _
 clear hw hcl HSS
 go_wp2
 go_ret
 exact⟨ret_bool HKF.out,HX5.out.trans HXn3.out⟩
end Go.Proofs.YtdpfdkihbgmapaaGreat
namespace Go.Proofs.YtdpfdkihbgmapaaGreat
open Go.ChangeShapes Go.WideShapes Go.ChangeAt Go.RowKit
open Go.ChangeMaps (open_string shut_string)
set_option linter.unusedVariables false
set_option maxHeartbeats 16000000
theorem spot_code {w:World}{a:Addr}{v:Value}(h:w.cell? (a.add 0)=some v):∃b off,a=⟨b,off,none⟩:=by
 have hs:=World.cell?_spot h
 obtain⟨b,off,s⟩:=a
 simp[Addr.add] at hs
 exact⟨b,off,by rw[hs]⟩
theorem add_code (b off i:Nat):(⟨b,off,none⟩:Addr).add i=⟨b,off+i,none⟩:=by
 unfold Addr.add
 by_cases hi:i=0<;>simp[hi]
theorem cellsU8:Tryz.prog.cellsOf 5=1:=by kernel_rfl
theorem byte_of {z:Int}(h:(Lit.int .u8 z).wf=true):((UInt8.ofNat z.toNat).toNat:Int)=z:=by
 have h2:0<=z/\z<=255:=by simpa [Lit.wf,IntKind.min,IntKind.max,IntKind.signed,IntKind.bits] using h
 rw[UInt8.toNat_ofNat']
 omega
set_option maxRecDepth 100000 in
theorem open_byte_list {H:Type}{enc:TypeId×Value->H}{w:World}{m n c:Nat}{a:Option Addr}{y:DataW H×List MemPlace}(hf:DataW.trod enc Tryz.prog w 0 (λ_=>true) true m 22 [.slice a n c]=some y):∃bs,HBy 0 w (.slice a n c) bs:=by
 rcases open_ints Tryz.underlying22 Tryz.underlying5 cellsU8 hf with⟨hcs,_⟩|⟨a',len,cap,zs,hcs,_,hl,hm,hz,_,hcell,hwf⟩
 ·simp only[List.cons.injEq,Value.slice.injEq,and_true] at hcs
  obtain⟨rfl,rfl,rfl⟩:=hcs
  exact⟨[],none,0,rfl,Nat.zero_le _,λh0=>absurd h0 (Nat.lt_irrefl _)⟩
 ·simp only[List.cons.injEq,Value.slice.injEq,and_true] at hcs
  obtain⟨rfl,rfl,rfl⟩:=hcs
  have hz':zs.length=c:=by simpa using hz
  have hlen:((zs.take n).map λz=>UInt8.ofNat z.toNat).length=n:=by rw[List.length_map,List.length_take];omega
  refine⟨(zs.take n).map λz=>UInt8.ofNat z.toNat,some a',c,by rw[hlen],by rw[hlen];omega,λh0=>?_⟩
  rw[hlen] at h0
  obtain⟨b,off,rfl⟩:=spot_code (hcell 0 (by omega))
  refine⟨b,off,rfl,Nat.zero_le _,?_,λi hi=>?_⟩
  ·have h1:=hcell 0 (by omega)
   rw[add_code] at h1
   exact cell_lt h1
  ·rw[hlen] at hi
   have h1:=hcell i (by omega)
   rw[add_code] at h1
   rw[h1]
   have hi2:i<zs.length:=by omega
   have e1:zs.getD i 0=zs[i]:=by simp[List.getD,hi2]
   have e2:byteAt ((zs.take n).map λz=>UInt8.ofNat z.toNat) i=zs[i]:=by
    unfold byteAt
    have e3:((zs.take n).map λz=>UInt8.ofNat z.toNat).getD i 0=UInt8.ofNat (zs[i]).toNat:=by
     rw[List.getD_eq_getElem?_getD,List.getElem?_map,List.getElem?_take_of_lt hi,List.getElem?_eq_getElem hi2]
     rfl
    rw[e3]
    exact byte_of (hwf _ (List.getElem_mem hi2))
   rw[e1,e2]
theorem open_code {H:Type}{enc:TypeId×Value->H}{w:World}{v:Value}{d:DataW H}{p:List MemPlace}(h:DataW.Trod enc Tryz.prog w 0 (λ_=>true) true 22 v d p)(hs:∃a n c,v=.slice a n c):∃bs,HBy 0 w v bs:=by
 obtain⟨fuel,hf⟩:=h
 obtain⟨a,n,c,rfl⟩:=hs
 exact open_byte_list hf
theorem own:ownKnob Tryz.prog.godebug=none:=by kernel_rfl
theorem laidOut:laidOutB Tryz.prog=true:=by kernel_rfl
set_option maxRecDepth 100000 in
theorem lifted (os:Os)(started:os.Started)(H:Type)(enc:TypeId×Value->H) :
  ReturnsInHanded {} Tryz.checked os 3 .any (Rows.fnAutoKeepsSpec.pre6 enc Tryz.prog Tryz.f3 Rows.fnAutoKeepsRow.domain false) (Rows.fnAutoKeepsSpec.post enc Tryz.prog Tryz.f3 false true false false):=by
 refine returnsInHanded_of_change (C:=Tryz.checked) own started (by kernel_rfl) Tryz.func3
  (ChangeSpec.witness6 (enc:=enc) (C:=Tryz.checked) false ⟨#[],#[.slice none 0 0,.slice none 0 0],[]⟩ 8 (by kernel_rfl) (by kernel_rfl) (by kernel_rfl) (by kernel_rfl)) ?_
 intro W base args ds gs before hval0 hW hcnd _
 have hval:∀(j:Nat) t v,Tryz.f3.params[j]?=some t->args[j]?=some v->Value.okWide Tryz.prog W .any base t v:=hval0
 have hW':=hW
 obtain⟨p,q,hA0,hV,rfl,hfz,hnd⟩:=hW
 have hA:DataW.TrodAll enc Tryz.prog W 0 (λ_=>true) true Tryz.f3.params.toList args.toList ds p:=hA0
 rw[Tryz.params3] at hA hval
 obtain⟨v0,vs0,d0,ds0,p0,q0,hargs,rfl,rfl,h0,r0⟩:=trodAll_cons hA
 obtain⟨v1,vs1,d1,ds1,p1,q1,hargs1,rfl,rfl,h1,r1⟩:=trodAll_cons r0
 obtain⟨rfl,rfl,rfl⟩:=trodAll_nil r1
 obtain rfl:args=#[v0,v1]:=by cases args;simp_all
 obtain⟨rfl,rfl⟩:=trodVars_none hV
 have k0:=h0
 have k1:=h1
 have lt0:∀x∈p0,x.block<W.heap.size:=by obtain⟨m,hm⟩:=k0;exact DataW.trod_lt m _ _ _ hm
 have lt1:∀x∈p1,x.block<W.heap.size:=by obtain⟨m,hm⟩:=k1;exact DataW.trod_lt m _ _ _ hm
 obtain⟨P,hP⟩:=open_code h0 (okWide_slice Tryz.underlying22 (hval 0 22 v0 rfl rfl))
 obtain⟨P1,hP1⟩:=open_code h1 (okWide_slice Tryz.underlying22 (hval 1 22 v1 rfl rfl))
 clear hA0 hval0
 refine(lawKeeps_any 0 0 v0 v1 P P1 W hP hP1).mono λe W' ⟨he,bel⟩=>?_
 subst he
 exact⟨_,rfl,_,_,_,[],_,[],hW',trodAll_mk1 (shut_bool Tryz.underlying4 _),(trodAll_cons_mk (Below.trod laidOut (by kernel_rfl) (of_decide_eq_true (by kernel_rfl)) k0 bel lt0) (trodAll_cons_mk (Below.trod laidOut (by kernel_rfl) (of_decide_eq_true (by kernel_rfl)) k1 bel lt1) trodAll_mk0)),rfl,bel.frame _,λh=>by cases h⟩
theorem over:Rows.fnAutoKeepsRow.holds Tryz.pinned (OpenSpec.ofChange Rows.fnAutoKeepsSpec):=
 OpenClaim.holds_of_wide 3 Tryz.f3 rfl rfl rfl rfl rfl rfl rfl ⟨rfl,rfl,rfl,rfl,rfl⟩ rfl rfl rfl rfl rfl (by kernel_rfl) Tryz.func3 (by kernel_rfl)
  (of_decide_eq_true (by kernel_rfl)) (by unfold Func.isWrapper;first|(rw[if_pos (by decide +kernel)];kernel_rfl)|(rw[if_neg (by decide +kernel)];exact⟨rfl,rfl⟩))
  (λos started H enc _=>lifted os started H enc)
theorem autokeeps_holds:Rows.FnAutoKeepsSaid:=over
#print axioms autokeeps_holds
end Go.Proofs.YtdpfdkihbgmapaaGreat
