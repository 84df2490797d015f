import Derived.Test.YthhkjbfkgdlkmaaGreatDoorDD
import Derived.Laws.CopyRow
namespace Go.Proofs.YthhkjbfkgdlkmaaGreatDoor
open Go.RowKit Go.Sort
set_option linter.unusedVariables false
set_option maxRecDepth 1000000
set_option maxHeartbeats 16000000
def relB (x:ByteArray):Bool:=x.toList==[110,111]||x.toList==[111,110,108,121]
def freB (f:List ByteArray)(i:Nat):Bool:=((sat f 0).toList==[119,97,121]&&i==2)||(relB (sat f 0)&&i==3)
def numB (f:List ByteArray)(i:Nat):Bool:=i==0||(freB f i||decide (0<=valS (sat f i)))
def chkS (f:List ByteArray):Int:=
 if (sat f 0).toList≠[110,111,100,101]/\(sat f 0).toList≠[119,97,121]/\(sat f 0).toList≠[116,117,114,110]/\(sat f 0).toList≠[117,116,117,114,110]/\relB (sat f 0)=false then 5
 else if ((sat f 0).toList=[110,111,100,101]/\f.length≠2)\/((sat f 0).toList=[117,116,117,114,110]/\f.length≠2)\/((sat f 0).toList=[116,117,114,110]/\f.length≠4) then 6
 else if (sat f 0).toList=[119,97,121]/\(f.length<6\/f.length%2=1\/204<f.length) then 6
 else if relB (sat f 0)=true/\f.length<6 then 6
 else if (sat f 0).toList=[119,97,121]/\(sat f 2).toList≠[102]/\(sat f 2).toList≠[98] then 7
 else if relB (sat f 0)=true/\(sat f 3).toList≠[97,116]/\(sat f 3).toList≠[98,121] then 7
 else if relB (sat f 0)=true/\(((sat f 3).toList=[97,116]/\6<f.length)\/((sat f 3).toList=[98,121]/\9<f.length)) then 6
 else if allN f.length (numB f)=true then 0 else 8
theorem num_one (f:List ByteArray):allTo (numB f) 1:=λi hi=>by
 have e:i=0:=by omega
 subst e;rfl
theorem l1IsRelation_any (x:ByteArray)(w:World) :
  Calls Tryz.prog 26 #[.string x] w λe w'=>e=.returned (.bool (relB x))/\Nx w w':=by
 have HD:Hid (relB x=(x.toList==[110,111]||x.toList==[111,110,108,121])):=rfl
 by_cases h:x.toList=[110,111]
 ·have HF:Hid (true=relB x):=by unfold Hid;rw[HD.out,h];rfl
  go_enter Tryz.func26,Tryz.ntmps26
  go_wp2
  go_ret
  exact⟨ret_bool HF.out,Nx.refl _⟩
 ·have h':(x.toList==[110,111])=false:=by simpa using h
  have HF:Hid ((x.toList==[111,110,108,121])=relB x):=by unfold Hid;rw[HD.out,h'];rfl
  go_enter Tryz.func26,Tryz.ntmps26
  go_wp2
  go_ret
  exact⟨ret_bool (by first|exact HF.out|(rw[<-HF.out,h'];rfl)),Nx.refl _⟩
theorem chk_node (C:Nat)(a:Option Addr)(n c:Nat)(f:List ByteArray)(w:World)(h:OwnSt C w (.slice a n c) f)(hn:f.length=n)(h1:1<=n)(hs:∀i,i<n->(sat f i).size<=300000)(hl:n<=300001)(hw:(sat f 0).toList=[110,111,100,101]) :
  Calls Tryz.prog 15 #[.slice a n c] w λe w'=>e=.returned (.int .i64 (chkS f))/\Nx w w':=by
 have HO:Hid (OwnSt C w (.slice a n c) f):=h
 have HN:Hid (f.length=n):=hn
 have HSZ:Hid (∀i,i<n->(sat f i).size<=300000):=hs
 obtain⟨g,rfl,-,hg,hc0⟩:=OwnSt.at h (i:=0) (by omega)
 have HC:Hid (∀i,i<n->w.cell? ⟨g,i,none⟩=some (.string (sat f i))):=λi hi=>by
  obtain⟨g',e,-,-,hc⟩:=OwnSt.at HO.out (i:=i) (by rw[HN.out];exact hi)
  have e':g=g':=by simpa using e
  rw[e'];exact hc
 clear h hs hn
 have hx:(sat f 0).toList=[110,111,100,101]:=hw
 have HRL:Hid (relB (sat f 0)=false):=by unfold Hid relB;rw[hx];rfl
 have x0:=HC.out 0 (by omega)
 have HCK0:Hid (chkS f=if n≠2 then 6 else if allN n (numB f)=true then 0 else 8):=by
  unfold Hid chkS
  rw[HN.out,HRL.out,hx]
  by_cases hc:n=2
  ·subst hc;simp
  ·simp[hc]
 by_cases hc:n=2
 case neg=>
  have HF:Hid (6=chkS f):=by unfold Hid;rw[HCK0.out,if_pos hc]
  have hc':((n:Int) !=2)=true:=by simp;omega
  go_enter Tryz.func15,Tryz.ntmps15
  go_wp2
  go_ret
  exact⟨ret_int HF.out,Nx.refl _⟩
 have hc':((n:Int) !=2)=false:=by simp;omega
 have HCK:Hid (chkS f=if allN n (numB f)=true then 0 else 8):=by unfold Hid;rw[HCK0.out,if_neg (by omega)]
 go_enter Tryz.func15,Tryz.ntmps15
 go_wp2_with fail
 refine(l1IsRelation_any (sat f 0) w).mono ?_
 rintro e wa ⟨rfl,hxr⟩
 rw[HRL.out]
 have HXa:Hid (Nx w wa):=hxr
 have x0:=cellq hxr x0
 clear hxr
 go_wp2_with fail
 refine(l1IsRelation_any (sat f 0) wa).mono ?_
 rintro e wb ⟨rfl,hxr⟩
 rw[HRL.out]
 have HXb:Hid (Nx w wb):=HXa.out.trans hxr
 clear hxr x0
 have HFR:Hid (∀i,freB f i=(false)):=λi=>by unfold freB relB;rw[hx];simp
 go_wp2
 go_loopw [5,6] (λs5 s6 wr=>∃i:Nat,1<=i/\i<=n/\s5=.int .i64 i/\Hid (allTo (numB f) i)/\Hid (Nx w wr)) (λs5 _ _=>n-(intOf s5).toNat)
 case atStart=>exact⟨1,Nat.le_refl _,h1,rfl,num_one f,HXb⟩
 obtain⟨i,hi1,hin,rfl,HA,HX⟩:=hrel
 by_cases hi:i<n
 case neg=>
  have HF:Hid (0=chkS f):=by unfold Hid;rw[HCK.out,allN_yes (by omega) HA.out];rfl
  go_wp2
  go_ret
  exact⟨ret_int HF.out,HX.out⟩
 have hi':(i:Int)<n:=by omega
 have xi:=cellq HX.out (HC.out i hi)
 have x0:=cellq HX.out (HC.out 0 (by omega))
 have HBD:Hid (numB f i=false->8=chkS f):=λh=>by rw[HCK.out,allN_no hi h];rfl
 have HNB:Hid (numB f i=(i==0||(freB f i||decide (0<=valS (sat f i))))):=rfl
 have hi0:(i==0)=false:=by simp;omega
 rw[hi0,HFR.out i] at HNB
 have hsz:=HSZ.out i hi
 generalize hxi:sat f i=x at *
 clear hxi
 go_wp2_with fail
 refine(l1IsRelation_any (sat f 0) wr).mono ?_
 rintro e w1 ⟨rfl,hxr⟩
 rw[HRL.out]
 have HX1:Hid (Nx w w1):=HX.out.trans hxr
 have xi1:=cellq hxr xi
 clear hxr xi
 go_wp2_with fail
 refine(l1Value_any x w1 (by omega)).mono ?_
 rintro e w2 ⟨rfl,hx2⟩
 have HX2:Hid (Nx w w2):=HX1.out.trans hx2
 clear hx2
 by_cases hv:valS x<0
 ·have HF:Hid (8=chkS f):=HBD.out (by rw[HNB.out,decide_eq_false (by omega)];rfl)
  go_wp2
  go_ret
  exact⟨ret_int HF.out,HX2.out⟩
 ·have HOK:Hid (numB f i=true):=by unfold Hid;rw[HNB.out,decide_eq_true (show 0<=valS x by omega)];simp
  go_wp2
  go_roundw
  case rel=>exact⟨i+1,by omega,by omega,by go_num,allTo_succ HA.out HOK.out,HX2⟩
  case measure=>simp[intOf];omega
theorem chk_way (C:Nat)(a:Option Addr)(n c:Nat)(f:List ByteArray)(w:World)(h:OwnSt C w (.slice a n c) f)(hn:f.length=n)(h1:1<=n)(hs:∀i,i<n->(sat f i).size<=300000)(hl:n<=300001)(hw:(sat f 0).toList=[119,97,121]) :
  Calls Tryz.prog 15 #[.slice a n c] w λe w'=>e=.returned (.int .i64 (chkS f))/\Nx w w':=by
 have HO:Hid (OwnSt C w (.slice a n c) f):=h
 have HN:Hid (f.length=n):=hn
 have HSZ:Hid (∀i,i<n->(sat f i).size<=300000):=hs
 obtain⟨g,rfl,-,hg,hc0⟩:=OwnSt.at h (i:=0) (by omega)
 have HC:Hid (∀i,i<n->w.cell? ⟨g,i,none⟩=some (.string (sat f i))):=λi hi=>by
  obtain⟨g',e,-,-,hc⟩:=OwnSt.at HO.out (i:=i) (by rw[HN.out];exact hi)
  have e':g=g':=by simpa using e
  rw[e'];exact hc
 clear h hs hn
 have hx:(sat f 0).toList=[119,97,121]:=hw
 have HRL:Hid (relB (sat f 0)=false):=by unfold Hid relB;rw[hx];rfl
 have x0:=HC.out 0 (by omega)
 have HCK0:Hid (chkS f=if n<6\/n%2=1\/204<n then 6 else if (sat f 2).toList≠[102]/\(sat f 2).toList≠[98] then 7 else if allN n (numB f)=true then 0 else 8):=by
  unfold Hid chkS
  rw[HN.out,HRL.out,hx]
  simp
 by_cases hA:n<6
 ·have HF:Hid (6=chkS f):=by unfold Hid;rw[HCK0.out,if_pos (Or.inl hA)]
  have hA':(n:Int)<6:=by omega
  go_enter Tryz.func15,Tryz.ntmps15
  go_wp2
  go_ret
  exact⟨ret_int HF.out,Nx.refl _⟩
 have hA':¬(n:Int)<6:=by omega
 have hA2:decide ((n:Int)<6)=false:=by simp;omega
 by_cases hB:n%2=1
 ·have HF:Hid (6=chkS f):=by unfold Hid;rw[HCK0.out,if_pos (Or.inr (Or.inl hB))]
  have hB':((n:Int)%2==1)=true:=by simp;omega
  have hB2:(n:Int)%2=1:=by omega
  go_enter Tryz.func15,Tryz.ntmps15
  go_wp2
  go_ret
  exact⟨ret_int HF.out,Nx.refl _⟩
 have hB':((n:Int)%2==1)=false:=by simp;omega
 have hB2:¬(n:Int)%2=1:=by omega
 by_cases hC:204<n
 ·have HF:Hid (6=chkS f):=by unfold Hid;rw[HCK0.out,if_pos (Or.inr (Or.inr hC))]
  have hC':(204:Int)<n:=by omega
  go_enter Tryz.func15,Tryz.ntmps15
  go_wp2
  go_ret
  exact⟨ret_int HF.out,Nx.refl _⟩
 have hC':¬(204:Int)<n:=by omega
 have HCK1:Hid (chkS f=if (sat f 2).toList≠[102]/\(sat f 2).toList≠[98] then 7 else if allN n (numB f)=true then 0 else 8):=by unfold Hid;rw[HCK0.out,if_neg (by omega)]
 have x2:=HC.out 2 (by omega)
 have h2n:(2:Int)<n:=by omega
 clear HCK0 hB
 go_enter Tryz.func15,Tryz.ntmps15
 go_wp2_with fail
 refine(l1IsRelation_any (sat f 0) w).mono ?_
 rintro e wa ⟨rfl,hxr⟩
 rw[HRL.out]
 have HXa:Hid (Nx w wa):=hxr
 have x0:=cellq hxr x0
 have x2:=cellq hxr x2
 clear hxr
 by_cases hk:(sat f 2).toList≠[102]/\(sat f 2).toList≠[98]
 ·have HF:Hid (7=chkS f):=by unfold Hid;rw[HCK1.out,if_pos hk]
  have k1:=hk.1
  have k2:=hk.2
  have k1':((sat f 2).toList==[102])=false:=by simpa using k1
  have k2':((sat f 2).toList==[98])=false:=by simpa using k2
  have k1b:((sat f 2).toList !=[102])=true:=by simpa using k1
  have k2b:((sat f 2).toList !=[98])=true:=by simpa using k2
  clear hk
  go_wp2
  go_ret
  exact⟨ret_int HF.out,HXa.out⟩
 have HCK:Hid (chkS f=if allN n (numB f)=true then 0 else 8):=by unfold Hid;rw[HCK1.out,if_neg hk]
 go_upto_region 11 with fail
 go_cut [87] from 74 to 86 (λs87 wc=>s87=.bool false/\wc=wa)
 case first=>
  by_cases k1:(sat f 2).toList=[102]
  ·have k1b:((sat f 2).toList !=[102])=false:=by simp[k1]
   clear hk
   go_wp2
   go_meet
   exact⟨rfl,rfl⟩
  ·have k2:(sat f 2).toList=[98]:=Decidable.byContradiction λh=>hk ⟨k1,h⟩
   have k1b:((sat f 2).toList !=[102])=true:=by simpa using k1
   have k2b:((sat f 2).toList !=[98])=false:=by simp[k2]
   clear hk
   go_wp2
   go_meet
   exact⟨by first|rfl|simp[k2],rfl⟩
 case rest=>
 obtain⟨rfl,hwc⟩:=hcut
 subst hwc
 clear hk HCK1 x2
 go_wp2_with fail
 refine(l1IsRelation_any (sat f 0) wc).mono ?_
 rintro e wb ⟨rfl,hxr⟩
 rw[HRL.out]
 have HXb:Hid (Nx w wb):=HXa.out.trans hxr
 clear hxr x0
 have HFR:Hid (∀i,freB f i=(i==2)):=λi=>by unfold freB relB;rw[hx];simp
 go_wp2
 go_loopw [5,6] (λs5 s6 wr=>∃i:Nat,1<=i/\i<=n/\s5=.int .i64 i/\Hid (allTo (numB f) i)/\Hid (Nx w wr)) (λs5 _ _=>n-(intOf s5).toNat)
 case atStart=>exact⟨1,Nat.le_refl _,h1,rfl,num_one f,HXb⟩
 obtain⟨i,hi1,hin,rfl,HA,HX⟩:=hrel
 by_cases hi:i<n
 case neg=>
  have HF:Hid (0=chkS f):=by unfold Hid;rw[HCK.out,allN_yes (by omega) HA.out];rfl
  go_wp2
  go_ret
  exact⟨ret_int HF.out,HX.out⟩
 have hi':(i:Int)<n:=by omega
 have xi:=cellq HX.out (HC.out i hi)
 have x0:=cellq HX.out (HC.out 0 (by omega))
 have HBD:Hid (numB f i=false->8=chkS f):=λh=>by rw[HCK.out,allN_no hi h];rfl
 have HNB:Hid (numB f i=(i==0||(freB f i||decide (0<=valS (sat f i))))):=rfl
 have hi0:(i==0)=false:=by simp;omega
 rw[hi0,HFR.out i] at HNB
 have hsz:=HSZ.out i hi
 generalize hxi:sat f i=x at *
 clear hxi
 by_cases hf:i=2
 ·subst hf
  have HOK:Hid (numB f 2=true):=by unfold Hid;rw[HNB.out];simp
  go_wp2
  go_roundw
  case rel=>exact⟨2+1,by omega,by omega,by go_num,allTo_succ HA.out HOK.out,HX⟩
  case measure=>simp[intOf];omega
 have hfb:((i:Int)==2)=false:=by simp;omega
 have hfb':(i==2)=false:=by simp;omega
 rw[hfb'] at HNB
 go_wp2_with fail
 refine(l1IsRelation_any (sat f 0) wr).mono ?_
 rintro e w1 ⟨rfl,hxr⟩
 rw[HRL.out]
 have HX1:Hid (Nx w w1):=HX.out.trans hxr
 have xi1:=cellq hxr xi
 clear hxr xi
 go_wp2_with fail
 refine(l1Value_any x w1 (by omega)).mono ?_
 rintro e w2 ⟨rfl,hx2⟩
 have HX2:Hid (Nx w w2):=HX1.out.trans hx2
 clear hx2
 by_cases hv:valS x<0
 ·have HF:Hid (8=chkS f):=HBD.out (by rw[HNB.out,decide_eq_false (by omega)];rfl)
  go_wp2
  go_ret
  exact⟨ret_int HF.out,HX2.out⟩
 ·have HOK:Hid (numB f i=true):=by unfold Hid;rw[HNB.out,decide_eq_true (show 0<=valS x by omega)];simp
  go_wp2
  go_roundw
  case rel=>exact⟨i+1,by omega,by omega,by go_num,allTo_succ HA.out HOK.out,HX2⟩
  case measure=>simp[intOf];omega
theorem chk_no (C:Nat)(a:Option Addr)(n c:Nat)(f:List ByteArray)(w:World)(h:OwnSt C w (.slice a n c) f)(hn:f.length=n)(h1:1<=n)(hs:∀i,i<n->(sat f i).size<=300000)(hl:n<=300001)(hw:(sat f 0).toList=[110,111]) :
  Calls Tryz.prog 15 #[.slice a n c] w λe w'=>e=.returned (.int .i64 (chkS f))/\Nx w w':=by
 have HO:Hid (OwnSt C w (.slice a n c) f):=h
 have HN:Hid (f.length=n):=hn
 have HSZ:Hid (∀i,i<n->(sat f i).size<=300000):=hs
 obtain⟨g,rfl,-,hg,hc0⟩:=OwnSt.at h (i:=0) (by omega)
 have HC:Hid (∀i,i<n->w.cell? ⟨g,i,none⟩=some (.string (sat f i))):=λi hi=>by
  obtain⟨g',e,-,-,hc⟩:=OwnSt.at HO.out (i:=i) (by rw[HN.out];exact hi)
  have e':g=g':=by simpa using e
  rw[e'];exact hc
 clear h hs hn
 have hx:(sat f 0).toList=[110,111]:=hw
 have HRL:Hid (relB (sat f 0)=true):=by unfold Hid relB;rw[hx];rfl
 have x0:=HC.out 0 (by omega)
 have HCK0:Hid (chkS f=if n<6 then 6 else if (sat f 3).toList≠[97,116]/\(sat f 3).toList≠[98,121] then 7 else if ((sat f 3).toList=[97,116]/\6<n)\/((sat f 3).toList=[98,121]/\9<n) then 6 else if allN n (numB f)=true then 0 else 8):=by
  unfold Hid chkS
  rw[HN.out,HRL.out,hx]
  simp
 go_enter Tryz.func15,Tryz.ntmps15
 go_wp2_with fail
 refine(l1IsRelation_any (sat f 0) w).mono ?_
 rintro e wa ⟨rfl,hxr⟩
 rw[HRL.out]
 have HXa:Hid (Nx w wa):=hxr
 have x0:=cellq hxr x0
 clear hxr
 go_wp2_with fail
 refine(l1IsRelation_any (sat f 0) wa).mono ?_
 rintro e wb ⟨rfl,hxr⟩
 rw[HRL.out]
 have HXb:Hid (Nx w wb):=HXa.out.trans hxr
 have x0:=cellq hxr x0
 clear hxr
 by_cases hA:n<6
 ·have HF:Hid (6=chkS f):=by unfold Hid;rw[HCK0.out,if_pos hA]
  have hA':(n:Int)<6:=by omega
  go_wp2
  go_ret
  exact⟨ret_int HF.out,HXb.out⟩
 have hA':¬(n:Int)<6:=by omega
 have HCK1:Hid (chkS f=if (sat f 3).toList≠[97,116]/\(sat f 3).toList≠[98,121] then 7 else if ((sat f 3).toList=[97,116]/\6<n)\/((sat f 3).toList=[98,121]/\9<n) then 6 else if allN n (numB f)=true then 0 else 8):=by unfold Hid;rw[HCK0.out,if_neg hA]
 clear HCK0
 have h3n:(3:Int)<n:=by omega
 go_wp2_with fail
 refine(l1IsRelation_any (sat f 0) wb).mono ?_
 rintro e wc ⟨rfl,hxr⟩
 rw[HRL.out]
 have HXc:Hid (Nx w wc):=HXb.out.trans hxr
 have x0:=cellq hxr x0
 clear hxr
 have x3:=cellq HXc.out (HC.out 3 (by omega))
 by_cases hk:(sat f 3).toList≠[97,116]/\(sat f 3).toList≠[98,121]
 ·have HF:Hid (7=chkS f):=by unfold Hid;rw[HCK1.out,if_pos hk]
  have k1:=hk.1
  have k2:=hk.2
  have k1b:((sat f 3).toList==[97,116])=false:=by simpa using k1
  have k2b:((sat f 3).toList==[98,121])=false:=by simpa using k2
  clear hk
  go_wp2
  go_ret
  exact⟨ret_int HF.out,HXc.out⟩
 have HCK2:Hid (chkS f=if ((sat f 3).toList=[97,116]/\6<n)\/((sat f 3).toList=[98,121]/\9<n) then 6 else if allN n (numB f)=true then 0 else 8):=by unfold Hid;rw[HCK1.out,if_neg hk]
 clear HCK1
 by_cases hq:((sat f 3).toList=[97,116]/\6<n)\/((sat f 3).toList=[98,121]/\9<n)
 ·have HF:Hid (6=chkS f):=by unfold Hid;rw[HCK2.out,if_pos hq]
  rcases hq with⟨k1,k2⟩|⟨k1,k2⟩
  ·have k2':(6:Int)<n:=by omega
   clear hk
   go_wp2
   go_ret
   exact⟨ret_int HF.out,HXc.out⟩
  ·have k2':(9:Int)<n:=by omega
   clear hk
   go_wp2
   go_ret
   exact⟨ret_int HF.out,HXc.out⟩
 have HCK:Hid (chkS f=if allN n (numB f)=true then 0 else 8):=by unfold Hid;rw[HCK2.out,if_neg hq]
 clear HCK2
 go_upto_region 14 with fail
 go_cut [99] from 90 to 98 (λs99 wx=>s99=.bool false/\wx=wc)
 case first=>
  by_cases k1:(sat f 3).toList=[97,116]
  ·clear hk hq
   go_wp2
   go_meet
   exact⟨by first|rfl|simp[k1],rfl⟩
  ·have k2:(sat f 3).toList=[98,121]:=Decidable.byContradiction λh=>hk ⟨k1,h⟩
   clear hk hq
   go_wp2
   go_meet
   exact⟨by first|rfl|simp[k2],rfl⟩
 case rest=>
 obtain⟨rfl,hwx⟩:=hcut
 subst hwx
 go_upto_region 16 with fail
 go_cut [117] from 100 to 116 (λs117 wy=>s117=.bool false/\wy=wc)
 case first=>
  by_cases k1:(sat f 3).toList=[97,116]
  ·have hq':¬(6:Int)<n:=λh=>hq (Or.inl ⟨k1,by omega⟩)
   clear hk hq
   go_wp2
   go_meet
   exact⟨by first|rfl|simp[k1]|(simp;omega),rfl⟩
  ·have k2:(sat f 3).toList=[98,121]:=Decidable.byContradiction λh=>hk ⟨k1,h⟩
   have hq':¬(9:Int)<n:=λh=>hq (Or.inr ⟨k2,by omega⟩)
   clear hk hq
   go_wp2
   go_meet
   exact⟨by first|rfl|simp[k2]|(simp;omega),rfl⟩
 case rest=>
 obtain⟨rfl,hwy⟩:=hcut
 subst hwy
 clear hk hq x3 x0
 have HFR:Hid (∀i,freB f i=(i==3)):=λi=>by unfold freB relB;rw[hx];simp
 go_wp2
 go_loopw [5,6] (λs5 s6 wr=>∃i:Nat,1<=i/\i<=n/\s5=.int .i64 i/\Hid (allTo (numB f) i)/\Hid (Nx w wr)) (λs5 _ _=>n-(intOf s5).toNat)
 case atStart=>exact⟨1,Nat.le_refl _,h1,rfl,num_one f,HXc⟩
 obtain⟨i,hi1,hin,rfl,HA,HX⟩:=hrel
 by_cases hi:i<n
 case neg=>
  have HF:Hid (0=chkS f):=by unfold Hid;rw[HCK.out,allN_yes (by omega) HA.out];rfl
  go_wp2
  go_ret
  exact⟨ret_int HF.out,HX.out⟩
 have hi':(i:Int)<n:=by omega
 have xi:=cellq HX.out (HC.out i hi)
 have x0:=cellq HX.out (HC.out 0 (by omega))
 have HBD:Hid (numB f i=false->8=chkS f):=λh=>by rw[HCK.out,allN_no hi h];rfl
 have HNB:Hid (numB f i=(i==0||(freB f i||decide (0<=valS (sat f i))))):=rfl
 have hi0:(i==0)=false:=by simp;omega
 rw[hi0,HFR.out i] at HNB
 have hsz:=HSZ.out i hi
 generalize hxi:sat f i=x at *
 clear hxi
 by_cases hf:i=3
 ·subst hf
  go_wp2_with fail
  refine(l1IsRelation_any (sat f 0) wr).mono ?_
  rintro e w1 ⟨rfl,hxr⟩
  rw[HRL.out]
  have HX1:Hid (Nx w w1):=HX.out.trans hxr
  have xi1:=cellq hxr xi
  clear hxr xi
  have HOK:Hid (numB f 3=true):=by unfold Hid;rw[HNB.out];simp
  go_wp2
  go_roundw
  case rel=>exact⟨3+1,by omega,by omega,by go_num,allTo_succ HA.out HOK.out,HX1⟩
  case measure=>simp[intOf];omega
 have hfb:((i:Int)==3)=false:=by simp;omega
 have hfb':(i==3)=false:=by simp;omega
 rw[hfb'] at HNB
 go_wp2_with fail
 refine(l1IsRelation_any (sat f 0) wr).mono ?_
 rintro e w1 ⟨rfl,hxr⟩
 rw[HRL.out]
 have HX1:Hid (Nx w w1):=HX.out.trans hxr
 have xi1:=cellq hxr xi
 clear hxr xi
 go_wp2_with fail
 refine(l1Value_any x w1 (by omega)).mono ?_
 rintro e w2 ⟨rfl,hx2⟩
 have HX2:Hid (Nx w w2):=HX1.out.trans hx2
 clear hx2
 by_cases hv:valS x<0
 ·have HF:Hid (8=chkS f):=HBD.out (by rw[HNB.out,decide_eq_false (by omega)];rfl)
  go_wp2
  go_ret
  exact⟨ret_int HF.out,HX2.out⟩
 ·have HOK:Hid (numB f i=true):=by unfold Hid;rw[HNB.out,decide_eq_true (show 0<=valS x by omega)];simp
  go_wp2
  go_roundw
  case rel=>exact⟨i+1,by omega,by omega,by go_num,allTo_succ HA.out HOK.out,HX2⟩
  case measure=>simp[intOf];omega
theorem chk_only (C:Nat)(a:Option Addr)(n c:Nat)(f:List ByteArray)(w:World)(h:OwnSt C w (.slice a n c) f)(hn:f.length=n)(h1:1<=n)(hs:∀i,i<n->(sat f i).size<=300000)(hl:n<=300001)(hw:(sat f 0).toList=[111,110,108,121]) :
  Calls Tryz.prog 15 #[.slice a n c] w λe w'=>e=.returned (.int .i64 (chkS f))/\Nx w w':=by
 have HO:Hid (OwnSt C w (.slice a n c) f):=h
 have HN:Hid (f.length=n):=hn
 have HSZ:Hid (∀i,i<n->(sat f i).size<=300000):=hs
 obtain⟨g,rfl,-,hg,hc0⟩:=OwnSt.at h (i:=0) (by omega)
 have HC:Hid (∀i,i<n->w.cell? ⟨g,i,none⟩=some (.string (sat f i))):=λi hi=>by
  obtain⟨g',e,-,-,hc⟩:=OwnSt.at HO.out (i:=i) (by rw[HN.out];exact hi)
  have e':g=g':=by simpa using e
  rw[e'];exact hc
 clear h hs hn
 have hx:(sat f 0).toList=[111,110,108,121]:=hw
 have HRL:Hid (relB (sat f 0)=true):=by unfold Hid relB;rw[hx];rfl
 have x0:=HC.out 0 (by omega)
 have HCK0:Hid (chkS f=if n<6 then 6 else if (sat f 3).toList≠[97,116]/\(sat f 3).toList≠[98,121] then 7 else if ((sat f 3).toList=[97,116]/\6<n)\/((sat f 3).toList=[98,121]/\9<n) then 6 else if allN n (numB f)=true then 0 else 8):=by
  unfold Hid chkS
  rw[HN.out,HRL.out,hx]
  simp
 go_enter Tryz.func15,Tryz.ntmps15
 go_wp2_with fail
 refine(l1IsRelation_any (sat f 0) w).mono ?_
 rintro e wa ⟨rfl,hxr⟩
 rw[HRL.out]
 have HXa:Hid (Nx w wa):=hxr
 have x0:=cellq hxr x0
 clear hxr
 go_wp2_with fail
 refine(l1IsRelation_any (sat f 0) wa).mono ?_
 rintro e wb ⟨rfl,hxr⟩
 rw[HRL.out]
 have HXb:Hid (Nx w wb):=HXa.out.trans hxr
 have x0:=cellq hxr x0
 clear hxr
 by_cases hA:n<6
 ·have HF:Hid (6=chkS f):=by unfold Hid;rw[HCK0.out,if_pos hA]
  have hA':(n:Int)<6:=by omega
  go_wp2
  go_ret
  exact⟨ret_int HF.out,HXb.out⟩
 have hA':¬(n:Int)<6:=by omega
 have HCK1:Hid (chkS f=if (sat f 3).toList≠[97,116]/\(sat f 3).toList≠[98,121] then 7 else if ((sat f 3).toList=[97,116]/\6<n)\/((sat f 3).toList=[98,121]/\9<n) then 6 else if allN n (numB f)=true then 0 else 8):=by unfold Hid;rw[HCK0.out,if_neg hA]
 clear HCK0
 have h3n:(3:Int)<n:=by omega
 go_wp2_with fail
 refine(l1IsRelation_any (sat f 0) wb).mono ?_
 rintro e wc ⟨rfl,hxr⟩
 rw[HRL.out]
 have HXc:Hid (Nx w wc):=HXb.out.trans hxr
 have x0:=cellq hxr x0
 clear hxr
 have x3:=cellq HXc.out (HC.out 3 (by omega))
 by_cases hk:(sat f 3).toList≠[97,116]/\(sat f 3).toList≠[98,121]
 ·have HF:Hid (7=chkS f):=by unfold Hid;rw[HCK1.out,if_pos hk]
  have k1:=hk.1
  have k2:=hk.2
  have k1b:((sat f 3).toList==[97,116])=false:=by simpa using k1
  have k2b:((sat f 3).toList==[98,121])=false:=by simpa using k2
  clear hk
  go_wp2
  go_ret
  exact⟨ret_int HF.out,HXc.out⟩
 have HCK2:Hid (chkS f=if ((sat f 3).toList=[97,116]/\6<n)\/((sat f 3).toList=[98,121]/\9<n) then 6 else if allN n (numB f)=true then 0 else 8):=by unfold Hid;rw[HCK1.out,if_neg hk]
 clear HCK1
 by_cases hq:((sat f 3).toList=[97,116]/\6<n)\/((sat f 3).toList=[98,121]/\9<n)
 ·have HF:Hid (6=chkS f):=by unfold Hid;rw[HCK2.out,if_pos hq]
  rcases hq with⟨k1,k2⟩|⟨k1,k2⟩
  ·have k2':(6:Int)<n:=by omega
   clear hk
   go_wp2
   go_ret
   exact⟨ret_int HF.out,HXc.out⟩
  ·have k2':(9:Int)<n:=by omega
   clear hk
   go_wp2
   go_ret
   exact⟨ret_int HF.out,HXc.out⟩
 have HCK:Hid (chkS f=if allN n (numB f)=true then 0 else 8):=by unfold Hid;rw[HCK2.out,if_neg hq]
 clear HCK2
 go_upto_region 14 with fail
 go_cut [99] from 90 to 98 (λs99 wx=>s99=.bool false/\wx=wc)
 case first=>
  by_cases k1:(sat f 3).toList=[97,116]
  ·clear hk hq
   go_wp2
   go_meet
   exact⟨by first|rfl|simp[k1],rfl⟩
  ·have k2:(sat f 3).toList=[98,121]:=Decidable.byContradiction λh=>hk ⟨k1,h⟩
   clear hk hq
   go_wp2
   go_meet
   exact⟨by first|rfl|simp[k2],rfl⟩
 case rest=>
 obtain⟨rfl,hwx⟩:=hcut
 subst hwx
 go_upto_region 16 with fail
 go_cut [117] from 100 to 116 (λs117 wy=>s117=.bool false/\wy=wc)
 case first=>
  by_cases k1:(sat f 3).toList=[97,116]
  ·have hq':¬(6:Int)<n:=λh=>hq (Or.inl ⟨k1,by omega⟩)
   clear hk hq
   go_wp2
   go_meet
   exact⟨by first|rfl|simp[k1]|(simp;omega),rfl⟩
  ·have k2:(sat f 3).toList=[98,121]:=Decidable.byContradiction λh=>hk ⟨k1,h⟩
   have hq':¬(9:Int)<n:=λh=>hq (Or.inr ⟨k2,by omega⟩)
   clear hk hq
   go_wp2
   go_meet
   exact⟨by first|rfl|simp[k2]|(simp;omega),rfl⟩
 case rest=>
 obtain⟨rfl,hwy⟩:=hcut
 subst hwy
 clear hk hq x3 x0
 have HFR:Hid (∀i,freB f i=(i==3)):=λi=>by unfold freB relB;rw[hx];simp
 go_wp2
 go_loopw [5,6] (λs5 s6 wr=>∃i:Nat,1<=i/\i<=n/\s5=.int .i64 i/\Hid (allTo (numB f) i)/\Hid (Nx w wr)) (λs5 _ _=>n-(intOf s5).toNat)
 case atStart=>exact⟨1,Nat.le_refl _,h1,rfl,num_one f,HXc⟩
 obtain⟨i,hi1,hin,rfl,HA,HX⟩:=hrel
 by_cases hi:i<n
 case neg=>
  have HF:Hid (0=chkS f):=by unfold Hid;rw[HCK.out,allN_yes (by omega) HA.out];rfl
  go_wp2
  go_ret
  exact⟨ret_int HF.out,HX.out⟩
 have hi':(i:Int)<n:=by omega
 have xi:=cellq HX.out (HC.out i hi)
 have x0:=cellq HX.out (HC.out 0 (by omega))
 have HBD:Hid (numB f i=false->8=chkS f):=λh=>by rw[HCK.out,allN_no hi h];rfl
 have HNB:Hid (numB f i=(i==0||(freB f i||decide (0<=valS (sat f i))))):=rfl
 have hi0:(i==0)=false:=by simp;omega
 rw[hi0,HFR.out i] at HNB
 have hsz:=HSZ.out i hi
 generalize hxi:sat f i=x at *
 clear hxi
 by_cases hf:i=3
 ·subst hf
  go_wp2_with fail
  refine(l1IsRelation_any (sat f 0) wr).mono ?_
  rintro e w1 ⟨rfl,hxr⟩
  rw[HRL.out]
  have HX1:Hid (Nx w w1):=HX.out.trans hxr
  have xi1:=cellq hxr xi
  clear hxr xi
  have HOK:Hid (numB f 3=true):=by unfold Hid;rw[HNB.out];simp
  go_wp2
  go_roundw
  case rel=>exact⟨3+1,by omega,by omega,by go_num,allTo_succ HA.out HOK.out,HX1⟩
  case measure=>simp[intOf];omega
 have hfb:((i:Int)==3)=false:=by simp;omega
 have hfb':(i==3)=false:=by simp;omega
 rw[hfb'] at HNB
 go_wp2_with fail
 refine(l1IsRelation_any (sat f 0) wr).mono ?_
 rintro e w1 ⟨rfl,hxr⟩
 rw[HRL.out]
 have HX1:Hid (Nx w w1):=HX.out.trans hxr
 have xi1:=cellq hxr xi
 clear hxr xi
 go_wp2_with fail
 refine(l1Value_any x w1 (by omega)).mono ?_
 rintro e w2 ⟨rfl,hx2⟩
 have HX2:Hid (Nx w w2):=HX1.out.trans hx2
 clear hx2
 by_cases hv:valS x<0
 ·have HF:Hid (8=chkS f):=HBD.out (by rw[HNB.out,decide_eq_false (by omega)];rfl)
  go_wp2
  go_ret
  exact⟨ret_int HF.out,HX2.out⟩
 ·have HOK:Hid (numB f i=true):=by unfold Hid;rw[HNB.out,decide_eq_true (show 0<=valS x by omega)];simp
  go_wp2
  go_roundw
  case rel=>exact⟨i+1,by omega,by omega,by go_num,allTo_succ HA.out HOK.out,HX2⟩
  case measure=>simp[intOf];omega
theorem chk_turn (C:Nat)(a:Option Addr)(n c:Nat)(f:List ByteArray)(w:World)(h:OwnSt C w (.slice a n c) f)(hn:f.length=n)(h1:1<=n)(hs:∀i,i<n->(sat f i).size<=300000)(hl:n<=300001)(hw:(sat f 0).toList=[116,117,114,110]) :
  Calls Tryz.prog 15 #[.slice a n c] w λe w'=>e=.returned (.int .i64 (chkS f))/\Nx w w':=by
 have HO:Hid (OwnSt C w (.slice a n c) f):=h
 have HN:Hid (f.length=n):=hn
 have HSZ:Hid (∀i,i<n->(sat f i).size<=300000):=hs
 obtain⟨g,rfl,-,hg,hc0⟩:=OwnSt.at h (i:=0) (by omega)
 have HC:Hid (∀i,i<n->w.cell? ⟨g,i,none⟩=some (.string (sat f i))):=λi hi=>by
  obtain⟨g',e,-,-,hc⟩:=OwnSt.at HO.out (i:=i) (by rw[HN.out];exact hi)
  have e':g=g':=by simpa using e
  rw[e'];exact hc
 clear h hs hn
 have hx:(sat f 0).toList=[116,117,114,110]:=hw
 have HRL:Hid (relB (sat f 0)=false):=by unfold Hid relB;rw[hx];rfl
 have x0:=HC.out 0 (by omega)
 have HCK0:Hid (chkS f=if n≠4 then 6 else if allN n (numB f)=true then 0 else 8):=by
  unfold Hid chkS
  rw[HN.out,HRL.out,hx]
  by_cases hc:n=4
  ·subst hc;simp
  ·simp[hc]
 by_cases hc:n=4
 case neg=>
  have HF:Hid (6=chkS f):=by unfold Hid;rw[HCK0.out,if_pos hc]
  have hc':((n:Int) !=4)=true:=by simp;omega
  go_enter Tryz.func15,Tryz.ntmps15
  go_wp2
  go_ret
  exact⟨ret_int HF.out,Nx.refl _⟩
 have hc':((n:Int) !=4)=false:=by simp;omega
 have HCK:Hid (chkS f=if allN n (numB f)=true then 0 else 8):=by unfold Hid;rw[HCK0.out,if_neg (by omega)]
 go_enter Tryz.func15,Tryz.ntmps15
 go_wp2_with fail
 refine(l1IsRelation_any (sat f 0) w).mono ?_
 rintro e wa ⟨rfl,hxr⟩
 rw[HRL.out]
 have HXa:Hid (Nx w wa):=hxr
 have x0:=cellq hxr x0
 clear hxr
 go_wp2_with fail
 refine(l1IsRelation_any (sat f 0) wa).mono ?_
 rintro e wb ⟨rfl,hxr⟩
 rw[HRL.out]
 have HXb:Hid (Nx w wb):=HXa.out.trans hxr
 clear hxr x0
 have HFR:Hid (∀i,freB f i=(false)):=λi=>by unfold freB relB;rw[hx];simp
 go_wp2
 go_loopw [5,6] (λs5 s6 wr=>∃i:Nat,1<=i/\i<=n/\s5=.int .i64 i/\Hid (allTo (numB f) i)/\Hid (Nx w wr)) (λs5 _ _=>n-(intOf s5).toNat)
 case atStart=>exact⟨1,Nat.le_refl _,h1,rfl,num_one f,HXb⟩
 obtain⟨i,hi1,hin,rfl,HA,HX⟩:=hrel
 by_cases hi:i<n
 case neg=>
  have HF:Hid (0=chkS f):=by unfold Hid;rw[HCK.out,allN_yes (by omega) HA.out];rfl
  go_wp2
  go_ret
  exact⟨ret_int HF.out,HX.out⟩
 have hi':(i:Int)<n:=by omega
 have xi:=cellq HX.out (HC.out i hi)
 have x0:=cellq HX.out (HC.out 0 (by omega))
 have HBD:Hid (numB f i=false->8=chkS f):=λh=>by rw[HCK.out,allN_no hi h];rfl
 have HNB:Hid (numB f i=(i==0||(freB f i||decide (0<=valS (sat f i))))):=rfl
 have hi0:(i==0)=false:=by simp;omega
 rw[hi0,HFR.out i] at HNB
 have hsz:=HSZ.out i hi
 generalize hxi:sat f i=x at *
 clear hxi
 go_wp2_with fail
 refine(l1IsRelation_any (sat f 0) wr).mono ?_
 rintro e w1 ⟨rfl,hxr⟩
 rw[HRL.out]
 have HX1:Hid (Nx w w1):=HX.out.trans hxr
 have xi1:=cellq hxr xi
 clear hxr xi
 go_wp2_with fail
 refine(l1Value_any x w1 (by omega)).mono ?_
 rintro e w2 ⟨rfl,hx2⟩
 have HX2:Hid (Nx w w2):=HX1.out.trans hx2
 clear hx2
 by_cases hv:valS x<0
 ·have HF:Hid (8=chkS f):=HBD.out (by rw[HNB.out,decide_eq_false (by omega)];rfl)
  go_wp2
  go_ret
  exact⟨ret_int HF.out,HX2.out⟩
 ·have HOK:Hid (numB f i=true):=by unfold Hid;rw[HNB.out,decide_eq_true (show 0<=valS x by omega)];simp
  go_wp2
  go_roundw
  case rel=>exact⟨i+1,by omega,by omega,by go_num,allTo_succ HA.out HOK.out,HX2⟩
  case measure=>simp[intOf];omega
theorem chk_uturn (C:Nat)(a:Option Addr)(n c:Nat)(f:List ByteArray)(w:World)(h:OwnSt C w (.slice a n c) f)(hn:f.length=n)(h1:1<=n)(hs:∀i,i<n->(sat f i).size<=300000)(hl:n<=300001)(hw:(sat f 0).toList=[117,116,117,114,110]) :
  Calls Tryz.prog 15 #[.slice a n c] w λe w'=>e=.returned (.int .i64 (chkS f))/\Nx w w':=by
 have HO:Hid (OwnSt C w (.slice a n c) f):=h
 have HN:Hid (f.length=n):=hn
 have HSZ:Hid (∀i,i<n->(sat f i).size<=300000):=hs
 obtain⟨g,rfl,-,hg,hc0⟩:=OwnSt.at h (i:=0) (by omega)
 have HC:Hid (∀i,i<n->w.cell? ⟨g,i,none⟩=some (.string (sat f i))):=λi hi=>by
  obtain⟨g',e,-,-,hc⟩:=OwnSt.at HO.out (i:=i) (by rw[HN.out];exact hi)
  have e':g=g':=by simpa using e
  rw[e'];exact hc
 clear h hs hn
 have hx:(sat f 0).toList=[117,116,117,114,110]:=hw
 have HRL:Hid (relB (sat f 0)=false):=by unfold Hid relB;rw[hx];rfl
 have x0:=HC.out 0 (by omega)
 have HCK0:Hid (chkS f=if n≠2 then 6 else if allN n (numB f)=true then 0 else 8):=by
  unfold Hid chkS
  rw[HN.out,HRL.out,hx]
  by_cases hc:n=2
  ·subst hc;simp
  ·simp[hc]
 by_cases hc:n=2
 case neg=>
  have HF:Hid (6=chkS f):=by unfold Hid;rw[HCK0.out,if_pos hc]
  have hc':((n:Int) !=2)=true:=by simp;omega
  go_enter Tryz.func15,Tryz.ntmps15
  go_wp2
  go_ret
  exact⟨ret_int HF.out,Nx.refl _⟩
 have hc':((n:Int) !=2)=false:=by simp;omega
 have HCK:Hid (chkS f=if allN n (numB f)=true then 0 else 8):=by unfold Hid;rw[HCK0.out,if_neg (by omega)]
 go_enter Tryz.func15,Tryz.ntmps15
 go_wp2_with fail
 refine(l1IsRelation_any (sat f 0) w).mono ?_
 rintro e wa ⟨rfl,hxr⟩
 rw[HRL.out]
 have HXa:Hid (Nx w wa):=hxr
 have x0:=cellq hxr x0
 clear hxr
 go_wp2_with fail
 refine(l1IsRelation_any (sat f 0) wa).mono ?_
 rintro e wb ⟨rfl,hxr⟩
 rw[HRL.out]
 have HXb:Hid (Nx w wb):=HXa.out.trans hxr
 clear hxr x0
 have HFR:Hid (∀i,freB f i=(false)):=λi=>by unfold freB relB;rw[hx];simp
 go_wp2
 go_loopw [5,6] (λs5 s6 wr=>∃i:Nat,1<=i/\i<=n/\s5=.int .i64 i/\Hid (allTo (numB f) i)/\Hid (Nx w wr)) (λs5 _ _=>n-(intOf s5).toNat)
 case atStart=>exact⟨1,Nat.le_refl _,h1,rfl,num_one f,HXb⟩
 obtain⟨i,hi1,hin,rfl,HA,HX⟩:=hrel
 by_cases hi:i<n
 case neg=>
  have HF:Hid (0=chkS f):=by unfold Hid;rw[HCK.out,allN_yes (by omega) HA.out];rfl
  go_wp2
  go_ret
  exact⟨ret_int HF.out,HX.out⟩
 have hi':(i:Int)<n:=by omega
 have xi:=cellq HX.out (HC.out i hi)
 have x0:=cellq HX.out (HC.out 0 (by omega))
 have HBD:Hid (numB f i=false->8=chkS f):=λh=>by rw[HCK.out,allN_no hi h];rfl
 have HNB:Hid (numB f i=(i==0||(freB f i||decide (0<=valS (sat f i))))):=rfl
 have hi0:(i==0)=false:=by simp;omega
 rw[hi0,HFR.out i] at HNB
 have hsz:=HSZ.out i hi
 generalize hxi:sat f i=x at *
 clear hxi
 go_wp2_with fail
 refine(l1IsRelation_any (sat f 0) wr).mono ?_
 rintro e w1 ⟨rfl,hxr⟩
 rw[HRL.out]
 have HX1:Hid (Nx w w1):=HX.out.trans hxr
 have xi1:=cellq hxr xi
 clear hxr xi
 go_wp2_with fail
 refine(l1Value_any x w1 (by omega)).mono ?_
 rintro e w2 ⟨rfl,hx2⟩
 have HX2:Hid (Nx w w2):=HX1.out.trans hx2
 clear hx2
 by_cases hv:valS x<0
 ·have HF:Hid (8=chkS f):=HBD.out (by rw[HNB.out,decide_eq_false (by omega)];rfl)
  go_wp2
  go_ret
  exact⟨ret_int HF.out,HX2.out⟩
 ·have HOK:Hid (numB f i=true):=by unfold Hid;rw[HNB.out,decide_eq_true (show 0<=valS x by omega)];simp
  go_wp2
  go_roundw
  case rel=>exact⟨i+1,by omega,by omega,by go_num,allTo_succ HA.out HOK.out,HX2⟩
  case measure=>simp[intOf];omega
theorem chk_other (C:Nat)(a:Option Addr)(n c:Nat)(f:List ByteArray)(w:World)(h:OwnSt C w (.slice a n c) f)(hn:f.length=n)(h1:1<=n)(hs:∀i,i<n->(sat f i).size<=300000)(hl:n<=300001)(hw:(sat f 0).toList≠[110,111,100,101]/\(sat f 0).toList≠[119,97,121]/\(sat f 0).toList≠[110,111]/\(sat f 0).toList≠[111,110,108,121]/\(sat f 0).toList≠[116,117,114,110]/\(sat f 0).toList≠[117,116,117,114,110]) :
  Calls Tryz.prog 15 #[.slice a n c] w λe w'=>e=.returned (.int .i64 (chkS f))/\Nx w w':=by
 have HO:Hid (OwnSt C w (.slice a n c) f):=h
 have HN:Hid (f.length=n):=hn
 have HSZ:Hid (∀i,i<n->(sat f i).size<=300000):=hs
 obtain⟨g,rfl,-,hg,hc0⟩:=OwnSt.at h (i:=0) (by omega)
 have HC:Hid (∀i,i<n->w.cell? ⟨g,i,none⟩=some (.string (sat f i))):=λi hi=>by
  obtain⟨g',e,-,-,hc⟩:=OwnSt.at HO.out (i:=i) (by rw[HN.out];exact hi)
  have e':g=g':=by simpa using e
  rw[e'];exact hc
 clear h hs hn
 have HRL:Hid (relB (sat f 0)=false):=by
  unfold Hid relB
  have q1:((sat f 0).toList==[110,111])=false:=by simpa using hw.2.2.1
  have q2:((sat f 0).toList==[111,110,108,121])=false:=by simpa using hw.2.2.2.1
  rw[q1,q2];rfl
 have x0:=HC.out 0 (by omega)
 obtain⟨m1,m2,m3,m4,m5,m6⟩:=hw
 have HF:Hid (5=chkS f):=by unfold Hid chkS;rw[if_pos ⟨m1,m2,m5,m6,HRL.out⟩]
 have q1:((sat f 0).toList==[110,111,100,101])=false:=by simpa using m1
 have q2:((sat f 0).toList==[119,97,121])=false:=by simpa using m2
 have q5:((sat f 0).toList==[116,117,114,110])=false:=by simpa using m5
 have q6:((sat f 0).toList==[117,116,117,114,110])=false:=by simpa using m6
 go_enter Tryz.func15,Tryz.ntmps15
 go_wp2_with fail
 refine(l1IsRelation_any (sat f 0) w).mono ?_
 rintro e wa ⟨rfl,hxr⟩
 rw[HRL.out]
 have HXa:Hid (Nx w wa):=hxr
 clear hxr x0
 go_wp2
 go_ret
 exact⟨ret_int HF.out,HXa.out⟩
theorem l1Check_any (C:Nat)(a:Option Addr)(n c:Nat)(f:List ByteArray)(w:World)(h:OwnSt C w (.slice a n c) f)(hn:f.length=n)(h1:1<=n)(hs:∀i,i<n->(sat f i).size<=300000)(hl:n<=300001) :
  Calls Tryz.prog 15 #[.slice a n c] w λe w'=>e=.returned (.int .i64 (chkS f))/\Nx w w':=by
 by_cases k_node:(sat f 0).toList=[110,111,100,101]
 ·exact chk_node C a n c f w h hn h1 hs hl k_node
 by_cases k_way:(sat f 0).toList=[119,97,121]
 ·exact chk_way C a n c f w h hn h1 hs hl k_way
 by_cases k_no:(sat f 0).toList=[110,111]
 ·exact chk_no C a n c f w h hn h1 hs hl k_no
 by_cases k_only:(sat f 0).toList=[111,110,108,121]
 ·exact chk_only C a n c f w h hn h1 hs hl k_only
 by_cases k_turn:(sat f 0).toList=[116,117,114,110]
 ·exact chk_turn C a n c f w h hn h1 hs hl k_turn
 by_cases k_uturn:(sat f 0).toList=[117,116,117,114,110]
 ·exact chk_uturn C a n c f w h hn h1 hs hl k_uturn
 exact chk_other C a n c f w h hn h1 hs hl ⟨k_node,k_way,k_no,k_only,k_turn,k_uturn⟩
theorem OwnI.open {C:Nat}{w:World}{v:Value}{zs:List Int}(h:OwnI C w v zs)(hp:0<zs.length):∃g c cs,v=.slice (some ⟨g,0,none⟩) zs.length c/\C<=g/\zs.length<=c/\BT w g cs 2/\∀i,i<zs.length->w.cell? ⟨g,i,none⟩=some (.int .i64 (iat zs i)):=by
 have h0:=h
 obtain⟨h1,h2⟩:=h
 rcases h2 with⟨_,h3⟩|⟨g,cap,cur,hv,hg,hh,hc,hm,hs,ht⟩
 ·omega
 ·refine⟨g,cap,cur,hv,hg,hc,hh,λi hi=>?_⟩
  have e:(cur.toList.take (zs.length*1))[i]?=(icells zs)[i]?:=by rw[ht]
  rw[List.getElem?_take_of_lt (by omega),Array.getElem?_toList,icells_at hi] at e
  have hh':w.heap[g]?=some (.cells cur 2 (0,0)):=hh
  unfold World.cell?
  simp[hh',e]
theorem OwnI.in {C g n c j:Nat}{w:World}{zs:List Int}(h:OwnI C w (.slice (some ⟨g,0,none⟩) n c) zs)(hj:j<zs.length):C<=g/\(∃cs,BT w g cs 2)/\w.cell? ⟨g,j,none⟩=some (.int .i64 (iat zs j)):=by
 obtain⟨g',c',cs,e,hg,-,hb,hc⟩:=h.open (by omega)
 simp only[Value.slice.injEq,Option.some.injEq,Addr.mk.injEq] at e
 obtain⟨⟨rfl,-⟩,-⟩:=e
 exact⟨hg,⟨cs,hb⟩,hc j hj⟩
structure MS (w0 w:World)(bl:List (Nat×Array Value×Nat))(rs:List (Value×List Int)):Prop where
 nx:Nx w0 w
 bx:∀(j:Nat) (p:Nat×Array Value×Nat),bl[j]?=some p->BT w p.1 p.2.1 p.2.2/\w0.heap.size<=p.1/\p.2.2≠2
 nd:∀(j j':Nat) (p p':Nat×Array Value×Nat),j≠j'->bl[j]?=some p->bl[j']?=some p'->p.1≠p'.1
 rw:∀(j:Nat) (r:Value×List Int),rs[j]?=some r->OwnI w0.heap.size w r.1 r.2
 ap:∀(j j':Nat) (r r':Value×List Int) (g:Nat),j≠j'->rs[j]?=some r->rs[j']?=some r'->r.1.ownBlock=some g->r'.1.ownBlock≠some g
section
variable {w0 w w':World}{bl:List (Nat×Array Value×Nat)}{rs:List (Value×List Int)}
theorem MS.start (w:World):MS w w [] []:=⟨Nx.refl _,λj p h=>by simp at h,λj j' p p' _ h=>by simp at h,λj r h=>by simp at h,λj j' r r' g _ h=>by simp at h⟩
theorem MS.next (h:MS w0 w bl rs)(k:Nx w w'):MS w0 w' bl rs:=⟨h.nx.trans k,λj p hp=>⟨(h.bx j p hp).1.next k,(h.bx j p hp).2⟩,h.nd,λj r hr=>(h.rw j r hr).next k,h.ap⟩
theorem MS.box (h:MS w0 w bl rs)(k:Nat){b t:Nat}{cs:Array Value}(hk:bl[k]?=some (b,cs,t)):BT w b cs t:=(h.bx k _ hk).1
theorem MS.row (h:MS w0 w bl rs)(k:Nat){v:Value}{zs:List Int}(hk:rs[k]?=some (v,zs)):OwnI w0.heap.size w v zs:=h.rw k _ hk
theorem MS.set (h:MS w0 w bl rs)(k:Nat){b t:Nat}{cs:Array Value}(hk:bl[k]?=some (b,cs,t))(i:Nat)(v:Value):MS w0 (w.setCell ⟨b,i,none⟩ v) (bl.set k (b,cs.setIfInBounds i v,t)) rs:=by
 obtain⟨hb,hg,ht⟩:=h.bx k _ hk
 have hl:k<bl.length:=(List.getElem?_eq_some_iff.1 hk).1
 have key:∀(j:Nat) (p:Nat×Array Value×Nat),(bl.set k (b,cs.setIfInBounds i v,t))[j]?=some p->∃p0,bl[j]?=some p0/\p.1=p0.1:=λj p hp=>by
  rw[List.getElem?_set] at hp
  by_cases e:k=j
  ·subst e
   simp[hl] at hp
   subst hp
   exact⟨_,hk,rfl⟩
  ·rw[if_neg e] at hp
   exact⟨p,hp,rfl⟩
 refine⟨Below.setCell h.nx hg _,λj p hp=>?_,λj j' p p' hj hp hp'=>?_,λj r hr=>row_setBT (h.rw j r hr) hb ht _ _,h.ap⟩
 ·rw[List.getElem?_set] at hp
  by_cases e:k=j
  ·subst e
   simp[hl] at hp
   subst hp
   exact⟨hb.set i v,hg,ht⟩
  ·rw[if_neg e] at hp
   have hx:=h.bx j p hp
   exact⟨hx.1.setOther (h.nd j k p _ (λq=>e q.symm) hp hk) _ _,hx.2⟩
 ·obtain⟨q,hq,e1⟩:=key j p hp
  obtain⟨q',hq',e2⟩:=key j' p' hp'
  rw[e1,e2]
  exact h.nd j j' q q' hj hq hq'
theorem MS.grow (h:MS w0 w bl rs)(k:Nat){v v':Value}{zs zs':List Int}(hk:rs[k]?=some (v,zs))(r1:OwnI w0.heap.size w' v' zs')(r2:Chg (λx=>some x=v.ownBlock) w w')(r3:∀g,v'.ownBlock=some g->v.ownBlock=some g\/w.heap.size<=g):MS w0 w' bl (rs.set k (v',zs')):=by
 have ho:=h.rw k _ hk
 have hl:k<rs.length:=(List.getElem?_eq_some_iff.1 hk).1
 refine⟨Below.trans h.nx (r2.below h.nx.size (λx hx=>(own_lt ho x hx.symm).1)),λj p hp=>?_,h.nd,λj r hr=>?_,λj j' r r' g hj hr hr' hg=>?_⟩
 ·have hx:=h.bx j p hp
  exact⟨hx.1.row ho hx.2.2 r2,hx.2⟩
 ·rw[List.getElem?_set] at hr
  by_cases e:k=j
  ·subst e
   simp[hl] at hr
   subst hr
   exact r1
  ·rw[if_neg e] at hr
   exact row_far (h.rw j r hr) (λg hg=>h.ap k j _ r g e hk hr hg) r2
 ·rw[List.getElem?_set] at hr hr'
  by_cases e:k=j
  ·subst e
   simp[hl] at hr
   subst hr
   rw[if_neg hj] at hr'
   rcases r3 g hg with q|q
   ·exact h.ap k j' _ r' g hj hk hr' q
   ·intro q2
    have:=(own_lt (h.rw j' r' hr') g q2).2
    omega
  ·rw[if_neg e] at hr
   by_cases e':k=j'
   ·subst e'
    simp[hl] at hr'
    subst hr'
    intro q2
    rcases r3 g q2 with q|q
    ·exact h.ap k j _ r g (λx=>hj x.symm) hk hr q hg
    ·have:=(own_lt (h.rw j r hr) g hg).2
     omega
   ·rw[if_neg e'] at hr'
    exact h.ap j j' r r' g hj hr hr' hg
theorem MS.addBox (h:MS w0 w bl rs)(cs:Array Value)(t:Nat)(ht:t≠2):MS w0 (w.alloc (.cells cs t)) (bl++[(w.heap.size,cs,t)]) rs:=by
 have hx:Nx w (w.alloc (.cells cs t)):=box1 _ _
 refine⟨h.nx.trans hx,λj p hp=>?_,λj j' p p' hj hp hp'=>?_,λj r hr=>(h.rw j r hr).next hx,h.ap⟩
 ·rw[List.getElem?_append] at hp
  split at hp
  ·exact⟨(h.bx j p hp).1.next hx,(h.bx j p hp).2⟩
  ·obtain⟨e1,e2⟩:j-bl.length=0/\p=(w.heap.size,cs,t):=by
    cases hq:j-bl.length with
    |zero=>rw[hq] at hp;simp at hp;exact⟨rfl,hp.symm⟩
    |succ q=>rw[hq] at hp;simp at hp
   rw[e2]
   exact⟨BT.new _ _ _ _ rfl,h.nx.size,ht⟩
 ·have key:∀(j:Nat) (p:Nat×Array Value×Nat),(bl++[(w.heap.size,cs,t)])[j]?=some p->(j<bl.length/\bl[j]?=some p)\/(j=bl.length/\p.1=w.heap.size):=λj p hp=>by
   rw[List.getElem?_append] at hp
   split at hp
   ·rename_i hlt;exact Or.inl ⟨hlt,hp⟩
   ·cases hq:j-bl.length with
    |zero=>rw[hq] at hp;simp at hp;exact Or.inr ⟨by omega,by rw[<-hp]⟩
    |succ q=>rw[hq] at hp;simp at hp
  rcases key j p hp with⟨a1,a2⟩|⟨a1,a2⟩<;>rcases key j' p' hp' with⟨b1,b2⟩|⟨b1,b2⟩
  ·exact h.nd j j' p p' hj a2 b2
  ·have:=(h.bx j p a2).1.lt;omega
  ·have:=(h.bx j' p' b2).1.lt;omega
  ·omega
theorem MS.addRow (h:MS w0 w bl rs){v:Value}{zs:List Int}(hr:OwnI w0.heap.size w v zs)(hn:∀(j:Nat) (r:Value×List Int) (g:Nat),rs[j]?=some r->r.1.ownBlock=some g->v.ownBlock≠some g):MS w0 w bl (rs++[(v,zs)]):=by
 have key:∀(j:Nat) (p:Value×List Int),(rs++[(v,zs)])[j]?=some p->(j<rs.length/\rs[j]?=some p)\/(j=rs.length/\p=(v,zs)):=λj p hp=>by
  rw[List.getElem?_append] at hp
  split at hp
  ·rename_i hlt;exact Or.inl ⟨hlt,hp⟩
  ·cases hq:j-rs.length with
   |zero=>rw[hq] at hp;simp at hp;exact Or.inr ⟨by omega,hp.symm⟩
   |succ q=>rw[hq] at hp;simp at hp
 refine⟨h.nx,h.bx,h.nd,λj r hj=>?_,λj j' r r' g hj hr1 hr2 hg=>?_⟩
 ·rcases key j r hj with⟨_,a⟩|⟨_,a⟩
  ·exact h.rw j r a
  ·rw[a];exact hr
 ·rcases key j r hr1 with⟨a1,a2⟩|⟨a1,a2⟩<;>rcases key j' r' hr2 with⟨b1,b2⟩|⟨b1,b2⟩
  ·exact h.ap j j' r r' g hj a2 b2 hg
  ·rw[b2];exact hn j r g a2 hg
  ·intro q;rw[a2] at hg;exact hn j' r' g b2 q hg
  ·omega
theorem MS.addNil (h:MS w0 w bl rs):MS w0 w bl (rs++[(.slice none 0 0,[])]):=h.addRow ⟨rfl,Or.inl ⟨rfl,rfl⟩⟩ (λj r g _ _ e=>by cases e)
theorem MS.newRow (h:MS w0 w bl rs):MS w0 (w.alloc (.cells #[] 2)) bl (rs++[(.slice (some ⟨w.heap.size,0,none⟩) 0 0,[])]):=by
 have hx:Nx w (w.alloc (.cells #[] 2)):=box1 _ _
 refine(h.next hx).addRow (ownI_none _ _ h.nx.size) (λj r g hr hg e=>?_)
 have h1:=(own_lt (h.rw j r hr) g hg).2
 have h2:w.heap.size=g:=Option.some.inj e
 omega
end
theorem underD:∃fs,Tryz.prog.underlying 49=some (.struct fs):=⟨_,Tryz.underlying49⟩
theorem infoDe:(Tryz.prog.info? 49).map (·.size)=some 17:=by kernel_rfl
theorem loadBox {w:World}{b:Nat}{cs:Array Value}{t:Nat}(hb:BT w b cs t)(hs:cs.size=17):(loadVar 49 ⟨b,0,none⟩).run Tryz.prog w=.ok (.agg cs) w:=by
 obtain⟨fs,hu⟩:=underD
 have hl:=run_loadCells_list (P:=Tryz.prog) w ⟨b,0,none⟩ cs.toList (λj v hj=>by
  have e:(⟨b,0,none⟩:Addr).add j=⟨b,j,none⟩:=by unfold Addr.add;by_cases h:j=0<;>simp[h]
  rw[e]
  have hh:w.heap[b]?=some (.cells cs t (0,0)):=hb
  rw[Array.getElem?_toList] at hj
  unfold World.cell?
  simp[hh,hj])
 obtain⟨i,hi,hsz⟩:∃i,Tryz.prog.info? 49=some i/\i.size=17:=by
  have:=infoDe
  cases h:Tryz.prog.info? 49 with
  |none=>rw[h] at this;cases this
  |some i=>rw[h] at this;exact⟨i,rfl,by simpa using this⟩
 have hl':(loadCells ⟨b,0,none⟩ 17).run Tryz.prog w=.ok cs w:=by
  have e:cs.toList.length=17:=by simpa using hs
  rw[e] at hl
  simpa using hl
 simp[loadVar,isAgg,run_underlying hu,sizeOf,typeInfo,hi,hsz,hl']
theorem storeBox {w:World}{b:Nat}{cs cs':Array Value}{t:Nat}(hb:BT w b cs t)(hs:cs.size=17)(hs':cs'.size=17)(h1:(cs'.toList.all λv=>v.oneCell')=true):(storeVar 49 ⟨b,0,none⟩ (.agg cs')).run Tryz.prog w=.ok () (w.setRow b cs'):=by
 obtain⟨i,hi,hsz⟩:∃i,Tryz.prog.info? 49=some i/\i.size=17:=by
  have:=infoDe
  cases h:Tryz.prog.info? 49 with
  |none=>rw[h] at this;cases this
  |some i=>rw[h] at this;exact⟨i,rfl,by simpa using this⟩
 have hst:=run_storeCells_at (P:=Tryz.prog) b 0 t cs'.toList 0 cs w hb (by simp[hs,hs']) (λv hv=>List.all_eq_true.1 h1 v hv)
 have e:(cs.toList.take (0+0)++cs'.toList++cs.toList.drop (0+0+cs'.toList.length)).toArray=cs':=by
  have:cs.toList.drop (0+0+cs'.toList.length)=[]:=List.drop_eq_nil_of_le (by simp[hs,hs'])
  rw[this]
  simp
 rw[e] at hst
 have hc:(Value.agg cs').cells=cs':=rfl
 simp[storeVar,hc,hs',sizeOf,typeInfo,hi,hsz]
 exact hst
theorem setRow_bt {w:World}{b:Nat}{cs cs':Array Value}{t:Nat}(hb:BT w b cs t):BT (w.setRow b cs') b cs' t/\Chg (λx=>x=b) w (w.setRow b cs'):=by
 have hh:w.heap[b]?=some (.cells cs t (0,0)):=hb
 have hl:=hb.lt
 refine⟨?_,?_⟩
 ·unfold BT World.setRow
  simp[Array.getElem?_modify,hh]
 ·refine⟨rfl,rfl,rfl,by simp[World.setRow],λx hx hn=>?_⟩
  have hn':¬b=x:=λe=>hn e.symm
  simp[World.setRow,Array.getElem?_modify,hn']
theorem wpList_loadB {ops:Array Oper}{rest:List Oper}{o:Oper}{a:Act}{Q:Exit->Act->World->Prop}{w:World}{b t:Nat}{cs:Array Value}(hgd:o.guard=none)(p:Operand)(ho:o.op=.load 49 p)(hp:a.eval p=.pointer (some ⟨b,0,none⟩))(hb:BT w b cs t)(hs:cs.size=17)
  (h:wpList Tryz.prog ops Q rest (a.put o.dst (.agg cs)) w):wpList Tryz.prog ops Q (o::rest) a w:=by
 refine wpList_plain hgd λK hK=>?_
 have hl:=loadBox hb hs
 unfold Oper.wp execOp
 simp[ho,hp,Instr.loadAt,Instr.sureAddr,hl]
 exact hK _ _ h
theorem wpList_storeB {ops:Array Oper}{rest:List Oper}{o:Oper}{a:Act}{Q:Exit->Act->World->Prop}{w:World}{b t:Nat}{cs cs':Array Value}(hgd:o.guard=none)(p v:Operand)(ho:o.op=.store 49 p v)(hp:a.eval p=.pointer (some ⟨b,0,none⟩))(hv:a.eval v=.agg cs')(hb:BT w b cs t)(hs:cs.size=17)(hs':cs'.size=17)(h1:(cs'.toList.all λv=>v.oneCell')=true)
  (h:wpList Tryz.prog ops Q rest (a.put o.dst undef) (w.setRow b cs')):wpList Tryz.prog ops Q (o::rest) a w:=by
 refine wpList_plain hgd λK hK=>?_
 have hl:=storeBox hb hs hs' h1
 unfold Oper.wp execOp
 simp[ho,hp,hv,Instr.storeAt,Instr.sureAddr,hl]
 exact hK _ _ h
theorem MS.putBox {w0 w:World}{bl:List (Nat×Array Value×Nat)}{rs:List (Value×List Int)}(h:MS w0 w bl rs)(k:Nat){b t:Nat}{cs cs':Array Value}(hk:bl[k]?=some (b,cs,t)):MS w0 (w.setRow b cs') (bl.set k (b,cs',t)) rs:=by
 obtain⟨hb,hg,ht⟩:=h.bx k _ hk
 obtain⟨hb',hc⟩:=setRow_bt (cs':=cs') hb
 have hl:k<bl.length:=(List.getElem?_eq_some_iff.1 hk).1
 have key:∀(j:Nat) (p:Nat×Array Value×Nat),(bl.set k (b,cs',t))[j]?=some p->∃p0,bl[j]?=some p0/\p.1=p0.1:=λj p hp=>by
  rw[List.getElem?_set] at hp
  by_cases e:k=j
  ·subst e
   simp[hl] at hp
   subst hp
   exact⟨_,hk,rfl⟩
  ·rw[if_neg e] at hp
   exact⟨p,hp,rfl⟩
 refine⟨Below.trans h.nx (hc.below h.nx.size (λx hx=>by have e':x=b:=hx;rw[e'];exact hg)),λj p hp=>?_,λj j' p p' hj hp hp'=>?_,λj r hr=>row_chg (h.rw j r hr) hc (λx hx e=>?_),h.ap⟩
 ·rw[List.getElem?_set] at hp
  by_cases e:k=j
  ·subst e
   simp[hl] at hp
   subst hp
   exact⟨hb',hg,ht⟩
  ·rw[if_neg e] at hp
   have hx:=h.bx j p hp
   exact⟨hx.1.chg hc (h.nd j k p _ (λq=>e q.symm) hp hk),hx.2⟩
 ·obtain⟨q,hq,e1⟩:=key j p hp
  obtain⟨q',hq',e2⟩:=key j' p' hp'
  rw[e1,e2]
  exact h.nd j j' q q' hj hq hq'
 ·have e':x=b:=e
  subst e'
  exact hb.neRow (h.rw j r hr) ht hx.symm
structure De where
 kind:Int
 a:Int
 b:Int
 way:Wy
 rel:Rl
 cost:Int
 nn:List Int
 nw:List Int
def zWy:Wy:=⟨0,false,[],[]⟩
def zRl:Rl:=⟨0,false,0,0,false,0,[]⟩
def vsL (f:List ByteArray):List Int:=f.map valS
theorem vsL_len (f:List ByteArray):(vsL f).length=f.length:=by simp[vsL]
theorem vsL_at {f:List ByteArray}{i:Nat}(h:i<f.length):iat (vsL f) i=valS (sat f i):=by simp[vsL,iat,sat,List.getD,h]
def odds (v:List Int):Nat->List Int
 |0=>[]
 |k+1=>if 3<=k/\k%2=1 then odds v k++[iat v k] else odds v k
def evens (v:List Int):Nat->List Int
 |0=>[]
 |k+1=>if 3<=k/\k%2=0 then evens v k++[iat v k] else evens v k
theorem odds_le (v:List Int):∀k,(odds v k).length<=k
 |0=>Nat.le_refl _
 |k+1=>by
  have:=odds_le v k
  unfold odds
  split
  ·simp;omega
  ·omega
theorem evens_le (v:List Int):∀k,(evens v k).length<=k
 |0=>Nat.le_refl _
 |k+1=>by
  have:=evens_le v k
  unfold evens
  split
  ·simp;omega
  ·omega
def viaL (v:List Int):List Int:=(v.drop 4).take (v.length-5)
def rdS (f:List ByteArray):De:=
 if (sat f 0).toList=[110,111,100,101] then ⟨1,iat (vsL f) 1,0,zWy,zRl,0,[],[]⟩
 else if (sat f 0).toList=[119,97,121] then ⟨2,iat (vsL f) 1,0,⟨iat (vsL f) 1,(sat f 2).toList==[98],odds (vsL f) f.length,evens (vsL f) f.length⟩,zRl,0,odds (vsL f) f.length,[]⟩
 else if relB (sat f 0)=true then
  (if (sat f 3).toList=[97,116] then ⟨3,iat (vsL f) 1,0,zWy,⟨iat (vsL f) 1,(sat f 0).toList==[111,110,108,121],iat (vsL f) 2,iat (vsL f) (f.length-1),true,iat (vsL f) 4,[]⟩,0,[iat (vsL f) 4],[iat (vsL f) 2,iat (vsL f) (f.length-1)]⟩
   else ⟨3,iat (vsL f) 1,0,zWy,⟨iat (vsL f) 1,(sat f 0).toList==[111,110,108,121],iat (vsL f) 2,iat (vsL f) (f.length-1),false,0,viaL (vsL f)⟩,0,[],[iat (vsL f) 2,iat (vsL f) (f.length-1)]++viaL (vsL f)⟩)
 else if (sat f 0).toList=[116,117,114,110] then ⟨4,iat (vsL f) 1,iat (vsL f) 2,zWy,zRl,iat (vsL f) 3,[],[iat (vsL f) 1,iat (vsL f) 2]⟩
 else ⟨5,0,0,zWy,zRl,iat (vsL f) 1,[],[]⟩
def deV (d:De)(vn vw vr nn nw:Value):Value:=.agg #[.int .i64 d.kind,.int .i64 d.a,.int .i64 d.b,.int .i64 d.way.id,.bool d.way.both,vn,vw,.int .i64 d.rel.id,.bool d.rel.only,.int .i64 d.rel.frm,.int .i64 d.rel.to,.bool d.rel.via,.int .i64 d.rel.node,vr,.int .i64 d.cost,nn,nw]
structure HDe (C:Nat)(w:World)(d:De)(vn vw vr nn nw:Value):Prop where
 h1:OwnI C w vn d.way.nodes
 h2:OwnI C w vw d.way.weights
 h3:OwnI C w vr d.rel.ways
 h4:OwnI C w nn d.nn
 h5:OwnI C w nw d.nw
end Go.Proofs.YthhkjbfkgdlkmaaGreatDoor
