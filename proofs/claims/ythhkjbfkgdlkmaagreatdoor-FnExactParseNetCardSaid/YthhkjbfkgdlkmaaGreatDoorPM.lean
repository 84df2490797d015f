import Derived.Test.YthhkjbfkgdlkmaaGreatDoorPLr
namespace Go.Proofs.YthhkjbfkgdlkmaaGreatDoor
open Go.RowKit Go.Sort
set_option linter.unusedVariables false
set_option maxRecDepth 1000000
set_option maxHeartbeats 16000000
theorem lnB_one (ls:List ByteArray):∀j,j<1->lnB ls j=false:=λj hj=>by
 have e:j=0:=by omega
 subst e
 rfl
theorem ownDs_none (w:World)(C:Nat)(hC:C<=w.heap.size):OwnDs C (w.alloc (.cells #[] 49)) (.slice (some ⟨w.heap.size,0,none⟩) 0 0) []:=
 ⟨rfl,.inr ⟨w.heap.size,0,#[],rfl,hC,by show(w.heap.push _)[w.heap.size]?=_;simp,Nat.le_refl _,by simp[maxLen],by simp,by simp⟩⟩
theorem specParse_any (B:Nat)(a:Option Addr)(n cap:Nat)(bs:List UInt8)(w:World)(h:HBy B w (.slice a n cap) bs)(hcap:n<=cap) :
  Calls Tryz.prog 4 #[.slice a n cap] w λe w'=>PmIs w w' (prsM bs) e/\Nx w w':=by
 obtain⟨va,vc,e,hmx_,hk⟩:=h
 simp only[Value.slice.injEq] at e
 obtain⟨rfl,hbl,rfl⟩:=e
 have HBL:Hid (bs.length=n):=hbl.symm
 have HBY:Hid (HBy B w (.slice a n cap) bs):=⟨a,cap,by rw[hbl],hmx_,hk⟩
 clear hbl hmx_ hk
 have HRB0:Hid (BT (w.alloc (.cells zPr 30)) w.heap.size zPr 30):=BT.new _ _ _ _ rfl
 have HRN0:Hid (Nx w (w.alloc (.cells zPr 30))):=box1 _ _
 unfold zPr at HRB0 HRN0
 generalize hW0:w.alloc (.cells #[.int .i64 0,.int .i64 0,.slice none 0 0,.slice none 0 0,.slice none 0 0,.slice none 0 0,.int .i64 0] 30)=w0 at *
 by_cases h1:300000<n
 ·have h1':(300000:Int)<(n:Int):=by omega
  have HPF:Hid (prsM bs=.error (1,0)):=by unfold Hid prsM;rw[HBL.out,if_pos h1]
  go_enter Tryz.func4,Tryz.ntmps4
  go_upto_region 1 with fail
  try rw[hW0]
  clear hW0
  go_wp2_with fail
  refine(l1Refuse_any (1) (0) w0).mono ?_
  rintro e wr1 ⟨rfl,hxr⟩
  have HRB:Hid (BT wr1 w.heap.size zPr 30):=(HRB0.out).next hxr
  have HRN:Hid (Nx w wr1):=(HRN0.out).trans hxr
  clear hxr
  go_wp2_with (refine wpList_refuse (1) (0) rfl _ _ rfl rfl rfl rfl HRB.out rfl HRN.out (Nat.le_refl _) ?_)
  intro wF hb_ hnx_
  go_wp2
  refine ret_parsed rfl rfl hb_ ?_
  exact⟨PmIs.no (HPF.out),hnx_⟩
 have h1':¬(300000:Int)<(n:Int):=by omega
 have HP1:Hid (prsM bs=if bs.length=0\/byteAt bs (bs.length-1)≠10 then .error (2,0) else prsL (cutL (bs.take (bs.length-1)) 10)):=by unfold Hid prsM;rw[HBL.out,if_neg h1]
 rw[HBL.out] at HP1
 by_cases h2:n=0
 ·have HPF:Hid (prsM bs=.error (2,0)):=by unfold Hid;rw[HP1.out,if_pos (Or.inl h2)]
  clear HP1
  subst h2
  go_enter Tryz.func4,Tryz.ntmps4
  go_upto_region 1 with fail
  try rw[hW0]
  clear hW0
  go_wp2_with fail
  refine(l1Refuse_any (2) (0) w0).mono ?_
  rintro e wr1 ⟨rfl,hxr⟩
  have HRB:Hid (BT wr1 w.heap.size zPr 30):=(HRB0.out).next hxr
  have HRN:Hid (Nx w wr1):=(HRN0.out).trans hxr
  clear hxr
  go_wp2_with (refine wpList_refuse (2) (0) rfl _ _ rfl rfl rfl rfl HRB.out rfl HRN.out (Nat.le_refl _) ?_)
  intro wF hb_ hnx_
  go_wp2
  refine ret_parsed rfl rfl hb_ ?_
  exact⟨PmIs.no (HPF.out),hnx_⟩
 obtain⟨m,hm⟩:∃m,n=m+1:=⟨n-1,by omega⟩
 have HM:Hid (n-1=m):=by unfold Hid;omega
 have hnm:m<n:=by omega
 have hnm':(m:Int)<(n:Int):=by omega
 have hns:(n:Int)-1=(m:Int):=by omega
 have hn0:((n:Int)==0)=false:=by simp;omega
 have hwm:IntKind.i64.wrap (m:Int)=(m:Int):=by rw[IntKind.wrap_i64];omega
 have hnm1:n<=m+1:=by omega
 clear hm
 rw[HM.out] at HP1
 obtain⟨g,off,ea,hgB,hg,hcell⟩:∃g off,a=some ⟨g,off,none⟩/\B<=g/\g<w.heap.size/\∀i,i<n->w.cell? ⟨g,off+i,none⟩=some (.int .u8 (byteAt bs i)):=by
  obtain⟨a',c',e,-,hk⟩:=HBY.out
  simp only[Value.slice.injEq] at e
  obtain⟨rfl,-,rfl⟩:=e
  obtain⟨b,off,e,h3,h4,h5⟩:=hk (by rw[HBL.out];omega)
  exact⟨b,off,e,h3,h4,λi hi=>h5 i (by rw[HBL.out];exact hi)⟩
 subst ea
 have HCL:Hid (∀i,i<n->w.cell? ⟨g,off+i,none⟩=some (.int .u8 (byteAt bs i))):=hcell
 have xm:=cellq HRN0.out (hcell m hnm)
 clear hcell
 have hbr:=byteAt_in bs m
 generalize hzb:byteAt bs m=zb at *
 by_cases h3:zb=10
 case neg=>
  have HPF:Hid (prsM bs=.error (2,0)):=by unfold Hid;rw[HP1.out,if_pos (Or.inr h3)]
  have d3:(zb !=10)=true:=by simpa using h3
  go_enter Tryz.func4,Tryz.ntmps4
  go_upto_region 1 with fail
  try rw[hW0]
  clear hW0
  go_wp2_with fail
  refine(l1Refuse_any (2) (0) w0).mono ?_
  rintro e wr1 ⟨rfl,hxr⟩
  have HRB:Hid (BT wr1 w.heap.size zPr 30):=(HRB0.out).next hxr
  have HRN:Hid (Nx w wr1):=(HRN0.out).trans hxr
  clear hxr
  go_wp2_with (refine wpList_refuse (2) (0) rfl _ _ rfl rfl rfl rfl HRB.out rfl HRN.out (Nat.le_refl _) ?_)
  intro wF hb_ hnx_
  go_wp2
  refine ret_parsed rfl rfl hb_ ?_
  exact⟨PmIs.no (HPF.out),hnx_⟩
 have HP2:Hid (prsM bs=prsL (cutL (bs.take m) 10)):=by unfold Hid;rw[HP1.out,if_neg (by rintro(h|h);exact h2 h;exact h h3)]
 clear HP1 hzb
 subst h3
 have HBT:Hid (HBy B w0 (.slice (some ⟨g,off,none⟩) m cap) (bs.take m)):=by
  have el:(bs.take m).length=m:=by rw[List.length_take,HBL.out];omega
  refine⟨some ⟨g,off,none⟩,cap,by rw[el],by rw[el];unfold maxLen;omega,λhp=>⟨g,off,rfl,hgB,Nat.lt_of_lt_of_le hg HRN0.out.size,λi hi=>?_⟩⟩
  rw[el] at hi
  have eb:byteAt (bs.take m) i=byteAt bs i:=by simp[byteAt,List.getD_eq_getElem?_getD,hi]
  rw[eb]
  exact cellq HRN0.out (HCL.out i (by omega))
 have HTL:Hid ((bs.take m).length=m):=by unfold Hid;rw[List.length_take,HBL.out];omega
 generalize bs.take m=bt_ at *
 go_enter Tryz.func4,Tryz.ntmps4
 go_upto_region 1 with fail
 try rw[hW0]
 clear hW0
 go_wp2_with fail
 refine(l1Cut_any B (some ⟨g,off,none⟩) m cap bt_ 10 w0 HBT.out (by omega) (by omega)).mono ?_
 rintro e w1 ⟨⟨la,lc,rfl,hls⟩,hx⟩
 have HRB1:Hid (BT w1 w.heap.size zPr 30):=HRB0.out.next hx
 have HRN1:Hid (Nx w w1):=HRN0.out.trans hx
 have HLS:Hid (OwnSt w.heap.size w1 (.slice la (cutL bt_ 10).length lc) (cutL bt_ 10)):=row_base hls HRN0.out.size
 have HSZ:Hid (∀i,i<(cutL bt_ 10).length->(sat (cutL bt_ 10) i).size<=300000):=λi hi=>by have h1:=cutL_size hi;have h2:=HTL.out;omega
 have hln:=cutL_len bt_ 10
 rw[HTL.out] at hln
 clear hx hls HRB0 HRN0 HBT xm hbr HTL HCL HBY
 generalize cutL bt_ 10=ls at *
 obtain⟨nl,hnl⟩:∃nl,ls.length=nl:=⟨_,rfl⟩
 rw[hnl] at HLS HSZ hln ⊢
 have HNL:Hid (ls.length=nl):=hnl
 clear hnl
 obtain⟨gl,rfl,-,hgl,hl0⟩:=OwnSt.at HLS.out (i:=0) (by rw[HNL.out];omega)
 have HLC:Hid (∀i,i<nl->w1.cell? ⟨gl,i,none⟩=some (.string (sat ls i))):=λi hi=>by
  obtain⟨g',e,-,-,hc⟩:=OwnSt.at HLS.out (i:=i) (by rw[HNL.out];exact hi)
  have e':gl=g':=by simpa using e
  rw[e'];exact hc
 have hnl0:(0:Int)<(nl:Int):=by omega
 have hnl0':¬nl=0:=by omega
 by_cases h4:(sat ls 0).toList=[114,111,97,100,110,101,116,32,49]
 case neg=>
  have HPF:Hid (prsM bs=.error (3,1)):=by unfold Hid;rw[HP2.out];unfold prsL;rw[if_pos h4]
  have d4:((sat ls 0).toList==[114,111,97,100,110,101,116,32,49])=false:=by simpa using h4
  have d4':((sat ls 0).toList !=[114,111,97,100,110,101,116,32,49])=true:=by simpa using h4
  go_wp2_with fail
  refine(l1Refuse_any (3) (1) w1).mono ?_
  rintro e wr1 ⟨rfl,hxr⟩
  have HRB:Hid (BT wr1 w.heap.size zPr 30):=(HRB1.out).next hxr
  have HRN:Hid (Nx w wr1):=(HRN1.out).trans hxr
  clear hxr
  go_wp2_with (refine wpList_refuse (3) (1) rfl _ _ rfl rfl rfl rfl HRB.out rfl HRN.out (Nat.le_refl _) ?_)
  intro wF hb_ hnx_
  go_wp2
  refine ret_parsed rfl rfl hb_ ?_
  exact⟨PmIs.no (HPF.out),hnx_⟩
 have HP3:Hid (prsM bs=match firstN ls.length (lnB ls) with|some i=>.error ((lnC ls i),(i:Int)+1)|none=>prsD (dsTo ls (ls.length-1))):=by unfold Hid;rw[HP2.out];unfold prsL;rw[if_neg (by simpa using h4)];rfl
 clear HP2
 have HS0:Hid (DS w (w1.alloc (.cells #[] 49)) (.slice (some ⟨gl,0,none⟩) nl lc) ls (.slice (some ⟨w1.heap.size,0,none⟩) 0 0) []):=by
  have hx:Nx w1 (w1.alloc (.cells #[] 49)):=box1 _ _
  exact⟨HRN1.out.trans hx,HRB1.out.next hx,row_next HLS.out hx,ownDs_none _ _ HRN1.out.size,λx hx=>by simp at hx⟩
 have HXX:Hid (Nx w1 (w1.alloc (.cells #[] 49))):=box1 _ _
 have HLC2:Hid (∀{q:World}{v:Value}{xs:List Dx},DS w q (.slice (some ⟨gl,0,none⟩) nl lc) ls v xs->∀i,i<nl->q.cell? ⟨gl,i,none⟩=some (.string (sat ls i))):=λhD i hi=>by
  obtain⟨g',e,-,-,hc⟩:=OwnSt.at hD.ln (i:=i) (by rw[HNL.out];exact hi)
  have e':gl=g':=by simpa using e
  rw[e'];exact hc
 go_upto_region 9 with fail
 generalize w1.alloc (.cells #[] 49)=w2 at *
 clear HRB1 HLS HLC hl0 HXX
 go_wp2
 go_loopw [4,5] (λs4 s5 wr=>∃(i k cv:Nat) (av:Option Addr) (xs:List Dx),k<i/\i<=k+1/\i<=nl/\s5=.int .i64 i/\s4=.slice av k cv/\Hid (xs.length=k/\des xs=dsTo ls k)/\Hid (∀j,j<i->lnB ls j=false)/\Hid (DS w wr (.slice (some ⟨gl,0,none⟩) nl lc) ls (.slice av k cv) xs)) (λ_ i _=>nl-(intOf i).toNat)
 case atStart=>exact⟨1,0,0,_,[],by omega,by omega,by omega,rfl,rfl,⟨rfl,rfl⟩,lnB_one ls,HS0⟩
 clear HS0
 obtain⟨i,k,cv,av,xs,hik,hik',hin,rfl,rfl,HXS,HNB,HD⟩:=hrel
 by_cases hlt:i<nl
 ·have hlt':(i:Int)<(nl:Int):=by omega
  have xl:=HLC2.out HD.out i hlt
  have HSI:=mkHid' (HSZ.out i hlt)
  have HLI:Hid (lnC ls i=if (fldS (sat ls i)).length=0 then 4 else chkS (fldS (sat ls i))):=rfl
  have HBI:Hid (lnC ls i≠0->prsM bs=.error ((lnC ls i),(i:Int)+1)):=λh=>by
   rw[HP3.out,firstN_some (i:=i) (by rw[HNL.out];exact hlt) (by unfold lnB;rw[decide_eq_true (by omega:1<=i)];simp[h]) HNB.out]
  have HDX:Hid (dsTo ls (k+1)=dsTo ls k++[rdS (fldS (sat ls i))]):=by unfold Hid;rw[dsTo_succ,show k+1=i by omega]
  have HBN:Hid (lnC ls i=0->∀j,j<i+1->lnB ls j=false):=λh j hj=>by
   by_cases e:j=i
   ·subst e;unfold lnB;rw[h];simp
   ·exact HNB.out j (by omega)
  generalize lnC ls i=lc_ at *
  go_wp2_with fail
  refine(l1Fields_any (sat ls i) wr HSI.out).mono ?_
  rintro e w3 ⟨⟨fa,fc,rfl,hfs⟩,hx⟩
  have HD3:=mkHid' (HD.out.next hx)
  have HFS:Hid (OwnSt w.heap.size w3 (.slice fa (fldS (sat ls i)).length fc) (fldS (sat ls i))):=row_base hfs HD.out.nx.size
  have HFZ:Hid (∀j,j<(fldS (sat ls i)).length->(sat (fldS (sat ls i)) j).size<=300000):=λj hj=>by have h1:=fld_size hj;have h2:=HSI.out;omega
  have hfl:=fld_len (sat ls i)
  have hfl2:(fldS (sat ls i)).length<=300001:=by have:=HSI.out;omega
  clear hx hfs HD xl hfl HSI
  generalize fldS (sat ls i)=fs at *
  obtain⟨nf,hnf⟩:∃nf,fs.length=nf:=⟨_,rfl⟩
  rw[hnf] at HFS HFZ HLI hfl2 ⊢
  have HNF:Hid (fs.length=nf):=hnf
  clear hnf
  by_cases h5:nf=0
  case pos=>
   have e4:lc_=4:=by rw[HLI.out,if_pos h5]
   have HPF:Hid (prsM bs=.error (4,(i:Int)+1)):=by unfold Hid;rw[HBI.out (by rw[e4];decide),e4]
   have hwi:IntKind.i64.wrap ((i:Int)+1)=(i:Int)+1:=by rw[IntKind.wrap_i64];omega
   clear HBI HLI e4 HBN
   subst h5
   go_wp2_with fail
   refine(l1Refuse_any (4) ((i:Int)+1) w3).mono ?_
   rintro e wr1 ⟨rfl,hxr⟩
   have HRB:Hid (BT wr1 w.heap.size zPr 30):=(HD3.out.res).next hxr
   have HRN:Hid (Nx w wr1):=(HD3.out.nx).trans hxr
   clear hxr
   go_wp2_with (refine wpList_refuse (4) ((i:Int)+1) rfl _ _ rfl rfl rfl rfl HRB.out rfl HRN.out (Nat.le_refl _) ?_)
   intro wF hb_ hnx_
   go_wp2
   refine ret_parsed rfl rfl hb_ ?_
   exact⟨PmIs.no (HPF.out),hnx_⟩
  have h5':((nf:Int)==0)=false:=by simp;omega
  have e5:lc_=chkS fs:=by rw[HLI.out,if_neg h5]
  clear HLI
  go_wp2_with fail
  refine(l1Check_any w.heap.size fa nf fc fs w3 HFS.out HNF.out (by omega) HFZ.out (by omega)).mono ?_
  rintro e w4 ⟨rfl,hx⟩
  have HD4:=mkHid' (HD3.out.next hx)
  have HFS4:=mkHid' (row_next HFS.out hx)
  clear hx HD3 HFS
  have HCK:Hid (chkS fs=lc_):=e5.symm
  rw[<-e5]
  clear e5
  by_cases h6:lc_=0
  case neg=>
   have HPF:Hid (prsM bs=.error (lc_,(i:Int)+1)):=HBI.out h6
   have h6':(lc_ !=0)=true:=by simpa using h6
   have hwi:IntKind.i64.wrap ((i:Int)+1)=(i:Int)+1:=by rw[IntKind.wrap_i64];omega
   clear HBI HBN HNB HXS HDX HFZ HSZ HLC2 HP3 HNF HCK HFS4 hfl2 h5 h5' h1 h1' h2 hns hn0 hwm
   have HRS:Hid (BT w4 w.heap.size zPr 30):=HD4.out.res
   have HRX:Hid (Nx w w4):=HD4.out.nx
   clear HD4
   go_wp2_with fail
   refine(l1Refuse_any (lc_) ((i:Int)+1) w4).mono ?_
   rintro e wr1 ⟨rfl,hxr⟩
   have HRB:Hid (BT wr1 w.heap.size zPr 30):=(HRS.out).next hxr
   have HRN:Hid (Nx w wr1):=(HRX.out).trans hxr
   clear hxr
   go_wp2_with (refine wpList_refuse (lc_) ((i:Int)+1) rfl _ _ rfl rfl rfl rfl HRB.out rfl HRN.out (Nat.le_refl _) ?_)
   intro wF hb_ hnx_
   go_wp2
   refine ret_parsed rfl rfl hb_ ?_
   exact⟨PmIs.no (HPF.out),hnx_⟩
  have HBN2:=mkHid' (HBN.out h6)
  subst h6
  clear HBI HBN
  go_wp2_with fail
  refine(l1Read_any w.heap.size fa nf fc fs w4 HFS4.out HNF.out HFZ.out HCK.out).mono ?_
  rintro e w5 ⟨⟨x,hxr,rfl,hdx⟩,hx⟩
  have HD5:=mkHid' (HD4.out.next hx)
  have HXD:Hid (HDx w.heap.size w5 x):=hdx.base HD4.out.nx.size
  have HX1:Hid (x.1=rdS fs):=hxr
  have hzz:w.heap.size<=w5.heap.size:=HD5.out.nx.size
  have hxl:=HXS.out.1
  clear hx HD4 hxr hdx HFS4
  go_wp2_with (first|refine wpList_buildDe rfl _ rfl rfl ?_|(at_builtin;refine app_de rfl _ _ rfl w.heap.size k (.slice av k cv) xs x w5 rfl HD5.out.own rfl HXS.out.1 HXD.out.one (by omega) hzz ?_))
  intro a1 c1 w6 r1 r2 r3
  have HD6:=mkHid' (HD5.out.grow HXD.out r1 r2)
  have HXS2:Hid ((xs++[x]).length=k+1/\des (xs++[x])=dsTo ls (k+1)):=⟨by rw[List.length_append,HXS.out.1];rfl,by rw[HDX.out];unfold des;rw[List.map_append,List.map_singleton,HX1.out];exact congrArg (·++_) HXS.out.2⟩
  clear r1 r2 r3 HD5 HXD hzz hxl
  go_wp2
  go_roundw
  case rel=>exact⟨i+1,k+1,c1,a1,xs++[x],by omega,by omega,by omega,by go_num,rfl,HXS2,HBN2,HD6⟩
  case measure=>simp[intOf];omega
 have ei:i=nl:=by omega
 subst ei
 have HP4:Hid (prsM bs=prsD (des xs)):=by
  unfold Hid
  rw[HP3.out,firstN_none (λj hj=>HNB.out j (by rw[<-HNL.out];exact hj)),HXS.out.2,HNL.out,show i-1=k by omega]
 have HRS:Hid (BT wr w.heap.size zPr 30):=HD.out.res
 have HRX:Hid (Nx w wr):=HD.out.nx
 have HOW:Hid (OwnDs w.heap.size wr (.slice av k cv) xs):=HD.out.own
 have HHD:Hid (∀x∈xs,HDx w.heap.size wr x):=HD.out.hd
 have HKX:Hid (xs.length=k):=HXS.out.1
 have HWB:Hid (∀j,j<k->(dat (des xs) j).way.weights.length<=300001):=by
  unfold Hid
  rw[HXS.out.2]
  exact dsTo_wt HSZ.out hik
 have hk3:k<=300000:=by omega
 clear HP3 HNB HLC2 HSZ HXS HD hlt hik hik' hin
 obtain⟨w9,hw9⟩:∃q,q=wr:=⟨_,rfl⟩
 subst hw9
 go_wp2
 go_loopw [8] (λs8 wr=>∃i:Nat,i<=k/\s8=.int .i64 i/\Hid (Nx w9 wr)/\Hid (∀j,j<i->repB (des xs) j=false)) (λs8 _=>k-(intOf s8).toNat)
 case atStart=>exact⟨0,by omega,rfl,Nx.refl _,λj hj=>absurd hj (Nat.not_lt_zero _)⟩
 obtain⟨i,hik,rfl,HX,HRP⟩:=hrel
 by_cases hlt:i<k
 ·have hlt':(i:Int)<(k:Int):=by omega
  obtain⟨g,hg,hr⟩:=HOW.out.rd HKX.out
  have ea:=hg (by omega)
  subst ea
  have x0:=cellq HX.out (hr.k i hlt)
  have x1:=cellq HX.out (hr.a i hlt)
  have x2:=cellq HX.out (hr.b i hlt)
  have HRI:Hid (repB (des xs) i=decide (fndP (pk (dat (des xs) i).kind (dat (des xs) i).a (dat (des xs) i).b) (des xs)<(i:Int))):=rfl
  clear hg hr
  generalize (dat (des xs) i).kind=dk at *
  generalize (dat (des xs) i).a=da at *
  generalize (dat (des xs) i).b=db at *
  have CG:Hid (∀d os,Calls Tryz.prog 17 #[.slice (some ⟨g,0,none⟩) k cv,.int .i64 dk,.int .i64 da,.int .i64 db] (Sort.grow (redrawn wr d) os) λe w''=>e=.returned (.int .i64 (fndP (pk dk da db) (des xs)))/\∃p:Regrown,w''=Sort.grow (redrawn wr p.d) p.os):=λd os=>Calls.regrown_of (l1Find_any w.heap.size _ k cv xs _ (row_next (row_next HOW.out HX.out) (below_regrown wr d os)) HKX.out hk3 dk da db)
  generalize fndP (pk dk da db) (des xs)=zf at *
  have x0':=cell_regrown x0
  have x1':=cell_regrown x1
  have x2':=cell_regrown x2
  go_upto_region 22 with fail
  by_cases hz:zf<(i:Int)
  ·have HPF:Hid (prsM bs=.error (9,(i:Int)+2)):=by unfold Hid;rw[HP4.out];unfold prsD;rw[firstN_some (i:=i) (by rw[des_len,HKX.out];exact hlt) (by rw[HRI.out];exact decide_eq_true hz) HRP.out]
   have hwi:IntKind.i64.wrap ((i:Int)+2)=(i:Int)+2:=by rw[IntKind.wrap_i64];omega
   refine wp_region_quiet_below (by kernel_rfl) (by kernel_rfl) ?_
   repeat (go_big_quiet_step (exact CG.out _ _))
   refine wpQuiet_nil ?_
   intro _ hw'
   obtain⟨⟨dq,osq⟩,hw''⟩:=hw'
   subst hw''
   have HQ:=mkHid' (HX.out.trans (below_regrown wr dq osq))
   clear x0 x1 x2 x0' x1' x2' CG HX
   generalize Sort.grow (redrawn wr dq) osq=wq at *
   go_wp2_with fail
   refine(l1Refuse_any (9) ((i:Int)+2) wq).mono ?_
   rintro e wr1 ⟨rfl,hxr⟩
   have HRB:Hid (BT wr1 w.heap.size zPr 30):=(HRS.out.next HQ.out).next hxr
   have HRN:Hid (Nx w wr1):=(HRX.out.trans HQ.out).trans hxr
   clear hxr
   go_wp2_with (refine wpList_refuse (9) ((i:Int)+2) rfl _ _ rfl rfl rfl rfl HRB.out rfl HRN.out (Nat.le_refl _) ?_)
   intro wF hb_ hnx_
   go_wp2
   refine ret_parsed rfl rfl hb_ ?_
   exact⟨PmIs.no (HPF.out),hnx_⟩
  have HRJ:Hid (∀j,j<i+1->repB (des xs) j=false):=λj hj=>by
   by_cases e:j=i
   ·subst e;rw[HRI.out];exact decide_eq_false hz
   ·exact HRP.out j (by omega)
  clear HRI HRP
  refine wp_region_quiet_below (by kernel_rfl) (by kernel_rfl) ?_
  repeat (go_big_quiet_step (exact CG.out _ _))
  refine wpQuiet_nil ?_
  intro _ hw'
  obtain⟨⟨dq,osq⟩,hw''⟩:=hw'
  subst hw''
  have HQ:=mkHid' (HX.out.trans (below_regrown wr dq osq))
  clear x0 x1 x2 x0' x1' x2' CG HX
  generalize Sort.grow (redrawn wr dq) osq=wq at *
  go_wp2
  go_roundw
  case rel=>exact⟨i+1,by omega,by go_num,HQ,HRJ⟩
  case measure=>simp[intOf];omega
 have ei:i=k:=by omega
 subst ei
 have HP5:Hid (prsM bs=match firstN (des xs).length (danB (des xs)) with|some i=>.error (10,(i:Int)+2)|none=>if overB (des xs)=true then .error (11,0) else .ok (des xs)):=by
  unfold Hid
  rw[HP4.out]
  unfold prsD
  rw[firstN_none (λj hj=>HRP.out j (by rw[des_len,HKX.out] at hj;exact hj))]
  rfl
 have HRS2:=mkHid' (HRS.out.next HX.out)
 have HRX2:=mkHid' (HRX.out.trans HX.out)
 have HOW2:Hid (OwnDs w.heap.size wr (.slice av i cv) xs):=row_next HOW.out HX.out
 have HHD2:Hid (∀x∈xs,HDx w.heap.size wr x):=λx hx=>(HHD.out x hx).next HX.out
 clear HP4 HRP HX HRS HRX HOW HHD hlt hik
 obtain⟨w10,hw10⟩:∃q,q=wr:=⟨_,rfl⟩
 subst hw10
 obtain⟨k,hk⟩:∃q,q=i:=⟨_,rfl⟩
 subst hk
 go_wp2
 go_loopw [9] (λs9 wr=>∃i:Nat,i<=k/\s9=.int .i64 i/\Hid (Nx w10 wr)/\Hid (∀j,j<i->danB (des xs) j=false)) (λs9 _=>k-(intOf s9).toNat)
 case atStart=>exact⟨0,by omega,rfl,Nx.refl _,λj hj=>absurd hj (Nat.not_lt_zero _)⟩
 obtain⟨i,hik,rfl,HX,HDP⟩:=hrel
 by_cases hlt:i<k
 ·have hlt':(i:Int)<(k:Int):=by omega
  obtain⟨g,c',ev,-,-,-,hc⟩:=HOW2.out.at (i:=i) (by rw[HKX.out];exact hlt)
  simp only[Value.slice.injEq] at ev
  obtain⟨rfl,-,rfl⟩:=ev
  obtain⟨x,hxi⟩:∃x,xs[i]'(by rw[HKX.out];exact hlt)=x:=⟨_,rfl⟩
  have hxd:x.1=dat (des xs) i:=by rw[<-hxi];exact dat_des _
  have hxm:x∈xs:=by rw[<-hxi];exact List.getElem_mem _
  have hdx:=HHD2.out x hxm
  rw[hxi] at hc
  obtain⟨an,cn,ean⟩:=hdx.h4.slice1
  obtain⟨aw,cw,eaw⟩:=hdx.h5.slice1
  have cN:w10.cell? ⟨g,i*17+15,none⟩=some x.2.nn:=hc 15 (by omega)
  have cW:w10.cell? ⟨g,i*17+16,none⟩=some x.2.nw:=hc 16 (by omega)
  rw[ean] at cN
  rw[eaw] at cW
  have HDI:Hid (danB (des xs) i=(danN (des xs) x.1.nn 1||danN (des xs) x.1.nw 2)):=by unfold Hid danB;rw[hxd]
  have HRN_:Hid (∀j,j<x.1.nn.length->∃gn,an=some ⟨gn,0,none⟩/\w10.cell? ⟨gn,j,none⟩=some (.int .i64 (iat x.1.nn j))):=rowc (ean▸hdx.h4)
  have HRW_:Hid (∀j,j<x.1.nw.length->∃gn,aw=some ⟨gn,0,none⟩/\w10.cell? ⟨gn,j,none⟩=some (.int .i64 (iat x.1.nw j))):=rowc (eaw▸hdx.h5)
  have hm1:=hdx.h4.max_
  have hm2:=hdx.h5.max_
  clear hc hxd hxm hxi hdx ean eaw
  generalize x.1.nn=lN at *
  generalize x.1.nw=lW at *
  clear x
  obtain⟨mN,hmN⟩:∃m,lN.length=m:=⟨_,rfl⟩
  obtain⟨mW,hmW⟩:∃m,lW.length=m:=⟨_,rfl⟩
  have HMN:Hid (lN.length=mN):=hmN
  have HMW:Hid (lW.length=mW):=hmW
  rw[hmN] at cN hm1 HRN_
  rw[hmW] at cW hm2 HRW_
  clear hmN hmW
  have HCN:Hid (w10.cell? ⟨g,i*17+15,none⟩=some (.slice an mN cn)):=cN
  have HCW:Hid (w10.cell? ⟨g,i*17+16,none⟩=some (.slice aw mW cw)):=cW
  clear cN cW
  go_wp2
  go_loopw [10] (λsj wr=>∃j:Nat,j<=mN/\sj=.int .i64 j/\Hid (Nx w10 wr)/\Hid (∀q,q<j->0<=fndP (pk 1 (iat lN q) 0) (des xs))) (λsj _=>mN-(intOf sj).toNat)
  case atStart=>exact⟨0,by omega,rfl,HX,λq hq=>absurd hq (Nat.not_lt_zero _)⟩
  obtain⟨j,hjm,rfl,HXj,HNj⟩:=hrel
  have xn:=cellq HXj.out HCN.out
  by_cases hjl:j<mN
  ·have hjl':(j:Int)<(mN:Int):=by omega
   obtain⟨gn,en,hcn⟩:=HRN_.out j hjl
   subst en
   have xj:=cellq HXj.out hcn
   clear hcn
   have HOJ:Hid (OwnDs w.heap.size wr (.slice (some ⟨g,0,none⟩) k cv) xs):=row_next HOW2.out HXj.out
   obtain⟨zj,hzj⟩:∃z,iat lN j=z:=⟨_,rfl⟩
   have HZJ:Hid (iat lN j=zj):=hzj
   rw[hzj] at xj
   clear hzj
   go_wp2_with fail
   refine(l1Find_any w.heap.size _ k cv xs wr HOJ.out HKX.out hk3 1 zj 0).mono ?_
   rintro e wf ⟨rfl,hxf⟩
   have HXf:=mkHid' (HXj.out.trans hxf)
   clear hxf xn xj HXj HOJ
   obtain⟨zf,hzf⟩:∃z,fndP (pk 1 zj 0) (des xs)=z:=⟨_,rfl⟩
   have HZF:Hid (fndP (pk 1 zj 0) (des xs)=zf):=hzf
   rw[hzf]
   clear hzf
   by_cases hz:zf<0
   ·have HPF:Hid (prsM bs=.error (10,(i:Int)+2)):=by
     unfold Hid
     rw[HP5.out,firstN_some (i:=i) (by rw[des_len,HKX.out];exact hlt) (by rw[HDI.out,danN_true (q:=j) (l:=lN) (by rw[HMN.out];exact hjl) (by rw[HZJ.out,HZF.out];exact hz)];rfl) HDP.out]
    have hwi:IntKind.i64.wrap ((i:Int)+2)=(i:Int)+2:=by rw[IntKind.wrap_i64];omega
    go_wp2_with fail
    refine(l1Refuse_any (10) ((i:Int)+2) wf).mono ?_
    rintro e wr1 ⟨rfl,hxr⟩
    have HRB:Hid (BT wr1 w.heap.size zPr 30):=(HRS2.out.next HXf.out).next hxr
    have HRN:Hid (Nx w wr1):=(HRX2.out.trans HXf.out).trans hxr
    clear hxr
    go_wp2_with (refine wpList_refuse (10) ((i:Int)+2) rfl _ _ rfl rfl rfl rfl HRB.out rfl HRN.out (Nat.le_refl _) ?_)
    intro wF hb_ hnx_
    go_wp2
    refine ret_parsed rfl rfl hb_ ?_
    exact⟨PmIs.no (HPF.out),hnx_⟩
   have HNK:Hid (∀q,q<j+1->0<=fndP (pk 1 (iat lN q) 0) (des xs)):=λq hq=>by
    by_cases e:q=j
    ·subst e;rw[HZJ.out,HZF.out];exact Int.not_lt.1 hz
    ·exact HNj.out q (by omega)
   clear HNj HZJ HZF
   go_wp2
   go_roundw
   case rel=>exact⟨j+1,by omega,by go_num,HXf,HNK⟩
   case measure=>simp[intOf];omega
  have HNF:Hid (danN (des xs) lN 1=false):=danN_false (λq hq=>HNj.out q (by rw[HMN.out] at hq;omega))
  clear HNj HX
  obtain⟨w11,hw11⟩:∃q,q=wr:=⟨_,rfl⟩
  subst hw11
  go_wp2
  clear xn hjl
  go_loopw [11] (λsj wr=>∃j:Nat,j<=mW/\sj=.int .i64 j/\Hid (Nx w10 wr)/\Hid (∀q,q<j->0<=fndP (pk 2 (iat lW q) 0) (des xs))) (λsj _=>mW-(intOf sj).toNat)
  case atStart=>exact⟨0,by omega,rfl,HXj,λq hq=>absurd hq (Nat.not_lt_zero _)⟩
  obtain⟨j,hjm,rfl,HXj,HNj⟩:=hrel
  have xn:=cellq HXj.out HCW.out
  by_cases hjl:j<mW
  ·have hjl':(j:Int)<(mW:Int):=by omega
   obtain⟨gn,en,hcn⟩:=HRW_.out j hjl
   subst en
   have xj:=cellq HXj.out hcn
   clear hcn
   have HOJ:Hid (OwnDs w.heap.size wr (.slice (some ⟨g,0,none⟩) k cv) xs):=row_next HOW2.out HXj.out
   obtain⟨zj,hzj⟩:∃z,iat lW j=z:=⟨_,rfl⟩
   have HZJ:Hid (iat lW j=zj):=hzj
   rw[hzj] at xj
   clear hzj
   go_wp2_with fail
   refine(l1Find_any w.heap.size _ k cv xs wr HOJ.out HKX.out hk3 2 zj 0).mono ?_
   rintro e wf ⟨rfl,hxf⟩
   have HXf:=mkHid' (HXj.out.trans hxf)
   clear hxf xn xj HXj HOJ
   obtain⟨zf,hzf⟩:∃z,fndP (pk 2 zj 0) (des xs)=z:=⟨_,rfl⟩
   have HZF:Hid (fndP (pk 2 zj 0) (des xs)=zf):=hzf
   rw[hzf]
   clear hzf
   by_cases hz:zf<0
   ·have HPF:Hid (prsM bs=.error (10,(i:Int)+2)):=by
     unfold Hid
     rw[HP5.out,firstN_some (i:=i) (by rw[des_len,HKX.out];exact hlt) (by rw[HDI.out,danN_true (q:=j) (l:=lW) (by rw[HMW.out];exact hjl) (by rw[HZJ.out,HZF.out];exact hz)];exact Bool.or_true _) HDP.out]
    have hwi:IntKind.i64.wrap ((i:Int)+2)=(i:Int)+2:=by rw[IntKind.wrap_i64];omega
    go_wp2_with fail
    refine(l1Refuse_any (10) ((i:Int)+2) wf).mono ?_
    rintro e wr1 ⟨rfl,hxr⟩
    have HRB:Hid (BT wr1 w.heap.size zPr 30):=(HRS2.out.next HXf.out).next hxr
    have HRN:Hid (Nx w wr1):=(HRX2.out.trans HXf.out).trans hxr
    clear hxr
    go_wp2_with (refine wpList_refuse (10) ((i:Int)+2) rfl _ _ rfl rfl rfl rfl HRB.out rfl HRN.out (Nat.le_refl _) ?_)
    intro wF hb_ hnx_
    go_wp2
    refine ret_parsed rfl rfl hb_ ?_
    exact⟨PmIs.no (HPF.out),hnx_⟩
   have HNK:Hid (∀q,q<j+1->0<=fndP (pk 2 (iat lW q) 0) (des xs)):=λq hq=>by
    by_cases e:q=j
    ·subst e;rw[HZJ.out,HZF.out];exact Int.not_lt.1 hz
    ·exact HNj.out q (by omega)
   clear HNj HZJ HZF
   go_wp2
   go_roundw
   case rel=>exact⟨j+1,by omega,by go_num,HXf,HNK⟩
   case measure=>simp[intOf];omega
  have HWF:Hid (danN (des xs) lW 2=false):=danN_false (λq hq=>HNj.out q (by rw[HMW.out] at hq;omega))
  have HDK:Hid (∀j,j<i+1->danB (des xs) j=false):=λq hq=>by
   by_cases e:q=i
   ·rw[e,HDI.out,HNF.out,HWF.out];rfl
   ·exact HDP.out q (by omega)
  clear HNj HDP HDI HNF HWF
  go_wp2
  go_roundw
  case rel=>exact⟨i+1,by omega,by go_num,HXj,HDK⟩
  case measure=>simp[intOf];omega
 have ei:i=k:=by omega
 subst ei
 have HP6:Hid (prsM bs=if overB (des xs)=true then .error (11,0) else .ok (des xs)):=by
  unfold Hid
  rw[HP5.out,firstN_none (λj hj=>HDP.out j (by rw[des_len,HKX.out] at hj;exact hj))]
 have HRS3:=mkHid' (HRS2.out.next HX.out)
 have HRX3:=mkHid' (HRX2.out.trans HX.out)
 have HOW3:Hid (OwnDs w.heap.size wr (.slice av i cv) xs):=row_next HOW2.out HX.out
 have HHD3:Hid (∀x∈xs,HDx w.heap.size wr x):=λx hx=>(HHD2.out x hx).next HX.out
 clear HP5 HDP HX HRS2 HRX2 HOW2 HHD2 hlt hik
 obtain⟨w12,hw12⟩:∃q,q=wr:=⟨_,rfl⟩
 subst hw12
 obtain⟨k,hk⟩:∃q,q=i:=⟨_,rfl⟩
 subst hk
 go_wp2
 go_loopw [12,13] (λs12 s13 wr=>∃i:Nat,i<=k/\s13=.int .i64 i/\s12=.int .i64 (egTo (des xs) i:Nat)/\Hid (Nx w12 wr)) (λ_ s13 _=>k-(intOf s13).toNat)
 case atStart=>exact⟨0,by omega,rfl,rfl,Nx.refl _⟩
 obtain⟨i,hik,rfl,rfl,HX⟩:=hrel
 have HEI:=mkHid' (egTo_le HWB.out i hik)
 by_cases hlt:i<k
 ·have hlt':(i:Int)<(k:Int):=by omega
  obtain⟨g,c',ev,-,-,-,hc⟩:=HOW3.out.at (i:=i) (by rw[HKX.out];exact hlt)
  simp only[Value.slice.injEq] at ev
  obtain⟨rfl,-,rfl⟩:=ev
  obtain⟨x,hxi⟩:∃x,xs[i]'(by rw[HKX.out];exact hlt)=x:=⟨_,rfl⟩
  have hxd:x.1=dat (des xs) i:=by rw[<-hxi];exact dat_des _
  have hxm:x∈xs:=by rw[<-hxi];exact List.getElem_mem _
  have hdx:=HHD3.out x hxm
  rw[hxi] at hc
  have x3:=cellq HX.out (show w12.cell? ⟨g,i*17+3,none⟩=some (.int .i64 x.1.way.id) from hc 3 (by omega))
  have x4:=cellq HX.out (show w12.cell? ⟨g,i*17+4,none⟩=some (.bool x.1.way.both) from hc 4 (by omega))
  have x5:=cellq HX.out (show w12.cell? ⟨g,i*17+5,none⟩=some x.2.vn from hc 5 (by omega))
  have x6:=cellq HX.out (show w12.cell? ⟨g,i*17+6,none⟩=some x.2.vw from hc 6 (by omega))
  have HVW:Hid (HInts w.heap.size wr x.2.vw x.1.way.weights):=(OwnI.held hdx.h2).next HX.out
  have HE1:Hid (egTo (des xs) (i+1)=egTo (des xs) i+if x.1.way.both then 2*x.1.way.weights.length else x.1.way.weights.length):=by unfold Hid;rw[hxd];rfl
  have hwl:x.1.way.weights.length<=300001:=by rw[hxd];exact HWB.out i hlt
  obtain⟨an,cn,ean⟩:=hdx.h1.slice1
  obtain⟨aw,cw,eaw⟩:=hdx.h2.slice1
  rw[ean] at x5
  rw[eaw] at x6 HVW
  clear hc hxd hxm hxi hdx ean eaw
  generalize x.1.way.id=wi at *
  generalize x.1.way.both=wb at *
  generalize x.1.way.weights=wl at *
  generalize x.1.way.nodes.length=wn at *
  clear x
  obtain⟨eg,heg⟩:∃z,egTo (des xs) i=z:=⟨_,rfl⟩
  have HEG:Hid (egTo (des xs) i=eg):=heg
  rw[heg] at HEI HE1 ⊢
  clear heg
  have hegb:eg<=180060000000:=by have:=HEI.out;omega
  go_wp2_with fail
  refine(l1WayEdges_any wi wb _ _ w.heap.size wl wr HVW.out (by omega)).mono ?_
  rintro e wf ⟨rfl,hxf⟩
  have HXf:=mkHid' (HX.out.trans hxf)
  have hwz:(if wb then 2*wl.length else wl.length:Nat)<=600002:=by split<;>omega
  clear hxf HX x3 x4 x5 x6 HVW
  generalize (if wb then 2*wl.length else wl.length:Nat)=wz at *
  go_wp2
  go_roundw
  case rel=>exact⟨i+1,by omega,by go_num,by rw[HE1.out];go_num,HXf⟩
  case measure=>simp[intOf];omega
 have ei:i=k:=by omega
 subst ei
 have HRS4:=mkHid' (HRS3.out.next HX.out)
 have HRX4:=mkHid' (HRX3.out.trans HX.out)
 have HOW4:Hid (OwnDs w.heap.size wr (.slice av i cv) xs):=row_next HOW3.out HX.out
 have HHD4:Hid (∀x∈xs,HDx w.heap.size wr x):=λx hx=>(HHD3.out x hx).next HX.out
 have hegb:egTo (des xs) i<=180060000000:=by have:=HEI.out;omega
 have HOV:Hid (overB (des xs)=(decide (2000<cntTo (des xs) 1 i)||(decide (2000<cntTo (des xs) 2 i)||(decide (4000<egTo (des xs) i)||(decide (1000<cntTo (des xs) 3 i)||decide (2000<cntTo (des xs) 4 i)))))):=by unfold Hid overB;rw[des_len,HKX.out]
 clear HX HRS3 HRX3 HOW3 HHD3 hlt hik HEI HWB
 obtain⟨w13,hw13⟩:∃q,q=wr:=⟨_,rfl⟩
 subst hw13
 obtain⟨k,hk⟩:∃q,q=i:=⟨_,rfl⟩
 subst hk
 have hb1:=cntTo_le (des xs) 1 k
 have hb2:=cntTo_le (des xs) 2 k
 have hb3:=cntTo_le (des xs) 3 k
 have hb4:=cntTo_le (des xs) 4 k
 obtain⟨n1,hn1⟩:∃z,cntTo (des xs) 1 k=z:=⟨_,rfl⟩
 have HC1:Hid (cntTo (des xs) 1 k=n1):=hn1
 rw[hn1] at HOV hb1
 clear hn1
 obtain⟨n2,hn2⟩:∃z,cntTo (des xs) 2 k=z:=⟨_,rfl⟩
 have HC2:Hid (cntTo (des xs) 2 k=n2):=hn2
 rw[hn2] at HOV hb2
 clear hn2
 obtain⟨n3,hn3⟩:∃z,cntTo (des xs) 3 k=z:=⟨_,rfl⟩
 have HC3:Hid (cntTo (des xs) 3 k=n3):=hn3
 rw[hn3] at HOV hb3
 clear hn3
 obtain⟨n4,hn4⟩:∃z,cntTo (des xs) 4 k=z:=⟨_,rfl⟩
 have HC4:Hid (cntTo (des xs) 4 k=n4):=hn4
 rw[hn4] at HOV hb4
 clear hn4
 generalize egTo (des xs) k=n5 at *
 have HZ0:Hid (Nx w13 w13):=Nx.refl _
 by_cases o1:2000<n1
 ·have HPF:Hid (prsM bs=.error (11,0)):=by unfold Hid;rw[HP6.out,HOV.out,decide_eq_true o1];simp
  have o1':(2000:Int)<(n1:Int):=by omega
  go_wp2_with fail
  refine(l1Count_any w.heap.size _ k cv xs w13 (row_next HOW4.out HZ0.out) HKX.out hk3 1).mono ?_
  rintro e wc1 ⟨rfl,hxc⟩
  rw[HC1.out]
  have HZ1:=mkHid' (HZ0.out.trans hxc)
  clear hxc HZ0
  go_wp2_with fail
  refine(l1Refuse_any (11) (0) wc1).mono ?_
  rintro e wr1 ⟨rfl,hxr⟩
  have HRB:Hid (BT wr1 w.heap.size zPr 30):=(HRS4.out.next HZ1.out).next hxr
  have HRN:Hid (Nx w wr1):=(HRX4.out.trans HZ1.out).trans hxr
  clear hxr
  go_wp2_with (refine wpList_refuse (11) (0) rfl _ _ rfl rfl rfl rfl HRB.out rfl HRN.out (Nat.le_refl _) ?_)
  intro wF hb_ hnx_
  go_wp2
  refine ret_parsed rfl rfl hb_ ?_
  exact⟨PmIs.no (HPF.out),hnx_⟩
 have o1':¬(2000:Int)<(n1:Int):=by omega
 by_cases o2:2000<n2
 ·have HPF:Hid (prsM bs=.error (11,0)):=by unfold Hid;rw[HP6.out,HOV.out,decide_eq_false o1,decide_eq_true o2];simp
  have o2':(2000:Int)<(n2:Int):=by omega
  go_wp2_with fail
  refine(l1Count_any w.heap.size _ k cv xs w13 (row_next HOW4.out HZ0.out) HKX.out hk3 1).mono ?_
  rintro e wc1 ⟨rfl,hxc⟩
  rw[HC1.out]
  have HZ1:=mkHid' (HZ0.out.trans hxc)
  clear hxc HZ0
  go_wp2_with fail
  refine(l1Count_any w.heap.size _ k cv xs wc1 (row_next HOW4.out HZ1.out) HKX.out hk3 2).mono ?_
  rintro e wc2 ⟨rfl,hxc⟩
  rw[HC2.out]
  have HZ2:=mkHid' (HZ1.out.trans hxc)
  clear hxc HZ1
  go_wp2_with fail
  refine(l1Refuse_any (11) (0) wc2).mono ?_
  rintro e wr1 ⟨rfl,hxr⟩
  have HRB:Hid (BT wr1 w.heap.size zPr 30):=(HRS4.out.next HZ2.out).next hxr
  have HRN:Hid (Nx w wr1):=(HRX4.out.trans HZ2.out).trans hxr
  clear hxr
  go_wp2_with (refine wpList_refuse (11) (0) rfl _ _ rfl rfl rfl rfl HRB.out rfl HRN.out (Nat.le_refl _) ?_)
  intro wF hb_ hnx_
  go_wp2
  refine ret_parsed rfl rfl hb_ ?_
  exact⟨PmIs.no (HPF.out),hnx_⟩
 have o2':¬(2000:Int)<(n2:Int):=by omega
 by_cases o5:4000<n5
 ·have HPF:Hid (prsM bs=.error (11,0)):=by unfold Hid;rw[HP6.out,HOV.out,decide_eq_false o1,decide_eq_false o2,decide_eq_true o5];simp
  have o5':(4000:Int)<(n5:Int):=by omega
  go_wp2_with fail
  refine(l1Count_any w.heap.size _ k cv xs w13 (row_next HOW4.out HZ0.out) HKX.out hk3 1).mono ?_
  rintro e wc1 ⟨rfl,hxc⟩
  rw[HC1.out]
  have HZ1:=mkHid' (HZ0.out.trans hxc)
  clear hxc HZ0
  go_wp2_with fail
  refine(l1Count_any w.heap.size _ k cv xs wc1 (row_next HOW4.out HZ1.out) HKX.out hk3 2).mono ?_
  rintro e wc2 ⟨rfl,hxc⟩
  rw[HC2.out]
  have HZ2:=mkHid' (HZ1.out.trans hxc)
  clear hxc HZ1
  go_wp2_with fail
  refine(l1Refuse_any (11) (0) wc2).mono ?_
  rintro e wr1 ⟨rfl,hxr⟩
  have HRB:Hid (BT wr1 w.heap.size zPr 30):=(HRS4.out.next HZ2.out).next hxr
  have HRN:Hid (Nx w wr1):=(HRX4.out.trans HZ2.out).trans hxr
  clear hxr
  go_wp2_with (refine wpList_refuse (11) (0) rfl _ _ rfl rfl rfl rfl HRB.out rfl HRN.out (Nat.le_refl _) ?_)
  intro wF hb_ hnx_
  go_wp2
  refine ret_parsed rfl rfl hb_ ?_
  exact⟨PmIs.no (HPF.out),hnx_⟩
 have o5':¬(4000:Int)<(n5:Int):=by omega
 by_cases o3:1000<n3
 ·have HPF:Hid (prsM bs=.error (11,0)):=by unfold Hid;rw[HP6.out,HOV.out,decide_eq_false o1,decide_eq_false o2,decide_eq_false o5,decide_eq_true o3];simp
  have o3':(1000:Int)<(n3:Int):=by omega
  go_wp2_with fail
  refine(l1Count_any w.heap.size _ k cv xs w13 (row_next HOW4.out HZ0.out) HKX.out hk3 1).mono ?_
  rintro e wc1 ⟨rfl,hxc⟩
  rw[HC1.out]
  have HZ1:=mkHid' (HZ0.out.trans hxc)
  clear hxc HZ0
  go_wp2_with fail
  refine(l1Count_any w.heap.size _ k cv xs wc1 (row_next HOW4.out HZ1.out) HKX.out hk3 2).mono ?_
  rintro e wc2 ⟨rfl,hxc⟩
  rw[HC2.out]
  have HZ2:=mkHid' (HZ1.out.trans hxc)
  clear hxc HZ1
  go_wp2_with fail
  refine(l1Count_any w.heap.size _ k cv xs wc2 (row_next HOW4.out HZ2.out) HKX.out hk3 3).mono ?_
  rintro e wc3 ⟨rfl,hxc⟩
  rw[HC3.out]
  have HZ3:=mkHid' (HZ2.out.trans hxc)
  clear hxc HZ2
  go_wp2_with fail
  refine(l1Refuse_any (11) (0) wc3).mono ?_
  rintro e wr1 ⟨rfl,hxr⟩
  have HRB:Hid (BT wr1 w.heap.size zPr 30):=(HRS4.out.next HZ3.out).next hxr
  have HRN:Hid (Nx w wr1):=(HRX4.out.trans HZ3.out).trans hxr
  clear hxr
  go_wp2_with (refine wpList_refuse (11) (0) rfl _ _ rfl rfl rfl rfl HRB.out rfl HRN.out (Nat.le_refl _) ?_)
  intro wF hb_ hnx_
  go_wp2
  refine ret_parsed rfl rfl hb_ ?_
  exact⟨PmIs.no (HPF.out),hnx_⟩
 have o3':¬(1000:Int)<(n3:Int):=by omega
 by_cases o4:2000<n4
 ·have HPF:Hid (prsM bs=.error (11,0)):=by unfold Hid;rw[HP6.out,HOV.out,decide_eq_false o1,decide_eq_false o2,decide_eq_false o5,decide_eq_false o3,decide_eq_true o4];simp
  have o4':(2000:Int)<(n4:Int):=by omega
  go_wp2_with fail
  refine(l1Count_any w.heap.size _ k cv xs w13 (row_next HOW4.out HZ0.out) HKX.out hk3 1).mono ?_
  rintro e wc1 ⟨rfl,hxc⟩
  rw[HC1.out]
  have HZ1:=mkHid' (HZ0.out.trans hxc)
  clear hxc HZ0
  go_wp2_with fail
  refine(l1Count_any w.heap.size _ k cv xs wc1 (row_next HOW4.out HZ1.out) HKX.out hk3 2).mono ?_
  rintro e wc2 ⟨rfl,hxc⟩
  rw[HC2.out]
  have HZ2:=mkHid' (HZ1.out.trans hxc)
  clear hxc HZ1
  go_wp2_with fail
  refine(l1Count_any w.heap.size _ k cv xs wc2 (row_next HOW4.out HZ2.out) HKX.out hk3 3).mono ?_
  rintro e wc3 ⟨rfl,hxc⟩
  rw[HC3.out]
  have HZ3:=mkHid' (HZ2.out.trans hxc)
  clear hxc HZ2
  go_wp2_with fail
  refine(l1Count_any w.heap.size _ k cv xs wc3 (row_next HOW4.out HZ3.out) HKX.out hk3 4).mono ?_
  rintro e wc4 ⟨rfl,hxc⟩
  rw[HC4.out]
  have HZ4:=mkHid' (HZ3.out.trans hxc)
  clear hxc HZ3
  go_wp2_with fail
  refine(l1Refuse_any (11) (0) wc4).mono ?_
  rintro e wr1 ⟨rfl,hxr⟩
  have HRB:Hid (BT wr1 w.heap.size zPr 30):=(HRS4.out.next HZ4.out).next hxr
  have HRN:Hid (Nx w wr1):=(HRX4.out.trans HZ4.out).trans hxr
  clear hxr
  go_wp2_with (refine wpList_refuse (11) (0) rfl _ _ rfl rfl rfl rfl HRB.out rfl HRN.out (Nat.le_refl _) ?_)
  intro wF hb_ hnx_
  go_wp2
  refine ret_parsed rfl rfl hb_ ?_
  exact⟨PmIs.no (HPF.out),hnx_⟩
 have o4':¬(2000:Int)<(n4:Int):=by omega
 have HPY:Hid (prsM bs=.ok (des xs)):=by unfold Hid;rw[HP6.out,HOV.out,decide_eq_false o1,decide_eq_false o2,decide_eq_false o5,decide_eq_false o3,decide_eq_false o4];simp
 clear HP6 HOV
 go_wp2_with fail
 refine(l1Count_any w.heap.size _ k cv xs w13 (row_next HOW4.out HZ0.out) HKX.out hk3 1).mono ?_
 rintro e wc1 ⟨rfl,hxc⟩
 rw[HC1.out]
 have HZ1:=mkHid' (HZ0.out.trans hxc)
 clear hxc HZ0
 go_wp2_with fail
 refine(l1Count_any w.heap.size _ k cv xs wc1 (row_next HOW4.out HZ1.out) HKX.out hk3 2).mono ?_
 rintro e wc2 ⟨rfl,hxc⟩
 rw[HC2.out]
 have HZ2:=mkHid' (HZ1.out.trans hxc)
 clear hxc HZ1
 go_wp2_with fail
 refine(l1Count_any w.heap.size _ k cv xs wc2 (row_next HOW4.out HZ2.out) HKX.out hk3 3).mono ?_
 rintro e wc3 ⟨rfl,hxc⟩
 rw[HC3.out]
 have HZ3:=mkHid' (HZ2.out.trans hxc)
 clear hxc HZ2
 go_wp2_with fail
 refine(l1Count_any w.heap.size _ k cv xs wc3 (row_next HOW4.out HZ3.out) HKX.out hk3 4).mono ?_
 rintro e wc4 ⟨rfl,hxc⟩
 rw[HC4.out]
 have HZ4:=mkHid' (HZ3.out.trans hxc)
 clear hxc HZ3
 have HOW5:Hid (OwnDs w.heap.size wc4 (.slice av k cv) xs):=row_next HOW4.out HZ4.out
 have HHD5:Hid (∀x∈xs,HDx w.heap.size wc4 x):=λx hx=>(HHD4.out x hx).next HZ4.out
 have HRS5:=mkHid' (HRS4.out.next HZ4.out)
 have HRX5:=mkHid' (HRX4.out.trans HZ4.out)
 clear HOW4 HHD4 HRS4 HRX4 HZ4 HC1 HC2 HC3 HC4
 go_wp2_with fail
 refine(l1Net_any w.heap.size av k cv xs wc4 HOW5.out HKX.out hk3 (Nat.lt_of_le_of_lt (Nat.zero_le _) HRS5.out.lt) (λj hj=>by
  have hd:=HHD5.out (dxat xs j) (by rw[dxat_eq (by rw[HKX.out];exact hj)];exact List.getElem_mem _)
  obtain⟨a1,c1,e1⟩:=hd.h1.slice1
  obtain⟨a2,c2,e2⟩:=hd.h2.slice1
  obtain⟨a3,c3,e3⟩:=hd.h3.slice1
  exact⟨⟨_,_,_,e1⟩,⟨_,_,_,e2⟩,⟨_,_,_,e3⟩⟩)).mono ?_
 rintro e wn ⟨⟨v0,v1,v2,v3,rfl,r0,r1,r2,r3⟩,hxn⟩
 have HBN:Hid (BT wn w.heap.size zPr 30):=HRS5.out.next hxn
 have HXN:Hid (Nx w wn):=HRX5.out.trans hxn
 have HHN:Hid (∀x∈xs,HDx w.heap.size wn x):=λx hx=>(HHD5.out x hx).next hxn
 have HW5:Hid (w.heap.size<=wc4.heap.size):=HRX5.out.size
 have HR0:=mkHid' r0
 have HR1:=mkHid' r1
 have HR2:=mkHid' r2
 have HR3:=mkHid' r3
 clear hxn r0 r1 r2 r3 HOW5 HHD5 HRS5 HRX5
 have HONE:Hid ((([.int .i64 0,.int .i64 0,v0,v1,v2,v3,.int .i64 (utx xs (tkA (des xs) 5))]:List Value).all λv=>v.oneCell')=true):=by
  obtain⟨a0,c0,e0⟩:=row_slice HR0.out
  obtain⟨a1,c1,e1⟩:=row_slice HR1.out
  obtain⟨a2,c2,e2⟩:=row_slice HR2.out
  obtain⟨a3,c3,e3⟩:=row_slice HR3.out
  unfold Hid
  rw[e0,e1,e2,e3];rfl
 go_wp2_with (refine wpList_buildP rfl _ rfl rfl ?_)
 intro wB hwB
 rw[hwB.out]
 clear hwB
 refine wpList_storeQ rfl _ _ rfl rfl rfl HBN.out rfl rfl HONE.out ?_
 intro wS hwS'
 have hwS:=hwS'.out
 clear hwS'
 obtain⟨uu,huu⟩:∃z,utx xs (tkA (des xs) 5)=z:=⟨_,rfl⟩
 have HUU:Hid (utx xs (tkA (des xs) 5)=uu):=huu
 clear huu
 obtain⟨kb,kc⟩:=setRow_bt (cs':=#[.int .i64 0,.int .i64 0,v0,v1,v2,v3,.int .i64 uu]) HBN.out
 have HKB:Hid (BT (wn.setRow w.heap.size #[.int .i64 0,.int .i64 0,v0,v1,v2,v3,.int .i64 uu]) w.heap.size #[.int .i64 0,.int .i64 0,v0,v1,v2,v3,.int .i64 uu] 30):=kb
 have HKX2:Hid (Nx w (wn.setRow w.heap.size #[.int .i64 0,.int .i64 0,v0,v1,v2,v3,.int .i64 uu])):=Below.trans HXN.out (kc.below HXN.out.size (λx e=>by have e':x=w.heap.size:=e;rw[e'];exact Nat.le_refl _))
 have HYV:Hid (YesV w (wn.setRow w.heap.size #[.int .i64 0,.int .i64 0,v0,v1,v2,v3,.int .i64 uu]) xs v0 v1 v2 v3):=⟨λx hx=>(HHN.out x hx).put HBN.out (by decide),row_put HBN.out (by decide) (row_base HR0.out HW5.out),row_put HBN.out (by decide) (row_base HR1.out HW5.out),row_put HBN.out (by decide) (row_base HR2.out HW5.out),row_put HBN.out (by decide) (row_base HR3.out HW5.out)⟩
 clear kb kc HR0 HR1 HR2 HR3 HHN HBN HXN HW5
 rw[HUU.out] at hwS
 rw[<-hwS] at HKB HKX2 HYV
 clear hwS
 go_wp2
 refine ret_parsed rfl rfl HKB.out ?_
 refine⟨?_,HKX2.out⟩
 rw[HPY.out]
 exact⟨xs,v0,v1,v2,v3,rfl,by rw[HUU.out],HYV.out⟩
end Go.Proofs.YthhkjbfkgdlkmaaGreatDoor
