import Derived.Test.YtdpfdkihbgmapaaVD
namespace Go.Proofs.Ytdpfdkihbgmapaa
open Go.RowKit Go.Sort
set_option linter.unusedVariables false
set_option maxRecDepth 1000000
set_option maxHeartbeats 16000000
theorem field_bt (code:Int)(a0 a1 a2 a3 a4:Option Addr)(n0 c0 n1 c1 n2 c2 n3 c3 n4 c4:Nat)(w:World):(Instr.field 53 (.agg #[.int .i64 code,.slice a0 n0 c0,.slice a1 n1 c1,.slice a2 n2 c2,.slice a3 n3 c3,.slice a4 n4 c4]) 1).run Try.prog w=.ok (.agg #[.slice a0 n0 c0,.slice a1 n1 c1,.slice a2 n2 c2,.slice a3 n3 c3,.slice a4 n4 c4]) w:=by kernel_rfl
attribute [local go_sem] field_bt
structure AUz (D b:Nat)(w0 w:World)(S:Src)(p0 p1 p2 p3 p4:Value)(A:Au):Prop where
 o5:O5 w0.heap.size w p0 p1 p2 p3 p4 A
 src:HSrc D w b S
 b2:BT w w0.heap.size #[.slice none 0 0,.slice none 0 0,.slice none 0 0,.slice none 0 0,.slice none 0 0] 26
 chg:Chg (Sx1 b) w0 w
section
variable {D b:Nat}{w0 w w':World}{S:Src}{p0 p1 p2 p3 p4:Value}{A:Au}
theorem AUz.lay (h:AUz D b w0 w S p0 p1 p2 p3 p4 A)(hc:Chg (λx=>x=w0.heap.size) w w')(sm:SmallA A):AOut D b w0 w' S p0 p1 p2 p3 p4 A:=by
 have nr:∀{C t sz n:Nat}{v:Value}{xs:List Value},w.ownsRow C t sz v n xs->26≠t->w'.ownsRow C t sz v n xs:=λhr hn=>row_chg hr hc (λx hx e=>by
  have e':x=w0.heap.size:=e
  subst e'
  exact h.b2.neRow hr hn hx.symm)
 have o:O5 w0.heap.size w' p0 p1 p2 p3 p4 A:=⟨nr h.o5.o0 (by decide),nr h.o5.o1 (by decide),nr h.o5.o2 (by decide),nr h.o5.o3 (by decide),nr h.o5.o4 (by decide),h.o5.a01,h.o5.a02,h.o5.a03,h.o5.a12,h.o5.a13,h.o5.a23⟩
 exact⟨o.ha,h.src.chg hc (λx hx=>by
  have e':x=w0.heap.size:=hx
  subst e'
  exact⟨_,_,h.b2,by decide,by decide⟩),h.chg.young hc (λx hx hl=>by have e':x=w0.heap.size:=hx;omega),sm⟩
theorem AOut.nil' (h:AOut D b w0 w S p0 p1 p2 p3 p4 A):AOut D b w0 w S (.slice none 0 0) (.slice none 0 0) (.slice none 0 0) (.slice none 0 0) (.slice none 0 0) auZ:=
 ⟨(O5.nil _ _).ha,h.src,h.chg,⟨by simp[auZ],by simp[auZ],by simp[auZ],by simp[auZ],by simp[auZ]⟩⟩
end
theorem daK_ok (k:Int){n:Nat}{A:Au}{S:Src}(h:Al5 n A)(hS:SOk S):Al5 n (daK k A S).1/\SOk (daK k A S).2:=by
 unfold daK
 split
 ·split
  ·exact⟨⟨h.l0,h.l1,h.l2,h.l3,by show(A.bd.set _ _).length=n;rw[List.length_set];exact h.l4⟩,ns_ok (ns_ok hS _) 2⟩
  ·exact⟨⟨h.l0,h.l1,h.l2,by show(A.mu.set _ _).length=n;rw[List.length_set];exact h.l3,h.l4⟩,ns_ok (ns_ok (ns_ok hS _) 2) 5⟩
 ·exact⟨h,hS⟩
theorem l3DrawAuto_any (auF:List Ru->Au)(hAF:AuF auF)(D b:Nat)(S:Src)(w:World)(hS:HSrc D w b S)(hok:SOk S) :
  Calls Try.prog 8 #[.pointer (some ⟨b,0,none⟩)] w λe w'=>∃p0 p1 p2 p3 p4,e=.returned (.agg #[p0,p1,p2,p3,p4])/\AOut D b w w' (daO auF S).2 p0 p1 p2 p3 p4 (daO auF S).1:=by
 have HB0:=mkHid' (BT.new w #[.slice none 0 0,.slice none 0 0,.slice none 0 0,.slice none 0 0,.slice none 0 0] 26 _ rfl)
 have HOK:Hid (SOk S):=hok
 have HAF:Hid (AuF auF):=hAF
 clear hAF
 have HOK1:Hid (SOk (ns S 20)):=ns_ok hok 20
 have HS0:Hid (HSrc D w b S):=hS
 have hmx:Try.prog.follows .mixedOrders=true:=by kernel_rfl
 have hk0:=nv_in hok 20
 have hk2:=hk0.2 (by omega)
 have hk1:=hk0.1
 clear hS hok hk0
 go_enter Try.func8,Try.ntmps8
 go_upto_region 1 with fail
 generalize hWA:w.alloc (.cells #[.slice none 0 0,.slice none 0 0,.slice none 0 0,.slice none 0 0,.slice none 0 0] 26)=wA
 have HBA:Hid (BT wA w.heap.size #[.slice none 0 0,.slice none 0 0,.slice none 0 0,.slice none 0 0,.slice none 0 0] 26):=by unfold Hid;rw[<-hWA];exact HB0.out
 have HSA:Hid (HSrc D wA b S):=by unfold Hid;rw[<-hWA];exact HS0.out.next (box1 _ _)
 have HCA:Hid (Chg (Sx1 b) w wA):=by unfold Hid;rw[<-hWA];exact Chg.nx (box1 _ _)
 clear hWA HB0 HS0
 go_wp2_with fail
 refine(l1Next_any D b S 20 wA HSA.out HOK.out (by omega)).mono ?_
 rintro e w1 ⟨rfl,hs1,hc1⟩
 have HB1:Hid (BT w1 w.heap.size #[.slice none 0 0,.slice none 0 0,.slice none 0 0,.slice none 0 0,.slice none 0 0] 26):=HBA.out.src HSA.out (by decide) hc1
 have HS1:Hid (HSrc D w1 b (ns S 20)):=hs1
 have HC1:Hid (Chg (Sx1 b) w w1):=HCA.out.trans hc1
 clear hs1 hc1 HBA HSA HCA
 have HBd:Hid (daB S=(decide (nv S 20=0)&&decide (nv (ns S 20) 3=0))):=rfl
 have HSd:Hid (daS2 S=if nv S 20=0 then ns (ns S 20) 3 else ns S 20):=rfl
 have HOd:Hid (daO auF S=if daB S=true then (auF (bkR 5),daS2 S) else daT (nv S 20) (auF (drRu (daS2 S))).pa.length (daK (nv S 20) (auF (drRu (daS2 S))) (drSr (daS2 S)))):=rfl
 have HOK2:Hid (SOk (daS2 S)):=by unfold Hid;rw[HSd.out];split<;>first|exact ns_ok HOK1.out _|exact HOK1.out
 generalize nv S 20=k at *
 obtain⟨bB,hbB⟩:∃x,x=daB S:=⟨_,rfl⟩
 have HB:Hid (bB=daB S):=hbB
 rw[<-HB.out] at HBd
 clear hbB
 go_upto_region 2 with fail
 go_cut [19] from 13 to 18 (λs19 wc=>s19=.bool bB/\Hid (HSrc D wc b (daS2 S))/\Hid (BT wc w.heap.size #[.slice none 0 0,.slice none 0 0,.slice none 0 0,.slice none 0 0,.slice none 0 0] 26)/\Hid (Chg (Sx1 b) w wc))
 case first=>
  by_cases hk:k=0
  ·have HSe:Hid (daS2 S=ns (ns S 20) 3):=by unfold Hid;rw[HSd.out,if_pos hk]
   have HBe:Hid (bB=decide (nv (ns S 20) 3=0)):=by unfold Hid;rw[HBd.out];simp[hk]
   have hkb:(k==0)=true:=by simp[hk]
   clear HBd HSd HOd
   subst hk
   go_wp2_with fail
   refine(l1Next_any D b (ns S 20) 3 w1 HS1.out HOK1.out (by omega)).mono ?_
   rintro e w2 ⟨rfl,hs1,hc1⟩
   have HB2:Hid (BT w2 w.heap.size #[.slice none 0 0,.slice none 0 0,.slice none 0 0,.slice none 0 0,.slice none 0 0] 26):=HB1.out.src HS1.out (by decide) hc1
   have HS2:Hid (HSrc D w2 b (daS2 S)):=by unfold Hid;rw[HSe.out];exact hs1
   have HC2:Hid (Chg (Sx1 b) w w2):=HC1.out.trans hc1
   clear hs1 hc1 HSe
   generalize nv (ns S 20) 3=d3 at *
   have HB5:Hid (bB=(d3==0)):=by unfold Hid;rw[HBe.out];rfl
   clear HBe
   go_wp2
   go_meet
   exact⟨by rw[HB5.out],HS2,HB2,HC2⟩
  ·have hSe:daS2 S=ns S 20:=by rw[HSd.out,if_neg hk]
   have HBe:Hid (bB=false):=by unfold Hid;rw[HBd.out];simp[hk]
   have hkb:(k==0)=false:=by simp[hk]
   have HS2:Hid (HSrc D w1 b (daS2 S)):=by unfold Hid;rw[hSe];exact HS1.out
   clear HBd HSd HOd hk hSe
   go_wp2
   go_meet
   exact⟨by rw[HBe.out],HS2,HB1,HC1⟩
 case rest=>
 clear HS1 HB1 HC1 HBd HSd
 obtain⟨rfl,HS1,HB1,HC1⟩:=hcut
 cases bB with
 |true=>
  have HO:Hid (daO auF S=(auF (bkR 5),daS2 S)):=by unfold Hid daO;rw[if_pos HB.out.symm]
  clear HB
  go_wp2_with fail
  refine(l3Bulk_any wc).mono ?_
  rintro e w2 ⟨⟨v,rfl,hr⟩,hx2⟩
  have hzc:w.heap.size<=wc.heap.size:=HC1.out.size
  have HRU:Hid (HRules w.heap.size w2 v (bkR 5)):=(hr.base hzc hzc).rules
  have HS2:Hid (HSrc D w2 b (daS2 S)):=HS1.out.next hx2
  have HC2:Hid (Chg (Sx1 b) w w2):=HC1.out.trans (Chg.nx hx2)
  have HB2:Hid (BT w2 w.heap.size #[.slice none 0 0,.slice none 0 0,.slice none 0 0,.slice none 0 0,.slice none 0 0] 26):=HB1.out.next hx2
  obtain⟨va,vm,vc,rfl⟩:=hr.slc
  clear hr hx2 HS1 HC1 HB1
  go_wp2_with fail
  refine(specBuild_any w.heap.size _ (bkR 5) w2 HRU.out).mono ?_
  rintro e w3 ⟨⟨code,a0,n0,c0,a1,n1,c1,a2,n2,c2,a3,n3,c3,a4,n4,c4,A,rfl,hbi,h5⟩,hxb⟩
  have eA:A=auF (bkR 5):=HAF.out _ _ _ hbi
  have hz2:w.heap.size<=w2.heap.size:=HC2.out.size
  have H3:Hid (AUz D b w w3 (daS2 S) (.slice a0 n0 c0) (.slice a1 n1 c1) (.slice a2 n2 c2) (.slice a3 n3 c3) (.slice a4 n4 c4) A):=⟨h5.base hz2,HS2.out.next hxb,HB2.out.next hxb,HC2.out.trans (Chg.nx hxb)⟩
  have HSM:=mkHid' hbi.small
  rw[<-eA] at HO
  clear h5 hxb HS2 HC2 HB2 HRU eA hbi
  have BR:BT w3 w.heap.size #[.slice none 0 0,.slice none 0 0,.slice none 0 0,.slice none 0 0,.slice none 0 0] 26:=H3.out.b2
  have x0:w3.cell? ⟨w.heap.size,0,none⟩=some (.slice none 0 0):=BR.blk.cell (i:=0) rfl
  have fz0:=BR.blk.frozen 0
  have x1:w3.cell? ⟨w.heap.size,1,none⟩=some (.slice none 0 0):=BR.blk.cell (i:=1) rfl
  have fz1:=BR.blk.frozen 1
  have x2:w3.cell? ⟨w.heap.size,2,none⟩=some (.slice none 0 0):=BR.blk.cell (i:=2) rfl
  have fz2:=BR.blk.frozen 2
  have x3:w3.cell? ⟨w.heap.size,3,none⟩=some (.slice none 0 0):=BR.blk.cell (i:=3) rfl
  have fz3:=BR.blk.frozen 3
  have x4:w3.cell? ⟨w.heap.size,4,none⟩=some (.slice none 0 0):=BR.blk.cell (i:=4) rfl
  have fz4:=BR.blk.frozen 4
  have BS:=set5 (a0:=.slice a0 n0 c0) (a1:=.slice a1 n1 c1) (a2:=.slice a2 n2 c2) (a3:=.slice a3 n3 c3) (a4:=.slice a4 n4 c4) BR
  have P0:Hid (_=some (Value.slice a0 n0 c0)):=BS.blk.cell (i:=0) rfl
  have P1:Hid (_=some (Value.slice a1 n1 c1)):=BS.blk.cell (i:=1) rfl
  have P2:Hid (_=some (Value.slice a2 n2 c2)):=BS.blk.cell (i:=2) rfl
  have P3:Hid (_=some (Value.slice a3 n3 c3)):=BS.blk.cell (i:=3) rfl
  have P4:Hid (_=some (Value.slice a4 n4 c4)):=BS.blk.cell (i:=4) rfl
  have HCF:Hid (Chg (λx=>x=w.heap.size) w3 (((((w3.setCell ⟨w.heap.size,0,none⟩ (.slice a0 n0 c0)).setCell ⟨w.heap.size,1,none⟩ (.slice a1 n1 c1)).setCell ⟨w.heap.size,2,none⟩ (.slice a2 n2 c2)).setCell ⟨w.heap.size,3,none⟩ (.slice a3 n3 c3)).setCell ⟨w.heap.size,4,none⟩ (.slice a4 n4 c4))):=chg5
  clear BS BR
  go_wp2
  generalize hWF:(((((w3.setCell ⟨w.heap.size,0,none⟩ (.slice a0 n0 c0)).setCell ⟨w.heap.size,1,none⟩ (.slice a1 n1 c1)).setCell ⟨w.heap.size,2,none⟩ (.slice a2 n2 c2)).setCell ⟨w.heap.size,3,none⟩ (.slice a3 n3 c3)).setCell ⟨w.heap.size,4,none⟩ (.slice a4 n4 c4))=wF at P0 P1 P2 P3 P4 HCF ⊢
  have p0_:=P0.out
  have p1_:=P1.out
  have p2_:=P2.out
  have p3_:=P3.out
  have p4_:=P4.out
  refine bodyPost_ret (v:=.agg #[.slice a0 n0 c0,.slice a1 n1 c1,.slice a2 n2 c2,.slice a3 n3 c3,.slice a4 n4 c4]) (by simp[results,Try.results8,go_sem,p0_,p1_,p2_,p3_,p4_]) rfl ?_
  rw[HO.out]
  exact⟨_,_,_,_,_,rfl,H3.out.lay HCF.out (by have h:=HSM.out.1;have hz:=HSM.out.2;exact⟨by omega,by rw[h.l1];omega,by rw[h.l2];omega,by rw[h.l3];omega,by rw[h.l4];omega⟩)⟩
 |false=>
  have HO:Hid (daO auF S=daT k (auF (drRu (daS2 S))).pa.length (daK k (auF (drRu (daS2 S))) (drSr (daS2 S)))):=by unfold Hid;rw[HOd.out,if_neg (by rw[<-HB.out];decide)]
  clear HB HOd
  go_wp2_with fail
  refine(l3DrawRules_any D b (daS2 S) wc HS1.out HOK2.out).mono ?_
  rintro e w2 ⟨⟨v,rfl,hr⟩,hs2,hc2⟩
  have hzc:w.heap.size<=wc.heap.size:=HC1.out.size
  have HRU:Hid (HRules w.heap.size w2 v (drRu (daS2 S))):=(hr.base hzc hzc).rules
  have HB2:Hid (BT w2 w.heap.size #[.slice none 0 0,.slice none 0 0,.slice none 0 0,.slice none 0 0,.slice none 0 0] 26):=HB1.out.src HS1.out (by decide) hc2
  have HS2:Hid (HSrc D w2 b (drSr (daS2 S))):=hs2
  have HC2:Hid (Chg (Sx1 b) w w2):=HC1.out.trans hc2
  obtain⟨va,vm,vc,rfl⟩:=hr.slc
  have HDR:=mkHid' (dr_ok HOK2.out)
  clear hr hs2 hc2 HS1 HC1 HB1
  go_wp2_with fail
  refine(specBuild_any w.heap.size _ (drRu (daS2 S)) w2 HRU.out).mono ?_
  rintro e w3 ⟨⟨code,a0,n0,c0,a1,n1,c1,a2,n2,c2,a3,n3,c3,a4,n4,c4,A,rfl,hbi,h5⟩,hxb⟩
  have eA:A=auF (drRu (daS2 S)):=HAF.out _ _ _ hbi
  have HG:=mkHid' (hbi.good HDR.out.2)
  have hz2:w.heap.size<=w2.heap.size:=HC2.out.size
  have HOK3:Hid (SOk (drSr (daS2 S))):=HDR.out.1
  have H3:Hid (AUs D b w.heap.size w3.heap.size w (w3.alloc (.cells #[.slice a0 n0 c0,.slice a1 n1 c1,.slice a2 n2 c2,.slice a3 n3 c3,.slice a4 n4 c4] 26)) (drSr (daS2 S)) (.slice a0 n0 c0) (.slice a1 n1 c1) (.slice a2 n2 c2) (.slice a3 n3 c3) (.slice a4 n4 c4) A):=by
   have hz3:w2.heap.size<=w3.heap.size:=hxb.size
   have hlt:=HB2.out.lt
   exact⟨(h5.base hz2).next (box1 _ _),(HS2.out.next hxb).next (box1 _ _),(HB2.out.next hxb).next (box1 _ _),BT.new w3 _ _ _ rfl,(HC2.out.trans (Chg.nx hxb)).trans (Chg.nx (box1 _ _)),Nat.le_refl _,by omega,by omega⟩
  rw[<-eA] at HO
  clear h5 hxb HS2 HC2 HB2 HRU eA hbi HDR HOK2 HOK1 HOK
  generalize drSr (daS2 S)=S3 at *
  obtain⟨n,hn⟩:∃n,n=A.pa.length:=⟨_,rfl⟩
  rw[<-hn] at HG HO
  have HL:Hid (Al5 n A):=HG.out.1
  have hn1:=HG.out.2.1
  have hn2:=HG.out.2.2
  obtain⟨r0,q0,cs,e0,-,hcp0,-,-⟩:=H3.out.o5.o0.open (by rw[HL.out.l0];omega)
  rw[HL.out.l0] at e0 hcp0
  simp only[Value.slice.injEq] at e0
  obtain⟨ea,en,ec⟩:=e0
  subst ea
  subst ec
  rw[en] at H3 ⊢
  clear en
  obtain⟨r1,q1,cs,e1,-,hcp1,-,-⟩:=H3.out.o5.o1.open (by rw[HL.out.l1];omega)
  rw[HL.out.l1] at e1 hcp1
  simp only[Value.slice.injEq] at e1
  obtain⟨ea,en,ec⟩:=e1
  subst ea
  subst ec
  rw[en] at H3 ⊢
  clear en
  obtain⟨r2,q2,cs,e2,-,hcp2,-,-⟩:=H3.out.o5.o2.open (by rw[HL.out.l2];omega)
  rw[HL.out.l2] at e2 hcp2
  simp only[Value.slice.injEq] at e2
  obtain⟨ea,en,ec⟩:=e2
  subst ea
  subst ec
  rw[en] at H3 ⊢
  clear en
  obtain⟨r3,q3,cs,e3,-,hcp3,-,-⟩:=H3.out.o5.o3.open (by rw[HL.out.l3];omega)
  rw[HL.out.l3] at e3 hcp3
  simp only[Value.slice.injEq] at e3
  obtain⟨ea,en,ec⟩:=e3
  subst ea
  subst ec
  rw[en] at H3 ⊢
  clear en
  obtain⟨r4,q4,cs,e4,-,hcp4,-,-⟩:=H3.out.o5.o4.open (by rw[HL.out.l4];omega)
  rw[HL.out.l4] at e4 hcp4
  simp only[Value.slice.injEq] at e4
  obtain⟨ea,en,ec⟩:=e4
  subst ea
  subst ec
  rw[en] at H3 ⊢
  clear en
  clear hn HG
  go_upto_region 5 with fail
  generalize hW4:w3.alloc (.cells #[.slice (some ⟨r0,0,none⟩) n c0,.slice (some ⟨r1,0,none⟩) n c1,.slice (some ⟨r2,0,none⟩) n c2,.slice (some ⟨r3,0,none⟩) n c3,.slice (some ⟨r4,0,none⟩) n c4] 26)=w4 at *
  generalize w3.heap.size=g4 at *
  clear hW4
  have y0:w4.cell? ⟨g4,0,none⟩=some (.slice (some ⟨r0,0,none⟩) n c0):=H3.out.b4.blk.cell (i:=0) rfl
  go_upto_region 6 with fail
  clear y0
  have HKd:Hid (daK k A S3=if 1<=k/\k<6/\1<A.pa.length then (if nv (ns S3 (A.pa.length-1)) 2=0 then ({ A with bd:=A.bd.set (1+nv S3 (A.pa.length-1)).toNat (!bat A.bd (1+nv S3 (A.pa.length-1)).toNat) },ns (ns S3 (A.pa.length-1)) 2) else ({ A with mu:=A.mu.set (1+nv S3 (A.pa.length-1)).toNat (nv (ns (ns S3 (A.pa.length-1)) 2) 5-2) },ns (ns (ns S3 (A.pa.length-1)) 2) 5)) else (A,S3)):=rfl
  rw[HL.out.l0] at HKd
  have HKO:=mkHid' (daK_ok k HL.out HOK3.out)
  generalize daK k A S3=x1 at *
  obtain⟨bK,hbK⟩:∃x,x=decide (1<=k/\k<6/\1<n):=⟨_,rfl⟩
  have HBK:Hid (bK=decide (1<=k/\k<6/\1<n)):=hbK
  clear hbK
  go_cut [39] from 30 to 38 (λs39 wc=>s39=.bool bK/\wc=w4)
  case first=>
   clear HKd
   by_cases e1:1<=k
   ·by_cases e2:k<6
    ·by_cases e3:1<n
     ·have HBe:Hid (bK=true):=by unfold Hid;rw[HBK.out];simp[e1,e2,e3]
      have e3':(1:Int)<(n:Int):=by omega
      clear HBK
      go_wp2
      go_meet
      exact⟨by rw[HBe.out],rfl⟩
     ·have HBe:Hid (bK=false):=by unfold Hid;rw[HBK.out];simp[e3]
      have e3':¬(1:Int)<(n:Int):=by omega
      clear HBK
      go_wp2
      go_meet
      exact⟨by rw[HBe.out],rfl⟩
    ·have HBe:Hid (bK=false):=by unfold Hid;rw[HBK.out];simp[e2]
     clear HBK
     go_wp2
     go_meet
     exact⟨by rw[HBe.out],rfl⟩
   ·have HBe:Hid (bK=false):=by unfold Hid;rw[HBK.out];simp[e1]
    clear HBK
    go_wp2
    go_meet
    exact⟨by rw[HBe.out],rfl⟩
  case rest=>
  obtain⟨rfl,rfl⟩:=hcut
  go_upto_if 39 with fail
  go_cut [6] from 40 to 64 (λs6 wq=>Hid (AUs D b w.heap.size g4 w wq x1.2 (.slice (some ⟨r0,0,none⟩) n c0) (.slice (some ⟨r1,0,none⟩) n c1) (.slice (some ⟨r2,0,none⟩) n c2) (.slice (some ⟨r3,0,none⟩) n c3) (.slice (some ⟨r4,0,none⟩) n c4) x1.1))
  case first=>
   cases bK with
   |false=>
    have hx:x1=(A,S3):=by rw[HKd.out,if_neg (of_decide_eq_false HBK.out.symm)]
    have HR:Hid (AUs D b w.heap.size g4 w wc x1.2 (.slice (some ⟨r0,0,none⟩) n c0) (.slice (some ⟨r1,0,none⟩) n c1) (.slice (some ⟨r2,0,none⟩) n c2) (.slice (some ⟨r3,0,none⟩) n c3) (.slice (some ⟨r4,0,none⟩) n c4) x1.1):=by unfold Hid;rw[hx];exact H3.out
    clear hx HKd HBK
    go_wp2
    go_meet
    exact HR
   |true=>
    have hkk:1<=k/\k<6/\1<n:=of_decide_eq_true HBK.out.symm
    have HKe:Hid (x1=if nv (ns S3 ((n:Int)-1)) 2=0 then ({ A with bd:=A.bd.set (1+nv S3 ((n:Int)-1)).toNat (!bat A.bd (1+nv S3 ((n:Int)-1)).toNat) },ns (ns S3 ((n:Int)-1)) 2) else ({ A with mu:=A.mu.set (1+nv S3 ((n:Int)-1)).toNat (nv (ns (ns S3 ((n:Int)-1)) 2) 5-2) },ns (ns (ns S3 ((n:Int)-1)) 2) 5)):=by unfold Hid;rw[HKd.out,if_pos hkk]
    have hn3:=hkk.2.2
    clear HKd HBK hkk
    go_wp2_with fail
    refine(l1Next_any D b S3 ((n:Int)-1) wc H3.out.src HOK3.out (by omega)).mono ?_
    rintro e w5 ⟨rfl,hs9,hc9⟩
    have H5:=mkHid' (H3.out.drawn hs9 hc9)
    clear hs9 hc9
    have hv:=nv_in HOK3.out ((n:Int)-1)
    have hv2:=hv.2 (by omega)
    obtain⟨i,hi0⟩:∃i:Nat,1+nv S3 ((n:Int)-1)=i:=⟨(1+nv S3 ((n:Int)-1)).toNat,by omega⟩
    have hi:i<n:=by omega
    have hi':(i:Int)<(n:Int):=by omega
    rw[hi0,Int.toNat_natCast] at HKe
    have hd:nv S3 ((n:Int)-1)=(i:Int)-1:=by omega
    rw[hd]
    have hii:1<=i:=by omega
    have hsi:(1:Int)+((i:Int)-1)=(i:Int):=by omega
    have HOK5:Hid (SOk (ns S3 ((n:Int)-1))):=ns_ok HOK3.out _
    clear hv hv2 hi0 hd H3
    generalize ns S3 ((n:Int)-1)=S5 at *
    go_wp2_with fail
    refine(l1Next_any D b S5 (2) w5 H5.out.src HOK5.out (by omega)).mono ?_
    rintro e w6 ⟨rfl,hs9,hc9⟩
    have H6:=mkHid' (H5.out.drawn hs9 hc9)
    clear hs9 hc9
    have HOK6:Hid (SOk (ns S5 2)):=ns_ok HOK5.out _
    clear H5
    generalize nv S5 2=d2 at *
    generalize ns S5 2=S6 at *
    by_cases hd:d2=0
    ·rw[if_pos hd] at HKe
     have HX1:Hid (x1.1={ A with bd:=A.bd.set i (!bat A.bd i) }):=by unfold Hid;rw[HKe.out]
     have HX2:Hid (x1.2=S6):=by unfold Hid;rw[HKe.out]
     have hdb:(d2==0)=true:=by simp[hd]
     clear HKe HKO
     subst hd
     go_upto_region 9 with fail
     have HD:=mkHid' (H6.out.next (show Nx w6 w6.drew from(Below.refl _ _).drew))
     obtain⟨r',c',cs,e,-,-,hb,hcz⟩:=HD.out.o5.o4.open (by rw[HL.out.l4];omega)
     simp only[Value.slice.injEq,Option.some.injEq,Addr.mk.injEq] at e
     obtain⟨⟨rfl,-⟩,-⟩:=e
     have cz:=hcz i (by rw[HL.out.l4];exact hi)
     have fz:=hb.blk.frozen i
     have HR:Hid (AUs D b w.heap.size g4 w (w6.drew.setCell ⟨r4,i,none⟩ (.bool (!bat A.bd i))) S6 (.slice (some ⟨r0,0,none⟩) n c0) (.slice (some ⟨r1,0,none⟩) n c1) (.slice (some ⟨r2,0,none⟩) n c2) (.slice (some ⟨r3,0,none⟩) n c3) (.slice (some ⟨r4,0,none⟩) n c4) { A with bd:=A.bd.set i (!bat A.bd i) }):=HD.out.s4 HL.out.l4 (by omega) i _
     clear hb hcz
     generalize bat A.bd i=z at *
     have HSS:Hid ((λq=>q.cell? ⟨g4,4,none⟩=some (.slice (some ⟨r4,0,none⟩) n c4)/\q.cell? ⟨r4,i,none⟩=some (.bool z)) w6.drew):=⟨HD.out.b4.blk.cell (i:=4) rfl,cz⟩
     clear HD
     refine(wpIn_wide (n:=9)).1 ?_
     refine wpIn_region_S (c:=10) (S:=λq=>q.cell? ⟨g4,4,none⟩=some (.slice (some ⟨r4,0,none⟩) n c4)/\q.cell? ⟨r4,i,none⟩=some (.bool z)) hmx (by kernel_rfl) (λhw hcl=>?_)
     generalize w6.drew=wd at *
     refine tq (i:=0) (v:=.pointer (some ⟨g4,4,none⟩)) (λhcl=>?_)
     refine tq (i:=1) (v:=.slice (some ⟨r4,0,none⟩) n c4) (λhcl=>?_)
     refine tq (i:=2) (v:=.int .i64 (i:Int)) (λhcl=>?_)
     refine tq (i:=3) (v:=.pointer (some ⟨g4,4,none⟩)) (λhcl=>?_)
     refine tq (i:=4) (v:=.slice (some ⟨r4,0,none⟩) n c4) (λhcl=>?_)
     refine tq (i:=5) (v:=.int .i64 (i:Int)) (λhcl=>?_)
     refine tq (i:=6) (v:=.pointer (some ⟨r4,i,none⟩)) (λhcl=>?_)
     refine tq (i:=7) (v:=.bool z) (λhcl=>?_)
     refine tq (i:=8) (v:=.bool (!z)) (λhcl=>?_)
     refine tq (i:=9) (v:=.pointer (some ⟨r4,i,none⟩)) (λhcl=>?_)
     refine anyS_one (i:=10) (by kernel_rfl) (wpOpIn_step rfl (λK hK=>?_))
     go_simp
     refine hK _ _ ⟨Or.inl (by decide),?_⟩
     clear hK K
     refine anyS_done (by kernel_rfl) ?_ _
     clear hw hcl HSS cz fz
     generalize wd.setCell ⟨r4,i,none⟩ (.bool (!z))=wS at *
     go_wp2
     go_meet
     unfold Hid
     rw[HX1.out,HX2.out]
     exact HR.out
    ·rw[if_neg hd] at HKe
     have HX1:Hid (x1.1={ A with mu:=A.mu.set i (nv S6 5-2) }):=by unfold Hid;rw[HKe.out]
     have HX2:Hid (x1.2=ns S6 5):=by unfold Hid;rw[HKe.out]
     have hdb:(d2==0)=false:=by simp[hd]
     clear HKe HKO hd
     go_upto_region 10 with fail
     have HD:=mkHid' (H6.out.next (show Nx w6 w6.drew from(Below.refl _ _).drew))
     have HSS:Hid ((λq=>q.cell? ⟨g4,3,none⟩=some (.slice (some ⟨r3,0,none⟩) n c3)) w6.drew):=HD.out.b4.blk.cell (i:=3) rfl
     have hvd:=nv_in HOK6.out 5
     have hvd2:=hvd.2 (by omega)
     refine(wpIn_wide (n:=9)).1 ?_
     refine wpIn_region_S (c:=7) (S:=λq=>q.cell? ⟨g4,3,none⟩=some (.slice (some ⟨r3,0,none⟩) n c3)) hmx (by kernel_rfl) (λhw hcl=>?_)
     generalize w6.drew=wd at *
     refine tq (i:=0) (v:=.pointer (some ⟨g4,3,none⟩)) (λhcl=>?_)
     refine tq (i:=1) (v:=.slice (some ⟨r3,0,none⟩) n c3) (λhcl=>?_)
     refine tq (i:=2) (v:=.int .i64 (i:Int)) (λhcl=>?_)
     refine tq (i:=3) (v:=.pointer (some ⟨b,0,none⟩)) (λhcl=>?_)
     refine anyS_one2 (i:=4) (by kernel_rfl) hcl (λhcl=>wpOpIn_step rfl (λK hK=>?_))
     go_simp
     refine⟨trivial,(callsIn_wide.2 (l1Next_any D b S6 5 _ HD.out.src HOK6.out (by omega))).mono ?_⟩
     rintro e7 w7 ⟨rfl,hs7,hc7⟩
     have H7:=mkHid' (HD.out.drawn hs7 hc7)
     clear hs7 hc7
     have HSS:Hid ((λq=>q.cell? ⟨g4,3,none⟩=some (.slice (some ⟨r3,0,none⟩) n c3)) w7):=H7.out.b4.blk.cell (i:=3) rfl
     refine hK _ _ ⟨Or.inr HSS.out,?_⟩
     clear hK K
     obtain⟨r',c',cs,e,-,-,hb,hcz⟩:=H7.out.o5.o3.open (by rw[HL.out.l3];omega)
     simp only[Value.slice.injEq,Option.some.injEq,Addr.mk.injEq] at e
     obtain⟨⟨rfl,-⟩,-⟩:=e
     have cz:=hcz (i) (by rw[HL.out.l3];omega)
     have fz:=hb.blk.frozen (i)
     have HR:Hid (AUs D b w.heap.size g4 w (w7.setCell ⟨r3,i,none⟩ (.int .i64 (nv S6 5-2))) (ns S6 5) (.slice (some ⟨r0,0,none⟩) n c0) (.slice (some ⟨r1,0,none⟩) n c1) (.slice (some ⟨r2,0,none⟩) n c2) (.slice (some ⟨r3,0,none⟩) n c3) (.slice (some ⟨r4,0,none⟩) n c4) { A with mu:=A.mu.set (i) (nv S6 5-2) }):=H7.out.s3 HL.out.l3 (by omega) _ _
     clear hb hcz H7 HD
     generalize iat A.mu (i)=zo at *
     generalize nv S6 5=dz at *
     have hw1:IntKind.i64.wrap (dz-2)=dz-2:=by rw[IntKind.wrap_i64];omega
     refine tq (i:=5) (v:=.int .i64 (dz-2)) (λhcl=>?_)
     refine tq (i:=6) (v:=.pointer (some ⟨r3,i,none⟩)) (λhcl=>?_)
     refine anyS_one (i:=7) (by kernel_rfl) (wpOpIn_step rfl (λK hK=>?_))
     go_simp
     refine hK _ _ ⟨Or.inl (by decide),?_⟩
     clear hK K
     refine anyS_done (by kernel_rfl) ?_ _
     clear hw hcl HSS cz fz hw1 hvd hvd2
     generalize w7.setCell ⟨r3,i,none⟩ (.int .i64 (dz-2))=wS at *
     go_wp2
     go_meet
     unfold Hid
     rw[HX1.out,HX2.out]
     exact HR.out
  case rest=>
  clear HKd HBK H3
  have H7:=hcut
  clear hcut
  obtain⟨B,S7⟩:=x1
  replace H7:Hid (AUs D b w.heap.size g4 w wc S7 (.slice (some ⟨r0,0,none⟩) n c0) (.slice (some ⟨r1,0,none⟩) n c1) (.slice (some ⟨r2,0,none⟩) n c2) (.slice (some ⟨r3,0,none⟩) n c3) (.slice (some ⟨r4,0,none⟩) n c4) B):=H7
  replace HKO:Hid (Al5 n B/\SOk S7):=HKO
  have HLB:Hid (Al5 n B):=HKO.out.1
  have HO7:Hid (SOk S7):=HKO.out.2
  have HTd:Hid (daT k n (B,S7)=if k<6\/10<=k then (B,S7) else daM (nv (ns S7 n) 14) n (nv S7 n).toNat B (ns (ns S7 n) 14)):=rfl
  rw[HTd.out] at HO
  clear HTd HL HKO HOK3
  have HL:Hid (Al5 n B):=HLB.out
  clear HLB
  obtain⟨bR,hbR⟩:∃x,x=decide (k<6\/10<=k):=⟨_,rfl⟩
  have HBR:Hid (bR=decide (k<6\/10<=k)):=hbR
  clear hbR
  go_upto_region 11 with fail
  go_cut [70] from 65 to 69 (λs70 wq=>s70=.bool bR/\wq=wc)
  case first=>
   clear HO
   by_cases e1:k<6
   ·have HBe:Hid (bR=true):=by unfold Hid;rw[HBR.out];simp[e1]
    clear HBR
    go_wp2
    go_meet
    exact⟨by rw[HBe.out],rfl⟩
   ·by_cases e2:10<=k
    ·have HBe:Hid (bR=true):=by unfold Hid;rw[HBR.out];simp[e2]
     clear HBR
     go_wp2
     go_meet
     exact⟨by rw[HBe.out],rfl⟩
    ·have HBe:Hid (bR=false):=by unfold Hid;rw[HBR.out];simp[e1,e2]
     clear HBR
     go_wp2
     go_meet
     exact⟨by rw[HBe.out],rfl⟩
  case rest=>
  obtain⟨rfl,rfl⟩:=hcut
  cases bR with
  |true=>
   rw[if_pos (of_decide_eq_true HBR.out.symm)] at HO
   clear HBR
   have y0:wc.cell? ⟨g4,0,none⟩=some (.slice (some ⟨r0,0,none⟩) n c0):=H7.out.b4.blk.cell (i:=0) rfl
   have y1:wc.cell? ⟨g4,1,none⟩=some (.slice (some ⟨r1,0,none⟩) n c1):=H7.out.b4.blk.cell (i:=1) rfl
   have y2:wc.cell? ⟨g4,2,none⟩=some (.slice (some ⟨r2,0,none⟩) n c2):=H7.out.b4.blk.cell (i:=2) rfl
   have y3:wc.cell? ⟨g4,3,none⟩=some (.slice (some ⟨r3,0,none⟩) n c3):=H7.out.b4.blk.cell (i:=3) rfl
   have y4:wc.cell? ⟨g4,4,none⟩=some (.slice (some ⟨r4,0,none⟩) n c4):=H7.out.b4.blk.cell (i:=4) rfl
   have BR:BT wc w.heap.size #[.slice none 0 0,.slice none 0 0,.slice none 0 0,.slice none 0 0,.slice none 0 0] 26:=H7.out.b2
   have x0:wc.cell? ⟨w.heap.size,0,none⟩=some (.slice none 0 0):=BR.blk.cell (i:=0) rfl
   have fz0:=BR.blk.frozen 0
   have x1:wc.cell? ⟨w.heap.size,1,none⟩=some (.slice none 0 0):=BR.blk.cell (i:=1) rfl
   have fz1:=BR.blk.frozen 1
   have x2:wc.cell? ⟨w.heap.size,2,none⟩=some (.slice none 0 0):=BR.blk.cell (i:=2) rfl
   have fz2:=BR.blk.frozen 2
   have x3:wc.cell? ⟨w.heap.size,3,none⟩=some (.slice none 0 0):=BR.blk.cell (i:=3) rfl
   have fz3:=BR.blk.frozen 3
   have x4:wc.cell? ⟨w.heap.size,4,none⟩=some (.slice none 0 0):=BR.blk.cell (i:=4) rfl
   have fz4:=BR.blk.frozen 4
   have BS:=set5 (a0:=.slice (some ⟨r0,0,none⟩) n c0) (a1:=.slice (some ⟨r1,0,none⟩) n c1) (a2:=.slice (some ⟨r2,0,none⟩) n c2) (a3:=.slice (some ⟨r3,0,none⟩) n c3) (a4:=.slice (some ⟨r4,0,none⟩) n c4) BR
   have P0:Hid (_=some (Value.slice (some ⟨r0,0,none⟩) n c0)):=BS.blk.cell (i:=0) rfl
   have P1:Hid (_=some (Value.slice (some ⟨r1,0,none⟩) n c1)):=BS.blk.cell (i:=1) rfl
   have P2:Hid (_=some (Value.slice (some ⟨r2,0,none⟩) n c2)):=BS.blk.cell (i:=2) rfl
   have P3:Hid (_=some (Value.slice (some ⟨r3,0,none⟩) n c3)):=BS.blk.cell (i:=3) rfl
   have P4:Hid (_=some (Value.slice (some ⟨r4,0,none⟩) n c4)):=BS.blk.cell (i:=4) rfl
   have HCF:Hid (Chg (λx=>x=w.heap.size) wc (((((wc.setCell ⟨w.heap.size,0,none⟩ (.slice (some ⟨r0,0,none⟩) n c0)).setCell ⟨w.heap.size,1,none⟩ (.slice (some ⟨r1,0,none⟩) n c1)).setCell ⟨w.heap.size,2,none⟩ (.slice (some ⟨r2,0,none⟩) n c2)).setCell ⟨w.heap.size,3,none⟩ (.slice (some ⟨r3,0,none⟩) n c3)).setCell ⟨w.heap.size,4,none⟩ (.slice (some ⟨r4,0,none⟩) n c4))):=chg5
   clear BS BR
   go_wp2
   generalize hWF:(((((wc.setCell ⟨w.heap.size,0,none⟩ (.slice (some ⟨r0,0,none⟩) n c0)).setCell ⟨w.heap.size,1,none⟩ (.slice (some ⟨r1,0,none⟩) n c1)).setCell ⟨w.heap.size,2,none⟩ (.slice (some ⟨r2,0,none⟩) n c2)).setCell ⟨w.heap.size,3,none⟩ (.slice (some ⟨r3,0,none⟩) n c3)).setCell ⟨w.heap.size,4,none⟩ (.slice (some ⟨r4,0,none⟩) n c4))=wF at P0 P1 P2 P3 P4 HCF ⊢
   have p0_:=P0.out
   have p1_:=P1.out
   have p2_:=P2.out
   have p3_:=P3.out
   have p4_:=P4.out
   refine bodyPost_ret (v:=.agg #[.slice (some ⟨r0,0,none⟩) n c0,.slice (some ⟨r1,0,none⟩) n c1,.slice (some ⟨r2,0,none⟩) n c2,.slice (some ⟨r3,0,none⟩) n c3,.slice (some ⟨r4,0,none⟩) n c4]) (by simp[results,Try.results8,go_sem,p0_,p1_,p2_,p3_,p4_]) rfl ?_
   rw[HO.out]
   exact⟨_,_,_,_,_,rfl,H7.out.lay HCF.out (by have h:=HL.out;refine⟨?_,?_,?_,?_,?_⟩<;>simp[h.l0,h.l1,h.l2,h.l3,h.l4]<;>omega)⟩
  |false=>
   rw[if_neg (of_decide_eq_false HBR.out.symm)] at HO
   clear HBR
   go_wp2_with fail
   refine(l1Next_any D b S7 ((n:Int)) wc H7.out.src HO7.out (by omega)).mono ?_
   rintro e w8 ⟨rfl,hs9,hc9⟩
   have H8:=mkHid' (H7.out.drawn hs9 hc9)
   clear hs9 hc9
   have hv:=nv_in HO7.out n
   have hv2:=hv.2 (by omega)
   obtain⟨i,hi0⟩:∃i:Nat,nv S7 n=i:=⟨(nv S7 n).toNat,by omega⟩
   have hi:i<n:=by omega
   have hi':(i:Int)<(n:Int):=by omega
   rw[hi0,Int.toNat_natCast] at HO
   rw[hi0]
   have HO8:Hid (SOk (ns S7 n)):=ns_ok HO7.out _
   clear hv hv2 hi0 H7
   generalize ns S7 n=S8 at *
   go_wp2_with fail
   refine(l1Next_any D b S8 (14) w8 H8.out.src HO8.out (by omega)).mono ?_
   rintro e w9 ⟨rfl,hs9,hc9⟩
   have H9:=mkHid' (H8.out.drawn hs9 hc9)
   clear hs9 hc9
   have HO9:Hid (SOk (ns S8 14)):=ns_ok HO8.out _
   have hv:=nv_in HO8.out 14
   have hv2:=hv.2 (by omega)
   have hv1:=hv.1
   clear hv H8
   generalize nv S8 14=m at *
   generalize ns S8 14=S9 at *
   have hm:m=0\/m=1\/m=2\/m=3\/m=4\/m=5\/m=6\/m=7\/m=8\/m=9\/m=10\/m=11\/m=12\/m=13:=by omega
   clear hv1 hv2
   rcases hm with rfl|rfl|rfl|rfl|rfl|rfl|rfl|rfl|rfl|rfl|rfl|rfl|rfl|rfl
   ·have HO:Hid (daO auF S=({ B with pa:=B.pa.set i (wrap64 (iat B.pa i+1)) },S9)):=by unfold Hid;rw[HO.out];rfl
    go_upto_region 16 with fail
    have HD:=mkHid' (H9.out.next (show Nx w9 w9.drew from(Below.refl _ _).drew))
    obtain⟨r',c',cs,e,-,-,hb,hcz⟩:=HD.out.o5.o0.open (by rw[HL.out.l0];omega)
    simp only[Value.slice.injEq,Option.some.injEq,Addr.mk.injEq] at e
    obtain⟨⟨rfl,-⟩,-⟩:=e
    have cz:=hcz i (by rw[HL.out.l0];exact hi)
    have fz:=hb.blk.frozen i
    have HR:Hid (AUs D b w.heap.size g4 w (w9.drew.setCell ⟨r0,i,none⟩ (.int .i64 (wrap64 (iat B.pa i+1)))) S9 (.slice (some ⟨r0,0,none⟩) n c0) (.slice (some ⟨r1,0,none⟩) n c1) (.slice (some ⟨r2,0,none⟩) n c2) (.slice (some ⟨r3,0,none⟩) n c3) (.slice (some ⟨r4,0,none⟩) n c4) { B with pa:=B.pa.set i (wrap64 (iat B.pa i+1)) }):=HD.out.s0 HL.out.l0 (by omega) i _
    clear hb hcz
    generalize iat B.pa i=z at *
    have hwz:IntKind.i64.wrap (z+1)=wrap64 (z+1):=Go.IntWalk.i64_left _
    have HSS:Hid ((λq=>q.cell? ⟨g4,0,none⟩=some (.slice (some ⟨r0,0,none⟩) n c0)/\q.cell? ⟨r0,i,none⟩=some (.int .i64 z)) w9.drew):=⟨HD.out.b4.blk.cell (i:=0) rfl,cz⟩
    clear HD
    refine(wpIn_wide (n:=9)).1 ?_
    refine wpIn_region_S (c:=10) (S:=λq=>q.cell? ⟨g4,0,none⟩=some (.slice (some ⟨r0,0,none⟩) n c0)/\q.cell? ⟨r0,i,none⟩=some (.int .i64 z)) hmx (by kernel_rfl) (λhw hcl=>?_)
    generalize w9.drew=wd at *
    refine tq (i:=0) (v:=.pointer (some ⟨g4,0,none⟩)) (λhcl=>?_)
    refine tq (i:=1) (v:=.slice (some ⟨r0,0,none⟩) n c0) (λhcl=>?_)
    refine tq (i:=2) (v:=.int .i64 (i:Int)) (λhcl=>?_)
    refine tq (i:=3) (v:=.pointer (some ⟨g4,0,none⟩)) (λhcl=>?_)
    refine tq (i:=4) (v:=.slice (some ⟨r0,0,none⟩) n c0) (λhcl=>?_)
    refine tq (i:=5) (v:=.int .i64 (i:Int)) (λhcl=>?_)
    refine tq (i:=6) (v:=.pointer (some ⟨r0,i,none⟩)) (λhcl=>?_)
    refine tq (i:=7) (v:=.int .i64 z) (λhcl=>?_)
    refine tq (i:=8) (v:=.int .i64 (wrap64 (z+1))) (λhcl=>?_)
    refine tq (i:=9) (v:=.pointer (some ⟨r0,i,none⟩)) (λhcl=>?_)
    refine anyS_one (i:=10) (by kernel_rfl) (wpOpIn_step rfl (λK hK=>?_))
    go_simp
    refine hK _ _ ⟨Or.inl (by decide),?_⟩
    clear hK K
    refine anyS_done (by kernel_rfl) ?_ _
    clear hw hcl HSS cz fz
    clear hwz
    generalize wd.setCell ⟨r0,i,none⟩ (.int .i64 (wrap64 (z+1)))=wS at *
    have y0:wS.cell? ⟨g4,0,none⟩=some (.slice (some ⟨r0,0,none⟩) n c0):=HR.out.b4.blk.cell (i:=0) rfl
    have y1:wS.cell? ⟨g4,1,none⟩=some (.slice (some ⟨r1,0,none⟩) n c1):=HR.out.b4.blk.cell (i:=1) rfl
    have y2:wS.cell? ⟨g4,2,none⟩=some (.slice (some ⟨r2,0,none⟩) n c2):=HR.out.b4.blk.cell (i:=2) rfl
    have y3:wS.cell? ⟨g4,3,none⟩=some (.slice (some ⟨r3,0,none⟩) n c3):=HR.out.b4.blk.cell (i:=3) rfl
    have y4:wS.cell? ⟨g4,4,none⟩=some (.slice (some ⟨r4,0,none⟩) n c4):=HR.out.b4.blk.cell (i:=4) rfl
    have BR:BT wS w.heap.size #[.slice none 0 0,.slice none 0 0,.slice none 0 0,.slice none 0 0,.slice none 0 0] 26:=HR.out.b2
    have x0:wS.cell? ⟨w.heap.size,0,none⟩=some (.slice none 0 0):=BR.blk.cell (i:=0) rfl
    have fz0:=BR.blk.frozen 0
    have x1:wS.cell? ⟨w.heap.size,1,none⟩=some (.slice none 0 0):=BR.blk.cell (i:=1) rfl
    have fz1:=BR.blk.frozen 1
    have x2:wS.cell? ⟨w.heap.size,2,none⟩=some (.slice none 0 0):=BR.blk.cell (i:=2) rfl
    have fz2:=BR.blk.frozen 2
    have x3:wS.cell? ⟨w.heap.size,3,none⟩=some (.slice none 0 0):=BR.blk.cell (i:=3) rfl
    have fz3:=BR.blk.frozen 3
    have x4:wS.cell? ⟨w.heap.size,4,none⟩=some (.slice none 0 0):=BR.blk.cell (i:=4) rfl
    have fz4:=BR.blk.frozen 4
    have BS:=set5 (a0:=.slice (some ⟨r0,0,none⟩) n c0) (a1:=.slice (some ⟨r1,0,none⟩) n c1) (a2:=.slice (some ⟨r2,0,none⟩) n c2) (a3:=.slice (some ⟨r3,0,none⟩) n c3) (a4:=.slice (some ⟨r4,0,none⟩) n c4) BR
    have P0:Hid (_=some (Value.slice (some ⟨r0,0,none⟩) n c0)):=BS.blk.cell (i:=0) rfl
    have P1:Hid (_=some (Value.slice (some ⟨r1,0,none⟩) n c1)):=BS.blk.cell (i:=1) rfl
    have P2:Hid (_=some (Value.slice (some ⟨r2,0,none⟩) n c2)):=BS.blk.cell (i:=2) rfl
    have P3:Hid (_=some (Value.slice (some ⟨r3,0,none⟩) n c3)):=BS.blk.cell (i:=3) rfl
    have P4:Hid (_=some (Value.slice (some ⟨r4,0,none⟩) n c4)):=BS.blk.cell (i:=4) rfl
    have HCF:Hid (Chg (λx=>x=w.heap.size) wS (((((wS.setCell ⟨w.heap.size,0,none⟩ (.slice (some ⟨r0,0,none⟩) n c0)).setCell ⟨w.heap.size,1,none⟩ (.slice (some ⟨r1,0,none⟩) n c1)).setCell ⟨w.heap.size,2,none⟩ (.slice (some ⟨r2,0,none⟩) n c2)).setCell ⟨w.heap.size,3,none⟩ (.slice (some ⟨r3,0,none⟩) n c3)).setCell ⟨w.heap.size,4,none⟩ (.slice (some ⟨r4,0,none⟩) n c4))):=chg5
    clear BS BR
    go_wp2
    generalize hWF:(((((wS.setCell ⟨w.heap.size,0,none⟩ (.slice (some ⟨r0,0,none⟩) n c0)).setCell ⟨w.heap.size,1,none⟩ (.slice (some ⟨r1,0,none⟩) n c1)).setCell ⟨w.heap.size,2,none⟩ (.slice (some ⟨r2,0,none⟩) n c2)).setCell ⟨w.heap.size,3,none⟩ (.slice (some ⟨r3,0,none⟩) n c3)).setCell ⟨w.heap.size,4,none⟩ (.slice (some ⟨r4,0,none⟩) n c4))=wF at P0 P1 P2 P3 P4 HCF ⊢
    have p0_:=P0.out
    have p1_:=P1.out
    have p2_:=P2.out
    have p3_:=P3.out
    have p4_:=P4.out
    refine bodyPost_ret (v:=.agg #[.slice (some ⟨r0,0,none⟩) n c0,.slice (some ⟨r1,0,none⟩) n c1,.slice (some ⟨r2,0,none⟩) n c2,.slice (some ⟨r3,0,none⟩) n c3,.slice (some ⟨r4,0,none⟩) n c4]) (by simp[results,Try.results8,go_sem,p0_,p1_,p2_,p3_,p4_]) rfl ?_
    rw[HO.out]
    exact⟨_,_,_,_,_,rfl,HR.out.lay HCF.out (by have h:=HL.out;refine⟨?_,?_,?_,?_,?_⟩<;>simp[h.l0,h.l1,h.l2,h.l3,h.l4]<;>omega)⟩
   ·have HO:Hid (daO auF S=({ B with la:=B.la.set i (wrap64 (iat B.la i+1)) },S9)):=by unfold Hid;rw[HO.out];rfl
    go_upto_region 18 with fail
    have HD:=mkHid' (H9.out.next (show Nx w9 w9.drew from(Below.refl _ _).drew))
    obtain⟨r',c',cs,e,-,-,hb,hcz⟩:=HD.out.o5.o1.open (by rw[HL.out.l1];omega)
    simp only[Value.slice.injEq,Option.some.injEq,Addr.mk.injEq] at e
    obtain⟨⟨rfl,-⟩,-⟩:=e
    have cz:=hcz i (by rw[HL.out.l1];exact hi)
    have fz:=hb.blk.frozen i
    have HR:Hid (AUs D b w.heap.size g4 w (w9.drew.setCell ⟨r1,i,none⟩ (.int .i64 (wrap64 (iat B.la i+1)))) S9 (.slice (some ⟨r0,0,none⟩) n c0) (.slice (some ⟨r1,0,none⟩) n c1) (.slice (some ⟨r2,0,none⟩) n c2) (.slice (some ⟨r3,0,none⟩) n c3) (.slice (some ⟨r4,0,none⟩) n c4) { B with la:=B.la.set i (wrap64 (iat B.la i+1)) }):=HD.out.s1 HL.out.l1 (by omega) i _
    clear hb hcz
    generalize iat B.la i=z at *
    have hwz:IntKind.i64.wrap (z+1)=wrap64 (z+1):=Go.IntWalk.i64_left _
    have HSS:Hid ((λq=>q.cell? ⟨g4,1,none⟩=some (.slice (some ⟨r1,0,none⟩) n c1)/\q.cell? ⟨r1,i,none⟩=some (.int .i64 z)) w9.drew):=⟨HD.out.b4.blk.cell (i:=1) rfl,cz⟩
    clear HD
    refine(wpIn_wide (n:=9)).1 ?_
    refine wpIn_region_S (c:=10) (S:=λq=>q.cell? ⟨g4,1,none⟩=some (.slice (some ⟨r1,0,none⟩) n c1)/\q.cell? ⟨r1,i,none⟩=some (.int .i64 z)) hmx (by kernel_rfl) (λhw hcl=>?_)
    generalize w9.drew=wd at *
    refine tq (i:=0) (v:=.pointer (some ⟨g4,1,none⟩)) (λhcl=>?_)
    refine tq (i:=1) (v:=.slice (some ⟨r1,0,none⟩) n c1) (λhcl=>?_)
    refine tq (i:=2) (v:=.int .i64 (i:Int)) (λhcl=>?_)
    refine tq (i:=3) (v:=.pointer (some ⟨g4,1,none⟩)) (λhcl=>?_)
    refine tq (i:=4) (v:=.slice (some ⟨r1,0,none⟩) n c1) (λhcl=>?_)
    refine tq (i:=5) (v:=.int .i64 (i:Int)) (λhcl=>?_)
    refine tq (i:=6) (v:=.pointer (some ⟨r1,i,none⟩)) (λhcl=>?_)
    refine tq (i:=7) (v:=.int .i64 z) (λhcl=>?_)
    refine tq (i:=8) (v:=.int .i64 (wrap64 (z+1))) (λhcl=>?_)
    refine tq (i:=9) (v:=.pointer (some ⟨r1,i,none⟩)) (λhcl=>?_)
    refine anyS_one (i:=10) (by kernel_rfl) (wpOpIn_step rfl (λK hK=>?_))
    go_simp
    refine hK _ _ ⟨Or.inl (by decide),?_⟩
    clear hK K
    refine anyS_done (by kernel_rfl) ?_ _
    clear hw hcl HSS cz fz
    clear hwz
    generalize wd.setCell ⟨r1,i,none⟩ (.int .i64 (wrap64 (z+1)))=wS at *
    have y0:wS.cell? ⟨g4,0,none⟩=some (.slice (some ⟨r0,0,none⟩) n c0):=HR.out.b4.blk.cell (i:=0) rfl
    have y1:wS.cell? ⟨g4,1,none⟩=some (.slice (some ⟨r1,0,none⟩) n c1):=HR.out.b4.blk.cell (i:=1) rfl
    have y2:wS.cell? ⟨g4,2,none⟩=some (.slice (some ⟨r2,0,none⟩) n c2):=HR.out.b4.blk.cell (i:=2) rfl
    have y3:wS.cell? ⟨g4,3,none⟩=some (.slice (some ⟨r3,0,none⟩) n c3):=HR.out.b4.blk.cell (i:=3) rfl
    have y4:wS.cell? ⟨g4,4,none⟩=some (.slice (some ⟨r4,0,none⟩) n c4):=HR.out.b4.blk.cell (i:=4) rfl
    have BR:BT wS w.heap.size #[.slice none 0 0,.slice none 0 0,.slice none 0 0,.slice none 0 0,.slice none 0 0] 26:=HR.out.b2
    have x0:wS.cell? ⟨w.heap.size,0,none⟩=some (.slice none 0 0):=BR.blk.cell (i:=0) rfl
    have fz0:=BR.blk.frozen 0
    have x1:wS.cell? ⟨w.heap.size,1,none⟩=some (.slice none 0 0):=BR.blk.cell (i:=1) rfl
    have fz1:=BR.blk.frozen 1
    have x2:wS.cell? ⟨w.heap.size,2,none⟩=some (.slice none 0 0):=BR.blk.cell (i:=2) rfl
    have fz2:=BR.blk.frozen 2
    have x3:wS.cell? ⟨w.heap.size,3,none⟩=some (.slice none 0 0):=BR.blk.cell (i:=3) rfl
    have fz3:=BR.blk.frozen 3
    have x4:wS.cell? ⟨w.heap.size,4,none⟩=some (.slice none 0 0):=BR.blk.cell (i:=4) rfl
    have fz4:=BR.blk.frozen 4
    have BS:=set5 (a0:=.slice (some ⟨r0,0,none⟩) n c0) (a1:=.slice (some ⟨r1,0,none⟩) n c1) (a2:=.slice (some ⟨r2,0,none⟩) n c2) (a3:=.slice (some ⟨r3,0,none⟩) n c3) (a4:=.slice (some ⟨r4,0,none⟩) n c4) BR
    have P0:Hid (_=some (Value.slice (some ⟨r0,0,none⟩) n c0)):=BS.blk.cell (i:=0) rfl
    have P1:Hid (_=some (Value.slice (some ⟨r1,0,none⟩) n c1)):=BS.blk.cell (i:=1) rfl
    have P2:Hid (_=some (Value.slice (some ⟨r2,0,none⟩) n c2)):=BS.blk.cell (i:=2) rfl
    have P3:Hid (_=some (Value.slice (some ⟨r3,0,none⟩) n c3)):=BS.blk.cell (i:=3) rfl
    have P4:Hid (_=some (Value.slice (some ⟨r4,0,none⟩) n c4)):=BS.blk.cell (i:=4) rfl
    have HCF:Hid (Chg (λx=>x=w.heap.size) wS (((((wS.setCell ⟨w.heap.size,0,none⟩ (.slice (some ⟨r0,0,none⟩) n c0)).setCell ⟨w.heap.size,1,none⟩ (.slice (some ⟨r1,0,none⟩) n c1)).setCell ⟨w.heap.size,2,none⟩ (.slice (some ⟨r2,0,none⟩) n c2)).setCell ⟨w.heap.size,3,none⟩ (.slice (some ⟨r3,0,none⟩) n c3)).setCell ⟨w.heap.size,4,none⟩ (.slice (some ⟨r4,0,none⟩) n c4))):=chg5
    clear BS BR
    go_wp2
    generalize hWF:(((((wS.setCell ⟨w.heap.size,0,none⟩ (.slice (some ⟨r0,0,none⟩) n c0)).setCell ⟨w.heap.size,1,none⟩ (.slice (some ⟨r1,0,none⟩) n c1)).setCell ⟨w.heap.size,2,none⟩ (.slice (some ⟨r2,0,none⟩) n c2)).setCell ⟨w.heap.size,3,none⟩ (.slice (some ⟨r3,0,none⟩) n c3)).setCell ⟨w.heap.size,4,none⟩ (.slice (some ⟨r4,0,none⟩) n c4))=wF at P0 P1 P2 P3 P4 HCF ⊢
    have p0_:=P0.out
    have p1_:=P1.out
    have p2_:=P2.out
    have p3_:=P3.out
    have p4_:=P4.out
    refine bodyPost_ret (v:=.agg #[.slice (some ⟨r0,0,none⟩) n c0,.slice (some ⟨r1,0,none⟩) n c1,.slice (some ⟨r2,0,none⟩) n c2,.slice (some ⟨r3,0,none⟩) n c3,.slice (some ⟨r4,0,none⟩) n c4]) (by simp[results,Try.results8,go_sem,p0_,p1_,p2_,p3_,p4_]) rfl ?_
    rw[HO.out]
    exact⟨_,_,_,_,_,rfl,HR.out.lay HCF.out (by have h:=HL.out;refine⟨?_,?_,?_,?_,?_⟩<;>simp[h.l0,h.l1,h.l2,h.l3,h.l4]<;>omega)⟩
   ·have HO:Hid (daO auF S=({ B with la:=B.la.set i (wrap64 (iat B.la i+1)) },S9)):=by unfold Hid;rw[HO.out];rfl
    go_upto_region 18 with fail
    have HD:=mkHid' (H9.out.next (show Nx w9 w9.drew from(Below.refl _ _).drew))
    obtain⟨r',c',cs,e,-,-,hb,hcz⟩:=HD.out.o5.o1.open (by rw[HL.out.l1];omega)
    simp only[Value.slice.injEq,Option.some.injEq,Addr.mk.injEq] at e
    obtain⟨⟨rfl,-⟩,-⟩:=e
    have cz:=hcz i (by rw[HL.out.l1];exact hi)
    have fz:=hb.blk.frozen i
    have HR:Hid (AUs D b w.heap.size g4 w (w9.drew.setCell ⟨r1,i,none⟩ (.int .i64 (wrap64 (iat B.la i+1)))) S9 (.slice (some ⟨r0,0,none⟩) n c0) (.slice (some ⟨r1,0,none⟩) n c1) (.slice (some ⟨r2,0,none⟩) n c2) (.slice (some ⟨r3,0,none⟩) n c3) (.slice (some ⟨r4,0,none⟩) n c4) { B with la:=B.la.set i (wrap64 (iat B.la i+1)) }):=HD.out.s1 HL.out.l1 (by omega) i _
    clear hb hcz
    generalize iat B.la i=z at *
    have hwz:IntKind.i64.wrap (z+1)=wrap64 (z+1):=Go.IntWalk.i64_left _
    have HSS:Hid ((λq=>q.cell? ⟨g4,1,none⟩=some (.slice (some ⟨r1,0,none⟩) n c1)/\q.cell? ⟨r1,i,none⟩=some (.int .i64 z)) w9.drew):=⟨HD.out.b4.blk.cell (i:=1) rfl,cz⟩
    clear HD
    refine(wpIn_wide (n:=9)).1 ?_
    refine wpIn_region_S (c:=10) (S:=λq=>q.cell? ⟨g4,1,none⟩=some (.slice (some ⟨r1,0,none⟩) n c1)/\q.cell? ⟨r1,i,none⟩=some (.int .i64 z)) hmx (by kernel_rfl) (λhw hcl=>?_)
    generalize w9.drew=wd at *
    refine tq (i:=0) (v:=.pointer (some ⟨g4,1,none⟩)) (λhcl=>?_)
    refine tq (i:=1) (v:=.slice (some ⟨r1,0,none⟩) n c1) (λhcl=>?_)
    refine tq (i:=2) (v:=.int .i64 (i:Int)) (λhcl=>?_)
    refine tq (i:=3) (v:=.pointer (some ⟨g4,1,none⟩)) (λhcl=>?_)
    refine tq (i:=4) (v:=.slice (some ⟨r1,0,none⟩) n c1) (λhcl=>?_)
    refine tq (i:=5) (v:=.int .i64 (i:Int)) (λhcl=>?_)
    refine tq (i:=6) (v:=.pointer (some ⟨r1,i,none⟩)) (λhcl=>?_)
    refine tq (i:=7) (v:=.int .i64 z) (λhcl=>?_)
    refine tq (i:=8) (v:=.int .i64 (wrap64 (z+1))) (λhcl=>?_)
    refine tq (i:=9) (v:=.pointer (some ⟨r1,i,none⟩)) (λhcl=>?_)
    refine anyS_one (i:=10) (by kernel_rfl) (wpOpIn_step rfl (λK hK=>?_))
    go_simp
    refine hK _ _ ⟨Or.inl (by decide),?_⟩
    clear hK K
    refine anyS_done (by kernel_rfl) ?_ _
    clear hw hcl HSS cz fz
    clear hwz
    generalize wd.setCell ⟨r1,i,none⟩ (.int .i64 (wrap64 (z+1)))=wS at *
    have y0:wS.cell? ⟨g4,0,none⟩=some (.slice (some ⟨r0,0,none⟩) n c0):=HR.out.b4.blk.cell (i:=0) rfl
    have y1:wS.cell? ⟨g4,1,none⟩=some (.slice (some ⟨r1,0,none⟩) n c1):=HR.out.b4.blk.cell (i:=1) rfl
    have y2:wS.cell? ⟨g4,2,none⟩=some (.slice (some ⟨r2,0,none⟩) n c2):=HR.out.b4.blk.cell (i:=2) rfl
    have y3:wS.cell? ⟨g4,3,none⟩=some (.slice (some ⟨r3,0,none⟩) n c3):=HR.out.b4.blk.cell (i:=3) rfl
    have y4:wS.cell? ⟨g4,4,none⟩=some (.slice (some ⟨r4,0,none⟩) n c4):=HR.out.b4.blk.cell (i:=4) rfl
    have BR:BT wS w.heap.size #[.slice none 0 0,.slice none 0 0,.slice none 0 0,.slice none 0 0,.slice none 0 0] 26:=HR.out.b2
    have x0:wS.cell? ⟨w.heap.size,0,none⟩=some (.slice none 0 0):=BR.blk.cell (i:=0) rfl
    have fz0:=BR.blk.frozen 0
    have x1:wS.cell? ⟨w.heap.size,1,none⟩=some (.slice none 0 0):=BR.blk.cell (i:=1) rfl
    have fz1:=BR.blk.frozen 1
    have x2:wS.cell? ⟨w.heap.size,2,none⟩=some (.slice none 0 0):=BR.blk.cell (i:=2) rfl
    have fz2:=BR.blk.frozen 2
    have x3:wS.cell? ⟨w.heap.size,3,none⟩=some (.slice none 0 0):=BR.blk.cell (i:=3) rfl
    have fz3:=BR.blk.frozen 3
    have x4:wS.cell? ⟨w.heap.size,4,none⟩=some (.slice none 0 0):=BR.blk.cell (i:=4) rfl
    have fz4:=BR.blk.frozen 4
    have BS:=set5 (a0:=.slice (some ⟨r0,0,none⟩) n c0) (a1:=.slice (some ⟨r1,0,none⟩) n c1) (a2:=.slice (some ⟨r2,0,none⟩) n c2) (a3:=.slice (some ⟨r3,0,none⟩) n c3) (a4:=.slice (some ⟨r4,0,none⟩) n c4) BR
    have P0:Hid (_=some (Value.slice (some ⟨r0,0,none⟩) n c0)):=BS.blk.cell (i:=0) rfl
    have P1:Hid (_=some (Value.slice (some ⟨r1,0,none⟩) n c1)):=BS.blk.cell (i:=1) rfl
    have P2:Hid (_=some (Value.slice (some ⟨r2,0,none⟩) n c2)):=BS.blk.cell (i:=2) rfl
    have P3:Hid (_=some (Value.slice (some ⟨r3,0,none⟩) n c3)):=BS.blk.cell (i:=3) rfl
    have P4:Hid (_=some (Value.slice (some ⟨r4,0,none⟩) n c4)):=BS.blk.cell (i:=4) rfl
    have HCF:Hid (Chg (λx=>x=w.heap.size) wS (((((wS.setCell ⟨w.heap.size,0,none⟩ (.slice (some ⟨r0,0,none⟩) n c0)).setCell ⟨w.heap.size,1,none⟩ (.slice (some ⟨r1,0,none⟩) n c1)).setCell ⟨w.heap.size,2,none⟩ (.slice (some ⟨r2,0,none⟩) n c2)).setCell ⟨w.heap.size,3,none⟩ (.slice (some ⟨r3,0,none⟩) n c3)).setCell ⟨w.heap.size,4,none⟩ (.slice (some ⟨r4,0,none⟩) n c4))):=chg5
    clear BS BR
    go_wp2
    generalize hWF:(((((wS.setCell ⟨w.heap.size,0,none⟩ (.slice (some ⟨r0,0,none⟩) n c0)).setCell ⟨w.heap.size,1,none⟩ (.slice (some ⟨r1,0,none⟩) n c1)).setCell ⟨w.heap.size,2,none⟩ (.slice (some ⟨r2,0,none⟩) n c2)).setCell ⟨w.heap.size,3,none⟩ (.slice (some ⟨r3,0,none⟩) n c3)).setCell ⟨w.heap.size,4,none⟩ (.slice (some ⟨r4,0,none⟩) n c4))=wF at P0 P1 P2 P3 P4 HCF ⊢
    have p0_:=P0.out
    have p1_:=P1.out
    have p2_:=P2.out
    have p3_:=P3.out
    have p4_:=P4.out
    refine bodyPost_ret (v:=.agg #[.slice (some ⟨r0,0,none⟩) n c0,.slice (some ⟨r1,0,none⟩) n c1,.slice (some ⟨r2,0,none⟩) n c2,.slice (some ⟨r3,0,none⟩) n c3,.slice (some ⟨r4,0,none⟩) n c4]) (by simp[results,Try.results8,go_sem,p0_,p1_,p2_,p3_,p4_]) rfl ?_
    rw[HO.out]
    exact⟨_,_,_,_,_,rfl,HR.out.lay HCF.out (by have h:=HL.out;refine⟨?_,?_,?_,?_,?_⟩<;>simp[h.l0,h.l1,h.l2,h.l3,h.l4]<;>omega)⟩
   ·have HO:Hid (daO auF S=({ B with fa:=B.fa.set i (wrap64 (iat B.fa i+1)) },S9)):=by unfold Hid;rw[HO.out];rfl
    go_upto_region 20 with fail
    have HD:=mkHid' (H9.out.next (show Nx w9 w9.drew from(Below.refl _ _).drew))
    obtain⟨r',c',cs,e,-,-,hb,hcz⟩:=HD.out.o5.o2.open (by rw[HL.out.l2];omega)
    simp only[Value.slice.injEq,Option.some.injEq,Addr.mk.injEq] at e
    obtain⟨⟨rfl,-⟩,-⟩:=e
    have cz:=hcz i (by rw[HL.out.l2];exact hi)
    have fz:=hb.blk.frozen i
    have HR:Hid (AUs D b w.heap.size g4 w (w9.drew.setCell ⟨r2,i,none⟩ (.int .i64 (wrap64 (iat B.fa i+1)))) S9 (.slice (some ⟨r0,0,none⟩) n c0) (.slice (some ⟨r1,0,none⟩) n c1) (.slice (some ⟨r2,0,none⟩) n c2) (.slice (some ⟨r3,0,none⟩) n c3) (.slice (some ⟨r4,0,none⟩) n c4) { B with fa:=B.fa.set i (wrap64 (iat B.fa i+1)) }):=HD.out.s2 HL.out.l2 (by omega) i _
    clear hb hcz
    generalize iat B.fa i=z at *
    have hwz:IntKind.i64.wrap (z+1)=wrap64 (z+1):=Go.IntWalk.i64_left _
    have HSS:Hid ((λq=>q.cell? ⟨g4,2,none⟩=some (.slice (some ⟨r2,0,none⟩) n c2)/\q.cell? ⟨r2,i,none⟩=some (.int .i64 z)) w9.drew):=⟨HD.out.b4.blk.cell (i:=2) rfl,cz⟩
    clear HD
    refine(wpIn_wide (n:=9)).1 ?_
    refine wpIn_region_S (c:=10) (S:=λq=>q.cell? ⟨g4,2,none⟩=some (.slice (some ⟨r2,0,none⟩) n c2)/\q.cell? ⟨r2,i,none⟩=some (.int .i64 z)) hmx (by kernel_rfl) (λhw hcl=>?_)
    generalize w9.drew=wd at *
    refine tq (i:=0) (v:=.pointer (some ⟨g4,2,none⟩)) (λhcl=>?_)
    refine tq (i:=1) (v:=.slice (some ⟨r2,0,none⟩) n c2) (λhcl=>?_)
    refine tq (i:=2) (v:=.int .i64 (i:Int)) (λhcl=>?_)
    refine tq (i:=3) (v:=.pointer (some ⟨g4,2,none⟩)) (λhcl=>?_)
    refine tq (i:=4) (v:=.slice (some ⟨r2,0,none⟩) n c2) (λhcl=>?_)
    refine tq (i:=5) (v:=.int .i64 (i:Int)) (λhcl=>?_)
    refine tq (i:=6) (v:=.pointer (some ⟨r2,i,none⟩)) (λhcl=>?_)
    refine tq (i:=7) (v:=.int .i64 z) (λhcl=>?_)
    refine tq (i:=8) (v:=.int .i64 (wrap64 (z+1))) (λhcl=>?_)
    refine tq (i:=9) (v:=.pointer (some ⟨r2,i,none⟩)) (λhcl=>?_)
    refine anyS_one (i:=10) (by kernel_rfl) (wpOpIn_step rfl (λK hK=>?_))
    go_simp
    refine hK _ _ ⟨Or.inl (by decide),?_⟩
    clear hK K
    refine anyS_done (by kernel_rfl) ?_ _
    clear hw hcl HSS cz fz
    clear hwz
    generalize wd.setCell ⟨r2,i,none⟩ (.int .i64 (wrap64 (z+1)))=wS at *
    have y0:wS.cell? ⟨g4,0,none⟩=some (.slice (some ⟨r0,0,none⟩) n c0):=HR.out.b4.blk.cell (i:=0) rfl
    have y1:wS.cell? ⟨g4,1,none⟩=some (.slice (some ⟨r1,0,none⟩) n c1):=HR.out.b4.blk.cell (i:=1) rfl
    have y2:wS.cell? ⟨g4,2,none⟩=some (.slice (some ⟨r2,0,none⟩) n c2):=HR.out.b4.blk.cell (i:=2) rfl
    have y3:wS.cell? ⟨g4,3,none⟩=some (.slice (some ⟨r3,0,none⟩) n c3):=HR.out.b4.blk.cell (i:=3) rfl
    have y4:wS.cell? ⟨g4,4,none⟩=some (.slice (some ⟨r4,0,none⟩) n c4):=HR.out.b4.blk.cell (i:=4) rfl
    have BR:BT wS w.heap.size #[.slice none 0 0,.slice none 0 0,.slice none 0 0,.slice none 0 0,.slice none 0 0] 26:=HR.out.b2
    have x0:wS.cell? ⟨w.heap.size,0,none⟩=some (.slice none 0 0):=BR.blk.cell (i:=0) rfl
    have fz0:=BR.blk.frozen 0
    have x1:wS.cell? ⟨w.heap.size,1,none⟩=some (.slice none 0 0):=BR.blk.cell (i:=1) rfl
    have fz1:=BR.blk.frozen 1
    have x2:wS.cell? ⟨w.heap.size,2,none⟩=some (.slice none 0 0):=BR.blk.cell (i:=2) rfl
    have fz2:=BR.blk.frozen 2
    have x3:wS.cell? ⟨w.heap.size,3,none⟩=some (.slice none 0 0):=BR.blk.cell (i:=3) rfl
    have fz3:=BR.blk.frozen 3
    have x4:wS.cell? ⟨w.heap.size,4,none⟩=some (.slice none 0 0):=BR.blk.cell (i:=4) rfl
    have fz4:=BR.blk.frozen 4
    have BS:=set5 (a0:=.slice (some ⟨r0,0,none⟩) n c0) (a1:=.slice (some ⟨r1,0,none⟩) n c1) (a2:=.slice (some ⟨r2,0,none⟩) n c2) (a3:=.slice (some ⟨r3,0,none⟩) n c3) (a4:=.slice (some ⟨r4,0,none⟩) n c4) BR
    have P0:Hid (_=some (Value.slice (some ⟨r0,0,none⟩) n c0)):=BS.blk.cell (i:=0) rfl
    have P1:Hid (_=some (Value.slice (some ⟨r1,0,none⟩) n c1)):=BS.blk.cell (i:=1) rfl
    have P2:Hid (_=some (Value.slice (some ⟨r2,0,none⟩) n c2)):=BS.blk.cell (i:=2) rfl
    have P3:Hid (_=some (Value.slice (some ⟨r3,0,none⟩) n c3)):=BS.blk.cell (i:=3) rfl
    have P4:Hid (_=some (Value.slice (some ⟨r4,0,none⟩) n c4)):=BS.blk.cell (i:=4) rfl
    have HCF:Hid (Chg (λx=>x=w.heap.size) wS (((((wS.setCell ⟨w.heap.size,0,none⟩ (.slice (some ⟨r0,0,none⟩) n c0)).setCell ⟨w.heap.size,1,none⟩ (.slice (some ⟨r1,0,none⟩) n c1)).setCell ⟨w.heap.size,2,none⟩ (.slice (some ⟨r2,0,none⟩) n c2)).setCell ⟨w.heap.size,3,none⟩ (.slice (some ⟨r3,0,none⟩) n c3)).setCell ⟨w.heap.size,4,none⟩ (.slice (some ⟨r4,0,none⟩) n c4))):=chg5
    clear BS BR
    go_wp2
    generalize hWF:(((((wS.setCell ⟨w.heap.size,0,none⟩ (.slice (some ⟨r0,0,none⟩) n c0)).setCell ⟨w.heap.size,1,none⟩ (.slice (some ⟨r1,0,none⟩) n c1)).setCell ⟨w.heap.size,2,none⟩ (.slice (some ⟨r2,0,none⟩) n c2)).setCell ⟨w.heap.size,3,none⟩ (.slice (some ⟨r3,0,none⟩) n c3)).setCell ⟨w.heap.size,4,none⟩ (.slice (some ⟨r4,0,none⟩) n c4))=wF at P0 P1 P2 P3 P4 HCF ⊢
    have p0_:=P0.out
    have p1_:=P1.out
    have p2_:=P2.out
    have p3_:=P3.out
    have p4_:=P4.out
    refine bodyPost_ret (v:=.agg #[.slice (some ⟨r0,0,none⟩) n c0,.slice (some ⟨r1,0,none⟩) n c1,.slice (some ⟨r2,0,none⟩) n c2,.slice (some ⟨r3,0,none⟩) n c3,.slice (some ⟨r4,0,none⟩) n c4]) (by simp[results,Try.results8,go_sem,p0_,p1_,p2_,p3_,p4_]) rfl ?_
    rw[HO.out]
    exact⟨_,_,_,_,_,rfl,HR.out.lay HCF.out (by have h:=HL.out;refine⟨?_,?_,?_,?_,?_⟩<;>simp[h.l0,h.l1,h.l2,h.l3,h.l4]<;>omega)⟩
   ·have HO:Hid (daO auF S=({ B with fa:=B.fa.set i (wrap64 (iat B.fa i+1)) },S9)):=by unfold Hid;rw[HO.out];rfl
    go_upto_region 20 with fail
    have HD:=mkHid' (H9.out.next (show Nx w9 w9.drew from(Below.refl _ _).drew))
    obtain⟨r',c',cs,e,-,-,hb,hcz⟩:=HD.out.o5.o2.open (by rw[HL.out.l2];omega)
    simp only[Value.slice.injEq,Option.some.injEq,Addr.mk.injEq] at e
    obtain⟨⟨rfl,-⟩,-⟩:=e
    have cz:=hcz i (by rw[HL.out.l2];exact hi)
    have fz:=hb.blk.frozen i
    have HR:Hid (AUs D b w.heap.size g4 w (w9.drew.setCell ⟨r2,i,none⟩ (.int .i64 (wrap64 (iat B.fa i+1)))) S9 (.slice (some ⟨r0,0,none⟩) n c0) (.slice (some ⟨r1,0,none⟩) n c1) (.slice (some ⟨r2,0,none⟩) n c2) (.slice (some ⟨r3,0,none⟩) n c3) (.slice (some ⟨r4,0,none⟩) n c4) { B with fa:=B.fa.set i (wrap64 (iat B.fa i+1)) }):=HD.out.s2 HL.out.l2 (by omega) i _
    clear hb hcz
    generalize iat B.fa i=z at *
    have hwz:IntKind.i64.wrap (z+1)=wrap64 (z+1):=Go.IntWalk.i64_left _
    have HSS:Hid ((λq=>q.cell? ⟨g4,2,none⟩=some (.slice (some ⟨r2,0,none⟩) n c2)/\q.cell? ⟨r2,i,none⟩=some (.int .i64 z)) w9.drew):=⟨HD.out.b4.blk.cell (i:=2) rfl,cz⟩
    clear HD
    refine(wpIn_wide (n:=9)).1 ?_
    refine wpIn_region_S (c:=10) (S:=λq=>q.cell? ⟨g4,2,none⟩=some (.slice (some ⟨r2,0,none⟩) n c2)/\q.cell? ⟨r2,i,none⟩=some (.int .i64 z)) hmx (by kernel_rfl) (λhw hcl=>?_)
    generalize w9.drew=wd at *
    refine tq (i:=0) (v:=.pointer (some ⟨g4,2,none⟩)) (λhcl=>?_)
    refine tq (i:=1) (v:=.slice (some ⟨r2,0,none⟩) n c2) (λhcl=>?_)
    refine tq (i:=2) (v:=.int .i64 (i:Int)) (λhcl=>?_)
    refine tq (i:=3) (v:=.pointer (some ⟨g4,2,none⟩)) (λhcl=>?_)
    refine tq (i:=4) (v:=.slice (some ⟨r2,0,none⟩) n c2) (λhcl=>?_)
    refine tq (i:=5) (v:=.int .i64 (i:Int)) (λhcl=>?_)
    refine tq (i:=6) (v:=.pointer (some ⟨r2,i,none⟩)) (λhcl=>?_)
    refine tq (i:=7) (v:=.int .i64 z) (λhcl=>?_)
    refine tq (i:=8) (v:=.int .i64 (wrap64 (z+1))) (λhcl=>?_)
    refine tq (i:=9) (v:=.pointer (some ⟨r2,i,none⟩)) (λhcl=>?_)
    refine anyS_one (i:=10) (by kernel_rfl) (wpOpIn_step rfl (λK hK=>?_))
    go_simp
    refine hK _ _ ⟨Or.inl (by decide),?_⟩
    clear hK K
    refine anyS_done (by kernel_rfl) ?_ _
    clear hw hcl HSS cz fz
    clear hwz
    generalize wd.setCell ⟨r2,i,none⟩ (.int .i64 (wrap64 (z+1)))=wS at *
    have y0:wS.cell? ⟨g4,0,none⟩=some (.slice (some ⟨r0,0,none⟩) n c0):=HR.out.b4.blk.cell (i:=0) rfl
    have y1:wS.cell? ⟨g4,1,none⟩=some (.slice (some ⟨r1,0,none⟩) n c1):=HR.out.b4.blk.cell (i:=1) rfl
    have y2:wS.cell? ⟨g4,2,none⟩=some (.slice (some ⟨r2,0,none⟩) n c2):=HR.out.b4.blk.cell (i:=2) rfl
    have y3:wS.cell? ⟨g4,3,none⟩=some (.slice (some ⟨r3,0,none⟩) n c3):=HR.out.b4.blk.cell (i:=3) rfl
    have y4:wS.cell? ⟨g4,4,none⟩=some (.slice (some ⟨r4,0,none⟩) n c4):=HR.out.b4.blk.cell (i:=4) rfl
    have BR:BT wS w.heap.size #[.slice none 0 0,.slice none 0 0,.slice none 0 0,.slice none 0 0,.slice none 0 0] 26:=HR.out.b2
    have x0:wS.cell? ⟨w.heap.size,0,none⟩=some (.slice none 0 0):=BR.blk.cell (i:=0) rfl
    have fz0:=BR.blk.frozen 0
    have x1:wS.cell? ⟨w.heap.size,1,none⟩=some (.slice none 0 0):=BR.blk.cell (i:=1) rfl
    have fz1:=BR.blk.frozen 1
    have x2:wS.cell? ⟨w.heap.size,2,none⟩=some (.slice none 0 0):=BR.blk.cell (i:=2) rfl
    have fz2:=BR.blk.frozen 2
    have x3:wS.cell? ⟨w.heap.size,3,none⟩=some (.slice none 0 0):=BR.blk.cell (i:=3) rfl
    have fz3:=BR.blk.frozen 3
    have x4:wS.cell? ⟨w.heap.size,4,none⟩=some (.slice none 0 0):=BR.blk.cell (i:=4) rfl
    have fz4:=BR.blk.frozen 4
    have BS:=set5 (a0:=.slice (some ⟨r0,0,none⟩) n c0) (a1:=.slice (some ⟨r1,0,none⟩) n c1) (a2:=.slice (some ⟨r2,0,none⟩) n c2) (a3:=.slice (some ⟨r3,0,none⟩) n c3) (a4:=.slice (some ⟨r4,0,none⟩) n c4) BR
    have P0:Hid (_=some (Value.slice (some ⟨r0,0,none⟩) n c0)):=BS.blk.cell (i:=0) rfl
    have P1:Hid (_=some (Value.slice (some ⟨r1,0,none⟩) n c1)):=BS.blk.cell (i:=1) rfl
    have P2:Hid (_=some (Value.slice (some ⟨r2,0,none⟩) n c2)):=BS.blk.cell (i:=2) rfl
    have P3:Hid (_=some (Value.slice (some ⟨r3,0,none⟩) n c3)):=BS.blk.cell (i:=3) rfl
    have P4:Hid (_=some (Value.slice (some ⟨r4,0,none⟩) n c4)):=BS.blk.cell (i:=4) rfl
    have HCF:Hid (Chg (λx=>x=w.heap.size) wS (((((wS.setCell ⟨w.heap.size,0,none⟩ (.slice (some ⟨r0,0,none⟩) n c0)).setCell ⟨w.heap.size,1,none⟩ (.slice (some ⟨r1,0,none⟩) n c1)).setCell ⟨w.heap.size,2,none⟩ (.slice (some ⟨r2,0,none⟩) n c2)).setCell ⟨w.heap.size,3,none⟩ (.slice (some ⟨r3,0,none⟩) n c3)).setCell ⟨w.heap.size,4,none⟩ (.slice (some ⟨r4,0,none⟩) n c4))):=chg5
    clear BS BR
    go_wp2
    generalize hWF:(((((wS.setCell ⟨w.heap.size,0,none⟩ (.slice (some ⟨r0,0,none⟩) n c0)).setCell ⟨w.heap.size,1,none⟩ (.slice (some ⟨r1,0,none⟩) n c1)).setCell ⟨w.heap.size,2,none⟩ (.slice (some ⟨r2,0,none⟩) n c2)).setCell ⟨w.heap.size,3,none⟩ (.slice (some ⟨r3,0,none⟩) n c3)).setCell ⟨w.heap.size,4,none⟩ (.slice (some ⟨r4,0,none⟩) n c4))=wF at P0 P1 P2 P3 P4 HCF ⊢
    have p0_:=P0.out
    have p1_:=P1.out
    have p2_:=P2.out
    have p3_:=P3.out
    have p4_:=P4.out
    refine bodyPost_ret (v:=.agg #[.slice (some ⟨r0,0,none⟩) n c0,.slice (some ⟨r1,0,none⟩) n c1,.slice (some ⟨r2,0,none⟩) n c2,.slice (some ⟨r3,0,none⟩) n c3,.slice (some ⟨r4,0,none⟩) n c4]) (by simp[results,Try.results8,go_sem,p0_,p1_,p2_,p3_,p4_]) rfl ?_
    rw[HO.out]
    exact⟨_,_,_,_,_,rfl,HR.out.lay HCF.out (by have h:=HL.out;refine⟨?_,?_,?_,?_,?_⟩<;>simp[h.l0,h.l1,h.l2,h.l3,h.l4]<;>omega)⟩
   ·have HO:Hid (daO auF S=if 0<i then ({ B with fa:=B.fa.set i 0 },S9) else (B,S9)):=by unfold Hid;rw[HO.out];rfl
    by_cases h0:0<i
    ·rw[if_pos h0] at HO
     have h0':(0:Int)<(i:Int):=by omega
     obtain⟨r',c',cs,e,-,-,hb,hcz⟩:=H9.out.o5.o2.open (by rw[HL.out.l2];omega)
     simp only[Value.slice.injEq,Option.some.injEq,Addr.mk.injEq] at e
     obtain⟨⟨rfl,-⟩,-⟩:=e
     have cz:=hcz i (by rw[HL.out.l2];exact hi)
     have fz:=hb.blk.frozen i
     have y2:w9.cell? ⟨g4,2,none⟩=some (.slice (some ⟨r2,0,none⟩) n c2):=H9.out.b4.blk.cell (i:=2) rfl
     have HR:Hid (AUs D b w.heap.size g4 w (w9.setCell ⟨r2,i,none⟩ (.int .i64 0)) S9 (.slice (some ⟨r0,0,none⟩) n c0) (.slice (some ⟨r1,0,none⟩) n c1) (.slice (some ⟨r2,0,none⟩) n c2) (.slice (some ⟨r3,0,none⟩) n c3) (.slice (some ⟨r4,0,none⟩) n c4) { B with fa:=B.fa.set i 0 }):=H9.out.s2 HL.out.l2 (by omega) i _
     clear hb hcz
     generalize iat B.fa i=z at *
     go_upto_region 23 with fail
     clear y2 cz fz
     generalize w9.setCell ⟨r2,i,none⟩ (.int .i64 0)=wS at *
     have y0:wS.cell? ⟨g4,0,none⟩=some (.slice (some ⟨r0,0,none⟩) n c0):=HR.out.b4.blk.cell (i:=0) rfl
     have y1:wS.cell? ⟨g4,1,none⟩=some (.slice (some ⟨r1,0,none⟩) n c1):=HR.out.b4.blk.cell (i:=1) rfl
     have y2:wS.cell? ⟨g4,2,none⟩=some (.slice (some ⟨r2,0,none⟩) n c2):=HR.out.b4.blk.cell (i:=2) rfl
     have y3:wS.cell? ⟨g4,3,none⟩=some (.slice (some ⟨r3,0,none⟩) n c3):=HR.out.b4.blk.cell (i:=3) rfl
     have y4:wS.cell? ⟨g4,4,none⟩=some (.slice (some ⟨r4,0,none⟩) n c4):=HR.out.b4.blk.cell (i:=4) rfl
     have BR:BT wS w.heap.size #[.slice none 0 0,.slice none 0 0,.slice none 0 0,.slice none 0 0,.slice none 0 0] 26:=HR.out.b2
     have x0:wS.cell? ⟨w.heap.size,0,none⟩=some (.slice none 0 0):=BR.blk.cell (i:=0) rfl
     have fz0:=BR.blk.frozen 0
     have x1:wS.cell? ⟨w.heap.size,1,none⟩=some (.slice none 0 0):=BR.blk.cell (i:=1) rfl
     have fz1:=BR.blk.frozen 1
     have x2:wS.cell? ⟨w.heap.size,2,none⟩=some (.slice none 0 0):=BR.blk.cell (i:=2) rfl
     have fz2:=BR.blk.frozen 2
     have x3:wS.cell? ⟨w.heap.size,3,none⟩=some (.slice none 0 0):=BR.blk.cell (i:=3) rfl
     have fz3:=BR.blk.frozen 3
     have x4:wS.cell? ⟨w.heap.size,4,none⟩=some (.slice none 0 0):=BR.blk.cell (i:=4) rfl
     have fz4:=BR.blk.frozen 4
     have BS:=set5 (a0:=.slice (some ⟨r0,0,none⟩) n c0) (a1:=.slice (some ⟨r1,0,none⟩) n c1) (a2:=.slice (some ⟨r2,0,none⟩) n c2) (a3:=.slice (some ⟨r3,0,none⟩) n c3) (a4:=.slice (some ⟨r4,0,none⟩) n c4) BR
     have P0:Hid (_=some (Value.slice (some ⟨r0,0,none⟩) n c0)):=BS.blk.cell (i:=0) rfl
     have P1:Hid (_=some (Value.slice (some ⟨r1,0,none⟩) n c1)):=BS.blk.cell (i:=1) rfl
     have P2:Hid (_=some (Value.slice (some ⟨r2,0,none⟩) n c2)):=BS.blk.cell (i:=2) rfl
     have P3:Hid (_=some (Value.slice (some ⟨r3,0,none⟩) n c3)):=BS.blk.cell (i:=3) rfl
     have P4:Hid (_=some (Value.slice (some ⟨r4,0,none⟩) n c4)):=BS.blk.cell (i:=4) rfl
     have HCF:Hid (Chg (λx=>x=w.heap.size) wS (((((wS.setCell ⟨w.heap.size,0,none⟩ (.slice (some ⟨r0,0,none⟩) n c0)).setCell ⟨w.heap.size,1,none⟩ (.slice (some ⟨r1,0,none⟩) n c1)).setCell ⟨w.heap.size,2,none⟩ (.slice (some ⟨r2,0,none⟩) n c2)).setCell ⟨w.heap.size,3,none⟩ (.slice (some ⟨r3,0,none⟩) n c3)).setCell ⟨w.heap.size,4,none⟩ (.slice (some ⟨r4,0,none⟩) n c4))):=chg5
     clear BS BR
     go_wp2
     generalize hWF:(((((wS.setCell ⟨w.heap.size,0,none⟩ (.slice (some ⟨r0,0,none⟩) n c0)).setCell ⟨w.heap.size,1,none⟩ (.slice (some ⟨r1,0,none⟩) n c1)).setCell ⟨w.heap.size,2,none⟩ (.slice (some ⟨r2,0,none⟩) n c2)).setCell ⟨w.heap.size,3,none⟩ (.slice (some ⟨r3,0,none⟩) n c3)).setCell ⟨w.heap.size,4,none⟩ (.slice (some ⟨r4,0,none⟩) n c4))=wF at P0 P1 P2 P3 P4 HCF ⊢
     have p0_:=P0.out
     have p1_:=P1.out
     have p2_:=P2.out
     have p3_:=P3.out
     have p4_:=P4.out
     refine bodyPost_ret (v:=.agg #[.slice (some ⟨r0,0,none⟩) n c0,.slice (some ⟨r1,0,none⟩) n c1,.slice (some ⟨r2,0,none⟩) n c2,.slice (some ⟨r3,0,none⟩) n c3,.slice (some ⟨r4,0,none⟩) n c4]) (by simp[results,Try.results8,go_sem,p0_,p1_,p2_,p3_,p4_]) rfl ?_
     rw[HO.out]
     exact⟨_,_,_,_,_,rfl,HR.out.lay HCF.out (by have h:=HL.out;refine⟨?_,?_,?_,?_,?_⟩<;>simp[h.l0,h.l1,h.l2,h.l3,h.l4]<;>omega)⟩
    ·rw[if_neg h0] at HO
     have h0':¬(0:Int)<(i:Int):=by omega
     have y0:w9.cell? ⟨g4,0,none⟩=some (.slice (some ⟨r0,0,none⟩) n c0):=H9.out.b4.blk.cell (i:=0) rfl
     have y1:w9.cell? ⟨g4,1,none⟩=some (.slice (some ⟨r1,0,none⟩) n c1):=H9.out.b4.blk.cell (i:=1) rfl
     have y2:w9.cell? ⟨g4,2,none⟩=some (.slice (some ⟨r2,0,none⟩) n c2):=H9.out.b4.blk.cell (i:=2) rfl
     have y3:w9.cell? ⟨g4,3,none⟩=some (.slice (some ⟨r3,0,none⟩) n c3):=H9.out.b4.blk.cell (i:=3) rfl
     have y4:w9.cell? ⟨g4,4,none⟩=some (.slice (some ⟨r4,0,none⟩) n c4):=H9.out.b4.blk.cell (i:=4) rfl
     have BR:BT w9 w.heap.size #[.slice none 0 0,.slice none 0 0,.slice none 0 0,.slice none 0 0,.slice none 0 0] 26:=H9.out.b2
     have x0:w9.cell? ⟨w.heap.size,0,none⟩=some (.slice none 0 0):=BR.blk.cell (i:=0) rfl
     have fz0:=BR.blk.frozen 0
     have x1:w9.cell? ⟨w.heap.size,1,none⟩=some (.slice none 0 0):=BR.blk.cell (i:=1) rfl
     have fz1:=BR.blk.frozen 1
     have x2:w9.cell? ⟨w.heap.size,2,none⟩=some (.slice none 0 0):=BR.blk.cell (i:=2) rfl
     have fz2:=BR.blk.frozen 2
     have x3:w9.cell? ⟨w.heap.size,3,none⟩=some (.slice none 0 0):=BR.blk.cell (i:=3) rfl
     have fz3:=BR.blk.frozen 3
     have x4:w9.cell? ⟨w.heap.size,4,none⟩=some (.slice none 0 0):=BR.blk.cell (i:=4) rfl
     have fz4:=BR.blk.frozen 4
     have BS:=set5 (a0:=.slice (some ⟨r0,0,none⟩) n c0) (a1:=.slice (some ⟨r1,0,none⟩) n c1) (a2:=.slice (some ⟨r2,0,none⟩) n c2) (a3:=.slice (some ⟨r3,0,none⟩) n c3) (a4:=.slice (some ⟨r4,0,none⟩) n c4) BR
     have P0:Hid (_=some (Value.slice (some ⟨r0,0,none⟩) n c0)):=BS.blk.cell (i:=0) rfl
     have P1:Hid (_=some (Value.slice (some ⟨r1,0,none⟩) n c1)):=BS.blk.cell (i:=1) rfl
     have P2:Hid (_=some (Value.slice (some ⟨r2,0,none⟩) n c2)):=BS.blk.cell (i:=2) rfl
     have P3:Hid (_=some (Value.slice (some ⟨r3,0,none⟩) n c3)):=BS.blk.cell (i:=3) rfl
     have P4:Hid (_=some (Value.slice (some ⟨r4,0,none⟩) n c4)):=BS.blk.cell (i:=4) rfl
     have HCF:Hid (Chg (λx=>x=w.heap.size) w9 (((((w9.setCell ⟨w.heap.size,0,none⟩ (.slice (some ⟨r0,0,none⟩) n c0)).setCell ⟨w.heap.size,1,none⟩ (.slice (some ⟨r1,0,none⟩) n c1)).setCell ⟨w.heap.size,2,none⟩ (.slice (some ⟨r2,0,none⟩) n c2)).setCell ⟨w.heap.size,3,none⟩ (.slice (some ⟨r3,0,none⟩) n c3)).setCell ⟨w.heap.size,4,none⟩ (.slice (some ⟨r4,0,none⟩) n c4))):=chg5
     clear BS BR
     go_wp2
     generalize hWF:(((((w9.setCell ⟨w.heap.size,0,none⟩ (.slice (some ⟨r0,0,none⟩) n c0)).setCell ⟨w.heap.size,1,none⟩ (.slice (some ⟨r1,0,none⟩) n c1)).setCell ⟨w.heap.size,2,none⟩ (.slice (some ⟨r2,0,none⟩) n c2)).setCell ⟨w.heap.size,3,none⟩ (.slice (some ⟨r3,0,none⟩) n c3)).setCell ⟨w.heap.size,4,none⟩ (.slice (some ⟨r4,0,none⟩) n c4))=wF at P0 P1 P2 P3 P4 HCF ⊢
     have p0_:=P0.out
     have p1_:=P1.out
     have p2_:=P2.out
     have p3_:=P3.out
     have p4_:=P4.out
     refine bodyPost_ret (v:=.agg #[.slice (some ⟨r0,0,none⟩) n c0,.slice (some ⟨r1,0,none⟩) n c1,.slice (some ⟨r2,0,none⟩) n c2,.slice (some ⟨r3,0,none⟩) n c3,.slice (some ⟨r4,0,none⟩) n c4]) (by simp[results,Try.results8,go_sem,p0_,p1_,p2_,p3_,p4_]) rfl ?_
     rw[HO.out]
     exact⟨_,_,_,_,_,rfl,H9.out.lay HCF.out (by have h:=HL.out;refine⟨?_,?_,?_,?_,?_⟩<;>simp[h.l0,h.l1,h.l2,h.l3,h.l4]<;>omega)⟩
   ·have HO:Hid (daO auF S=({ B with mu:=B.mu.set i (4000-nv S9 2) },ns S9 2)):=by unfold Hid;rw[HO.out];rfl
    go_upto_region 24 with fail
    have HD:=mkHid' (H9.out.next (show Nx w9 w9.drew from(Below.refl _ _).drew))
    have HSS:Hid ((λq=>q.cell? ⟨g4,3,none⟩=some (.slice (some ⟨r3,0,none⟩) n c3)) w9.drew):=HD.out.b4.blk.cell (i:=3) rfl
    have hvd:=nv_in HO9.out 2
    have hvd2:=hvd.2 (by omega)
    refine(wpIn_wide (n:=9)).1 ?_
    refine wpIn_region_S (c:=7) (S:=λq=>q.cell? ⟨g4,3,none⟩=some (.slice (some ⟨r3,0,none⟩) n c3)) hmx (by kernel_rfl) (λhw hcl=>?_)
    generalize w9.drew=wd at *
    refine tq (i:=0) (v:=.pointer (some ⟨g4,3,none⟩)) (λhcl=>?_)
    refine tq (i:=1) (v:=.slice (some ⟨r3,0,none⟩) n c3) (λhcl=>?_)
    refine tq (i:=2) (v:=.int .i64 (i:Int)) (λhcl=>?_)
    refine tq (i:=3) (v:=.pointer (some ⟨b,0,none⟩)) (λhcl=>?_)
    refine anyS_one2 (i:=4) (by kernel_rfl) hcl (λhcl=>wpOpIn_step rfl (λK hK=>?_))
    go_simp
    refine⟨trivial,(callsIn_wide.2 (l1Next_any D b S9 2 _ HD.out.src HO9.out (by omega))).mono ?_⟩
    rintro e7 w7 ⟨rfl,hs7,hc7⟩
    have H7:=mkHid' (HD.out.drawn hs7 hc7)
    clear hs7 hc7
    have HSS:Hid ((λq=>q.cell? ⟨g4,3,none⟩=some (.slice (some ⟨r3,0,none⟩) n c3)) w7):=H7.out.b4.blk.cell (i:=3) rfl
    refine hK _ _ ⟨Or.inr HSS.out,?_⟩
    clear hK K
    obtain⟨r',c',cs,e,-,-,hb,hcz⟩:=H7.out.o5.o3.open (by rw[HL.out.l3];omega)
    simp only[Value.slice.injEq,Option.some.injEq,Addr.mk.injEq] at e
    obtain⟨⟨rfl,-⟩,-⟩:=e
    have cz:=hcz (i) (by rw[HL.out.l3];omega)
    have fz:=hb.blk.frozen (i)
    have HR:Hid (AUs D b w.heap.size g4 w (w7.setCell ⟨r3,i,none⟩ (.int .i64 (4000-nv S9 2))) (ns S9 2) (.slice (some ⟨r0,0,none⟩) n c0) (.slice (some ⟨r1,0,none⟩) n c1) (.slice (some ⟨r2,0,none⟩) n c2) (.slice (some ⟨r3,0,none⟩) n c3) (.slice (some ⟨r4,0,none⟩) n c4) { B with mu:=B.mu.set (i) (4000-nv S9 2) }):=H7.out.s3 HL.out.l3 (by omega) _ _
    clear hb hcz H7 HD
    generalize iat B.mu (i)=zo at *
    generalize nv S9 2=dz at *
    have hw1:IntKind.i64.wrap (4000-dz)=4000-dz:=by rw[IntKind.wrap_i64];omega
    refine tq (i:=5) (v:=.int .i64 (4000-dz)) (λhcl=>?_)
    refine tq (i:=6) (v:=.pointer (some ⟨r3,i,none⟩)) (λhcl=>?_)
    refine anyS_one (i:=7) (by kernel_rfl) (wpOpIn_step rfl (λK hK=>?_))
    go_simp
    refine hK _ _ ⟨Or.inl (by decide),?_⟩
    clear hK K
    refine anyS_done (by kernel_rfl) ?_ _
    clear hw hcl HSS cz fz hw1 hvd hvd2
    generalize w7.setCell ⟨r3,i,none⟩ (.int .i64 (4000-dz))=wS at *
    have y0:wS.cell? ⟨g4,0,none⟩=some (.slice (some ⟨r0,0,none⟩) n c0):=HR.out.b4.blk.cell (i:=0) rfl
    have y1:wS.cell? ⟨g4,1,none⟩=some (.slice (some ⟨r1,0,none⟩) n c1):=HR.out.b4.blk.cell (i:=1) rfl
    have y2:wS.cell? ⟨g4,2,none⟩=some (.slice (some ⟨r2,0,none⟩) n c2):=HR.out.b4.blk.cell (i:=2) rfl
    have y3:wS.cell? ⟨g4,3,none⟩=some (.slice (some ⟨r3,0,none⟩) n c3):=HR.out.b4.blk.cell (i:=3) rfl
    have y4:wS.cell? ⟨g4,4,none⟩=some (.slice (some ⟨r4,0,none⟩) n c4):=HR.out.b4.blk.cell (i:=4) rfl
    have BR:BT wS w.heap.size #[.slice none 0 0,.slice none 0 0,.slice none 0 0,.slice none 0 0,.slice none 0 0] 26:=HR.out.b2
    have x0:wS.cell? ⟨w.heap.size,0,none⟩=some (.slice none 0 0):=BR.blk.cell (i:=0) rfl
    have fz0:=BR.blk.frozen 0
    have x1:wS.cell? ⟨w.heap.size,1,none⟩=some (.slice none 0 0):=BR.blk.cell (i:=1) rfl
    have fz1:=BR.blk.frozen 1
    have x2:wS.cell? ⟨w.heap.size,2,none⟩=some (.slice none 0 0):=BR.blk.cell (i:=2) rfl
    have fz2:=BR.blk.frozen 2
    have x3:wS.cell? ⟨w.heap.size,3,none⟩=some (.slice none 0 0):=BR.blk.cell (i:=3) rfl
    have fz3:=BR.blk.frozen 3
    have x4:wS.cell? ⟨w.heap.size,4,none⟩=some (.slice none 0 0):=BR.blk.cell (i:=4) rfl
    have fz4:=BR.blk.frozen 4
    have BS:=set5 (a0:=.slice (some ⟨r0,0,none⟩) n c0) (a1:=.slice (some ⟨r1,0,none⟩) n c1) (a2:=.slice (some ⟨r2,0,none⟩) n c2) (a3:=.slice (some ⟨r3,0,none⟩) n c3) (a4:=.slice (some ⟨r4,0,none⟩) n c4) BR
    have P0:Hid (_=some (Value.slice (some ⟨r0,0,none⟩) n c0)):=BS.blk.cell (i:=0) rfl
    have P1:Hid (_=some (Value.slice (some ⟨r1,0,none⟩) n c1)):=BS.blk.cell (i:=1) rfl
    have P2:Hid (_=some (Value.slice (some ⟨r2,0,none⟩) n c2)):=BS.blk.cell (i:=2) rfl
    have P3:Hid (_=some (Value.slice (some ⟨r3,0,none⟩) n c3)):=BS.blk.cell (i:=3) rfl
    have P4:Hid (_=some (Value.slice (some ⟨r4,0,none⟩) n c4)):=BS.blk.cell (i:=4) rfl
    have HCF:Hid (Chg (λx=>x=w.heap.size) wS (((((wS.setCell ⟨w.heap.size,0,none⟩ (.slice (some ⟨r0,0,none⟩) n c0)).setCell ⟨w.heap.size,1,none⟩ (.slice (some ⟨r1,0,none⟩) n c1)).setCell ⟨w.heap.size,2,none⟩ (.slice (some ⟨r2,0,none⟩) n c2)).setCell ⟨w.heap.size,3,none⟩ (.slice (some ⟨r3,0,none⟩) n c3)).setCell ⟨w.heap.size,4,none⟩ (.slice (some ⟨r4,0,none⟩) n c4))):=chg5
    clear BS BR
    go_wp2
    generalize hWF:(((((wS.setCell ⟨w.heap.size,0,none⟩ (.slice (some ⟨r0,0,none⟩) n c0)).setCell ⟨w.heap.size,1,none⟩ (.slice (some ⟨r1,0,none⟩) n c1)).setCell ⟨w.heap.size,2,none⟩ (.slice (some ⟨r2,0,none⟩) n c2)).setCell ⟨w.heap.size,3,none⟩ (.slice (some ⟨r3,0,none⟩) n c3)).setCell ⟨w.heap.size,4,none⟩ (.slice (some ⟨r4,0,none⟩) n c4))=wF at P0 P1 P2 P3 P4 HCF ⊢
    have p0_:=P0.out
    have p1_:=P1.out
    have p2_:=P2.out
    have p3_:=P3.out
    have p4_:=P4.out
    refine bodyPost_ret (v:=.agg #[.slice (some ⟨r0,0,none⟩) n c0,.slice (some ⟨r1,0,none⟩) n c1,.slice (some ⟨r2,0,none⟩) n c2,.slice (some ⟨r3,0,none⟩) n c3,.slice (some ⟨r4,0,none⟩) n c4]) (by simp[results,Try.results8,go_sem,p0_,p1_,p2_,p3_,p4_]) rfl ?_
    rw[HO.out]
    exact⟨_,_,_,_,_,rfl,HR.out.lay HCF.out (by have h:=HL.out;refine⟨?_,?_,?_,?_,?_⟩<;>simp[h.l0,h.l1,h.l2,h.l3,h.l4]<;>omega)⟩
   ·have HO:Hid (daO auF S=({ B with mu:=B.mu.set i (-2-nv S9 2) },ns S9 2)):=by unfold Hid;rw[HO.out];rfl
    go_upto_region 26 with fail
    have HD:=mkHid' (H9.out.next (show Nx w9 w9.drew from(Below.refl _ _).drew))
    have HSS:Hid ((λq=>q.cell? ⟨g4,3,none⟩=some (.slice (some ⟨r3,0,none⟩) n c3)) w9.drew):=HD.out.b4.blk.cell (i:=3) rfl
    have hvd:=nv_in HO9.out 2
    have hvd2:=hvd.2 (by omega)
    refine(wpIn_wide (n:=9)).1 ?_
    refine wpIn_region_S (c:=7) (S:=λq=>q.cell? ⟨g4,3,none⟩=some (.slice (some ⟨r3,0,none⟩) n c3)) hmx (by kernel_rfl) (λhw hcl=>?_)
    generalize w9.drew=wd at *
    refine tq (i:=0) (v:=.pointer (some ⟨g4,3,none⟩)) (λhcl=>?_)
    refine tq (i:=1) (v:=.slice (some ⟨r3,0,none⟩) n c3) (λhcl=>?_)
    refine tq (i:=2) (v:=.int .i64 (i:Int)) (λhcl=>?_)
    refine tq (i:=3) (v:=.pointer (some ⟨b,0,none⟩)) (λhcl=>?_)
    refine anyS_one2 (i:=4) (by kernel_rfl) hcl (λhcl=>wpOpIn_step rfl (λK hK=>?_))
    go_simp
    refine⟨trivial,(callsIn_wide.2 (l1Next_any D b S9 2 _ HD.out.src HO9.out (by omega))).mono ?_⟩
    rintro e7 w7 ⟨rfl,hs7,hc7⟩
    have H7:=mkHid' (HD.out.drawn hs7 hc7)
    clear hs7 hc7
    have HSS:Hid ((λq=>q.cell? ⟨g4,3,none⟩=some (.slice (some ⟨r3,0,none⟩) n c3)) w7):=H7.out.b4.blk.cell (i:=3) rfl
    refine hK _ _ ⟨Or.inr HSS.out,?_⟩
    clear hK K
    obtain⟨r',c',cs,e,-,-,hb,hcz⟩:=H7.out.o5.o3.open (by rw[HL.out.l3];omega)
    simp only[Value.slice.injEq,Option.some.injEq,Addr.mk.injEq] at e
    obtain⟨⟨rfl,-⟩,-⟩:=e
    have cz:=hcz (i) (by rw[HL.out.l3];omega)
    have fz:=hb.blk.frozen (i)
    have HR:Hid (AUs D b w.heap.size g4 w (w7.setCell ⟨r3,i,none⟩ (.int .i64 (-2-nv S9 2))) (ns S9 2) (.slice (some ⟨r0,0,none⟩) n c0) (.slice (some ⟨r1,0,none⟩) n c1) (.slice (some ⟨r2,0,none⟩) n c2) (.slice (some ⟨r3,0,none⟩) n c3) (.slice (some ⟨r4,0,none⟩) n c4) { B with mu:=B.mu.set (i) (-2-nv S9 2) }):=H7.out.s3 HL.out.l3 (by omega) _ _
    clear hb hcz H7 HD
    generalize iat B.mu (i)=zo at *
    generalize nv S9 2=dz at *
    have hw1:IntKind.i64.wrap (-2-dz)=-2-dz:=by rw[IntKind.wrap_i64];omega
    refine tq (i:=5) (v:=.int .i64 (-2-dz)) (λhcl=>?_)
    refine tq (i:=6) (v:=.pointer (some ⟨r3,i,none⟩)) (λhcl=>?_)
    refine anyS_one (i:=7) (by kernel_rfl) (wpOpIn_step rfl (λK hK=>?_))
    go_simp
    refine hK _ _ ⟨Or.inl (by decide),?_⟩
    clear hK K
    refine anyS_done (by kernel_rfl) ?_ _
    clear hw hcl HSS cz fz hw1 hvd hvd2
    generalize w7.setCell ⟨r3,i,none⟩ (.int .i64 (-2-dz))=wS at *
    have y0:wS.cell? ⟨g4,0,none⟩=some (.slice (some ⟨r0,0,none⟩) n c0):=HR.out.b4.blk.cell (i:=0) rfl
    have y1:wS.cell? ⟨g4,1,none⟩=some (.slice (some ⟨r1,0,none⟩) n c1):=HR.out.b4.blk.cell (i:=1) rfl
    have y2:wS.cell? ⟨g4,2,none⟩=some (.slice (some ⟨r2,0,none⟩) n c2):=HR.out.b4.blk.cell (i:=2) rfl
    have y3:wS.cell? ⟨g4,3,none⟩=some (.slice (some ⟨r3,0,none⟩) n c3):=HR.out.b4.blk.cell (i:=3) rfl
    have y4:wS.cell? ⟨g4,4,none⟩=some (.slice (some ⟨r4,0,none⟩) n c4):=HR.out.b4.blk.cell (i:=4) rfl
    have BR:BT wS w.heap.size #[.slice none 0 0,.slice none 0 0,.slice none 0 0,.slice none 0 0,.slice none 0 0] 26:=HR.out.b2
    have x0:wS.cell? ⟨w.heap.size,0,none⟩=some (.slice none 0 0):=BR.blk.cell (i:=0) rfl
    have fz0:=BR.blk.frozen 0
    have x1:wS.cell? ⟨w.heap.size,1,none⟩=some (.slice none 0 0):=BR.blk.cell (i:=1) rfl
    have fz1:=BR.blk.frozen 1
    have x2:wS.cell? ⟨w.heap.size,2,none⟩=some (.slice none 0 0):=BR.blk.cell (i:=2) rfl
    have fz2:=BR.blk.frozen 2
    have x3:wS.cell? ⟨w.heap.size,3,none⟩=some (.slice none 0 0):=BR.blk.cell (i:=3) rfl
    have fz3:=BR.blk.frozen 3
    have x4:wS.cell? ⟨w.heap.size,4,none⟩=some (.slice none 0 0):=BR.blk.cell (i:=4) rfl
    have fz4:=BR.blk.frozen 4
    have BS:=set5 (a0:=.slice (some ⟨r0,0,none⟩) n c0) (a1:=.slice (some ⟨r1,0,none⟩) n c1) (a2:=.slice (some ⟨r2,0,none⟩) n c2) (a3:=.slice (some ⟨r3,0,none⟩) n c3) (a4:=.slice (some ⟨r4,0,none⟩) n c4) BR
    have P0:Hid (_=some (Value.slice (some ⟨r0,0,none⟩) n c0)):=BS.blk.cell (i:=0) rfl
    have P1:Hid (_=some (Value.slice (some ⟨r1,0,none⟩) n c1)):=BS.blk.cell (i:=1) rfl
    have P2:Hid (_=some (Value.slice (some ⟨r2,0,none⟩) n c2)):=BS.blk.cell (i:=2) rfl
    have P3:Hid (_=some (Value.slice (some ⟨r3,0,none⟩) n c3)):=BS.blk.cell (i:=3) rfl
    have P4:Hid (_=some (Value.slice (some ⟨r4,0,none⟩) n c4)):=BS.blk.cell (i:=4) rfl
    have HCF:Hid (Chg (λx=>x=w.heap.size) wS (((((wS.setCell ⟨w.heap.size,0,none⟩ (.slice (some ⟨r0,0,none⟩) n c0)).setCell ⟨w.heap.size,1,none⟩ (.slice (some ⟨r1,0,none⟩) n c1)).setCell ⟨w.heap.size,2,none⟩ (.slice (some ⟨r2,0,none⟩) n c2)).setCell ⟨w.heap.size,3,none⟩ (.slice (some ⟨r3,0,none⟩) n c3)).setCell ⟨w.heap.size,4,none⟩ (.slice (some ⟨r4,0,none⟩) n c4))):=chg5
    clear BS BR
    go_wp2
    generalize hWF:(((((wS.setCell ⟨w.heap.size,0,none⟩ (.slice (some ⟨r0,0,none⟩) n c0)).setCell ⟨w.heap.size,1,none⟩ (.slice (some ⟨r1,0,none⟩) n c1)).setCell ⟨w.heap.size,2,none⟩ (.slice (some ⟨r2,0,none⟩) n c2)).setCell ⟨w.heap.size,3,none⟩ (.slice (some ⟨r3,0,none⟩) n c3)).setCell ⟨w.heap.size,4,none⟩ (.slice (some ⟨r4,0,none⟩) n c4))=wF at P0 P1 P2 P3 P4 HCF ⊢
    have p0_:=P0.out
    have p1_:=P1.out
    have p2_:=P2.out
    have p3_:=P3.out
    have p4_:=P4.out
    refine bodyPost_ret (v:=.agg #[.slice (some ⟨r0,0,none⟩) n c0,.slice (some ⟨r1,0,none⟩) n c1,.slice (some ⟨r2,0,none⟩) n c2,.slice (some ⟨r3,0,none⟩) n c3,.slice (some ⟨r4,0,none⟩) n c4]) (by simp[results,Try.results8,go_sem,p0_,p1_,p2_,p3_,p4_]) rfl ?_
    rw[HO.out]
    exact⟨_,_,_,_,_,rfl,HR.out.lay HCF.out (by have h:=HL.out;refine⟨?_,?_,?_,?_,?_⟩<;>simp[h.l0,h.l1,h.l2,h.l3,h.l4]<;>omega)⟩
   ·have HO:Hid (daO auF S=({ B with bd:=B.bd.set 0 true },S9)):=by unfold Hid;rw[HO.out];rfl
    obtain⟨r',c',cs,e,-,-,hb,hcz⟩:=H9.out.o5.o4.open (by rw[HL.out.l4];omega)
    simp only[Value.slice.injEq,Option.some.injEq,Addr.mk.injEq] at e
    obtain⟨⟨rfl,-⟩,-⟩:=e
    have cz:=hcz 0 (by rw[HL.out.l4];omega)
    have fz:=hb.blk.frozen 0
    have hn0:¬n=0:=by omega
    have y4:w9.cell? ⟨g4,4,none⟩=some (.slice (some ⟨r4,0,none⟩) n c4):=H9.out.b4.blk.cell (i:=4) rfl
    have HR:Hid (AUs D b w.heap.size g4 w (w9.setCell ⟨r4,0,none⟩ (.bool true)) S9 (.slice (some ⟨r0,0,none⟩) n c0) (.slice (some ⟨r1,0,none⟩) n c1) (.slice (some ⟨r2,0,none⟩) n c2) (.slice (some ⟨r3,0,none⟩) n c3) (.slice (some ⟨r4,0,none⟩) n c4) { B with bd:=B.bd.set 0 true }):=H9.out.s4 HL.out.l4 (by omega) 0 _
    clear hb hcz
    generalize bat B.bd 0=z at *
    go_upto_region 29 with fail
    clear y4 cz fz
    generalize w9.setCell ⟨r4,0,none⟩ (.bool true)=wS at *
    have y0:wS.cell? ⟨g4,0,none⟩=some (.slice (some ⟨r0,0,none⟩) n c0):=HR.out.b4.blk.cell (i:=0) rfl
    have y1:wS.cell? ⟨g4,1,none⟩=some (.slice (some ⟨r1,0,none⟩) n c1):=HR.out.b4.blk.cell (i:=1) rfl
    have y2:wS.cell? ⟨g4,2,none⟩=some (.slice (some ⟨r2,0,none⟩) n c2):=HR.out.b4.blk.cell (i:=2) rfl
    have y3:wS.cell? ⟨g4,3,none⟩=some (.slice (some ⟨r3,0,none⟩) n c3):=HR.out.b4.blk.cell (i:=3) rfl
    have y4:wS.cell? ⟨g4,4,none⟩=some (.slice (some ⟨r4,0,none⟩) n c4):=HR.out.b4.blk.cell (i:=4) rfl
    have BR:BT wS w.heap.size #[.slice none 0 0,.slice none 0 0,.slice none 0 0,.slice none 0 0,.slice none 0 0] 26:=HR.out.b2
    have x0:wS.cell? ⟨w.heap.size,0,none⟩=some (.slice none 0 0):=BR.blk.cell (i:=0) rfl
    have fz0:=BR.blk.frozen 0
    have x1:wS.cell? ⟨w.heap.size,1,none⟩=some (.slice none 0 0):=BR.blk.cell (i:=1) rfl
    have fz1:=BR.blk.frozen 1
    have x2:wS.cell? ⟨w.heap.size,2,none⟩=some (.slice none 0 0):=BR.blk.cell (i:=2) rfl
    have fz2:=BR.blk.frozen 2
    have x3:wS.cell? ⟨w.heap.size,3,none⟩=some (.slice none 0 0):=BR.blk.cell (i:=3) rfl
    have fz3:=BR.blk.frozen 3
    have x4:wS.cell? ⟨w.heap.size,4,none⟩=some (.slice none 0 0):=BR.blk.cell (i:=4) rfl
    have fz4:=BR.blk.frozen 4
    have BS:=set5 (a0:=.slice (some ⟨r0,0,none⟩) n c0) (a1:=.slice (some ⟨r1,0,none⟩) n c1) (a2:=.slice (some ⟨r2,0,none⟩) n c2) (a3:=.slice (some ⟨r3,0,none⟩) n c3) (a4:=.slice (some ⟨r4,0,none⟩) n c4) BR
    have P0:Hid (_=some (Value.slice (some ⟨r0,0,none⟩) n c0)):=BS.blk.cell (i:=0) rfl
    have P1:Hid (_=some (Value.slice (some ⟨r1,0,none⟩) n c1)):=BS.blk.cell (i:=1) rfl
    have P2:Hid (_=some (Value.slice (some ⟨r2,0,none⟩) n c2)):=BS.blk.cell (i:=2) rfl
    have P3:Hid (_=some (Value.slice (some ⟨r3,0,none⟩) n c3)):=BS.blk.cell (i:=3) rfl
    have P4:Hid (_=some (Value.slice (some ⟨r4,0,none⟩) n c4)):=BS.blk.cell (i:=4) rfl
    have HCF:Hid (Chg (λx=>x=w.heap.size) wS (((((wS.setCell ⟨w.heap.size,0,none⟩ (.slice (some ⟨r0,0,none⟩) n c0)).setCell ⟨w.heap.size,1,none⟩ (.slice (some ⟨r1,0,none⟩) n c1)).setCell ⟨w.heap.size,2,none⟩ (.slice (some ⟨r2,0,none⟩) n c2)).setCell ⟨w.heap.size,3,none⟩ (.slice (some ⟨r3,0,none⟩) n c3)).setCell ⟨w.heap.size,4,none⟩ (.slice (some ⟨r4,0,none⟩) n c4))):=chg5
    clear BS BR
    go_wp2
    generalize hWF:(((((wS.setCell ⟨w.heap.size,0,none⟩ (.slice (some ⟨r0,0,none⟩) n c0)).setCell ⟨w.heap.size,1,none⟩ (.slice (some ⟨r1,0,none⟩) n c1)).setCell ⟨w.heap.size,2,none⟩ (.slice (some ⟨r2,0,none⟩) n c2)).setCell ⟨w.heap.size,3,none⟩ (.slice (some ⟨r3,0,none⟩) n c3)).setCell ⟨w.heap.size,4,none⟩ (.slice (some ⟨r4,0,none⟩) n c4))=wF at P0 P1 P2 P3 P4 HCF ⊢
    have p0_:=P0.out
    have p1_:=P1.out
    have p2_:=P2.out
    have p3_:=P3.out
    have p4_:=P4.out
    refine bodyPost_ret (v:=.agg #[.slice (some ⟨r0,0,none⟩) n c0,.slice (some ⟨r1,0,none⟩) n c1,.slice (some ⟨r2,0,none⟩) n c2,.slice (some ⟨r3,0,none⟩) n c3,.slice (some ⟨r4,0,none⟩) n c4]) (by simp[results,Try.results8,go_sem,p0_,p1_,p2_,p3_,p4_]) rfl ?_
    rw[HO.out]
    exact⟨_,_,_,_,_,rfl,HR.out.lay HCF.out (by have h:=HL.out;refine⟨?_,?_,?_,?_,?_⟩<;>simp[h.l0,h.l1,h.l2,h.l3,h.l4]<;>omega)⟩
   ·have HO:Hid (daO auF S=({ B with bd:=B.bd.take (n-1) },S9)):=by unfold Hid;rw[HO.out];rfl
    obtain⟨nm,rfl⟩:∃nm,n=nm+1:=⟨n-1,by omega⟩
    rw[Nat.add_sub_cancel] at HO
    have y4:w9.cell? ⟨g4,4,none⟩=some (.slice (some ⟨r4,0,none⟩) (nm+1) c4):=H9.out.b4.blk.cell (i:=4) rfl
    have f4:=H9.out.b4.blk.frozen 4
    have HR:Hid (AUs D b w.heap.size g4 w (w9.setCell ⟨g4,4,none⟩ (.slice (some ⟨r4,0,none⟩) nm c4)) S9 (.slice (some ⟨r0,0,none⟩) (nm+1) c0) (.slice (some ⟨r1,0,none⟩) (nm+1) c1) (.slice (some ⟨r2,0,none⟩) (nm+1) c2) (.slice (some ⟨r3,0,none⟩) (nm+1) c3) (.slice (some ⟨r4,0,none⟩) nm c4) { B with bd:=B.bd.take nm }):=H9.out.setBd HL.out.l4
    go_upto_region 31 with fail
    clear y4 f4
    generalize w9.setCell ⟨g4,4,none⟩ (.slice (some ⟨r4,0,none⟩) nm c4)=wS at *
    have y0:wS.cell? ⟨g4,0,none⟩=some (.slice (some ⟨r0,0,none⟩) (nm+1) c0):=HR.out.b4.blk.cell (i:=0) rfl
    have y1:wS.cell? ⟨g4,1,none⟩=some (.slice (some ⟨r1,0,none⟩) (nm+1) c1):=HR.out.b4.blk.cell (i:=1) rfl
    have y2:wS.cell? ⟨g4,2,none⟩=some (.slice (some ⟨r2,0,none⟩) (nm+1) c2):=HR.out.b4.blk.cell (i:=2) rfl
    have y3:wS.cell? ⟨g4,3,none⟩=some (.slice (some ⟨r3,0,none⟩) (nm+1) c3):=HR.out.b4.blk.cell (i:=3) rfl
    have y4:wS.cell? ⟨g4,4,none⟩=some (.slice (some ⟨r4,0,none⟩) nm c4):=HR.out.b4.blk.cell (i:=4) rfl
    have BR:BT wS w.heap.size #[.slice none 0 0,.slice none 0 0,.slice none 0 0,.slice none 0 0,.slice none 0 0] 26:=HR.out.b2
    have x0:wS.cell? ⟨w.heap.size,0,none⟩=some (.slice none 0 0):=BR.blk.cell (i:=0) rfl
    have fz0:=BR.blk.frozen 0
    have x1:wS.cell? ⟨w.heap.size,1,none⟩=some (.slice none 0 0):=BR.blk.cell (i:=1) rfl
    have fz1:=BR.blk.frozen 1
    have x2:wS.cell? ⟨w.heap.size,2,none⟩=some (.slice none 0 0):=BR.blk.cell (i:=2) rfl
    have fz2:=BR.blk.frozen 2
    have x3:wS.cell? ⟨w.heap.size,3,none⟩=some (.slice none 0 0):=BR.blk.cell (i:=3) rfl
    have fz3:=BR.blk.frozen 3
    have x4:wS.cell? ⟨w.heap.size,4,none⟩=some (.slice none 0 0):=BR.blk.cell (i:=4) rfl
    have fz4:=BR.blk.frozen 4
    have BS:=set5 (a0:=.slice (some ⟨r0,0,none⟩) (nm+1) c0) (a1:=.slice (some ⟨r1,0,none⟩) (nm+1) c1) (a2:=.slice (some ⟨r2,0,none⟩) (nm+1) c2) (a3:=.slice (some ⟨r3,0,none⟩) (nm+1) c3) (a4:=.slice (some ⟨r4,0,none⟩) nm c4) BR
    have P0:Hid (_=some (Value.slice (some ⟨r0,0,none⟩) (nm+1) c0)):=BS.blk.cell (i:=0) rfl
    have P1:Hid (_=some (Value.slice (some ⟨r1,0,none⟩) (nm+1) c1)):=BS.blk.cell (i:=1) rfl
    have P2:Hid (_=some (Value.slice (some ⟨r2,0,none⟩) (nm+1) c2)):=BS.blk.cell (i:=2) rfl
    have P3:Hid (_=some (Value.slice (some ⟨r3,0,none⟩) (nm+1) c3)):=BS.blk.cell (i:=3) rfl
    have P4:Hid (_=some (Value.slice (some ⟨r4,0,none⟩) nm c4)):=BS.blk.cell (i:=4) rfl
    have HCF:Hid (Chg (λx=>x=w.heap.size) wS (((((wS.setCell ⟨w.heap.size,0,none⟩ (.slice (some ⟨r0,0,none⟩) (nm+1) c0)).setCell ⟨w.heap.size,1,none⟩ (.slice (some ⟨r1,0,none⟩) (nm+1) c1)).setCell ⟨w.heap.size,2,none⟩ (.slice (some ⟨r2,0,none⟩) (nm+1) c2)).setCell ⟨w.heap.size,3,none⟩ (.slice (some ⟨r3,0,none⟩) (nm+1) c3)).setCell ⟨w.heap.size,4,none⟩ (.slice (some ⟨r4,0,none⟩) nm c4))):=chg5
    clear BS BR
    go_wp2
    generalize hWF:(((((wS.setCell ⟨w.heap.size,0,none⟩ (.slice (some ⟨r0,0,none⟩) (nm+1) c0)).setCell ⟨w.heap.size,1,none⟩ (.slice (some ⟨r1,0,none⟩) (nm+1) c1)).setCell ⟨w.heap.size,2,none⟩ (.slice (some ⟨r2,0,none⟩) (nm+1) c2)).setCell ⟨w.heap.size,3,none⟩ (.slice (some ⟨r3,0,none⟩) (nm+1) c3)).setCell ⟨w.heap.size,4,none⟩ (.slice (some ⟨r4,0,none⟩) nm c4))=wF at P0 P1 P2 P3 P4 HCF ⊢
    have p0_:=P0.out
    have p1_:=P1.out
    have p2_:=P2.out
    have p3_:=P3.out
    have p4_:=P4.out
    refine bodyPost_ret (v:=.agg #[.slice (some ⟨r0,0,none⟩) (nm+1) c0,.slice (some ⟨r1,0,none⟩) (nm+1) c1,.slice (some ⟨r2,0,none⟩) (nm+1) c2,.slice (some ⟨r3,0,none⟩) (nm+1) c3,.slice (some ⟨r4,0,none⟩) nm c4]) (by simp[results,Try.results8,go_sem,p0_,p1_,p2_,p3_,p4_]) rfl ?_
    rw[HO.out]
    exact⟨_,_,_,_,_,rfl,HR.out.lay HCF.out (by have h:=HL.out;refine⟨?_,?_,?_,?_,?_⟩<;>simp[h.l0,h.l1,h.l2,h.l3,h.l4]<;>omega)⟩
   ·have HO:Hid (daO auF S=({ B with mu:=B.mu++[-1] },S9)):=by unfold Hid;rw[HO.out];rfl
    have y3:w9.cell? ⟨g4,3,none⟩=some (.slice (some ⟨r3,0,none⟩) n c3):=H9.out.b4.blk.cell (i:=3) rfl
    have hz9:w.heap.size<=w9.heap.size:=H9.out.chg.size
    go_wp2_with (at_builtin;refine app_int rfl _ _ rfl w.heap.size n (.slice (some ⟨r3,0,none⟩) n c3) B.mu (-1) w9 rfl H9.out.o5.o3 rfl HL.out.l3 (by omega) hz9 ?_)
    intro a8 c8 w10 r1_ r2_ r3_
    have HR:Hid (AUs D b w.heap.size g4 w (w10.setCell ⟨g4,3,none⟩ (.slice a8 (n+1) c8)) S9 (.slice (some ⟨r0,0,none⟩) n c0) (.slice (some ⟨r1,0,none⟩) n c1) (.slice (some ⟨r2,0,none⟩) n c2) (.slice a8 (n+1) c8) (.slice (some ⟨r4,0,none⟩) n c4) { B with mu:=B.mu++[-1] }):=H9.out.setMu r1_ r2_ r3_
    have B4:BT w10 g4 #[.slice (some ⟨r0,0,none⟩) n c0,.slice (some ⟨r1,0,none⟩) n c1,.slice (some ⟨r2,0,none⟩) n c2,.slice (some ⟨r3,0,none⟩) n c3,.slice (some ⟨r4,0,none⟩) n c4] 26:=H9.out.b4.row H9.out.o5.o3 (by decide) r2_
    have y3':w10.cell? ⟨g4,3,none⟩=some (.slice (some ⟨r3,0,none⟩) n c3):=B4.blk.cell (i:=3) rfl
    have f3:=B4.blk.frozen 3
    clear r1_ r2_ r3_ B4 y3
    go_upto_region 33 with fail
    clear y3' f3
    generalize w10.setCell ⟨g4,3,none⟩ (.slice a8 (n+1) c8)=wS at *
    have y0:wS.cell? ⟨g4,0,none⟩=some (.slice (some ⟨r0,0,none⟩) n c0):=HR.out.b4.blk.cell (i:=0) rfl
    have y1:wS.cell? ⟨g4,1,none⟩=some (.slice (some ⟨r1,0,none⟩) n c1):=HR.out.b4.blk.cell (i:=1) rfl
    have y2:wS.cell? ⟨g4,2,none⟩=some (.slice (some ⟨r2,0,none⟩) n c2):=HR.out.b4.blk.cell (i:=2) rfl
    have y3:wS.cell? ⟨g4,3,none⟩=some (.slice a8 (n+1) c8):=HR.out.b4.blk.cell (i:=3) rfl
    have y4:wS.cell? ⟨g4,4,none⟩=some (.slice (some ⟨r4,0,none⟩) n c4):=HR.out.b4.blk.cell (i:=4) rfl
    have BR:BT wS w.heap.size #[.slice none 0 0,.slice none 0 0,.slice none 0 0,.slice none 0 0,.slice none 0 0] 26:=HR.out.b2
    have x0:wS.cell? ⟨w.heap.size,0,none⟩=some (.slice none 0 0):=BR.blk.cell (i:=0) rfl
    have fz0:=BR.blk.frozen 0
    have x1:wS.cell? ⟨w.heap.size,1,none⟩=some (.slice none 0 0):=BR.blk.cell (i:=1) rfl
    have fz1:=BR.blk.frozen 1
    have x2:wS.cell? ⟨w.heap.size,2,none⟩=some (.slice none 0 0):=BR.blk.cell (i:=2) rfl
    have fz2:=BR.blk.frozen 2
    have x3:wS.cell? ⟨w.heap.size,3,none⟩=some (.slice none 0 0):=BR.blk.cell (i:=3) rfl
    have fz3:=BR.blk.frozen 3
    have x4:wS.cell? ⟨w.heap.size,4,none⟩=some (.slice none 0 0):=BR.blk.cell (i:=4) rfl
    have fz4:=BR.blk.frozen 4
    have BS:=set5 (a0:=.slice (some ⟨r0,0,none⟩) n c0) (a1:=.slice (some ⟨r1,0,none⟩) n c1) (a2:=.slice (some ⟨r2,0,none⟩) n c2) (a3:=.slice a8 (n+1) c8) (a4:=.slice (some ⟨r4,0,none⟩) n c4) BR
    have P0:Hid (_=some (Value.slice (some ⟨r0,0,none⟩) n c0)):=BS.blk.cell (i:=0) rfl
    have P1:Hid (_=some (Value.slice (some ⟨r1,0,none⟩) n c1)):=BS.blk.cell (i:=1) rfl
    have P2:Hid (_=some (Value.slice (some ⟨r2,0,none⟩) n c2)):=BS.blk.cell (i:=2) rfl
    have P3:Hid (_=some (Value.slice a8 (n+1) c8)):=BS.blk.cell (i:=3) rfl
    have P4:Hid (_=some (Value.slice (some ⟨r4,0,none⟩) n c4)):=BS.blk.cell (i:=4) rfl
    have HCF:Hid (Chg (λx=>x=w.heap.size) wS (((((wS.setCell ⟨w.heap.size,0,none⟩ (.slice (some ⟨r0,0,none⟩) n c0)).setCell ⟨w.heap.size,1,none⟩ (.slice (some ⟨r1,0,none⟩) n c1)).setCell ⟨w.heap.size,2,none⟩ (.slice (some ⟨r2,0,none⟩) n c2)).setCell ⟨w.heap.size,3,none⟩ (.slice a8 (n+1) c8)).setCell ⟨w.heap.size,4,none⟩ (.slice (some ⟨r4,0,none⟩) n c4))):=chg5
    clear BS BR
    go_wp2
    generalize hWF:(((((wS.setCell ⟨w.heap.size,0,none⟩ (.slice (some ⟨r0,0,none⟩) n c0)).setCell ⟨w.heap.size,1,none⟩ (.slice (some ⟨r1,0,none⟩) n c1)).setCell ⟨w.heap.size,2,none⟩ (.slice (some ⟨r2,0,none⟩) n c2)).setCell ⟨w.heap.size,3,none⟩ (.slice a8 (n+1) c8)).setCell ⟨w.heap.size,4,none⟩ (.slice (some ⟨r4,0,none⟩) n c4))=wF at P0 P1 P2 P3 P4 HCF ⊢
    have p0_:=P0.out
    have p1_:=P1.out
    have p2_:=P2.out
    have p3_:=P3.out
    have p4_:=P4.out
    refine bodyPost_ret (v:=.agg #[.slice (some ⟨r0,0,none⟩) n c0,.slice (some ⟨r1,0,none⟩) n c1,.slice (some ⟨r2,0,none⟩) n c2,.slice a8 (n+1) c8,.slice (some ⟨r4,0,none⟩) n c4]) (by simp[results,Try.results8,go_sem,p0_,p1_,p2_,p3_,p4_]) rfl ?_
    rw[HO.out]
    exact⟨_,_,_,_,_,rfl,HR.out.lay HCF.out (by have h:=HL.out;refine⟨?_,?_,?_,?_,?_⟩<;>simp[h.l0,h.l1,h.l2,h.l3,h.l4]<;>omega)⟩
   ·have HO:Hid (daO auF S=({ B with la:=B.la.set (n-1) (4000-nv S9 2) },ns S9 2)):=by unfold Hid;rw[HO.out];rfl
    obtain⟨nm,rfl⟩:∃nm,n=nm+1:=⟨n-1,by omega⟩
    rw[Nat.add_sub_cancel] at HO
    go_upto_region 34 with fail
    have HD:=mkHid' (H9.out.next (show Nx w9 w9.drew from(Below.refl _ _).drew))
    have HSS:Hid ((λq=>q.cell? ⟨g4,1,none⟩=some (.slice (some ⟨r1,0,none⟩) (nm+1) c1)) w9.drew):=HD.out.b4.blk.cell (i:=1) rfl
    have hvd:=nv_in HO9.out 2
    have hvd2:=hvd.2 (by omega)
    have hw2:IntKind.i64.wrap (nm:Int)=(nm:Int):=by rw[IntKind.wrap_i64];omega
    refine(wpIn_wide (n:=9)).1 ?_
    refine wpIn_region_S (c:=8) (S:=λq=>q.cell? ⟨g4,1,none⟩=some (.slice (some ⟨r1,0,none⟩) (nm+1) c1)) hmx (by kernel_rfl) (λhw hcl=>?_)
    generalize w9.drew=wd at *
    refine tq (i:=0) (v:=.pointer (some ⟨g4,1,none⟩)) (λhcl=>?_)
    refine tq (i:=1) (v:=.slice (some ⟨r1,0,none⟩) (nm+1) c1) (λhcl=>?_)
    refine tq (i:=2) (v:=.int .i64 ((nm+1:Nat):Int)) (λhcl=>?_)
    refine tq (i:=3) (v:=.int .i64 (nm:Int)) (λhcl=>?_)
    refine tq (i:=4) (v:=.pointer (some ⟨b,0,none⟩)) (λhcl=>?_)
    refine anyS_one2 (i:=5) (by kernel_rfl) hcl (λhcl=>wpOpIn_step rfl (λK hK=>?_))
    go_simp
    refine⟨trivial,(callsIn_wide.2 (l1Next_any D b S9 2 _ HD.out.src HO9.out (by omega))).mono ?_⟩
    rintro e7 w7 ⟨rfl,hs7,hc7⟩
    have H7:=mkHid' (HD.out.drawn hs7 hc7)
    clear hs7 hc7
    have HSS:Hid ((λq=>q.cell? ⟨g4,1,none⟩=some (.slice (some ⟨r1,0,none⟩) (nm+1) c1)) w7):=H7.out.b4.blk.cell (i:=1) rfl
    refine hK _ _ ⟨Or.inr HSS.out,?_⟩
    clear hK K
    obtain⟨r',c',cs,e,-,-,hb,hcz⟩:=H7.out.o5.o1.open (by rw[HL.out.l1];omega)
    simp only[Value.slice.injEq,Option.some.injEq,Addr.mk.injEq] at e
    obtain⟨⟨rfl,-⟩,-⟩:=e
    have cz:=hcz nm (by rw[HL.out.l1];omega)
    have fz:=hb.blk.frozen nm
    have HR:Hid (AUs D b w.heap.size g4 w (w7.setCell ⟨r1,nm,none⟩ (.int .i64 (4000-nv S9 2))) (ns S9 2) (.slice (some ⟨r0,0,none⟩) (nm+1) c0) (.slice (some ⟨r1,0,none⟩) (nm+1) c1) (.slice (some ⟨r2,0,none⟩) (nm+1) c2) (.slice (some ⟨r3,0,none⟩) (nm+1) c3) (.slice (some ⟨r4,0,none⟩) (nm+1) c4) { B with la:=B.la.set nm (4000-nv S9 2) }):=H7.out.s1 HL.out.l1 (by omega) _ _
    clear hb hcz H7 HD
    generalize iat B.la nm=zo at *
    generalize nv S9 2=dz at *
    have hw1:IntKind.i64.wrap (4000-dz)=4000-dz:=by rw[IntKind.wrap_i64];omega
    refine tq (i:=6) (v:=.int .i64 (4000-dz)) (λhcl=>?_)
    refine anyS_take (i:=7) (v:=.pointer (some ⟨r1,nm,none⟩)) hw (by decide) hcl (noDefer_none rfl) rfl (by kernel_rfl) (by kernel_rfl) (by kernel_rfl) (λ_ _ _ h=>h) ⟨Or.inl ⟨by kernel_rfl,?y7⟩,λ_=>rfl⟩ HSS.out (λhcl=>?_)
    case y7=>
     rintro q c1
     go_simp
     intro hx;omega
    refine anyS_one (i:=8) (by kernel_rfl) (wpOpIn_step rfl (λK hK=>?_))
    go_simp
    refine hK _ _ ⟨Or.inl (by decide),?_⟩
    clear hK K
    refine anyS_done (by kernel_rfl) ?_ _
    clear hw hcl HSS cz fz hw1 hw2 hvd hvd2
    generalize w7.setCell ⟨r1,nm,none⟩ (.int .i64 (4000-dz))=wS at *
    have y0:wS.cell? ⟨g4,0,none⟩=some (.slice (some ⟨r0,0,none⟩) (nm+1) c0):=HR.out.b4.blk.cell (i:=0) rfl
    have y1:wS.cell? ⟨g4,1,none⟩=some (.slice (some ⟨r1,0,none⟩) (nm+1) c1):=HR.out.b4.blk.cell (i:=1) rfl
    have y2:wS.cell? ⟨g4,2,none⟩=some (.slice (some ⟨r2,0,none⟩) (nm+1) c2):=HR.out.b4.blk.cell (i:=2) rfl
    have y3:wS.cell? ⟨g4,3,none⟩=some (.slice (some ⟨r3,0,none⟩) (nm+1) c3):=HR.out.b4.blk.cell (i:=3) rfl
    have y4:wS.cell? ⟨g4,4,none⟩=some (.slice (some ⟨r4,0,none⟩) (nm+1) c4):=HR.out.b4.blk.cell (i:=4) rfl
    have BR:BT wS w.heap.size #[.slice none 0 0,.slice none 0 0,.slice none 0 0,.slice none 0 0,.slice none 0 0] 26:=HR.out.b2
    have x0:wS.cell? ⟨w.heap.size,0,none⟩=some (.slice none 0 0):=BR.blk.cell (i:=0) rfl
    have fz0:=BR.blk.frozen 0
    have x1:wS.cell? ⟨w.heap.size,1,none⟩=some (.slice none 0 0):=BR.blk.cell (i:=1) rfl
    have fz1:=BR.blk.frozen 1
    have x2:wS.cell? ⟨w.heap.size,2,none⟩=some (.slice none 0 0):=BR.blk.cell (i:=2) rfl
    have fz2:=BR.blk.frozen 2
    have x3:wS.cell? ⟨w.heap.size,3,none⟩=some (.slice none 0 0):=BR.blk.cell (i:=3) rfl
    have fz3:=BR.blk.frozen 3
    have x4:wS.cell? ⟨w.heap.size,4,none⟩=some (.slice none 0 0):=BR.blk.cell (i:=4) rfl
    have fz4:=BR.blk.frozen 4
    have BS:=set5 (a0:=.slice (some ⟨r0,0,none⟩) (nm+1) c0) (a1:=.slice (some ⟨r1,0,none⟩) (nm+1) c1) (a2:=.slice (some ⟨r2,0,none⟩) (nm+1) c2) (a3:=.slice (some ⟨r3,0,none⟩) (nm+1) c3) (a4:=.slice (some ⟨r4,0,none⟩) (nm+1) c4) BR
    have P0:Hid (_=some (Value.slice (some ⟨r0,0,none⟩) (nm+1) c0)):=BS.blk.cell (i:=0) rfl
    have P1:Hid (_=some (Value.slice (some ⟨r1,0,none⟩) (nm+1) c1)):=BS.blk.cell (i:=1) rfl
    have P2:Hid (_=some (Value.slice (some ⟨r2,0,none⟩) (nm+1) c2)):=BS.blk.cell (i:=2) rfl
    have P3:Hid (_=some (Value.slice (some ⟨r3,0,none⟩) (nm+1) c3)):=BS.blk.cell (i:=3) rfl
    have P4:Hid (_=some (Value.slice (some ⟨r4,0,none⟩) (nm+1) c4)):=BS.blk.cell (i:=4) rfl
    have HCF:Hid (Chg (λx=>x=w.heap.size) wS (((((wS.setCell ⟨w.heap.size,0,none⟩ (.slice (some ⟨r0,0,none⟩) (nm+1) c0)).setCell ⟨w.heap.size,1,none⟩ (.slice (some ⟨r1,0,none⟩) (nm+1) c1)).setCell ⟨w.heap.size,2,none⟩ (.slice (some ⟨r2,0,none⟩) (nm+1) c2)).setCell ⟨w.heap.size,3,none⟩ (.slice (some ⟨r3,0,none⟩) (nm+1) c3)).setCell ⟨w.heap.size,4,none⟩ (.slice (some ⟨r4,0,none⟩) (nm+1) c4))):=chg5
    clear BS BR
    go_wp2
    generalize hWF:(((((wS.setCell ⟨w.heap.size,0,none⟩ (.slice (some ⟨r0,0,none⟩) (nm+1) c0)).setCell ⟨w.heap.size,1,none⟩ (.slice (some ⟨r1,0,none⟩) (nm+1) c1)).setCell ⟨w.heap.size,2,none⟩ (.slice (some ⟨r2,0,none⟩) (nm+1) c2)).setCell ⟨w.heap.size,3,none⟩ (.slice (some ⟨r3,0,none⟩) (nm+1) c3)).setCell ⟨w.heap.size,4,none⟩ (.slice (some ⟨r4,0,none⟩) (nm+1) c4))=wF at P0 P1 P2 P3 P4 HCF ⊢
    have p0_:=P0.out
    have p1_:=P1.out
    have p2_:=P2.out
    have p3_:=P3.out
    have p4_:=P4.out
    refine bodyPost_ret (v:=.agg #[.slice (some ⟨r0,0,none⟩) (nm+1) c0,.slice (some ⟨r1,0,none⟩) (nm+1) c1,.slice (some ⟨r2,0,none⟩) (nm+1) c2,.slice (some ⟨r3,0,none⟩) (nm+1) c3,.slice (some ⟨r4,0,none⟩) (nm+1) c4]) (by simp[results,Try.results8,go_sem,p0_,p1_,p2_,p3_,p4_]) rfl ?_
    rw[HO.out]
    exact⟨_,_,_,_,_,rfl,HR.out.lay HCF.out (by have h:=HL.out;refine⟨?_,?_,?_,?_,?_⟩<;>simp[h.l0,h.l1,h.l2,h.l3,h.l4]<;>omega)⟩
   ·have HO:Hid (daO auF S=if 2<n then ({ B with la:=(B.la.set i (iat B.la (1+nv S9 ((n:Int)-1)).toNat)).set (1+nv S9 ((n:Int)-1)).toNat (iat B.la i) },ns S9 ((n:Int)-1)) else (B,S9)):=by unfold Hid;rw[HO.out];rfl
    by_cases h2:2<n
    ·rw[if_pos h2] at HO
     have h2':(2:Int)<(n:Int):=by omega
     go_wp2_with fail
     refine(l1Next_any D b S9 ((n:Int)-1) w9 H9.out.src HO9.out (by omega)).mono ?_
     rintro e w10 ⟨rfl,hs9,hc9⟩
     have H10:=mkHid' (H9.out.drawn hs9 hc9)
     clear hs9 hc9
     have hv:=nv_in HO9.out ((n:Int)-1)
     have hv2:=hv.2 (by omega)
     obtain⟨j,hj0⟩:∃j:Nat,1+nv S9 ((n:Int)-1)=j:=⟨(1+nv S9 ((n:Int)-1)).toNat,by omega⟩
     have hj:j<n:=by omega
     have hj':(j:Int)<(n:Int):=by omega
     have hj1:1<=j:=by omega
     rw[hj0,Int.toNat_natCast] at HO
     have hd:nv S9 ((n:Int)-1)=(j:Int)-1:=by omega
     rw[hd]
     have hsj:(1:Int)+((j:Int)-1)=(j:Int):=by omega
     clear hv hv2 hj0 hd H9
     obtain⟨r',c',cs,e,-,-,hb,hcz⟩:=H10.out.o5.o1.open (by rw[HL.out.l1];omega)
     simp only[Value.slice.injEq,Option.some.injEq,Addr.mk.injEq] at e
     obtain⟨⟨rfl,-⟩,-⟩:=e
     have ci:=hcz i (by rw[HL.out.l1];exact hi)
     have cj:=hcz j (by rw[HL.out.l1];exact hj)
     have y1:w10.cell? ⟨g4,1,none⟩=some (.slice (some ⟨r1,0,none⟩) n c1):=H10.out.b4.blk.cell (i:=1) rfl
     clear hb hcz
     generalize hzi:iat B.la i=zi at *
     generalize hzj:iat B.la j=zj at *
     go_upto_region 38 with fail
     clear y1
     have HD:=mkHid' (H10.out.next (show Nx w10 w10.drew from(Below.refl _ _).drew))
     have HCI:Hid (w10.drew.cell? ⟨r1,i,none⟩=some (.int .i64 zi)):=ci
     have HCJ:Hid (w10.drew.cell? ⟨r1,j,none⟩=some (.int .i64 zj)):=cj
     have cz:=HCI.out
     have HSS:Hid ((λq=>q.cell? ⟨g4,1,none⟩=some (.slice (some ⟨r1,0,none⟩) n c1)/\q.cell? ⟨r1,j,none⟩=some (.int .i64 zj)) w10.drew):=⟨HD.out.b4.blk.cell (i:=1) rfl,HCJ.out⟩
     have HR:Hid (AUs D b w.heap.size g4 w (w10.drew.setCell ⟨r1,i,none⟩ (.int .i64 zj)) (ns S9 ((n:Int)-1)) (.slice (some ⟨r0,0,none⟩) n c0) (.slice (some ⟨r1,0,none⟩) n c1) (.slice (some ⟨r2,0,none⟩) n c2) (.slice (some ⟨r3,0,none⟩) n c3) (.slice (some ⟨r4,0,none⟩) n c4) { B with la:=B.la.set i zj }):=HD.out.s1 HL.out.l1 (by omega) i _
     have HFZ:Hid (∃cs,BT w10.drew r1 cs 2):=by
      obtain⟨r',c',cs,e,-,-,hb,hcz⟩:=HD.out.o5.o1.open (by rw[HL.out.l1];omega)
      simp only[Value.slice.injEq,Option.some.injEq,Addr.mk.injEq] at e
      obtain⟨⟨rfl,-⟩,-⟩:=e
      exact⟨cs,hb⟩
     obtain⟨cs2,hb2⟩:=HFZ.out
     have fz:=hb2.blk.frozen i
     clear hb2 HFZ HD ci cj hzi hzj HCI HCJ
     refine(wpIn_wide (n:=9)).1 ?_
     refine wpIn_region_S (c:=9) (S:=λq=>q.cell? ⟨g4,1,none⟩=some (.slice (some ⟨r1,0,none⟩) n c1)/\q.cell? ⟨r1,j,none⟩=some (.int .i64 zj)) hmx (by kernel_rfl) (λhw hcl=>?_)
     generalize w10.drew=wd at *
     refine tq (i:=0) (v:=.pointer (some ⟨g4,1,none⟩)) (λhcl=>?_)
     refine tq (i:=1) (v:=.slice (some ⟨r1,0,none⟩) n c1) (λhcl=>?_)
     refine tq (i:=2) (v:=.int .i64 (i:Int)) (λhcl=>?_)
     refine tq (i:=3) (v:=.pointer (some ⟨g4,1,none⟩)) (λhcl=>?_)
     refine tq (i:=4) (v:=.slice (some ⟨r1,0,none⟩) n c1) (λhcl=>?_)
     refine tq (i:=5) (v:=.int .i64 (j:Int)) (λhcl=>?_)
     refine tq (i:=6) (v:=.pointer (some ⟨r1,j,none⟩)) (λhcl=>?_)
     refine tq (i:=7) (v:=.int .i64 zj) (λhcl=>?_)
     refine tq (i:=8) (v:=.pointer (some ⟨r1,i,none⟩)) (λhcl=>?_)
     refine anyS_one (i:=9) (by kernel_rfl) (wpOpIn_step rfl (λK hK=>?_))
     go_simp
     refine hK _ _ ⟨Or.inl (by decide),?_⟩
     clear hK K
     refine anyS_done (by kernel_rfl) ?_ _
     clear hw hcl HSS cz fz
     generalize wd.setCell ⟨r1,i,none⟩ (.int .i64 zj)=wS at *
     have HL2:Hid (Al5 n { B with la:=B.la.set i zj }):=⟨HL.out.l0,by show(B.la.set i zj).length=n;rw[List.length_set];exact HL.out.l1,HL.out.l2,HL.out.l3,HL.out.l4⟩
     obtain⟨r',c',cs,e,-,-,hb,hcz⟩:=HR.out.o5.o1.open (by rw[HL2.out.l1];omega)
     simp only[Value.slice.injEq,Option.some.injEq,Addr.mk.injEq] at e
     obtain⟨⟨rfl,-⟩,-⟩:=e
     have cj:=hcz j (by rw[HL2.out.l1];exact hj)
     have fj:=hb.blk.frozen j
     have y1:wS.cell? ⟨g4,1,none⟩=some (.slice (some ⟨r1,0,none⟩) n c1):=HR.out.b4.blk.cell (i:=1) rfl
     have HR2:Hid (AUs D b w.heap.size g4 w (wS.setCell ⟨r1,j,none⟩ (.int .i64 zi)) (ns S9 ((n:Int)-1)) (.slice (some ⟨r0,0,none⟩) n c0) (.slice (some ⟨r1,0,none⟩) n c1) (.slice (some ⟨r2,0,none⟩) n c2) (.slice (some ⟨r3,0,none⟩) n c3) (.slice (some ⟨r4,0,none⟩) n c4) { B with la:=(B.la.set i zj).set j zi }):=HR.out.s1 HL2.out.l1 (by omega) j _
     clear hb hcz
     go_upto_region 40 with fail
     clear y1 cj fj
     generalize wS.setCell ⟨r1,j,none⟩ (.int .i64 zi)=wT at *
     have y0:wT.cell? ⟨g4,0,none⟩=some (.slice (some ⟨r0,0,none⟩) n c0):=HR2.out.b4.blk.cell (i:=0) rfl
     have y1:wT.cell? ⟨g4,1,none⟩=some (.slice (some ⟨r1,0,none⟩) n c1):=HR2.out.b4.blk.cell (i:=1) rfl
     have y2:wT.cell? ⟨g4,2,none⟩=some (.slice (some ⟨r2,0,none⟩) n c2):=HR2.out.b4.blk.cell (i:=2) rfl
     have y3:wT.cell? ⟨g4,3,none⟩=some (.slice (some ⟨r3,0,none⟩) n c3):=HR2.out.b4.blk.cell (i:=3) rfl
     have y4:wT.cell? ⟨g4,4,none⟩=some (.slice (some ⟨r4,0,none⟩) n c4):=HR2.out.b4.blk.cell (i:=4) rfl
     have BR:BT wT w.heap.size #[.slice none 0 0,.slice none 0 0,.slice none 0 0,.slice none 0 0,.slice none 0 0] 26:=HR2.out.b2
     have x0:wT.cell? ⟨w.heap.size,0,none⟩=some (.slice none 0 0):=BR.blk.cell (i:=0) rfl
     have fz0:=BR.blk.frozen 0
     have x1:wT.cell? ⟨w.heap.size,1,none⟩=some (.slice none 0 0):=BR.blk.cell (i:=1) rfl
     have fz1:=BR.blk.frozen 1
     have x2:wT.cell? ⟨w.heap.size,2,none⟩=some (.slice none 0 0):=BR.blk.cell (i:=2) rfl
     have fz2:=BR.blk.frozen 2
     have x3:wT.cell? ⟨w.heap.size,3,none⟩=some (.slice none 0 0):=BR.blk.cell (i:=3) rfl
     have fz3:=BR.blk.frozen 3
     have x4:wT.cell? ⟨w.heap.size,4,none⟩=some (.slice none 0 0):=BR.blk.cell (i:=4) rfl
     have fz4:=BR.blk.frozen 4
     have BS:=set5 (a0:=.slice (some ⟨r0,0,none⟩) n c0) (a1:=.slice (some ⟨r1,0,none⟩) n c1) (a2:=.slice (some ⟨r2,0,none⟩) n c2) (a3:=.slice (some ⟨r3,0,none⟩) n c3) (a4:=.slice (some ⟨r4,0,none⟩) n c4) BR
     have P0:Hid (_=some (Value.slice (some ⟨r0,0,none⟩) n c0)):=BS.blk.cell (i:=0) rfl
     have P1:Hid (_=some (Value.slice (some ⟨r1,0,none⟩) n c1)):=BS.blk.cell (i:=1) rfl
     have P2:Hid (_=some (Value.slice (some ⟨r2,0,none⟩) n c2)):=BS.blk.cell (i:=2) rfl
     have P3:Hid (_=some (Value.slice (some ⟨r3,0,none⟩) n c3)):=BS.blk.cell (i:=3) rfl
     have P4:Hid (_=some (Value.slice (some ⟨r4,0,none⟩) n c4)):=BS.blk.cell (i:=4) rfl
     have HCF:Hid (Chg (λx=>x=w.heap.size) wT (((((wT.setCell ⟨w.heap.size,0,none⟩ (.slice (some ⟨r0,0,none⟩) n c0)).setCell ⟨w.heap.size,1,none⟩ (.slice (some ⟨r1,0,none⟩) n c1)).setCell ⟨w.heap.size,2,none⟩ (.slice (some ⟨r2,0,none⟩) n c2)).setCell ⟨w.heap.size,3,none⟩ (.slice (some ⟨r3,0,none⟩) n c3)).setCell ⟨w.heap.size,4,none⟩ (.slice (some ⟨r4,0,none⟩) n c4))):=chg5
     clear BS BR
     go_wp2
     generalize hWF:(((((wT.setCell ⟨w.heap.size,0,none⟩ (.slice (some ⟨r0,0,none⟩) n c0)).setCell ⟨w.heap.size,1,none⟩ (.slice (some ⟨r1,0,none⟩) n c1)).setCell ⟨w.heap.size,2,none⟩ (.slice (some ⟨r2,0,none⟩) n c2)).setCell ⟨w.heap.size,3,none⟩ (.slice (some ⟨r3,0,none⟩) n c3)).setCell ⟨w.heap.size,4,none⟩ (.slice (some ⟨r4,0,none⟩) n c4))=wF at P0 P1 P2 P3 P4 HCF ⊢
     have p0_:=P0.out
     have p1_:=P1.out
     have p2_:=P2.out
     have p3_:=P3.out
     have p4_:=P4.out
     refine bodyPost_ret (v:=.agg #[.slice (some ⟨r0,0,none⟩) n c0,.slice (some ⟨r1,0,none⟩) n c1,.slice (some ⟨r2,0,none⟩) n c2,.slice (some ⟨r3,0,none⟩) n c3,.slice (some ⟨r4,0,none⟩) n c4]) (by simp[results,Try.results8,go_sem,p0_,p1_,p2_,p3_,p4_]) rfl ?_
     rw[HO.out]
     exact⟨_,_,_,_,_,rfl,HR2.out.lay HCF.out (by have h:=HL.out;refine⟨?_,?_,?_,?_,?_⟩<;>simp[h.l0,h.l1,h.l2,h.l3,h.l4]<;>omega)⟩
    ·rw[if_neg h2] at HO
     have h2':¬(2:Int)<(n:Int):=by omega
     have y0:w9.cell? ⟨g4,0,none⟩=some (.slice (some ⟨r0,0,none⟩) n c0):=H9.out.b4.blk.cell (i:=0) rfl
     have y1:w9.cell? ⟨g4,1,none⟩=some (.slice (some ⟨r1,0,none⟩) n c1):=H9.out.b4.blk.cell (i:=1) rfl
     have y2:w9.cell? ⟨g4,2,none⟩=some (.slice (some ⟨r2,0,none⟩) n c2):=H9.out.b4.blk.cell (i:=2) rfl
     have y3:w9.cell? ⟨g4,3,none⟩=some (.slice (some ⟨r3,0,none⟩) n c3):=H9.out.b4.blk.cell (i:=3) rfl
     have y4:w9.cell? ⟨g4,4,none⟩=some (.slice (some ⟨r4,0,none⟩) n c4):=H9.out.b4.blk.cell (i:=4) rfl
     have BR:BT w9 w.heap.size #[.slice none 0 0,.slice none 0 0,.slice none 0 0,.slice none 0 0,.slice none 0 0] 26:=H9.out.b2
     have x0:w9.cell? ⟨w.heap.size,0,none⟩=some (.slice none 0 0):=BR.blk.cell (i:=0) rfl
     have fz0:=BR.blk.frozen 0
     have x1:w9.cell? ⟨w.heap.size,1,none⟩=some (.slice none 0 0):=BR.blk.cell (i:=1) rfl
     have fz1:=BR.blk.frozen 1
     have x2:w9.cell? ⟨w.heap.size,2,none⟩=some (.slice none 0 0):=BR.blk.cell (i:=2) rfl
     have fz2:=BR.blk.frozen 2
     have x3:w9.cell? ⟨w.heap.size,3,none⟩=some (.slice none 0 0):=BR.blk.cell (i:=3) rfl
     have fz3:=BR.blk.frozen 3
     have x4:w9.cell? ⟨w.heap.size,4,none⟩=some (.slice none 0 0):=BR.blk.cell (i:=4) rfl
     have fz4:=BR.blk.frozen 4
     have BS:=set5 (a0:=.slice (some ⟨r0,0,none⟩) n c0) (a1:=.slice (some ⟨r1,0,none⟩) n c1) (a2:=.slice (some ⟨r2,0,none⟩) n c2) (a3:=.slice (some ⟨r3,0,none⟩) n c3) (a4:=.slice (some ⟨r4,0,none⟩) n c4) BR
     have P0:Hid (_=some (Value.slice (some ⟨r0,0,none⟩) n c0)):=BS.blk.cell (i:=0) rfl
     have P1:Hid (_=some (Value.slice (some ⟨r1,0,none⟩) n c1)):=BS.blk.cell (i:=1) rfl
     have P2:Hid (_=some (Value.slice (some ⟨r2,0,none⟩) n c2)):=BS.blk.cell (i:=2) rfl
     have P3:Hid (_=some (Value.slice (some ⟨r3,0,none⟩) n c3)):=BS.blk.cell (i:=3) rfl
     have P4:Hid (_=some (Value.slice (some ⟨r4,0,none⟩) n c4)):=BS.blk.cell (i:=4) rfl
     have HCF:Hid (Chg (λx=>x=w.heap.size) w9 (((((w9.setCell ⟨w.heap.size,0,none⟩ (.slice (some ⟨r0,0,none⟩) n c0)).setCell ⟨w.heap.size,1,none⟩ (.slice (some ⟨r1,0,none⟩) n c1)).setCell ⟨w.heap.size,2,none⟩ (.slice (some ⟨r2,0,none⟩) n c2)).setCell ⟨w.heap.size,3,none⟩ (.slice (some ⟨r3,0,none⟩) n c3)).setCell ⟨w.heap.size,4,none⟩ (.slice (some ⟨r4,0,none⟩) n c4))):=chg5
     clear BS BR
     go_wp2
     generalize hWF:(((((w9.setCell ⟨w.heap.size,0,none⟩ (.slice (some ⟨r0,0,none⟩) n c0)).setCell ⟨w.heap.size,1,none⟩ (.slice (some ⟨r1,0,none⟩) n c1)).setCell ⟨w.heap.size,2,none⟩ (.slice (some ⟨r2,0,none⟩) n c2)).setCell ⟨w.heap.size,3,none⟩ (.slice (some ⟨r3,0,none⟩) n c3)).setCell ⟨w.heap.size,4,none⟩ (.slice (some ⟨r4,0,none⟩) n c4))=wF at P0 P1 P2 P3 P4 HCF ⊢
     have p0_:=P0.out
     have p1_:=P1.out
     have p2_:=P2.out
     have p3_:=P3.out
     have p4_:=P4.out
     refine bodyPost_ret (v:=.agg #[.slice (some ⟨r0,0,none⟩) n c0,.slice (some ⟨r1,0,none⟩) n c1,.slice (some ⟨r2,0,none⟩) n c2,.slice (some ⟨r3,0,none⟩) n c3,.slice (some ⟨r4,0,none⟩) n c4]) (by simp[results,Try.results8,go_sem,p0_,p1_,p2_,p3_,p4_]) rfl ?_
     rw[HO.out]
     exact⟨_,_,_,_,_,rfl,H9.out.lay HCF.out (by have h:=HL.out;refine⟨?_,?_,?_,?_,?_⟩<;>simp[h.l0,h.l1,h.l2,h.l3,h.l4]<;>omega)⟩
   ·have HO:Hid (daO auF S=(auZ,S9)):=by unfold Hid;rw[HO.out];rfl
    have BR:BT w9 w.heap.size #[.slice none 0 0,.slice none 0 0,.slice none 0 0,.slice none 0 0,.slice none 0 0] 26:=H9.out.b2
    have x0:w9.cell? ⟨w.heap.size,0,none⟩=some (.slice none 0 0):=BR.blk.cell (i:=0) rfl
    have fz0:=BR.blk.frozen 0
    have x1:w9.cell? ⟨w.heap.size,1,none⟩=some (.slice none 0 0):=BR.blk.cell (i:=1) rfl
    have fz1:=BR.blk.frozen 1
    have x2:w9.cell? ⟨w.heap.size,2,none⟩=some (.slice none 0 0):=BR.blk.cell (i:=2) rfl
    have fz2:=BR.blk.frozen 2
    have x3:w9.cell? ⟨w.heap.size,3,none⟩=some (.slice none 0 0):=BR.blk.cell (i:=3) rfl
    have fz3:=BR.blk.frozen 3
    have x4:w9.cell? ⟨w.heap.size,4,none⟩=some (.slice none 0 0):=BR.blk.cell (i:=4) rfl
    have fz4:=BR.blk.frozen 4
    have BS:=set5 (a0:=.slice none 0 0) (a1:=.slice none 0 0) (a2:=.slice none 0 0) (a3:=.slice none 0 0) (a4:=.slice none 0 0) BR
    have P0:Hid (_=some (Value.slice none 0 0)):=BS.blk.cell (i:=0) rfl
    have P1:Hid (_=some (Value.slice none 0 0)):=BS.blk.cell (i:=1) rfl
    have P2:Hid (_=some (Value.slice none 0 0)):=BS.blk.cell (i:=2) rfl
    have P3:Hid (_=some (Value.slice none 0 0)):=BS.blk.cell (i:=3) rfl
    have P4:Hid (_=some (Value.slice none 0 0)):=BS.blk.cell (i:=4) rfl
    have HCF:Hid (Chg (λx=>x=w.heap.size) w9 (((((w9.setCell ⟨w.heap.size,0,none⟩ (.slice none 0 0)).setCell ⟨w.heap.size,1,none⟩ (.slice none 0 0)).setCell ⟨w.heap.size,2,none⟩ (.slice none 0 0)).setCell ⟨w.heap.size,3,none⟩ (.slice none 0 0)).setCell ⟨w.heap.size,4,none⟩ (.slice none 0 0))):=chg5
    clear BS BR
    go_wp2
    generalize hWF:(((((w9.setCell ⟨w.heap.size,0,none⟩ (.slice none 0 0)).setCell ⟨w.heap.size,1,none⟩ (.slice none 0 0)).setCell ⟨w.heap.size,2,none⟩ (.slice none 0 0)).setCell ⟨w.heap.size,3,none⟩ (.slice none 0 0)).setCell ⟨w.heap.size,4,none⟩ (.slice none 0 0))=wF at P0 P1 P2 P3 P4 HCF ⊢
    have p0_:=P0.out
    have p1_:=P1.out
    have p2_:=P2.out
    have p3_:=P3.out
    have p4_:=P4.out
    refine bodyPost_ret (v:=.agg #[.slice none 0 0,.slice none 0 0,.slice none 0 0,.slice none 0 0,.slice none 0 0]) (by simp[results,Try.results8,go_sem,p0_,p1_,p2_,p3_,p4_]) rfl ?_
    rw[HO.out]
    exact⟨_,_,_,_,_,rfl,AOut.nil' (H9.out.lay HCF.out (by have h:=HL.out;refine⟨?_,?_,?_,?_,?_⟩<;>simp[h.l0,h.l1,h.l2,h.l3,h.l4]<;>omega))⟩
end Go.Proofs.Ytdpfdkihbgmapaa
