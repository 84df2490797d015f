import Derived.Test.YthhkjbfkgdlkmaaGreatDoorPD
namespace Go.Proofs.YthhkjbfkgdlkmaaGreatDoor
open Go.RowKit Go.Sort
set_option linter.unusedVariables false
set_option maxRecDepth 1000000
set_option maxHeartbeats 16000000
theorem rd_turn (C:Nat)(a:Option Addr)(n c:Nat)(f:List ByteArray)(w:World)(h:OwnSt C w (.slice a n c) f)(hn:f.length=n)(hl:n<=204)(hs:∀i,i<n->(sat f i).size<=300000)(hw:(sat f 0).toList=[116,117,114,110])(hc:n=4) :
  Calls Tryz.prog 16 #[.slice a n c] w λe w'=>(∃vn vw vr nn nw,e=.returned (deV (rdS f) vn vw vr nn nw)/\HDe w.heap.size w' (rdS f) vn vw vr nn nw)/\Nx w w':=by
 have HCC:=mkHid' hc
 have hc1:2<=n:=by omega
 clear hc
 have HO:Hid (OwnSt C w (.slice a n c) f):=h
 have HN:Hid (f.length=n):=hn
 have HSZ:Hid (∀i,i<n->(sat f i).size<=300000):=hs
 obtain⟨g,rfl,-,hg,hc0⟩:=OwnSt.at h (i:=0) (by omega)
 have HC:Hid (∀i,i<n->w.cell? ⟨g,i,none⟩=some (.string (sat f i))):=λi hi=>by
  obtain⟨g',e,-,-,hc⟩:=OwnSt.at HO.out (i:=i) (by rw[HN.out];exact hi)
  have e':g=g':=by simpa using e
  rw[e'];exact hc
 clear h hs hn hc0
 have HVL:Hid ((vsL f).length=n):=by unfold Hid;rw[vsL_len];exact HN.out
 have HVT:Hid (∀k,k<n->(vsL f).take (k+1)=(vsL f).take k++[valS (sat f k)]):=λk hk=>by rw[List.take_succ_eq_append_getElem (by rw[HVL.out];exact hk),<-iat_eq,vsL_at (by rw[HN.out];exact hk)]
 go_enter Tryz.func16,Tryz.ntmps16
 go_upto_region 3 with fail
 generalize hWA:((w.alloc (.cells #[.int .i64 0,.int .i64 0,.int .i64 0,.int .i64 0,.bool false,.slice none 0 0,.slice none 0 0,.int .i64 0,.bool false,.int .i64 0,.int .i64 0,.bool false,.int .i64 0,.slice none 0 0,.int .i64 0,.slice none 0 0,.slice none 0 0] 49)).alloc (.cells #[.int .i64 0,.int .i64 0,.int .i64 0,.int .i64 0,.bool false,.slice none 0 0,.slice none 0 0,.int .i64 0,.bool false,.int .i64 0,.int .i64 0,.bool false,.int .i64 0,.slice none 0 0,.int .i64 0,.slice none 0 0,.slice none 0 0] 49)).alloc (.cells #[] 2)=wA
 have HM:Hid (MS w wA [(w.heap.size,#[.int .i64 0,.int .i64 0,.int .i64 0,.int .i64 0,.bool false,.slice none 0 0,.slice none 0 0,.int .i64 0,.bool false,.int .i64 0,.int .i64 0,.bool false,.int .i64 0,.slice none 0 0,.int .i64 0,.slice none 0 0,.slice none 0 0],49),(w.heap.size+1,#[.int .i64 0,.int .i64 0,.int .i64 0,.int .i64 0,.bool false,.slice none 0 0,.slice none 0 0,.int .i64 0,.bool false,.int .i64 0,.int .i64 0,.bool false,.int .i64 0,.slice none 0 0,.int .i64 0,.slice none 0 0,.slice none 0 0],49)] [(.slice (some ⟨w.heap.size+2,0,none⟩) 0 0,(vsL f).take 0)]):=by
  unfold Hid
  rw[<-hWA]
  have m1:=((MS.start w).addBox #[.int .i64 0,.int .i64 0,.int .i64 0,.int .i64 0,.bool false,.slice none 0 0,.slice none 0 0,.int .i64 0,.bool false,.int .i64 0,.int .i64 0,.bool false,.int .i64 0,.slice none 0 0,.int .i64 0,.slice none 0 0,.slice none 0 0] 49 (by decide)).addBox #[.int .i64 0,.int .i64 0,.int .i64 0,.int .i64 0,.bool false,.slice none 0 0,.slice none 0 0,.int .i64 0,.bool false,.int .i64 0,.int .i64 0,.bool false,.int .i64 0,.slice none 0 0,.int .i64 0,.slice none 0 0,.slice none 0 0] 49 (by decide)
  have m2:=m1.newRow
  rw[size_alloc',size_alloc'] at m2
  rw[size_alloc'] at m2
  exact m2
 clear hWA
 go_wp2
 go_loopw [4,5] (λs4 s5 wr=>∃(k cv:Nat) (av:Option Addr),k<=n/\s5=.int .i64 k/\s4=.slice av k cv/\Hid (MS w wr [(w.heap.size,#[.int .i64 0,.int .i64 0,.int .i64 0,.int .i64 0,.bool false,.slice none 0 0,.slice none 0 0,.int .i64 0,.bool false,.int .i64 0,.int .i64 0,.bool false,.int .i64 0,.slice none 0 0,.int .i64 0,.slice none 0 0,.slice none 0 0],49),(w.heap.size+1,#[.int .i64 0,.int .i64 0,.int .i64 0,.int .i64 0,.bool false,.slice none 0 0,.slice none 0 0,.int .i64 0,.bool false,.int .i64 0,.int .i64 0,.bool false,.int .i64 0,.slice none 0 0,.int .i64 0,.slice none 0 0,.slice none 0 0],49)] [(.slice av k cv,(vsL f).take k)])) (λ_ i _=>n-(intOf i).toNat)
 case atStart=>exact⟨0,0,_,Nat.zero_le _,rfl,rfl,HM⟩
 clear HM
 obtain⟨k,cv,av,hkn,rfl,rfl,HM⟩:=hrel
 by_cases hlt:k<n
 ·have hlt':(k:Int)<n:=by omega
  have xk:=cellq HM.out.nx (HC.out k hlt)
  go_wp2_with fail
  refine(l1Value_any (sat f k) wr (by have:=HSZ.out k hlt;omega)).mono ?_
  rintro e w1 ⟨rfl,hx⟩
  have HM1:=mkHid' (HM.out.next hx)
  have HTL:Hid (((vsL f).take k).length=k):=by unfold Hid;rw[List.length_take,HVL.out];omega
  have HT1:=mkHid' (HVT.out k hlt)
  have hzz:w.heap.size<=w1.heap.size:=HM1.out.nx.size
  have hvi:=valS_in (sat f k)
  clear hx xk HM
  generalize valS (sat f k)=z at *
  go_wp2_with (at_builtin;refine app_int rfl _ _ rfl w.heap.size k (.slice av k cv) ((vsL f).take k) z w1 rfl (HM1.out.row 0 rfl) rfl HTL.out (by omega) hzz ?_)
  intro a1 c1 w2 r1 r2 r3
  rw[<-HT1.out] at r1
  have HM2:Hid (MS w w2 [(w.heap.size,#[.int .i64 0,.int .i64 0,.int .i64 0,.int .i64 0,.bool false,.slice none 0 0,.slice none 0 0,.int .i64 0,.bool false,.int .i64 0,.int .i64 0,.bool false,.int .i64 0,.slice none 0 0,.int .i64 0,.slice none 0 0,.slice none 0 0],49),(w.heap.size+1,#[.int .i64 0,.int .i64 0,.int .i64 0,.int .i64 0,.bool false,.slice none 0 0,.slice none 0 0,.int .i64 0,.bool false,.int .i64 0,.int .i64 0,.bool false,.int .i64 0,.slice none 0 0,.int .i64 0,.slice none 0 0,.slice none 0 0],49)] [(.slice a1 (k+1) c1,(vsL f).take (k+1))]):=HM1.out.grow 0 rfl r1 r2 r3
  clear r1 r2 r3 HM1
  go_wp2
  go_roundw
  case rel=>exact⟨k+1,c1,a1,by omega,by go_num,rfl,HM2⟩
  case measure=>simp[intOf];omega
 have ek:k=n:=by omega
 subst ek
 have HVA:Hid ((vsL f).take k=vsL f):=List.take_of_length_le (by rw[HVL.out];exact Nat.le_refl _)
 rw[HVA.out] at HM
 obtain⟨gv,cv',csv,ev,hgv,-,-,hcv⟩:=(HM.out.row 0 rfl).open (by rw[HVL.out];omega)
 rw[HVL.out] at ev hcv
 simp only[Value.slice.injEq] at ev
 obtain⟨rfl,-,rfl⟩:=ev
 clear hcv csv hlt hkn
 have HVC:Hid (∀{q:World}{bl:List (Nat×Array Value×Nat)}{rs:List (Value×List Int)},MS w q bl rs->rs[0]?=some (.slice (some ⟨gv,0,none⟩) k cv,vsL f)->∀i,i<k->q.cell? ⟨gv,i,none⟩=some (.int .i64 (iat (vsL f) i))):=λhM h0 i hi=>((hM.row 0 h0).in (by rw[HVL.out];exact hi)).2.2
 have HFC:Hid (∀{q:World},Nx w q->∀i,i<k->q.cell? ⟨g,i,none⟩=some (.string (sat f i))):=λhx i hi=>cellq hx (HC.out i hi)
 have hx:(sat f 0).toList=[116,117,114,110]:=hw
 have HRL:Hid (relB (sat f 0)=false):=by unfold Hid relB;rw[hx];rfl
 have HRD:Hid (rdS f=⟨4,iat (vsL f) 1,iat (vsL f) 2,zWy,zRl,iat (vsL f) 3,[],[]++[iat (vsL f) 1]++[iat (vsL f) 2]⟩):=by unfold Hid rdS;rw[HRL.out,hx];rfl
 have hmx:Tryz.prog.follows .mixedOrders=true:=by kernel_rfl
 have hk4:4<=k:=by have:=HCC.out;omega
 have hk1:(1:Int)<(k:Int):=by omega
 have hk2:(2:Int)<(k:Int):=by omega
 have hk3:(3:Int)<(k:Int):=by omega
 have HS1:Hid (MS w wr [(w.heap.size,#[.int .i64 0,.int .i64 0,.int .i64 0,.int .i64 0,.bool false,.slice none 0 0,.slice none 0 0,.int .i64 0,.bool false,.int .i64 0,.int .i64 0,.bool false,.int .i64 0,.slice none 0 0,.int .i64 0,.slice none 0 0,.slice none 0 0],49),(w.heap.size+1,#[.int .i64 0,.int .i64 0,.int .i64 0,.int .i64 0,.bool false,.slice none 0 0,.slice none 0 0,.int .i64 0,.bool false,.int .i64 0,.int .i64 0,.bool false,.int .i64 0,.slice none 0 0,.int .i64 0,.slice none 0 0,.slice none 0 0],49)] [(.slice (some ⟨gv,0,none⟩) k cv,vsL f),(.slice none 0 0,[])]):=HM.out.addNil
 clear HM
 have xf:=HFC.out HS1.out.nx 0 (by omega)
 go_wp2_with fail
 refine(l1IsRelation_any (sat f 0) wr).mono ?_
 rintro e ws2 ⟨rfl,hxr⟩
 rw[HRL.out]
 have HS2:=mkHid' (HS1.out.next hxr)
 clear hxr HS1
 clear xf
 have xf:=HFC.out HS2.out.nx 0 (by omega)
 have q_:ws2.cell? ⟨w.heap.size+1,0,none⟩=some (.int .i64 0):=(HS2.out.box 1 rfl).blk.cell (i:=0) rfl
 have f_:=(HS2.out.box 1 rfl).blk.frozen 0
 go_upto_region 40 with fail
 generalize hW:ws2.setCell ⟨w.heap.size+1,0,none⟩ (.int .i64 4)=ws3
 have HS3:Hid (MS w ws3 [(w.heap.size,#[.int .i64 0,.int .i64 0,.int .i64 0,.int .i64 0,.bool false,.slice none 0 0,.slice none 0 0,.int .i64 0,.bool false,.int .i64 0,.int .i64 0,.bool false,.int .i64 0,.slice none 0 0,.int .i64 0,.slice none 0 0,.slice none 0 0],49),(w.heap.size+1,#[.int .i64 4,.int .i64 0,.int .i64 0,.int .i64 0,.bool false,.slice none 0 0,.slice none 0 0,.int .i64 0,.bool false,.int .i64 0,.int .i64 0,.bool false,.int .i64 0,.slice none 0 0,.int .i64 0,.slice none 0 0,.slice none 0 0],49)] [(.slice (some ⟨gv,0,none⟩) k cv,vsL f),(.slice none 0 0,[])]):=by unfold Hid;rw[<-hW];exact HS2.out.set 1 rfl 0 (.int .i64 4)
 clear hW q_ f_ HS2
 have xv:=HVC.out HS3.out rfl 1 (by omega)
 have q_:ws3.cell? ⟨w.heap.size+1,1,none⟩=some (.int .i64 0):=(HS3.out.box 1 rfl).blk.cell (i:=1) rfl
 have f_:=(HS3.out.box 1 rfl).blk.frozen 1
 go_upto_region 41 with fail
 generalize hW:ws3.setCell ⟨w.heap.size+1,1,none⟩ (.int .i64 (iat (vsL f) 1))=ws4
 have HS4:Hid (MS w ws4 [(w.heap.size,#[.int .i64 0,.int .i64 0,.int .i64 0,.int .i64 0,.bool false,.slice none 0 0,.slice none 0 0,.int .i64 0,.bool false,.int .i64 0,.int .i64 0,.bool false,.int .i64 0,.slice none 0 0,.int .i64 0,.slice none 0 0,.slice none 0 0],49),(w.heap.size+1,#[.int .i64 4,.int .i64 (iat (vsL f) 1),.int .i64 0,.int .i64 0,.bool false,.slice none 0 0,.slice none 0 0,.int .i64 0,.bool false,.int .i64 0,.int .i64 0,.bool false,.int .i64 0,.slice none 0 0,.int .i64 0,.slice none 0 0,.slice none 0 0],49)] [(.slice (some ⟨gv,0,none⟩) k cv,vsL f),(.slice none 0 0,[])]):=by unfold Hid;rw[<-hW];exact HS3.out.set 1 rfl 1 (.int .i64 (iat (vsL f) 1))
 clear hW q_ f_ HS3
 clear xv
 have xv:=HVC.out HS4.out rfl 2 (by omega)
 have q_:ws4.cell? ⟨w.heap.size+1,2,none⟩=some (.int .i64 0):=(HS4.out.box 1 rfl).blk.cell (i:=2) rfl
 have f_:=(HS4.out.box 1 rfl).blk.frozen 2
 go_upto_region 42 with fail
 generalize hW:ws4.setCell ⟨w.heap.size+1,2,none⟩ (.int .i64 (iat (vsL f) 2))=ws5
 have HS5:Hid (MS w ws5 [(w.heap.size,#[.int .i64 0,.int .i64 0,.int .i64 0,.int .i64 0,.bool false,.slice none 0 0,.slice none 0 0,.int .i64 0,.bool false,.int .i64 0,.int .i64 0,.bool false,.int .i64 0,.slice none 0 0,.int .i64 0,.slice none 0 0,.slice none 0 0],49),(w.heap.size+1,#[.int .i64 4,.int .i64 (iat (vsL f) 1),.int .i64 (iat (vsL f) 2),.int .i64 0,.bool false,.slice none 0 0,.slice none 0 0,.int .i64 0,.bool false,.int .i64 0,.int .i64 0,.bool false,.int .i64 0,.slice none 0 0,.int .i64 0,.slice none 0 0,.slice none 0 0],49)] [(.slice (some ⟨gv,0,none⟩) k cv,vsL f),(.slice none 0 0,[])]):=by unfold Hid;rw[<-hW];exact HS4.out.set 1 rfl 2 (.int .i64 (iat (vsL f) 2))
 clear hW q_ f_ HS4
 clear xv
 have xv:=HVC.out HS5.out rfl 3 (by omega)
 have q_:ws5.cell? ⟨w.heap.size+1,14,none⟩=some (.int .i64 0):=(HS5.out.box 1 rfl).blk.cell (i:=14) rfl
 have f_:=(HS5.out.box 1 rfl).blk.frozen 14
 go_upto_region 43 with fail
 generalize hW:ws5.setCell ⟨w.heap.size+1,14,none⟩ (.int .i64 (iat (vsL f) 3))=ws6
 have HS6:Hid (MS w ws6 [(w.heap.size,#[.int .i64 0,.int .i64 0,.int .i64 0,.int .i64 0,.bool false,.slice none 0 0,.slice none 0 0,.int .i64 0,.bool false,.int .i64 0,.int .i64 0,.bool false,.int .i64 0,.slice none 0 0,.int .i64 0,.slice none 0 0,.slice none 0 0],49),(w.heap.size+1,#[.int .i64 4,.int .i64 (iat (vsL f) 1),.int .i64 (iat (vsL f) 2),.int .i64 0,.bool false,.slice none 0 0,.slice none 0 0,.int .i64 0,.bool false,.int .i64 0,.int .i64 0,.bool false,.int .i64 0,.slice none 0 0,.int .i64 (iat (vsL f) 3),.slice none 0 0,.slice none 0 0],49)] [(.slice (some ⟨gv,0,none⟩) k cv,vsL f),(.slice none 0 0,[])]):=by unfold Hid;rw[<-hW];exact HS5.out.set 1 rfl 14 (.int .i64 (iat (vsL f) 3))
 clear hW q_ f_ HS5
 clear xv xf
 have q_:ws6.cell? ⟨w.heap.size+1,16,none⟩=some (.slice none 0 0):=(HS6.out.box 1 rfl).blk.cell (i:=16) rfl
 have xv_:=HVC.out HS6.out rfl (1) (by omega)
 go_upto_region 43 with fail
 have hxd:Nx ws6 ws6.drew:=(Below.refl _ _).drew
 have HD7:=mkHid' (HS6.out.next hxd)
 have HSS:Hid ((λq=>q.cell? ⟨w.heap.size+1,16,none⟩=some (.slice none 0 0)/\q.cell? ⟨gv,1,none⟩=some (.int .i64 (iat (vsL f) 1))) ws6.drew):=⟨cellq hxd q_,cellq hxd xv_⟩
 clear HS6 q_ xv_ hxd
 refine(wpIn_wide (n:=9)).1 ?_
 refine wpIn_region_S (c:=8) (S:=λq=>q.cell? ⟨w.heap.size+1,16,none⟩=some (.slice none 0 0)/\q.cell? ⟨gv,1,none⟩=some (.int .i64 (iat (vsL f) 1))) hmx (by kernel_rfl) (λhw hcl=>?_)
 generalize ws6.drew=wd7 at *
 refine tq (i:=0) (v:=.pointer (some ⟨w.heap.size+1,16,none⟩)) (λhcl=>?_)
 refine tq (i:=1) (v:=.slice none 0 0) (λhcl=>?_)
 refine tq (i:=2) (v:=.slice (some ⟨gv,0,none⟩) k cv) (λhcl=>?_)
 refine tq (i:=3) (v:=.pointer (some ⟨gv,1,none⟩)) (λhcl=>?_)
 refine tq (i:=4) (v:=.int .i64 (iat (vsL f) 1)) (λhcl=>?_)
 refine anyS_one2 (i:=5) (by kernel_rfl) hcl (λhcl=>wpOpIn_step rfl (λK hK=>?_))
 go_simp
 refine hK _ _ ⟨Or.inr ⟨cellq (box1 _ _) HSS.out.1,cellq (box1 _ _) HSS.out.2⟩,?_⟩
 clear hK K
 have hzz:w.heap.size<=wd7.heap.size:=HD7.out.nx.size
 refine anyS_one2 (i:=6) (by kernel_rfl) hcl (λhcl=>wpOpIn_step rfl (λK hK=>?_))
 refine app_int_in rfl (.tmp 192) (.tmp 196) rfl w.heap.size (0) (.slice none 0 0) ([]) (iat (vsL f) 1) wd7 _ rfl (by simp[Act.eval]) (HD7.out.row 1 rfl) (by simp[Act.eval]) (rfl) (by omega) hzz ?_
 intro ar7 cr7 wx7 r1 r2 r3
 have HE7:Hid (MS w wx7 [(w.heap.size,#[.int .i64 0,.int .i64 0,.int .i64 0,.int .i64 0,.bool false,.slice none 0 0,.slice none 0 0,.int .i64 0,.bool false,.int .i64 0,.int .i64 0,.bool false,.int .i64 0,.slice none 0 0,.int .i64 0,.slice none 0 0,.slice none 0 0],49),(w.heap.size+1,#[.int .i64 4,.int .i64 (iat (vsL f) 1),.int .i64 (iat (vsL f) 2),.int .i64 0,.bool false,.slice none 0 0,.slice none 0 0,.int .i64 0,.bool false,.int .i64 0,.int .i64 0,.bool false,.int .i64 0,.slice none 0 0,.int .i64 (iat (vsL f) 3),.slice none 0 0,.slice none 0 0],49)] [(.slice (some ⟨gv,0,none⟩) k cv,vsL f),(.slice ar7 (0+1) cr7,[]++[iat (vsL f) 1])]):=HD7.out.grow 1 rfl r1 r2 r3
 clear r1 r2 r3 hzz
 clear HSS
 have HSS:Hid ((λq=>q.cell? ⟨w.heap.size+1,16,none⟩=some (.slice none 0 0)/\q.cell? ⟨gv,1,none⟩=some (.int .i64 (iat (vsL f) 1))) wx7):=⟨(HE7.out.box 1 rfl).blk.cell (i:=16) rfl,HVC.out HE7.out rfl (1) (by omega)⟩
 refine hK _ _ ⟨Or.inr HSS.out,?_⟩
 clear hK K HD7
 refine tq (i:=7) (v:=.pointer (some ⟨w.heap.size+1,16,none⟩)) (λhcl=>?_)
 have q_:wx7.cell? ⟨w.heap.size+1,16,none⟩=some (.slice none 0 0):=(HE7.out.box 1 rfl).blk.cell (i:=16) rfl
 have f_:=(HE7.out.box 1 rfl).blk.frozen 16
 refine anyS_one (i:=8) (by kernel_rfl) (wpOpIn_step rfl (λK hK=>?_))
 go_simp
 refine hK _ _ ⟨Or.inl (by decide),?_⟩
 clear hK K
 refine anyS_done (by kernel_rfl) ?_ _
 clear hw hcl q_ f_ HSS
 generalize hW:wx7.setCell ⟨w.heap.size+1,16,none⟩ (.slice ar7 (0+1) cr7)=ws7
 have HS7:Hid (MS w ws7 [(w.heap.size,#[.int .i64 0,.int .i64 0,.int .i64 0,.int .i64 0,.bool false,.slice none 0 0,.slice none 0 0,.int .i64 0,.bool false,.int .i64 0,.int .i64 0,.bool false,.int .i64 0,.slice none 0 0,.int .i64 0,.slice none 0 0,.slice none 0 0],49),(w.heap.size+1,#[.int .i64 4,.int .i64 (iat (vsL f) 1),.int .i64 (iat (vsL f) 2),.int .i64 0,.bool false,.slice none 0 0,.slice none 0 0,.int .i64 0,.bool false,.int .i64 0,.int .i64 0,.bool false,.int .i64 0,.slice none 0 0,.int .i64 (iat (vsL f) 3),.slice none 0 0,.slice ar7 (0+1) cr7],49)] [(.slice (some ⟨gv,0,none⟩) k cv,vsL f),(.slice ar7 (0+1) cr7,[]++[iat (vsL f) 1])]):=by unfold Hid;rw[<-hW];exact HE7.out.set 1 rfl 16 (.slice ar7 (0+1) cr7)
 clear hW HE7
 have q_:ws7.cell? ⟨w.heap.size+1,16,none⟩=some (.slice ar7 (0+1) cr7):=(HS7.out.box 1 rfl).blk.cell (i:=16) rfl
 have xv_:=HVC.out HS7.out rfl (2) (by omega)
 go_upto_region 44 with fail
 have hxd:Nx ws7 ws7.drew:=(Below.refl _ _).drew
 have HD8:=mkHid' (HS7.out.next hxd)
 have HSS:Hid ((λq=>q.cell? ⟨w.heap.size+1,16,none⟩=some (.slice ar7 (0+1) cr7)/\q.cell? ⟨gv,2,none⟩=some (.int .i64 (iat (vsL f) 2))) ws7.drew):=⟨cellq hxd q_,cellq hxd xv_⟩
 clear HS7 q_ xv_ hxd
 refine(wpIn_wide (n:=9)).1 ?_
 refine wpIn_region_S (c:=8) (S:=λq=>q.cell? ⟨w.heap.size+1,16,none⟩=some (.slice ar7 (0+1) cr7)/\q.cell? ⟨gv,2,none⟩=some (.int .i64 (iat (vsL f) 2))) hmx (by kernel_rfl) (λhw hcl=>?_)
 generalize ws7.drew=wd8 at *
 refine tq (i:=0) (v:=.pointer (some ⟨w.heap.size+1,16,none⟩)) (λhcl=>?_)
 refine tq (i:=1) (v:=.slice ar7 (0+1) cr7) (λhcl=>?_)
 refine tq (i:=2) (v:=.slice (some ⟨gv,0,none⟩) k cv) (λhcl=>?_)
 refine tq (i:=3) (v:=.pointer (some ⟨gv,2,none⟩)) (λhcl=>?_)
 refine tq (i:=4) (v:=.int .i64 (iat (vsL f) 2)) (λhcl=>?_)
 refine anyS_one2 (i:=5) (by kernel_rfl) hcl (λhcl=>wpOpIn_step rfl (λK hK=>?_))
 go_simp
 refine hK _ _ ⟨Or.inr ⟨cellq (box1 _ _) HSS.out.1,cellq (box1 _ _) HSS.out.2⟩,?_⟩
 clear hK K
 have hzz:w.heap.size<=wd8.heap.size:=HD8.out.nx.size
 refine anyS_one2 (i:=6) (by kernel_rfl) hcl (λhcl=>wpOpIn_step rfl (λK hK=>?_))
 refine app_int_in rfl (.tmp 200) (.tmp 204) rfl w.heap.size (0+1) (.slice ar7 (0+1) cr7) ([]++[iat (vsL f) 1]) (iat (vsL f) 2) wd8 _ rfl (by simp[Act.eval]) (HD8.out.row 1 rfl) (by simp[Act.eval]) (rfl) (by omega) hzz ?_
 intro ar8 cr8 wx8 r1 r2 r3
 have HE8:Hid (MS w wx8 [(w.heap.size,#[.int .i64 0,.int .i64 0,.int .i64 0,.int .i64 0,.bool false,.slice none 0 0,.slice none 0 0,.int .i64 0,.bool false,.int .i64 0,.int .i64 0,.bool false,.int .i64 0,.slice none 0 0,.int .i64 0,.slice none 0 0,.slice none 0 0],49),(w.heap.size+1,#[.int .i64 4,.int .i64 (iat (vsL f) 1),.int .i64 (iat (vsL f) 2),.int .i64 0,.bool false,.slice none 0 0,.slice none 0 0,.int .i64 0,.bool false,.int .i64 0,.int .i64 0,.bool false,.int .i64 0,.slice none 0 0,.int .i64 (iat (vsL f) 3),.slice none 0 0,.slice ar7 (0+1) cr7],49)] [(.slice (some ⟨gv,0,none⟩) k cv,vsL f),(.slice ar8 (0+1+1) cr8,[]++[iat (vsL f) 1]++[iat (vsL f) 2])]):=HD8.out.grow 1 rfl r1 r2 r3
 clear r1 r2 r3 hzz
 clear HSS
 have HSS:Hid ((λq=>q.cell? ⟨w.heap.size+1,16,none⟩=some (.slice ar7 (0+1) cr7)/\q.cell? ⟨gv,2,none⟩=some (.int .i64 (iat (vsL f) 2))) wx8):=⟨(HE8.out.box 1 rfl).blk.cell (i:=16) rfl,HVC.out HE8.out rfl (2) (by omega)⟩
 refine hK _ _ ⟨Or.inr HSS.out,?_⟩
 clear hK K HD8
 refine tq (i:=7) (v:=.pointer (some ⟨w.heap.size+1,16,none⟩)) (λhcl=>?_)
 have q_:wx8.cell? ⟨w.heap.size+1,16,none⟩=some (.slice ar7 (0+1) cr7):=(HE8.out.box 1 rfl).blk.cell (i:=16) rfl
 have f_:=(HE8.out.box 1 rfl).blk.frozen 16
 refine anyS_one (i:=8) (by kernel_rfl) (wpOpIn_step rfl (λK hK=>?_))
 go_simp
 refine hK _ _ ⟨Or.inl (by decide),?_⟩
 clear hK K
 refine anyS_done (by kernel_rfl) ?_ _
 clear hw hcl q_ f_ HSS
 generalize hW:wx8.setCell ⟨w.heap.size+1,16,none⟩ (.slice ar8 (0+1+1) cr8)=ws8
 have HS8:Hid (MS w ws8 [(w.heap.size,#[.int .i64 0,.int .i64 0,.int .i64 0,.int .i64 0,.bool false,.slice none 0 0,.slice none 0 0,.int .i64 0,.bool false,.int .i64 0,.int .i64 0,.bool false,.int .i64 0,.slice none 0 0,.int .i64 0,.slice none 0 0,.slice none 0 0],49),(w.heap.size+1,#[.int .i64 4,.int .i64 (iat (vsL f) 1),.int .i64 (iat (vsL f) 2),.int .i64 0,.bool false,.slice none 0 0,.slice none 0 0,.int .i64 0,.bool false,.int .i64 0,.int .i64 0,.bool false,.int .i64 0,.slice none 0 0,.int .i64 (iat (vsL f) 3),.slice none 0 0,.slice ar8 (0+1+1) cr8],49)] [(.slice (some ⟨gv,0,none⟩) k cv,vsL f),(.slice ar8 (0+1+1) cr8,[]++[iat (vsL f) 1]++[iat (vsL f) 2])]):=by unfold Hid;rw[<-hW];exact HE8.out.set 1 rfl 16 (.slice ar8 (0+1+1) cr8)
 clear hW HE8
 have xf:=HFC.out HS8.out.nx 0 (by omega)
 go_upto_region 48 with fail
 refine wp_region_list ?_
 refine wpList_loadB rfl _ rfl rfl (HS8.out.box 1 rfl) rfl ?_
 refine wpList_storeB rfl _ _ rfl rfl rfl (HS8.out.box 0 rfl) rfl rfl rfl ?_
 have hbt:=setRow_bt (cs':=#[.int .i64 4,.int .i64 (iat (vsL f) 1),.int .i64 (iat (vsL f) 2),.int .i64 0,.bool false,.slice none 0 0,.slice none 0 0,.int .i64 0,.bool false,.int .i64 0,.int .i64 0,.bool false,.int .i64 0,.slice none 0 0,.int .i64 (iat (vsL f) 3),.slice none 0 0,.slice ar8 (0+1+1) cr8]) (HS8.out.box 0 rfl)
 have HMF:=mkHid' (HS8.out.putBox 0 rfl (cs':=#[.int .i64 4,.int .i64 (iat (vsL f) 1),.int .i64 (iat (vsL f) 2),.int .i64 0,.bool false,.slice none 0 0,.slice none 0 0,.int .i64 0,.bool false,.int .i64 0,.int .i64 0,.bool false,.int .i64 0,.slice none 0 0,.int .i64 (iat (vsL f) 3),.slice none 0 0,.slice ar8 (0+1+1) cr8]))
 generalize ws8.setRow w.heap.size #[.int .i64 4,.int .i64 (iat (vsL f) 1),.int .i64 (iat (vsL f) 2),.int .i64 0,.bool false,.slice none 0 0,.slice none 0 0,.int .i64 0,.bool false,.int .i64 0,.int .i64 0,.bool false,.int .i64 0,.slice none 0 0,.int .i64 (iat (vsL f) 3),.slice none 0 0,.slice ar8 (0+1+1) cr8]=wF at *
 have p0_:wF.cell? ⟨w.heap.size,0,none⟩=some (.int .i64 4):=hbt.1.blk.cell (i:=0) rfl
 have p1_:wF.cell? ⟨w.heap.size,1,none⟩=some (.int .i64 (iat (vsL f) 1)):=hbt.1.blk.cell (i:=1) rfl
 have p2_:wF.cell? ⟨w.heap.size,2,none⟩=some (.int .i64 (iat (vsL f) 2)):=hbt.1.blk.cell (i:=2) rfl
 have p3_:wF.cell? ⟨w.heap.size,3,none⟩=some (.int .i64 0):=hbt.1.blk.cell (i:=3) rfl
 have p4_:wF.cell? ⟨w.heap.size,4,none⟩=some (.bool false):=hbt.1.blk.cell (i:=4) rfl
 have p5_:wF.cell? ⟨w.heap.size,5,none⟩=some (.slice none 0 0):=hbt.1.blk.cell (i:=5) rfl
 have p6_:wF.cell? ⟨w.heap.size,6,none⟩=some (.slice none 0 0):=hbt.1.blk.cell (i:=6) rfl
 have p7_:wF.cell? ⟨w.heap.size,7,none⟩=some (.int .i64 0):=hbt.1.blk.cell (i:=7) rfl
 have p8_:wF.cell? ⟨w.heap.size,8,none⟩=some (.bool false):=hbt.1.blk.cell (i:=8) rfl
 have p9_:wF.cell? ⟨w.heap.size,9,none⟩=some (.int .i64 0):=hbt.1.blk.cell (i:=9) rfl
 have p10_:wF.cell? ⟨w.heap.size,10,none⟩=some (.int .i64 0):=hbt.1.blk.cell (i:=10) rfl
 have p11_:wF.cell? ⟨w.heap.size,11,none⟩=some (.bool false):=hbt.1.blk.cell (i:=11) rfl
 have p12_:wF.cell? ⟨w.heap.size,12,none⟩=some (.int .i64 0):=hbt.1.blk.cell (i:=12) rfl
 have p13_:wF.cell? ⟨w.heap.size,13,none⟩=some (.slice none 0 0):=hbt.1.blk.cell (i:=13) rfl
 have p14_:wF.cell? ⟨w.heap.size,14,none⟩=some (.int .i64 (iat (vsL f) 3)):=hbt.1.blk.cell (i:=14) rfl
 have p15_:wF.cell? ⟨w.heap.size,15,none⟩=some (.slice none 0 0):=hbt.1.blk.cell (i:=15) rfl
 have p16_:wF.cell? ⟨w.heap.size,16,none⟩=some (.slice ar8 (0+1+1) cr8):=hbt.1.blk.cell (i:=16) rfl
 clear hbt
 unfold wpList
 go_wp2
 refine bodyPost_ret (v:=.agg #[.int .i64 4,.int .i64 (iat (vsL f) 1),.int .i64 (iat (vsL f) 2),.int .i64 0,.bool false,.slice none 0 0,.slice none 0 0,.int .i64 0,.bool false,.int .i64 0,.int .i64 0,.bool false,.int .i64 0,.slice none 0 0,.int .i64 (iat (vsL f) 3),.slice none 0 0,.slice ar8 (0+1+1) cr8]) (by simp[results,Tryz.results16,go_sem,p0_,p1_,p2_,p3_,p4_,p5_,p6_,p7_,p8_,p9_,p10_,p11_,p12_,p13_,p14_,p15_,p16_]) rfl ?_
 rw[HRD.out]
 exact⟨⟨.slice none 0 0,.slice none 0 0,.slice none 0 0,.slice none 0 0,.slice ar8 (0+1+1) cr8,rfl,⟨⟨rfl,Or.inl ⟨rfl,rfl⟩⟩,⟨rfl,Or.inl ⟨rfl,rfl⟩⟩,⟨rfl,Or.inl ⟨rfl,rfl⟩⟩,⟨rfl,Or.inl ⟨rfl,rfl⟩⟩,HMF.out.row 1 rfl⟩⟩,HMF.out.nx⟩
end Go.Proofs.YthhkjbfkgdlkmaaGreatDoor
