import Derived.Test.YthhkjbfkgdlkmaaGreatDoorPFv
namespace Go.Proofs.YthhkjbfkgdlkmaaGreatDoor
open Go.RowKit Go.Sort
set_option linter.unusedVariables false
set_option maxRecDepth 1000000
set_option maxHeartbeats 16000000
theorem rd_at (C:Nat)(a:Option Addr)(n c:Nat)(f:List ByteArray)(w:World)(h:OwnSt C w (.slice a n c) f)(hn:f.length=n)(hl:n<=204)(hs:∀i,i<n->(sat f i).size<=300000)(hw:relB (sat f 0)=true)(hz:(sat f 3).toList=[97,116])(hc:6<=n) :
  Calls Tryz.prog 16 #[.slice a n c] w λe w'=>(∃vn vw vr nn nw,e=.returned (deV (rdS f) vn vw vr nn nw)/\HDe w.heap.size w' (rdS f) vn vw vr nn nw)/\Nx w w':=by
 have HCC:=mkHid' hc
 have hc1:2<=n:=by omega
 clear hc
 have HO:Hid (OwnSt C w (.slice a n c) f):=h
 have HN:Hid (f.length=n):=hn
 have HSZ:Hid (∀i,i<n->(sat f i).size<=300000):=hs
 obtain⟨g,rfl,-,hg,hc0⟩:=OwnSt.at h (i:=0) (by omega)
 have HC:Hid (∀i,i<n->w.cell? ⟨g,i,none⟩=some (.string (sat f i))):=λi hi=>by
  obtain⟨g',e,-,-,hc⟩:=OwnSt.at HO.out (i:=i) (by rw[HN.out];exact hi)
  have e':g=g':=by simpa using e
  rw[e'];exact hc
 clear h hs hn hc0
 have HVL:Hid ((vsL f).length=n):=by unfold Hid;rw[vsL_len];exact HN.out
 have HVT:Hid (∀k,k<n->(vsL f).take (k+1)=(vsL f).take k++[valS (sat f k)]):=λk hk=>by rw[List.take_succ_eq_append_getElem (by rw[HVL.out];exact hk),<-iat_eq,vsL_at (by rw[HN.out];exact hk)]
 go_enter Tryz.func16,Tryz.ntmps16
 go_upto_region 3 with fail
 generalize hWA:((w.alloc (.cells #[.int .i64 0,.int .i64 0,.int .i64 0,.int .i64 0,.bool false,.slice none 0 0,.slice none 0 0,.int .i64 0,.bool false,.int .i64 0,.int .i64 0,.bool false,.int .i64 0,.slice none 0 0,.int .i64 0,.slice none 0 0,.slice none 0 0] 49)).alloc (.cells #[.int .i64 0,.int .i64 0,.int .i64 0,.int .i64 0,.bool false,.slice none 0 0,.slice none 0 0,.int .i64 0,.bool false,.int .i64 0,.int .i64 0,.bool false,.int .i64 0,.slice none 0 0,.int .i64 0,.slice none 0 0,.slice none 0 0] 49)).alloc (.cells #[] 2)=wA
 have HM:Hid (MS w wA [(w.heap.size,#[.int .i64 0,.int .i64 0,.int .i64 0,.int .i64 0,.bool false,.slice none 0 0,.slice none 0 0,.int .i64 0,.bool false,.int .i64 0,.int .i64 0,.bool false,.int .i64 0,.slice none 0 0,.int .i64 0,.slice none 0 0,.slice none 0 0],49),(w.heap.size+1,#[.int .i64 0,.int .i64 0,.int .i64 0,.int .i64 0,.bool false,.slice none 0 0,.slice none 0 0,.int .i64 0,.bool false,.int .i64 0,.int .i64 0,.bool false,.int .i64 0,.slice none 0 0,.int .i64 0,.slice none 0 0,.slice none 0 0],49)] [(.slice (some ⟨w.heap.size+2,0,none⟩) 0 0,(vsL f).take 0)]):=by
  unfold Hid
  rw[<-hWA]
  have m1:=((MS.start w).addBox #[.int .i64 0,.int .i64 0,.int .i64 0,.int .i64 0,.bool false,.slice none 0 0,.slice none 0 0,.int .i64 0,.bool false,.int .i64 0,.int .i64 0,.bool false,.int .i64 0,.slice none 0 0,.int .i64 0,.slice none 0 0,.slice none 0 0] 49 (by decide)).addBox #[.int .i64 0,.int .i64 0,.int .i64 0,.int .i64 0,.bool false,.slice none 0 0,.slice none 0 0,.int .i64 0,.bool false,.int .i64 0,.int .i64 0,.bool false,.int .i64 0,.slice none 0 0,.int .i64 0,.slice none 0 0,.slice none 0 0] 49 (by decide)
  have m2:=m1.newRow
  rw[size_alloc',size_alloc'] at m2
  rw[size_alloc'] at m2
  exact m2
 clear hWA
 go_wp2
 go_loopw [4,5] (λs4 s5 wr=>∃(k cv:Nat) (av:Option Addr),k<=n/\s5=.int .i64 k/\s4=.slice av k cv/\Hid (MS w wr [(w.heap.size,#[.int .i64 0,.int .i64 0,.int .i64 0,.int .i64 0,.bool false,.slice none 0 0,.slice none 0 0,.int .i64 0,.bool false,.int .i64 0,.int .i64 0,.bool false,.int .i64 0,.slice none 0 0,.int .i64 0,.slice none 0 0,.slice none 0 0],49),(w.heap.size+1,#[.int .i64 0,.int .i64 0,.int .i64 0,.int .i64 0,.bool false,.slice none 0 0,.slice none 0 0,.int .i64 0,.bool false,.int .i64 0,.int .i64 0,.bool false,.int .i64 0,.slice none 0 0,.int .i64 0,.slice none 0 0,.slice none 0 0],49)] [(.slice av k cv,(vsL f).take k)])) (λ_ i _=>n-(intOf i).toNat)
 case atStart=>exact⟨0,0,_,Nat.zero_le _,rfl,rfl,HM⟩
 clear HM
 obtain⟨k,cv,av,hkn,rfl,rfl,HM⟩:=hrel
 by_cases hlt:k<n
 ·have hlt':(k:Int)<n:=by omega
  have xk:=cellq HM.out.nx (HC.out k hlt)
  go_wp2_with fail
  refine(l1Value_any (sat f k) wr (by have:=HSZ.out k hlt;omega)).mono ?_
  rintro e w1 ⟨rfl,hx⟩
  have HM1:=mkHid' (HM.out.next hx)
  have HTL:Hid (((vsL f).take k).length=k):=by unfold Hid;rw[List.length_take,HVL.out];omega
  have HT1:=mkHid' (HVT.out k hlt)
  have hzz:w.heap.size<=w1.heap.size:=HM1.out.nx.size
  have hvi:=valS_in (sat f k)
  clear hx xk HM
  generalize valS (sat f k)=z at *
  go_wp2_with (at_builtin;refine app_int rfl _ _ rfl w.heap.size k (.slice av k cv) ((vsL f).take k) z w1 rfl (HM1.out.row 0 rfl) rfl HTL.out (by omega) hzz ?_)
  intro a1 c1 w2 r1 r2 r3
  rw[<-HT1.out] at r1
  have HM2:Hid (MS w w2 [(w.heap.size,#[.int .i64 0,.int .i64 0,.int .i64 0,.int .i64 0,.bool false,.slice none 0 0,.slice none 0 0,.int .i64 0,.bool false,.int .i64 0,.int .i64 0,.bool false,.int .i64 0,.slice none 0 0,.int .i64 0,.slice none 0 0,.slice none 0 0],49),(w.heap.size+1,#[.int .i64 0,.int .i64 0,.int .i64 0,.int .i64 0,.bool false,.slice none 0 0,.slice none 0 0,.int .i64 0,.bool false,.int .i64 0,.int .i64 0,.bool false,.int .i64 0,.slice none 0 0,.int .i64 0,.slice none 0 0,.slice none 0 0],49)] [(.slice a1 (k+1) c1,(vsL f).take (k+1))]):=HM1.out.grow 0 rfl r1 r2 r3
  clear r1 r2 r3 HM1
  go_wp2
  go_roundw
  case rel=>exact⟨k+1,c1,a1,by omega,by go_num,rfl,HM2⟩
  case measure=>simp[intOf];omega
 have ek:k=n:=by omega
 subst ek
 have HVA:Hid ((vsL f).take k=vsL f):=List.take_of_length_le (by rw[HVL.out];exact Nat.le_refl _)
 rw[HVA.out] at HM
 obtain⟨gv,cv',csv,ev,hgv,-,-,hcv⟩:=(HM.out.row 0 rfl).open (by rw[HVL.out];omega)
 rw[HVL.out] at ev hcv
 simp only[Value.slice.injEq] at ev
 obtain⟨rfl,-,rfl⟩:=ev
 clear hcv csv hlt hkn
 have HVC:Hid (∀{q:World}{bl:List (Nat×Array Value×Nat)}{rs:List (Value×List Int)},MS w q bl rs->rs[0]?=some (.slice (some ⟨gv,0,none⟩) k cv,vsL f)->∀i,i<k->q.cell? ⟨gv,i,none⟩=some (.int .i64 (iat (vsL f) i))):=λhM h0 i hi=>((hM.row 0 h0).in (by rw[HVL.out];exact hi)).2.2
 have HFC:Hid (∀{q:World},Nx w q->∀i,i<k->q.cell? ⟨g,i,none⟩=some (.string (sat f i))):=λhx i hi=>cellq hx (HC.out i hi)
 have HRL:Hid (relB (sat f 0)=true):=hw
 have hq0:((sat f 0).toList==[110,111,100,101])=false:=by
  have h':=HRL.out
  unfold relB at h'
  rw[Bool.or_eq_true,beq_iff_eq,beq_iff_eq] at h'
  rcases h' with h'|h'<;>(rw[h'];rfl)
 have hp0:¬(sat f 0).toList=[110,111,100,101]:=by simpa using hq0
 have hq1:((sat f 0).toList==[119,97,121])=false:=by
  have h':=HRL.out
  unfold relB at h'
  rw[Bool.or_eq_true,beq_iff_eq,beq_iff_eq] at h'
  rcases h' with h'|h'<;>(rw[h'];rfl)
 have hp1:¬(sat f 0).toList=[119,97,121]:=by simpa using hq1
 have hq2:((sat f 0).toList==[116,117,114,110])=false:=by
  have h':=HRL.out
  unfold relB at h'
  rw[Bool.or_eq_true,beq_iff_eq,beq_iff_eq] at h'
  rcases h' with h'|h'<;>(rw[h'];rfl)
 have hp2:¬(sat f 0).toList=[116,117,114,110]:=by simpa using hq2
 have hq3:((sat f 0).toList==[117,116,117,114,110])=false:=by
  have h':=HRL.out
  unfold relB at h'
  rw[Bool.or_eq_true,beq_iff_eq,beq_iff_eq] at h'
  rcases h' with h'|h'<;>(rw[h'];rfl)
 have hp3:¬(sat f 0).toList=[117,116,117,114,110]:=by simpa using hq3
 have hx3:(sat f 3).toList=[97,116]:=hz
 have hb3:((sat f 3).toList==[97,116])=true:=by rw[hx3];rfl
 obtain⟨m,hm⟩:∃m,k=m+1:=⟨k-1,by have:=HCC.out;omega⟩
 have HRD:Hid (rdS f=⟨3,iat (vsL f) 1,0,zWy,⟨iat (vsL f) 1,(sat f 0).toList==[111,110,108,121],iat (vsL f) 2,iat (vsL f) m,true,iat (vsL f) 4,[]⟩,0,[]++[iat (vsL f) 4],[]++[iat (vsL f) 2]++[iat (vsL f) m]⟩):=by
  have e1:f.length-1=m:=by rw[HN.out];omega
  have e2:viaL (vsL f)=viaT (vsL f) m:=by unfold viaL viaT;rw[HVL.out,show k-5=m-4 by omega]
  unfold Hid rdS
  rw[if_neg hp0,if_neg hp1,if_pos HRL.out,if_pos hx3,e1];rfl
 have hmx:Tryz.prog.follows .mixedOrders=true:=by kernel_rfl
 have hk6:6<=k:=HCC.out
 have hk1:(1:Int)<(k:Int):=by omega
 have hk2:(2:Int)<(k:Int):=by omega
 have hk3:(3:Int)<(k:Int):=by omega
 have hk4:(4:Int)<(k:Int):=by omega
 have hkm:(m:Int)<(k:Int):=by omega
 have hks:(k:Int)-1=(m:Int):=by omega
 have hmk:m<k:=by omega
 have hk00:¬k=0:=by omega
 have hm3:m<300:=by omega
 have hkm':k<=m+1:=by omega
 clear hm
 have HS1:Hid (MS w wr [(w.heap.size,#[.int .i64 0,.int .i64 0,.int .i64 0,.int .i64 0,.bool false,.slice none 0 0,.slice none 0 0,.int .i64 0,.bool false,.int .i64 0,.int .i64 0,.bool false,.int .i64 0,.slice none 0 0,.int .i64 0,.slice none 0 0,.slice none 0 0],49),(w.heap.size+1,#[.int .i64 0,.int .i64 0,.int .i64 0,.int .i64 0,.bool false,.slice none 0 0,.slice none 0 0,.int .i64 0,.bool false,.int .i64 0,.int .i64 0,.bool false,.int .i64 0,.slice none 0 0,.int .i64 0,.slice none 0 0,.slice none 0 0],49)] [(.slice (some ⟨gv,0,none⟩) k cv,vsL f),(.slice none 0 0,[])]):=HM.out.addNil
 clear HM
 have HS2:Hid (MS w wr [(w.heap.size,#[.int .i64 0,.int .i64 0,.int .i64 0,.int .i64 0,.bool false,.slice none 0 0,.slice none 0 0,.int .i64 0,.bool false,.int .i64 0,.int .i64 0,.bool false,.int .i64 0,.slice none 0 0,.int .i64 0,.slice none 0 0,.slice none 0 0],49),(w.heap.size+1,#[.int .i64 0,.int .i64 0,.int .i64 0,.int .i64 0,.bool false,.slice none 0 0,.slice none 0 0,.int .i64 0,.bool false,.int .i64 0,.int .i64 0,.bool false,.int .i64 0,.slice none 0 0,.int .i64 0,.slice none 0 0,.slice none 0 0],49)] [(.slice (some ⟨gv,0,none⟩) k cv,vsL f),(.slice none 0 0,[]),(.slice none 0 0,[])]):=HS1.out.addNil
 clear HS1
 have xf:=HFC.out HS2.out.nx 0 (by omega)
 go_wp2_with fail
 refine(l1IsRelation_any (sat f 0) wr).mono ?_
 rintro e ws3 ⟨rfl,hxr⟩
 rw[HRL.out]
 have HS3:=mkHid' (HS2.out.next hxr)
 clear hxr HS2
 clear xf
 have xf:=HFC.out HS3.out.nx 0 (by omega)
 have q_:ws3.cell? ⟨w.heap.size+1,0,none⟩=some (.int .i64 0):=(HS3.out.box 1 rfl).blk.cell (i:=0) rfl
 have f_:=(HS3.out.box 1 rfl).blk.frozen 0
 go_upto_region 24 with fail
 generalize hW:ws3.setCell ⟨w.heap.size+1,0,none⟩ (.int .i64 3)=ws4
 have HS4:Hid (MS w ws4 [(w.heap.size,#[.int .i64 0,.int .i64 0,.int .i64 0,.int .i64 0,.bool false,.slice none 0 0,.slice none 0 0,.int .i64 0,.bool false,.int .i64 0,.int .i64 0,.bool false,.int .i64 0,.slice none 0 0,.int .i64 0,.slice none 0 0,.slice none 0 0],49),(w.heap.size+1,#[.int .i64 3,.int .i64 0,.int .i64 0,.int .i64 0,.bool false,.slice none 0 0,.slice none 0 0,.int .i64 0,.bool false,.int .i64 0,.int .i64 0,.bool false,.int .i64 0,.slice none 0 0,.int .i64 0,.slice none 0 0,.slice none 0 0],49)] [(.slice (some ⟨gv,0,none⟩) k cv,vsL f),(.slice none 0 0,[]),(.slice none 0 0,[])]):=by unfold Hid;rw[<-hW];exact HS3.out.set 1 rfl 0 (.int .i64 3)
 clear hW q_ f_ HS3
 have xv:=HVC.out HS4.out rfl 1 (by omega)
 have q_:ws4.cell? ⟨w.heap.size+1,1,none⟩=some (.int .i64 0):=(HS4.out.box 1 rfl).blk.cell (i:=1) rfl
 have f_:=(HS4.out.box 1 rfl).blk.frozen 1
 go_upto_region 25 with fail
 generalize hW:ws4.setCell ⟨w.heap.size+1,1,none⟩ (.int .i64 (iat (vsL f) 1))=ws5
 have HS5:Hid (MS w ws5 [(w.heap.size,#[.int .i64 0,.int .i64 0,.int .i64 0,.int .i64 0,.bool false,.slice none 0 0,.slice none 0 0,.int .i64 0,.bool false,.int .i64 0,.int .i64 0,.bool false,.int .i64 0,.slice none 0 0,.int .i64 0,.slice none 0 0,.slice none 0 0],49),(w.heap.size+1,#[.int .i64 3,.int .i64 (iat (vsL f) 1),.int .i64 0,.int .i64 0,.bool false,.slice none 0 0,.slice none 0 0,.int .i64 0,.bool false,.int .i64 0,.int .i64 0,.bool false,.int .i64 0,.slice none 0 0,.int .i64 0,.slice none 0 0,.slice none 0 0],49)] [(.slice (some ⟨gv,0,none⟩) k cv,vsL f),(.slice none 0 0,[]),(.slice none 0 0,[])]):=by unfold Hid;rw[<-hW];exact HS4.out.set 1 rfl 1 (.int .i64 (iat (vsL f) 1))
 clear hW q_ f_ HS4
 clear xv xf
 have xv_:=HVC.out HS5.out rfl 1 (by omega)
 have xw_:=HVC.out HS5.out rfl 2 (by omega)
 have xm_:=HVC.out HS5.out rfl m (by omega)
 have xf_:=HFC.out HS5.out.nx 0 (by omega)
 have hxd:Nx ws5 ws5.drew:=(Below.refl _ _).drew
 have HD6:=mkHid' (HS5.out.next hxd)
 have HSS:Hid ((λq=>q.cell? ⟨gv,1,none⟩=some (.int .i64 (iat (vsL f) 1))/\q.cell? ⟨g,0,none⟩=some (.string (sat f 0))/\q.cell? ⟨gv,2,none⟩=some (.int .i64 (iat (vsL f) 2))/\q.cell? ⟨gv,m,none⟩=some (.int .i64 (iat (vsL f) m))) ws5.drew):=⟨cellq hxd xv_,cellq hxd xf_,cellq hxd xw_,cellq hxd xm_⟩
 clear HS5 xv_ xf_ xw_ xm_ hxd
 refine(wpIn_wide (n:=9)).1 ?_
 refine wpIn_region_S (c:=18) (S:=λq=>q.cell? ⟨gv,1,none⟩=some (.int .i64 (iat (vsL f) 1))/\q.cell? ⟨g,0,none⟩=some (.string (sat f 0))/\q.cell? ⟨gv,2,none⟩=some (.int .i64 (iat (vsL f) 2))/\q.cell? ⟨gv,m,none⟩=some (.int .i64 (iat (vsL f) m))) hmx (by kernel_rfl) (λhw hcl=>?_)
 generalize ws5.drew=wd6 at *
 refine tq (i:=0) (v:=.slice (some ⟨gv,0,none⟩) k cv) (λhcl=>?_)
 refine tq (i:=1) (v:=.pointer (some ⟨gv,1,none⟩)) (λhcl=>?_)
 refine tq (i:=2) (v:=.int .i64 (iat (vsL f) 1)) (λhcl=>?_)
 refine tq (i:=3) (v:=.slice (some ⟨g,0,none⟩) k c) (λhcl=>?_)
 refine tq (i:=4) (v:=.pointer (some ⟨g,0,none⟩)) (λhcl=>?_)
 refine tq (i:=5) (v:=.string (sat f 0)) (λhcl=>?_)
 refine tq (i:=6) (v:=.bool ((sat f 0).toList==[111,110,108,121])) (λhcl=>?_)
 refine tq (i:=7) (v:=.slice (some ⟨gv,0,none⟩) k cv) (λhcl=>?_)
 refine tq (i:=8) (v:=.pointer (some ⟨gv,2,none⟩)) (λhcl=>?_)
 refine tq (i:=9) (v:=.int .i64 (iat (vsL f) 2)) (λhcl=>?_)
 refine tq (i:=10) (v:=.slice (some ⟨gv,0,none⟩) k cv) (λhcl=>?_)
 refine tq (i:=11) (v:=.slice (some ⟨gv,0,none⟩) k cv) (λhcl=>?_)
 refine tq (i:=12) (v:=.int .i64 (k:Int)) (λhcl=>?_)
 refine anyS_take (i:=13) (v:=.int .i64 (m:Int)) hw (by decide) hcl (noDefer_none rfl) rfl (by kernel_rfl) (by kernel_rfl) (by kernel_rfl) (λ_ _ _ h=>h) ⟨Or.inl ⟨by kernel_rfl,?y13⟩,λ_=>rfl⟩ HSS.out (λhcl=>?_)
 case y13=>
  rintro q ⟨c1,c2,c3,c4⟩
  go_simp
  all_goals exact wrap64 (by omega) (by omega)
 refine tq (i:=14) (v:=.pointer (some ⟨gv,m,none⟩)) (λhcl=>?_)
 refine tq (i:=15) (v:=.int .i64 (iat (vsL f) m)) (λhcl=>?_)
 refine tq (i:=16) (v:=.agg #[.int .i64 (iat (vsL f) 1),.bool ((sat f 0).toList==[111,110,108,121]),.int .i64 (iat (vsL f) 2),.int .i64 (iat (vsL f) m),.bool false,.int .i64 0,.slice none 0 0]) (λhcl=>?_)
 refine anyS_one2 (i:=17) (by kernel_rfl) hcl (λhcl=>wpOpIn_step rfl (λK hK=>?_))
 go_simp
 refine hK _ _ ⟨Or.inr ⟨cellq (box1 _ _) HSS.out.1,cellq (box1 _ _) HSS.out.2.1,cellq (box1 _ _) HSS.out.2.2.1,cellq (box1 _ _) HSS.out.2.2.2⟩,?_⟩
 clear hK K
 refine anyS_one (i:=18) (by kernel_rfl) (wpOpIn_step rfl (λK hK=>?_))
 go_simp
 refine hK _ _ ⟨Or.inl (by decide),?_⟩
 clear hK K
 refine anyS_done (by kernel_rfl) ?_ _
 clear hw hcl HSS
 generalize hWW:wd6.alloc (.cells #[.int .i64 (iat (vsL f) 1),.bool ((sat f 0).toList==[111,110,108,121]),.int .i64 (iat (vsL f) 2),.int .i64 (iat (vsL f) m),.bool false,.int .i64 0,.slice none 0 0] 47)=wW
 have HW0:=mkHid' (HD6.out.addBox #[.int .i64 (iat (vsL f) 1),.bool ((sat f 0).toList==[111,110,108,121]),.int .i64 (iat (vsL f) 2),.int .i64 (iat (vsL f) m),.bool false,.int .i64 0,.slice none 0 0] 47 (by decide))
 rw[hWW] at HW0
 generalize wd6.heap.size=gw at *
 have HW:Hid (MS w wW [(w.heap.size,#[.int .i64 0,.int .i64 0,.int .i64 0,.int .i64 0,.bool false,.slice none 0 0,.slice none 0 0,.int .i64 0,.bool false,.int .i64 0,.int .i64 0,.bool false,.int .i64 0,.slice none 0 0,.int .i64 0,.slice none 0 0,.slice none 0 0],49),(w.heap.size+1,#[.int .i64 3,.int .i64 (iat (vsL f) 1),.int .i64 0,.int .i64 0,.bool false,.slice none 0 0,.slice none 0 0,.int .i64 0,.bool false,.int .i64 0,.int .i64 0,.bool false,.int .i64 0,.slice none 0 0,.int .i64 0,.slice none 0 0,.slice none 0 0],49),(gw,#[.int .i64 (iat (vsL f) 1),.bool ((sat f 0).toList==[111,110,108,121]),.int .i64 (iat (vsL f) 2),.int .i64 (iat (vsL f) m),.bool false,.int .i64 0,.slice none 0 0],47)] [(.slice (some ⟨gv,0,none⟩) k cv,vsL f),(.slice none 0 0,[]),(.slice none 0 0,[])]):=HW0.out
 clear hWW HW0 HD6
 have q_:wW.cell? ⟨w.heap.size+1,16,none⟩=some (.slice none 0 0):=(HW.out.box 1 rfl).blk.cell (i:=16) rfl
 have xv_:wW.cell? ⟨gw,2,none⟩=some (.int .i64 (iat (vsL f) 2)):=(HW.out.box 2 rfl).blk.cell (i:=2) rfl
 have hzz:w.heap.size<=wW.heap.size:=HW.out.nx.size
 go_wp2_with (at_builtin;refine app_int rfl _ _ rfl w.heap.size (0) (.slice none 0 0) ([]) (iat (vsL f) 2) wW rfl (HW.out.row 1 rfl) rfl rfl (by omega) hzz ?_)
 intro ar7 cr7 wx7 r1 r2 r3
 have HE7:Hid (MS w wx7 [(w.heap.size,#[.int .i64 0,.int .i64 0,.int .i64 0,.int .i64 0,.bool false,.slice none 0 0,.slice none 0 0,.int .i64 0,.bool false,.int .i64 0,.int .i64 0,.bool false,.int .i64 0,.slice none 0 0,.int .i64 0,.slice none 0 0,.slice none 0 0],49),(w.heap.size+1,#[.int .i64 3,.int .i64 (iat (vsL f) 1),.int .i64 0,.int .i64 0,.bool false,.slice none 0 0,.slice none 0 0,.int .i64 0,.bool false,.int .i64 0,.int .i64 0,.bool false,.int .i64 0,.slice none 0 0,.int .i64 0,.slice none 0 0,.slice none 0 0],49),(gw,#[.int .i64 (iat (vsL f) 1),.bool ((sat f 0).toList==[111,110,108,121]),.int .i64 (iat (vsL f) 2),.int .i64 (iat (vsL f) m),.bool false,.int .i64 0,.slice none 0 0],47)] [(.slice (some ⟨gv,0,none⟩) k cv,vsL f),(.slice ar7 (0+1) cr7,[]++[iat (vsL f) 2]),(.slice none 0 0,[])]):=HW.out.grow 1 rfl r1 r2 r3
 clear r1 r2 r3 hzz q_ xv_ HW
 have q_:wx7.cell? ⟨w.heap.size+1,16,none⟩=some (.slice none 0 0):=(HE7.out.box 1 rfl).blk.cell (i:=16) rfl
 have f_:=(HE7.out.box 1 rfl).blk.frozen 16
 go_upto_region 27 with fail
 generalize hW:wx7.setCell ⟨w.heap.size+1,16,none⟩ (.slice ar7 (0+1) cr7)=ws8
 have HS8:Hid (MS w ws8 [(w.heap.size,#[.int .i64 0,.int .i64 0,.int .i64 0,.int .i64 0,.bool false,.slice none 0 0,.slice none 0 0,.int .i64 0,.bool false,.int .i64 0,.int .i64 0,.bool false,.int .i64 0,.slice none 0 0,.int .i64 0,.slice none 0 0,.slice none 0 0],49),(w.heap.size+1,#[.int .i64 3,.int .i64 (iat (vsL f) 1),.int .i64 0,.int .i64 0,.bool false,.slice none 0 0,.slice none 0 0,.int .i64 0,.bool false,.int .i64 0,.int .i64 0,.bool false,.int .i64 0,.slice none 0 0,.int .i64 0,.slice none 0 0,.slice ar7 (0+1) cr7],49),(gw,#[.int .i64 (iat (vsL f) 1),.bool ((sat f 0).toList==[111,110,108,121]),.int .i64 (iat (vsL f) 2),.int .i64 (iat (vsL f) m),.bool false,.int .i64 0,.slice none 0 0],47)] [(.slice (some ⟨gv,0,none⟩) k cv,vsL f),(.slice ar7 (0+1) cr7,[]++[iat (vsL f) 2]),(.slice none 0 0,[])]):=by unfold Hid;rw[<-hW];exact HE7.out.set 1 rfl 16 (.slice ar7 (0+1) cr7)
 clear hW q_ f_ HE7
 have q_:ws8.cell? ⟨w.heap.size+1,16,none⟩=some (.slice ar7 (0+1) cr7):=(HS8.out.box 1 rfl).blk.cell (i:=16) rfl
 have xv_:ws8.cell? ⟨gw,3,none⟩=some (.int .i64 (iat (vsL f) m)):=(HS8.out.box 2 rfl).blk.cell (i:=3) rfl
 have hzz:w.heap.size<=ws8.heap.size:=HS8.out.nx.size
 go_wp2_with (at_builtin;refine app_int rfl _ _ rfl w.heap.size (0+1) (.slice ar7 (0+1) cr7) ([]++[iat (vsL f) 2]) (iat (vsL f) m) ws8 rfl (HS8.out.row 1 rfl) rfl rfl (by omega) hzz ?_)
 intro ar9 cr9 wx9 r1 r2 r3
 have HE9:Hid (MS w wx9 [(w.heap.size,#[.int .i64 0,.int .i64 0,.int .i64 0,.int .i64 0,.bool false,.slice none 0 0,.slice none 0 0,.int .i64 0,.bool false,.int .i64 0,.int .i64 0,.bool false,.int .i64 0,.slice none 0 0,.int .i64 0,.slice none 0 0,.slice none 0 0],49),(w.heap.size+1,#[.int .i64 3,.int .i64 (iat (vsL f) 1),.int .i64 0,.int .i64 0,.bool false,.slice none 0 0,.slice none 0 0,.int .i64 0,.bool false,.int .i64 0,.int .i64 0,.bool false,.int .i64 0,.slice none 0 0,.int .i64 0,.slice none 0 0,.slice ar7 (0+1) cr7],49),(gw,#[.int .i64 (iat (vsL f) 1),.bool ((sat f 0).toList==[111,110,108,121]),.int .i64 (iat (vsL f) 2),.int .i64 (iat (vsL f) m),.bool false,.int .i64 0,.slice none 0 0],47)] [(.slice (some ⟨gv,0,none⟩) k cv,vsL f),(.slice ar9 (0+1+1) cr9,[]++[iat (vsL f) 2]++[iat (vsL f) m]),(.slice none 0 0,[])]):=HS8.out.grow 1 rfl r1 r2 r3
 clear r1 r2 r3 hzz q_ xv_ HS8
 have q_:wx9.cell? ⟨w.heap.size+1,16,none⟩=some (.slice ar7 (0+1) cr7):=(HE9.out.box 1 rfl).blk.cell (i:=16) rfl
 have f_:=(HE9.out.box 1 rfl).blk.frozen 16
 go_upto_region 28 with fail
 generalize hW:wx9.setCell ⟨w.heap.size+1,16,none⟩ (.slice ar9 (0+1+1) cr9)=ws10
 have HS10:Hid (MS w ws10 [(w.heap.size,#[.int .i64 0,.int .i64 0,.int .i64 0,.int .i64 0,.bool false,.slice none 0 0,.slice none 0 0,.int .i64 0,.bool false,.int .i64 0,.int .i64 0,.bool false,.int .i64 0,.slice none 0 0,.int .i64 0,.slice none 0 0,.slice none 0 0],49),(w.heap.size+1,#[.int .i64 3,.int .i64 (iat (vsL f) 1),.int .i64 0,.int .i64 0,.bool false,.slice none 0 0,.slice none 0 0,.int .i64 0,.bool false,.int .i64 0,.int .i64 0,.bool false,.int .i64 0,.slice none 0 0,.int .i64 0,.slice none 0 0,.slice ar9 (0+1+1) cr9],49),(gw,#[.int .i64 (iat (vsL f) 1),.bool ((sat f 0).toList==[111,110,108,121]),.int .i64 (iat (vsL f) 2),.int .i64 (iat (vsL f) m),.bool false,.int .i64 0,.slice none 0 0],47)] [(.slice (some ⟨gv,0,none⟩) k cv,vsL f),(.slice ar9 (0+1+1) cr9,[]++[iat (vsL f) 2]++[iat (vsL f) m]),(.slice none 0 0,[])]):=by unfold Hid;rw[<-hW];exact HE9.out.set 1 rfl 16 (.slice ar9 (0+1+1) cr9)
 clear hW q_ f_ HE9
 have xg:=HFC.out HS10.out.nx 3 (by omega)
 have q_:ws10.cell? ⟨gw,4,none⟩=some (.bool false):=(HS10.out.box 2 rfl).blk.cell (i:=4) rfl
 have f_:=(HS10.out.box 2 rfl).blk.frozen 4
 go_upto_region 30 with fail
 generalize hW:ws10.setCell ⟨gw,4,none⟩ (.bool true)=ws11
 have HS11:Hid (MS w ws11 [(w.heap.size,#[.int .i64 0,.int .i64 0,.int .i64 0,.int .i64 0,.bool false,.slice none 0 0,.slice none 0 0,.int .i64 0,.bool false,.int .i64 0,.int .i64 0,.bool false,.int .i64 0,.slice none 0 0,.int .i64 0,.slice none 0 0,.slice none 0 0],49),(w.heap.size+1,#[.int .i64 3,.int .i64 (iat (vsL f) 1),.int .i64 0,.int .i64 0,.bool false,.slice none 0 0,.slice none 0 0,.int .i64 0,.bool false,.int .i64 0,.int .i64 0,.bool false,.int .i64 0,.slice none 0 0,.int .i64 0,.slice none 0 0,.slice ar9 (0+1+1) cr9],49),(gw,#[.int .i64 (iat (vsL f) 1),.bool ((sat f 0).toList==[111,110,108,121]),.int .i64 (iat (vsL f) 2),.int .i64 (iat (vsL f) m),.bool true,.int .i64 0,.slice none 0 0],47)] [(.slice (some ⟨gv,0,none⟩) k cv,vsL f),(.slice ar9 (0+1+1) cr9,[]++[iat (vsL f) 2]++[iat (vsL f) m]),(.slice none 0 0,[])]):=by unfold Hid;rw[<-hW];exact HS10.out.set 2 rfl 4 (.bool true)
 clear hW q_ f_ HS10
 have xv:=HVC.out HS11.out rfl 4 (by omega)
 have q_:ws11.cell? ⟨gw,5,none⟩=some (.int .i64 0):=(HS11.out.box 2 rfl).blk.cell (i:=5) rfl
 have f_:=(HS11.out.box 2 rfl).blk.frozen 5
 go_upto_region 31 with fail
 generalize hW:ws11.setCell ⟨gw,5,none⟩ (.int .i64 (iat (vsL f) 4))=ws12
 have HS12:Hid (MS w ws12 [(w.heap.size,#[.int .i64 0,.int .i64 0,.int .i64 0,.int .i64 0,.bool false,.slice none 0 0,.slice none 0 0,.int .i64 0,.bool false,.int .i64 0,.int .i64 0,.bool false,.int .i64 0,.slice none 0 0,.int .i64 0,.slice none 0 0,.slice none 0 0],49),(w.heap.size+1,#[.int .i64 3,.int .i64 (iat (vsL f) 1),.int .i64 0,.int .i64 0,.bool false,.slice none 0 0,.slice none 0 0,.int .i64 0,.bool false,.int .i64 0,.int .i64 0,.bool false,.int .i64 0,.slice none 0 0,.int .i64 0,.slice none 0 0,.slice ar9 (0+1+1) cr9],49),(gw,#[.int .i64 (iat (vsL f) 1),.bool ((sat f 0).toList==[111,110,108,121]),.int .i64 (iat (vsL f) 2),.int .i64 (iat (vsL f) m),.bool true,.int .i64 (iat (vsL f) 4),.slice none 0 0],47)] [(.slice (some ⟨gv,0,none⟩) k cv,vsL f),(.slice ar9 (0+1+1) cr9,[]++[iat (vsL f) 2]++[iat (vsL f) m]),(.slice none 0 0,[])]):=by unfold Hid;rw[<-hW];exact HS11.out.set 2 rfl 5 (.int .i64 (iat (vsL f) 4))
 clear hW q_ f_ HS11
 clear xv xg
 have q_:ws12.cell? ⟨w.heap.size+1,15,none⟩=some (.slice none 0 0):=(HS12.out.box 1 rfl).blk.cell (i:=15) rfl
 have xv_:=HVC.out HS12.out rfl (4) (by omega)
 go_upto_region 31 with fail
 have hxd:Nx ws12 ws12.drew:=(Below.refl _ _).drew
 have HD13:=mkHid' (HS12.out.next hxd)
 have HSS:Hid ((λq=>q.cell? ⟨w.heap.size+1,15,none⟩=some (.slice none 0 0)/\q.cell? ⟨gv,4,none⟩=some (.int .i64 (iat (vsL f) 4))) ws12.drew):=⟨cellq hxd q_,cellq hxd xv_⟩
 clear HS12 q_ xv_ hxd
 refine(wpIn_wide (n:=9)).1 ?_
 refine wpIn_region_S (c:=8) (S:=λq=>q.cell? ⟨w.heap.size+1,15,none⟩=some (.slice none 0 0)/\q.cell? ⟨gv,4,none⟩=some (.int .i64 (iat (vsL f) 4))) hmx (by kernel_rfl) (λhw hcl=>?_)
 generalize ws12.drew=wd13 at *
 refine tq (i:=0) (v:=.pointer (some ⟨w.heap.size+1,15,none⟩)) (λhcl=>?_)
 refine tq (i:=1) (v:=.slice none 0 0) (λhcl=>?_)
 refine tq (i:=2) (v:=.slice (some ⟨gv,0,none⟩) k cv) (λhcl=>?_)
 refine tq (i:=3) (v:=.pointer (some ⟨gv,4,none⟩)) (λhcl=>?_)
 refine tq (i:=4) (v:=.int .i64 (iat (vsL f) 4)) (λhcl=>?_)
 refine anyS_one2 (i:=5) (by kernel_rfl) hcl (λhcl=>wpOpIn_step rfl (λK hK=>?_))
 go_simp
 refine hK _ _ ⟨Or.inr ⟨cellq (box1 _ _) HSS.out.1,cellq (box1 _ _) HSS.out.2⟩,?_⟩
 clear hK K
 have hzz:w.heap.size<=wd13.heap.size:=HD13.out.nx.size
 refine anyS_one2 (i:=6) (by kernel_rfl) hcl (λhcl=>wpOpIn_step rfl (λK hK=>?_))
 refine app_int_in rfl (.tmp 140) (.tmp 144) rfl w.heap.size (0) (.slice none 0 0) ([]) (iat (vsL f) 4) wd13 _ rfl (by simp[Act.eval]) (HD13.out.row 2 rfl) (by simp[Act.eval]) (rfl) (by omega) hzz ?_
 intro ar13 cr13 wx13 r1 r2 r3
 have HE13:Hid (MS w wx13 [(w.heap.size,#[.int .i64 0,.int .i64 0,.int .i64 0,.int .i64 0,.bool false,.slice none 0 0,.slice none 0 0,.int .i64 0,.bool false,.int .i64 0,.int .i64 0,.bool false,.int .i64 0,.slice none 0 0,.int .i64 0,.slice none 0 0,.slice none 0 0],49),(w.heap.size+1,#[.int .i64 3,.int .i64 (iat (vsL f) 1),.int .i64 0,.int .i64 0,.bool false,.slice none 0 0,.slice none 0 0,.int .i64 0,.bool false,.int .i64 0,.int .i64 0,.bool false,.int .i64 0,.slice none 0 0,.int .i64 0,.slice none 0 0,.slice ar9 (0+1+1) cr9],49),(gw,#[.int .i64 (iat (vsL f) 1),.bool ((sat f 0).toList==[111,110,108,121]),.int .i64 (iat (vsL f) 2),.int .i64 (iat (vsL f) m),.bool true,.int .i64 (iat (vsL f) 4),.slice none 0 0],47)] [(.slice (some ⟨gv,0,none⟩) k cv,vsL f),(.slice ar9 (0+1+1) cr9,[]++[iat (vsL f) 2]++[iat (vsL f) m]),(.slice ar13 (0+1) cr13,[]++[iat (vsL f) 4])]):=HD13.out.grow 2 rfl r1 r2 r3
 clear r1 r2 r3 hzz
 clear HSS
 have HSS:Hid ((λq=>q.cell? ⟨w.heap.size+1,15,none⟩=some (.slice none 0 0)/\q.cell? ⟨gv,4,none⟩=some (.int .i64 (iat (vsL f) 4))) wx13):=⟨(HE13.out.box 1 rfl).blk.cell (i:=15) rfl,HVC.out HE13.out rfl (4) (by omega)⟩
 refine hK _ _ ⟨Or.inr HSS.out,?_⟩
 clear hK K HD13
 refine tq (i:=7) (v:=.pointer (some ⟨w.heap.size+1,15,none⟩)) (λhcl=>?_)
 have q_:wx13.cell? ⟨w.heap.size+1,15,none⟩=some (.slice none 0 0):=(HE13.out.box 1 rfl).blk.cell (i:=15) rfl
 have f_:=(HE13.out.box 1 rfl).blk.frozen 15
 refine anyS_one (i:=8) (by kernel_rfl) (wpOpIn_step rfl (λK hK=>?_))
 go_simp
 refine hK _ _ ⟨Or.inl (by decide),?_⟩
 clear hK K
 refine anyS_done (by kernel_rfl) ?_ _
 clear hw hcl q_ f_ HSS
 generalize hW:wx13.setCell ⟨w.heap.size+1,15,none⟩ (.slice ar13 (0+1) cr13)=ws13
 have HS13:Hid (MS w ws13 [(w.heap.size,#[.int .i64 0,.int .i64 0,.int .i64 0,.int .i64 0,.bool false,.slice none 0 0,.slice none 0 0,.int .i64 0,.bool false,.int .i64 0,.int .i64 0,.bool false,.int .i64 0,.slice none 0 0,.int .i64 0,.slice none 0 0,.slice none 0 0],49),(w.heap.size+1,#[.int .i64 3,.int .i64 (iat (vsL f) 1),.int .i64 0,.int .i64 0,.bool false,.slice none 0 0,.slice none 0 0,.int .i64 0,.bool false,.int .i64 0,.int .i64 0,.bool false,.int .i64 0,.slice none 0 0,.int .i64 0,.slice ar13 (0+1) cr13,.slice ar9 (0+1+1) cr9],49),(gw,#[.int .i64 (iat (vsL f) 1),.bool ((sat f 0).toList==[111,110,108,121]),.int .i64 (iat (vsL f) 2),.int .i64 (iat (vsL f) m),.bool true,.int .i64 (iat (vsL f) 4),.slice none 0 0],47)] [(.slice (some ⟨gv,0,none⟩) k cv,vsL f),(.slice ar9 (0+1+1) cr9,[]++[iat (vsL f) 2]++[iat (vsL f) m]),(.slice ar13 (0+1) cr13,[]++[iat (vsL f) 4])]):=by unfold Hid;rw[<-hW];exact HE13.out.set 1 rfl 15 (.slice ar13 (0+1) cr13)
 clear hW HE13
 have w0_:ws13.cell? ⟨gw,0,none⟩=some (.int .i64 (iat (vsL f) 1)):=(HS13.out.box 2 rfl).blk.cell (i:=0) rfl
 have w1_:ws13.cell? ⟨gw,1,none⟩=some (.bool ((sat f 0).toList==[111,110,108,121])):=(HS13.out.box 2 rfl).blk.cell (i:=1) rfl
 have w2_:ws13.cell? ⟨gw,2,none⟩=some (.int .i64 (iat (vsL f) 2)):=(HS13.out.box 2 rfl).blk.cell (i:=2) rfl
 have w3_:ws13.cell? ⟨gw,3,none⟩=some (.int .i64 (iat (vsL f) m)):=(HS13.out.box 2 rfl).blk.cell (i:=3) rfl
 have w4_:ws13.cell? ⟨gw,4,none⟩=some (.bool true):=(HS13.out.box 2 rfl).blk.cell (i:=4) rfl
 have w5_:ws13.cell? ⟨gw,5,none⟩=some (.int .i64 (iat (vsL f) 4)):=(HS13.out.box 2 rfl).blk.cell (i:=5) rfl
 have w6_:ws13.cell? ⟨gw,6,none⟩=some (.slice none 0 0):=(HS13.out.box 2 rfl).blk.cell (i:=6) rfl
 have d0_:ws13.cell? ⟨w.heap.size+1,7,none⟩=some (.int .i64 0):=(HS13.out.box 1 rfl).blk.cell (i:=7) rfl
 have d1_:ws13.cell? ⟨w.heap.size+1,8,none⟩=some (.bool false):=(HS13.out.box 1 rfl).blk.cell (i:=8) rfl
 have d2_:ws13.cell? ⟨w.heap.size+1,9,none⟩=some (.int .i64 0):=(HS13.out.box 1 rfl).blk.cell (i:=9) rfl
 have d3_:ws13.cell? ⟨w.heap.size+1,10,none⟩=some (.int .i64 0):=(HS13.out.box 1 rfl).blk.cell (i:=10) rfl
 have d4_:ws13.cell? ⟨w.heap.size+1,11,none⟩=some (.bool false):=(HS13.out.box 1 rfl).blk.cell (i:=11) rfl
 have d5_:ws13.cell? ⟨w.heap.size+1,12,none⟩=some (.int .i64 0):=(HS13.out.box 1 rfl).blk.cell (i:=12) rfl
 have d6_:ws13.cell? ⟨w.heap.size+1,13,none⟩=some (.slice none 0 0):=(HS13.out.box 1 rfl).blk.cell (i:=13) rfl
 have z0_:=(HS13.out.box 1 rfl).blk.frozen 7
 have z1_:=(HS13.out.box 1 rfl).blk.frozen 8
 have z2_:=(HS13.out.box 1 rfl).blk.frozen 9
 have z3_:=(HS13.out.box 1 rfl).blk.frozen 10
 have z4_:=(HS13.out.box 1 rfl).blk.frozen 11
 have z5_:=(HS13.out.box 1 rfl).blk.frozen 12
 have z6_:=(HS13.out.box 1 rfl).blk.frozen 13
 go_upto_region 38 with fail
 generalize hW:((((((ws13.setCell ⟨w.heap.size+1,7,none⟩ (.int .i64 (iat (vsL f) 1))).setCell ⟨w.heap.size+1,8,none⟩ (.bool ((sat f 0).toList==[111,110,108,121]))).setCell ⟨w.heap.size+1,9,none⟩ (.int .i64 (iat (vsL f) 2))).setCell ⟨w.heap.size+1,10,none⟩ (.int .i64 (iat (vsL f) m))).setCell ⟨w.heap.size+1,11,none⟩ (.bool true)).setCell ⟨w.heap.size+1,12,none⟩ (.int .i64 (iat (vsL f) 4))).setCell ⟨w.heap.size+1,13,none⟩ (.slice none 0 0)=wE
 have HEE:Hid (MS w wE [(w.heap.size,#[.int .i64 0,.int .i64 0,.int .i64 0,.int .i64 0,.bool false,.slice none 0 0,.slice none 0 0,.int .i64 0,.bool false,.int .i64 0,.int .i64 0,.bool false,.int .i64 0,.slice none 0 0,.int .i64 0,.slice none 0 0,.slice none 0 0],49),(w.heap.size+1,#[.int .i64 3,.int .i64 (iat (vsL f) 1),.int .i64 0,.int .i64 0,.bool false,.slice none 0 0,.slice none 0 0,.int .i64 (iat (vsL f) 1),.bool ((sat f 0).toList==[111,110,108,121]),.int .i64 (iat (vsL f) 2),.int .i64 (iat (vsL f) m),.bool true,.int .i64 (iat (vsL f) 4),.slice none 0 0,.int .i64 0,.slice ar13 (0+1) cr13,.slice ar9 (0+1+1) cr9],49),(gw,#[.int .i64 (iat (vsL f) 1),.bool ((sat f 0).toList==[111,110,108,121]),.int .i64 (iat (vsL f) 2),.int .i64 (iat (vsL f) m),.bool true,.int .i64 (iat (vsL f) 4),.slice none 0 0],47)] [(.slice (some ⟨gv,0,none⟩) k cv,vsL f),(.slice ar9 (0+1+1) cr9,[]++[iat (vsL f) 2]++[iat (vsL f) m]),(.slice ar13 (0+1) cr13,[]++[iat (vsL f) 4])]):=by unfold Hid;rw[<-hW];exact(((((((HS13.out.set 1 rfl 7 (.int .i64 (iat (vsL f) 1))).set 1 rfl 8 (.bool ((sat f 0).toList==[111,110,108,121]))).set 1 rfl 9 (.int .i64 (iat (vsL f) 2))).set 1 rfl 10 (.int .i64 (iat (vsL f) m))).set 1 rfl 11 (.bool true)).set 1 rfl 12 (.int .i64 (iat (vsL f) 4))).set 1 rfl 13 (.slice none 0 0))
 clear hW HS13 w0_ d0_ z0_ w1_ d1_ z1_ w2_ d2_ z2_ w3_ d3_ z3_ w4_ d4_ z4_ w5_ d5_ z5_ w6_ d6_ z6_
 have xf:=HFC.out HEE.out.nx 0 (by omega)
 go_upto_region 48 with fail
 refine wp_region_list ?_
 refine wpList_loadB rfl _ rfl rfl (HEE.out.box 1 rfl) rfl ?_
 refine wpList_storeB rfl _ _ rfl rfl rfl (HEE.out.box 0 rfl) rfl rfl rfl ?_
 have hbt:=setRow_bt (cs':=#[.int .i64 3,.int .i64 (iat (vsL f) 1),.int .i64 0,.int .i64 0,.bool false,.slice none 0 0,.slice none 0 0,.int .i64 (iat (vsL f) 1),.bool ((sat f 0).toList==[111,110,108,121]),.int .i64 (iat (vsL f) 2),.int .i64 (iat (vsL f) m),.bool true,.int .i64 (iat (vsL f) 4),.slice none 0 0,.int .i64 0,.slice ar13 (0+1) cr13,.slice ar9 (0+1+1) cr9]) (HEE.out.box 0 rfl)
 have HMF:=mkHid' (HEE.out.putBox 0 rfl (cs':=#[.int .i64 3,.int .i64 (iat (vsL f) 1),.int .i64 0,.int .i64 0,.bool false,.slice none 0 0,.slice none 0 0,.int .i64 (iat (vsL f) 1),.bool ((sat f 0).toList==[111,110,108,121]),.int .i64 (iat (vsL f) 2),.int .i64 (iat (vsL f) m),.bool true,.int .i64 (iat (vsL f) 4),.slice none 0 0,.int .i64 0,.slice ar13 (0+1) cr13,.slice ar9 (0+1+1) cr9]))
 generalize wE.setRow w.heap.size #[.int .i64 3,.int .i64 (iat (vsL f) 1),.int .i64 0,.int .i64 0,.bool false,.slice none 0 0,.slice none 0 0,.int .i64 (iat (vsL f) 1),.bool ((sat f 0).toList==[111,110,108,121]),.int .i64 (iat (vsL f) 2),.int .i64 (iat (vsL f) m),.bool true,.int .i64 (iat (vsL f) 4),.slice none 0 0,.int .i64 0,.slice ar13 (0+1) cr13,.slice ar9 (0+1+1) cr9]=wF at *
 have p0_:wF.cell? ⟨w.heap.size,0,none⟩=some (.int .i64 3):=hbt.1.blk.cell (i:=0) rfl
 have p1_:wF.cell? ⟨w.heap.size,1,none⟩=some (.int .i64 (iat (vsL f) 1)):=hbt.1.blk.cell (i:=1) rfl
 have p2_:wF.cell? ⟨w.heap.size,2,none⟩=some (.int .i64 0):=hbt.1.blk.cell (i:=2) rfl
 have p3_:wF.cell? ⟨w.heap.size,3,none⟩=some (.int .i64 0):=hbt.1.blk.cell (i:=3) rfl
 have p4_:wF.cell? ⟨w.heap.size,4,none⟩=some (.bool false):=hbt.1.blk.cell (i:=4) rfl
 have p5_:wF.cell? ⟨w.heap.size,5,none⟩=some (.slice none 0 0):=hbt.1.blk.cell (i:=5) rfl
 have p6_:wF.cell? ⟨w.heap.size,6,none⟩=some (.slice none 0 0):=hbt.1.blk.cell (i:=6) rfl
 have p7_:wF.cell? ⟨w.heap.size,7,none⟩=some (.int .i64 (iat (vsL f) 1)):=hbt.1.blk.cell (i:=7) rfl
 have p8_:wF.cell? ⟨w.heap.size,8,none⟩=some (.bool ((sat f 0).toList==[111,110,108,121])):=hbt.1.blk.cell (i:=8) rfl
 have p9_:wF.cell? ⟨w.heap.size,9,none⟩=some (.int .i64 (iat (vsL f) 2)):=hbt.1.blk.cell (i:=9) rfl
 have p10_:wF.cell? ⟨w.heap.size,10,none⟩=some (.int .i64 (iat (vsL f) m)):=hbt.1.blk.cell (i:=10) rfl
 have p11_:wF.cell? ⟨w.heap.size,11,none⟩=some (.bool true):=hbt.1.blk.cell (i:=11) rfl
 have p12_:wF.cell? ⟨w.heap.size,12,none⟩=some (.int .i64 (iat (vsL f) 4)):=hbt.1.blk.cell (i:=12) rfl
 have p13_:wF.cell? ⟨w.heap.size,13,none⟩=some (.slice none 0 0):=hbt.1.blk.cell (i:=13) rfl
 have p14_:wF.cell? ⟨w.heap.size,14,none⟩=some (.int .i64 0):=hbt.1.blk.cell (i:=14) rfl
 have p15_:wF.cell? ⟨w.heap.size,15,none⟩=some (.slice ar13 (0+1) cr13):=hbt.1.blk.cell (i:=15) rfl
 have p16_:wF.cell? ⟨w.heap.size,16,none⟩=some (.slice ar9 (0+1+1) cr9):=hbt.1.blk.cell (i:=16) rfl
 clear hbt
 unfold wpList
 go_wp2
 refine bodyPost_ret (v:=.agg #[.int .i64 3,.int .i64 (iat (vsL f) 1),.int .i64 0,.int .i64 0,.bool false,.slice none 0 0,.slice none 0 0,.int .i64 (iat (vsL f) 1),.bool ((sat f 0).toList==[111,110,108,121]),.int .i64 (iat (vsL f) 2),.int .i64 (iat (vsL f) m),.bool true,.int .i64 (iat (vsL f) 4),.slice none 0 0,.int .i64 0,.slice ar13 (0+1) cr13,.slice ar9 (0+1+1) cr9]) (by simp[results,Tryz.results16,go_sem,p0_,p1_,p2_,p3_,p4_,p5_,p6_,p7_,p8_,p9_,p10_,p11_,p12_,p13_,p14_,p15_,p16_]) rfl ?_
 rw[HRD.out]
 exact⟨⟨.slice none 0 0,.slice none 0 0,.slice none 0 0,.slice ar13 (0+1) cr13,.slice ar9 (0+1+1) cr9,rfl,⟨⟨rfl,Or.inl ⟨rfl,rfl⟩⟩,⟨rfl,Or.inl ⟨rfl,rfl⟩⟩,⟨rfl,Or.inl ⟨rfl,rfl⟩⟩,HMF.out.row 2 rfl,HMF.out.row 1 rfl⟩⟩,HMF.out.nx⟩
end Go.Proofs.YthhkjbfkgdlkmaaGreatDoor
