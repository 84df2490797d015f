import Derived.Test.YthhkjbfkgdlkmaaGreatDoorPD
namespace Go.Proofs.YthhkjbfkgdlkmaaGreatDoor
open Go.RowKit Go.Sort
set_option linter.unusedVariables false
set_option maxRecDepth 1000000
set_option maxHeartbeats 16000000
theorem rd_way (C:Nat)(a:Option Addr)(n c:Nat)(f:List ByteArray)(w:World)(h:OwnSt C w (.slice a n c) f)(hn:f.length=n)(hl:n<=204)(hs:∀i,i<n->(sat f i).size<=300000)(hw:(sat f 0).toList=[119,97,121])(hc:6<=n) :
  Calls Tryz.prog 16 #[.slice a n c] w λe w'=>(∃vn vw vr nn nw,e=.returned (deV (rdS f) vn vw vr nn nw)/\HDe w.heap.size w' (rdS f) vn vw vr nn nw)/\Nx w w':=by
 have HCC:=mkHid' hc
 have hc1:2<=n:=by omega
 clear hc
 have HO:Hid (OwnSt C w (.slice a n c) f):=h
 have HN:Hid (f.length=n):=hn
 have HSZ:Hid (∀i,i<n->(sat f i).size<=300000):=hs
 obtain⟨g,rfl,-,hg,hc0⟩:=OwnSt.at h (i:=0) (by omega)
 have HC:Hid (∀i,i<n->w.cell? ⟨g,i,none⟩=some (.string (sat f i))):=λi hi=>by
  obtain⟨g',e,-,-,hc⟩:=OwnSt.at HO.out (i:=i) (by rw[HN.out];exact hi)
  have e':g=g':=by simpa using e
  rw[e'];exact hc
 clear h hs hn hc0
 have HVL:Hid ((vsL f).length=n):=by unfold Hid;rw[vsL_len];exact HN.out
 have HVT:Hid (∀k,k<n->(vsL f).take (k+1)=(vsL f).take k++[valS (sat f k)]):=λk hk=>by rw[List.take_succ_eq_append_getElem (by rw[HVL.out];exact hk),<-iat_eq,vsL_at (by rw[HN.out];exact hk)]
 go_enter Tryz.func16,Tryz.ntmps16
 go_upto_region 3 with fail
 generalize hWA:((w.alloc (.cells #[.int .i64 0,.int .i64 0,.int .i64 0,.int .i64 0,.bool false,.slice none 0 0,.slice none 0 0,.int .i64 0,.bool false,.int .i64 0,.int .i64 0,.bool false,.int .i64 0,.slice none 0 0,.int .i64 0,.slice none 0 0,.slice none 0 0] 49)).alloc (.cells #[.int .i64 0,.int .i64 0,.int .i64 0,.int .i64 0,.bool false,.slice none 0 0,.slice none 0 0,.int .i64 0,.bool false,.int .i64 0,.int .i64 0,.bool false,.int .i64 0,.slice none 0 0,.int .i64 0,.slice none 0 0,.slice none 0 0] 49)).alloc (.cells #[] 2)=wA
 have HM:Hid (MS w wA [(w.heap.size,#[.int .i64 0,.int .i64 0,.int .i64 0,.int .i64 0,.bool false,.slice none 0 0,.slice none 0 0,.int .i64 0,.bool false,.int .i64 0,.int .i64 0,.bool false,.int .i64 0,.slice none 0 0,.int .i64 0,.slice none 0 0,.slice none 0 0],49),(w.heap.size+1,#[.int .i64 0,.int .i64 0,.int .i64 0,.int .i64 0,.bool false,.slice none 0 0,.slice none 0 0,.int .i64 0,.bool false,.int .i64 0,.int .i64 0,.bool false,.int .i64 0,.slice none 0 0,.int .i64 0,.slice none 0 0,.slice none 0 0],49)] [(.slice (some ⟨w.heap.size+2,0,none⟩) 0 0,(vsL f).take 0)]):=by
  unfold Hid
  rw[<-hWA]
  have m1:=((MS.start w).addBox #[.int .i64 0,.int .i64 0,.int .i64 0,.int .i64 0,.bool false,.slice none 0 0,.slice none 0 0,.int .i64 0,.bool false,.int .i64 0,.int .i64 0,.bool false,.int .i64 0,.slice none 0 0,.int .i64 0,.slice none 0 0,.slice none 0 0] 49 (by decide)).addBox #[.int .i64 0,.int .i64 0,.int .i64 0,.int .i64 0,.bool false,.slice none 0 0,.slice none 0 0,.int .i64 0,.bool false,.int .i64 0,.int .i64 0,.bool false,.int .i64 0,.slice none 0 0,.int .i64 0,.slice none 0 0,.slice none 0 0] 49 (by decide)
  have m2:=m1.newRow
  rw[size_alloc',size_alloc'] at m2
  rw[size_alloc'] at m2
  exact m2
 clear hWA
 go_wp2
 go_loopw [4,5] (λs4 s5 wr=>∃(k cv:Nat) (av:Option Addr),k<=n/\s5=.int .i64 k/\s4=.slice av k cv/\Hid (MS w wr [(w.heap.size,#[.int .i64 0,.int .i64 0,.int .i64 0,.int .i64 0,.bool false,.slice none 0 0,.slice none 0 0,.int .i64 0,.bool false,.int .i64 0,.int .i64 0,.bool false,.int .i64 0,.slice none 0 0,.int .i64 0,.slice none 0 0,.slice none 0 0],49),(w.heap.size+1,#[.int .i64 0,.int .i64 0,.int .i64 0,.int .i64 0,.bool false,.slice none 0 0,.slice none 0 0,.int .i64 0,.bool false,.int .i64 0,.int .i64 0,.bool false,.int .i64 0,.slice none 0 0,.int .i64 0,.slice none 0 0,.slice none 0 0],49)] [(.slice av k cv,(vsL f).take k)])) (λ_ i _=>n-(intOf i).toNat)
 case atStart=>exact⟨0,0,_,Nat.zero_le _,rfl,rfl,HM⟩
 clear HM
 obtain⟨k,cv,av,hkn,rfl,rfl,HM⟩:=hrel
 by_cases hlt:k<n
 ·have hlt':(k:Int)<n:=by omega
  have xk:=cellq HM.out.nx (HC.out k hlt)
  go_wp2_with fail
  refine(l1Value_any (sat f k) wr (by have:=HSZ.out k hlt;omega)).mono ?_
  rintro e w1 ⟨rfl,hx⟩
  have HM1:=mkHid' (HM.out.next hx)
  have HTL:Hid (((vsL f).take k).length=k):=by unfold Hid;rw[List.length_take,HVL.out];omega
  have HT1:=mkHid' (HVT.out k hlt)
  have hzz:w.heap.size<=w1.heap.size:=HM1.out.nx.size
  have hvi:=valS_in (sat f k)
  clear hx xk HM
  generalize valS (sat f k)=z at *
  go_wp2_with (at_builtin;refine app_int rfl _ _ rfl w.heap.size k (.slice av k cv) ((vsL f).take k) z w1 rfl (HM1.out.row 0 rfl) rfl HTL.out (by omega) hzz ?_)
  intro a1 c1 w2 r1 r2 r3
  rw[<-HT1.out] at r1
  have HM2:Hid (MS w w2 [(w.heap.size,#[.int .i64 0,.int .i64 0,.int .i64 0,.int .i64 0,.bool false,.slice none 0 0,.slice none 0 0,.int .i64 0,.bool false,.int .i64 0,.int .i64 0,.bool false,.int .i64 0,.slice none 0 0,.int .i64 0,.slice none 0 0,.slice none 0 0],49),(w.heap.size+1,#[.int .i64 0,.int .i64 0,.int .i64 0,.int .i64 0,.bool false,.slice none 0 0,.slice none 0 0,.int .i64 0,.bool false,.int .i64 0,.int .i64 0,.bool false,.int .i64 0,.slice none 0 0,.int .i64 0,.slice none 0 0,.slice none 0 0],49)] [(.slice a1 (k+1) c1,(vsL f).take (k+1))]):=HM1.out.grow 0 rfl r1 r2 r3
  clear r1 r2 r3 HM1
  go_wp2
  go_roundw
  case rel=>exact⟨k+1,c1,a1,by omega,by go_num,rfl,HM2⟩
  case measure=>simp[intOf];omega
 have ek:k=n:=by omega
 subst ek
 have HVA:Hid ((vsL f).take k=vsL f):=List.take_of_length_le (by rw[HVL.out];exact Nat.le_refl _)
 rw[HVA.out] at HM
 obtain⟨gv,cv',csv,ev,hgv,-,-,hcv⟩:=(HM.out.row 0 rfl).open (by rw[HVL.out];omega)
 rw[HVL.out] at ev hcv
 simp only[Value.slice.injEq] at ev
 obtain⟨rfl,-,rfl⟩:=ev
 clear hcv csv hlt hkn
 have HVC:Hid (∀{q:World}{bl:List (Nat×Array Value×Nat)}{rs:List (Value×List Int)},MS w q bl rs->rs[0]?=some (.slice (some ⟨gv,0,none⟩) k cv,vsL f)->∀i,i<k->q.cell? ⟨gv,i,none⟩=some (.int .i64 (iat (vsL f) i))):=λhM h0 i hi=>((hM.row 0 h0).in (by rw[HVL.out];exact hi)).2.2
 have HFC:Hid (∀{q:World},Nx w q->∀i,i<k->q.cell? ⟨g,i,none⟩=some (.string (sat f i))):=λhx i hi=>cellq hx (HC.out i hi)
 have hx:(sat f 0).toList=[119,97,121]:=hw
 have HRL:Hid (relB (sat f 0)=false):=by unfold Hid relB;rw[hx];rfl
 have HRD:Hid (rdS f=⟨2,iat (vsL f) 1,0,⟨iat (vsL f) 1,(sat f 2).toList==[98],odds (vsL f) f.length,evens (vsL f) f.length⟩,zRl,0,odds (vsL f) f.length,[]⟩):=by unfold Hid rdS;rw[hx];rfl
 rw[HN.out] at HRD
 have hmx:Tryz.prog.follows .mixedOrders=true:=by kernel_rfl
 have hk1:(1:Int)<(k:Int):=by have:=HCC.out;omega
 have hk2:(2:Int)<(k:Int):=by have:=HCC.out;omega
 have hk6:6<=k:=HCC.out
 have HS1:Hid (MS w wr [(w.heap.size,#[.int .i64 0,.int .i64 0,.int .i64 0,.int .i64 0,.bool false,.slice none 0 0,.slice none 0 0,.int .i64 0,.bool false,.int .i64 0,.int .i64 0,.bool false,.int .i64 0,.slice none 0 0,.int .i64 0,.slice none 0 0,.slice none 0 0],49),(w.heap.size+1,#[.int .i64 0,.int .i64 0,.int .i64 0,.int .i64 0,.bool false,.slice none 0 0,.slice none 0 0,.int .i64 0,.bool false,.int .i64 0,.int .i64 0,.bool false,.int .i64 0,.slice none 0 0,.int .i64 0,.slice none 0 0,.slice none 0 0],49)] [(.slice (some ⟨gv,0,none⟩) k cv,vsL f),(.slice none 0 0,[])]):=HM.out.addNil
 clear HM
 have HS2:Hid (MS w wr [(w.heap.size,#[.int .i64 0,.int .i64 0,.int .i64 0,.int .i64 0,.bool false,.slice none 0 0,.slice none 0 0,.int .i64 0,.bool false,.int .i64 0,.int .i64 0,.bool false,.int .i64 0,.slice none 0 0,.int .i64 0,.slice none 0 0,.slice none 0 0],49),(w.heap.size+1,#[.int .i64 0,.int .i64 0,.int .i64 0,.int .i64 0,.bool false,.slice none 0 0,.slice none 0 0,.int .i64 0,.bool false,.int .i64 0,.int .i64 0,.bool false,.int .i64 0,.slice none 0 0,.int .i64 0,.slice none 0 0,.slice none 0 0],49)] [(.slice (some ⟨gv,0,none⟩) k cv,vsL f),(.slice none 0 0,[]),(.slice none 0 0,[])]):=HS1.out.addNil
 clear HS1
 have HS3:Hid (MS w wr [(w.heap.size,#[.int .i64 0,.int .i64 0,.int .i64 0,.int .i64 0,.bool false,.slice none 0 0,.slice none 0 0,.int .i64 0,.bool false,.int .i64 0,.int .i64 0,.bool false,.int .i64 0,.slice none 0 0,.int .i64 0,.slice none 0 0,.slice none 0 0],49),(w.heap.size+1,#[.int .i64 0,.int .i64 0,.int .i64 0,.int .i64 0,.bool false,.slice none 0 0,.slice none 0 0,.int .i64 0,.bool false,.int .i64 0,.int .i64 0,.bool false,.int .i64 0,.slice none 0 0,.int .i64 0,.slice none 0 0,.slice none 0 0],49)] [(.slice (some ⟨gv,0,none⟩) k cv,vsL f),(.slice none 0 0,[]),(.slice none 0 0,[]),(.slice none 0 0,[])]):=HS2.out.addNil
 clear HS2
 have xf:=HFC.out HS3.out.nx 0 (by omega)
 have q_:wr.cell? ⟨w.heap.size+1,0,none⟩=some (.int .i64 0):=(HS3.out.box 1 rfl).blk.cell (i:=0) rfl
 have f_:=(HS3.out.box 1 rfl).blk.frozen 0
 go_upto_region 12 with fail
 generalize hW:wr.setCell ⟨w.heap.size+1,0,none⟩ (.int .i64 2)=ws4
 have HS4:Hid (MS w ws4 [(w.heap.size,#[.int .i64 0,.int .i64 0,.int .i64 0,.int .i64 0,.bool false,.slice none 0 0,.slice none 0 0,.int .i64 0,.bool false,.int .i64 0,.int .i64 0,.bool false,.int .i64 0,.slice none 0 0,.int .i64 0,.slice none 0 0,.slice none 0 0],49),(w.heap.size+1,#[.int .i64 2,.int .i64 0,.int .i64 0,.int .i64 0,.bool false,.slice none 0 0,.slice none 0 0,.int .i64 0,.bool false,.int .i64 0,.int .i64 0,.bool false,.int .i64 0,.slice none 0 0,.int .i64 0,.slice none 0 0,.slice none 0 0],49)] [(.slice (some ⟨gv,0,none⟩) k cv,vsL f),(.slice none 0 0,[]),(.slice none 0 0,[]),(.slice none 0 0,[])]):=by unfold Hid;rw[<-hW];exact HS3.out.set 1 rfl 0 (.int .i64 2)
 clear hW q_ f_ HS3
 have xv:=HVC.out HS4.out rfl 1 (by omega)
 have q_:ws4.cell? ⟨w.heap.size+1,1,none⟩=some (.int .i64 0):=(HS4.out.box 1 rfl).blk.cell (i:=1) rfl
 have f_:=(HS4.out.box 1 rfl).blk.frozen 1
 go_upto_region 13 with fail
 generalize hW:ws4.setCell ⟨w.heap.size+1,1,none⟩ (.int .i64 (iat (vsL f) 1))=ws5
 have HS5:Hid (MS w ws5 [(w.heap.size,#[.int .i64 0,.int .i64 0,.int .i64 0,.int .i64 0,.bool false,.slice none 0 0,.slice none 0 0,.int .i64 0,.bool false,.int .i64 0,.int .i64 0,.bool false,.int .i64 0,.slice none 0 0,.int .i64 0,.slice none 0 0,.slice none 0 0],49),(w.heap.size+1,#[.int .i64 2,.int .i64 (iat (vsL f) 1),.int .i64 0,.int .i64 0,.bool false,.slice none 0 0,.slice none 0 0,.int .i64 0,.bool false,.int .i64 0,.int .i64 0,.bool false,.int .i64 0,.slice none 0 0,.int .i64 0,.slice none 0 0,.slice none 0 0],49)] [(.slice (some ⟨gv,0,none⟩) k cv,vsL f),(.slice none 0 0,[]),(.slice none 0 0,[]),(.slice none 0 0,[])]):=by unfold Hid;rw[<-hW];exact HS4.out.set 1 rfl 1 (.int .i64 (iat (vsL f) 1))
 clear hW q_ f_ HS4
 clear xv xf
 have xv_:=HVC.out HS5.out rfl 1 (by omega)
 have xf_:=HFC.out HS5.out.nx 2 (by omega)
 have hxd:Nx ws5 ws5.drew:=(Below.refl _ _).drew
 have HD6:=mkHid' (HS5.out.next hxd)
 have HSS:Hid ((λq=>q.cell? ⟨gv,1,none⟩=some (.int .i64 (iat (vsL f) 1))/\q.cell? ⟨g,2,none⟩=some (.string (sat f 2))) ws5.drew):=⟨cellq hxd xv_,cellq hxd xf_⟩
 clear HS5 xv_ xf_ hxd
 refine(wpIn_wide (n:=9)).1 ?_
 refine wpIn_region_S (c:=9) (S:=λq=>q.cell? ⟨gv,1,none⟩=some (.int .i64 (iat (vsL f) 1))/\q.cell? ⟨g,2,none⟩=some (.string (sat f 2))) hmx (by kernel_rfl) (λhw hcl=>?_)
 generalize ws5.drew=wd6 at *
 refine tq (i:=0) (v:=.slice (some ⟨gv,0,none⟩) k cv) (λhcl=>?_)
 refine tq (i:=1) (v:=.pointer (some ⟨gv,1,none⟩)) (λhcl=>?_)
 refine tq (i:=2) (v:=.int .i64 (iat (vsL f) 1)) (λhcl=>?_)
 refine tq (i:=3) (v:=.slice (some ⟨g,0,none⟩) k c) (λhcl=>?_)
 refine tq (i:=4) (v:=.pointer (some ⟨g,2,none⟩)) (λhcl=>?_)
 refine tq (i:=5) (v:=.string (sat f 2)) (λhcl=>?_)
 refine tq (i:=6) (v:=.bool ((sat f 2).toList==[98])) (λhcl=>?_)
 refine tq (i:=7) (v:=.agg #[.int .i64 (iat (vsL f) 1),.bool ((sat f 2).toList==[98]),.slice none 0 0,.slice none 0 0]) (λhcl=>?_)
 refine anyS_one2 (i:=8) (by kernel_rfl) hcl (λhcl=>wpOpIn_step rfl (λK hK=>?_))
 go_simp
 refine hK _ _ ⟨Or.inr ⟨cellq (box1 _ _) HSS.out.1,cellq (box1 _ _) HSS.out.2⟩,?_⟩
 clear hK K
 refine anyS_one (i:=9) (by kernel_rfl) (wpOpIn_step rfl (λK hK=>?_))
 go_simp
 refine hK _ _ ⟨Or.inl (by decide),?_⟩
 clear hK K
 refine anyS_done (by kernel_rfl) ?_ _
 clear hw hcl HSS
 generalize hWW:wd6.alloc (.cells #[.int .i64 (iat (vsL f) 1),.bool ((sat f 2).toList==[98]),.slice none 0 0,.slice none 0 0] 45)=wW
 have HW0:=mkHid' (HD6.out.addBox #[.int .i64 (iat (vsL f) 1),.bool ((sat f 2).toList==[98]),.slice none 0 0,.slice none 0 0] 45 (by decide))
 rw[hWW] at HW0
 generalize wd6.heap.size=gw at *
 have HW:Hid (MS w wW [(w.heap.size,#[.int .i64 0,.int .i64 0,.int .i64 0,.int .i64 0,.bool false,.slice none 0 0,.slice none 0 0,.int .i64 0,.bool false,.int .i64 0,.int .i64 0,.bool false,.int .i64 0,.slice none 0 0,.int .i64 0,.slice none 0 0,.slice none 0 0],49),(w.heap.size+1,#[.int .i64 2,.int .i64 (iat (vsL f) 1),.int .i64 0,.int .i64 0,.bool false,.slice none 0 0,.slice none 0 0,.int .i64 0,.bool false,.int .i64 0,.int .i64 0,.bool false,.int .i64 0,.slice none 0 0,.int .i64 0,.slice none 0 0,.slice none 0 0],49),(gw,#[.int .i64 (iat (vsL f) 1),.bool ((sat f 2).toList==[98]),.slice none 0 0,.slice none 0 0],45)] [(.slice (some ⟨gv,0,none⟩) k cv,vsL f),(.slice none 0 0,[]),(.slice none 0 0,[]),(.slice none 0 0,[])]):=HW0.out
 clear hWW HW0 HD6
 go_wp2
 go_loopw [7] (λs7 wr=>∃(i mN cN mW cW mM cM:Nat) (aN aW aM:Option Addr),3<=i/\i<=k/\s7=.int .i64 i/\Hid ((odds (vsL f) i).length=mN/\(evens (vsL f) i).length=mW/\(odds (vsL f) i).length=mM)/\Hid (MS w wr [(w.heap.size,#[.int .i64 0,.int .i64 0,.int .i64 0,.int .i64 0,.bool false,.slice none 0 0,.slice none 0 0,.int .i64 0,.bool false,.int .i64 0,.int .i64 0,.bool false,.int .i64 0,.slice none 0 0,.int .i64 0,.slice none 0 0,.slice none 0 0],49),(w.heap.size+1,#[.int .i64 2,.int .i64 (iat (vsL f) 1),.int .i64 0,.int .i64 0,.bool false,.slice none 0 0,.slice none 0 0,.int .i64 0,.bool false,.int .i64 0,.int .i64 0,.bool false,.int .i64 0,.slice none 0 0,.int .i64 0,.slice aM mM cM,.slice none 0 0],49),(gw,#[.int .i64 (iat (vsL f) 1),.bool ((sat f 2).toList==[98]),.slice aN mN cN,.slice aW mW cW],45)] [(.slice (some ⟨gv,0,none⟩) k cv,vsL f),(.slice aN mN cN,odds (vsL f) i),(.slice aW mW cW,evens (vsL f) i),(.slice aM mM cM,odds (vsL f) i)])) (λs7 _=>k-(intOf s7).toNat)
 case atStart=>exact⟨3,0,0,0,0,0,0,none,none,none,Nat.le_refl _,by omega,rfl,⟨rfl,rfl,rfl⟩,HW⟩
 clear HW
 obtain⟨i,mN,cN,mW,cW,mM,cM,aN,aW,aM,hi3,hik,rfl,HLN,HL⟩:=hrel
 by_cases hlt:i<k
 ·have hlt':(i:Int)<(k:Int):=by omega
  have hln:=odds_le (vsL f) i
  have hlw:=evens_le (vsL f) i
  rw[HLN.out.1] at hln
  rw[HLN.out.2.1] at hlw
  have hmM:mM<=i:=by have e1:=HLN.out.1;have e2:=HLN.out.2.2;omega
  by_cases h2:i%2=1
  ·have h2':((i:Int)%2==1)=true:=by simp;omega
   have h2b:(i:Int)%2=1:=by omega
   have HOD:Hid (odds (vsL f) (i+1)=odds (vsL f) i++[iat (vsL f) i]):=by unfold Hid;show(if 3<=i/\i%2=1 then _ else _)=_;rw[if_pos ⟨hi3,h2⟩]
   have HEV:Hid (evens (vsL f) (i+1)=evens (vsL f) i):=by unfold Hid;show(if 3<=i/\i%2=0 then _ else _)=_;rw[if_neg (by omega)]
   clear h2
   have q_:wr.cell? ⟨gw,2,none⟩=some (.slice aN mN cN):=(HL.out.box 2 rfl).blk.cell (i:=2) rfl
   have xv_:=HVC.out HL.out rfl (i) (by omega)
   go_upto_region 18 with fail
   have hxd:Nx wr wr.drew:=(Below.refl _ _).drew
   have HD7:=mkHid' (HL.out.next hxd)
   have HSS:Hid ((λq=>q.cell? ⟨gw,2,none⟩=some (.slice aN mN cN)/\q.cell? ⟨gv,i,none⟩=some (.int .i64 (iat (vsL f) i))) wr.drew):=⟨cellq hxd q_,cellq hxd xv_⟩
   clear HL q_ xv_ hxd
   refine(wpIn_wide (n:=9)).1 ?_
   refine wpIn_region_S (c:=9) (S:=λq=>q.cell? ⟨gw,2,none⟩=some (.slice aN mN cN)/\q.cell? ⟨gv,i,none⟩=some (.int .i64 (iat (vsL f) i))) hmx (by kernel_rfl) (λhw hcl=>?_)
   generalize wr.drew=wd7 at *
   refine tq (i:=0) (v:=.pointer (some ⟨gw,2,none⟩)) (λhcl=>?_)
   refine tq (i:=1) (v:=.slice aN mN cN) (λhcl=>?_)
   refine tq (i:=2) (v:=.slice (some ⟨gv,0,none⟩) k cv) (λhcl=>?_)
   refine tq (i:=3) (v:=.int .i64 (i:Int)) (λhcl=>?_)
   refine tq (i:=4) (v:=.pointer (some ⟨gv,i,none⟩)) (λhcl=>?_)
   refine tq (i:=5) (v:=.int .i64 (iat (vsL f) i)) (λhcl=>?_)
   refine anyS_one2 (i:=6) (by kernel_rfl) hcl (λhcl=>wpOpIn_step rfl (λK hK=>?_))
   go_simp
   refine hK _ _ ⟨Or.inr ⟨cellq (box1 _ _) HSS.out.1,cellq (box1 _ _) HSS.out.2⟩,?_⟩
   clear hK K
   have hzz:w.heap.size<=wd7.heap.size:=HD7.out.nx.size
   refine anyS_one2 (i:=7) (by kernel_rfl) hcl (λhcl=>wpOpIn_step rfl (λK hK=>?_))
   refine app_int_in rfl (.tmp 62) (.tmp 67) rfl w.heap.size (mN) (.slice aN mN cN) (odds (vsL f) i) (iat (vsL f) i) wd7 _ rfl (by simp[Act.eval]) (HD7.out.row 1 rfl) (by simp[Act.eval]) (HLN.out.1) (by omega) hzz ?_
   intro ar7 cr7 wx7 r1 r2 r3
   have HE7:Hid (MS w wx7 [(w.heap.size,#[.int .i64 0,.int .i64 0,.int .i64 0,.int .i64 0,.bool false,.slice none 0 0,.slice none 0 0,.int .i64 0,.bool false,.int .i64 0,.int .i64 0,.bool false,.int .i64 0,.slice none 0 0,.int .i64 0,.slice none 0 0,.slice none 0 0],49),(w.heap.size+1,#[.int .i64 2,.int .i64 (iat (vsL f) 1),.int .i64 0,.int .i64 0,.bool false,.slice none 0 0,.slice none 0 0,.int .i64 0,.bool false,.int .i64 0,.int .i64 0,.bool false,.int .i64 0,.slice none 0 0,.int .i64 0,.slice aM mM cM,.slice none 0 0],49),(gw,#[.int .i64 (iat (vsL f) 1),.bool ((sat f 2).toList==[98]),.slice aN mN cN,.slice aW mW cW],45)] [(.slice (some ⟨gv,0,none⟩) k cv,vsL f),(.slice ar7 (mN+1) cr7,odds (vsL f) i++[iat (vsL f) i]),(.slice aW mW cW,evens (vsL f) i),(.slice aM mM cM,odds (vsL f) i)]):=HD7.out.grow 1 rfl r1 r2 r3
   clear r1 r2 r3 hzz
   clear HSS
   have HSS:Hid ((λq=>q.cell? ⟨gw,2,none⟩=some (.slice aN mN cN)/\q.cell? ⟨gv,i,none⟩=some (.int .i64 (iat (vsL f) i))) wx7):=⟨(HE7.out.box 2 rfl).blk.cell (i:=2) rfl,HVC.out HE7.out rfl (i) (by omega)⟩
   refine hK _ _ ⟨Or.inr HSS.out,?_⟩
   clear hK K HD7
   refine tq (i:=8) (v:=.pointer (some ⟨gw,2,none⟩)) (λhcl=>?_)
   have q_:wx7.cell? ⟨gw,2,none⟩=some (.slice aN mN cN):=(HE7.out.box 2 rfl).blk.cell (i:=2) rfl
   have f_:=(HE7.out.box 2 rfl).blk.frozen 2
   refine anyS_one (i:=9) (by kernel_rfl) (wpOpIn_step rfl (λK hK=>?_))
   go_simp
   refine hK _ _ ⟨Or.inl (by decide),?_⟩
   clear hK K
   refine anyS_done (by kernel_rfl) ?_ _
   clear hw hcl q_ f_ HSS
   generalize hW:wx7.setCell ⟨gw,2,none⟩ (.slice ar7 (mN+1) cr7)=ws7
   have HS7:Hid (MS w ws7 [(w.heap.size,#[.int .i64 0,.int .i64 0,.int .i64 0,.int .i64 0,.bool false,.slice none 0 0,.slice none 0 0,.int .i64 0,.bool false,.int .i64 0,.int .i64 0,.bool false,.int .i64 0,.slice none 0 0,.int .i64 0,.slice none 0 0,.slice none 0 0],49),(w.heap.size+1,#[.int .i64 2,.int .i64 (iat (vsL f) 1),.int .i64 0,.int .i64 0,.bool false,.slice none 0 0,.slice none 0 0,.int .i64 0,.bool false,.int .i64 0,.int .i64 0,.bool false,.int .i64 0,.slice none 0 0,.int .i64 0,.slice aM mM cM,.slice none 0 0],49),(gw,#[.int .i64 (iat (vsL f) 1),.bool ((sat f 2).toList==[98]),.slice ar7 (mN+1) cr7,.slice aW mW cW],45)] [(.slice (some ⟨gv,0,none⟩) k cv,vsL f),(.slice ar7 (mN+1) cr7,odds (vsL f) i++[iat (vsL f) i]),(.slice aW mW cW,evens (vsL f) i),(.slice aM mM cM,odds (vsL f) i)]):=by unfold Hid;rw[<-hW];exact HE7.out.set 2 rfl 2 (.slice ar7 (mN+1) cr7)
   clear hW HE7
   have q_:ws7.cell? ⟨w.heap.size+1,15,none⟩=some (.slice aM mM cM):=(HS7.out.box 1 rfl).blk.cell (i:=15) rfl
   have xv_:=HVC.out HS7.out rfl (i) (by omega)
   go_upto_region 19 with fail
   have hxd:Nx ws7 ws7.drew:=(Below.refl _ _).drew
   have HD8:=mkHid' (HS7.out.next hxd)
   have HSS:Hid ((λq=>q.cell? ⟨w.heap.size+1,15,none⟩=some (.slice aM mM cM)/\q.cell? ⟨gv,i,none⟩=some (.int .i64 (iat (vsL f) i))) ws7.drew):=⟨cellq hxd q_,cellq hxd xv_⟩
   clear HS7 q_ xv_ hxd
   refine(wpIn_wide (n:=9)).1 ?_
   refine wpIn_region_S (c:=9) (S:=λq=>q.cell? ⟨w.heap.size+1,15,none⟩=some (.slice aM mM cM)/\q.cell? ⟨gv,i,none⟩=some (.int .i64 (iat (vsL f) i))) hmx (by kernel_rfl) (λhw hcl=>?_)
   generalize ws7.drew=wd8 at *
   refine tq (i:=0) (v:=.pointer (some ⟨w.heap.size+1,15,none⟩)) (λhcl=>?_)
   refine tq (i:=1) (v:=.slice aM mM cM) (λhcl=>?_)
   refine tq (i:=2) (v:=.slice (some ⟨gv,0,none⟩) k cv) (λhcl=>?_)
   refine tq (i:=3) (v:=.int .i64 (i:Int)) (λhcl=>?_)
   refine tq (i:=4) (v:=.pointer (some ⟨gv,i,none⟩)) (λhcl=>?_)
   refine tq (i:=5) (v:=.int .i64 (iat (vsL f) i)) (λhcl=>?_)
   refine anyS_one2 (i:=6) (by kernel_rfl) hcl (λhcl=>wpOpIn_step rfl (λK hK=>?_))
   go_simp
   refine hK _ _ ⟨Or.inr ⟨cellq (box1 _ _) HSS.out.1,cellq (box1 _ _) HSS.out.2⟩,?_⟩
   clear hK K
   have hzz:w.heap.size<=wd8.heap.size:=HD8.out.nx.size
   refine anyS_one2 (i:=7) (by kernel_rfl) hcl (λhcl=>wpOpIn_step rfl (λK hK=>?_))
   refine app_int_in rfl (.tmp 71) (.tmp 76) rfl w.heap.size (mM) (.slice aM mM cM) (odds (vsL f) i) (iat (vsL f) i) wd8 _ rfl (by simp[Act.eval]) (HD8.out.row 3 rfl) (by simp[Act.eval]) (HLN.out.2.2) (by omega) hzz ?_
   intro ar8 cr8 wx8 r1 r2 r3
   have HE8:Hid (MS w wx8 [(w.heap.size,#[.int .i64 0,.int .i64 0,.int .i64 0,.int .i64 0,.bool false,.slice none 0 0,.slice none 0 0,.int .i64 0,.bool false,.int .i64 0,.int .i64 0,.bool false,.int .i64 0,.slice none 0 0,.int .i64 0,.slice none 0 0,.slice none 0 0],49),(w.heap.size+1,#[.int .i64 2,.int .i64 (iat (vsL f) 1),.int .i64 0,.int .i64 0,.bool false,.slice none 0 0,.slice none 0 0,.int .i64 0,.bool false,.int .i64 0,.int .i64 0,.bool false,.int .i64 0,.slice none 0 0,.int .i64 0,.slice aM mM cM,.slice none 0 0],49),(gw,#[.int .i64 (iat (vsL f) 1),.bool ((sat f 2).toList==[98]),.slice ar7 (mN+1) cr7,.slice aW mW cW],45)] [(.slice (some ⟨gv,0,none⟩) k cv,vsL f),(.slice ar7 (mN+1) cr7,odds (vsL f) i++[iat (vsL f) i]),(.slice aW mW cW,evens (vsL f) i),(.slice ar8 (mM+1) cr8,odds (vsL f) i++[iat (vsL f) i])]):=HD8.out.grow 3 rfl r1 r2 r3
   clear r1 r2 r3 hzz
   clear HSS
   have HSS:Hid ((λq=>q.cell? ⟨w.heap.size+1,15,none⟩=some (.slice aM mM cM)/\q.cell? ⟨gv,i,none⟩=some (.int .i64 (iat (vsL f) i))) wx8):=⟨(HE8.out.box 1 rfl).blk.cell (i:=15) rfl,HVC.out HE8.out rfl (i) (by omega)⟩
   refine hK _ _ ⟨Or.inr HSS.out,?_⟩
   clear hK K HD8
   refine tq (i:=8) (v:=.pointer (some ⟨w.heap.size+1,15,none⟩)) (λhcl=>?_)
   have q_:wx8.cell? ⟨w.heap.size+1,15,none⟩=some (.slice aM mM cM):=(HE8.out.box 1 rfl).blk.cell (i:=15) rfl
   have f_:=(HE8.out.box 1 rfl).blk.frozen 15
   refine anyS_one (i:=9) (by kernel_rfl) (wpOpIn_step rfl (λK hK=>?_))
   go_simp
   refine hK _ _ ⟨Or.inl (by decide),?_⟩
   clear hK K
   refine anyS_done (by kernel_rfl) ?_ _
   clear hw hcl q_ f_ HSS
   generalize hW:wx8.setCell ⟨w.heap.size+1,15,none⟩ (.slice ar8 (mM+1) cr8)=ws8
   have HS8:Hid (MS w ws8 [(w.heap.size,#[.int .i64 0,.int .i64 0,.int .i64 0,.int .i64 0,.bool false,.slice none 0 0,.slice none 0 0,.int .i64 0,.bool false,.int .i64 0,.int .i64 0,.bool false,.int .i64 0,.slice none 0 0,.int .i64 0,.slice none 0 0,.slice none 0 0],49),(w.heap.size+1,#[.int .i64 2,.int .i64 (iat (vsL f) 1),.int .i64 0,.int .i64 0,.bool false,.slice none 0 0,.slice none 0 0,.int .i64 0,.bool false,.int .i64 0,.int .i64 0,.bool false,.int .i64 0,.slice none 0 0,.int .i64 0,.slice ar8 (mM+1) cr8,.slice none 0 0],49),(gw,#[.int .i64 (iat (vsL f) 1),.bool ((sat f 2).toList==[98]),.slice ar7 (mN+1) cr7,.slice aW mW cW],45)] [(.slice (some ⟨gv,0,none⟩) k cv,vsL f),(.slice ar7 (mN+1) cr7,odds (vsL f) i++[iat (vsL f) i]),(.slice aW mW cW,evens (vsL f) i),(.slice ar8 (mM+1) cr8,odds (vsL f) i++[iat (vsL f) i])]):=by unfold Hid;rw[<-hW];exact HE8.out.set 1 rfl 15 (.slice ar8 (mM+1) cr8)
   clear hW HE8
   rw[<-HOD.out] at HS8
   have HLE:Hid ((odds (vsL f) (i+1)).length=mN+1/\(evens (vsL f) (i+1)).length=mW/\(odds (vsL f) (i+1)).length=mM+1):=by
    have e1:=HLN.out
    unfold Hid
    rw[HOD.out,HEV.out,List.length_append]
    simp
    omega
   rw[<-HEV.out] at HS8
   go_wp2
   go_roundw
   case rel=>exact⟨i+1,_,_,_,_,_,_,_,_,_,by omega,by omega,by go_num,HLE,HS8⟩
   case measure=>simp[intOf];omega
  ·have h2':((i:Int)%2==1)=false:=by simp;omega
   have h2b:¬(i:Int)%2=1:=by omega
   have HOD:Hid (odds (vsL f) (i+1)=odds (vsL f) i):=by unfold Hid;show(if 3<=i/\i%2=1 then _ else _)=_;rw[if_neg (by omega)]
   have HEV:Hid (evens (vsL f) (i+1)=evens (vsL f) i++[iat (vsL f) i]):=by unfold Hid;show(if 3<=i/\i%2=0 then _ else _)=_;rw[if_pos (by omega)]
   clear h2
   have q_:wr.cell? ⟨gw,3,none⟩=some (.slice aW mW cW):=(HL.out.box 2 rfl).blk.cell (i:=3) rfl
   have xv_:=HVC.out HL.out rfl (i) (by omega)
   go_upto_region 20 with fail
   have hxd:Nx wr wr.drew:=(Below.refl _ _).drew
   have HD7:=mkHid' (HL.out.next hxd)
   have HSS:Hid ((λq=>q.cell? ⟨gw,3,none⟩=some (.slice aW mW cW)/\q.cell? ⟨gv,i,none⟩=some (.int .i64 (iat (vsL f) i))) wr.drew):=⟨cellq hxd q_,cellq hxd xv_⟩
   clear HL q_ xv_ hxd
   refine(wpIn_wide (n:=9)).1 ?_
   refine wpIn_region_S (c:=9) (S:=λq=>q.cell? ⟨gw,3,none⟩=some (.slice aW mW cW)/\q.cell? ⟨gv,i,none⟩=some (.int .i64 (iat (vsL f) i))) hmx (by kernel_rfl) (λhw hcl=>?_)
   generalize wr.drew=wd7 at *
   refine tq (i:=0) (v:=.pointer (some ⟨gw,3,none⟩)) (λhcl=>?_)
   refine tq (i:=1) (v:=.slice aW mW cW) (λhcl=>?_)
   refine tq (i:=2) (v:=.slice (some ⟨gv,0,none⟩) k cv) (λhcl=>?_)
   refine tq (i:=3) (v:=.int .i64 (i:Int)) (λhcl=>?_)
   refine tq (i:=4) (v:=.pointer (some ⟨gv,i,none⟩)) (λhcl=>?_)
   refine tq (i:=5) (v:=.int .i64 (iat (vsL f) i)) (λhcl=>?_)
   refine anyS_one2 (i:=6) (by kernel_rfl) hcl (λhcl=>wpOpIn_step rfl (λK hK=>?_))
   go_simp
   refine hK _ _ ⟨Or.inr ⟨cellq (box1 _ _) HSS.out.1,cellq (box1 _ _) HSS.out.2⟩,?_⟩
   clear hK K
   have hzz:w.heap.size<=wd7.heap.size:=HD7.out.nx.size
   refine anyS_one2 (i:=7) (by kernel_rfl) hcl (λhcl=>wpOpIn_step rfl (λK hK=>?_))
   refine app_int_in rfl (.tmp 80) (.tmp 85) rfl w.heap.size (mW) (.slice aW mW cW) (evens (vsL f) i) (iat (vsL f) i) wd7 _ rfl (by simp[Act.eval]) (HD7.out.row 2 rfl) (by simp[Act.eval]) (HLN.out.2.1) (by omega) hzz ?_
   intro ar7 cr7 wx7 r1 r2 r3
   have HE7:Hid (MS w wx7 [(w.heap.size,#[.int .i64 0,.int .i64 0,.int .i64 0,.int .i64 0,.bool false,.slice none 0 0,.slice none 0 0,.int .i64 0,.bool false,.int .i64 0,.int .i64 0,.bool false,.int .i64 0,.slice none 0 0,.int .i64 0,.slice none 0 0,.slice none 0 0],49),(w.heap.size+1,#[.int .i64 2,.int .i64 (iat (vsL f) 1),.int .i64 0,.int .i64 0,.bool false,.slice none 0 0,.slice none 0 0,.int .i64 0,.bool false,.int .i64 0,.int .i64 0,.bool false,.int .i64 0,.slice none 0 0,.int .i64 0,.slice aM mM cM,.slice none 0 0],49),(gw,#[.int .i64 (iat (vsL f) 1),.bool ((sat f 2).toList==[98]),.slice aN mN cN,.slice aW mW cW],45)] [(.slice (some ⟨gv,0,none⟩) k cv,vsL f),(.slice aN mN cN,odds (vsL f) i),(.slice ar7 (mW+1) cr7,evens (vsL f) i++[iat (vsL f) i]),(.slice aM mM cM,odds (vsL f) i)]):=HD7.out.grow 2 rfl r1 r2 r3
   clear r1 r2 r3 hzz
   clear HSS
   have HSS:Hid ((λq=>q.cell? ⟨gw,3,none⟩=some (.slice aW mW cW)/\q.cell? ⟨gv,i,none⟩=some (.int .i64 (iat (vsL f) i))) wx7):=⟨(HE7.out.box 2 rfl).blk.cell (i:=3) rfl,HVC.out HE7.out rfl (i) (by omega)⟩
   refine hK _ _ ⟨Or.inr HSS.out,?_⟩
   clear hK K HD7
   refine tq (i:=8) (v:=.pointer (some ⟨gw,3,none⟩)) (λhcl=>?_)
   have q_:wx7.cell? ⟨gw,3,none⟩=some (.slice aW mW cW):=(HE7.out.box 2 rfl).blk.cell (i:=3) rfl
   have f_:=(HE7.out.box 2 rfl).blk.frozen 3
   refine anyS_one (i:=9) (by kernel_rfl) (wpOpIn_step rfl (λK hK=>?_))
   go_simp
   refine hK _ _ ⟨Or.inl (by decide),?_⟩
   clear hK K
   refine anyS_done (by kernel_rfl) ?_ _
   clear hw hcl q_ f_ HSS
   generalize hW:wx7.setCell ⟨gw,3,none⟩ (.slice ar7 (mW+1) cr7)=ws7
   have HS7:Hid (MS w ws7 [(w.heap.size,#[.int .i64 0,.int .i64 0,.int .i64 0,.int .i64 0,.bool false,.slice none 0 0,.slice none 0 0,.int .i64 0,.bool false,.int .i64 0,.int .i64 0,.bool false,.int .i64 0,.slice none 0 0,.int .i64 0,.slice none 0 0,.slice none 0 0],49),(w.heap.size+1,#[.int .i64 2,.int .i64 (iat (vsL f) 1),.int .i64 0,.int .i64 0,.bool false,.slice none 0 0,.slice none 0 0,.int .i64 0,.bool false,.int .i64 0,.int .i64 0,.bool false,.int .i64 0,.slice none 0 0,.int .i64 0,.slice aM mM cM,.slice none 0 0],49),(gw,#[.int .i64 (iat (vsL f) 1),.bool ((sat f 2).toList==[98]),.slice aN mN cN,.slice ar7 (mW+1) cr7],45)] [(.slice (some ⟨gv,0,none⟩) k cv,vsL f),(.slice aN mN cN,odds (vsL f) i),(.slice ar7 (mW+1) cr7,evens (vsL f) i++[iat (vsL f) i]),(.slice aM mM cM,odds (vsL f) i)]):=by unfold Hid;rw[<-hW];exact HE7.out.set 2 rfl 3 (.slice ar7 (mW+1) cr7)
   clear hW HE7
   rw[<-HEV.out,<-HOD.out] at HS7
   have HLE:Hid ((odds (vsL f) (i+1)).length=mN/\(evens (vsL f) (i+1)).length=mW+1/\(odds (vsL f) (i+1)).length=mM):=by
    have e1:=HLN.out
    unfold Hid
    rw[HOD.out,HEV.out,List.length_append]
    simp
    omega
   go_wp2
   go_roundw
   case rel=>exact⟨i+1,_,_,_,_,_,_,_,_,_,by omega,by omega,by go_num,HLE,HS7⟩
   case measure=>simp[intOf];omega
 have ei:i=k:=by omega
 subst ei
 have hlf:¬(i:Int)<(i:Int):=by omega
 have w0_:wr.cell? ⟨gw,0,none⟩=some (.int .i64 (iat (vsL f) 1)):=(HL.out.box 2 rfl).blk.cell (i:=0) rfl
 have w1_:wr.cell? ⟨gw,1,none⟩=some (.bool ((sat f 2).toList==[98])):=(HL.out.box 2 rfl).blk.cell (i:=1) rfl
 have w2_:wr.cell? ⟨gw,2,none⟩=some (.slice aN mN cN):=(HL.out.box 2 rfl).blk.cell (i:=2) rfl
 have w3_:wr.cell? ⟨gw,3,none⟩=some (.slice aW mW cW):=(HL.out.box 2 rfl).blk.cell (i:=3) rfl
 have d0_:wr.cell? ⟨w.heap.size+1,3,none⟩=some (.int .i64 0):=(HL.out.box 1 rfl).blk.cell (i:=3) rfl
 have d1_:wr.cell? ⟨w.heap.size+1,4,none⟩=some (.bool false):=(HL.out.box 1 rfl).blk.cell (i:=4) rfl
 have d2_:wr.cell? ⟨w.heap.size+1,5,none⟩=some (.slice none 0 0):=(HL.out.box 1 rfl).blk.cell (i:=5) rfl
 have d3_:wr.cell? ⟨w.heap.size+1,6,none⟩=some (.slice none 0 0):=(HL.out.box 1 rfl).blk.cell (i:=6) rfl
 have z0_:=(HL.out.box 1 rfl).blk.frozen 3
 have z1_:=(HL.out.box 1 rfl).blk.frozen 4
 have z2_:=(HL.out.box 1 rfl).blk.frozen 5
 have z3_:=(HL.out.box 1 rfl).blk.frozen 6
 go_upto_region 22 with fail
 generalize hW:(((wr.setCell ⟨w.heap.size+1,3,none⟩ (.int .i64 (iat (vsL f) 1))).setCell ⟨w.heap.size+1,4,none⟩ (.bool ((sat f 2).toList==[98]))).setCell ⟨w.heap.size+1,5,none⟩ (.slice aN mN cN)).setCell ⟨w.heap.size+1,6,none⟩ (.slice aW mW cW)=wE
 have HE:Hid (MS w wE [(w.heap.size,#[.int .i64 0,.int .i64 0,.int .i64 0,.int .i64 0,.bool false,.slice none 0 0,.slice none 0 0,.int .i64 0,.bool false,.int .i64 0,.int .i64 0,.bool false,.int .i64 0,.slice none 0 0,.int .i64 0,.slice none 0 0,.slice none 0 0],49),(w.heap.size+1,#[.int .i64 2,.int .i64 (iat (vsL f) 1),.int .i64 0,.int .i64 (iat (vsL f) 1),.bool ((sat f 2).toList==[98]),.slice aN mN cN,.slice aW mW cW,.int .i64 0,.bool false,.int .i64 0,.int .i64 0,.bool false,.int .i64 0,.slice none 0 0,.int .i64 0,.slice aM mM cM,.slice none 0 0],49),(gw,#[.int .i64 (iat (vsL f) 1),.bool ((sat f 2).toList==[98]),.slice aN mN cN,.slice aW mW cW],45)] [(.slice (some ⟨gv,0,none⟩) i cv,vsL f),(.slice aN mN cN,odds (vsL f) i),(.slice aW mW cW,evens (vsL f) i),(.slice aM mM cM,odds (vsL f) i)]):=by unfold Hid;rw[<-hW];exact((((HL.out.set 1 rfl 3 (.int .i64 (iat (vsL f) 1))).set 1 rfl 4 (.bool ((sat f 2).toList==[98]))).set 1 rfl 5 (.slice aN mN cN)).set 1 rfl 6 (.slice aW mW cW))
 clear hW HL w0_ w1_ w2_ w3_ d0_ d1_ d2_ d3_ z0_ z1_ z2_ z3_
 have xf:=HFC.out HE.out.nx 0 (by omega)
 go_wp2_with fail
 refine(l1IsRelation_any (sat f 0) wE).mono ?_
 rintro e ws7 ⟨rfl,hxr⟩
 rw[HRL.out]
 have HS7:=mkHid' (HE.out.next hxr)
 clear hxr HE
 clear xf
 have xf:=HFC.out HS7.out.nx 0 (by omega)
 go_upto_region 48 with fail
 refine wp_region_list ?_
 refine wpList_loadB rfl _ rfl rfl (HS7.out.box 1 rfl) rfl ?_
 refine wpList_storeB rfl _ _ rfl rfl rfl (HS7.out.box 0 rfl) rfl rfl rfl ?_
 have hbt:=setRow_bt (cs':=#[.int .i64 2,.int .i64 (iat (vsL f) 1),.int .i64 0,.int .i64 (iat (vsL f) 1),.bool ((sat f 2).toList==[98]),.slice aN mN cN,.slice aW mW cW,.int .i64 0,.bool false,.int .i64 0,.int .i64 0,.bool false,.int .i64 0,.slice none 0 0,.int .i64 0,.slice aM mM cM,.slice none 0 0]) (HS7.out.box 0 rfl)
 have HMF:=mkHid' (HS7.out.putBox 0 rfl (cs':=#[.int .i64 2,.int .i64 (iat (vsL f) 1),.int .i64 0,.int .i64 (iat (vsL f) 1),.bool ((sat f 2).toList==[98]),.slice aN mN cN,.slice aW mW cW,.int .i64 0,.bool false,.int .i64 0,.int .i64 0,.bool false,.int .i64 0,.slice none 0 0,.int .i64 0,.slice aM mM cM,.slice none 0 0]))
 generalize ws7.setRow w.heap.size #[.int .i64 2,.int .i64 (iat (vsL f) 1),.int .i64 0,.int .i64 (iat (vsL f) 1),.bool ((sat f 2).toList==[98]),.slice aN mN cN,.slice aW mW cW,.int .i64 0,.bool false,.int .i64 0,.int .i64 0,.bool false,.int .i64 0,.slice none 0 0,.int .i64 0,.slice aM mM cM,.slice none 0 0]=wF at *
 have p0_:wF.cell? ⟨w.heap.size,0,none⟩=some (.int .i64 2):=hbt.1.blk.cell (i:=0) rfl
 have p1_:wF.cell? ⟨w.heap.size,1,none⟩=some (.int .i64 (iat (vsL f) 1)):=hbt.1.blk.cell (i:=1) rfl
 have p2_:wF.cell? ⟨w.heap.size,2,none⟩=some (.int .i64 0):=hbt.1.blk.cell (i:=2) rfl
 have p3_:wF.cell? ⟨w.heap.size,3,none⟩=some (.int .i64 (iat (vsL f) 1)):=hbt.1.blk.cell (i:=3) rfl
 have p4_:wF.cell? ⟨w.heap.size,4,none⟩=some (.bool ((sat f 2).toList==[98])):=hbt.1.blk.cell (i:=4) rfl
 have p5_:wF.cell? ⟨w.heap.size,5,none⟩=some (.slice aN mN cN):=hbt.1.blk.cell (i:=5) rfl
 have p6_:wF.cell? ⟨w.heap.size,6,none⟩=some (.slice aW mW cW):=hbt.1.blk.cell (i:=6) rfl
 have p7_:wF.cell? ⟨w.heap.size,7,none⟩=some (.int .i64 0):=hbt.1.blk.cell (i:=7) rfl
 have p8_:wF.cell? ⟨w.heap.size,8,none⟩=some (.bool false):=hbt.1.blk.cell (i:=8) rfl
 have p9_:wF.cell? ⟨w.heap.size,9,none⟩=some (.int .i64 0):=hbt.1.blk.cell (i:=9) rfl
 have p10_:wF.cell? ⟨w.heap.size,10,none⟩=some (.int .i64 0):=hbt.1.blk.cell (i:=10) rfl
 have p11_:wF.cell? ⟨w.heap.size,11,none⟩=some (.bool false):=hbt.1.blk.cell (i:=11) rfl
 have p12_:wF.cell? ⟨w.heap.size,12,none⟩=some (.int .i64 0):=hbt.1.blk.cell (i:=12) rfl
 have p13_:wF.cell? ⟨w.heap.size,13,none⟩=some (.slice none 0 0):=hbt.1.blk.cell (i:=13) rfl
 have p14_:wF.cell? ⟨w.heap.size,14,none⟩=some (.int .i64 0):=hbt.1.blk.cell (i:=14) rfl
 have p15_:wF.cell? ⟨w.heap.size,15,none⟩=some (.slice aM mM cM):=hbt.1.blk.cell (i:=15) rfl
 have p16_:wF.cell? ⟨w.heap.size,16,none⟩=some (.slice none 0 0):=hbt.1.blk.cell (i:=16) rfl
 clear hbt
 unfold wpList
 go_wp2
 refine bodyPost_ret (v:=.agg #[.int .i64 2,.int .i64 (iat (vsL f) 1),.int .i64 0,.int .i64 (iat (vsL f) 1),.bool ((sat f 2).toList==[98]),.slice aN mN cN,.slice aW mW cW,.int .i64 0,.bool false,.int .i64 0,.int .i64 0,.bool false,.int .i64 0,.slice none 0 0,.int .i64 0,.slice aM mM cM,.slice none 0 0]) (by simp[results,Tryz.results16,go_sem,p0_,p1_,p2_,p3_,p4_,p5_,p6_,p7_,p8_,p9_,p10_,p11_,p12_,p13_,p14_,p15_,p16_]) rfl ?_
 rw[HRD.out]
 exact⟨⟨.slice aN mN cN,.slice aW mW cW,.slice none 0 0,.slice aM mM cM,.slice none 0 0,rfl,⟨HMF.out.row 1 rfl,HMF.out.row 2 rfl,⟨rfl,Or.inl ⟨rfl,rfl⟩⟩,HMF.out.row 3 rfl,⟨rfl,Or.inl ⟨rfl,rfl⟩⟩⟩⟩,HMF.out.nx⟩
end Go.Proofs.YthhkjbfkgdlkmaaGreatDoor
