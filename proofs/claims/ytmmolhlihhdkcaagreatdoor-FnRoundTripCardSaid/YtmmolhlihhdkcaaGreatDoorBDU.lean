import Derived.Test.YtmmolhlihhdkcaaGreatDoorBDS
namespace Go.Proofs.YtmmolhlihhdkcaaGreatDoor
open Go.RowKit Go.Sort
set_option linter.unusedVariables false
set_option maxRecDepth 1000000
set_option maxHeartbeats 16000000
theorem Ff (k:Int)(over:Nat)(w:World)(hk:0<=k/\k<3)(ho:over<=1) :
  Calls Tryz.prog 68 #[.int .i64 k,.int .i64 (over:Int)] w λe w'=>(∃v0 v1 v2 v3,e=.returned (.agg #[v0,v1,v2,v3,.int .i64 1048576])/\∃vn vw vr,ONt (w.heap.size+1) w' v0 v1 v2 v3 (Yi k over) vn vw vr)/\Nx w w':=by
 have hk3:k<3:=hk.2
 have kb:∀j:Int,3<=j->(k==j)=false:=λj hj=>by simp;omega
 have k3:=kb 3 (by omega)
 have k4:=kb 4 (by omega)
 have k5:=kb 5 (by omega)
 have k6:=kb 6 (by omega)
 have k7:=kb 7 (by omega)
 have k8:=kb 8 (by omega)
 clear kb
 obtain⟨bk,hbk⟩:∃x,x=(k==0):=⟨_,rfl⟩
 have HBK:Hid ((k==0)=bk):=hbk.symm
 have HLN:Hid (Yi k over=Z4 [lmW 3 bk 0 1 (100+over) 1048576]):=by unfold Hid Yi;rw[if_pos hk3,HBK.out]
 have hkb:(k==0)=bk:=hbk.symm
 clear hbk
 have hwo:IntKind.i64.wrap (100+(over:Int))=((100+over:Nat):Int):=by rw[IntKind.wrap_i64];omega
 have hmx:Tryz.prog.follows .mixedOrders=true:=by kernel_rfl
 go_enter Tryz.func68,Tryz.ntmps68
 go_upto_region 2 with fail
 generalize hWA:((w.alloc (.cells #[.slice none 0 0,.slice none 0 0,.slice none 0 0,.slice none 0 0,.int .i64 0] 28)).alloc (.cells #[.int .i64 0,.int .i64 1] 2)).alloc (.cells #[.slice (some ⟨w.heap.size+1,0,none⟩) 2 2,.slice none 0 0,.slice none 0 0,.slice none 0 0,.int .i64 1048576] 28)=wA
 obtain⟨vn,hvn⟩:∃v:Nat->Value,v=λ_=>.slice none 0 0:=⟨_,rfl⟩
 obtain⟨vw,hvw⟩:∃v:Nat->Value,v=λ_=>.slice none 0 0:=⟨_,rfl⟩
 obtain⟨vr,hvr⟩:∃v:Nat->Value,v=λ_=>.slice none 0 0:=⟨_,rfl⟩
 have HA:Hid (NBx w wA (.slice (some ⟨w.heap.size+1,0,none⟩) 2 2) (.slice none 0 0) (.slice none 0 0) (.slice none 0 0) lm0 vn vw vr):=by
  unfold Hid
  rw[<-hWA]
  refine⟨(Qd _ _).trans ((Qd _ _).trans (Qd _ _)),((BT.new w _ _ _ rfl).alloc _).alloc _,BT.new _ _ _ _ (by rw[Q7,Q7]),⟨?_,⟨rfl,Or.inl ⟨rfl,rfl⟩⟩,λi hi=>absurd hi (Nat.not_lt_zero _),λi hi=>absurd hi (Nat.not_lt_zero _),⟨rfl,Or.inl ⟨rfl,rfl⟩⟩,λi hi=>absurd hi (Nat.not_lt_zero _),⟨rfl,Or.inl ⟨rfl,rfl⟩⟩,List.pairwise_singleton _ _⟩⟩
  refine⟨rfl,Or.inr ⟨w.heap.size+1,2,#[.int .i64 0,.int .i64 1],rfl,Nat.le_refl _,?_,Nat.le_refl _,by simp[maxLen],rfl,rfl⟩⟩
  exact(BT.new _ _ _ _ (by rw[Q7])).alloc _
 clear hWA hvn hvw hvr
 go_upto_region 3 with fail
 have HD:=Q0 (HA.out.next (show Nx wA wA.drew from(Below.refl _ _).drew))
 have HSS:Hid ((λq=>q.cell? ⟨w.heap.size+2,1,none⟩=some (.slice none 0 0)) wA.drew):=HD.out.box.blk.cell (i:=1) rfl
 refine(wpIn_wide (n:=9)).1 ?_
 refine Q9 (c:=10) (S:=λq=>q.cell? ⟨w.heap.size+2,1,none⟩=some (.slice none 0 0)) hmx (by kernel_rfl) (λhw hcl=>?_)
 generalize wA.drew=wd at *
 refine tq (i:=0) (v:=.pointer (some ⟨w.heap.size+2,1,none⟩)) (λhcl=>?_)
 refine tq (i:=1) (v:=.slice none 0 0) (λhcl=>?_)
 refine tq (i:=2) (v:=.int .i64 k) (λhcl=>?_)
 refine tq (i:=3) (v:=.bool bk) (λhcl=>?_)
 refine tq (i:=4) (v:=.int .i64 (over:Int)) (λhcl=>?_)
 refine tq (i:=5) (v:=.int .i64 (100+over:Nat)) (λhcl=>?_)
 refine Q5 (i:=6) (by kernel_rfl) hcl (λhcl=>wpOpIn_step rfl (λK hK=>?_))
 go_simp
 refine⟨trivial,(callsIn_wide.2 (Vf 3 0 1 1048576 bk (100+over) _ (by omega))).mono ?_⟩
 rintro e7 w7 ⟨va,vb,rfl,hva,hvb,hab,hx7⟩
 obtain⟨aa,ca,rfl⟩:=Q3 hva
 obtain⟨ab,cb,rfl⟩:=Q3 hvb
 have HQ:=Q0 (HD.out.next hx7)
 have HVA:=Q0 hva
 have HVB:=Q0 hvb
 have HAB:=Q0 hab
 have HIZ:Hid (∀u∈Ja lm0 (.slice (some ⟨w.heap.size+1,0,none⟩) 2 2) vn vw vr,∀y,u.ownBlock=some y->y<wd.heap.size):=Vk HD.out.net
 have HSS:Hid ((λq=>q.cell? ⟨w.heap.size+2,1,none⟩=some (.slice none 0 0)) w7):=HQ.out.box.blk.cell (i:=1) rfl
 refine hK _ _ ⟨Or.inr HSS.out,?_⟩
 clear hK K hva hvb hab
 refine Q5 (i:=7) (by kernel_rfl) hcl (λhcl=>wpOpIn_step rfl (λK hK=>?_))
 go_simp
 refine hK _ _ ⟨Or.inr (Qf (Qd _ _) HSS.out),?_⟩
 clear hK K
 refine Q5 (i:=8) (by kernel_rfl) hcl (λhcl=>wpOpIn_step rfl (λK hK=>?_))
 have HROW:Hid (w7.ownsRow (w.heap.size+1) 45 4 (.slice none 0 0) 0 (V4 ([]:List Wy) vn vw)):=by
  have h:=HQ.out.net.ways
  unfold Yk at h
  replace h:w7.ownsRow (w.heap.size+1) 45 4 (.slice none 0 0) (([]:List Wy)).length (V4 ([]:List Wy) vn vw):=h
  rw[(show([]:List Wy).length=0 from rfl)] at h
  exact h
 have hz7:w.heap.size+1<=w7.heap.size:=by have h1:=HQ.out.box.lt;omega
 refine Jo Yc Tryz.underlying24 rfl (by decide) (by decide) rfl (.tmp 18) (.tmp 24) rfl (w.heap.size+1) 0 (.slice none 0 0) (V4 ([]:List Wy) vn vw) [.int .i64 3,.bool bk,.slice aa _ ca,.slice ab _ cb] w7 _ rfl (by simp[Act.eval]) HROW.out (by simp[Act.eval]) rfl (by intro u hu;simp at hu;rcases hu with rfl|rfl|rfl|rfl<;>rfl) (by omega) hz7 ?_
 intro a8 c8 w8 r1 r2 r3
 have G8:=Q0 (HQ.out.grown HROW.out (by decide) r2)
 have N8:=Q0 (HQ.out.net.addWay rfl (z:=wd.heap.size) HIZ.out (x:=lmW 3 bk 0 1 (100+over) 1048576) (va:=.slice aa _ ca) (vb:=.slice ab _ cb) (by show w8.ownsRow _ _ 4 _ ((([]:List Wy)).length+1) _;rw[(show([]:List Wy).length=0 from rfl)];exact r1) r2 HVA.out HVB.out (by have h1:=HD.out.box.lt;omega) HAB.out)
 have HSS:Hid ((λq=>q.cell? ⟨w.heap.size+2,1,none⟩=some (.slice none 0 0)) w8):=G8.out.2.2.blk.cell (i:=1) rfl
 refine hK _ _ ⟨Or.inr HSS.out,?_⟩
 clear hK K r1 r2 r3
 refine Q5 (i:=9) (by kernel_rfl) hcl (λhcl=>wpOpIn_step rfl (λK hK=>?_))
 go_simp
 refine hK _ _ ⟨Or.inr HSS.out,?_⟩
 clear hK K
 have x1:=G8.out.2.2.blk.cell (i:=1) rfl
 have fz1:=G8.out.2.2.blk.frozen 1
 refine Qk (i:=10) (by kernel_rfl) (wpOpIn_step rfl (λK hK=>?_))
 go_simp
 refine hK _ _ ⟨Or.inl (by decide),?_⟩
 clear hK K
 refine Qi (by kernel_rfl) ?_ _
 have H9:=Q0 (NBx.lay 1 (.slice a8 (0+1) c8) G8.out N8.out rfl)
 clear x1 fz1 hw hcl HSS G8 N8 HQ HVA HVB HAB HROW HIZ HD
 generalize w8.setCell ⟨w.heap.size+2,1,none⟩ (.slice a8 (0+1) c8)=w9 at *
 have BR:BT w9 w.heap.size #[.slice none 0 0,.slice none 0 0,.slice none 0 0,.slice none 0 0,.int .i64 0] 28:=H9.out.res
 have y0_:w9.cell? ⟨w.heap.size+2,0,none⟩=some (.slice (some ⟨w.heap.size+1,0,none⟩) 2 2):=H9.out.box.blk.cell (i:=0) rfl
 have y1_:w9.cell? ⟨w.heap.size+2,1,none⟩=some (.slice a8 1 c8):=H9.out.box.blk.cell (i:=1) rfl
 have y2_:w9.cell? ⟨w.heap.size+2,2,none⟩=some (.slice none 0 0):=H9.out.box.blk.cell (i:=2) rfl
 have y3_:w9.cell? ⟨w.heap.size+2,3,none⟩=some (.slice none 0 0):=H9.out.box.blk.cell (i:=3) rfl
 have y4_:w9.cell? ⟨w.heap.size+2,4,none⟩=some (.int .i64 1048576):=H9.out.box.blk.cell (i:=4) rfl
 have x0:=BR.blk.cell (i:=0) rfl
 have fz0:=BR.blk.frozen 0
 have x1:=BR.blk.cell (i:=1) rfl
 have fz1:=BR.blk.frozen 1
 have x2:=BR.blk.cell (i:=2) rfl
 have fz2:=BR.blk.frozen 2
 have x3:=BR.blk.cell (i:=3) rfl
 have fz3:=BR.blk.frozen 3
 have x4:=BR.blk.cell (i:=4) rfl
 have fz4:=BR.blk.frozen 4
 have BS:=Tl (a0:=.slice (some ⟨w.heap.size+1,0,none⟩) 2 2) (a1:=.slice a8 1 c8) (a2:=.slice none 0 0) (a3:=.slice none 0 0) (a4:=.int .i64 1048576) BR
 have P0:Hid (_=some (Value.slice (some ⟨w.heap.size+1,0,none⟩) 2 2)):=BS.blk.cell (i:=0) rfl
 have P1:Hid (_=some (Value.slice a8 1 c8)):=BS.blk.cell (i:=1) rfl
 have P2:Hid (_=some (Value.slice none 0 0)):=BS.blk.cell (i:=2) rfl
 have P3:Hid (_=some (Value.slice none 0 0)):=BS.blk.cell (i:=3) rfl
 have P4:Hid (_=some (Value.int .i64 1048576)):=BS.blk.cell (i:=4) rfl
 have HCF:Hid (Chg (λx=>x=w.heap.size) w9 (((((w9.setCell ⟨w.heap.size,0,none⟩ (.slice (some ⟨w.heap.size+1,0,none⟩) 2 2)).setCell ⟨w.heap.size,1,none⟩ (.slice a8 1 c8)).setCell ⟨w.heap.size,2,none⟩ (.slice none 0 0)).setCell ⟨w.heap.size,3,none⟩ (.slice none 0 0)).setCell ⟨w.heap.size,4,none⟩ (.int .i64 1048576))):=Ts
 clear BS
 have HBR:=Q0 BR
 clear BR
 go_wp2
 generalize hWF:(((((w9.setCell ⟨w.heap.size,0,none⟩ (.slice (some ⟨w.heap.size+1,0,none⟩) 2 2)).setCell ⟨w.heap.size,1,none⟩ (.slice a8 1 c8)).setCell ⟨w.heap.size,2,none⟩ (.slice none 0 0)).setCell ⟨w.heap.size,3,none⟩ (.slice none 0 0)).setCell ⟨w.heap.size,4,none⟩ (.int .i64 1048576))=wF at P0 P1 P2 P3 P4 HCF ⊢
 have p0_:=P0.out
 have p1_:=P1.out
 have p2_:=P2.out
 have p3_:=P3.out
 have p4_:=P4.out
 refine bodyPost_ret (v:=.agg #[.slice (some ⟨w.heap.size+1,0,none⟩) 2 2,.slice a8 1 c8,.slice none 0 0,.slice none 0 0,.int .i64 1048576]) (by simp[results,Tryz.results68,go_sem,p0_,p1_,p2_,p3_,p4_]) rfl ?_
 have hO:=H9.out.net.turnBox HBR.out (by decide) (λe=>absurd e (by decide)) HCF.out
 have hX:Nx w wF:=Below.trans H9.out.nx (HCF.out.below H9.out.nx.size (λx hx=>by have hx':x=w.heap.size:=hx;omega))
 rw[HLN.out]
 exact⟨⟨_,_,_,_,rfl,_,_,_,hO⟩,hX⟩
theorem Fh (over:Nat)(w:World)(ho:over<=1) :
  Calls Tryz.prog 68 #[.int .i64 5,.int .i64 (over:Int)] w λe w'=>(∃v0 v1 v2 v3,e=.returned (.agg #[v0,v1,v2,v3,.int .i64 1048576])/\∃vn vw vr,ONt (w.heap.size+1) w' v0 v1 v2 v3 (Yi 5 over) vn vw vr)/\Nx w w':=by
 have HLN:Hid (Yi 5 over=⟨J0 (λi=>(i:Int)) (2000+over),[],[],[],1048576⟩):=rfl
 have hmx:Tryz.prog.follows .mixedOrders=true:=by kernel_rfl
 go_enter Tryz.func68,Tryz.ntmps68
 go_upto_region 2 with fail
 generalize hWA:((w.alloc (.cells #[.slice none 0 0,.slice none 0 0,.slice none 0 0,.slice none 0 0,.int .i64 0] 28)).alloc (.cells #[.int .i64 0,.int .i64 1] 2)).alloc (.cells #[.slice (some ⟨w.heap.size+1,0,none⟩) 2 2,.slice none 0 0,.slice none 0 0,.slice none 0 0,.int .i64 1048576] 28)=wA
 obtain⟨vn,hvn⟩:∃v:Nat->Value,v=λ_=>.slice none 0 0:=⟨_,rfl⟩
 obtain⟨vw,hvw⟩:∃v:Nat->Value,v=λ_=>.slice none 0 0:=⟨_,rfl⟩
 obtain⟨vr,hvr⟩:∃v:Nat->Value,v=λ_=>.slice none 0 0:=⟨_,rfl⟩
 have HA:Hid (NBx w wA (.slice (some ⟨w.heap.size+1,0,none⟩) 2 2) (.slice none 0 0) (.slice none 0 0) (.slice none 0 0) lm0 vn vw vr):=by
  unfold Hid
  rw[<-hWA]
  refine⟨(Qd _ _).trans ((Qd _ _).trans (Qd _ _)),((BT.new w _ _ _ rfl).alloc _).alloc _,BT.new _ _ _ _ (by rw[Q7,Q7]),⟨?_,⟨rfl,Or.inl ⟨rfl,rfl⟩⟩,λi hi=>absurd hi (Nat.not_lt_zero _),λi hi=>absurd hi (Nat.not_lt_zero _),⟨rfl,Or.inl ⟨rfl,rfl⟩⟩,λi hi=>absurd hi (Nat.not_lt_zero _),⟨rfl,Or.inl ⟨rfl,rfl⟩⟩,List.pairwise_singleton _ _⟩⟩
  refine⟨rfl,Or.inr ⟨w.heap.size+1,2,#[.int .i64 0,.int .i64 1],rfl,Nat.le_refl _,?_,Nat.le_refl _,by simp[maxLen],rfl,rfl⟩⟩
  exact(BT.new _ _ _ _ (by rw[Q7])).alloc _
 clear hWA hvn hvw hvr
 go_wp2
 go_loopw [8] (λs8 wr=>∃(n c:Nat) (a:Option Addr),2<=n/\n<=2000+over/\s8=.int .i64 (n:Int)/\Hid (NBx w wr (.slice a n c) (.slice none 0 0) (.slice none 0 0) (.slice none 0 0) ⟨J0 (λi=>(i:Int)) n,[],[],[],1048576⟩ vn vw vr)) (λi _=>2000+over-(intOf i).toNat)
 case atStart=>exact⟨2,2,_,Nat.le_refl _,by omega,rfl,HA⟩
 clear HA
 obtain⟨n,c,a,hn2,hn,rfl,Hn⟩:=hrel
 by_cases hlt:n<2000+over
 ·have hlt':(n:Int)<2000+(over:Int):=by omega
  have n0:wr.cell? ⟨w.heap.size+2,0,none⟩=some (.slice a n c):=Hn.out.box.blk.cell (i:=0) rfl
  have hz:w.heap.size+1<=wr.heap.size:=by have:=Hn.out.box.lt;omega
  have HLE:Hid ((J0 (λi=>(i:Int)) n).length=n):=Jw _ n
  go_wp2_with (at_builtin;refine Xb rfl _ _ rfl (w.heap.size+1) n (.slice a n c) (J0 (λi=>(i:Int)) n) (n:Int) wr rfl Hn.out.net.nodes rfl HLE.out (by omega) hz ?_)
  intro a8 c8 w8 r1 r2 r3
  have G8:=Q0 (Hn.out.grown Hn.out.net.nodes (by decide) r2)
  have N8:=Q0 (Hn.out.net.addNode r1 r2 r3)
  have H9:Hid (NBx w (w8.setCell ⟨w.heap.size+2,0,none⟩ (.slice a8 (n+1) c8)) (.slice a8 (n+1) c8) (.slice none 0 0) (.slice none 0 0) (.slice none 0 0) ⟨J0 (λi=>(i:Int)) (n+1),[],[],[],1048576⟩ vn vw vr):=NBx.lay 0 (.slice a8 (n+1) c8) G8.out N8.out rfl
  have x0:w8.cell? ⟨w.heap.size+2,0,none⟩=some (.slice a n c):=G8.out.2.2.blk.cell (i:=0) rfl
  have fz0:=G8.out.2.2.blk.frozen 0
  clear r1 r2 r3 n0 G8 N8
  go_wp2
  go_roundw
  case rel=>exact⟨n+1,c8,a8,by omega,by omega,by go_num,H9⟩
  case measure=>simp[intOf];omega
 have hnn:n=2000+over:=by omega
 have hge:¬(n:Int)<2000+(over:Int):=by omega
 rw[<-hnn] at HLN
 clear hnn hlt hn2
 have BR:BT wr w.heap.size #[.slice none 0 0,.slice none 0 0,.slice none 0 0,.slice none 0 0,.int .i64 0] 28:=Hn.out.res
 have y0_:wr.cell? ⟨w.heap.size+2,0,none⟩=some (.slice a n c):=Hn.out.box.blk.cell (i:=0) rfl
 have y1_:wr.cell? ⟨w.heap.size+2,1,none⟩=some (.slice none 0 0):=Hn.out.box.blk.cell (i:=1) rfl
 have y2_:wr.cell? ⟨w.heap.size+2,2,none⟩=some (.slice none 0 0):=Hn.out.box.blk.cell (i:=2) rfl
 have y3_:wr.cell? ⟨w.heap.size+2,3,none⟩=some (.slice none 0 0):=Hn.out.box.blk.cell (i:=3) rfl
 have y4_:wr.cell? ⟨w.heap.size+2,4,none⟩=some (.int .i64 1048576):=Hn.out.box.blk.cell (i:=4) rfl
 have x0:=BR.blk.cell (i:=0) rfl
 have fz0:=BR.blk.frozen 0
 have x1:=BR.blk.cell (i:=1) rfl
 have fz1:=BR.blk.frozen 1
 have x2:=BR.blk.cell (i:=2) rfl
 have fz2:=BR.blk.frozen 2
 have x3:=BR.blk.cell (i:=3) rfl
 have fz3:=BR.blk.frozen 3
 have x4:=BR.blk.cell (i:=4) rfl
 have fz4:=BR.blk.frozen 4
 have BS:=Tl (a0:=.slice a n c) (a1:=.slice none 0 0) (a2:=.slice none 0 0) (a3:=.slice none 0 0) (a4:=.int .i64 1048576) BR
 have P0:Hid (_=some (Value.slice a n c)):=BS.blk.cell (i:=0) rfl
 have P1:Hid (_=some (Value.slice none 0 0)):=BS.blk.cell (i:=1) rfl
 have P2:Hid (_=some (Value.slice none 0 0)):=BS.blk.cell (i:=2) rfl
 have P3:Hid (_=some (Value.slice none 0 0)):=BS.blk.cell (i:=3) rfl
 have P4:Hid (_=some (Value.int .i64 1048576)):=BS.blk.cell (i:=4) rfl
 have HCF:Hid (Chg (λx=>x=w.heap.size) wr (((((wr.setCell ⟨w.heap.size,0,none⟩ (.slice a n c)).setCell ⟨w.heap.size,1,none⟩ (.slice none 0 0)).setCell ⟨w.heap.size,2,none⟩ (.slice none 0 0)).setCell ⟨w.heap.size,3,none⟩ (.slice none 0 0)).setCell ⟨w.heap.size,4,none⟩ (.int .i64 1048576))):=Ts
 clear BS
 have HBR:=Q0 BR
 clear BR
 go_wp2
 generalize hWF:(((((wr.setCell ⟨w.heap.size,0,none⟩ (.slice a n c)).setCell ⟨w.heap.size,1,none⟩ (.slice none 0 0)).setCell ⟨w.heap.size,2,none⟩ (.slice none 0 0)).setCell ⟨w.heap.size,3,none⟩ (.slice none 0 0)).setCell ⟨w.heap.size,4,none⟩ (.int .i64 1048576))=wF at P0 P1 P2 P3 P4 HCF ⊢
 have p0_:=P0.out
 have p1_:=P1.out
 have p2_:=P2.out
 have p3_:=P3.out
 have p4_:=P4.out
 refine bodyPost_ret (v:=.agg #[.slice a n c,.slice none 0 0,.slice none 0 0,.slice none 0 0,.int .i64 1048576]) (by simp[results,Tryz.results68,go_sem,p0_,p1_,p2_,p3_,p4_]) rfl ?_
 have hO:=Hn.out.net.turnBox HBR.out (by decide) (λe=>absurd e (by decide)) HCF.out
 have hX:Nx w wF:=Below.trans Hn.out.nx (HCF.out.below Hn.out.nx.size (λx hx=>by have hx':x=w.heap.size:=hx;omega))
 rw[HLN.out]
 exact⟨⟨_,_,_,_,rfl,_,_,_,hO⟩,hX⟩
theorem Ei (over:Nat)(w:World)(ho:over<=1) :
  Calls Tryz.prog 68 #[.int .i64 6,.int .i64 (over:Int)] w λe w'=>(∃v0 v1 v2 v3,e=.returned (.agg #[v0,v1,v2,v3,.int .i64 1048576])/\∃vn vw vr,ONt (w.heap.size+1) w' v0 v1 v2 v3 (Yi 6 over) vn vw vr)/\Nx w w':=by
 have HL6:Hid (Yi 6 over=Z4 ((J0 (λi=>lmW i true 0 1 100 1) 20)++if over=1 then [lmW 5000 false 1 0 1 1] else [])):=rfl
 have hmx:Tryz.prog.follows .mixedOrders=true:=by kernel_rfl
 go_enter Tryz.func68,Tryz.ntmps68
 go_upto_region 2 with fail
 generalize hWA:((w.alloc (.cells #[.slice none 0 0,.slice none 0 0,.slice none 0 0,.slice none 0 0,.int .i64 0] 28)).alloc (.cells #[.int .i64 0,.int .i64 1] 2)).alloc (.cells #[.slice (some ⟨w.heap.size+1,0,none⟩) 2 2,.slice none 0 0,.slice none 0 0,.slice none 0 0,.int .i64 1048576] 28)=wA
 obtain⟨vn,hvn⟩:∃v:Nat->Value,v=λ_=>.slice none 0 0:=⟨_,rfl⟩
 obtain⟨vw,hvw⟩:∃v:Nat->Value,v=λ_=>.slice none 0 0:=⟨_,rfl⟩
 obtain⟨vr,hvr⟩:∃v:Nat->Value,v=λ_=>.slice none 0 0:=⟨_,rfl⟩
 have HA:Hid (NBx w wA (.slice (some ⟨w.heap.size+1,0,none⟩) 2 2) (.slice none 0 0) (.slice none 0 0) (.slice none 0 0) lm0 vn vw vr):=by
  unfold Hid
  rw[<-hWA]
  refine⟨(Qd _ _).trans ((Qd _ _).trans (Qd _ _)),((BT.new w _ _ _ rfl).alloc _).alloc _,BT.new _ _ _ _ (by rw[Q7,Q7]),⟨?_,⟨rfl,Or.inl ⟨rfl,rfl⟩⟩,λi hi=>absurd hi (Nat.not_lt_zero _),λi hi=>absurd hi (Nat.not_lt_zero _),⟨rfl,Or.inl ⟨rfl,rfl⟩⟩,λi hi=>absurd hi (Nat.not_lt_zero _),⟨rfl,Or.inl ⟨rfl,rfl⟩⟩,List.pairwise_singleton _ _⟩⟩
  refine⟨rfl,Or.inr ⟨w.heap.size+1,2,#[.int .i64 0,.int .i64 1],rfl,Nat.le_refl _,?_,Nat.le_refl _,by simp[maxLen],rfl,rfl⟩⟩
  exact(BT.new _ _ _ _ (by rw[Q7])).alloc _
 clear hWA hvn hvw hvr
 go_wp2
 go_loopw [9] (λs9 wr=>∃(n c:Nat) (a:Option Addr),n<=20/\s9=.int .i64 (n:Int)/\Hid (∃vn vw,NBx w wr (.slice (some ⟨w.heap.size+1,0,none⟩) 2 2) (.slice a n c) (.slice none 0 0) (.slice none 0 0) (Z4 (J0 (λi=>lmW i true 0 1 100 1) n)) vn vw vr)) (λi _=>20-(intOf i).toNat)
 case atStart=>exact⟨0,0,none,Nat.zero_le _,rfl,⟨vn,vw,HA.out⟩⟩
 clear HA
 obtain⟨n,c,a,hn,rfl,hN⟩:=hrel
 obtain⟨vn,vw,hN⟩:=hN.out
 have Hn:=Q0 hN
 clear hN
 by_cases hlt:n<20
 ·have hlt':(n:Int)<20:=by omega
  go_upto_region 21 with fail
  have HD:=Q0 (Hn.out.next (show Nx wr wr.drew from(Below.refl _ _).drew))
  have HSS:Hid ((λq=>q.cell? ⟨w.heap.size+2,1,none⟩=some (.slice a n c)) wr.drew):=HD.out.box.blk.cell (i:=1) rfl
  refine(wpIn_wide (n:=9)).1 ?_
  refine Q9 (c:=7) (S:=λq=>q.cell? ⟨w.heap.size+2,1,none⟩=some (.slice a n c)) hmx (by kernel_rfl) (λhw hcl=>?_)
  generalize wr.drew=wd at *
  refine tq (i:=0) (v:=.pointer (some ⟨w.heap.size+2,1,none⟩)) (λhcl=>?_)
  refine tq (i:=1) (v:=.slice a n c) (λhcl=>?_)
  refine tq (i:=2) (v:=.int .i64 (n:Int)) (λhcl=>?_)
  refine Q5 (i:=3) (by kernel_rfl) hcl (λhcl=>wpOpIn_step rfl (λK hK=>?_))
  go_simp
  refine⟨trivial,(callsIn_wide.2 (Vf (n:Int) 0 1 1 true 100 _ (by omega))).mono ?_⟩
  rintro e7 w7 ⟨va,vb,rfl,hva,hvb,hab,hx7⟩
  obtain⟨aa,ca,rfl⟩:=Q3 hva
  obtain⟨ab,cb,rfl⟩:=Q3 hvb
  have HQ:=Q0 (HD.out.next hx7)
  have HVA:=Q0 hva
  have HVB:=Q0 hvb
  have HAB:=Q0 hab
  have HIZ:Hid (∀u∈Ja (Z4 (J0 (λi=>lmW i true 0 1 100 1) n)) (.slice (some ⟨w.heap.size+1,0,none⟩) 2 2) vn vw vr,∀y,u.ownBlock=some y->y<wd.heap.size):=Vk HD.out.net
  have HSS:Hid ((λq=>q.cell? ⟨w.heap.size+2,1,none⟩=some (.slice a n c)) w7):=HQ.out.box.blk.cell (i:=1) rfl
  refine hK _ _ ⟨Or.inr HSS.out,?_⟩
  clear hK K hva hvb hab
  refine Q5 (i:=4) (by kernel_rfl) hcl (λhcl=>wpOpIn_step rfl (λK hK=>?_))
  go_simp
  refine hK _ _ ⟨Or.inr (Qf (Qd _ _) HSS.out),?_⟩
  clear hK K
  refine Q5 (i:=5) (by kernel_rfl) hcl (λhcl=>wpOpIn_step rfl (λK hK=>?_))
  have HROW:Hid (w7.ownsRow (w.heap.size+1) 45 4 (.slice a n c) n (V4 (J0 (λi=>lmW i true 0 1 100 1) n) vn vw)):=by
   have h:=HQ.out.net.ways
   unfold Yk at h
   replace h:w7.ownsRow (w.heap.size+1) 45 4 (.slice a n c) ((J0 (λi=>lmW i true 0 1 100 1) n)).length (V4 (J0 (λi=>lmW i true 0 1 100 1) n) vn vw):=h
   rw[Jw _ n] at h
   exact h
  have hz7:w.heap.size+1<=w7.heap.size:=by have h1:=HQ.out.box.lt;omega
  refine Jo Yc Tryz.underlying24 rfl (by decide) (by decide) rfl (.tmp 80) (.tmp 83) rfl (w.heap.size+1) n (.slice a n c) (V4 (J0 (λi=>lmW i true 0 1 100 1) n) vn vw) [.int .i64 (n:Int),.bool true,.slice aa _ ca,.slice ab _ cb] w7 _ rfl (by simp[Act.eval]) HROW.out (by simp[Act.eval]) rfl (by intro u hu;simp at hu;rcases hu with rfl|rfl|rfl|rfl<;>rfl) (by omega) hz7 ?_
  intro a8 c8 w8 r1 r2 r3
  have G8:=Q0 (HQ.out.grown HROW.out (by decide) r2)
  have N8:=Q0 (HQ.out.net.addWay rfl (z:=wd.heap.size) HIZ.out (x:=lmW (n:Int) true 0 1 100 1) (va:=.slice aa _ ca) (vb:=.slice ab _ cb) (by show w8.ownsRow _ _ 4 _ (((J0 (λi=>lmW i true 0 1 100 1) n)).length+1) _;rw[Jw _ n];exact r1) r2 HVA.out HVB.out (by have h1:=HD.out.box.lt;omega) HAB.out)
  have HSS:Hid ((λq=>q.cell? ⟨w.heap.size+2,1,none⟩=some (.slice a n c)) w8):=G8.out.2.2.blk.cell (i:=1) rfl
  refine hK _ _ ⟨Or.inr HSS.out,?_⟩
  clear hK K r1 r2 r3
  refine Q5 (i:=6) (by kernel_rfl) hcl (λhcl=>wpOpIn_step rfl (λK hK=>?_))
  go_simp
  refine hK _ _ ⟨Or.inr HSS.out,?_⟩
  clear hK K
  have x1:=G8.out.2.2.blk.cell (i:=1) rfl
  have fz1:=G8.out.2.2.blk.frozen 1
  refine Qk (i:=7) (by kernel_rfl) (wpOpIn_step rfl (λK hK=>?_))
  go_simp
  refine hK _ _ ⟨Or.inl (by decide),?_⟩
  clear hK K
  refine Qi (by kernel_rfl) ?_ _
  have H9:=Q0 (NBx.lay 1 (.slice a8 (n+1) c8) G8.out N8.out rfl)
  clear x1 fz1 hw hcl HSS G8 N8 HQ HVA HVB HAB HROW HIZ HD
  generalize w8.setCell ⟨w.heap.size+2,1,none⟩ (.slice a8 (n+1) c8)=w9 at *
  go_wp2
  go_roundw
  case rel=>exact⟨n+1,c8,a8,by omega,by go_num,⟨_,_,H9.out⟩⟩
  case measure=>simp[intOf];omega
 have hnn:n=20:=by omega
 subst hnn
 clear hlt hn
 by_cases hov:over=1
 ·have HLN:Hid (Yi 6 over=Z4 ((J0 (λi=>lmW i true 0 1 100 1) 20)++[lmW 5000 false 1 0 1 1])):=by unfold Hid;rw[HL6.out,if_pos hov]
  have hov':((over:Int)==1)=true:=by simp;omega
  clear hov HL6
  go_upto_region 23 with fail
  have HD:=Q0 (Hn.out.next (show Nx wr wr.drew from(Below.refl _ _).drew))
  have HSS:Hid ((λq=>q.cell? ⟨w.heap.size+2,1,none⟩=some (.slice a 20 c)) wr.drew):=HD.out.box.blk.cell (i:=1) rfl
  refine(wpIn_wide (n:=9)).1 ?_
  refine Q9 (c:=6) (S:=λq=>q.cell? ⟨w.heap.size+2,1,none⟩=some (.slice a 20 c)) hmx (by kernel_rfl) (λhw hcl=>?_)
  generalize wr.drew=wd at *
  refine tq (i:=0) (v:=.pointer (some ⟨w.heap.size+2,1,none⟩)) (λhcl=>?_)
  refine tq (i:=1) (v:=.slice a 20 c) (λhcl=>?_)
  refine Q5 (i:=2) (by kernel_rfl) hcl (λhcl=>wpOpIn_step rfl (λK hK=>?_))
  go_simp
  refine⟨trivial,(callsIn_wide.2 (Vf 5000 1 0 1 false 1 _ (by omega))).mono ?_⟩
  rintro e7 w7 ⟨va,vb,rfl,hva,hvb,hab,hx7⟩
  obtain⟨aa,ca,rfl⟩:=Q3 hva
  obtain⟨ab,cb,rfl⟩:=Q3 hvb
  have HQ:=Q0 (HD.out.next hx7)
  have HVA:=Q0 hva
  have HVB:=Q0 hvb
  have HAB:=Q0 hab
  have HIZ:Hid (∀u∈Ja (Z4 (J0 (λi=>lmW i true 0 1 100 1) 20)) (.slice (some ⟨w.heap.size+1,0,none⟩) 2 2) vn vw vr,∀y,u.ownBlock=some y->y<wd.heap.size):=Vk HD.out.net
  have HSS:Hid ((λq=>q.cell? ⟨w.heap.size+2,1,none⟩=some (.slice a 20 c)) w7):=HQ.out.box.blk.cell (i:=1) rfl
  refine hK _ _ ⟨Or.inr HSS.out,?_⟩
  clear hK K hva hvb hab
  refine Q5 (i:=3) (by kernel_rfl) hcl (λhcl=>wpOpIn_step rfl (λK hK=>?_))
  go_simp
  refine hK _ _ ⟨Or.inr (Qf (Qd _ _) HSS.out),?_⟩
  clear hK K
  refine Q5 (i:=4) (by kernel_rfl) hcl (λhcl=>wpOpIn_step rfl (λK hK=>?_))
  have HROW:Hid (w7.ownsRow (w.heap.size+1) 45 4 (.slice a 20 c) 20 (V4 (J0 (λi=>lmW i true 0 1 100 1) 20) vn vw)):=by
   have h:=HQ.out.net.ways
   unfold Yk at h
   replace h:w7.ownsRow (w.heap.size+1) 45 4 (.slice a 20 c) ((J0 (λi=>lmW i true 0 1 100 1) 20)).length (V4 (J0 (λi=>lmW i true 0 1 100 1) 20) vn vw):=h
   rw[Jw _ 20] at h
   exact h
  have hz7:w.heap.size+1<=w7.heap.size:=by have h1:=HQ.out.box.lt;omega
  refine Jo Yc Tryz.underlying24 rfl (by decide) (by decide) rfl (.tmp 89) (.tmp 91) rfl (w.heap.size+1) 20 (.slice a 20 c) (V4 (J0 (λi=>lmW i true 0 1 100 1) 20) vn vw) [.int .i64 5000,.bool false,.slice aa _ ca,.slice ab _ cb] w7 _ rfl (by simp[Act.eval]) HROW.out (by simp[Act.eval]) rfl (by intro u hu;simp at hu;rcases hu with rfl|rfl|rfl|rfl<;>rfl) (by omega) hz7 ?_
  intro a8 c8 w8 r1 r2 r3
  have G8:=Q0 (HQ.out.grown HROW.out (by decide) r2)
  have N8:=Q0 (HQ.out.net.addWay rfl (z:=wd.heap.size) HIZ.out (x:=lmW 5000 false 1 0 1 1) (va:=.slice aa _ ca) (vb:=.slice ab _ cb) (by show w8.ownsRow _ _ 4 _ (((J0 (λi=>lmW i true 0 1 100 1) 20)).length+1) _;rw[Jw _ 20];exact r1) r2 HVA.out HVB.out (by have h1:=HD.out.box.lt;omega) HAB.out)
  have HSS:Hid ((λq=>q.cell? ⟨w.heap.size+2,1,none⟩=some (.slice a 20 c)) w8):=G8.out.2.2.blk.cell (i:=1) rfl
  refine hK _ _ ⟨Or.inr HSS.out,?_⟩
  clear hK K r1 r2 r3
  refine Q5 (i:=5) (by kernel_rfl) hcl (λhcl=>wpOpIn_step rfl (λK hK=>?_))
  go_simp
  refine hK _ _ ⟨Or.inr HSS.out,?_⟩
  clear hK K
  have x1:=G8.out.2.2.blk.cell (i:=1) rfl
  have fz1:=G8.out.2.2.blk.frozen 1
  refine Qk (i:=6) (by kernel_rfl) (wpOpIn_step rfl (λK hK=>?_))
  go_simp
  refine hK _ _ ⟨Or.inl (by decide),?_⟩
  clear hK K
  refine Qi (by kernel_rfl) ?_ _
  have H9:=Q0 (NBx.lay 1 (.slice a8 (20+1) c8) G8.out N8.out rfl)
  clear x1 fz1 hw hcl HSS G8 N8 HQ HVA HVB HAB HROW HIZ HD
  generalize w8.setCell ⟨w.heap.size+2,1,none⟩ (.slice a8 (20+1) c8)=w9 at *
  have BR:BT w9 w.heap.size #[.slice none 0 0,.slice none 0 0,.slice none 0 0,.slice none 0 0,.int .i64 0] 28:=H9.out.res
  have y0_:w9.cell? ⟨w.heap.size+2,0,none⟩=some (.slice (some ⟨w.heap.size+1,0,none⟩) 2 2):=H9.out.box.blk.cell (i:=0) rfl
  have y1_:w9.cell? ⟨w.heap.size+2,1,none⟩=some (.slice a8 (20+1) c8):=H9.out.box.blk.cell (i:=1) rfl
  have y2_:w9.cell? ⟨w.heap.size+2,2,none⟩=some (.slice none 0 0):=H9.out.box.blk.cell (i:=2) rfl
  have y3_:w9.cell? ⟨w.heap.size+2,3,none⟩=some (.slice none 0 0):=H9.out.box.blk.cell (i:=3) rfl
  have y4_:w9.cell? ⟨w.heap.size+2,4,none⟩=some (.int .i64 1048576):=H9.out.box.blk.cell (i:=4) rfl
  have x0:=BR.blk.cell (i:=0) rfl
  have fz0:=BR.blk.frozen 0
  have x1:=BR.blk.cell (i:=1) rfl
  have fz1:=BR.blk.frozen 1
  have x2:=BR.blk.cell (i:=2) rfl
  have fz2:=BR.blk.frozen 2
  have x3:=BR.blk.cell (i:=3) rfl
  have fz3:=BR.blk.frozen 3
  have x4:=BR.blk.cell (i:=4) rfl
  have fz4:=BR.blk.frozen 4
  have BS:=Tl (a0:=.slice (some ⟨w.heap.size+1,0,none⟩) 2 2) (a1:=.slice a8 (20+1) c8) (a2:=.slice none 0 0) (a3:=.slice none 0 0) (a4:=.int .i64 1048576) BR
  have P0:Hid (_=some (Value.slice (some ⟨w.heap.size+1,0,none⟩) 2 2)):=BS.blk.cell (i:=0) rfl
  have P1:Hid (_=some (Value.slice a8 (20+1) c8)):=BS.blk.cell (i:=1) rfl
  have P2:Hid (_=some (Value.slice none 0 0)):=BS.blk.cell (i:=2) rfl
  have P3:Hid (_=some (Value.slice none 0 0)):=BS.blk.cell (i:=3) rfl
  have P4:Hid (_=some (Value.int .i64 1048576)):=BS.blk.cell (i:=4) rfl
  have HCF:Hid (Chg (λx=>x=w.heap.size) w9 (((((w9.setCell ⟨w.heap.size,0,none⟩ (.slice (some ⟨w.heap.size+1,0,none⟩) 2 2)).setCell ⟨w.heap.size,1,none⟩ (.slice a8 (20+1) c8)).setCell ⟨w.heap.size,2,none⟩ (.slice none 0 0)).setCell ⟨w.heap.size,3,none⟩ (.slice none 0 0)).setCell ⟨w.heap.size,4,none⟩ (.int .i64 1048576))):=Ts
  clear BS
  have HBR:=Q0 BR
  clear BR
  go_wp2
  generalize hWF:(((((w9.setCell ⟨w.heap.size,0,none⟩ (.slice (some ⟨w.heap.size+1,0,none⟩) 2 2)).setCell ⟨w.heap.size,1,none⟩ (.slice a8 (20+1) c8)).setCell ⟨w.heap.size,2,none⟩ (.slice none 0 0)).setCell ⟨w.heap.size,3,none⟩ (.slice none 0 0)).setCell ⟨w.heap.size,4,none⟩ (.int .i64 1048576))=wF at P0 P1 P2 P3 P4 HCF ⊢
  have p0_:=P0.out
  have p1_:=P1.out
  have p2_:=P2.out
  have p3_:=P3.out
  have p4_:=P4.out
  refine bodyPost_ret (v:=.agg #[.slice (some ⟨w.heap.size+1,0,none⟩) 2 2,.slice a8 (20+1) c8,.slice none 0 0,.slice none 0 0,.int .i64 1048576]) (by simp[results,Tryz.results68,go_sem,p0_,p1_,p2_,p3_,p4_]) rfl ?_
  have hO:=H9.out.net.turnBox HBR.out (by decide) (λe=>absurd e (by decide)) HCF.out
  have hX:Nx w wF:=Below.trans H9.out.nx (HCF.out.below H9.out.nx.size (λx hx=>by have hx':x=w.heap.size:=hx;omega))
  rw[HLN.out]
  exact⟨⟨_,_,_,_,rfl,_,_,_,hO⟩,hX⟩
 ·have HLN:Hid (Yi 6 over=Z4 ((J0 (λi=>lmW i true 0 1 100 1) 20)++[])):=by unfold Hid;rw[HL6.out,if_neg hov]
  rw[List.append_nil] at HLN
  have hov':((over:Int)==1)=false:=by simp;omega
  clear hov HL6
  have BR:BT wr w.heap.size #[.slice none 0 0,.slice none 0 0,.slice none 0 0,.slice none 0 0,.int .i64 0] 28:=Hn.out.res
  have y0_:wr.cell? ⟨w.heap.size+2,0,none⟩=some (.slice (some ⟨w.heap.size+1,0,none⟩) 2 2):=Hn.out.box.blk.cell (i:=0) rfl
  have y1_:wr.cell? ⟨w.heap.size+2,1,none⟩=some (.slice a 20 c):=Hn.out.box.blk.cell (i:=1) rfl
  have y2_:wr.cell? ⟨w.heap.size+2,2,none⟩=some (.slice none 0 0):=Hn.out.box.blk.cell (i:=2) rfl
  have y3_:wr.cell? ⟨w.heap.size+2,3,none⟩=some (.slice none 0 0):=Hn.out.box.blk.cell (i:=3) rfl
  have y4_:wr.cell? ⟨w.heap.size+2,4,none⟩=some (.int .i64 1048576):=Hn.out.box.blk.cell (i:=4) rfl
  have x0:=BR.blk.cell (i:=0) rfl
  have fz0:=BR.blk.frozen 0
  have x1:=BR.blk.cell (i:=1) rfl
  have fz1:=BR.blk.frozen 1
  have x2:=BR.blk.cell (i:=2) rfl
  have fz2:=BR.blk.frozen 2
  have x3:=BR.blk.cell (i:=3) rfl
  have fz3:=BR.blk.frozen 3
  have x4:=BR.blk.cell (i:=4) rfl
  have fz4:=BR.blk.frozen 4
  have BS:=Tl (a0:=.slice (some ⟨w.heap.size+1,0,none⟩) 2 2) (a1:=.slice a 20 c) (a2:=.slice none 0 0) (a3:=.slice none 0 0) (a4:=.int .i64 1048576) BR
  have P0:Hid (_=some (Value.slice (some ⟨w.heap.size+1,0,none⟩) 2 2)):=BS.blk.cell (i:=0) rfl
  have P1:Hid (_=some (Value.slice a 20 c)):=BS.blk.cell (i:=1) rfl
  have P2:Hid (_=some (Value.slice none 0 0)):=BS.blk.cell (i:=2) rfl
  have P3:Hid (_=some (Value.slice none 0 0)):=BS.blk.cell (i:=3) rfl
  have P4:Hid (_=some (Value.int .i64 1048576)):=BS.blk.cell (i:=4) rfl
  have HCF:Hid (Chg (λx=>x=w.heap.size) wr (((((wr.setCell ⟨w.heap.size,0,none⟩ (.slice (some ⟨w.heap.size+1,0,none⟩) 2 2)).setCell ⟨w.heap.size,1,none⟩ (.slice a 20 c)).setCell ⟨w.heap.size,2,none⟩ (.slice none 0 0)).setCell ⟨w.heap.size,3,none⟩ (.slice none 0 0)).setCell ⟨w.heap.size,4,none⟩ (.int .i64 1048576))):=Ts
  clear BS
  have HBR:=Q0 BR
  clear BR
  go_wp2
  generalize hWF:(((((wr.setCell ⟨w.heap.size,0,none⟩ (.slice (some ⟨w.heap.size+1,0,none⟩) 2 2)).setCell ⟨w.heap.size,1,none⟩ (.slice a 20 c)).setCell ⟨w.heap.size,2,none⟩ (.slice none 0 0)).setCell ⟨w.heap.size,3,none⟩ (.slice none 0 0)).setCell ⟨w.heap.size,4,none⟩ (.int .i64 1048576))=wF at P0 P1 P2 P3 P4 HCF ⊢
  have p0_:=P0.out
  have p1_:=P1.out
  have p2_:=P2.out
  have p3_:=P3.out
  have p4_:=P4.out
  refine bodyPost_ret (v:=.agg #[.slice (some ⟨w.heap.size+1,0,none⟩) 2 2,.slice a 20 c,.slice none 0 0,.slice none 0 0,.int .i64 1048576]) (by simp[results,Tryz.results68,go_sem,p0_,p1_,p2_,p3_,p4_]) rfl ?_
  have hO:=Hn.out.net.turnBox HBR.out (by decide) (λe=>absurd e (by decide)) HCF.out
  have hX:Nx w wF:=Below.trans Hn.out.nx (HCF.out.below Hn.out.nx.size (λx hx=>by have hx':x=w.heap.size:=hx;omega))
  rw[HLN.out]
  exact⟨⟨_,_,_,_,rfl,_,_,_,hO⟩,hX⟩
theorem Iy (over:Nat)(w:World)(ho:over<=1) :
  Calls Tryz.prog 68 #[.int .i64 7,.int .i64 (over:Int)] w λe w'=>(∃v0 v1 v2 v3,e=.returned (.agg #[v0,v1,v2,v3,.int .i64 1048576])/\∃vn vw vr,ONt (w.heap.size+1) w' v0 v1 v2 v3 (Yi 7 over) vn vw vr)/\Nx w w':=by
 have HLN:Hid (Yi 7 over=(nW (Z4 [lmW 0 true 0 1 1 1]) (J0 (λi=>(⟨i,false,0,0,true,(i:Int)%2,[]⟩:Rl)) (1000+over)))):=rfl
 have hmx:Tryz.prog.follows .mixedOrders=true:=by kernel_rfl
 go_enter Tryz.func68,Tryz.ntmps68
 go_upto_region 2 with fail
 generalize hWA:((w.alloc (.cells #[.slice none 0 0,.slice none 0 0,.slice none 0 0,.slice none 0 0,.int .i64 0] 28)).alloc (.cells #[.int .i64 0,.int .i64 1] 2)).alloc (.cells #[.slice (some ⟨w.heap.size+1,0,none⟩) 2 2,.slice none 0 0,.slice none 0 0,.slice none 0 0,.int .i64 1048576] 28)=wA
 obtain⟨vn,hvn⟩:∃v:Nat->Value,v=λ_=>.slice none 0 0:=⟨_,rfl⟩
 obtain⟨vw,hvw⟩:∃v:Nat->Value,v=λ_=>.slice none 0 0:=⟨_,rfl⟩
 obtain⟨vr,hvr⟩:∃v:Nat->Value,v=λ_=>.slice none 0 0:=⟨_,rfl⟩
 have HA:Hid (NBx w wA (.slice (some ⟨w.heap.size+1,0,none⟩) 2 2) (.slice none 0 0) (.slice none 0 0) (.slice none 0 0) lm0 vn vw vr):=by
  unfold Hid
  rw[<-hWA]
  refine⟨(Qd _ _).trans ((Qd _ _).trans (Qd _ _)),((BT.new w _ _ _ rfl).alloc _).alloc _,BT.new _ _ _ _ (by rw[Q7,Q7]),⟨?_,⟨rfl,Or.inl ⟨rfl,rfl⟩⟩,λi hi=>absurd hi (Nat.not_lt_zero _),λi hi=>absurd hi (Nat.not_lt_zero _),⟨rfl,Or.inl ⟨rfl,rfl⟩⟩,λi hi=>absurd hi (Nat.not_lt_zero _),⟨rfl,Or.inl ⟨rfl,rfl⟩⟩,List.pairwise_singleton _ _⟩⟩
  refine⟨rfl,Or.inr ⟨w.heap.size+1,2,#[.int .i64 0,.int .i64 1],rfl,Nat.le_refl _,?_,Nat.le_refl _,by simp[maxLen],rfl,rfl⟩⟩
  exact(BT.new _ _ _ _ (by rw[Q7])).alloc _
 clear hWA hvn hvw hvr
 go_upto_region 25 with fail
 have HD:=Q0 (HA.out.next (show Nx wA wA.drew from(Below.refl _ _).drew))
 have HSS:Hid ((λq=>q.cell? ⟨w.heap.size+2,1,none⟩=some (.slice none 0 0)) wA.drew):=HD.out.box.blk.cell (i:=1) rfl
 refine(wpIn_wide (n:=9)).1 ?_
 refine Q9 (c:=6) (S:=λq=>q.cell? ⟨w.heap.size+2,1,none⟩=some (.slice none 0 0)) hmx (by kernel_rfl) (λhw hcl=>?_)
 generalize wA.drew=wd at *
 refine tq (i:=0) (v:=.pointer (some ⟨w.heap.size+2,1,none⟩)) (λhcl=>?_)
 refine tq (i:=1) (v:=.slice none 0 0) (λhcl=>?_)
 refine Q5 (i:=2) (by kernel_rfl) hcl (λhcl=>wpOpIn_step rfl (λK hK=>?_))
 go_simp
 refine⟨trivial,(callsIn_wide.2 (Vf 0 0 1 1 true 1 _ (by omega))).mono ?_⟩
 rintro e7 w7 ⟨va,vb,rfl,hva,hvb,hab,hx7⟩
 obtain⟨aa,ca,rfl⟩:=Q3 hva
 obtain⟨ab,cb,rfl⟩:=Q3 hvb
 have HQ:=Q0 (HD.out.next hx7)
 have HVA:=Q0 hva
 have HVB:=Q0 hvb
 have HAB:=Q0 hab
 have HIZ:Hid (∀u∈Ja lm0 (.slice (some ⟨w.heap.size+1,0,none⟩) 2 2) vn vw vr,∀y,u.ownBlock=some y->y<wd.heap.size):=Vk HD.out.net
 have HSS:Hid ((λq=>q.cell? ⟨w.heap.size+2,1,none⟩=some (.slice none 0 0)) w7):=HQ.out.box.blk.cell (i:=1) rfl
 refine hK _ _ ⟨Or.inr HSS.out,?_⟩
 clear hK K hva hvb hab
 refine Q5 (i:=3) (by kernel_rfl) hcl (λhcl=>wpOpIn_step rfl (λK hK=>?_))
 go_simp
 refine hK _ _ ⟨Or.inr (Qf (Qd _ _) HSS.out),?_⟩
 clear hK K
 refine Q5 (i:=4) (by kernel_rfl) hcl (λhcl=>wpOpIn_step rfl (λK hK=>?_))
 have HROW:Hid (w7.ownsRow (w.heap.size+1) 45 4 (.slice none 0 0) 0 (V4 ([]:List Wy) vn vw)):=by
  have h:=HQ.out.net.ways
  unfold Yk at h
  replace h:w7.ownsRow (w.heap.size+1) 45 4 (.slice none 0 0) (([]:List Wy)).length (V4 ([]:List Wy) vn vw):=h
  rw[(show([]:List Wy).length=0 from rfl)] at h
  exact h
 have hz7:w.heap.size+1<=w7.heap.size:=by have h1:=HQ.out.box.lt;omega
 refine Jo Yc Tryz.underlying24 rfl (by decide) (by decide) rfl (.tmp 97) (.tmp 99) rfl (w.heap.size+1) 0 (.slice none 0 0) (V4 ([]:List Wy) vn vw) [.int .i64 0,.bool true,.slice aa _ ca,.slice ab _ cb] w7 _ rfl (by simp[Act.eval]) HROW.out (by simp[Act.eval]) rfl (by intro u hu;simp at hu;rcases hu with rfl|rfl|rfl|rfl<;>rfl) (by omega) hz7 ?_
 intro a8 c8 w8 r1 r2 r3
 have G8:=Q0 (HQ.out.grown HROW.out (by decide) r2)
 have N8:=Q0 (HQ.out.net.addWay rfl (z:=wd.heap.size) HIZ.out (x:=lmW 0 true 0 1 1 1) (va:=.slice aa _ ca) (vb:=.slice ab _ cb) (by show w8.ownsRow _ _ 4 _ ((([]:List Wy)).length+1) _;rw[(show([]:List Wy).length=0 from rfl)];exact r1) r2 HVA.out HVB.out (by have h1:=HD.out.box.lt;omega) HAB.out)
 have HSS:Hid ((λq=>q.cell? ⟨w.heap.size+2,1,none⟩=some (.slice none 0 0)) w8):=G8.out.2.2.blk.cell (i:=1) rfl
 refine hK _ _ ⟨Or.inr HSS.out,?_⟩
 clear hK K r1 r2 r3
 refine Q5 (i:=5) (by kernel_rfl) hcl (λhcl=>wpOpIn_step rfl (λK hK=>?_))
 go_simp
 refine hK _ _ ⟨Or.inr HSS.out,?_⟩
 clear hK K
 have x1:=G8.out.2.2.blk.cell (i:=1) rfl
 have fz1:=G8.out.2.2.blk.frozen 1
 refine Qk (i:=6) (by kernel_rfl) (wpOpIn_step rfl (λK hK=>?_))
 go_simp
 refine hK _ _ ⟨Or.inl (by decide),?_⟩
 clear hK K
 refine Qi (by kernel_rfl) ?_ _
 have H9:=Q0 (NBx.lay 1 (.slice a8 (0+1) c8) G8.out N8.out rfl)
 clear x1 fz1 hw hcl HSS G8 N8 HQ HVA HVB HAB HROW HIZ HD
 generalize w8.setCell ⟨w.heap.size+2,1,none⟩ (.slice a8 (0+1) c8)=w9 at *
 go_wp2
 go_loopw [10] (λs10 wr=>∃(n c:Nat) (a:Option Addr),n<=1000+over/\s10=.int .i64 (n:Int)/\Hid (∃vn vw vr,NBx w wr (.slice (some ⟨w.heap.size+1,0,none⟩) 2 2) (.slice a8 1 c8) (.slice a n c) (.slice none 0 0) (nW (Z4 [lmW 0 true 0 1 1 1]) (J0 (λi=>(⟨i,false,0,0,true,(i:Int)%2,[]⟩:Rl)) n)) vn vw vr)) (λi _=>1000+over-(intOf i).toNat)
 case atStart=>exact⟨0,0,none,Nat.zero_le _,rfl,⟨_,_,_,H9.out⟩⟩
 clear H9
 obtain⟨n,c,a,hn,rfl,hN⟩:=hrel
 obtain⟨vn,vw,vr,hN⟩:=hN.out
 have Hn:=Q0 hN
 clear hN
 by_cases hlt:n<1000+over
 ·have hlt':(n:Int)<1000+(over:Int):=by omega
  have n2:wr.cell? ⟨w.heap.size+2,2,none⟩=some (.slice a n c):=Hn.out.box.blk.cell (i:=2) rfl
  have hz:w.heap.size+1<=wr.heap.size:=by have:=Hn.out.box.lt;omega
  have HROW:Hid (wr.ownsRow (w.heap.size+1) 48 7 (.slice a n c) n (Zz (J0 (λi=>(⟨i,false,0,0,true,(i:Int)%2,[]⟩:Rl)) n) vr)):=by
   have h:=Hn.out.net.rels
   unfold Ir at h
   replace h:wr.ownsRow (w.heap.size+1) 48 7 (.slice a n c) ((J0 (λi=>(⟨i,false,0,0,true,(i:Int)%2,[]⟩:Rl)) n)).length (Zz (J0 (λi=>(⟨i,false,0,0,true,(i:Int)%2,[]⟩:Rl)) n) vr):=h
   rw[Jw] at h
   exact h
  go_wp2_with (at_builtin;refine Xu Wu Tryz.underlying25 rfl (by decide) (by decide) rfl _ _ rfl (w.heap.size+1) n (.slice a n c) (Zz (J0 (λi=>(⟨i,false,0,0,true,(i:Int)%2,[]⟩:Rl)) n) vr) [.int .i64 (n:Int),.bool false,.int .i64 0,.int .i64 0,.bool true,.int .i64 ((n:Int)%2),.slice none 0 0] wr rfl HROW.out rfl rfl (by intro u hu;simp at hu;rcases hu with rfl|rfl|rfl|rfl|rfl|rfl|rfl<;>rfl) (by omega) hz ?_)
  intro a9 c9 w8 r1 r2 r3
  have G8:=Q0 (Hn.out.grown HROW.out (by decide) r2)
  have N8:=Q0 (Hn.out.net.addRel (z:=wr.heap.size) (Vk Hn.out.net) (x:=⟨n,false,0,0,true,(n:Int)%2,[]⟩) (va:=.slice none 0 0) (by show w8.ownsRow _ _ 7 _ (((J0 (λi=>(⟨i,false,0,0,true,(i:Int)%2,[]⟩:Rl)) n)).length+1) _;rw[Jw];exact r1) r2 ⟨rfl,Or.inl ⟨rfl,rfl⟩⟩ hz)
  have H10:=Q0 (NBx.lay 2 (.slice a9 (n+1) c9) G8.out N8.out rfl)
  have x2:w8.cell? ⟨w.heap.size+2,2,none⟩=some (.slice a n c):=G8.out.2.2.blk.cell (i:=2) rfl
  have fz2:=G8.out.2.2.blk.frozen 2
  clear r1 r2 r3 n2 G8 N8 HROW
  go_wp2
  go_roundw
  case rel=>exact⟨n+1,c9,a9,by omega,by go_num,⟨_,_,_,H10.out⟩⟩
  case measure=>simp[intOf];omega
 have hnn:n=1000+over:=by omega
 have hge:¬(n:Int)<1000+(over:Int):=by omega
 rw[<-hnn] at HLN
 clear hnn hlt
 have BR:BT wr w.heap.size #[.slice none 0 0,.slice none 0 0,.slice none 0 0,.slice none 0 0,.int .i64 0] 28:=Hn.out.res
 have y0_:wr.cell? ⟨w.heap.size+2,0,none⟩=some (.slice (some ⟨w.heap.size+1,0,none⟩) 2 2):=Hn.out.box.blk.cell (i:=0) rfl
 have y1_:wr.cell? ⟨w.heap.size+2,1,none⟩=some (.slice a8 1 c8):=Hn.out.box.blk.cell (i:=1) rfl
 have y2_:wr.cell? ⟨w.heap.size+2,2,none⟩=some (.slice a n c):=Hn.out.box.blk.cell (i:=2) rfl
 have y3_:wr.cell? ⟨w.heap.size+2,3,none⟩=some (.slice none 0 0):=Hn.out.box.blk.cell (i:=3) rfl
 have y4_:wr.cell? ⟨w.heap.size+2,4,none⟩=some (.int .i64 1048576):=Hn.out.box.blk.cell (i:=4) rfl
 have x0:=BR.blk.cell (i:=0) rfl
 have fz0:=BR.blk.frozen 0
 have x1:=BR.blk.cell (i:=1) rfl
 have fz1:=BR.blk.frozen 1
 have x2:=BR.blk.cell (i:=2) rfl
 have fz2:=BR.blk.frozen 2
 have x3:=BR.blk.cell (i:=3) rfl
 have fz3:=BR.blk.frozen 3
 have x4:=BR.blk.cell (i:=4) rfl
 have fz4:=BR.blk.frozen 4
 have BS:=Tl (a0:=.slice (some ⟨w.heap.size+1,0,none⟩) 2 2) (a1:=.slice a8 1 c8) (a2:=.slice a n c) (a3:=.slice none 0 0) (a4:=.int .i64 1048576) BR
 have P0:Hid (_=some (Value.slice (some ⟨w.heap.size+1,0,none⟩) 2 2)):=BS.blk.cell (i:=0) rfl
 have P1:Hid (_=some (Value.slice a8 1 c8)):=BS.blk.cell (i:=1) rfl
 have P2:Hid (_=some (Value.slice a n c)):=BS.blk.cell (i:=2) rfl
 have P3:Hid (_=some (Value.slice none 0 0)):=BS.blk.cell (i:=3) rfl
 have P4:Hid (_=some (Value.int .i64 1048576)):=BS.blk.cell (i:=4) rfl
 have HCF:Hid (Chg (λx=>x=w.heap.size) wr (((((wr.setCell ⟨w.heap.size,0,none⟩ (.slice (some ⟨w.heap.size+1,0,none⟩) 2 2)).setCell ⟨w.heap.size,1,none⟩ (.slice a8 1 c8)).setCell ⟨w.heap.size,2,none⟩ (.slice a n c)).setCell ⟨w.heap.size,3,none⟩ (.slice none 0 0)).setCell ⟨w.heap.size,4,none⟩ (.int .i64 1048576))):=Ts
 clear BS
 have HBR:=Q0 BR
 clear BR
 go_wp2
 generalize hWF:(((((wr.setCell ⟨w.heap.size,0,none⟩ (.slice (some ⟨w.heap.size+1,0,none⟩) 2 2)).setCell ⟨w.heap.size,1,none⟩ (.slice a8 1 c8)).setCell ⟨w.heap.size,2,none⟩ (.slice a n c)).setCell ⟨w.heap.size,3,none⟩ (.slice none 0 0)).setCell ⟨w.heap.size,4,none⟩ (.int .i64 1048576))=wF at P0 P1 P2 P3 P4 HCF ⊢
 have p0_:=P0.out
 have p1_:=P1.out
 have p2_:=P2.out
 have p3_:=P3.out
 have p4_:=P4.out
 refine bodyPost_ret (v:=.agg #[.slice (some ⟨w.heap.size+1,0,none⟩) 2 2,.slice a8 1 c8,.slice a n c,.slice none 0 0,.int .i64 1048576]) (by simp[results,Tryz.results68,go_sem,p0_,p1_,p2_,p3_,p4_]) rfl ?_
 have hO:=Hn.out.net.turnBox HBR.out (by decide) (λe=>absurd e (by decide)) HCF.out
 have hX:Nx w wF:=Below.trans Hn.out.nx (HCF.out.below Hn.out.nx.size (λx hx=>by have hx':x=w.heap.size:=hx;omega))
 rw[HLN.out]
 exact⟨⟨_,_,_,_,rfl,_,_,_,hO⟩,hX⟩
theorem Iz (over:Nat)(w:World)(ho:over<=1) :
  Calls Tryz.prog 68 #[.int .i64 8,.int .i64 (over:Int)] w λe w'=>(∃v0 v1 v2 v3,e=.returned (.agg #[v0,v1,v2,v3,.int .i64 1048576])/\∃vn vw vr,ONt (w.heap.size+1) w' v0 v1 v2 v3 (Yi 8 over) vn vw vr)/\Nx w w':=by
 have HLN:Hid (Yi 8 over=(⟨[0,1],(J0 (λi=>lmW i false 0 1 1 i) 45),[],(J0 (λi=>(⟨(i:Int)/45,(i:Int)%45,i⟩:Tn)) (2000+over)),1048576⟩:Nt)):=rfl
 have hmx:Tryz.prog.follows .mixedOrders=true:=by kernel_rfl
 go_enter Tryz.func68,Tryz.ntmps68
 go_upto_region 2 with fail
 generalize hWA:((w.alloc (.cells #[.slice none 0 0,.slice none 0 0,.slice none 0 0,.slice none 0 0,.int .i64 0] 28)).alloc (.cells #[.int .i64 0,.int .i64 1] 2)).alloc (.cells #[.slice (some ⟨w.heap.size+1,0,none⟩) 2 2,.slice none 0 0,.slice none 0 0,.slice none 0 0,.int .i64 1048576] 28)=wA
 obtain⟨vn,hvn⟩:∃v:Nat->Value,v=λ_=>.slice none 0 0:=⟨_,rfl⟩
 obtain⟨vw,hvw⟩:∃v:Nat->Value,v=λ_=>.slice none 0 0:=⟨_,rfl⟩
 obtain⟨vr,hvr⟩:∃v:Nat->Value,v=λ_=>.slice none 0 0:=⟨_,rfl⟩
 have HA:Hid (NBx w wA (.slice (some ⟨w.heap.size+1,0,none⟩) 2 2) (.slice none 0 0) (.slice none 0 0) (.slice none 0 0) lm0 vn vw vr):=by
  unfold Hid
  rw[<-hWA]
  refine⟨(Qd _ _).trans ((Qd _ _).trans (Qd _ _)),((BT.new w _ _ _ rfl).alloc _).alloc _,BT.new _ _ _ _ (by rw[Q7,Q7]),⟨?_,⟨rfl,Or.inl ⟨rfl,rfl⟩⟩,λi hi=>absurd hi (Nat.not_lt_zero _),λi hi=>absurd hi (Nat.not_lt_zero _),⟨rfl,Or.inl ⟨rfl,rfl⟩⟩,λi hi=>absurd hi (Nat.not_lt_zero _),⟨rfl,Or.inl ⟨rfl,rfl⟩⟩,List.pairwise_singleton _ _⟩⟩
  refine⟨rfl,Or.inr ⟨w.heap.size+1,2,#[.int .i64 0,.int .i64 1],rfl,Nat.le_refl _,?_,Nat.le_refl _,by simp[maxLen],rfl,rfl⟩⟩
  exact(BT.new _ _ _ _ (by rw[Q7])).alloc _
 clear hWA hvn hvw hvr
 go_wp2
 go_loopw [11] (λs11 wr=>∃(n c:Nat) (a:Option Addr),n<=45/\s11=.int .i64 (n:Int)/\Hid (∃vn vw,NBx w wr (.slice (some ⟨w.heap.size+1,0,none⟩) 2 2) (.slice a n c) (.slice none 0 0) (.slice none 0 0) (Z4 (J0 (λi=>lmW i false 0 1 1 i) n)) vn vw vr)) (λi _=>45-(intOf i).toNat)
 case atStart=>exact⟨0,0,none,Nat.zero_le _,rfl,⟨vn,vw,HA.out⟩⟩
 clear HA
 obtain⟨n,c,a,hn,rfl,hN⟩:=hrel
 obtain⟨vn,vw,hN⟩:=hN.out
 have Hn:=Q0 hN
 clear hN
 by_cases hlt:n<45
 ·have hlt':(n:Int)<45:=by omega
  go_upto_region 34 with fail
  have HD:=Q0 (Hn.out.next (show Nx wr wr.drew from(Below.refl _ _).drew))
  have HSS:Hid ((λq=>q.cell? ⟨w.heap.size+2,1,none⟩=some (.slice a n c)) wr.drew):=HD.out.box.blk.cell (i:=1) rfl
  refine(wpIn_wide (n:=9)).1 ?_
  refine Q9 (c:=8) (S:=λq=>q.cell? ⟨w.heap.size+2,1,none⟩=some (.slice a n c)) hmx (by kernel_rfl) (λhw hcl=>?_)
  generalize wr.drew=wd at *
  refine tq (i:=0) (v:=.pointer (some ⟨w.heap.size+2,1,none⟩)) (λhcl=>?_)
  refine tq (i:=1) (v:=.slice a n c) (λhcl=>?_)
  refine tq (i:=2) (v:=.int .i64 (n:Int)) (λhcl=>?_)
  refine tq (i:=3) (v:=.int .i64 (n:Int)) (λhcl=>?_)
  refine Q5 (i:=4) (by kernel_rfl) hcl (λhcl=>wpOpIn_step rfl (λK hK=>?_))
  go_simp
  refine⟨trivial,(callsIn_wide.2 (Vf (n:Int) 0 1 (n:Int) false 1 _ (by omega))).mono ?_⟩
  rintro e7 w7 ⟨va,vb,rfl,hva,hvb,hab,hx7⟩
  obtain⟨aa,ca,rfl⟩:=Q3 hva
  obtain⟨ab,cb,rfl⟩:=Q3 hvb
  have HQ:=Q0 (HD.out.next hx7)
  have HVA:=Q0 hva
  have HVB:=Q0 hvb
  have HAB:=Q0 hab
  have HIZ:Hid (∀u∈Ja (Z4 (J0 (λi=>lmW i false 0 1 1 i) n)) (.slice (some ⟨w.heap.size+1,0,none⟩) 2 2) vn vw vr,∀y,u.ownBlock=some y->y<wd.heap.size):=Vk HD.out.net
  have HSS:Hid ((λq=>q.cell? ⟨w.heap.size+2,1,none⟩=some (.slice a n c)) w7):=HQ.out.box.blk.cell (i:=1) rfl
  refine hK _ _ ⟨Or.inr HSS.out,?_⟩
  clear hK K hva hvb hab
  refine Q5 (i:=5) (by kernel_rfl) hcl (λhcl=>wpOpIn_step rfl (λK hK=>?_))
  go_simp
  refine hK _ _ ⟨Or.inr (Qf (Qd _ _) HSS.out),?_⟩
  clear hK K
  refine Q5 (i:=6) (by kernel_rfl) hcl (λhcl=>wpOpIn_step rfl (λK hK=>?_))
  have HROW:Hid (w7.ownsRow (w.heap.size+1) 45 4 (.slice a n c) n (V4 (J0 (λi=>lmW i false 0 1 1 i) n) vn vw)):=by
   have h:=HQ.out.net.ways
   unfold Yk at h
   replace h:w7.ownsRow (w.heap.size+1) 45 4 (.slice a n c) ((J0 (λi=>lmW i false 0 1 1 i) n)).length (V4 (J0 (λi=>lmW i false 0 1 1 i) n) vn vw):=h
   rw[Jw _ n] at h
   exact h
  have hz7:w.heap.size+1<=w7.heap.size:=by have h1:=HQ.out.box.lt;omega
  refine Jo Yc Tryz.underlying24 rfl (by decide) (by decide) rfl (.tmp 124) (.tmp 128) rfl (w.heap.size+1) n (.slice a n c) (V4 (J0 (λi=>lmW i false 0 1 1 i) n) vn vw) [.int .i64 (n:Int),.bool false,.slice aa _ ca,.slice ab _ cb] w7 _ rfl (by simp[Act.eval]) HROW.out (by simp[Act.eval]) rfl (by intro u hu;simp at hu;rcases hu with rfl|rfl|rfl|rfl<;>rfl) (by omega) hz7 ?_
  intro a8 c8 w8 r1 r2 r3
  have G8:=Q0 (HQ.out.grown HROW.out (by decide) r2)
  have N8:=Q0 (HQ.out.net.addWay rfl (z:=wd.heap.size) HIZ.out (x:=lmW (n:Int) false 0 1 1 (n:Int)) (va:=.slice aa _ ca) (vb:=.slice ab _ cb) (by show w8.ownsRow _ _ 4 _ (((J0 (λi=>lmW i false 0 1 1 i) n)).length+1) _;rw[Jw _ n];exact r1) r2 HVA.out HVB.out (by have h1:=HD.out.box.lt;omega) HAB.out)
  have HSS:Hid ((λq=>q.cell? ⟨w.heap.size+2,1,none⟩=some (.slice a n c)) w8):=G8.out.2.2.blk.cell (i:=1) rfl
  refine hK _ _ ⟨Or.inr HSS.out,?_⟩
  clear hK K r1 r2 r3
  refine Q5 (i:=7) (by kernel_rfl) hcl (λhcl=>wpOpIn_step rfl (λK hK=>?_))
  go_simp
  refine hK _ _ ⟨Or.inr HSS.out,?_⟩
  clear hK K
  have x1:=G8.out.2.2.blk.cell (i:=1) rfl
  have fz1:=G8.out.2.2.blk.frozen 1
  refine Qk (i:=8) (by kernel_rfl) (wpOpIn_step rfl (λK hK=>?_))
  go_simp
  refine hK _ _ ⟨Or.inl (by decide),?_⟩
  clear hK K
  refine Qi (by kernel_rfl) ?_ _
  have H9:=Q0 (NBx.lay 1 (.slice a8 (n+1) c8) G8.out N8.out rfl)
  clear x1 fz1 hw hcl HSS G8 N8 HQ HVA HVB HAB HROW HIZ HD
  generalize w8.setCell ⟨w.heap.size+2,1,none⟩ (.slice a8 (n+1) c8)=w9 at *
  go_wp2
  go_roundw
  case rel=>exact⟨n+1,c8,a8,by omega,by go_num,⟨_,_,H9.out⟩⟩
  case measure=>simp[intOf];omega
 have hnn:n=45:=by omega
 subst hnn
 clear hlt hn
 go_wp2
 go_loopw [12] (λs12 wr=>∃(n:Nat),n<=2000+over/\s12=.int .i64 (n:Int)/\Hid (∃(c3:Nat) (a3:Option Addr),NBx w wr (.slice (some ⟨w.heap.size+1,0,none⟩) 2 2) (.slice a 45 c) (.slice none 0 0) (.slice a3 n c3) (⟨[0,1],(J0 (λi=>lmW i false 0 1 1 i) 45),[],(J0 (λi=>(⟨(i:Int)/45,(i:Int)%45,i⟩:Tn)) n),1048576⟩:Nt) vn vw vr)) (λi _=>2000+over-(intOf i).toNat)
 case atStart=>exact⟨0,Nat.zero_le _,rfl,⟨0,none,Hn.out⟩⟩
 clear Hn
 obtain⟨n,hn,rfl,hN⟩:=hrel
 obtain⟨c3,a3,hN⟩:=hN.out
 have Hn:=Q0 hN
 clear hN
 by_cases hlt:n<2000+over
 ·have hlt':(n:Int)<2000+(over:Int):=by omega
  have n3:wr.cell? ⟨w.heap.size+2,3,none⟩=some (.slice a3 n c3):=Hn.out.box.blk.cell (i:=3) rfl
  have hz:w.heap.size+1<=wr.heap.size:=by have:=Hn.out.box.lt;omega
  have HROW:Hid (wr.ownsRow (w.heap.size+1) 51 3 (.slice a3 n c3) n (((J0 (λi=>(⟨(i:Int)/45,(i:Int)%45,i⟩:Tn)) n)).flatMap Je)):=by
   have h:=Hn.out.net.turns
   unfold Uq at h
   replace h:wr.ownsRow (w.heap.size+1) 51 3 (.slice a3 n c3) ((J0 (λi=>(⟨(i:Int)/45,(i:Int)%45,i⟩:Tn)) n)).length (((J0 (λi=>(⟨(i:Int)/45,(i:Int)%45,i⟩:Tn)) n)).flatMap Je):=h
   rw[Jw] at h
   exact h
  go_wp2_with (at_builtin;refine Xu Ul Tryz.underlying26 rfl (by decide) (by decide) rfl _ _ rfl (w.heap.size+1) n (.slice a3 n c3) (((J0 (λi=>(⟨(i:Int)/45,(i:Int)%45,i⟩:Tn)) n)).flatMap Je) [.int .i64 ((n:Int)/45),.int .i64 ((n:Int)%45),.int .i64 (n:Int)] wr rfl HROW.out rfl rfl (by intro u hu;simp at hu;rcases hu with rfl|rfl|rfl<;>rfl) (by omega) hz ?_)
  intro a9 c9 w8 r1 r2 r3
  have G8:=Q0 (Hn.out.grown HROW.out (by decide) r2)
  have hT:Uq (w.heap.size+1) w8 (.slice a9 (n+1) c9) (J0 (λi=>(⟨(i:Int)/45,(i:Int)%45,i⟩:Tn)) (n+1)):=by
   unfold Uq
   rw[Jw]
   show w8.ownsRow _ _ 3 _ (n+1) ((((J0 (λi=>(⟨(i:Int)/45,(i:Int)%45,i⟩:Tn)) n))++[_]).flatMap Je)
   rw[List.flatMap_append]
   exact r1
  have N8:=Q0 (Hn.out.net.addTurn hT r2)
  have H10:=Q0 (NBx.lay 3 (.slice a9 (n+1) c9) G8.out N8.out rfl)
  have x3:w8.cell? ⟨w.heap.size+2,3,none⟩=some (.slice a3 n c3):=G8.out.2.2.blk.cell (i:=3) rfl
  have fz3:=G8.out.2.2.blk.frozen 3
  clear r1 r2 r3 n3 G8 N8 HROW hT
  go_wp2
  go_roundw
  case rel=>exact⟨n+1,by omega,by go_num,⟨c9,a9,H10.out⟩⟩
  case measure=>simp[intOf];omega
 have hnn:n=2000+over:=by omega
 have hge:¬(n:Int)<2000+(over:Int):=by omega
 rw[<-hnn] at HLN
 clear hnn hlt
 have BR:BT wr w.heap.size #[.slice none 0 0,.slice none 0 0,.slice none 0 0,.slice none 0 0,.int .i64 0] 28:=Hn.out.res
 have y0_:wr.cell? ⟨w.heap.size+2,0,none⟩=some (.slice (some ⟨w.heap.size+1,0,none⟩) 2 2):=Hn.out.box.blk.cell (i:=0) rfl
 have y1_:wr.cell? ⟨w.heap.size+2,1,none⟩=some (.slice a 45 c):=Hn.out.box.blk.cell (i:=1) rfl
 have y2_:wr.cell? ⟨w.heap.size+2,2,none⟩=some (.slice none 0 0):=Hn.out.box.blk.cell (i:=2) rfl
 have y3_:wr.cell? ⟨w.heap.size+2,3,none⟩=some (.slice a3 n c3):=Hn.out.box.blk.cell (i:=3) rfl
 have y4_:wr.cell? ⟨w.heap.size+2,4,none⟩=some (.int .i64 1048576):=Hn.out.box.blk.cell (i:=4) rfl
 have x0:=BR.blk.cell (i:=0) rfl
 have fz0:=BR.blk.frozen 0
 have x1:=BR.blk.cell (i:=1) rfl
 have fz1:=BR.blk.frozen 1
 have x2:=BR.blk.cell (i:=2) rfl
 have fz2:=BR.blk.frozen 2
 have x3:=BR.blk.cell (i:=3) rfl
 have fz3:=BR.blk.frozen 3
 have x4:=BR.blk.cell (i:=4) rfl
 have fz4:=BR.blk.frozen 4
 have BS:=Tl (a0:=.slice (some ⟨w.heap.size+1,0,none⟩) 2 2) (a1:=.slice a 45 c) (a2:=.slice none 0 0) (a3:=.slice a3 n c3) (a4:=.int .i64 1048576) BR
 have P0:Hid (_=some (Value.slice (some ⟨w.heap.size+1,0,none⟩) 2 2)):=BS.blk.cell (i:=0) rfl
 have P1:Hid (_=some (Value.slice a 45 c)):=BS.blk.cell (i:=1) rfl
 have P2:Hid (_=some (Value.slice none 0 0)):=BS.blk.cell (i:=2) rfl
 have P3:Hid (_=some (Value.slice a3 n c3)):=BS.blk.cell (i:=3) rfl
 have P4:Hid (_=some (Value.int .i64 1048576)):=BS.blk.cell (i:=4) rfl
 have HCF:Hid (Chg (λx=>x=w.heap.size) wr (((((wr.setCell ⟨w.heap.size,0,none⟩ (.slice (some ⟨w.heap.size+1,0,none⟩) 2 2)).setCell ⟨w.heap.size,1,none⟩ (.slice a 45 c)).setCell ⟨w.heap.size,2,none⟩ (.slice none 0 0)).setCell ⟨w.heap.size,3,none⟩ (.slice a3 n c3)).setCell ⟨w.heap.size,4,none⟩ (.int .i64 1048576))):=Ts
 clear BS
 have HBR:=Q0 BR
 clear BR
 go_wp2
 generalize hWF:(((((wr.setCell ⟨w.heap.size,0,none⟩ (.slice (some ⟨w.heap.size+1,0,none⟩) 2 2)).setCell ⟨w.heap.size,1,none⟩ (.slice a 45 c)).setCell ⟨w.heap.size,2,none⟩ (.slice none 0 0)).setCell ⟨w.heap.size,3,none⟩ (.slice a3 n c3)).setCell ⟨w.heap.size,4,none⟩ (.int .i64 1048576))=wF at P0 P1 P2 P3 P4 HCF ⊢
 have p0_:=P0.out
 have p1_:=P1.out
 have p2_:=P2.out
 have p3_:=P3.out
 have p4_:=P4.out
 refine bodyPost_ret (v:=.agg #[.slice (some ⟨w.heap.size+1,0,none⟩) 2 2,.slice a 45 c,.slice none 0 0,.slice a3 n c3,.int .i64 1048576]) (by simp[results,Tryz.results68,go_sem,p0_,p1_,p2_,p3_,p4_]) rfl ?_
 have hO:=Hn.out.net.turnBox HBR.out (by decide) (λe=>absurd e (by decide)) HCF.out
 have hX:Nx w wF:=Below.trans Hn.out.nx (HCF.out.below Hn.out.nx.size (λx hx=>by have hx':x=w.heap.size:=hx;omega))
 rw[HLN.out]
 exact⟨⟨_,_,_,_,rfl,_,_,_,hO⟩,hX⟩
end Go.Proofs.YtmmolhlihhdkcaaGreatDoor
