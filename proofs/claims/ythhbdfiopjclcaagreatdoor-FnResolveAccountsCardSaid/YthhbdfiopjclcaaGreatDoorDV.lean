import Derived.Test.YthhbdfiopjclcaaGreatDoorDU
namespace Go.Proofs.YthhbdfiopjclcaaGreatDoor
open Go.RowKit Go.Sort
set_option linter.unusedVariables false
set_option maxRecDepth 1000000
set_option maxHeartbeats 16000000
theorem l1LimitAt_seven (over:Nat)(w:World)(ho:over<=1) :
  Calls Tryz.prog 49 #[.int .i64 7,.int .i64 (over:Int)] w λe w'=>(∃v0 v1 v2 v3,e=.returned (.agg #[v0,v1,v2,v3,.int .i64 1048576])/\∃vn vw vr,ONt (w.heap.size+1) w' v0 v1 v2 v3 (Yy 7 over) vn vw vr)/\Nx w w':=by
 have HLN:Hid (Yy 7 over=(nW (lmWs [lmW 0 true 0 1 1 1]) (Jd (λi=>(⟨i,false,0,0,true,(i:Int)%2,[]⟩:Rl)) (1000+over)))):=rfl
 have hmx:Tryz.prog.follows .mixedOrders=true:=by kernel_rfl
 go_enter Tryz.func49,Tryz.ntmps49
 go_upto_region 2 with fail
 generalize hWA:((w.alloc (.cells #[.slice none 0 0,.slice none 0 0,.slice none 0 0,.slice none 0 0,.int .i64 0] 28)).alloc (.cells #[.int .i64 0,.int .i64 1] 2)).alloc (.cells #[.slice (some ⟨w.heap.size+1,0,none⟩) 2 2,.slice none 0 0,.slice none 0 0,.slice none 0 0,.int .i64 1048576] 28)=wA
 obtain⟨vn,hvn⟩:∃v:Nat->Value,v=λ_=>.slice none 0 0:=⟨_,rfl⟩
 obtain⟨vw,hvw⟩:∃v:Nat->Value,v=λ_=>.slice none 0 0:=⟨_,rfl⟩
 obtain⟨vr,hvr⟩:∃v:Nat->Value,v=λ_=>.slice none 0 0:=⟨_,rfl⟩
 have HA:Hid (NBx w wA (.slice (some ⟨w.heap.size+1,0,none⟩) 2 2) (.slice none 0 0) (.slice none 0 0) (.slice none 0 0) lm0 vn vw vr):=by
  unfold Hid
  rw[<-hWA]
  refine⟨(Qc _ _).trans ((Qc _ _).trans (Qc _ _)),((BT.new w _ _ _ rfl).alloc _).alloc _,BT.new _ _ _ _ (by rw[Q1,Q1]),⟨?_,⟨rfl,Or.inl ⟨rfl,rfl⟩⟩,λi hi=>absurd hi (Nat.not_lt_zero _),λi hi=>absurd hi (Nat.not_lt_zero _),⟨rfl,Or.inl ⟨rfl,rfl⟩⟩,λi hi=>absurd hi (Nat.not_lt_zero _),⟨rfl,Or.inl ⟨rfl,rfl⟩⟩,List.pairwise_singleton _ _⟩⟩
  refine⟨rfl,Or.inr ⟨w.heap.size+1,2,#[.int .i64 0,.int .i64 1],rfl,Nat.le_refl _,?_,Nat.le_refl _,by simp[maxLen],rfl,rfl⟩⟩
  exact(BT.new _ _ _ _ (by rw[Q1])).alloc _
 clear hWA hvn hvw hvr
 go_upto_region 25 with fail
 have HD:=mh (HA.out.next (show Nx wA wA.drew from(Below.refl _ _).drew))
 have HSS:=mh (HD.out.box.blk.cell (i:=1) rfl)
 refine(wpIn_wide (n:=9)).1 ?_
 refine Q9 (c:=6) (S:=λq=>q.cell? ⟨w.heap.size+2,1,none⟩=some (.slice none 0 0)) hmx (by kernel_rfl) (λhw hcl=>?_)
 generalize wA.drew=wd at *
 refine tq (i:=0) (v:=.pointer (some ⟨w.heap.size+2,1,none⟩)) (λhcl=>?_)
 refine tq (i:=1) (v:=.slice none 0 0) (λhcl=>?_)
 refine Qg (i:=2) (by kernel_rfl) hcl (λhcl=>wpOpIn_step rfl (λK hK=>?_))
 go_simp
 refine⟨trivial,(callsIn_wide.2 (Vo 0 0 1 1 true 1 _ (by omega))).mono ?_⟩
 rintro e7 w7 ⟨va,vb,rfl,hva,hvb,hab,hx7⟩
 obtain⟨aa,ca,rfl⟩:=Q2 hva
 obtain⟨ab,cb,rfl⟩:=Q2 hvb
 have HQ:=mh (HD.out.next hx7)
 have HVA:=mh hva
 have HVB:=mh hvb
 have HAB:=mh hab
 have HIZ:=mh (Vs HD.out.net)
 have HSS:=mh (HQ.out.box.blk.cell (i:=1) rfl)
 refine hK _ _ ⟨Or.inr HSS.out,?_⟩
 clear hK K hva hvb hab
 refine Qg (i:=3) (by kernel_rfl) hcl (λhcl=>wpOpIn_step rfl (λK hK=>?_))
 go_simp
 refine hK _ _ ⟨Or.inr (Q3 (Qc _ _) HSS.out),?_⟩
 clear hK K
 refine Qg (i:=4) (by kernel_rfl) hcl (λhcl=>wpOpIn_step rfl (λK hK=>?_))
 have HROW:Hid (w7.ownsRow (w.heap.size+1) 47 4 (.slice none 0 0) 0 (Vb ([]:List Wy) vn vw)):=by
  have h:=HQ.out.net.ways
  unfold Z1 at h
  replace h:w7.ownsRow (w.heap.size+1) 47 4 (.slice none 0 0) (([]:List Wy)).length (Vb ([]:List Wy) vn vw):=h
  rw[(show([]:List Wy).length=0 from rfl)] at h
  exact h
 have hz7:w.heap.size+1<=w7.heap.size:=by have h1:=HQ.out.box.lt;omega
 refine Xb Zh Tryz.underlying24 rfl (by decide) (by decide) rfl (.tmp 97) (.tmp 99) rfl (w.heap.size+1) 0 (.slice none 0 0) (Vb ([]:List Wy) vn vw) [.int .i64 0,.bool true,.slice aa _ ca,.slice ab _ cb] w7 _ rfl (by simp[Act.eval]) HROW.out (by simp[Act.eval]) rfl (by intro u hu;simp at hu;rcases hu with rfl|rfl|rfl|rfl<;>rfl) (by omega) hz7 ?_
 intro a8 c8 w8 r1 r2 r3
 have G8:=mh (HQ.out.grown HROW.out (by decide) r2)
 have N8:=mh (HQ.out.net.addWay rfl (z:=wd.heap.size) HIZ.out (x:=lmW 0 true 0 1 1 1) (va:=.slice aa _ ca) (vb:=.slice ab _ cb) (by show w8.ownsRow _ _ 4 _ ((([]:List Wy)).length+1) _;rw[(show([]:List Wy).length=0 from rfl)];exact r1) r2 HVA.out HVB.out (by have h1:=HD.out.box.lt;omega) HAB.out)
 have HSS:=mh (G8.out.2.2.blk.cell (i:=1) rfl)
 refine hK _ _ ⟨Or.inr HSS.out,?_⟩
 clear hK K r1 r2 r3
 refine Qg (i:=5) (by kernel_rfl) hcl (λhcl=>wpOpIn_step rfl (λK hK=>?_))
 go_simp
 refine hK _ _ ⟨Or.inr HSS.out,?_⟩
 clear hK K
 have x1:=G8.out.2.2.blk.cell (i:=1) rfl
 have fz1:=G8.out.2.2.blk.frozen 1
 refine Q5 (i:=6) (by kernel_rfl) (wpOpIn_step rfl (λK hK=>?_))
 go_simp
 refine hK _ _ ⟨Or.inl (by decide),?_⟩
 clear hK K
 refine Qj (by kernel_rfl) ?_ _
 have H9:=mh (NBx.lay 1 (.slice a8 (0+1) c8) G8.out N8.out rfl)
 clear x1 fz1 hw hcl HSS G8 N8 HQ HVA HVB HAB HROW HIZ HD
 generalize w8.setCell ⟨w.heap.size+2,1,none⟩ (.slice a8 (0+1) c8)=w9 at *
 go_wp2
 go_loopw [10] (λs10 wr=>∃(n c:Nat) (a:Option Addr),n<=1000+over/\s10=.int .i64 (n:Int)/\Hid (∃vn vw vr,NBx w wr (.slice (some ⟨w.heap.size+1,0,none⟩) 2 2) (.slice a8 1 c8) (.slice a n c) (.slice none 0 0) (nW (lmWs [lmW 0 true 0 1 1 1]) (Jd (λi=>(⟨i,false,0,0,true,(i:Int)%2,[]⟩:Rl)) n)) vn vw vr)) (λi _=>1000+over-(intOf i).toNat)
 case atStart=>exact⟨0,0,none,Nat.zero_le _,rfl,⟨_,_,_,H9.out⟩⟩
 clear H9
 obtain⟨n,c,a,hn,rfl,hN⟩:=hrel
 obtain⟨vn,vw,vr,hN⟩:=hN.out
 have Hn:=mh hN
 clear hN
 by_cases hlt:n<1000+over
 ·have hlt':(n:Int)<1000+(over:Int):=by omega
  have n2:wr.cell? ⟨w.heap.size+2,2,none⟩=some (.slice a n c):=Hn.out.box.blk.cell (i:=2) rfl
  have hz:w.heap.size+1<=wr.heap.size:=by have:=Hn.out.box.lt;omega
  have HROW:Hid (wr.ownsRow (w.heap.size+1) 41 7 (.slice a n c) n (rrow (Jd (λi=>(⟨i,false,0,0,true,(i:Int)%2,[]⟩:Rl)) n) vr)):=by
   have h:=Hn.out.net.rels
   unfold OwnRl at h
   replace h:wr.ownsRow (w.heap.size+1) 41 7 (.slice a n c) ((Jd (λi=>(⟨i,false,0,0,true,(i:Int)%2,[]⟩:Rl)) n)).length (rrow (Jd (λi=>(⟨i,false,0,0,true,(i:Int)%2,[]⟩:Rl)) n) vr):=h
   rw[V7] at h
   exact h
  go_wp2_with (at_builtin;refine Yw infoRelE Tryz.underlying25 rfl (by decide) (by decide) rfl _ _ rfl (w.heap.size+1) n (.slice a n c) (rrow (Jd (λi=>(⟨i,false,0,0,true,(i:Int)%2,[]⟩:Rl)) n) vr) [.int .i64 (n:Int),.bool false,.int .i64 0,.int .i64 0,.bool true,.int .i64 ((n:Int)%2),.slice none 0 0] wr rfl HROW.out rfl rfl (by intro u hu;simp at hu;rcases hu with rfl|rfl|rfl|rfl|rfl|rfl|rfl<;>rfl) (by omega) hz ?_)
  intro a9 c9 w8 r1 r2 r3
  have G8:=mh (Hn.out.grown HROW.out (by decide) r2)
  have N8:=mh (Hn.out.net.addRel (z:=wr.heap.size) (Vs Hn.out.net) (x:=⟨n,false,0,0,true,(n:Int)%2,[]⟩) (va:=.slice none 0 0) (by show w8.ownsRow _ _ 7 _ (((Jd (λi=>(⟨i,false,0,0,true,(i:Int)%2,[]⟩:Rl)) n)).length+1) _;rw[V7];exact r1) r2 ⟨rfl,Or.inl ⟨rfl,rfl⟩⟩ hz)
  have H10:=mh (NBx.lay 2 (.slice a9 (n+1) c9) G8.out N8.out rfl)
  have x2:w8.cell? ⟨w.heap.size+2,2,none⟩=some (.slice a n c):=G8.out.2.2.blk.cell (i:=2) rfl
  have fz2:=G8.out.2.2.blk.frozen 2
  clear r1 r2 r3 n2 G8 N8 HROW
  go_wp2
  go_roundw
  case rel=>exact⟨n+1,c9,a9,by omega,by go_num,⟨_,_,_,H10.out⟩⟩
  case measure=>simp[intOf];omega
 have hnn:n=1000+over:=by omega
 have hge:¬(n:Int)<1000+(over:Int):=by omega
 rw[<-hnn] at HLN
 clear hnn hlt
 have BR:BT wr w.heap.size #[.slice none 0 0,.slice none 0 0,.slice none 0 0,.slice none 0 0,.int .i64 0] 28:=Hn.out.res
 have y0_:wr.cell? ⟨w.heap.size+2,0,none⟩=some (.slice (some ⟨w.heap.size+1,0,none⟩) 2 2):=Hn.out.box.blk.cell (i:=0) rfl
 have y1_:wr.cell? ⟨w.heap.size+2,1,none⟩=some (.slice a8 1 c8):=Hn.out.box.blk.cell (i:=1) rfl
 have y2_:wr.cell? ⟨w.heap.size+2,2,none⟩=some (.slice a n c):=Hn.out.box.blk.cell (i:=2) rfl
 have y3_:wr.cell? ⟨w.heap.size+2,3,none⟩=some (.slice none 0 0):=Hn.out.box.blk.cell (i:=3) rfl
 have y4_:wr.cell? ⟨w.heap.size+2,4,none⟩=some (.int .i64 1048576):=Hn.out.box.blk.cell (i:=4) rfl
 have x0:=BR.blk.cell (i:=0) rfl
 have fz0:=BR.blk.frozen 0
 have x1:=BR.blk.cell (i:=1) rfl
 have fz1:=BR.blk.frozen 1
 have x2:=BR.blk.cell (i:=2) rfl
 have fz2:=BR.blk.frozen 2
 have x3:=BR.blk.cell (i:=3) rfl
 have fz3:=BR.blk.frozen 3
 have x4:=BR.blk.cell (i:=4) rfl
 have fz4:=BR.blk.frozen 4
 have BS:=set5 (a0:=.slice (some ⟨w.heap.size+1,0,none⟩) 2 2) (a1:=.slice a8 1 c8) (a2:=.slice a n c) (a3:=.slice none 0 0) (a4:=.int .i64 1048576) BR
 have P0:=mh (BS.blk.cell (i:=0) rfl)
 have P1:=mh (BS.blk.cell (i:=1) rfl)
 have P2:=mh (BS.blk.cell (i:=2) rfl)
 have P3:=mh (BS.blk.cell (i:=3) rfl)
 have P4:Hid (_=some (Value.int .i64 1048576)):=BS.blk.cell (i:=4) rfl
 have HCF:Hid (Chg (λx=>x=w.heap.size) wr (((((wr.setCell ⟨w.heap.size,0,none⟩ (.slice (some ⟨w.heap.size+1,0,none⟩) 2 2)).setCell ⟨w.heap.size,1,none⟩ (.slice a8 1 c8)).setCell ⟨w.heap.size,2,none⟩ (.slice a n c)).setCell ⟨w.heap.size,3,none⟩ (.slice none 0 0)).setCell ⟨w.heap.size,4,none⟩ (.int .i64 1048576))):=chg5
 clear BS
 have HBR:=mh BR
 clear BR
 go_wp2
 generalize hWF:(((((wr.setCell ⟨w.heap.size,0,none⟩ (.slice (some ⟨w.heap.size+1,0,none⟩) 2 2)).setCell ⟨w.heap.size,1,none⟩ (.slice a8 1 c8)).setCell ⟨w.heap.size,2,none⟩ (.slice a n c)).setCell ⟨w.heap.size,3,none⟩ (.slice none 0 0)).setCell ⟨w.heap.size,4,none⟩ (.int .i64 1048576))=wF at P0 P1 P2 P3 P4 HCF ⊢
 have p0_:=P0.out
 have p1_:=P1.out
 have p2_:=P2.out
 have p3_:=P3.out
 have p4_:=P4.out
 refine bodyPost_ret (v:=.agg #[.slice (some ⟨w.heap.size+1,0,none⟩) 2 2,.slice a8 1 c8,.slice a n c,.slice none 0 0,.int .i64 1048576]) (by simp[results,Tryz.results49,go_sem,p0_,p1_,p2_,p3_,p4_]) rfl ?_
 have hO:=Hn.out.net.turnBox HBR.out (by decide) (λe=>absurd e (by decide)) HCF.out
 have hX:Nx w wF:=Below.trans Hn.out.nx (HCF.out.below Hn.out.nx.size (λx hx=>by have hx':x=w.heap.size:=hx;omega))
 rw[HLN.out]
 exact⟨⟨_,_,_,_,rfl,_,_,_,hO⟩,hX⟩
theorem l1LimitAt_eight (over:Nat)(w:World)(ho:over<=1) :
  Calls Tryz.prog 49 #[.int .i64 8,.int .i64 (over:Int)] w λe w'=>(∃v0 v1 v2 v3,e=.returned (.agg #[v0,v1,v2,v3,.int .i64 1048576])/\∃vn vw vr,ONt (w.heap.size+1) w' v0 v1 v2 v3 (Yy 8 over) vn vw vr)/\Nx w w':=by
 have HLN:Hid (Yy 8 over=(⟨[0,1],(Jd (λi=>lmW i false 0 1 1 i) 45),[],(Jd (λi=>(⟨(i:Int)/45,(i:Int)%45,i⟩:Tn)) (2000+over)),1048576⟩:Nt)):=rfl
 have hmx:Tryz.prog.follows .mixedOrders=true:=by kernel_rfl
 go_enter Tryz.func49,Tryz.ntmps49
 go_upto_region 2 with fail
 generalize hWA:((w.alloc (.cells #[.slice none 0 0,.slice none 0 0,.slice none 0 0,.slice none 0 0,.int .i64 0] 28)).alloc (.cells #[.int .i64 0,.int .i64 1] 2)).alloc (.cells #[.slice (some ⟨w.heap.size+1,0,none⟩) 2 2,.slice none 0 0,.slice none 0 0,.slice none 0 0,.int .i64 1048576] 28)=wA
 obtain⟨vn,hvn⟩:∃v:Nat->Value,v=λ_=>.slice none 0 0:=⟨_,rfl⟩
 obtain⟨vw,hvw⟩:∃v:Nat->Value,v=λ_=>.slice none 0 0:=⟨_,rfl⟩
 obtain⟨vr,hvr⟩:∃v:Nat->Value,v=λ_=>.slice none 0 0:=⟨_,rfl⟩
 have HA:Hid (NBx w wA (.slice (some ⟨w.heap.size+1,0,none⟩) 2 2) (.slice none 0 0) (.slice none 0 0) (.slice none 0 0) lm0 vn vw vr):=by
  unfold Hid
  rw[<-hWA]
  refine⟨(Qc _ _).trans ((Qc _ _).trans (Qc _ _)),((BT.new w _ _ _ rfl).alloc _).alloc _,BT.new _ _ _ _ (by rw[Q1,Q1]),⟨?_,⟨rfl,Or.inl ⟨rfl,rfl⟩⟩,λi hi=>absurd hi (Nat.not_lt_zero _),λi hi=>absurd hi (Nat.not_lt_zero _),⟨rfl,Or.inl ⟨rfl,rfl⟩⟩,λi hi=>absurd hi (Nat.not_lt_zero _),⟨rfl,Or.inl ⟨rfl,rfl⟩⟩,List.pairwise_singleton _ _⟩⟩
  refine⟨rfl,Or.inr ⟨w.heap.size+1,2,#[.int .i64 0,.int .i64 1],rfl,Nat.le_refl _,?_,Nat.le_refl _,by simp[maxLen],rfl,rfl⟩⟩
  exact(BT.new _ _ _ _ (by rw[Q1])).alloc _
 clear hWA hvn hvw hvr
 go_wp2
 go_loopw [11] (λs11 wr=>∃(n c:Nat) (a:Option Addr),n<=45/\s11=.int .i64 (n:Int)/\Hid (∃vn vw,NBx w wr (.slice (some ⟨w.heap.size+1,0,none⟩) 2 2) (.slice a n c) (.slice none 0 0) (.slice none 0 0) (lmWs (Jd (λi=>lmW i false 0 1 1 i) n)) vn vw vr)) (λi _=>45-(intOf i).toNat)
 case atStart=>exact⟨0,0,none,Nat.zero_le _,rfl,⟨vn,vw,HA.out⟩⟩
 clear HA
 obtain⟨n,c,a,hn,rfl,hN⟩:=hrel
 obtain⟨vn,vw,hN⟩:=hN.out
 have Hn:=mh hN
 clear hN
 by_cases hlt:n<45
 ·have hlt':(n:Int)<45:=by omega
  go_upto_region 34 with fail
  have HD:=mh (Hn.out.next (show Nx wr wr.drew from(Below.refl _ _).drew))
  have HSS:=mh (HD.out.box.blk.cell (i:=1) rfl)
  refine(wpIn_wide (n:=9)).1 ?_
  refine Q9 (c:=8) (S:=λq=>q.cell? ⟨w.heap.size+2,1,none⟩=some (.slice a n c)) hmx (by kernel_rfl) (λhw hcl=>?_)
  generalize wr.drew=wd at *
  refine tq (i:=0) (v:=.pointer (some ⟨w.heap.size+2,1,none⟩)) (λhcl=>?_)
  refine tq (i:=1) (v:=.slice a n c) (λhcl=>?_)
  refine tq (i:=2) (v:=.int .i64 (n:Int)) (λhcl=>?_)
  refine tq (i:=3) (v:=.int .i64 (n:Int)) (λhcl=>?_)
  refine Qg (i:=4) (by kernel_rfl) hcl (λhcl=>wpOpIn_step rfl (λK hK=>?_))
  go_simp
  refine⟨trivial,(callsIn_wide.2 (Vo (n:Int) 0 1 (n:Int) false 1 _ (by omega))).mono ?_⟩
  rintro e7 w7 ⟨va,vb,rfl,hva,hvb,hab,hx7⟩
  obtain⟨aa,ca,rfl⟩:=Q2 hva
  obtain⟨ab,cb,rfl⟩:=Q2 hvb
  have HQ:=mh (HD.out.next hx7)
  have HVA:=mh hva
  have HVB:=mh hvb
  have HAB:=mh hab
  have HIZ:=mh (Vs HD.out.net)
  have HSS:=mh (HQ.out.box.blk.cell (i:=1) rfl)
  refine hK _ _ ⟨Or.inr HSS.out,?_⟩
  clear hK K hva hvb hab
  refine Qg (i:=5) (by kernel_rfl) hcl (λhcl=>wpOpIn_step rfl (λK hK=>?_))
  go_simp
  refine hK _ _ ⟨Or.inr (Q3 (Qc _ _) HSS.out),?_⟩
  clear hK K
  refine Qg (i:=6) (by kernel_rfl) hcl (λhcl=>wpOpIn_step rfl (λK hK=>?_))
  have HROW:Hid (w7.ownsRow (w.heap.size+1) 47 4 (.slice a n c) n (Vb (Jd (λi=>lmW i false 0 1 1 i) n) vn vw)):=by
   have h:=HQ.out.net.ways
   unfold Z1 at h
   replace h:w7.ownsRow (w.heap.size+1) 47 4 (.slice a n c) ((Jd (λi=>lmW i false 0 1 1 i) n)).length (Vb (Jd (λi=>lmW i false 0 1 1 i) n) vn vw):=h
   rw[V7 _ n] at h
   exact h
  have hz7:w.heap.size+1<=w7.heap.size:=by have h1:=HQ.out.box.lt;omega
  refine Xb Zh Tryz.underlying24 rfl (by decide) (by decide) rfl (.tmp 124) (.tmp 128) rfl (w.heap.size+1) n (.slice a n c) (Vb (Jd (λi=>lmW i false 0 1 1 i) n) vn vw) [.int .i64 (n:Int),.bool false,.slice aa _ ca,.slice ab _ cb] w7 _ rfl (by simp[Act.eval]) HROW.out (by simp[Act.eval]) rfl (by intro u hu;simp at hu;rcases hu with rfl|rfl|rfl|rfl<;>rfl) (by omega) hz7 ?_
  intro a8 c8 w8 r1 r2 r3
  have G8:=mh (HQ.out.grown HROW.out (by decide) r2)
  have N8:=mh (HQ.out.net.addWay rfl (z:=wd.heap.size) HIZ.out (x:=lmW (n:Int) false 0 1 1 (n:Int)) (va:=.slice aa _ ca) (vb:=.slice ab _ cb) (by show w8.ownsRow _ _ 4 _ (((Jd (λi=>lmW i false 0 1 1 i) n)).length+1) _;rw[V7 _ n];exact r1) r2 HVA.out HVB.out (by have h1:=HD.out.box.lt;omega) HAB.out)
  have HSS:=mh (G8.out.2.2.blk.cell (i:=1) rfl)
  refine hK _ _ ⟨Or.inr HSS.out,?_⟩
  clear hK K r1 r2 r3
  refine Qg (i:=7) (by kernel_rfl) hcl (λhcl=>wpOpIn_step rfl (λK hK=>?_))
  go_simp
  refine hK _ _ ⟨Or.inr HSS.out,?_⟩
  clear hK K
  have x1:=G8.out.2.2.blk.cell (i:=1) rfl
  have fz1:=G8.out.2.2.blk.frozen 1
  refine Q5 (i:=8) (by kernel_rfl) (wpOpIn_step rfl (λK hK=>?_))
  go_simp
  refine hK _ _ ⟨Or.inl (by decide),?_⟩
  clear hK K
  refine Qj (by kernel_rfl) ?_ _
  have H9:=mh (NBx.lay 1 (.slice a8 (n+1) c8) G8.out N8.out rfl)
  clear x1 fz1 hw hcl HSS G8 N8 HQ HVA HVB HAB HROW HIZ HD
  generalize w8.setCell ⟨w.heap.size+2,1,none⟩ (.slice a8 (n+1) c8)=w9 at *
  go_wp2
  go_roundw
  case rel=>exact⟨n+1,c8,a8,by omega,by go_num,⟨_,_,H9.out⟩⟩
  case measure=>simp[intOf];omega
 have hnn:n=45:=by omega
 subst hnn
 clear hlt hn
 go_wp2
 go_loopw [12] (λs12 wr=>∃(n:Nat),n<=2000+over/\s12=.int .i64 (n:Int)/\Hid (∃(c3:Nat) (a3:Option Addr),NBx w wr (.slice (some ⟨w.heap.size+1,0,none⟩) 2 2) (.slice a 45 c) (.slice none 0 0) (.slice a3 n c3) (⟨[0,1],(Jd (λi=>lmW i false 0 1 1 i) 45),[],(Jd (λi=>(⟨(i:Int)/45,(i:Int)%45,i⟩:Tn)) n),1048576⟩:Nt) vn vw vr)) (λi _=>2000+over-(intOf i).toNat)
 case atStart=>exact⟨0,Nat.zero_le _,rfl,⟨0,none,Hn.out⟩⟩
 clear Hn
 obtain⟨n,hn,rfl,hN⟩:=hrel
 obtain⟨c3,a3,hN⟩:=hN.out
 have Hn:=mh hN
 clear hN
 by_cases hlt:n<2000+over
 ·have hlt':(n:Int)<2000+(over:Int):=by omega
  have n3:wr.cell? ⟨w.heap.size+2,3,none⟩=some (.slice a3 n c3):=Hn.out.box.blk.cell (i:=3) rfl
  have hz:w.heap.size+1<=wr.heap.size:=by have:=Hn.out.box.lt;omega
  have HROW:Hid (wr.ownsRow (w.heap.size+1) 63 3 (.slice a3 n c3) n (((Jd (λi=>(⟨(i:Int)/45,(i:Int)%45,i⟩:Tn)) n)).flatMap Y3)):=by
   have h:=Hn.out.net.turns
   unfold OwnT at h
   replace h:wr.ownsRow (w.heap.size+1) 63 3 (.slice a3 n c3) ((Jd (λi=>(⟨(i:Int)/45,(i:Int)%45,i⟩:Tn)) n)).length (((Jd (λi=>(⟨(i:Int)/45,(i:Int)%45,i⟩:Tn)) n)).flatMap Y3):=h
   rw[V7] at h
   exact h
  go_wp2_with (at_builtin;refine Yw infoTurn Tryz.underlying26 rfl (by decide) (by decide) rfl _ _ rfl (w.heap.size+1) n (.slice a3 n c3) (((Jd (λi=>(⟨(i:Int)/45,(i:Int)%45,i⟩:Tn)) n)).flatMap Y3) [.int .i64 ((n:Int)/45),.int .i64 ((n:Int)%45),.int .i64 (n:Int)] wr rfl HROW.out rfl rfl (by intro u hu;simp at hu;rcases hu with rfl|rfl|rfl<;>rfl) (by omega) hz ?_)
  intro a9 c9 w8 r1 r2 r3
  have G8:=mh (Hn.out.grown HROW.out (by decide) r2)
  have hT:OwnT (w.heap.size+1) w8 (.slice a9 (n+1) c9) (Jd (λi=>(⟨(i:Int)/45,(i:Int)%45,i⟩:Tn)) (n+1)):=by
   unfold OwnT
   rw[V7]
   show w8.ownsRow _ _ 3 _ (n+1) ((((Jd (λi=>(⟨(i:Int)/45,(i:Int)%45,i⟩:Tn)) n))++[_]).flatMap Y3)
   rw[List.flatMap_append]
   exact r1
  have N8:=mh (Hn.out.net.addTurn hT r2)
  have H10:=mh (NBx.lay 3 (.slice a9 (n+1) c9) G8.out N8.out rfl)
  have x3:w8.cell? ⟨w.heap.size+2,3,none⟩=some (.slice a3 n c3):=G8.out.2.2.blk.cell (i:=3) rfl
  have fz3:=G8.out.2.2.blk.frozen 3
  clear r1 r2 r3 n3 G8 N8 HROW hT
  go_wp2
  go_roundw
  case rel=>exact⟨n+1,by omega,by go_num,⟨c9,a9,H10.out⟩⟩
  case measure=>simp[intOf];omega
 have hnn:n=2000+over:=by omega
 have hge:¬(n:Int)<2000+(over:Int):=by omega
 rw[<-hnn] at HLN
 clear hnn hlt
 have BR:BT wr w.heap.size #[.slice none 0 0,.slice none 0 0,.slice none 0 0,.slice none 0 0,.int .i64 0] 28:=Hn.out.res
 have y0_:wr.cell? ⟨w.heap.size+2,0,none⟩=some (.slice (some ⟨w.heap.size+1,0,none⟩) 2 2):=Hn.out.box.blk.cell (i:=0) rfl
 have y1_:wr.cell? ⟨w.heap.size+2,1,none⟩=some (.slice a 45 c):=Hn.out.box.blk.cell (i:=1) rfl
 have y2_:wr.cell? ⟨w.heap.size+2,2,none⟩=some (.slice none 0 0):=Hn.out.box.blk.cell (i:=2) rfl
 have y3_:wr.cell? ⟨w.heap.size+2,3,none⟩=some (.slice a3 n c3):=Hn.out.box.blk.cell (i:=3) rfl
 have y4_:wr.cell? ⟨w.heap.size+2,4,none⟩=some (.int .i64 1048576):=Hn.out.box.blk.cell (i:=4) rfl
 have x0:=BR.blk.cell (i:=0) rfl
 have fz0:=BR.blk.frozen 0
 have x1:=BR.blk.cell (i:=1) rfl
 have fz1:=BR.blk.frozen 1
 have x2:=BR.blk.cell (i:=2) rfl
 have fz2:=BR.blk.frozen 2
 have x3:=BR.blk.cell (i:=3) rfl
 have fz3:=BR.blk.frozen 3
 have x4:=BR.blk.cell (i:=4) rfl
 have fz4:=BR.blk.frozen 4
 have BS:=set5 (a0:=.slice (some ⟨w.heap.size+1,0,none⟩) 2 2) (a1:=.slice a 45 c) (a2:=.slice none 0 0) (a3:=.slice a3 n c3) (a4:=.int .i64 1048576) BR
 have P0:=mh (BS.blk.cell (i:=0) rfl)
 have P1:=mh (BS.blk.cell (i:=1) rfl)
 have P2:=mh (BS.blk.cell (i:=2) rfl)
 have P3:=mh (BS.blk.cell (i:=3) rfl)
 have P4:Hid (_=some (Value.int .i64 1048576)):=BS.blk.cell (i:=4) rfl
 have HCF:Hid (Chg (λx=>x=w.heap.size) wr (((((wr.setCell ⟨w.heap.size,0,none⟩ (.slice (some ⟨w.heap.size+1,0,none⟩) 2 2)).setCell ⟨w.heap.size,1,none⟩ (.slice a 45 c)).setCell ⟨w.heap.size,2,none⟩ (.slice none 0 0)).setCell ⟨w.heap.size,3,none⟩ (.slice a3 n c3)).setCell ⟨w.heap.size,4,none⟩ (.int .i64 1048576))):=chg5
 clear BS
 have HBR:=mh BR
 clear BR
 go_wp2
 generalize hWF:(((((wr.setCell ⟨w.heap.size,0,none⟩ (.slice (some ⟨w.heap.size+1,0,none⟩) 2 2)).setCell ⟨w.heap.size,1,none⟩ (.slice a 45 c)).setCell ⟨w.heap.size,2,none⟩ (.slice none 0 0)).setCell ⟨w.heap.size,3,none⟩ (.slice a3 n c3)).setCell ⟨w.heap.size,4,none⟩ (.int .i64 1048576))=wF at P0 P1 P2 P3 P4 HCF ⊢
 have p0_:=P0.out
 have p1_:=P1.out
 have p2_:=P2.out
 have p3_:=P3.out
 have p4_:=P4.out
 refine bodyPost_ret (v:=.agg #[.slice (some ⟨w.heap.size+1,0,none⟩) 2 2,.slice a 45 c,.slice none 0 0,.slice a3 n c3,.int .i64 1048576]) (by simp[results,Tryz.results49,go_sem,p0_,p1_,p2_,p3_,p4_]) rfl ?_
 have hO:=Hn.out.net.turnBox HBR.out (by decide) (λe=>absurd e (by decide)) HCF.out
 have hX:Nx w wF:=Below.trans Hn.out.nx (HCF.out.below Hn.out.nx.size (λx hx=>by have hx':x=w.heap.size:=hx;omega))
 rw[HLN.out]
 exact⟨⟨_,_,_,_,rfl,_,_,_,hO⟩,hX⟩
section
variable {w0 w w':World}{v0 v1 v2 v3:Value}{N:Nt}{vn vw vr:Nat->Value}
theorem NBx.farRow (h:NBx w0 w v0 v1 v2 v3 N vn vw vr){z:Nat}(hz:∀u∈Js N v0 vn vw vr,∀g,u.ownBlock=some g->g<z){v:Value}{zs:List Int}(hr:Q6 z w v zs)(hC:w0.heap.size+1<=z)(hc:Chg (λx=>some x=v.ownBlock) w w'):NBx w0 w' v0 v1 v2 v3 N vn vw vr:=by
 have far:∀{u:Value}{us:List Int},u∈Js N v0 vn vw vr->Q6 (w0.heap.size+1) w u us->Q6 (w0.heap.size+1) w' u us:=λhu ho=>Zl ho (λg hg e=>by
  have h1:=hz _ hu g e
  have h2:=(Qf hr g hg).1
  omega) hc
 have m1:∀i,i<N.ways.length->vn i∈Js N v0 vn vw vr/\vw i∈Js N v0 vn vw vr:=λi hi=>⟨List.mem_append_left _ (List.mem_cons_of_mem _ (prs_in (vn:=vn) (vw:=vw) hi).1),List.mem_append_left _ (List.mem_cons_of_mem _ (prs_in (vn:=vn) (vw:=vw) hi).2)⟩
 have m2:∀i,i<N.rels.length->vr i∈Js N v0 vn vw vr:=λi hi=>List.mem_append_right _ (List.mem_map.2 ⟨i,List.mem_range.2 hi,rfl⟩)
 have n:=h.net
 exact⟨Below.trans h.nx (hc.below h.nx.size (λx hx=>by have:=(Qf hr x hx.symm).1;omega)),h.res.row hr (by decide) hc,h.box.row hr (by decide) hc,⟨far (List.mem_append_left _ (List.mem_cons_self ..)) n.nodes,J8 n.ways hr (by decide) hc,λi hi=>far (m1 i hi).1 (n.wn i hi),λi hi=>far (m1 i hi).2 (n.ww i hi),J8 n.rels hr (by decide) hc,λi hi=>far (m2 i hi) (n.rw_ i hi),J8 n.turns hr (by decide) hc,n.apart⟩⟩
theorem NBx.farBox (h:NBx w0 w v0 v1 v2 v3 N vn vw vr){g:Nat}{cs:Array Value}(hb:BT w g cs 41)(hg:w0.heap.size+3<=g)(hv:v2=.slice none 0 0)(i:Nat)(v:Value):NBx w0 (w.setCell ⟨g,i,none⟩ v) v0 v1 v2 v3 N vn vw vr:=
 ⟨Below.setCell h.nx (show w0.heap.size<=g by omega) _,h.res.setOther (by omega) _ _,h.box.setOther (by omega) _ _,h.net.turnBox hb (by decide) (λ_=>by rw[hv];simp[Value.ownBlock]) (Chg.set _ _ _ rfl)⟩
end
theorem l1LimitAt_three (over:Nat)(w:World)(ho:over<=1) :
  Calls Tryz.prog 49 #[.int .i64 3,.int .i64 (over:Int)] w λe w'=>(∃v0 v1 v2 v3,e=.returned (.agg #[v0,v1,v2,v3,.int .i64 1048576])/\∃vn vw vr,ONt (w.heap.size+1) w' v0 v1 v2 v3 (Yy 3 over) vn vw vr)/\Nx w w':=by
 have HLN:Hid (Yy 3 over=nW (lmWs [lmW 3 true 0 1 1 5]) [⟨1048576,false,3,3,false,0,(Jd (λ_=>(3:Int)) (4+over))⟩]):=rfl
 have hmx:Tryz.prog.follows .mixedOrders=true:=by kernel_rfl
 go_enter Tryz.func49,Tryz.ntmps49
 go_upto_region 2 with fail
 generalize hWA:((w.alloc (.cells #[.slice none 0 0,.slice none 0 0,.slice none 0 0,.slice none 0 0,.int .i64 0] 28)).alloc (.cells #[.int .i64 0,.int .i64 1] 2)).alloc (.cells #[.slice (some ⟨w.heap.size+1,0,none⟩) 2 2,.slice none 0 0,.slice none 0 0,.slice none 0 0,.int .i64 1048576] 28)=wA
 obtain⟨vn,hvn⟩:∃v:Nat->Value,v=λ_=>.slice none 0 0:=⟨_,rfl⟩
 obtain⟨vw,hvw⟩:∃v:Nat->Value,v=λ_=>.slice none 0 0:=⟨_,rfl⟩
 obtain⟨vr,hvr⟩:∃v:Nat->Value,v=λ_=>.slice none 0 0:=⟨_,rfl⟩
 have HA:Hid (NBx w wA (.slice (some ⟨w.heap.size+1,0,none⟩) 2 2) (.slice none 0 0) (.slice none 0 0) (.slice none 0 0) lm0 vn vw vr):=by
  unfold Hid
  rw[<-hWA]
  refine⟨(Qc _ _).trans ((Qc _ _).trans (Qc _ _)),((BT.new w _ _ _ rfl).alloc _).alloc _,BT.new _ _ _ _ (by rw[Q1,Q1]),⟨?_,⟨rfl,Or.inl ⟨rfl,rfl⟩⟩,λi hi=>absurd hi (Nat.not_lt_zero _),λi hi=>absurd hi (Nat.not_lt_zero _),⟨rfl,Or.inl ⟨rfl,rfl⟩⟩,λi hi=>absurd hi (Nat.not_lt_zero _),⟨rfl,Or.inl ⟨rfl,rfl⟩⟩,List.pairwise_singleton _ _⟩⟩
  refine⟨rfl,Or.inr ⟨w.heap.size+1,2,#[.int .i64 0,.int .i64 1],rfl,Nat.le_refl _,?_,Nat.le_refl _,by simp[maxLen],rfl,rfl⟩⟩
  exact(BT.new _ _ _ _ (by rw[Q1])).alloc _
 clear hWA hvn hvw hvr
 go_upto_region 5 with fail
 have HD:=mh (HA.out.next (show Nx wA wA.drew from(Below.refl _ _).drew))
 have HSS:=mh (HD.out.box.blk.cell (i:=1) rfl)
 refine(wpIn_wide (n:=9)).1 ?_
 refine Q9 (c:=6) (S:=λq=>q.cell? ⟨w.heap.size+2,1,none⟩=some (.slice none 0 0)) hmx (by kernel_rfl) (λhw hcl=>?_)
 generalize wA.drew=wd at *
 refine tq (i:=0) (v:=.pointer (some ⟨w.heap.size+2,1,none⟩)) (λhcl=>?_)
 refine tq (i:=1) (v:=.slice none 0 0) (λhcl=>?_)
 refine Qg (i:=2) (by kernel_rfl) hcl (λhcl=>wpOpIn_step rfl (λK hK=>?_))
 go_simp
 refine⟨trivial,(callsIn_wide.2 (Vo 3 0 1 5 true 1 _ (by omega))).mono ?_⟩
 rintro e7 w7 ⟨va,vb,rfl,hva,hvb,hab,hx7⟩
 obtain⟨aa,ca,rfl⟩:=Q2 hva
 obtain⟨ab,cb,rfl⟩:=Q2 hvb
 have HQ:=mh (HD.out.next hx7)
 have HVA:=mh hva
 have HVB:=mh hvb
 have HAB:=mh hab
 have HIZ:Hid (∀u∈Js lm0 (.slice (some ⟨w.heap.size+1,0,none⟩) 2 2) vn vw vr,∀y,u.ownBlock=some y->y<wd.heap.size):=Vs HD.out.net
 have HSS:=mh (HQ.out.box.blk.cell (i:=1) rfl)
 refine hK _ _ ⟨Or.inr HSS.out,?_⟩
 clear hK K hva hvb hab
 refine Qg (i:=3) (by kernel_rfl) hcl (λhcl=>wpOpIn_step rfl (λK hK=>?_))
 go_simp
 refine hK _ _ ⟨Or.inr (Q3 (Qc _ _) HSS.out),?_⟩
 clear hK K
 refine Qg (i:=4) (by kernel_rfl) hcl (λhcl=>wpOpIn_step rfl (λK hK=>?_))
 have HROW:Hid (w7.ownsRow (w.heap.size+1) 47 4 (.slice none 0 0) 0 (Vb ([]:List Wy) vn vw)):=by
  have h:=HQ.out.net.ways
  unfold Z1 at h
  replace h:w7.ownsRow (w.heap.size+1) 47 4 (.slice none 0 0) (([]:List Wy)).length (Vb ([]:List Wy) vn vw):=h
  rw[(show([]:List Wy).length=0 from rfl)] at h
  exact h
 have hz7:w.heap.size+1<=w7.heap.size:=by have h1:=HQ.out.box.lt;omega
 refine Xb Zh Tryz.underlying24 rfl (by decide) (by decide) rfl (.tmp 34) (.tmp 36) rfl (w.heap.size+1) 0 (.slice none 0 0) (Vb ([]:List Wy) vn vw) [.int .i64 3,.bool true,.slice aa _ ca,.slice ab _ cb] w7 _ rfl (by simp[Act.eval]) HROW.out (by simp[Act.eval]) rfl (by intro u hu;simp at hu;rcases hu with rfl|rfl|rfl|rfl<;>rfl) (by omega) hz7 ?_
 intro a8 c8 w8 r1 r2 r3
 have G8:=mh (HQ.out.grown HROW.out (by decide) r2)
 have N8:=mh (HQ.out.net.addWay rfl (z:=wd.heap.size) HIZ.out (x:=lmW 3 true 0 1 1 5) (va:=.slice aa _ ca) (vb:=.slice ab _ cb) (by show w8.ownsRow _ _ 4 _ ((([]:List Wy)).length+1) _;rw[(show([]:List Wy).length=0 from rfl)];exact r1) r2 HVA.out HVB.out (by have h1:=HD.out.box.lt;omega) HAB.out)
 have HSS:=mh (G8.out.2.2.blk.cell (i:=1) rfl)
 refine hK _ _ ⟨Or.inr HSS.out,?_⟩
 clear hK K r1 r2 r3
 refine Qg (i:=5) (by kernel_rfl) hcl (λhcl=>wpOpIn_step rfl (λK hK=>?_))
 go_simp
 refine hK _ _ ⟨Or.inr HSS.out,?_⟩
 clear hK K
 have x1:=G8.out.2.2.blk.cell (i:=1) rfl
 have fz1:=G8.out.2.2.blk.frozen 1
 refine Q5 (i:=6) (by kernel_rfl) (wpOpIn_step rfl (λK hK=>?_))
 go_simp
 refine hK _ _ ⟨Or.inl (by decide),?_⟩
 clear hK K
 refine Qj (by kernel_rfl) ?_ _
 have H9:=mh (NBx.lay 1 (.slice a8 (0+1) c8) G8.out N8.out rfl)
 clear x1 fz1 hw hcl HSS G8 N8 HQ HVA HVB HAB HROW HIZ HD
 generalize w8.setCell ⟨w.heap.size+2,1,none⟩ (.slice a8 (0+1) c8)=w9 at *
 have HIZ:Hid (∀u∈Js (lmWs [lmW 3 true 0 1 1 5]) (.slice (some ⟨w.heap.size+1,0,none⟩) 2 2) (upd vn 0 _) (upd vw 0 _) vr,∀y,u.ownBlock=some y->y<w9.heap.size):=Vs H9.out.net
 generalize hvn:upd vn 0 _=vn' at HIZ
 generalize hvw:upd vw 0 _=vw' at HIZ
 replace H9:Hid (NBx w w9 (.slice (some ⟨w.heap.size+1,0,none⟩) 2 2) (.slice a8 1 c8) (.slice none 0 0) (.slice none 0 0) (lmWs [lmW 3 true 0 1 1 5]) vn' vw' vr):=by rw[<-hvn,<-hvw];exact H9
 clear hvn hvw
 have HZ9:Hid (w.heap.size+3<=w9.heap.size):=by have:=H9.out.box.lt;unfold Hid;omega
 go_upto_region 7 with fail
 generalize hWB:w9.alloc (.cells #[.int .i64 1048576,.bool false,.int .i64 3,.int .i64 3,.bool false,.int .i64 0,.slice none 0 0] 41)=w10
 have HB:Hid (BT w10 w9.heap.size #[.int .i64 1048576,.bool false,.int .i64 3,.int .i64 3,.bool false,.int .i64 0,.slice none 0 0] 41):=by unfold Hid;rw[<-hWB];exact BT.new _ _ _ _ rfl
 have H10:=mh (H9.out.next (Qc w9 (.cells #[.int .i64 1048576,.bool false,.int .i64 3,.int .i64 3,.bool false,.int .i64 0,.slice none 0 0] 41)))
 rw[hWB] at H10
 clear hWB H9
 generalize w9.heap.size=g at *
 go_wp2
 go_loopw [7] (λs7 wr=>∃(n:Nat),n<=4+over/\s7=.int .i64 (n:Int)/\Hid (∃(c:Nat) (a:Option Addr),NBx w wr (.slice (some ⟨w.heap.size+1,0,none⟩) 2 2) (.slice a8 1 c8) (.slice none 0 0) (.slice none 0 0) (lmWs [lmW 3 true 0 1 1 5]) vn' vw' vr/\BT wr g #[.int .i64 1048576,.bool false,.int .i64 3,.int .i64 3,.bool false,.int .i64 0,.slice a n c] 41/\Q6 g wr (.slice a n c) (Jd (λ_=>(3:Int)) n))) (λi _=>4+over-(intOf i).toNat)
 case atStart=>exact⟨0,Nat.zero_le _,rfl,⟨0,none,H10.out,HB.out,⟨rfl,Or.inl ⟨rfl,rfl⟩⟩⟩⟩
 clear H10 HB
 obtain⟨n,hn,rfl,hN⟩:=hrel
 obtain⟨c,a,hN,hB,hO⟩:=hN.out
 have Hn:=mh hN
 have HB:=mh hB
 have HO:=mh hO
 clear hN hB hO
 by_cases hlt:n<4+over
 ·have hlt':(n:Int)<4+(over:Int):=by omega
  have x6:wr.cell? ⟨g,6,none⟩=some (.slice a n c):=HB.out.blk.cell (i:=6) rfl
  have hz:g<=wr.heap.size:=Nat.le_of_lt HB.out.lt
  have HLE:Hid (((Jd (λ_=>(3:Int)) n)).length=n):=V7 _ n
  go_wp2_with (at_builtin;refine Ze rfl _ _ rfl g n (.slice a n c) (Jd (λ_=>(3:Int)) n) 3 wr rfl HO.out rfl HLE.out (by omega) hz ?_)
  intro a9 c9 w8 r1 r2 r3
  have H8:=mh (Hn.out.farRow HIZ.out HO.out (by have:=HZ9.out;omega) r2)
  have B8:=mh (HB.out.row HO.out (by decide) r2)
  have H11:=mh (H8.out.farBox B8.out HZ9.out rfl 6 (.slice a9 (n+1) c9))
  have B11:Hid (BT (w8.setCell ⟨g,6,none⟩ (.slice a9 (n+1) c9)) g #[.int .i64 1048576,.bool false,.int .i64 3,.int .i64 3,.bool false,.int .i64 0,.slice a9 (n+1) c9] 41):=B8.out.set 6 _
  have O11:Hid (Q6 g (w8.setCell ⟨g,6,none⟩ (.slice a9 (n+1) c9)) (.slice a9 (n+1) c9) (Jd (λ_=>(3:Int)) (n+1))):=Q7 r1 B8.out (by decide) _ _
  clear x6
  have x6:w8.cell? ⟨g,6,none⟩=some (.slice a n c):=B8.out.blk.cell (i:=6) rfl
  have fz6:=B8.out.blk.frozen 6
  clear r1 r2 r3 H8 B8
  go_wp2
  go_roundw
  case rel=>exact⟨n+1,by omega,by go_num,⟨c9,a9,H11.out,B11.out,O11.out⟩⟩
  case measure=>simp[intOf];omega
 have hnn:n=4+over:=by omega
 have hge:¬(n:Int)<4+(over:Int):=by omega
 rw[<-hnn] at HLN
 clear hnn hlt
 have yy0:wr.cell? ⟨g,0,none⟩=some (.int .i64 1048576):=HB.out.blk.cell (i:=0) rfl
 have yy1:wr.cell? ⟨g,1,none⟩=some (.bool false):=HB.out.blk.cell (i:=1) rfl
 have yy2:wr.cell? ⟨g,2,none⟩=some (.int .i64 3):=HB.out.blk.cell (i:=2) rfl
 have yy3:wr.cell? ⟨g,3,none⟩=some (.int .i64 3):=HB.out.blk.cell (i:=3) rfl
 have yy4:wr.cell? ⟨g,4,none⟩=some (.bool false):=HB.out.blk.cell (i:=4) rfl
 have yy5:wr.cell? ⟨g,5,none⟩=some (.int .i64 0):=HB.out.blk.cell (i:=5) rfl
 have yy6:wr.cell? ⟨g,6,none⟩=some (.slice a n c):=HB.out.blk.cell (i:=6) rfl
 have n2:wr.cell? ⟨w.heap.size+2,2,none⟩=some (.slice none 0 0):=Hn.out.box.blk.cell (i:=2) rfl
 have hz:w.heap.size+1<=wr.heap.size:=by have:=Hn.out.box.lt;omega
 have HROW:=mh Hn.out.net.rels
 go_wp2_with (at_builtin;refine Yw infoRelE Tryz.underlying25 rfl (by decide) (by decide) rfl _ _ rfl (w.heap.size+1) 0 (.slice none 0 0) (rrow [] vr) [.int .i64 1048576,.bool false,.int .i64 3,.int .i64 3,.bool false,.int .i64 0,.slice a n c] wr rfl HROW.out rfl rfl (by intro u hu;simp at hu;rcases hu with rfl|rfl|rfl|rfl|rfl|rfl|rfl<;>rfl) (by omega) hz ?_)
 intro a9 c9 w8 r1 r2 r3
 have G8:=mh (Hn.out.grown HROW.out (by decide) r2)
 have N8:=mh (Hn.out.net.addRel (z:=g) HIZ.out (x:=(⟨1048576,false,3,3,false,0,(Jd (λ_=>(3:Int)) n)⟩:Rl)) (va:=.slice a n c) r1 r2 HO.out (by have:=HZ9.out;omega))
 have H12:=mh (NBx.lay 2 (.slice a9 1 c9) G8.out N8.out rfl)
 have x2:w8.cell? ⟨w.heap.size+2,2,none⟩=some (.slice none 0 0):=G8.out.2.2.blk.cell (i:=2) rfl
 have fz2:=G8.out.2.2.blk.frozen 2
 clear r1 r2 r3 n2 G8 N8 HROW yy0 yy1 yy2 yy3 yy4 yy5 yy6 HB HO
 go_upto_region 12 with fail
 generalize w8.setCell ⟨w.heap.size+2,2,none⟩ (.slice a9 1 c9)=w12 at *
 clear x2 fz2
 have BR:BT w12 w.heap.size #[.slice none 0 0,.slice none 0 0,.slice none 0 0,.slice none 0 0,.int .i64 0] 28:=H12.out.res
 have y0_:w12.cell? ⟨w.heap.size+2,0,none⟩=some (.slice (some ⟨w.heap.size+1,0,none⟩) 2 2):=H12.out.box.blk.cell (i:=0) rfl
 have y1_:w12.cell? ⟨w.heap.size+2,1,none⟩=some (.slice a8 1 c8):=H12.out.box.blk.cell (i:=1) rfl
 have y2_:w12.cell? ⟨w.heap.size+2,2,none⟩=some (.slice a9 1 c9):=H12.out.box.blk.cell (i:=2) rfl
 have y3_:w12.cell? ⟨w.heap.size+2,3,none⟩=some (.slice none 0 0):=H12.out.box.blk.cell (i:=3) rfl
 have y4_:w12.cell? ⟨w.heap.size+2,4,none⟩=some (.int .i64 1048576):=H12.out.box.blk.cell (i:=4) rfl
 have x0:=BR.blk.cell (i:=0) rfl
 have fz0:=BR.blk.frozen 0
 have x1:=BR.blk.cell (i:=1) rfl
 have fz1:=BR.blk.frozen 1
 have x2:=BR.blk.cell (i:=2) rfl
 have fz2:=BR.blk.frozen 2
 have x3:=BR.blk.cell (i:=3) rfl
 have fz3:=BR.blk.frozen 3
 have x4:=BR.blk.cell (i:=4) rfl
 have fz4:=BR.blk.frozen 4
 have BS:=set5 (a0:=.slice (some ⟨w.heap.size+1,0,none⟩) 2 2) (a1:=.slice a8 1 c8) (a2:=.slice a9 1 c9) (a3:=.slice none 0 0) (a4:=.int .i64 1048576) BR
 have P0:=mh (BS.blk.cell (i:=0) rfl)
 have P1:=mh (BS.blk.cell (i:=1) rfl)
 have P2:=mh (BS.blk.cell (i:=2) rfl)
 have P3:=mh (BS.blk.cell (i:=3) rfl)
 have P4:Hid (_=some (Value.int .i64 1048576)):=BS.blk.cell (i:=4) rfl
 have HCF:Hid (Chg (λx=>x=w.heap.size) w12 (((((w12.setCell ⟨w.heap.size,0,none⟩ (.slice (some ⟨w.heap.size+1,0,none⟩) 2 2)).setCell ⟨w.heap.size,1,none⟩ (.slice a8 1 c8)).setCell ⟨w.heap.size,2,none⟩ (.slice a9 1 c9)).setCell ⟨w.heap.size,3,none⟩ (.slice none 0 0)).setCell ⟨w.heap.size,4,none⟩ (.int .i64 1048576))):=chg5
 clear BS
 have HBR:=mh BR
 clear BR
 go_wp2
 generalize hWF:(((((w12.setCell ⟨w.heap.size,0,none⟩ (.slice (some ⟨w.heap.size+1,0,none⟩) 2 2)).setCell ⟨w.heap.size,1,none⟩ (.slice a8 1 c8)).setCell ⟨w.heap.size,2,none⟩ (.slice a9 1 c9)).setCell ⟨w.heap.size,3,none⟩ (.slice none 0 0)).setCell ⟨w.heap.size,4,none⟩ (.int .i64 1048576))=wF at P0 P1 P2 P3 P4 HCF ⊢
 have p0_:=P0.out
 have p1_:=P1.out
 have p2_:=P2.out
 have p3_:=P3.out
 have p4_:=P4.out
 refine bodyPost_ret (v:=.agg #[.slice (some ⟨w.heap.size+1,0,none⟩) 2 2,.slice a8 1 c8,.slice a9 1 c9,.slice none 0 0,.int .i64 1048576]) (by simp[results,Tryz.results49,go_sem,p0_,p1_,p2_,p3_,p4_]) rfl ?_
 have hO:=H12.out.net.turnBox HBR.out (by decide) (λe=>absurd e (by decide)) HCF.out
 have hX:Nx w wF:=Below.trans H12.out.nx (HCF.out.below H12.out.nx.size (λx hx=>by have hx':x=w.heap.size:=hx;omega))
 rw[HLN.out]
 exact⟨⟨_,_,_,_,rfl,_,_,_,hO⟩,hX⟩
theorem l1LimitAt_four (over:Nat)(w:World)(ho:over<=1) :
  Calls Tryz.prog 49 #[.int .i64 4,.int .i64 (over:Int)] w λe w'=>(∃v0 v1 v2 v3,e=.returned (.agg #[v0,v1,v2,v3,.int .i64 1048576])/\∃vn vw vr,ONt (w.heap.size+1) w' v0 v1 v2 v3 (Yy 4 over) vn vw vr)/\Nx w w':=by
 have HLN:Hid (Yy 4 over=nW (lmWs [lmW 3 true 0 1 1 5]) [⟨1048576,true,3,3,false,0,(Jd (λ_=>(3:Int)) (4+over))⟩]):=rfl
 have hmx:Tryz.prog.follows .mixedOrders=true:=by kernel_rfl
 go_enter Tryz.func49,Tryz.ntmps49
 go_upto_region 2 with fail
 generalize hWA:((w.alloc (.cells #[.slice none 0 0,.slice none 0 0,.slice none 0 0,.slice none 0 0,.int .i64 0] 28)).alloc (.cells #[.int .i64 0,.int .i64 1] 2)).alloc (.cells #[.slice (some ⟨w.heap.size+1,0,none⟩) 2 2,.slice none 0 0,.slice none 0 0,.slice none 0 0,.int .i64 1048576] 28)=wA
 obtain⟨vn,hvn⟩:∃v:Nat->Value,v=λ_=>.slice none 0 0:=⟨_,rfl⟩
 obtain⟨vw,hvw⟩:∃v:Nat->Value,v=λ_=>.slice none 0 0:=⟨_,rfl⟩
 obtain⟨vr,hvr⟩:∃v:Nat->Value,v=λ_=>.slice none 0 0:=⟨_,rfl⟩
 have HA:Hid (NBx w wA (.slice (some ⟨w.heap.size+1,0,none⟩) 2 2) (.slice none 0 0) (.slice none 0 0) (.slice none 0 0) lm0 vn vw vr):=by
  unfold Hid
  rw[<-hWA]
  refine⟨(Qc _ _).trans ((Qc _ _).trans (Qc _ _)),((BT.new w _ _ _ rfl).alloc _).alloc _,BT.new _ _ _ _ (by rw[Q1,Q1]),⟨?_,⟨rfl,Or.inl ⟨rfl,rfl⟩⟩,λi hi=>absurd hi (Nat.not_lt_zero _),λi hi=>absurd hi (Nat.not_lt_zero _),⟨rfl,Or.inl ⟨rfl,rfl⟩⟩,λi hi=>absurd hi (Nat.not_lt_zero _),⟨rfl,Or.inl ⟨rfl,rfl⟩⟩,List.pairwise_singleton _ _⟩⟩
  refine⟨rfl,Or.inr ⟨w.heap.size+1,2,#[.int .i64 0,.int .i64 1],rfl,Nat.le_refl _,?_,Nat.le_refl _,by simp[maxLen],rfl,rfl⟩⟩
  exact(BT.new _ _ _ _ (by rw[Q1])).alloc _
 clear hWA hvn hvw hvr
 go_upto_region 5 with fail
 have HD:=mh (HA.out.next (show Nx wA wA.drew from(Below.refl _ _).drew))
 have HSS:=mh (HD.out.box.blk.cell (i:=1) rfl)
 refine(wpIn_wide (n:=9)).1 ?_
 refine Q9 (c:=6) (S:=λq=>q.cell? ⟨w.heap.size+2,1,none⟩=some (.slice none 0 0)) hmx (by kernel_rfl) (λhw hcl=>?_)
 generalize wA.drew=wd at *
 refine tq (i:=0) (v:=.pointer (some ⟨w.heap.size+2,1,none⟩)) (λhcl=>?_)
 refine tq (i:=1) (v:=.slice none 0 0) (λhcl=>?_)
 refine Qg (i:=2) (by kernel_rfl) hcl (λhcl=>wpOpIn_step rfl (λK hK=>?_))
 go_simp
 refine⟨trivial,(callsIn_wide.2 (Vo 3 0 1 5 true 1 _ (by omega))).mono ?_⟩
 rintro e7 w7 ⟨va,vb,rfl,hva,hvb,hab,hx7⟩
 obtain⟨aa,ca,rfl⟩:=Q2 hva
 obtain⟨ab,cb,rfl⟩:=Q2 hvb
 have HQ:=mh (HD.out.next hx7)
 have HVA:=mh hva
 have HVB:=mh hvb
 have HAB:=mh hab
 have HIZ:Hid (∀u∈Js lm0 (.slice (some ⟨w.heap.size+1,0,none⟩) 2 2) vn vw vr,∀y,u.ownBlock=some y->y<wd.heap.size):=Vs HD.out.net
 have HSS:=mh (HQ.out.box.blk.cell (i:=1) rfl)
 refine hK _ _ ⟨Or.inr HSS.out,?_⟩
 clear hK K hva hvb hab
 refine Qg (i:=3) (by kernel_rfl) hcl (λhcl=>wpOpIn_step rfl (λK hK=>?_))
 go_simp
 refine hK _ _ ⟨Or.inr (Q3 (Qc _ _) HSS.out),?_⟩
 clear hK K
 refine Qg (i:=4) (by kernel_rfl) hcl (λhcl=>wpOpIn_step rfl (λK hK=>?_))
 have HROW:Hid (w7.ownsRow (w.heap.size+1) 47 4 (.slice none 0 0) 0 (Vb ([]:List Wy) vn vw)):=by
  have h:=HQ.out.net.ways
  unfold Z1 at h
  replace h:w7.ownsRow (w.heap.size+1) 47 4 (.slice none 0 0) (([]:List Wy)).length (Vb ([]:List Wy) vn vw):=h
  rw[(show([]:List Wy).length=0 from rfl)] at h
  exact h
 have hz7:w.heap.size+1<=w7.heap.size:=by have h1:=HQ.out.box.lt;omega
 refine Xb Zh Tryz.underlying24 rfl (by decide) (by decide) rfl (.tmp 34) (.tmp 36) rfl (w.heap.size+1) 0 (.slice none 0 0) (Vb ([]:List Wy) vn vw) [.int .i64 3,.bool true,.slice aa _ ca,.slice ab _ cb] w7 _ rfl (by simp[Act.eval]) HROW.out (by simp[Act.eval]) rfl (by intro u hu;simp at hu;rcases hu with rfl|rfl|rfl|rfl<;>rfl) (by omega) hz7 ?_
 intro a8 c8 w8 r1 r2 r3
 have G8:=mh (HQ.out.grown HROW.out (by decide) r2)
 have N8:=mh (HQ.out.net.addWay rfl (z:=wd.heap.size) HIZ.out (x:=lmW 3 true 0 1 1 5) (va:=.slice aa _ ca) (vb:=.slice ab _ cb) (by show w8.ownsRow _ _ 4 _ ((([]:List Wy)).length+1) _;rw[(show([]:List Wy).length=0 from rfl)];exact r1) r2 HVA.out HVB.out (by have h1:=HD.out.box.lt;omega) HAB.out)
 have HSS:=mh (G8.out.2.2.blk.cell (i:=1) rfl)
 refine hK _ _ ⟨Or.inr HSS.out,?_⟩
 clear hK K r1 r2 r3
 refine Qg (i:=5) (by kernel_rfl) hcl (λhcl=>wpOpIn_step rfl (λK hK=>?_))
 go_simp
 refine hK _ _ ⟨Or.inr HSS.out,?_⟩
 clear hK K
 have x1:=G8.out.2.2.blk.cell (i:=1) rfl
 have fz1:=G8.out.2.2.blk.frozen 1
 refine Q5 (i:=6) (by kernel_rfl) (wpOpIn_step rfl (λK hK=>?_))
 go_simp
 refine hK _ _ ⟨Or.inl (by decide),?_⟩
 clear hK K
 refine Qj (by kernel_rfl) ?_ _
 have H9:=mh (NBx.lay 1 (.slice a8 (0+1) c8) G8.out N8.out rfl)
 clear x1 fz1 hw hcl HSS G8 N8 HQ HVA HVB HAB HROW HIZ HD
 generalize w8.setCell ⟨w.heap.size+2,1,none⟩ (.slice a8 (0+1) c8)=w9 at *
 have HIZ:Hid (∀u∈Js (lmWs [lmW 3 true 0 1 1 5]) (.slice (some ⟨w.heap.size+1,0,none⟩) 2 2) (upd vn 0 _) (upd vw 0 _) vr,∀y,u.ownBlock=some y->y<w9.heap.size):=Vs H9.out.net
 generalize hvn:upd vn 0 _=vn' at HIZ
 generalize hvw:upd vw 0 _=vw' at HIZ
 replace H9:Hid (NBx w w9 (.slice (some ⟨w.heap.size+1,0,none⟩) 2 2) (.slice a8 1 c8) (.slice none 0 0) (.slice none 0 0) (lmWs [lmW 3 true 0 1 1 5]) vn' vw' vr):=by rw[<-hvn,<-hvw];exact H9
 clear hvn hvw
 have HZ9:Hid (w.heap.size+3<=w9.heap.size):=by have:=H9.out.box.lt;unfold Hid;omega
 go_upto_region 7 with fail
 generalize hWB:w9.alloc (.cells #[.int .i64 1048576,.bool true,.int .i64 3,.int .i64 3,.bool false,.int .i64 0,.slice none 0 0] 41)=w10
 have HB:Hid (BT w10 w9.heap.size #[.int .i64 1048576,.bool true,.int .i64 3,.int .i64 3,.bool false,.int .i64 0,.slice none 0 0] 41):=by unfold Hid;rw[<-hWB];exact BT.new _ _ _ _ rfl
 have H10:=mh (H9.out.next (Qc w9 (.cells #[.int .i64 1048576,.bool true,.int .i64 3,.int .i64 3,.bool false,.int .i64 0,.slice none 0 0] 41)))
 rw[hWB] at H10
 clear hWB H9
 generalize w9.heap.size=g at *
 go_wp2
 go_loopw [7] (λs7 wr=>∃(n:Nat),n<=4+over/\s7=.int .i64 (n:Int)/\Hid (∃(c:Nat) (a:Option Addr),NBx w wr (.slice (some ⟨w.heap.size+1,0,none⟩) 2 2) (.slice a8 1 c8) (.slice none 0 0) (.slice none 0 0) (lmWs [lmW 3 true 0 1 1 5]) vn' vw' vr/\BT wr g #[.int .i64 1048576,.bool true,.int .i64 3,.int .i64 3,.bool false,.int .i64 0,.slice a n c] 41/\Q6 g wr (.slice a n c) (Jd (λ_=>(3:Int)) n))) (λi _=>4+over-(intOf i).toNat)
 case atStart=>exact⟨0,Nat.zero_le _,rfl,⟨0,none,H10.out,HB.out,⟨rfl,Or.inl ⟨rfl,rfl⟩⟩⟩⟩
 clear H10 HB
 obtain⟨n,hn,rfl,hN⟩:=hrel
 obtain⟨c,a,hN,hB,hO⟩:=hN.out
 have Hn:=mh hN
 have HB:=mh hB
 have HO:=mh hO
 clear hN hB hO
 by_cases hlt:n<4+over
 ·have hlt':(n:Int)<4+(over:Int):=by omega
  have x6:wr.cell? ⟨g,6,none⟩=some (.slice a n c):=HB.out.blk.cell (i:=6) rfl
  have hz:g<=wr.heap.size:=Nat.le_of_lt HB.out.lt
  have HLE:Hid (((Jd (λ_=>(3:Int)) n)).length=n):=V7 _ n
  go_wp2_with (at_builtin;refine Ze rfl _ _ rfl g n (.slice a n c) (Jd (λ_=>(3:Int)) n) 3 wr rfl HO.out rfl HLE.out (by omega) hz ?_)
  intro a9 c9 w8 r1 r2 r3
  have H8:=mh (Hn.out.farRow HIZ.out HO.out (by have:=HZ9.out;omega) r2)
  have B8:=mh (HB.out.row HO.out (by decide) r2)
  have H11:=mh (H8.out.farBox B8.out HZ9.out rfl 6 (.slice a9 (n+1) c9))
  have B11:Hid (BT (w8.setCell ⟨g,6,none⟩ (.slice a9 (n+1) c9)) g #[.int .i64 1048576,.bool true,.int .i64 3,.int .i64 3,.bool false,.int .i64 0,.slice a9 (n+1) c9] 41):=B8.out.set 6 _
  have O11:Hid (Q6 g (w8.setCell ⟨g,6,none⟩ (.slice a9 (n+1) c9)) (.slice a9 (n+1) c9) (Jd (λ_=>(3:Int)) (n+1))):=Q7 r1 B8.out (by decide) _ _
  clear x6
  have x6:w8.cell? ⟨g,6,none⟩=some (.slice a n c):=B8.out.blk.cell (i:=6) rfl
  have fz6:=B8.out.blk.frozen 6
  clear r1 r2 r3 H8 B8
  go_wp2
  go_roundw
  case rel=>exact⟨n+1,by omega,by go_num,⟨c9,a9,H11.out,B11.out,O11.out⟩⟩
  case measure=>simp[intOf];omega
 have hnn:n=4+over:=by omega
 have hge:¬(n:Int)<4+(over:Int):=by omega
 rw[<-hnn] at HLN
 clear hnn hlt
 have yy0:wr.cell? ⟨g,0,none⟩=some (.int .i64 1048576):=HB.out.blk.cell (i:=0) rfl
 have yy1:wr.cell? ⟨g,1,none⟩=some (.bool true):=HB.out.blk.cell (i:=1) rfl
 have yy2:wr.cell? ⟨g,2,none⟩=some (.int .i64 3):=HB.out.blk.cell (i:=2) rfl
 have yy3:wr.cell? ⟨g,3,none⟩=some (.int .i64 3):=HB.out.blk.cell (i:=3) rfl
 have yy4:wr.cell? ⟨g,4,none⟩=some (.bool false):=HB.out.blk.cell (i:=4) rfl
 have yy5:wr.cell? ⟨g,5,none⟩=some (.int .i64 0):=HB.out.blk.cell (i:=5) rfl
 have yy6:wr.cell? ⟨g,6,none⟩=some (.slice a n c):=HB.out.blk.cell (i:=6) rfl
 have n2:wr.cell? ⟨w.heap.size+2,2,none⟩=some (.slice none 0 0):=Hn.out.box.blk.cell (i:=2) rfl
 have hz:w.heap.size+1<=wr.heap.size:=by have:=Hn.out.box.lt;omega
 have HROW:=mh Hn.out.net.rels
 go_wp2_with (at_builtin;refine Yw infoRelE Tryz.underlying25 rfl (by decide) (by decide) rfl _ _ rfl (w.heap.size+1) 0 (.slice none 0 0) (rrow [] vr) [.int .i64 1048576,.bool true,.int .i64 3,.int .i64 3,.bool false,.int .i64 0,.slice a n c] wr rfl HROW.out rfl rfl (by intro u hu;simp at hu;rcases hu with rfl|rfl|rfl|rfl|rfl|rfl|rfl<;>rfl) (by omega) hz ?_)
 intro a9 c9 w8 r1 r2 r3
 have G8:=mh (Hn.out.grown HROW.out (by decide) r2)
 have N8:=mh (Hn.out.net.addRel (z:=g) HIZ.out (x:=(⟨1048576,true,3,3,false,0,(Jd (λ_=>(3:Int)) n)⟩:Rl)) (va:=.slice a n c) r1 r2 HO.out (by have:=HZ9.out;omega))
 have H12:=mh (NBx.lay 2 (.slice a9 1 c9) G8.out N8.out rfl)
 have x2:w8.cell? ⟨w.heap.size+2,2,none⟩=some (.slice none 0 0):=G8.out.2.2.blk.cell (i:=2) rfl
 have fz2:=G8.out.2.2.blk.frozen 2
 clear r1 r2 r3 n2 G8 N8 HROW yy0 yy1 yy2 yy3 yy4 yy5 yy6 HB HO
 go_upto_region 12 with fail
 generalize w8.setCell ⟨w.heap.size+2,2,none⟩ (.slice a9 1 c9)=w12 at *
 clear x2 fz2
 have BR:BT w12 w.heap.size #[.slice none 0 0,.slice none 0 0,.slice none 0 0,.slice none 0 0,.int .i64 0] 28:=H12.out.res
 have y0_:w12.cell? ⟨w.heap.size+2,0,none⟩=some (.slice (some ⟨w.heap.size+1,0,none⟩) 2 2):=H12.out.box.blk.cell (i:=0) rfl
 have y1_:w12.cell? ⟨w.heap.size+2,1,none⟩=some (.slice a8 1 c8):=H12.out.box.blk.cell (i:=1) rfl
 have y2_:w12.cell? ⟨w.heap.size+2,2,none⟩=some (.slice a9 1 c9):=H12.out.box.blk.cell (i:=2) rfl
 have y3_:w12.cell? ⟨w.heap.size+2,3,none⟩=some (.slice none 0 0):=H12.out.box.blk.cell (i:=3) rfl
 have y4_:w12.cell? ⟨w.heap.size+2,4,none⟩=some (.int .i64 1048576):=H12.out.box.blk.cell (i:=4) rfl
 have x0:=BR.blk.cell (i:=0) rfl
 have fz0:=BR.blk.frozen 0
 have x1:=BR.blk.cell (i:=1) rfl
 have fz1:=BR.blk.frozen 1
 have x2:=BR.blk.cell (i:=2) rfl
 have fz2:=BR.blk.frozen 2
 have x3:=BR.blk.cell (i:=3) rfl
 have fz3:=BR.blk.frozen 3
 have x4:=BR.blk.cell (i:=4) rfl
 have fz4:=BR.blk.frozen 4
 have BS:=set5 (a0:=.slice (some ⟨w.heap.size+1,0,none⟩) 2 2) (a1:=.slice a8 1 c8) (a2:=.slice a9 1 c9) (a3:=.slice none 0 0) (a4:=.int .i64 1048576) BR
 have P0:=mh (BS.blk.cell (i:=0) rfl)
 have P1:=mh (BS.blk.cell (i:=1) rfl)
 have P2:=mh (BS.blk.cell (i:=2) rfl)
 have P3:=mh (BS.blk.cell (i:=3) rfl)
 have P4:Hid (_=some (Value.int .i64 1048576)):=BS.blk.cell (i:=4) rfl
 have HCF:Hid (Chg (λx=>x=w.heap.size) w12 (((((w12.setCell ⟨w.heap.size,0,none⟩ (.slice (some ⟨w.heap.size+1,0,none⟩) 2 2)).setCell ⟨w.heap.size,1,none⟩ (.slice a8 1 c8)).setCell ⟨w.heap.size,2,none⟩ (.slice a9 1 c9)).setCell ⟨w.heap.size,3,none⟩ (.slice none 0 0)).setCell ⟨w.heap.size,4,none⟩ (.int .i64 1048576))):=chg5
 clear BS
 have HBR:=mh BR
 clear BR
 go_wp2
 generalize hWF:(((((w12.setCell ⟨w.heap.size,0,none⟩ (.slice (some ⟨w.heap.size+1,0,none⟩) 2 2)).setCell ⟨w.heap.size,1,none⟩ (.slice a8 1 c8)).setCell ⟨w.heap.size,2,none⟩ (.slice a9 1 c9)).setCell ⟨w.heap.size,3,none⟩ (.slice none 0 0)).setCell ⟨w.heap.size,4,none⟩ (.int .i64 1048576))=wF at P0 P1 P2 P3 P4 HCF ⊢
 have p0_:=P0.out
 have p1_:=P1.out
 have p2_:=P2.out
 have p3_:=P3.out
 have p4_:=P4.out
 refine bodyPost_ret (v:=.agg #[.slice (some ⟨w.heap.size+1,0,none⟩) 2 2,.slice a8 1 c8,.slice a9 1 c9,.slice none 0 0,.int .i64 1048576]) (by simp[results,Tryz.results49,go_sem,p0_,p1_,p2_,p3_,p4_]) rfl ?_
 have hO:=H12.out.net.turnBox HBR.out (by decide) (λe=>absurd e (by decide)) HCF.out
 have hX:Nx w wF:=Below.trans H12.out.nx (HCF.out.below H12.out.nx.size (λx hx=>by have hx':x=w.heap.size:=hx;omega))
 rw[HLN.out]
 exact⟨⟨_,_,_,_,rfl,_,_,_,hO⟩,hX⟩
theorem Z7 {C C' t sz n:Nat}{w:World}{v:Value}{xs:List Value}(h:w.ownsRow C t sz v n xs)(hC:C'<=C):w.ownsRow C' t sz v n xs:=by
 obtain⟨h1,h2⟩:=h
 refine⟨h1,?_⟩
 rcases h2 with h2|⟨g,cap,cur,hv,hg,r⟩
 ·exact Or.inl h2
 ·exact Or.inr ⟨g,cap,cur,hv,Nat.le_trans hC hg,r⟩
theorem ONt.base {C C':Nat}{w:World}{v0 v1 v2 v3:Value}{N:Nt}{vn vw vr:Nat->Value}(h:ONt C w v0 v1 v2 v3 N vn vw vr)(hC:C'<=C):ONt C' w v0 v1 v2 v3 N vn vw vr:=
 ⟨Z7 h.nodes hC,Z7 h.ways hC,λi hi=>Z7 (h.wn i hi) hC,λi hi=>Z7 (h.ww i hi) hC,Z7 h.rels hC,λi hi=>Z7 (h.rw_ i hi) hC,Z7 h.turns hC,h.apart⟩
theorem limN_uturn (k:Int)(over:Nat):(Yy k over).uturn=1048576:=by
 unfold Yy
 split
 ·rfl
 ·split
  ·rfl
  ·split
   ·rfl
   ·split
    ·rfl
    ·split
     ·rfl
     ·split<;>rfl
theorem l1LimitAt_any (k:Int)(over:Nat)(w:World)(hk:0<=k/\k<9)(ho:over<=1) :
  Calls Tryz.prog 49 #[.int .i64 k,.int .i64 (over:Int)] w λe w'=>(∃v0 v1 v2 v3,e=.returned (.agg #[v0,v1,v2,v3,.int .i64 1048576])/\∃vn vw vr,ONt (w.heap.size+1) w' v0 v1 v2 v3 (Yy k over) vn vw vr)/\Nx w w':=by
 by_cases h3:k<3
 ·exact l1LimitAt_ways k over w ⟨hk.1,h3⟩ ho
 ·have hc:k=3\/k=4\/k=5\/k=6\/k=7\/k=8:=by omega
  rcases hc with rfl|rfl|rfl|rfl|rfl|rfl
  ·exact l1LimitAt_three over w ho
  ·exact l1LimitAt_four over w ho
  ·exact l1LimitAt_five over w ho
  ·exact l1LimitAt_six over w ho
  ·exact l1LimitAt_seven over w ho
  ·exact l1LimitAt_eight over w ho
def liNet (S:Src):Nt:=Yy (nv (ns S 2) 9) (nv S 2).toNat
def liS (S:Src):Src:=ns (ns S 2) 9
theorem l1Limit_any (D b:Nat)(S:Src)(w:World)(hS:Jg D w b S)(hok:SOk S) :
  Calls Tryz.prog 29 #[.pointer (some ⟨b,0,none⟩)] w λe w'=>(∃v0 v1 v2 v3,e=.returned (.agg #[v0,v1,v2,v3,.int .i64 (liNet S).uturn])/\∃vn vw vr,ONt (w.heap.size+1) w' v0 v1 v2 v3 (liNet S) vn vw vr)/\Jg D w' b (liS S)/\Chg (Sx1 b) w w':=by
 have HOK:Hid (SOk S):=hok
 have HOK1:Hid (SOk (ns S 2)):=Qm hok 2
 have HS0:Hid (Jg D w b S):=hS
 clear hS hok
 go_enter Tryz.func29,Tryz.ntmps29
 go_upto_region 1 with fail
 generalize hWA:w.alloc (.cells #[.slice none 0 0,.slice none 0 0,.slice none 0 0,.slice none 0 0,.int .i64 0] 28)=wA
 have HA:Hid (FR D b w wA S [(w.heap.size,#[.slice none 0 0,.slice none 0 0,.slice none 0 0,.slice none 0 0,.int .i64 0],28)]):=by
  unfold Hid
  rw[<-hWA]
  have k0:FR D b w w S []:=⟨Chg.nx (Nx.refl _),HS0.out,λp hp=>absurd hp (by simp),λp hp=>absurd hp (by simp),List.nodup_nil⟩
  exact k0.alloc #[.slice none 0 0,.slice none 0 0,.slice none 0 0,.slice none 0 0,.int .i64 0] 28 (by decide)
 clear hWA
 go_wp2_with fail
 refine(Qe D b S 2 wA HA.out.src HOK.out (by omega)).mono ?_
 rintro e w1 ⟨rfl,hs1,hc1⟩
 have H1:=mh (HA.out.drawn hs1 hc1)
 obtain⟨ov,hov⟩:∃i:Nat,nv S 2=i:=⟨(nv S 2).toNat,by have:=(Qu HOK.out 2).1;omega⟩
 have hov1:ov<=1:=by have:=(Qu HOK.out 2).2 (by omega);omega
 rw[hov]
 clear hs1 hc1 HA
 go_wp2_with fail
 refine(Qe D b (ns S 2) 9 w1 H1.out.src HOK1.out (by omega)).mono ?_
 rintro e w2 ⟨rfl,hs1,hc1⟩
 have H2:=mh (H1.out.drawn hs1 hc1)
 have hkv:=Qu HOK1.out 9
 have HLN:Hid (liNet S=Yy (nv (ns S 2) 9) ov):=by unfold Hid liNet;rw[hov,Int.toNat_natCast]
 have HLS:Hid (liS S=ns (ns S 2) 9):=rfl
 have hk9:0<=nv (ns S 2) 9/\nv (ns S 2) 9<9:=⟨hkv.1,hkv.2 (by omega)⟩
 generalize nv (ns S 2) 9=kk at *
 clear hs1 hc1 H1 hkv hov
 go_wp2_with fail
 refine(l1LimitAt_any kk ov w2 hk9 hov1).mono ?_
 rintro e w3 ⟨⟨v0,v1,v2,v3,rfl,vn,vw,vr,hO3⟩,hx3⟩
 have H3:=mh (H2.out.next hx3)
 have O3:=mh (hO3.base (show w.heap.size+1<=w2.heap.size+1 by have:=H2.out.chg.size;omega))
 obtain⟨a0,q0,e0⟩:=Q2 O3.out.nodes
 obtain⟨a1,q1,e1⟩:=Q2 O3.out.ways
 obtain⟨a2,q2,e2⟩:=Q2 O3.out.rels
 obtain⟨a3,q3,e3⟩:=Q2 O3.out.turns
 generalize (Yy kk ov).nodes.length=l0 at e0
 generalize (Yy kk ov).ways.length=l1 at e1
 generalize (Yy kk ov).rels.length=l2 at e2
 generalize (Yy kk ov).turns.length=l3 at e3
 subst e0 e1 e2 e3
 have HUT:Hid ((liNet S).uturn=1048576):=by unfold Hid;rw[HLN.out];exact limN_uturn _ _
 clear hO3 hx3 H2
 have BR:BT w3 w.heap.size #[.slice none 0 0,.slice none 0 0,.slice none 0 0,.slice none 0 0,.int .i64 0] 28:=H3.out.at 0 rfl
 have x0:=BR.blk.cell (i:=0) rfl
 have fz0:=BR.blk.frozen 0
 have x1:=BR.blk.cell (i:=1) rfl
 have fz1:=BR.blk.frozen 1
 have x2:=BR.blk.cell (i:=2) rfl
 have fz2:=BR.blk.frozen 2
 have x3:=BR.blk.cell (i:=3) rfl
 have fz3:=BR.blk.frozen 3
 have x4:=BR.blk.cell (i:=4) rfl
 have fz4:=BR.blk.frozen 4
 have BS:=set5 (a0:=.slice a0 l0 q0) (a1:=.slice a1 l1 q1) (a2:=.slice a2 l2 q2) (a3:=.slice a3 l3 q3) (a4:=.int .i64 1048576) BR
 have P0:Hid (_=some (Value.slice a0 l0 q0)):=BS.blk.cell (i:=0) rfl
 have P1:Hid (_=some (Value.slice a1 l1 q1)):=BS.blk.cell (i:=1) rfl
 have P2:Hid (_=some (Value.slice a2 l2 q2)):=BS.blk.cell (i:=2) rfl
 have P3:Hid (_=some (Value.slice a3 l3 q3)):=BS.blk.cell (i:=3) rfl
 have P4:Hid (_=some (Value.int .i64 1048576)):=BS.blk.cell (i:=4) rfl
 have HCF:Hid (Chg (λx=>x=w.heap.size) w3 (((((w3.setCell ⟨w.heap.size,0,none⟩ (.slice a0 l0 q0)).setCell ⟨w.heap.size,1,none⟩ (.slice a1 l1 q1)).setCell ⟨w.heap.size,2,none⟩ (.slice a2 l2 q2)).setCell ⟨w.heap.size,3,none⟩ (.slice a3 l3 q3)).setCell ⟨w.heap.size,4,none⟩ (.int .i64 1048576))):=chg5
 have HBS:=mh BS
 clear BS BR
 go_wp2
 generalize hWF:(((((w3.setCell ⟨w.heap.size,0,none⟩ (.slice a0 l0 q0)).setCell ⟨w.heap.size,1,none⟩ (.slice a1 l1 q1)).setCell ⟨w.heap.size,2,none⟩ (.slice a2 l2 q2)).setCell ⟨w.heap.size,3,none⟩ (.slice a3 l3 q3)).setCell ⟨w.heap.size,4,none⟩ (.int .i64 1048576))=wF at P0 P1 P2 P3 P4 HBS HCF ⊢
 have p0_:=P0.out
 have p1_:=P1.out
 have p2_:=P2.out
 have p3_:=P3.out
 have p4_:=P4.out
 refine bodyPost_ret (v:=.agg #[.slice a0 l0 q0,.slice a1 l1 q1,.slice a2 l2 q2,.slice a3 l3 q3,.int .i64 1048576]) (by simp[results,Tryz.results29,go_sem,p0_,p1_,p2_,p3_,p4_]) rfl ?_
 have hF:=H3.out.turn 0 rfl HCF.out HBS.out
 have hO:=O3.out.turnBox (show BT w3 w.heap.size #[.slice none 0 0,.slice none 0 0,.slice none 0 0,.slice none 0 0,.int .i64 0] 28 from H3.out.at 0 rfl) (by decide) (λe=>absurd e (by decide)) HCF.out
 rw[HUT.out,HLN.out,HLS.out]
 exact⟨⟨_,_,_,_,rfl,_,_,_,hO⟩,hF.src,hF.chg⟩
end Go.Proofs.YthhbdfiopjclcaaGreatDoor
