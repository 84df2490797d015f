import Derived.Test.YtmmolhlihhdkcaaGreatDoorBDU
namespace Go.Proofs.YtmmolhlihhdkcaaGreatDoor
open Go.RowKit Go.Sort
set_option linter.unusedVariables false
set_option maxRecDepth 1000000
set_option maxHeartbeats 16000000
section
variable {w0 w w':World}{v0 v1 v2 v3:Value}{N:Nt}{vn vw vr:Nat->Value}
theorem NBx.farRow (h:NBx w0 w v0 v1 v2 v3 N vn vw vr){z:Nat}(hz:∀u∈Ja N v0 vn vw vr,∀g,u.ownBlock=some g->g<z){v:Value}{zs:List Int}(hr:Qb z w v zs)(hC:w0.heap.size+1<=z)(hc:Chg (λx=>some x=v.ownBlock) w w'):NBx w0 w' v0 v1 v2 v3 N vn vw vr:=by
 have far:∀{u:Value}{us:List Int},u∈Ja N v0 vn vw vr->Qb (w0.heap.size+1) w u us->Qb (w0.heap.size+1) w' u us:=λhu ho=>Yw ho (λg hg e=>by
  have h1:=hz _ hu g e
  have h2:=(Ql hr g hg).1
  omega) hc
 have m1:∀i,i<N.ways.length->vn i∈Ja N v0 vn vw vr/\vw i∈Ja N v0 vn vw vr:=λi hi=>⟨List.mem_append_left _ (List.mem_cons_of_mem _ (Uu (vn:=vn) (vw:=vw) hi).1),List.mem_append_left _ (List.mem_cons_of_mem _ (Uu (vn:=vn) (vw:=vw) hi).2)⟩
 have m2:∀i,i<N.rels.length->vr i∈Ja N v0 vn vw vr:=λi hi=>List.mem_append_right _ (List.mem_map.2 ⟨i,List.mem_range.2 hi,rfl⟩)
 have n:=h.net
 exact⟨Below.trans h.nx (hc.below h.nx.size (λx hx=>by have:=(Ql hr x hx.symm).1;omega)),h.res.row hr (by decide) hc,h.box.row hr (by decide) hc,⟨far (List.mem_append_left _ (List.mem_cons_self ..)) n.nodes,Q4 n.ways hr (by decide) hc,λi hi=>far (m1 i hi).1 (n.wn i hi),λi hi=>far (m1 i hi).2 (n.ww i hi),Q4 n.rels hr (by decide) hc,λi hi=>far (m2 i hi) (n.rw_ i hi),Q4 n.turns hr (by decide) hc,n.apart⟩⟩
theorem NBx.farBox (h:NBx w0 w v0 v1 v2 v3 N vn vw vr){g:Nat}{cs:Array Value}(hb:BT w g cs 48)(hg:w0.heap.size+3<=g)(hv:v2=.slice none 0 0)(i:Nat)(v:Value):NBx w0 (w.setCell ⟨g,i,none⟩ v) v0 v1 v2 v3 N vn vw vr:=
 ⟨Below.setCell h.nx (show w0.heap.size<=g by omega) _,h.res.setOther (by omega) _ _,h.box.setOther (by omega) _ _,h.net.turnBox hb (by decide) (λ_=>by rw[hv];simp[Value.ownBlock]) (Chg.set _ _ _ rfl)⟩
end
theorem Ix (over:Nat)(w:World)(ho:over<=1) :
  Calls Tryz.prog 68 #[.int .i64 3,.int .i64 (over:Int)] w λe w'=>(∃v0 v1 v2 v3,e=.returned (.agg #[v0,v1,v2,v3,.int .i64 1048576])/\∃vn vw vr,ONt (w.heap.size+1) w' v0 v1 v2 v3 (Yi 3 over) vn vw vr)/\Nx w w':=by
 have HLN:Hid (Yi 3 over=nW (Z4 [lmW 3 true 0 1 1 5]) [⟨1048576,false,3,3,false,0,(J0 (λ_=>(3:Int)) (4+over))⟩]):=rfl
 have hmx:Tryz.prog.follows .mixedOrders=true:=by kernel_rfl
 go_enter Tryz.func68,Tryz.ntmps68
 go_upto_region 2 with fail
 generalize hWA:((w.alloc (.cells #[.slice none 0 0,.slice none 0 0,.slice none 0 0,.slice none 0 0,.int .i64 0] 28)).alloc (.cells #[.int .i64 0,.int .i64 1] 2)).alloc (.cells #[.slice (some ⟨w.heap.size+1,0,none⟩) 2 2,.slice none 0 0,.slice none 0 0,.slice none 0 0,.int .i64 1048576] 28)=wA
 obtain⟨vn,hvn⟩:∃v:Nat->Value,v=λ_=>.slice none 0 0:=⟨_,rfl⟩
 obtain⟨vw,hvw⟩:∃v:Nat->Value,v=λ_=>.slice none 0 0:=⟨_,rfl⟩
 obtain⟨vr,hvr⟩:∃v:Nat->Value,v=λ_=>.slice none 0 0:=⟨_,rfl⟩
 have HA:Hid (NBx w wA (.slice (some ⟨w.heap.size+1,0,none⟩) 2 2) (.slice none 0 0) (.slice none 0 0) (.slice none 0 0) lm0 vn vw vr):=by
  unfold Hid
  rw[<-hWA]
  refine⟨(Qd _ _).trans ((Qd _ _).trans (Qd _ _)),((BT.new w _ _ _ rfl).alloc _).alloc _,BT.new _ _ _ _ (by rw[Q7,Q7]),⟨?_,⟨rfl,Or.inl ⟨rfl,rfl⟩⟩,λi hi=>absurd hi (Nat.not_lt_zero _),λi hi=>absurd hi (Nat.not_lt_zero _),⟨rfl,Or.inl ⟨rfl,rfl⟩⟩,λi hi=>absurd hi (Nat.not_lt_zero _),⟨rfl,Or.inl ⟨rfl,rfl⟩⟩,List.pairwise_singleton _ _⟩⟩
  refine⟨rfl,Or.inr ⟨w.heap.size+1,2,#[.int .i64 0,.int .i64 1],rfl,Nat.le_refl _,?_,Nat.le_refl _,by simp[maxLen],rfl,rfl⟩⟩
  exact(BT.new _ _ _ _ (by rw[Q7])).alloc _
 clear hWA hvn hvw hvr
 go_upto_region 5 with fail
 have HD:=Q0 (HA.out.next (show Nx wA wA.drew from(Below.refl _ _).drew))
 have HSS:Hid ((λq=>q.cell? ⟨w.heap.size+2,1,none⟩=some (.slice none 0 0)) wA.drew):=HD.out.box.blk.cell (i:=1) rfl
 refine(wpIn_wide (n:=9)).1 ?_
 refine Q9 (c:=6) (S:=λq=>q.cell? ⟨w.heap.size+2,1,none⟩=some (.slice none 0 0)) hmx (by kernel_rfl) (λhw hcl=>?_)
 generalize wA.drew=wd at *
 refine tq (i:=0) (v:=.pointer (some ⟨w.heap.size+2,1,none⟩)) (λhcl=>?_)
 refine tq (i:=1) (v:=.slice none 0 0) (λhcl=>?_)
 refine Q5 (i:=2) (by kernel_rfl) hcl (λhcl=>wpOpIn_step rfl (λK hK=>?_))
 go_simp
 refine⟨trivial,(callsIn_wide.2 (Vf 3 0 1 5 true 1 _ (by omega))).mono ?_⟩
 rintro e7 w7 ⟨va,vb,rfl,hva,hvb,hab,hx7⟩
 obtain⟨aa,ca,rfl⟩:=Q3 hva
 obtain⟨ab,cb,rfl⟩:=Q3 hvb
 have HQ:=Q0 (HD.out.next hx7)
 have HVA:=Q0 hva
 have HVB:=Q0 hvb
 have HAB:=Q0 hab
 have HIZ:Hid (∀u∈Ja lm0 (.slice (some ⟨w.heap.size+1,0,none⟩) 2 2) vn vw vr,∀y,u.ownBlock=some y->y<wd.heap.size):=Vk HD.out.net
 have HSS:Hid ((λq=>q.cell? ⟨w.heap.size+2,1,none⟩=some (.slice none 0 0)) w7):=HQ.out.box.blk.cell (i:=1) rfl
 refine hK _ _ ⟨Or.inr HSS.out,?_⟩
 clear hK K hva hvb hab
 refine Q5 (i:=3) (by kernel_rfl) hcl (λhcl=>wpOpIn_step rfl (λK hK=>?_))
 go_simp
 refine hK _ _ ⟨Or.inr (Qf (Qd _ _) HSS.out),?_⟩
 clear hK K
 refine Q5 (i:=4) (by kernel_rfl) hcl (λhcl=>wpOpIn_step rfl (λK hK=>?_))
 have HROW:Hid (w7.ownsRow (w.heap.size+1) 45 4 (.slice none 0 0) 0 (V4 ([]:List Wy) vn vw)):=by
  have h:=HQ.out.net.ways
  unfold Yk at h
  replace h:w7.ownsRow (w.heap.size+1) 45 4 (.slice none 0 0) (([]:List Wy)).length (V4 ([]:List Wy) vn vw):=h
  rw[(show([]:List Wy).length=0 from rfl)] at h
  exact h
 have hz7:w.heap.size+1<=w7.heap.size:=by have h1:=HQ.out.box.lt;omega
 refine Jo Yc Tryz.underlying24 rfl (by decide) (by decide) rfl (.tmp 34) (.tmp 36) rfl (w.heap.size+1) 0 (.slice none 0 0) (V4 ([]:List Wy) vn vw) [.int .i64 3,.bool true,.slice aa _ ca,.slice ab _ cb] w7 _ rfl (by simp[Act.eval]) HROW.out (by simp[Act.eval]) rfl (by intro u hu;simp at hu;rcases hu with rfl|rfl|rfl|rfl<;>rfl) (by omega) hz7 ?_
 intro a8 c8 w8 r1 r2 r3
 have G8:=Q0 (HQ.out.grown HROW.out (by decide) r2)
 have N8:=Q0 (HQ.out.net.addWay rfl (z:=wd.heap.size) HIZ.out (x:=lmW 3 true 0 1 1 5) (va:=.slice aa _ ca) (vb:=.slice ab _ cb) (by show w8.ownsRow _ _ 4 _ ((([]:List Wy)).length+1) _;rw[(show([]:List Wy).length=0 from rfl)];exact r1) r2 HVA.out HVB.out (by have h1:=HD.out.box.lt;omega) HAB.out)
 have HSS:Hid ((λq=>q.cell? ⟨w.heap.size+2,1,none⟩=some (.slice none 0 0)) w8):=G8.out.2.2.blk.cell (i:=1) rfl
 refine hK _ _ ⟨Or.inr HSS.out,?_⟩
 clear hK K r1 r2 r3
 refine Q5 (i:=5) (by kernel_rfl) hcl (λhcl=>wpOpIn_step rfl (λK hK=>?_))
 go_simp
 refine hK _ _ ⟨Or.inr HSS.out,?_⟩
 clear hK K
 have x1:=G8.out.2.2.blk.cell (i:=1) rfl
 have fz1:=G8.out.2.2.blk.frozen 1
 refine Qk (i:=6) (by kernel_rfl) (wpOpIn_step rfl (λK hK=>?_))
 go_simp
 refine hK _ _ ⟨Or.inl (by decide),?_⟩
 clear hK K
 refine Qi (by kernel_rfl) ?_ _
 have H9:=Q0 (NBx.lay 1 (.slice a8 (0+1) c8) G8.out N8.out rfl)
 clear x1 fz1 hw hcl HSS G8 N8 HQ HVA HVB HAB HROW HIZ HD
 generalize w8.setCell ⟨w.heap.size+2,1,none⟩ (.slice a8 (0+1) c8)=w9 at *
 have HIZ:Hid (∀u∈Ja (Z4 [lmW 3 true 0 1 1 5]) (.slice (some ⟨w.heap.size+1,0,none⟩) 2 2) (upd vn 0 _) (upd vw 0 _) vr,∀y,u.ownBlock=some y->y<w9.heap.size):=Vk H9.out.net
 generalize hvn:upd vn 0 _=vn' at HIZ
 generalize hvw:upd vw 0 _=vw' at HIZ
 replace H9:Hid (NBx w w9 (.slice (some ⟨w.heap.size+1,0,none⟩) 2 2) (.slice a8 1 c8) (.slice none 0 0) (.slice none 0 0) (Z4 [lmW 3 true 0 1 1 5]) vn' vw' vr):=by rw[<-hvn,<-hvw];exact H9
 clear hvn hvw
 have HZ9:Hid (w.heap.size+3<=w9.heap.size):=by have:=H9.out.box.lt;unfold Hid;omega
 go_upto_region 7 with fail
 generalize hWB:w9.alloc (.cells #[.int .i64 1048576,.bool false,.int .i64 3,.int .i64 3,.bool false,.int .i64 0,.slice none 0 0] 48)=w10
 have HB:Hid (BT w10 w9.heap.size #[.int .i64 1048576,.bool false,.int .i64 3,.int .i64 3,.bool false,.int .i64 0,.slice none 0 0] 48):=by unfold Hid;rw[<-hWB];exact BT.new _ _ _ _ rfl
 have H10:=Q0 (H9.out.next (Qd w9 (.cells #[.int .i64 1048576,.bool false,.int .i64 3,.int .i64 3,.bool false,.int .i64 0,.slice none 0 0] 48)))
 rw[hWB] at H10
 clear hWB H9
 generalize w9.heap.size=g at *
 go_wp2
 go_loopw [7] (λs7 wr=>∃(n:Nat),n<=4+over/\s7=.int .i64 (n:Int)/\Hid (∃(c:Nat) (a:Option Addr),NBx w wr (.slice (some ⟨w.heap.size+1,0,none⟩) 2 2) (.slice a8 1 c8) (.slice none 0 0) (.slice none 0 0) (Z4 [lmW 3 true 0 1 1 5]) vn' vw' vr/\BT wr g #[.int .i64 1048576,.bool false,.int .i64 3,.int .i64 3,.bool false,.int .i64 0,.slice a n c] 48/\Qb g wr (.slice a n c) (J0 (λ_=>(3:Int)) n))) (λi _=>4+over-(intOf i).toNat)
 case atStart=>exact⟨0,Nat.zero_le _,rfl,⟨0,none,H10.out,HB.out,⟨rfl,Or.inl ⟨rfl,rfl⟩⟩⟩⟩
 clear H10 HB
 obtain⟨n,hn,rfl,hN⟩:=hrel
 obtain⟨c,a,hN,hB,hO⟩:=hN.out
 have Hn:=Q0 hN
 have HB:=Q0 hB
 have HO:=Q0 hO
 clear hN hB hO
 by_cases hlt:n<4+over
 ·have hlt':(n:Int)<4+(over:Int):=by omega
  have x6:wr.cell? ⟨g,6,none⟩=some (.slice a n c):=HB.out.blk.cell (i:=6) rfl
  have hz:g<=wr.heap.size:=Nat.le_of_lt HB.out.lt
  have HLE:Hid (((J0 (λ_=>(3:Int)) n)).length=n):=Jw _ n
  go_wp2_with (at_builtin;refine Xb rfl _ _ rfl g n (.slice a n c) (J0 (λ_=>(3:Int)) n) 3 wr rfl HO.out rfl HLE.out (by omega) hz ?_)
  intro a9 c9 w8 r1 r2 r3
  have H8:=Q0 (Hn.out.farRow HIZ.out HO.out (by have:=HZ9.out;omega) r2)
  have B8:=Q0 (HB.out.row HO.out (by decide) r2)
  have H11:=Q0 (H8.out.farBox B8.out HZ9.out rfl 6 (.slice a9 (n+1) c9))
  have B11:Hid (BT (w8.setCell ⟨g,6,none⟩ (.slice a9 (n+1) c9)) g #[.int .i64 1048576,.bool false,.int .i64 3,.int .i64 3,.bool false,.int .i64 0,.slice a9 (n+1) c9] 48):=B8.out.set 6 _
  have O11:Hid (Qb g (w8.setCell ⟨g,6,none⟩ (.slice a9 (n+1) c9)) (.slice a9 (n+1) c9) (J0 (λ_=>(3:Int)) (n+1))):=Q2 r1 B8.out (by decide) _ _
  clear x6
  have x6:w8.cell? ⟨g,6,none⟩=some (.slice a n c):=B8.out.blk.cell (i:=6) rfl
  have fz6:=B8.out.blk.frozen 6
  clear r1 r2 r3 H8 B8
  go_wp2
  go_roundw
  case rel=>exact⟨n+1,by omega,by go_num,⟨c9,a9,H11.out,B11.out,O11.out⟩⟩
  case measure=>simp[intOf];omega
 have hnn:n=4+over:=by omega
 have hge:¬(n:Int)<4+(over:Int):=by omega
 rw[<-hnn] at HLN
 clear hnn hlt
 have yy0:wr.cell? ⟨g,0,none⟩=some (.int .i64 1048576):=HB.out.blk.cell (i:=0) rfl
 have yy1:wr.cell? ⟨g,1,none⟩=some (.bool false):=HB.out.blk.cell (i:=1) rfl
 have yy2:wr.cell? ⟨g,2,none⟩=some (.int .i64 3):=HB.out.blk.cell (i:=2) rfl
 have yy3:wr.cell? ⟨g,3,none⟩=some (.int .i64 3):=HB.out.blk.cell (i:=3) rfl
 have yy4:wr.cell? ⟨g,4,none⟩=some (.bool false):=HB.out.blk.cell (i:=4) rfl
 have yy5:wr.cell? ⟨g,5,none⟩=some (.int .i64 0):=HB.out.blk.cell (i:=5) rfl
 have yy6:wr.cell? ⟨g,6,none⟩=some (.slice a n c):=HB.out.blk.cell (i:=6) rfl
 have n2:wr.cell? ⟨w.heap.size+2,2,none⟩=some (.slice none 0 0):=Hn.out.box.blk.cell (i:=2) rfl
 have hz:w.heap.size+1<=wr.heap.size:=by have:=Hn.out.box.lt;omega
 have HROW:Hid (wr.ownsRow (w.heap.size+1) 48 7 (.slice none 0 0) 0 (Zz [] vr)):=Hn.out.net.rels
 go_wp2_with (at_builtin;refine Xu Wu Tryz.underlying25 rfl (by decide) (by decide) rfl _ _ rfl (w.heap.size+1) 0 (.slice none 0 0) (Zz [] vr) [.int .i64 1048576,.bool false,.int .i64 3,.int .i64 3,.bool false,.int .i64 0,.slice a n c] wr rfl HROW.out rfl rfl (by intro u hu;simp at hu;rcases hu with rfl|rfl|rfl|rfl|rfl|rfl|rfl<;>rfl) (by omega) hz ?_)
 intro a9 c9 w8 r1 r2 r3
 have G8:=Q0 (Hn.out.grown HROW.out (by decide) r2)
 have N8:=Q0 (Hn.out.net.addRel (z:=g) HIZ.out (x:=(⟨1048576,false,3,3,false,0,(J0 (λ_=>(3:Int)) n)⟩:Rl)) (va:=.slice a n c) r1 r2 HO.out (by have:=HZ9.out;omega))
 have H12:Hid (NBx w (w8.setCell ⟨w.heap.size+2,2,none⟩ (.slice a9 1 c9)) (.slice (some ⟨w.heap.size+1,0,none⟩) 2 2) (.slice a8 1 c8) (.slice a9 1 c9) (.slice none 0 0) (nW (Z4 [lmW 3 true 0 1 1 5]) [(⟨1048576,false,3,3,false,0,(J0 (λ_=>(3:Int)) n)⟩:Rl)]) vn' vw' (upd vr 0 (.slice a n c))):=NBx.lay 2 (.slice a9 1 c9) G8.out N8.out rfl
 have x2:w8.cell? ⟨w.heap.size+2,2,none⟩=some (.slice none 0 0):=G8.out.2.2.blk.cell (i:=2) rfl
 have fz2:=G8.out.2.2.blk.frozen 2
 clear r1 r2 r3 n2 G8 N8 HROW yy0 yy1 yy2 yy3 yy4 yy5 yy6 HB HO
 go_upto_region 12 with fail
 generalize w8.setCell ⟨w.heap.size+2,2,none⟩ (.slice a9 1 c9)=w12 at *
 clear x2 fz2
 have BR:BT w12 w.heap.size #[.slice none 0 0,.slice none 0 0,.slice none 0 0,.slice none 0 0,.int .i64 0] 28:=H12.out.res
 have y0_:w12.cell? ⟨w.heap.size+2,0,none⟩=some (.slice (some ⟨w.heap.size+1,0,none⟩) 2 2):=H12.out.box.blk.cell (i:=0) rfl
 have y1_:w12.cell? ⟨w.heap.size+2,1,none⟩=some (.slice a8 1 c8):=H12.out.box.blk.cell (i:=1) rfl
 have y2_:w12.cell? ⟨w.heap.size+2,2,none⟩=some (.slice a9 1 c9):=H12.out.box.blk.cell (i:=2) rfl
 have y3_:w12.cell? ⟨w.heap.size+2,3,none⟩=some (.slice none 0 0):=H12.out.box.blk.cell (i:=3) rfl
 have y4_:w12.cell? ⟨w.heap.size+2,4,none⟩=some (.int .i64 1048576):=H12.out.box.blk.cell (i:=4) rfl
 have x0:=BR.blk.cell (i:=0) rfl
 have fz0:=BR.blk.frozen 0
 have x1:=BR.blk.cell (i:=1) rfl
 have fz1:=BR.blk.frozen 1
 have x2:=BR.blk.cell (i:=2) rfl
 have fz2:=BR.blk.frozen 2
 have x3:=BR.blk.cell (i:=3) rfl
 have fz3:=BR.blk.frozen 3
 have x4:=BR.blk.cell (i:=4) rfl
 have fz4:=BR.blk.frozen 4
 have BS:=Tl (a0:=.slice (some ⟨w.heap.size+1,0,none⟩) 2 2) (a1:=.slice a8 1 c8) (a2:=.slice a9 1 c9) (a3:=.slice none 0 0) (a4:=.int .i64 1048576) BR
 have P0:Hid (_=some (Value.slice (some ⟨w.heap.size+1,0,none⟩) 2 2)):=BS.blk.cell (i:=0) rfl
 have P1:Hid (_=some (Value.slice a8 1 c8)):=BS.blk.cell (i:=1) rfl
 have P2:Hid (_=some (Value.slice a9 1 c9)):=BS.blk.cell (i:=2) rfl
 have P3:Hid (_=some (Value.slice none 0 0)):=BS.blk.cell (i:=3) rfl
 have P4:Hid (_=some (Value.int .i64 1048576)):=BS.blk.cell (i:=4) rfl
 have HCF:Hid (Chg (λx=>x=w.heap.size) w12 (((((w12.setCell ⟨w.heap.size,0,none⟩ (.slice (some ⟨w.heap.size+1,0,none⟩) 2 2)).setCell ⟨w.heap.size,1,none⟩ (.slice a8 1 c8)).setCell ⟨w.heap.size,2,none⟩ (.slice a9 1 c9)).setCell ⟨w.heap.size,3,none⟩ (.slice none 0 0)).setCell ⟨w.heap.size,4,none⟩ (.int .i64 1048576))):=Ts
 clear BS
 have HBR:=Q0 BR
 clear BR
 go_wp2
 generalize hWF:(((((w12.setCell ⟨w.heap.size,0,none⟩ (.slice (some ⟨w.heap.size+1,0,none⟩) 2 2)).setCell ⟨w.heap.size,1,none⟩ (.slice a8 1 c8)).setCell ⟨w.heap.size,2,none⟩ (.slice a9 1 c9)).setCell ⟨w.heap.size,3,none⟩ (.slice none 0 0)).setCell ⟨w.heap.size,4,none⟩ (.int .i64 1048576))=wF at P0 P1 P2 P3 P4 HCF ⊢
 have p0_:=P0.out
 have p1_:=P1.out
 have p2_:=P2.out
 have p3_:=P3.out
 have p4_:=P4.out
 refine bodyPost_ret (v:=.agg #[.slice (some ⟨w.heap.size+1,0,none⟩) 2 2,.slice a8 1 c8,.slice a9 1 c9,.slice none 0 0,.int .i64 1048576]) (by simp[results,Tryz.results68,go_sem,p0_,p1_,p2_,p3_,p4_]) rfl ?_
 have hO:=H12.out.net.turnBox HBR.out (by decide) (λe=>absurd e (by decide)) HCF.out
 have hX:Nx w wF:=Below.trans H12.out.nx (HCF.out.below H12.out.nx.size (λx hx=>by have hx':x=w.heap.size:=hx;omega))
 rw[HLN.out]
 exact⟨⟨_,_,_,_,rfl,_,_,_,hO⟩,hX⟩
theorem Fg (over:Nat)(w:World)(ho:over<=1) :
  Calls Tryz.prog 68 #[.int .i64 4,.int .i64 (over:Int)] w λe w'=>(∃v0 v1 v2 v3,e=.returned (.agg #[v0,v1,v2,v3,.int .i64 1048576])/\∃vn vw vr,ONt (w.heap.size+1) w' v0 v1 v2 v3 (Yi 4 over) vn vw vr)/\Nx w w':=by
 have HLN:Hid (Yi 4 over=nW (Z4 [lmW 3 true 0 1 1 5]) [⟨1048576,true,3,3,false,0,(J0 (λ_=>(3:Int)) (4+over))⟩]):=rfl
 have hmx:Tryz.prog.follows .mixedOrders=true:=by kernel_rfl
 go_enter Tryz.func68,Tryz.ntmps68
 go_upto_region 2 with fail
 generalize hWA:((w.alloc (.cells #[.slice none 0 0,.slice none 0 0,.slice none 0 0,.slice none 0 0,.int .i64 0] 28)).alloc (.cells #[.int .i64 0,.int .i64 1] 2)).alloc (.cells #[.slice (some ⟨w.heap.size+1,0,none⟩) 2 2,.slice none 0 0,.slice none 0 0,.slice none 0 0,.int .i64 1048576] 28)=wA
 obtain⟨vn,hvn⟩:∃v:Nat->Value,v=λ_=>.slice none 0 0:=⟨_,rfl⟩
 obtain⟨vw,hvw⟩:∃v:Nat->Value,v=λ_=>.slice none 0 0:=⟨_,rfl⟩
 obtain⟨vr,hvr⟩:∃v:Nat->Value,v=λ_=>.slice none 0 0:=⟨_,rfl⟩
 have HA:Hid (NBx w wA (.slice (some ⟨w.heap.size+1,0,none⟩) 2 2) (.slice none 0 0) (.slice none 0 0) (.slice none 0 0) lm0 vn vw vr):=by
  unfold Hid
  rw[<-hWA]
  refine⟨(Qd _ _).trans ((Qd _ _).trans (Qd _ _)),((BT.new w _ _ _ rfl).alloc _).alloc _,BT.new _ _ _ _ (by rw[Q7,Q7]),⟨?_,⟨rfl,Or.inl ⟨rfl,rfl⟩⟩,λi hi=>absurd hi (Nat.not_lt_zero _),λi hi=>absurd hi (Nat.not_lt_zero _),⟨rfl,Or.inl ⟨rfl,rfl⟩⟩,λi hi=>absurd hi (Nat.not_lt_zero _),⟨rfl,Or.inl ⟨rfl,rfl⟩⟩,List.pairwise_singleton _ _⟩⟩
  refine⟨rfl,Or.inr ⟨w.heap.size+1,2,#[.int .i64 0,.int .i64 1],rfl,Nat.le_refl _,?_,Nat.le_refl _,by simp[maxLen],rfl,rfl⟩⟩
  exact(BT.new _ _ _ _ (by rw[Q7])).alloc _
 clear hWA hvn hvw hvr
 go_upto_region 5 with fail
 have HD:=Q0 (HA.out.next (show Nx wA wA.drew from(Below.refl _ _).drew))
 have HSS:Hid ((λq=>q.cell? ⟨w.heap.size+2,1,none⟩=some (.slice none 0 0)) wA.drew):=HD.out.box.blk.cell (i:=1) rfl
 refine(wpIn_wide (n:=9)).1 ?_
 refine Q9 (c:=6) (S:=λq=>q.cell? ⟨w.heap.size+2,1,none⟩=some (.slice none 0 0)) hmx (by kernel_rfl) (λhw hcl=>?_)
 generalize wA.drew=wd at *
 refine tq (i:=0) (v:=.pointer (some ⟨w.heap.size+2,1,none⟩)) (λhcl=>?_)
 refine tq (i:=1) (v:=.slice none 0 0) (λhcl=>?_)
 refine Q5 (i:=2) (by kernel_rfl) hcl (λhcl=>wpOpIn_step rfl (λK hK=>?_))
 go_simp
 refine⟨trivial,(callsIn_wide.2 (Vf 3 0 1 5 true 1 _ (by omega))).mono ?_⟩
 rintro e7 w7 ⟨va,vb,rfl,hva,hvb,hab,hx7⟩
 obtain⟨aa,ca,rfl⟩:=Q3 hva
 obtain⟨ab,cb,rfl⟩:=Q3 hvb
 have HQ:=Q0 (HD.out.next hx7)
 have HVA:=Q0 hva
 have HVB:=Q0 hvb
 have HAB:=Q0 hab
 have HIZ:Hid (∀u∈Ja lm0 (.slice (some ⟨w.heap.size+1,0,none⟩) 2 2) vn vw vr,∀y,u.ownBlock=some y->y<wd.heap.size):=Vk HD.out.net
 have HSS:Hid ((λq=>q.cell? ⟨w.heap.size+2,1,none⟩=some (.slice none 0 0)) w7):=HQ.out.box.blk.cell (i:=1) rfl
 refine hK _ _ ⟨Or.inr HSS.out,?_⟩
 clear hK K hva hvb hab
 refine Q5 (i:=3) (by kernel_rfl) hcl (λhcl=>wpOpIn_step rfl (λK hK=>?_))
 go_simp
 refine hK _ _ ⟨Or.inr (Qf (Qd _ _) HSS.out),?_⟩
 clear hK K
 refine Q5 (i:=4) (by kernel_rfl) hcl (λhcl=>wpOpIn_step rfl (λK hK=>?_))
 have HROW:Hid (w7.ownsRow (w.heap.size+1) 45 4 (.slice none 0 0) 0 (V4 ([]:List Wy) vn vw)):=by
  have h:=HQ.out.net.ways
  unfold Yk at h
  replace h:w7.ownsRow (w.heap.size+1) 45 4 (.slice none 0 0) (([]:List Wy)).length (V4 ([]:List Wy) vn vw):=h
  rw[(show([]:List Wy).length=0 from rfl)] at h
  exact h
 have hz7:w.heap.size+1<=w7.heap.size:=by have h1:=HQ.out.box.lt;omega
 refine Jo Yc Tryz.underlying24 rfl (by decide) (by decide) rfl (.tmp 34) (.tmp 36) rfl (w.heap.size+1) 0 (.slice none 0 0) (V4 ([]:List Wy) vn vw) [.int .i64 3,.bool true,.slice aa _ ca,.slice ab _ cb] w7 _ rfl (by simp[Act.eval]) HROW.out (by simp[Act.eval]) rfl (by intro u hu;simp at hu;rcases hu with rfl|rfl|rfl|rfl<;>rfl) (by omega) hz7 ?_
 intro a8 c8 w8 r1 r2 r3
 have G8:=Q0 (HQ.out.grown HROW.out (by decide) r2)
 have N8:=Q0 (HQ.out.net.addWay rfl (z:=wd.heap.size) HIZ.out (x:=lmW 3 true 0 1 1 5) (va:=.slice aa _ ca) (vb:=.slice ab _ cb) (by show w8.ownsRow _ _ 4 _ ((([]:List Wy)).length+1) _;rw[(show([]:List Wy).length=0 from rfl)];exact r1) r2 HVA.out HVB.out (by have h1:=HD.out.box.lt;omega) HAB.out)
 have HSS:Hid ((λq=>q.cell? ⟨w.heap.size+2,1,none⟩=some (.slice none 0 0)) w8):=G8.out.2.2.blk.cell (i:=1) rfl
 refine hK _ _ ⟨Or.inr HSS.out,?_⟩
 clear hK K r1 r2 r3
 refine Q5 (i:=5) (by kernel_rfl) hcl (λhcl=>wpOpIn_step rfl (λK hK=>?_))
 go_simp
 refine hK _ _ ⟨Or.inr HSS.out,?_⟩
 clear hK K
 have x1:=G8.out.2.2.blk.cell (i:=1) rfl
 have fz1:=G8.out.2.2.blk.frozen 1
 refine Qk (i:=6) (by kernel_rfl) (wpOpIn_step rfl (λK hK=>?_))
 go_simp
 refine hK _ _ ⟨Or.inl (by decide),?_⟩
 clear hK K
 refine Qi (by kernel_rfl) ?_ _
 have H9:=Q0 (NBx.lay 1 (.slice a8 (0+1) c8) G8.out N8.out rfl)
 clear x1 fz1 hw hcl HSS G8 N8 HQ HVA HVB HAB HROW HIZ HD
 generalize w8.setCell ⟨w.heap.size+2,1,none⟩ (.slice a8 (0+1) c8)=w9 at *
 have HIZ:Hid (∀u∈Ja (Z4 [lmW 3 true 0 1 1 5]) (.slice (some ⟨w.heap.size+1,0,none⟩) 2 2) (upd vn 0 _) (upd vw 0 _) vr,∀y,u.ownBlock=some y->y<w9.heap.size):=Vk H9.out.net
 generalize hvn:upd vn 0 _=vn' at HIZ
 generalize hvw:upd vw 0 _=vw' at HIZ
 replace H9:Hid (NBx w w9 (.slice (some ⟨w.heap.size+1,0,none⟩) 2 2) (.slice a8 1 c8) (.slice none 0 0) (.slice none 0 0) (Z4 [lmW 3 true 0 1 1 5]) vn' vw' vr):=by rw[<-hvn,<-hvw];exact H9
 clear hvn hvw
 have HZ9:Hid (w.heap.size+3<=w9.heap.size):=by have:=H9.out.box.lt;unfold Hid;omega
 go_upto_region 7 with fail
 generalize hWB:w9.alloc (.cells #[.int .i64 1048576,.bool true,.int .i64 3,.int .i64 3,.bool false,.int .i64 0,.slice none 0 0] 48)=w10
 have HB:Hid (BT w10 w9.heap.size #[.int .i64 1048576,.bool true,.int .i64 3,.int .i64 3,.bool false,.int .i64 0,.slice none 0 0] 48):=by unfold Hid;rw[<-hWB];exact BT.new _ _ _ _ rfl
 have H10:=Q0 (H9.out.next (Qd w9 (.cells #[.int .i64 1048576,.bool true,.int .i64 3,.int .i64 3,.bool false,.int .i64 0,.slice none 0 0] 48)))
 rw[hWB] at H10
 clear hWB H9
 generalize w9.heap.size=g at *
 go_wp2
 go_loopw [7] (λs7 wr=>∃(n:Nat),n<=4+over/\s7=.int .i64 (n:Int)/\Hid (∃(c:Nat) (a:Option Addr),NBx w wr (.slice (some ⟨w.heap.size+1,0,none⟩) 2 2) (.slice a8 1 c8) (.slice none 0 0) (.slice none 0 0) (Z4 [lmW 3 true 0 1 1 5]) vn' vw' vr/\BT wr g #[.int .i64 1048576,.bool true,.int .i64 3,.int .i64 3,.bool false,.int .i64 0,.slice a n c] 48/\Qb g wr (.slice a n c) (J0 (λ_=>(3:Int)) n))) (λi _=>4+over-(intOf i).toNat)
 case atStart=>exact⟨0,Nat.zero_le _,rfl,⟨0,none,H10.out,HB.out,⟨rfl,Or.inl ⟨rfl,rfl⟩⟩⟩⟩
 clear H10 HB
 obtain⟨n,hn,rfl,hN⟩:=hrel
 obtain⟨c,a,hN,hB,hO⟩:=hN.out
 have Hn:=Q0 hN
 have HB:=Q0 hB
 have HO:=Q0 hO
 clear hN hB hO
 by_cases hlt:n<4+over
 ·have hlt':(n:Int)<4+(over:Int):=by omega
  have x6:wr.cell? ⟨g,6,none⟩=some (.slice a n c):=HB.out.blk.cell (i:=6) rfl
  have hz:g<=wr.heap.size:=Nat.le_of_lt HB.out.lt
  have HLE:Hid (((J0 (λ_=>(3:Int)) n)).length=n):=Jw _ n
  go_wp2_with (at_builtin;refine Xb rfl _ _ rfl g n (.slice a n c) (J0 (λ_=>(3:Int)) n) 3 wr rfl HO.out rfl HLE.out (by omega) hz ?_)
  intro a9 c9 w8 r1 r2 r3
  have H8:=Q0 (Hn.out.farRow HIZ.out HO.out (by have:=HZ9.out;omega) r2)
  have B8:=Q0 (HB.out.row HO.out (by decide) r2)
  have H11:=Q0 (H8.out.farBox B8.out HZ9.out rfl 6 (.slice a9 (n+1) c9))
  have B11:Hid (BT (w8.setCell ⟨g,6,none⟩ (.slice a9 (n+1) c9)) g #[.int .i64 1048576,.bool true,.int .i64 3,.int .i64 3,.bool false,.int .i64 0,.slice a9 (n+1) c9] 48):=B8.out.set 6 _
  have O11:Hid (Qb g (w8.setCell ⟨g,6,none⟩ (.slice a9 (n+1) c9)) (.slice a9 (n+1) c9) (J0 (λ_=>(3:Int)) (n+1))):=Q2 r1 B8.out (by decide) _ _
  clear x6
  have x6:w8.cell? ⟨g,6,none⟩=some (.slice a n c):=B8.out.blk.cell (i:=6) rfl
  have fz6:=B8.out.blk.frozen 6
  clear r1 r2 r3 H8 B8
  go_wp2
  go_roundw
  case rel=>exact⟨n+1,by omega,by go_num,⟨c9,a9,H11.out,B11.out,O11.out⟩⟩
  case measure=>simp[intOf];omega
 have hnn:n=4+over:=by omega
 have hge:¬(n:Int)<4+(over:Int):=by omega
 rw[<-hnn] at HLN
 clear hnn hlt
 have yy0:wr.cell? ⟨g,0,none⟩=some (.int .i64 1048576):=HB.out.blk.cell (i:=0) rfl
 have yy1:wr.cell? ⟨g,1,none⟩=some (.bool true):=HB.out.blk.cell (i:=1) rfl
 have yy2:wr.cell? ⟨g,2,none⟩=some (.int .i64 3):=HB.out.blk.cell (i:=2) rfl
 have yy3:wr.cell? ⟨g,3,none⟩=some (.int .i64 3):=HB.out.blk.cell (i:=3) rfl
 have yy4:wr.cell? ⟨g,4,none⟩=some (.bool false):=HB.out.blk.cell (i:=4) rfl
 have yy5:wr.cell? ⟨g,5,none⟩=some (.int .i64 0):=HB.out.blk.cell (i:=5) rfl
 have yy6:wr.cell? ⟨g,6,none⟩=some (.slice a n c):=HB.out.blk.cell (i:=6) rfl
 have n2:wr.cell? ⟨w.heap.size+2,2,none⟩=some (.slice none 0 0):=Hn.out.box.blk.cell (i:=2) rfl
 have hz:w.heap.size+1<=wr.heap.size:=by have:=Hn.out.box.lt;omega
 have HROW:Hid (wr.ownsRow (w.heap.size+1) 48 7 (.slice none 0 0) 0 (Zz [] vr)):=Hn.out.net.rels
 go_wp2_with (at_builtin;refine Xu Wu Tryz.underlying25 rfl (by decide) (by decide) rfl _ _ rfl (w.heap.size+1) 0 (.slice none 0 0) (Zz [] vr) [.int .i64 1048576,.bool true,.int .i64 3,.int .i64 3,.bool false,.int .i64 0,.slice a n c] wr rfl HROW.out rfl rfl (by intro u hu;simp at hu;rcases hu with rfl|rfl|rfl|rfl|rfl|rfl|rfl<;>rfl) (by omega) hz ?_)
 intro a9 c9 w8 r1 r2 r3
 have G8:=Q0 (Hn.out.grown HROW.out (by decide) r2)
 have N8:=Q0 (Hn.out.net.addRel (z:=g) HIZ.out (x:=(⟨1048576,true,3,3,false,0,(J0 (λ_=>(3:Int)) n)⟩:Rl)) (va:=.slice a n c) r1 r2 HO.out (by have:=HZ9.out;omega))
 have H12:Hid (NBx w (w8.setCell ⟨w.heap.size+2,2,none⟩ (.slice a9 1 c9)) (.slice (some ⟨w.heap.size+1,0,none⟩) 2 2) (.slice a8 1 c8) (.slice a9 1 c9) (.slice none 0 0) (nW (Z4 [lmW 3 true 0 1 1 5]) [(⟨1048576,true,3,3,false,0,(J0 (λ_=>(3:Int)) n)⟩:Rl)]) vn' vw' (upd vr 0 (.slice a n c))):=NBx.lay 2 (.slice a9 1 c9) G8.out N8.out rfl
 have x2:w8.cell? ⟨w.heap.size+2,2,none⟩=some (.slice none 0 0):=G8.out.2.2.blk.cell (i:=2) rfl
 have fz2:=G8.out.2.2.blk.frozen 2
 clear r1 r2 r3 n2 G8 N8 HROW yy0 yy1 yy2 yy3 yy4 yy5 yy6 HB HO
 go_upto_region 12 with fail
 generalize w8.setCell ⟨w.heap.size+2,2,none⟩ (.slice a9 1 c9)=w12 at *
 clear x2 fz2
 have BR:BT w12 w.heap.size #[.slice none 0 0,.slice none 0 0,.slice none 0 0,.slice none 0 0,.int .i64 0] 28:=H12.out.res
 have y0_:w12.cell? ⟨w.heap.size+2,0,none⟩=some (.slice (some ⟨w.heap.size+1,0,none⟩) 2 2):=H12.out.box.blk.cell (i:=0) rfl
 have y1_:w12.cell? ⟨w.heap.size+2,1,none⟩=some (.slice a8 1 c8):=H12.out.box.blk.cell (i:=1) rfl
 have y2_:w12.cell? ⟨w.heap.size+2,2,none⟩=some (.slice a9 1 c9):=H12.out.box.blk.cell (i:=2) rfl
 have y3_:w12.cell? ⟨w.heap.size+2,3,none⟩=some (.slice none 0 0):=H12.out.box.blk.cell (i:=3) rfl
 have y4_:w12.cell? ⟨w.heap.size+2,4,none⟩=some (.int .i64 1048576):=H12.out.box.blk.cell (i:=4) rfl
 have x0:=BR.blk.cell (i:=0) rfl
 have fz0:=BR.blk.frozen 0
 have x1:=BR.blk.cell (i:=1) rfl
 have fz1:=BR.blk.frozen 1
 have x2:=BR.blk.cell (i:=2) rfl
 have fz2:=BR.blk.frozen 2
 have x3:=BR.blk.cell (i:=3) rfl
 have fz3:=BR.blk.frozen 3
 have x4:=BR.blk.cell (i:=4) rfl
 have fz4:=BR.blk.frozen 4
 have BS:=Tl (a0:=.slice (some ⟨w.heap.size+1,0,none⟩) 2 2) (a1:=.slice a8 1 c8) (a2:=.slice a9 1 c9) (a3:=.slice none 0 0) (a4:=.int .i64 1048576) BR
 have P0:Hid (_=some (Value.slice (some ⟨w.heap.size+1,0,none⟩) 2 2)):=BS.blk.cell (i:=0) rfl
 have P1:Hid (_=some (Value.slice a8 1 c8)):=BS.blk.cell (i:=1) rfl
 have P2:Hid (_=some (Value.slice a9 1 c9)):=BS.blk.cell (i:=2) rfl
 have P3:Hid (_=some (Value.slice none 0 0)):=BS.blk.cell (i:=3) rfl
 have P4:Hid (_=some (Value.int .i64 1048576)):=BS.blk.cell (i:=4) rfl
 have HCF:Hid (Chg (λx=>x=w.heap.size) w12 (((((w12.setCell ⟨w.heap.size,0,none⟩ (.slice (some ⟨w.heap.size+1,0,none⟩) 2 2)).setCell ⟨w.heap.size,1,none⟩ (.slice a8 1 c8)).setCell ⟨w.heap.size,2,none⟩ (.slice a9 1 c9)).setCell ⟨w.heap.size,3,none⟩ (.slice none 0 0)).setCell ⟨w.heap.size,4,none⟩ (.int .i64 1048576))):=Ts
 clear BS
 have HBR:=Q0 BR
 clear BR
 go_wp2
 generalize hWF:(((((w12.setCell ⟨w.heap.size,0,none⟩ (.slice (some ⟨w.heap.size+1,0,none⟩) 2 2)).setCell ⟨w.heap.size,1,none⟩ (.slice a8 1 c8)).setCell ⟨w.heap.size,2,none⟩ (.slice a9 1 c9)).setCell ⟨w.heap.size,3,none⟩ (.slice none 0 0)).setCell ⟨w.heap.size,4,none⟩ (.int .i64 1048576))=wF at P0 P1 P2 P3 P4 HCF ⊢
 have p0_:=P0.out
 have p1_:=P1.out
 have p2_:=P2.out
 have p3_:=P3.out
 have p4_:=P4.out
 refine bodyPost_ret (v:=.agg #[.slice (some ⟨w.heap.size+1,0,none⟩) 2 2,.slice a8 1 c8,.slice a9 1 c9,.slice none 0 0,.int .i64 1048576]) (by simp[results,Tryz.results68,go_sem,p0_,p1_,p2_,p3_,p4_]) rfl ?_
 have hO:=H12.out.net.turnBox HBR.out (by decide) (λe=>absurd e (by decide)) HCF.out
 have hX:Nx w wF:=Below.trans H12.out.nx (HCF.out.below H12.out.nx.size (λx hx=>by have hx':x=w.heap.size:=hx;omega))
 rw[HLN.out]
 exact⟨⟨_,_,_,_,rfl,_,_,_,hO⟩,hX⟩
theorem Yo {C C' t sz n:Nat}{w:World}{v:Value}{xs:List Value}(h:w.ownsRow C t sz v n xs)(hC:C'<=C):w.ownsRow C' t sz v n xs:=by
 obtain⟨h1,h2⟩:=h
 refine⟨h1,?_⟩
 rcases h2 with h2|⟨g,cap,cur,hv,hg,r⟩
 ·exact Or.inl h2
 ·exact Or.inr ⟨g,cap,cur,hv,Nat.le_trans hC hg,r⟩
theorem ONt.base {C C':Nat}{w:World}{v0 v1 v2 v3:Value}{N:Nt}{vn vw vr:Nat->Value}(h:ONt C w v0 v1 v2 v3 N vn vw vr)(hC:C'<=C):ONt C' w v0 v1 v2 v3 N vn vw vr:=
 ⟨Yo h.nodes hC,Yo h.ways hC,λi hi=>Yo (h.wn i hi) hC,λi hi=>Yo (h.ww i hi) hC,Yo h.rels hC,λi hi=>Yo (h.rw_ i hi) hC,Yo h.turns hC,h.apart⟩
theorem Q3w (k:Int)(over:Nat):(Yi k over).uturn=1048576:=by
 unfold Yi
 split
 ·rfl
 ·split
  ·rfl
  ·split
   ·rfl
   ·split
    ·rfl
    ·split
     ·rfl
     ·split<;>rfl
theorem Ej (k:Int)(over:Nat)(w:World)(hk:0<=k/\k<9)(ho:over<=1) :
  Calls Tryz.prog 68 #[.int .i64 k,.int .i64 (over:Int)] w λe w'=>(∃v0 v1 v2 v3,e=.returned (.agg #[v0,v1,v2,v3,.int .i64 1048576])/\∃vn vw vr,ONt (w.heap.size+1) w' v0 v1 v2 v3 (Yi k over) vn vw vr)/\Nx w w':=by
 by_cases h3:k<3
 ·exact Ff k over w ⟨hk.1,h3⟩ ho
 ·have hc:k=3\/k=4\/k=5\/k=6\/k=7\/k=8:=by omega
  rcases hc with rfl|rfl|rfl|rfl|rfl|rfl
  ·exact Ix over w ho
  ·exact Fg over w ho
  ·exact Fh over w ho
  ·exact Ei over w ho
  ·exact Iy over w ho
  ·exact Iz over w ho
def Tx (S:Src):Nt:=Yi (nv (ns S 2) 9) (nv S 2).toNat
def liS (S:Src):Src:=ns (ns S 2) 9
theorem Q25 (D b:Nat)(S:Src)(w:World)(hS:J8 D w b S)(hok:SOk S) :
  Calls Tryz.prog 39 #[.pointer (some ⟨b,0,none⟩)] w λe w'=>(∃v0 v1 v2 v3,e=.returned (.agg #[v0,v1,v2,v3,.int .i64 (Tx S).uturn])/\∃vn vw vr,ONt (w.heap.size+1) w' v0 v1 v2 v3 (Tx S) vn vw vr)/\J8 D w' b (liS S)/\Chg (Sx1 b) w w':=by
 have HOK:Hid (SOk S):=hok
 have HOK1:Hid (SOk (ns S 2)):=Qj hok 2
 have HS0:Hid (J8 D w b S):=hS
 clear hS hok
 go_enter Tryz.func39,Tryz.ntmps39
 go_upto_region 1 with fail
 generalize hWA:w.alloc (.cells #[.slice none 0 0,.slice none 0 0,.slice none 0 0,.slice none 0 0,.int .i64 0] 28)=wA
 have HA:Hid (FR D b w wA S [(w.heap.size,#[.slice none 0 0,.slice none 0 0,.slice none 0 0,.slice none 0 0,.int .i64 0],28)]):=by
  unfold Hid
  rw[<-hWA]
  have k0:FR D b w w S []:=⟨Chg.nx (Nx.refl _),HS0.out,λp hp=>absurd hp (by simp),λp hp=>absurd hp (by simp),List.nodup_nil⟩
  exact k0.alloc #[.slice none 0 0,.slice none 0 0,.slice none 0 0,.slice none 0 0,.int .i64 0] 28 (by decide)
 clear hWA
 go_wp2_with fail
 refine(Qe D b S 2 wA HA.out.src HOK.out (by omega)).mono ?_
 rintro e w1 ⟨rfl,hs1,hc1⟩
 have H1:=Q0 (HA.out.drawn hs1 hc1)
 obtain⟨ov,hov⟩:∃i:Nat,nv S 2=i:=⟨(nv S 2).toNat,by have:=(Qt HOK.out 2).1;omega⟩
 have hov1:ov<=1:=by have:=(Qt HOK.out 2).2 (by omega);omega
 rw[hov]
 clear hs1 hc1 HA
 go_wp2_with fail
 refine(Qe D b (ns S 2) 9 w1 H1.out.src HOK1.out (by omega)).mono ?_
 rintro e w2 ⟨rfl,hs1,hc1⟩
 have H2:=Q0 (H1.out.drawn hs1 hc1)
 have hkv:=Qt HOK1.out 9
 have HLN:Hid (Tx S=Yi (nv (ns S 2) 9) ov):=by unfold Hid Tx;rw[hov,Int.toNat_natCast]
 have HLS:Hid (liS S=ns (ns S 2) 9):=rfl
 have hk9:0<=nv (ns S 2) 9/\nv (ns S 2) 9<9:=⟨hkv.1,hkv.2 (by omega)⟩
 generalize nv (ns S 2) 9=kk at *
 clear hs1 hc1 H1 hkv hov
 go_wp2_with fail
 refine(Ej kk ov w2 hk9 hov1).mono ?_
 rintro e w3 ⟨⟨v0,v1,v2,v3,rfl,vn,vw,vr,hO3⟩,hx3⟩
 have H3:=Q0 (H2.out.next hx3)
 have O3:=Q0 (hO3.base (show w.heap.size+1<=w2.heap.size+1 by have:=H2.out.chg.size;omega))
 obtain⟨a0,q0,e0⟩:=Q3 O3.out.nodes
 obtain⟨a1,q1,e1⟩:=Q3 O3.out.ways
 obtain⟨a2,q2,e2⟩:=Q3 O3.out.rels
 obtain⟨a3,q3,e3⟩:=Q3 O3.out.turns
 generalize (Yi kk ov).nodes.length=l0 at e0
 generalize (Yi kk ov).ways.length=l1 at e1
 generalize (Yi kk ov).rels.length=l2 at e2
 generalize (Yi kk ov).turns.length=l3 at e3
 subst e0 e1 e2 e3
 have HUT:Hid ((Tx S).uturn=1048576):=by unfold Hid;rw[HLN.out];exact Q3w _ _
 clear hO3 hx3 H2
 have BR:BT w3 w.heap.size #[.slice none 0 0,.slice none 0 0,.slice none 0 0,.slice none 0 0,.int .i64 0] 28:=H3.out.at 0 rfl
 have x0:=BR.blk.cell (i:=0) rfl
 have fz0:=BR.blk.frozen 0
 have x1:=BR.blk.cell (i:=1) rfl
 have fz1:=BR.blk.frozen 1
 have x2:=BR.blk.cell (i:=2) rfl
 have fz2:=BR.blk.frozen 2
 have x3:=BR.blk.cell (i:=3) rfl
 have fz3:=BR.blk.frozen 3
 have x4:=BR.blk.cell (i:=4) rfl
 have fz4:=BR.blk.frozen 4
 have BS:=Tl (a0:=.slice a0 l0 q0) (a1:=.slice a1 l1 q1) (a2:=.slice a2 l2 q2) (a3:=.slice a3 l3 q3) (a4:=.int .i64 1048576) BR
 have P0:Hid (_=some (Value.slice a0 l0 q0)):=BS.blk.cell (i:=0) rfl
 have P1:Hid (_=some (Value.slice a1 l1 q1)):=BS.blk.cell (i:=1) rfl
 have P2:Hid (_=some (Value.slice a2 l2 q2)):=BS.blk.cell (i:=2) rfl
 have P3:Hid (_=some (Value.slice a3 l3 q3)):=BS.blk.cell (i:=3) rfl
 have P4:Hid (_=some (Value.int .i64 1048576)):=BS.blk.cell (i:=4) rfl
 have HCF:Hid (Chg (λx=>x=w.heap.size) w3 (((((w3.setCell ⟨w.heap.size,0,none⟩ (.slice a0 l0 q0)).setCell ⟨w.heap.size,1,none⟩ (.slice a1 l1 q1)).setCell ⟨w.heap.size,2,none⟩ (.slice a2 l2 q2)).setCell ⟨w.heap.size,3,none⟩ (.slice a3 l3 q3)).setCell ⟨w.heap.size,4,none⟩ (.int .i64 1048576))):=Ts
 have HBS:=Q0 BS
 clear BS BR
 go_wp2
 generalize hWF:(((((w3.setCell ⟨w.heap.size,0,none⟩ (.slice a0 l0 q0)).setCell ⟨w.heap.size,1,none⟩ (.slice a1 l1 q1)).setCell ⟨w.heap.size,2,none⟩ (.slice a2 l2 q2)).setCell ⟨w.heap.size,3,none⟩ (.slice a3 l3 q3)).setCell ⟨w.heap.size,4,none⟩ (.int .i64 1048576))=wF at P0 P1 P2 P3 P4 HBS HCF ⊢
 have p0_:=P0.out
 have p1_:=P1.out
 have p2_:=P2.out
 have p3_:=P3.out
 have p4_:=P4.out
 refine bodyPost_ret (v:=.agg #[.slice a0 l0 q0,.slice a1 l1 q1,.slice a2 l2 q2,.slice a3 l3 q3,.int .i64 1048576]) (by simp[results,Tryz.results39,go_sem,p0_,p1_,p2_,p3_,p4_]) rfl ?_
 have hF:=H3.out.turn 0 rfl HCF.out HBS.out
 have hO:=O3.out.turnBox (show BT w3 w.heap.size #[.slice none 0 0,.slice none 0 0,.slice none 0 0,.slice none 0 0,.int .i64 0] 28 from H3.out.at 0 rfl) (by decide) (λe=>absurd e (by decide)) HCF.out
 rw[HUT.out,HLN.out,HLS.out]
 exact⟨⟨_,_,_,_,rfl,_,_,_,hO⟩,hF.src,hF.chg⟩
theorem Xt {C t sz n b c i:Nat}{w:World}{xs:List Value}(h:w.ownsRow C t sz (.slice (some ⟨b,0,none⟩) n c) n xs)(v:Value):(w.setCell ⟨b,i,none⟩ v).ownsRow C t sz (.slice (some ⟨b,0,none⟩) n c) n (xs.set i v):=by
 obtain⟨h1,h2⟩:=h
 refine⟨by rw[List.length_set];exact h1,?_⟩
 rcases h2 with⟨h2,_⟩|⟨g,cap,cur,hv,hg,hh,hc,hm,hs,ht⟩
 ·cases h2
 ·simp only[Value.slice.injEq,Option.some.injEq,Addr.mk.injEq] at hv
  obtain⟨⟨rfl,_⟩,_,rfl⟩:=hv
  have hb:BT (w.setCell ⟨b,i,none⟩ v) b (cur.setIfInBounds i v) t:=BT.set (show BT w b cur t from hh) i v
  refine Or.inr ⟨b,c,cur.setIfInBounds i v,rfl,hg,hb,hc,hm,by rw[Array.size_setIfInBounds];exact hs,?_⟩
  rw[<-ht,Array.toList_setIfInBounds,List.take_set]
theorem Qb.setAt {C n b c i:Nat}{w:World}{zs:List Int}(h:Qb C w (.slice (some ⟨b,0,none⟩) n c) zs)(hn:zs.length=n)(z:Int):Qb C (w.setCell ⟨b,i,none⟩ (.int .i64 z)) (.slice (some ⟨b,0,none⟩) n c) (zs.set i z):=by
 subst hn
 have k:=Xt (i:=i) h (.int .i64 z)
 show(w.setCell _ _).ownsRow C _ 1 _ (zs.set i z).length (Qx (zs.set i z))
 rw[List.length_set]
 have e:Qx (zs.set i z)=(Qx zs).set i (.int .i64 z):=by unfold Qx;rw[List.map_set]
 rw[e]
 exact k
theorem Kc {k n i q:Nat}{f:Nat->List Value}(hf:∀j,(f j).length=k)(hi:i<n)(hq:q<k)(v:Value):((List.range n).flatMap f).set (i*k+q) v=(List.range n).flatMap (λj=>if j=i then (f j).set q v else f j):=by
 induction n with
 |zero=>omega
 |succ n ih=>
  have hl:∀m,((List.range m).flatMap f).length=m*k:=λm=>by
   induction m with
   |zero=>simp
   |succ m ihm=>rw[List.range_succ,List.flatMap_append,List.length_append,ihm];simp[hf,Nat.succ_mul]
  rw[List.range_succ,List.flatMap_append,List.flatMap_append]
  by_cases e:i=n
  ·subst e
   rw[List.set_append,hl,if_neg (by omega),Nat.add_sub_cancel_left]
   congr 1
   ·refine V8 λj hj=>?_
    have:=List.mem_range.1 hj
    rw[if_neg (by omega)]
   ·simp
  ·have hlt:i*k+q<n*k:=by
    have:(i+1)*k<=n*k:=Nat.mul_le_mul_right _ (by omega)
    rw[Nat.succ_mul] at this
    omega
   rw[List.set_append,hl,if_pos hlt,ih (by omega)]
   congr 1
   simp[Ne.symm e]
def Apv (a b:Value):Prop:=∀g,a.ownBlock=some g->b.ownBlock≠some g
theorem Apv.symm {a b:Value}(h:Apv a b):Apv b a:=λg hb ha=>h g ha hb
structure ApN (nw nr:Nat)(v0:Value)(vn vw vr:Nat->Value):Prop where
 zn:∀i,i<nw->Apv v0 (vn i)/\Apv v0 (vw i)
 zr:∀i,i<nr->Apv v0 (vr i)
 nn:∀i j,i<nw->j<nw->i≠j->Apv (vn i) (vn j)/\Apv (vw i) (vw j)
 nw_:∀i j,i<nw->j<nw->Apv (vn i) (vw j)
 nr_:∀i j,i<nw->j<nr->Apv (vn i) (vr j)/\Apv (vw i) (vr j)
 rr:∀i j,i<nr->j<nr->i≠j->Apv (vr i) (vr j)
theorem ONt.apn {C:Nat}{w:World}{v0 v1 v2 v3:Value}{N:Nt}{vn vw vr:Nat->Value}(h:ONt C w v0 v1 v2 v3 N vn vw vr):ApN N.ways.length N.rels.length v0 vn vw vr:=by
 have hp:(v0::(prs N.ways.length vn vw++(List.range N.rels.length).map vr)).Pairwise Apv:=h.apart
 obtain⟨h0,h1⟩:=List.pairwise_cons.1 hp
 obtain⟨h2,h3,h4⟩:=List.pairwise_append.1 h1
 unfold prs at h2
 rw[List.pairwise_flatMap] at h2
 obtain⟨h5,h6⟩:=h2
 have m1:∀i,i<N.ways.length->vn i∈prs N.ways.length vn vw/\vw i∈prs N.ways.length vn vw:=λi hi=>Uu hi
 have m2:∀i,i<N.rels.length->vr i∈(List.range N.rels.length).map vr:=λi hi=>List.mem_map.2 ⟨i,List.mem_range.2 hi,rfl⟩
 have lt6:∀i j,i<j->j<N.ways.length->∀x∈[vn i,vw i],∀y∈[vn j,vw j],Apv x y:=λi j hij hj=>by
  have:=List.pairwise_iff_getElem.1 h6 i j (by rw[List.length_range];omega) (by rw[List.length_range];exact hj) hij
  simpa using this
 have lt3:∀i j,i<j->j<N.rels.length->Apv (vr i) (vr j):=λi j hij hj=>by
  have:=List.pairwise_iff_getElem.1 h3 i j (by simp;omega) (by simp;exact hj) hij
  simpa using this
 refine⟨λi hi=>⟨h0 _ (List.mem_append_left _ (m1 i hi).1),h0 _ (List.mem_append_left _ (m1 i hi).2)⟩,λi hi=>h0 _ (List.mem_append_right _ (m2 i hi)),λi j hi hj hn=>?_,λi j hi hj=>?_,λi j hi hj=>⟨h4 _ (m1 i hi).1 _ (m2 j hj),h4 _ (m1 i hi).2 _ (m2 j hj)⟩,λi j hi hj hn=>?_⟩
 ·rcases Nat.lt_or_gt_of_ne hn with q|q
  ·exact⟨lt6 i j q hj _ (by simp) _ (by simp),lt6 i j q hj _ (by simp) _ (by simp)⟩
  ·exact⟨(lt6 j i q hi _ (by simp) _ (by simp)).symm,(lt6 j i q hi _ (by simp) _ (by simp)).symm⟩
 ·rcases Nat.lt_trichotomy i j with q|q|q
  ·exact lt6 i j q hj _ (by simp) _ (by simp)
  ·subst q
   have:=h5 i (List.mem_range.2 hi)
   exact(List.pairwise_cons.1 this).1 _ (by simp)
  ·exact(lt6 j i q hi (vw j) (by simp) (vn i) (by simp)).symm
 ·rcases Nat.lt_or_gt_of_ne hn with q|q
  ·exact lt3 i j q hj
  ·exact(lt3 j i q hi).symm
theorem Vs {ws:List Wy}{i j:Nat}{x:Wy}(hi:i<ws.length):wat (ws.set i x) j=if j=i then x else wat ws j:=by
 unfold wat
 rw[List.getD_eq_getElem?_getD,List.getD_eq_getElem?_getD,List.getElem?_set]
 by_cases e:i=j
 ·subst e;simp[hi]
 ·rw[if_neg e,if_neg (λh=>e h.symm)]
theorem Q59 {ws:List Rl}{i j:Nat}{x:Rl}(hi:i<ws.length):rat (ws.set i x) j=if j=i then x else rat ws j:=by
 unfold rat
 rw[List.getD_eq_getElem?_getD,List.getD_eq_getElem?_getD,List.getElem?_set]
 by_cases e:i=j
 ·subst e;simp[hi]
 ·rw[if_neg e,if_neg (λh=>e h.symm)]
theorem Ez {ws:List Wy}{i:Nat}{x:Wy}{vn vw:Nat->Value}(hi:i<ws.length)(h1:x.id=(wat ws i).id)(h2:x.both=(wat ws i).both):V4 (ws.set i x) vn vw=V4 ws vn vw:=by
 unfold V4
 rw[List.length_set]
 refine V8 λj hj=>?_
 rw[Vs hi]
 by_cases e:j=i
 ·subst e;rw[if_pos rfl];unfold Pc;rw[h1,h2]
 ·rw[if_neg e]
section
variable {C:Nat}{w:World}{v0 v1 v2 v3:Value}{N:Nt}{vn vw vr:Nat->Value}
theorem ONt.setNode {b n c i:Nat}(h:ONt C w (.slice (some ⟨b,0,none⟩) n c) v1 v2 v3 N vn vw vr)(hn:N.nodes.length=n)(z:Int):ONt C (w.setCell ⟨b,i,none⟩ (.int .i64 z)) (.slice (some ⟨b,0,none⟩) n c) v1 v2 v3 ⟨N.nodes.set i z,N.ways,N.rels,N.turns,N.uturn⟩ vn vw vr:=by
 have ap:=h.apn
 obtain⟨cs,hb⟩:=Yn h.nodes (show(Value.slice (some ⟨b,0,none⟩) n c).ownBlock=some b from rfl)
 have far:∀{u:Value}{us:List Int},Apv (.slice (some ⟨b,0,none⟩) n c) u->Qb C w u us->Qb C (w.setCell ⟨b,i,none⟩ (.int .i64 z)) u us:=λha ho=>Jm ho (Chg.set (S:=λx=>x=b) _ _ _ rfl) (λg hg e=>by
  have e':g=b:=e
  subst e'
  exact ha g rfl hg)
 exact⟨h.nodes.setAt hn z,Q2 h.ways hb (by decide) _ _,λj hj=>far (ap.zn j hj).1 (h.wn j hj),λj hj=>far (ap.zn j hj).2 (h.ww j hj),Q2 h.rels hb (by decide) _ _,λj hj=>far (ap.zr j hj) (h.rw_ j hj),Q2 h.turns hb (by decide) _ _,h.apart⟩
theorem ONt.setWN {b n c i j:Nat}(h:ONt C w v0 v1 v2 v3 N vn vw vr)(hi:i<N.ways.length)(hv:vn i=.slice (some ⟨b,0,none⟩) n c)(hn:(wat N.ways i).nodes.length=n)(z:Int):ONt C (w.setCell ⟨b,j,none⟩ (.int .i64 z)) v0 v1 v2 v3 ⟨N.nodes,N.ways.set i ⟨(wat N.ways i).id,(wat N.ways i).both,(wat N.ways i).nodes.set j z,(wat N.ways i).weights⟩,N.rels,N.turns,N.uturn⟩ vn vw vr:=by
 have ap:=h.apn
 have ho:=h.wn i hi
 rw[hv] at ho
 obtain⟨cs,hb⟩:=Yn ho (show(Value.slice (some ⟨b,0,none⟩) n c).ownBlock=some b from rfl)
 have far:∀{u:Value}{us:List Int},Apv (vn i) u->Qb C w u us->Qb C (w.setCell ⟨b,j,none⟩ (.int .i64 z)) u us:=λha hu=>Jm hu (Chg.set (S:=λx=>x=b) _ _ _ rfl) (λg hg e=>by
  have e':g=b:=e
  subst e'
  rw[hv] at ha
  exact ha g rfl hg)
 have hl:(N.ways.set i ⟨(wat N.ways i).id,(wat N.ways i).both,(wat N.ways i).nodes.set j z,(wat N.ways i).weights⟩).length=N.ways.length:=List.length_set
 refine⟨far (ap.zn i hi).1.symm h.nodes,?_,λk hk=>?_,λk hk=>?_,Q2 h.rels hb (by decide) _ _,λk hk=>far (ap.nr_ i k hi hk).1 (h.rw_ k hk),Q2 h.turns hb (by decide) _ _,?_⟩
 ·show World.ownsRow _ C _ 4 v1 (N.ways.set i _).length (V4 (N.ways.set i _) vn vw)
  rw[hl,Ez (x:=⟨(wat N.ways i).id,(wat N.ways i).both,(wat N.ways i).nodes.set j z,(wat N.ways i).weights⟩) hi rfl rfl]
  exact Q2 h.ways hb (by decide) _ _
 ·replace hk:k<N.ways.length:=by rw[<-hl];exact hk
  show Qb C _ (vn k) (wat (N.ways.set i _) k).nodes
  rw[Vs hi]
  by_cases e:k=i
  ·subst e
   rw[if_pos rfl,hv]
   exact ho.setAt hn z
  ·rw[if_neg e]
   exact far (ap.nn i k hi hk (λq=>e q.symm)).1 (h.wn k hk)
 ·replace hk:k<N.ways.length:=by rw[<-hl];exact hk
  show Qb C _ (vw k) (wat (N.ways.set i _) k).weights
  rw[Vs hi]
  by_cases e:k=i
  ·subst e
   rw[if_pos rfl]
   exact far (ap.nw_ k k hi hi) (h.ww k hk)
  ·rw[if_neg e]
   exact far (ap.nw_ i k hi hk) (h.ww k hk)
 ·have e:=h.apart
  unfold Ja at e ⊢
  simp only[hl]
  exact e
end
theorem ApN.apt {nw nr:Nat}{v0:Value}{vn vw vr:Nat->Value}(h:ApN nw nr v0 vn vw vr):(v0::(prs nw vn vw++(List.range nr).map vr)).Pairwise Apv:=by
 have mr:∀{x:Value},x∈(List.range nr).map vr->∃j,j<nr/\x=vr j:=λhx=>by
  obtain⟨j,hj,rfl⟩:=List.mem_map.1 hx
  exact⟨j,List.mem_range.1 hj,rfl⟩
 refine List.pairwise_cons.2 ⟨λx hx=>?_,List.pairwise_append.2 ⟨?_,?_,λx hx y hy=>?_⟩⟩
 ·rcases List.mem_append.1 hx with q|q
  ·obtain⟨i,hi,rfl|rfl⟩:=K6 q
   ·exact(h.zn i hi).1
   ·exact(h.zn i hi).2
  ·obtain⟨j,hj,rfl⟩:=mr q
   exact h.zr j hj
 ·unfold prs
  rw[List.pairwise_flatMap]
  refine⟨λi hi=>List.pairwise_cons.2 ⟨λy hy=>?_,List.pairwise_singleton _ _⟩,List.pairwise_iff_getElem.2 λi j hi hj hij x hx y hy=>?_⟩
  ·have e:y=vw i:=by simpa using hy
   subst e
   exact h.nw_ i i (List.mem_range.1 hi) (List.mem_range.1 hi)
  ·rw[List.length_range] at hi hj
   simp at hx hy
   rcases hx with rfl|rfl<;>rcases hy with rfl|rfl
   ·exact(h.nn i j hi hj (by omega)).1
   ·exact h.nw_ i j hi hj
   ·exact(h.nw_ j i hj hi).symm
   ·exact(h.nn i j hi hj (by omega)).2
 ·refine List.pairwise_iff_getElem.2 λi j hi hj hij=>?_
  rw[List.length_map,List.length_range] at hi hj
  simp only[List.getElem_map,List.getElem_range]
  exact h.rr i j hi hj (by omega)
 ·obtain⟨j,hj,rfl⟩:=mr hy
  obtain⟨i,hi,rfl|rfl⟩:=K6 hx
  ·exact(h.nr_ i j hi hj).1
  ·exact(h.nr_ i j hi hj).2
section
variable {C:Nat}{w w':World}{v0 v1 v2 v3:Value}{N:Nt}{vn vw vr:Nat->Value}
theorem ONt.setWW {b n c i j:Nat}(h:ONt C w v0 v1 v2 v3 N vn vw vr)(hi:i<N.ways.length)(hv:vw i=.slice (some ⟨b,0,none⟩) n c)(hn:(wat N.ways i).weights.length=n)(z:Int):ONt C (w.setCell ⟨b,j,none⟩ (.int .i64 z)) v0 v1 v2 v3 ⟨N.nodes,N.ways.set i ⟨(wat N.ways i).id,(wat N.ways i).both,(wat N.ways i).nodes,(wat N.ways i).weights.set j z⟩,N.rels,N.turns,N.uturn⟩ vn vw vr:=by
 have ap:=h.apn
 have ho:=h.ww i hi
 rw[hv] at ho
 obtain⟨cs,hb⟩:=Yn ho (show(Value.slice (some ⟨b,0,none⟩) n c).ownBlock=some b from rfl)
 have far:∀{u:Value}{us:List Int},Apv (vw i) u->Qb C w u us->Qb C (w.setCell ⟨b,j,none⟩ (.int .i64 z)) u us:=λha hu=>Jm hu (Chg.set (S:=λx=>x=b) _ _ _ rfl) (λg hg e=>by
  have e':g=b:=e
  subst e'
  rw[hv] at ha
  exact ha g rfl hg)
 have hl:(N.ways.set i ⟨(wat N.ways i).id,(wat N.ways i).both,(wat N.ways i).nodes,(wat N.ways i).weights.set j z⟩).length=N.ways.length:=List.length_set
 refine⟨far (ap.zn i hi).2.symm h.nodes,?_,λk hk=>?_,λk hk=>?_,Q2 h.rels hb (by decide) _ _,λk hk=>far (ap.nr_ i k hi hk).2 (h.rw_ k hk),Q2 h.turns hb (by decide) _ _,?_⟩
 ·show World.ownsRow _ C _ 4 v1 (N.ways.set i _).length (V4 (N.ways.set i _) vn vw)
  rw[hl,Ez (x:=⟨(wat N.ways i).id,(wat N.ways i).both,(wat N.ways i).nodes,(wat N.ways i).weights.set j z⟩) hi rfl rfl]
  exact Q2 h.ways hb (by decide) _ _
 ·replace hk:k<N.ways.length:=by rw[<-hl];exact hk
  show Qb C _ (vn k) (wat (N.ways.set i _) k).nodes
  rw[Vs hi]
  by_cases e:k=i
  ·subst e
   rw[if_pos rfl]
   exact far (ap.nw_ k k hi hi).symm (h.wn k hk)
  ·rw[if_neg e]
   exact far (ap.nw_ k i hk hi).symm (h.wn k hk)
 ·replace hk:k<N.ways.length:=by rw[<-hl];exact hk
  show Qb C _ (vw k) (wat (N.ways.set i _) k).weights
  rw[Vs hi]
  by_cases e:k=i
  ·subst e
   rw[if_pos rfl,hv]
   exact ho.setAt hn z
  ·rw[if_neg e]
   exact far (ap.nn i k hi hk (λq=>e q.symm)).2 (h.ww k hk)
 ·have e:=h.apart
  unfold Ja at e ⊢
  simp only[hl]
  exact e
theorem ONt.setWId {b n c i:Nat}(h:ONt C w v0 (.slice (some ⟨b,0,none⟩) n c) v2 v3 N vn vw vr)(hn:N.ways.length=n)(hi:i<N.ways.length)(z:Int):ONt C (w.setCell ⟨b,i*4,none⟩ (.int .i64 z)) v0 (.slice (some ⟨b,0,none⟩) n c) v2 v3 ⟨N.nodes,N.ways.set i ⟨z,(wat N.ways i).both,(wat N.ways i).nodes,(wat N.ways i).weights⟩,N.rels,N.turns,N.uturn⟩ vn vw vr:=by
 have hw:w.ownsRow C 45 4 (.slice (some ⟨b,0,none⟩) n c) n (V4 N.ways vn vw):=by
  have k:=h.ways
  unfold Yk at k
  rw[hn] at k
  exact k
 obtain⟨cs,hb⟩:=Yn hw (show(Value.slice (some ⟨b,0,none⟩) n c).ownBlock=some b from rfl)
 have hl:(N.ways.set i ⟨z,(wat N.ways i).both,(wat N.ways i).nodes,(wat N.ways i).weights⟩).length=N.ways.length:=List.length_set
 have at_:∀k,(wat (N.ways.set i ⟨z,(wat N.ways i).both,(wat N.ways i).nodes,(wat N.ways i).weights⟩) k).nodes=(wat N.ways k).nodes/\(wat (N.ways.set i ⟨z,(wat N.ways i).both,(wat N.ways i).nodes,(wat N.ways i).weights⟩) k).weights=(wat N.ways k).weights:=λk=>by
  rw[Vs hi]
  by_cases e:k=i
  ·subst e;rw[if_pos rfl];exact⟨rfl,rfl⟩
  ·rw[if_neg e];exact⟨rfl,rfl⟩
 refine⟨Q2 h.nodes hb (by decide) _ _,?_,λk hk=>?_,λk hk=>?_,Q2 h.rels hb (by decide) _ _,λk hk=>Q2 (h.rw_ k hk) hb (by decide) _ _,Q2 h.turns hb (by decide) _ _,?_⟩
 ·have k:=Xt (i:=i*4) hw (.int .i64 z)
  have e:(V4 N.ways vn vw).set (i*4) (.int .i64 z)=V4 (N.ways.set i ⟨z,(wat N.ways i).both,(wat N.ways i).nodes,(wat N.ways i).weights⟩) vn vw:=by
   unfold V4
   rw[hl]
   have q:=Kc (k:=4) (n:=N.ways.length) (i:=i) (q:=0) (f:=λj=>Pc (wat N.ways j) (vn j) (vw j)) (λ_=>rfl) hi (by decide) (.int .i64 z)
   rw[Nat.add_zero] at q
   rw[q]
   refine V8 λj hj=>?_
   rw[Vs hi]
   by_cases e:j=i
   ·subst e;rw[if_pos rfl,if_pos rfl];rfl
   ·rw[if_neg e,if_neg e]
  rw[e] at k
  show World.ownsRow _ C _ 4 _ (N.ways.set i _).length _
  rw[hl,hn]
  exact k
 ·show Qb C _ (vn k) (wat (N.ways.set i _) k).nodes
  rw[(at_ k).1]
  exact Q2 (h.wn k (by rw[<-hl];exact hk)) hb (by decide) _ _
 ·show Qb C _ (vw k) (wat (N.ways.set i _) k).weights
  rw[(at_ k).2]
  exact Q2 (h.ww k (by rw[<-hl];exact hk)) hb (by decide) _ _
 ·have e:=h.apart
  unfold Ja at e ⊢
  simp only[hl]
  exact e
theorem ONt.setRel {i:Nat}{va:Value}{x:Rl}(h:ONt C w v0 v1 v2 v3 N vn vw vr)(hi:i<N.rels.length)(hr:w'.ownsRow C 48 7 v2 N.rels.length (Zz (N.rels.set i x) (upd vr i va)))(hc:Chg (λy=>some y=v2.ownBlock) w w')(ha:Qb C w va x.ways)(h0:Apv v0 va)(hw:∀j,j<N.ways.length->Apv (vn j) va/\Apv (vw j) va)(hrr:∀j,j<N.rels.length->j≠i->Apv (vr j) va) :
  ONt C w' v0 v1 v2 v3 ⟨N.nodes,N.ways,N.rels.set i x,N.turns,N.uturn⟩ vn vw (upd vr i va):=by
 have ap:=h.apn
 have far:∀{u:Value}{zs:List Int},Qb C w u zs->Qb C w' u zs:=λho=>Q4 ho h.rels (by decide) hc
 have hl:(N.rels.set i x).length=N.rels.length:=List.length_set
 refine⟨far h.nodes,Q4 h.ways h.rels (by decide) hc,λk hk=>far (h.wn k hk),λk hk=>far (h.ww k hk),?_,λk hk=>?_,Q4 h.turns h.rels (by decide) hc,?_⟩
 ·show w'.ownsRow C _ 7 v2 (N.rels.set i x).length _
  rw[hl]
  exact hr
 ·show Qb C w' (upd vr i va k) (rat (N.rels.set i x) k).ways
  rw[Q59 hi]
  by_cases e:k=i
  ·subst e
   rw[if_pos rfl,Jf]
   exact far ha
  ·rw[if_neg e,J4 _ _ e]
   exact far (h.rw_ k (by rw[<-hl];exact hk))
 ·have q:ApN N.ways.length N.rels.length v0 vn vw (upd vr i va):=by
   refine⟨ap.zn,λk hk=>?_,ap.nn,ap.nw_,λk j hk hj=>?_,λk j hk hj hn=>?_⟩
   ·by_cases e:k=i
    ·subst e;rw[Jf];exact h0
    ·rw[J4 _ _ e];exact ap.zr k hk
   ·by_cases e:j=i
    ·subst e;rw[Jf];exact hw k hk
    ·rw[J4 _ _ e];exact ap.nr_ k j hk hj
   ·by_cases e:k=i
    ·subst e
     rw[Jf,J4 _ _ (λq=>hn q.symm)]
     exact(hrr j hj (λq=>hn q.symm)).symm
    ·rw[J4 _ _ e]
     by_cases e2:j=i
     ·subst e2;rw[Jf];exact hrr k hk e
     ·rw[J4 _ _ e2];exact ap.rr k j hk hj hn
  have k:=q.apt
  show Apt (Ja _ _ _ _ _)
  unfold Ja
  simp only[hl]
  exact k
end
theorem Ah {α:Type}{k q:Nat}{f:α->List Value}(hf:∀x,(f x).length=k)(hq:q<k){v:Value}{y:α}:∀(l:List α) (i:Nat) (x:α),l[i]?=some x->f y=(f x).set q v->(l.flatMap f).set (i*k+q) v=(l.set i y).flatMap f
 |[],i,x,h,_=>by simp at h
 |a::l,0,x,h,e=>by
  have ha:a=x:=by simpa using h
  subst ha
  rw[Nat.zero_mul,Nat.zero_add,List.flatMap_cons,List.set_append,if_pos (by rw[hf];exact hq),List.set_cons_zero,List.flatMap_cons,e]
 |a::l,i+1,x,h,e=>by
  have h':l[i]?=some x:=by simpa using h
  rw[List.flatMap_cons,List.set_append,hf,if_neg (by rw[Nat.succ_mul];omega),show(i+1)*k+q-k=i*k+q by rw[Nat.succ_mul];omega,Ah hf hq l i x h' e,List.set_cons_succ,List.flatMap_cons]
section
variable {C:Nat}{w:World}{v0 v1 v2 v3:Value}{N:Nt}{vn vw vr:Nat->Value}
theorem ONt.setTurn {b n c i q:Nat}{z:Int}{y:Tn}(h:ONt C w v0 v1 v2 (.slice (some ⟨b,0,none⟩) n c) N vn vw vr)(hn:N.turns.length=n)(hi:i<N.turns.length)(hq:q<3)(hy:Je y=(Je (tat N.turns i)).set q (.int .i64 z)):ONt C (w.setCell ⟨b,i*3+q,none⟩ (.int .i64 z)) v0 v1 v2 (.slice (some ⟨b,0,none⟩) n c) ⟨N.nodes,N.ways,N.rels,N.turns.set i y,N.uturn⟩ vn vw vr:=by
 have hw:w.ownsRow C 51 3 (.slice (some ⟨b,0,none⟩) n c) n (N.turns.flatMap Je):=by
  have k:=h.turns
  unfold Uq at k
  rw[hn] at k
  exact k
 obtain⟨cs,hb⟩:=Yn hw (show(Value.slice (some ⟨b,0,none⟩) n c).ownBlock=some b from rfl)
 refine⟨Q2 h.nodes hb (by decide) _ _,Q2 h.ways hb (by decide) _ _,λk hk=>Q2 (h.wn k hk) hb (by decide) _ _,λk hk=>Q2 (h.ww k hk) hb (by decide) _ _,Q2 h.rels hb (by decide) _ _,λk hk=>Q2 (h.rw_ k hk) hb (by decide) _ _,?_,h.apart⟩
 show World.ownsRow _ C _ 3 _ (N.turns.set i y).length ((N.turns.set i y).flatMap Je)
 rw[List.length_set,hn,<-Ah (k:=3) (λ_=>rfl) hq N.turns i (tat N.turns i) (by simp[tat,List.getD_eq_getElem?_getD,hi]) hy]
 exact Xt hw _
end
theorem Qb.short {C b n c:Nat}{w:World}{zs:List Int}(h:Qb C w (.slice (some ⟨b,0,none⟩) (n+1) c) zs)(hn:zs.length=n+1):Qb C w (.slice (some ⟨b,0,none⟩) n c) (zs.take n):=by
 have hl:(zs.take n).length=n:=by rw[List.length_take];omega
 obtain⟨h1,h2⟩:=h
 unfold Qb
 rw[hl]
 refine⟨by unfold Qx;rw[List.length_map,hl,Nat.mul_one],?_⟩
 rcases h2 with⟨h2,_⟩|⟨g,cap,cur,hv,hg,hh,hc,hm,hs,ht⟩
 ·cases h2
 ·simp only[Value.slice.injEq,Option.some.injEq,Addr.mk.injEq] at hv
  obtain⟨⟨rfl,_⟩,_,rfl⟩:=hv
  refine Or.inr ⟨b,c,cur,rfl,hg,hh,by omega,hm,hs,?_⟩
  rw[hn] at ht
  have e:cur.toList.take (n*1)=(cur.toList.take ((n+1)*1)).take n:=by rw[List.take_take];congr 1;omega
  rw[e,ht]
  unfold Qx
  rw[List.map_take]
def sp0 (k:Int)(X:Nt×Src):Nt×Src:=if k=0 then (⟨X.1.nodes,X.1.ways,X.1.rels,X.1.turns,1048577⟩,X.2) else X
def sp1 (k:Int)(X:Nt×Src):Nt×Src:=if k=1 then (⟨X.1.nodes,X.1.ways,X.1.rels,X.1.turns,-1⟩,X.2) else X
def sp2 (k:Int)(X:Nt×Src):Nt×Src:=if k=2/\1<X.1.nodes.length then (⟨X.1.nodes.set 0 (iat X.1.nodes 1),X.1.ways,X.1.rels,X.1.turns,X.1.uturn⟩,X.2) else X
def sp3 (k:Int)(X:Nt×Src):Nt×Src:=if k=3/\0<X.1.nodes.length then (⟨X.1.nodes.set (X.1.nodes.length-1) (1048576+nv X.2 2),X.1.ways,X.1.rels,X.1.turns,X.1.uturn⟩,ns X.2 2) else X
def sp4 (k:Int)(X:Nt×Src):Nt×Src:=if k=4 then (⟨-1::X.1.nodes,X.1.ways,X.1.rels,X.1.turns,X.1.uturn⟩,X.2) else X
def Iu (k:Int)(N:Nt)(x:Wy)(S:Src):Wy×Src:=
 if k=5 then (⟨x.id,x.both,x.nodes.take (x.nodes.length-1),x.weights⟩,S)
 else if k=6 then (⟨x.id,x.both,x.nodes,x.weights.set 0 1048577⟩,S)
 else if k=7 then (⟨x.id,x.both,x.nodes,x.weights.set (x.weights.length-1) (-1)⟩,S)
 else if k=8 then (⟨x.id,x.both,x.nodes.set (nv S x.nodes.length).toNat 777777,x.weights⟩,ns S x.nodes.length)
 else if k=9 then (⟨(wat N.ways 0).id,x.both,x.nodes,x.weights⟩,S)
 else if k=10 then (⟨x.id,x.both,[iat N.nodes 0],[]⟩,S)
 else (x,S)
def nWy (N:Nt)(i:Nat)(x:Wy):Nt:=⟨N.nodes,N.ways.set i x,N.rels,N.turns,N.uturn⟩
def spW (k:Int)(X:Nt×Src):Nt×Src:=
 if X.1.ways.length=0 then X
 else if k=11 then (nWy X.1 (X.1.ways.length-1) ⟨1048576+nv (ns X.2 X.1.ways.length) 2,(wat X.1.ways (X.1.ways.length-1)).both,(wat X.1.ways (X.1.ways.length-1)).nodes,(wat X.1.ways (X.1.ways.length-1)).weights⟩,ns (ns X.2 X.1.ways.length) 2)
 else if 5<=k/\k<11 then (nWy X.1 (nv X.2 X.1.ways.length).toNat (Iu k X.1 (wat X.1.ways (nv X.2 X.1.ways.length).toNat) (ns X.2 X.1.ways.length)).1,(Iu k X.1 (wat X.1.ways (nv X.2 X.1.ways.length).toNat) (ns X.2 X.1.ways.length)).2)
 else (X.1,ns X.2 X.1.ways.length)
def Q04 (k:Int)(x:Rl):Rl:=if k=12 then ⟨x.id,x.only,777777,x.to,x.via,x.node,x.ways⟩ else x
def Q03 (k:Int)(x:Rl):Rl:=if k=13 then ⟨x.id,x.only,x.frm,777777,x.via,x.node,x.ways⟩ else x
def Q02 (k:Int)(x:Rl):Rl:=if k=14 then ⟨x.id,x.only,x.frm,x.to,!x.via,x.node,x.ways⟩ else x
def Q01 (k:Int)(x:Rl):Rl:=if k=15 then ⟨x.id,x.only,x.frm,x.to,x.via,wrap64 (x.node+1),x.ways⟩ else x
def Q6k (k:Int)(x:Rl):Rl:=if k=16 then ⟨x.id,x.only,x.frm,x.to,x.via,x.node,x.frm::x.ways⟩ else x
def Q6j (k:Int)(rs:List Rl)(x:Rl):Rl:=if k=17 then ⟨(rat rs 0).id,x.only,x.frm,x.to,x.via,x.node,x.ways⟩ else x
def Qdo (k:Int)(rs:List Rl)(x:Rl):Rl:=Q6j k rs (Q6k k (Q01 k (Q02 k (Q03 k (Q04 k x)))))
def spR (k:Int)(X:Nt×Src):Nt×Src:=
 if X.1.rels.length=0 then X
 else (⟨X.1.nodes,X.1.ways,X.1.rels.set (nv X.2 X.1.rels.length).toNat (Qdo k X.1.rels (rat X.1.rels (nv X.2 X.1.rels.length).toNat)),X.1.turns,X.1.uturn⟩,ns X.2 X.1.rels.length)
def nTn (N:Nt)(i:Nat)(y:Tn):Nt:=⟨N.nodes,N.ways,N.rels,N.turns.set i y,N.uturn⟩
def spT (k:Int)(X:Nt×Src):Nt×Src:=
 if X.1.turns.length=0 then X
 else if k=18 then (nTn X.1 (nv X.2 X.1.turns.length).toNat ⟨(tat X.1.turns (nv X.2 X.1.turns.length).toNat).frm,(tat X.1.turns (nv X.2 X.1.turns.length).toNat).to,1048577⟩,ns X.2 X.1.turns.length)
 else if k=19 then (nTn X.1 (nv X.2 X.1.turns.length).toNat ⟨(tat X.1.turns (nv X.2 X.1.turns.length).toNat).frm,777777,(tat X.1.turns (nv X.2 X.1.turns.length).toNat).cost⟩,ns X.2 X.1.turns.length)
 else (X.1,ns X.2 X.1.turns.length)
def Tw (N:Nt)(S:Src):Nt×Src:=spT (nv S 20) (spR (nv S 20) (spW (nv S 20) (sp4 (nv S 20) (sp3 (nv S 20) (sp2 (nv S 20) (sp1 (nv S 20) (sp0 (nv S 20) (N,ns S 20))))))))
theorem Q2x {ops:Array Oper}{rest:List Oper}{o:Oper}{a:Act}{Q:Exit->Act->World->Prop}(hgd:o.guard=none)(s x:Operand)(ho:o.op=.call { callee:=.builtin .append,args:=#[s,x],argTypes:=#[23,23] })
  (C n m B b off c:Nat) (v:Value) (zs ys:List Int) (w:World) (hs:a.eval s=v) (hown:Qb C w v zs) (hx:a.eval x=.slice (some ⟨b,off,none⟩) m c) (hy:Qr B w (.slice (some ⟨b,off,none⟩) m c) ys) (hn:zs.length=n) (hm:ys.length=m) (hl:n+m<=1000000) (hC:C<=w.heap.size)
  (h:∀a' c' w',Qb C w' (.slice a' (n+m) c') (zs++ys)->Chg (λx=>some x=v.ownBlock) w w'->(∀g,(Value.slice a' (n+m) c').ownBlock=some g->v.ownBlock=some g\/w.heap.size<=g)->wpList Tryz.prog ops Q rest (a.put o.dst (.slice a' (n+m) c')) w') :
  wpList Tryz.prog ops Q (o::rest) a w:=by
 subst hn hm
 obtain⟨ii,hi,hz0,hz1,hz2⟩:=info_parts Zt
 have hc:∀j u,(Qx ys)[j]?=some u->w.cell? (Addr.add ⟨b,off,none⟩ j)=some u:=λj u hj=>by
  have hlt:j<ys.length:=by
   have:=(List.getElem?_eq_some_iff.1 hj).1
   unfold Qx at this
   rw[List.length_map] at this
   exact this
  rw[Id hlt] at hj
  rw[<-Option.some.inj hj]
  have k:=hy.at_ j hlt
  unfold Addr.add
  by_cases e:j=0
  ·subst e;simpa using k
  ·rw[if_neg e];exact k
 refine wpList_append_own_at _ hgd s x 23 ho C 2 ii _ 1 8 Tryz.underlying23 hi hz0 hz1 hz2 rfl (by decide) v zs.length (Qx zs) hs hown ⟨b,off,none⟩ ys.length c (Qx ys) hx (by unfold Qx;rw[List.length_map,Nat.mul_one]) hc (λu hu=>?_) (by unfold maxLen;omega) (by omega) hC ?_
 ·unfold Qx at hu
  obtain⟨z,_,rfl⟩:=List.mem_map.1 hu
  rfl
 ·intro v' w' r1 r2 _ r4
  obtain⟨a',c',rfl⟩:=Q3 r1
  refine h a' c' w' ?_ (Chg.grown r2 (λb e=>e)) (λg hg=>?_)
  ·show w'.ownsRow C _ 1 _ (zs++ys).length (Qx (zs++ys))
   rw[List.length_append]
   have e:Qx (zs++ys)=Qx zs++Qx ys:=by unfold Qx;rw[List.map_append]
   rw[e]
   exact r1
  ·rcases r4 with r4|r4
   ·exact Or.inl (by rw[<-r4];exact hg)
   ·rw[r4] at hg
    exact Or.inr (by have:=Option.some.inj hg;omega)
def Fr (N:Nt)(v0:Value)(vn vw vr:Nat->Value)(v va:Value):Prop:=∀y,va.ownBlock=some y->v.ownBlock=some y\/∀x∈Ja N v0 vn vw vr,x.ownBlock≠some y
section
variable {C:Nat}{w w':World}{v0 v1 v2 v3 v va u:Value}{N:Nt}{vn vw vr:Nat->Value}
theorem Fr.ap (hf:Fr N v0 vn vw vr v va)(hu:u∈Ja N v0 vn vw vr)(h:Apv u v):Apv u va:=λg hg ha=>by
 rcases hf g ha with q|q
 ·exact h g hg q
 ·exact q u hu hg
theorem Fr.same:Fr N v0 vn vw vr v v:=λy h=>Or.inl h
theorem Q9p:v0∈Ja N v0 vn vw vr:=by simp[Ja]
theorem Ty {i:Nat}(hi:i<N.ways.length):vn i∈Ja N v0 vn vw vr/\vw i∈Ja N v0 vn vw vr:=
 ⟨List.mem_append_left _ (List.mem_cons_of_mem _ (Uu (vn:=vn) (vw:=vw) hi).1),List.mem_append_left _ (List.mem_cons_of_mem _ (Uu (vn:=vn) (vw:=vw) hi).2)⟩
theorem Q5l {j:Nat}(hj:j<N.rels.length):vr j∈Ja N v0 vn vw vr:=List.mem_append_right _ (List.mem_map.2 ⟨j,List.mem_range.2 hj,rfl⟩)
theorem Fr.fresh (h:ONt C w v0 v1 v2 v3 N vn vw vr)(hn:∀y,va.ownBlock=some y->w.heap.size<=y):Fr N v0 vn vw vr v va:=λy hy=>Or.inr λx hx e=>by
 have h1:=Vk h x hx y e
 have h2:=hn y hy
 omega
theorem ONt.newV0 {zs:List Int}(h:ONt C w v0 v1 v2 v3 N vn vw vr)(ha:Qb C w va zs)(hf:Fr N v0 vn vw vr v0 va):ONt C w va v1 v2 v3 ⟨zs,N.ways,N.rels,N.turns,N.uturn⟩ vn vw vr:=by
 have ap:=h.apn
 refine⟨ha,h.ways,h.wn,h.ww,h.rels,h.rw_,h.turns,?_⟩
 have q:ApN N.ways.length N.rels.length va vn vw vr:=⟨λi hi=>⟨(hf.ap (Ty hi).1 (ap.zn i hi).1.symm).symm,(hf.ap (Ty hi).2 (ap.zn i hi).2.symm).symm⟩,λj hj=>(hf.ap (Q5l hj) (ap.zr j hj).symm).symm,ap.nn,ap.nw_,ap.nr_,ap.rr⟩
 exact q.apt
theorem ONt.putN {b n c i:Nat}{zs:List Int}(h:ONt C w v0 (.slice (some ⟨b,0,none⟩) n c) v2 v3 N vn vw vr)(hn:N.ways.length=n)(hi:i<N.ways.length)(ha:Qb C w va zs)(hf:Fr N v0 vn vw vr (vn i) va):ONt C (w.setCell ⟨b,i*4+2,none⟩ va) v0 (.slice (some ⟨b,0,none⟩) n c) v2 v3 ⟨N.nodes,N.ways.set i ⟨(wat N.ways i).id,(wat N.ways i).both,zs,(wat N.ways i).weights⟩,N.rels,N.turns,N.uturn⟩ (upd vn i va) vw vr:=by
 have ap:=h.apn
 have hw:w.ownsRow C 45 4 (.slice (some ⟨b,0,none⟩) n c) n (V4 N.ways vn vw):=by
  have k:=h.ways
  unfold Yk at k
  rw[hn] at k
  exact k
 obtain⟨cs,hb⟩:=Yn hw (show(Value.slice (some ⟨b,0,none⟩) n c).ownBlock=some b from rfl)
 obtain⟨x,hx⟩:∃x:Wy,x=⟨(wat N.ways i).id,(wat N.ways i).both,zs,(wat N.ways i).weights⟩:=⟨_,rfl⟩
 have x1:x.id=(wat N.ways i).id:=by rw[hx]
 have x2:x.both=(wat N.ways i).both:=by rw[hx]
 have x3:x.nodes=zs:=by rw[hx]
 have x4:x.weights=(wat N.ways i).weights:=by rw[hx]
 rw[<-hx]
 have hl:(N.ways.set i x).length=N.ways.length:=List.length_set
 refine⟨Q2 h.nodes hb (by decide) _ _,?_,λk hk=>?_,λk hk=>?_,Q2 h.rels hb (by decide) _ _,λk hk=>Q2 (h.rw_ k hk) hb (by decide) _ _,Q2 h.turns hb (by decide) _ _,?_⟩
 ·have k:=Xt (i:=i*4+2) hw va
  have e:(V4 N.ways vn vw).set (i*4+2) va=V4 (N.ways.set i x) (upd vn i va) vw:=by
   unfold V4
   rw[hl,Kc (k:=4) (n:=N.ways.length) (i:=i) (q:=2) (f:=λj=>Pc (wat N.ways j) (vn j) (vw j)) (λ_=>rfl) hi (by decide) va]
   refine V8 λj hj=>?_
   rw[Vs hi]
   by_cases e:j=i
   ·subst e;rw[if_pos rfl,if_pos rfl,Jf];unfold Pc;rw[x1,x2];rfl
   ·rw[if_neg e,if_neg e,J4 _ _ e]
  rw[e] at k
  show World.ownsRow _ C _ 4 _ (N.ways.set i x).length _
  rw[hl,hn]
  exact k
 ·replace hk:k<N.ways.length:=by rw[<-hl];exact hk
  show Qb C _ (upd vn i va k) (wat (N.ways.set i x) k).nodes
  rw[Vs hi]
  by_cases e:k=i
  ·subst e
   rw[if_pos rfl,x3,Jf]
   exact Q2 ha hb (by decide) _ _
  ·rw[if_neg e,J4 _ _ e]
   exact Q2 (h.wn k hk) hb (by decide) _ _
 ·replace hk:k<N.ways.length:=by rw[<-hl];exact hk
  show Qb C _ (vw k) (wat (N.ways.set i x) k).weights
  rw[Vs hi]
  by_cases e:k=i
  ·subst e
   rw[if_pos rfl,x4]
   exact Q2 (h.ww k hk) hb (by decide) _ _
  ·rw[if_neg e]
   exact Q2 (h.ww k hk) hb (by decide) _ _
 ·have q:ApN N.ways.length N.rels.length v0 (upd vn i va) vw vr:=by
   refine⟨λk hk=>⟨?_,(ap.zn k hk).2⟩,ap.zr,λk j hk hj hne=>⟨?_,(ap.nn k j hk hj hne).2⟩,λk j hk hj=>?_,λk j hk hj=>⟨?_,(ap.nr_ k j hk hj).2⟩,ap.rr⟩
   ·by_cases e:k=i
    ·subst e;rw[Jf];exact hf.ap Q9p (ap.zn k hk).1
    ·rw[J4 _ _ e];exact(ap.zn k hk).1
   ·by_cases e:k=i
    ·subst e;rw[Jf,J4 _ _ (λe=>hne e.symm)];exact(hf.ap (Ty hj).1 (ap.nn j k hj hk (λe=>hne e.symm)).1).symm
    ·rw[J4 _ _ e]
     by_cases e2:j=i
     ·subst e2;rw[Jf];exact hf.ap (Ty hk).1 (ap.nn k j hk hj hne).1
     ·rw[J4 _ _ e2];exact(ap.nn k j hk hj hne).1
   ·by_cases e:k=i
    ·subst e;rw[Jf];exact(hf.ap (Ty hj).2 (ap.nw_ k j hk hj).symm).symm
    ·rw[J4 _ _ e];exact ap.nw_ k j hk hj
   ·by_cases e:k=i
    ·subst e;rw[Jf];exact(hf.ap (Q5l hj) (ap.nr_ k j hk hj).1.symm).symm
    ·rw[J4 _ _ e];exact(ap.nr_ k j hk hj).1
  have k:=q.apt
  show Apt (Ja _ _ _ _ _)
  unfold Ja
  simp only[hl]
  exact k
theorem ONt.putW {b n c i:Nat}{zs:List Int}(h:ONt C w v0 (.slice (some ⟨b,0,none⟩) n c) v2 v3 N vn vw vr)(hn:N.ways.length=n)(hi:i<N.ways.length)(ha:Qb C w va zs)(hf:Fr N v0 vn vw vr (vw i) va):ONt C (w.setCell ⟨b,i*4+3,none⟩ va) v0 (.slice (some ⟨b,0,none⟩) n c) v2 v3 ⟨N.nodes,N.ways.set i ⟨(wat N.ways i).id,(wat N.ways i).both,(wat N.ways i).nodes,zs⟩,N.rels,N.turns,N.uturn⟩ vn (upd vw i va) vr:=by
 have ap:=h.apn
 have hw:w.ownsRow C 45 4 (.slice (some ⟨b,0,none⟩) n c) n (V4 N.ways vn vw):=by
  have k:=h.ways
  unfold Yk at k
  rw[hn] at k
  exact k
 obtain⟨cs,hb⟩:=Yn hw (show(Value.slice (some ⟨b,0,none⟩) n c).ownBlock=some b from rfl)
 obtain⟨x,hx⟩:∃x:Wy,x=⟨(wat N.ways i).id,(wat N.ways i).both,(wat N.ways i).nodes,zs⟩:=⟨_,rfl⟩
 have x1:x.id=(wat N.ways i).id:=by rw[hx]
 have x2:x.both=(wat N.ways i).both:=by rw[hx]
 have x3:x.weights=zs:=by rw[hx]
 have x4:x.nodes=(wat N.ways i).nodes:=by rw[hx]
 rw[<-hx]
 have hl:(N.ways.set i x).length=N.ways.length:=List.length_set
 refine⟨Q2 h.nodes hb (by decide) _ _,?_,λk hk=>?_,λk hk=>?_,Q2 h.rels hb (by decide) _ _,λk hk=>Q2 (h.rw_ k hk) hb (by decide) _ _,Q2 h.turns hb (by decide) _ _,?_⟩
 ·have k:=Xt (i:=i*4+3) hw va
  have e:(V4 N.ways vn vw).set (i*4+3) va=V4 (N.ways.set i x) vn (upd vw i va):=by
   unfold V4
   rw[hl,Kc (k:=4) (n:=N.ways.length) (i:=i) (q:=3) (f:=λj=>Pc (wat N.ways j) (vn j) (vw j)) (λ_=>rfl) hi (by decide) va]
   refine V8 λj hj=>?_
   rw[Vs hi]
   by_cases e:j=i
   ·subst e;rw[if_pos rfl,if_pos rfl,Jf];unfold Pc;rw[x1,x2];rfl
   ·rw[if_neg e,if_neg e,J4 _ _ e]
  rw[e] at k
  show World.ownsRow _ C _ 4 _ (N.ways.set i x).length _
  rw[hl,hn]
  exact k
 ·replace hk:k<N.ways.length:=by rw[<-hl];exact hk
  show Qb C _ (vn k) (wat (N.ways.set i x) k).nodes
  rw[Vs hi]
  by_cases e:k=i
  ·subst e
   rw[if_pos rfl,x4]
   exact Q2 (h.wn k hk) hb (by decide) _ _
  ·rw[if_neg e]
   exact Q2 (h.wn k hk) hb (by decide) _ _
 ·replace hk:k<N.ways.length:=by rw[<-hl];exact hk
  show Qb C _ (upd vw i va k) (wat (N.ways.set i x) k).weights
  rw[Vs hi]
  by_cases e:k=i
  ·subst e
   rw[if_pos rfl,x3,Jf]
   exact Q2 ha hb (by decide) _ _
  ·rw[if_neg e,J4 _ _ e]
   exact Q2 (h.ww k hk) hb (by decide) _ _
 ·have q:ApN N.ways.length N.rels.length v0 vn (upd vw i va) vr:=by
   refine⟨λk hk=>⟨(ap.zn k hk).1,?_⟩,ap.zr,λk j hk hj hne=>⟨(ap.nn k j hk hj hne).1,?_⟩,λk j hk hj=>?_,λk j hk hj=>⟨(ap.nr_ k j hk hj).1,?_⟩,ap.rr⟩
   ·by_cases e:k=i
    ·subst e;rw[Jf];exact hf.ap Q9p (ap.zn k hk).2
    ·rw[J4 _ _ e];exact(ap.zn k hk).2
   ·by_cases e:k=i
    ·subst e;rw[Jf,J4 _ _ (λe=>hne e.symm)];exact(hf.ap (Ty hj).2 (ap.nn j k hj hk (λe=>hne e.symm)).2).symm
    ·rw[J4 _ _ e]
     by_cases e2:j=i
     ·subst e2;rw[Jf];exact hf.ap (Ty hk).2 (ap.nn k j hk hj hne).2
     ·rw[J4 _ _ e2];exact(ap.nn k j hk hj hne).2
   ·by_cases e:j=i
    ·subst e;rw[Jf];exact hf.ap (Ty hk).1 (ap.nw_ k j hk hj)
    ·rw[J4 _ _ e];exact ap.nw_ k j hk hj
   ·by_cases e:k=i
    ·subst e;rw[Jf];exact(hf.ap (Q5l hj) (ap.nr_ k j hk hj).2.symm).symm
    ·rw[J4 _ _ e];exact(ap.nr_ k j hk hj).2
  have k:=q.apt
  show Apt (Ja _ _ _ _ _)
  unfold Ja
  simp only[hl]
  exact k
def Q8o (l:List Value)(p:Nat):List Value->List Value
 |[]=>l
 |v::vs=>Q8o (l.set p v) (p+1) vs
theorem Ag {k n i:Nat}(hi:i<n):∀(vs:List Value) (q:Nat) (f:Nat->List Value),(∀j,(f j).length=k)->q+vs.length<=k->Q8o ((List.range n).flatMap f) (i*k+q) vs=(List.range n).flatMap (λj=>if j=i then Q8o (f j) q vs else f j)
 |[],q,f,_,_=>by
  show _=_
  refine V8 λj hj=>?_
  by_cases e:j=i
  ·rw[if_pos e];rfl
  ·rw[if_neg e]
 |v::vs,q,f,hf,hq=>by
  simp only[List.length_cons] at hq
  show Q8o (((List.range n).flatMap f).set (i*k+q) v) (i*k+q+1) vs=_
  rw[Kc hf hi (by omega) v,Nat.add_assoc,Ag hi vs (q+1) (λj=>if j=i then (f j).set q v else f j) (λj=>by split<;>simp[hf]) (by omega)]
  refine V8 λj hj=>?_
  by_cases e:j=i
  ·rw[if_pos e,if_pos e,if_pos e];rfl
  ·rw[if_neg e,if_neg e,if_neg e]
theorem ONt.putR {b n c i:Nat}{x:Rl}(h:ONt C w v0 v1 (.slice (some ⟨b,0,none⟩) n c) v3 N vn vw vr)(hn:N.rels.length=n)(hi:i<N.rels.length)(ha:Qb C w va x.ways)(hf:Fr N v0 vn vw vr (vr i) va) :
  ONt C (((((((w.setCell ⟨b,i*7,none⟩ (.int .i64 x.id)).setCell ⟨b,i*7+1,none⟩ (.bool x.only)).setCell ⟨b,i*7+2,none⟩ (.int .i64 x.frm)).setCell ⟨b,i*7+3,none⟩ (.int .i64 x.to)).setCell ⟨b,i*7+4,none⟩ (.bool x.via)).setCell ⟨b,i*7+5,none⟩ (.int .i64 x.node)).setCell ⟨b,i*7+6,none⟩ va) v0 v1 (.slice (some ⟨b,0,none⟩) n c) v3 ⟨N.nodes,N.ways,N.rels.set i x,N.turns,N.uturn⟩ vn vw (upd vr i va):=by
 have ap:=h.apn
 have hw:w.ownsRow C 48 7 (.slice (some ⟨b,0,none⟩) n c) n (Zz N.rels vr):=by
  have k:=h.rels
  unfold Ir at k
  rw[hn] at k
  exact k
 have hl:(N.rels.set i x).length=N.rels.length:=List.length_set
 have S:∀{a c2:World} (j:Nat) (y:Value),Chg (λz=>some z=(Value.slice (some ⟨b,0,none⟩) n c).ownBlock) a c2->Chg (λz=>some z=(Value.slice (some ⟨b,0,none⟩) n c).ownBlock) a (c2.setCell ⟨b,j,none⟩ y):=λj y hc=>hc.trans (Chg.set b j y rfl)
 refine h.setRel hi ?_ (S _ _ (S _ _ (S _ _ (S _ _ (S _ _ (S _ _ (S _ _ (Chg.nx (Nx.refl _))))))))) ha (hf.ap Q9p (ap.zr i hi)) (λj hj=>⟨hf.ap (Ty hj).1 (ap.nr_ j i hj hi).1,hf.ap (Ty hj).2 (ap.nr_ j i hj hi).2⟩) (λj hj e=>hf.ap (Q5l hj) (ap.rr j i hj hi e))
 have e:Q8o (Zz N.rels vr) (i*7+0) [.int .i64 x.id,.bool x.only,.int .i64 x.frm,.int .i64 x.to,.bool x.via,.int .i64 x.node,va]=Zz (N.rels.set i x) (upd vr i va):=by
  unfold Zz
  rw[Ag hi _ 0 (λj=>Q0c (rat N.rels j) (vr j)) (k:=7) (λ_=>rfl) (Nat.le_refl _),hl]
  refine V8 λj hj=>?_
  rw[Q59 hi]
  by_cases e:j=i
  ·subst e;rw[if_pos rfl,if_pos rfl,Jf];rfl
  ·rw[if_neg e,if_neg e,J4 _ _ e]
 rw[<-e,hn]
 exact Xt (Xt (Xt (Xt (Xt (Xt (Xt hw _) _) _) _) _) _) _
end
structure SPs (D b C:Nat)(w0 w:World)(v0 v1 v2 v3:Value)(N:Nt)(S:Src)(vn vw vr:Nat->Value):Prop where
 chg:Chg (λx=>x=b\/C<=x) w0 w
 src:J8 D w b S
 box:BT w w0.heap.size #[v0,v1,v2,v3,.int .i64 N.uturn] 28
 res:BT w (w0.heap.size+1) #[.slice none 0 0,.slice none 0 0,.slice none 0 0,.slice none 0 0,.int .i64 0] 28
 net:ONt C w v0 v1 v2 v3 N vn vw vr
 low:C<=w0.heap.size
def SPx (D b C:Nat)(w0 w:World)(X:Nt×Src):Prop:=∃v0 v1 v2 v3 vn vw vr,SPs D b C w0 w v0 v1 v2 v3 X.1 X.2 vn vw vr
section
variable {D b C:Nat}{w0 w w':World}{v0 v1 v2 v3 u0 u1 u2 u3:Value}{N N':Nt}{S S':Src}{vn vw vr un uw ur:Nat->Value}
theorem SPs.x (h:SPs D b C w0 w v0 v1 v2 v3 N S vn vw vr):SPx D b C w0 w (N,S):=⟨_,_,_,_,_,_,_,h⟩
theorem SPs.next (h:SPs D b C w0 w v0 v1 v2 v3 N S vn vw vr)(k:Nx w w'):SPs D b C w0 w' v0 v1 v2 v3 N S vn vw vr:=⟨h.chg.trans (Chg.nx k),h.src.next k,h.box.next k,h.res.next k,h.net.next k,h.low⟩
theorem SPs.drawn (h:SPs D b C w0 w v0 v1 v2 v3 N S vn vw vr)(hS:J8 D w' b S')(k:Chg (Sx1 b) w w'):SPs D b C w0 w' v0 v1 v2 v3 N S' vn vw vr:=by
 have hn:=h.net.src h.src k
 obtain⟨v,hb,_⟩:=h.src
 exact⟨h.chg.trans (k.mono λx hx=>Or.inl hx),hS,h.box.chg k (h.box.ne hb (by decide)),h.res.chg k (h.res.ne hb (by decide)),hn,h.low⟩
theorem Gr {g t:Nat}{cs:Array Value}(h:J8 D w b S)(hg:BT w g cs t)(ht:t≠73/\t≠5)(hc:Chg (λx=>x=g) w w'):J8 D w' b S:=h.chg hc (λx hx=>by
 have e:x=g:=hx
 subst e
 exact⟨cs,t,hg,ht⟩)
theorem SPs.write {g t:Nat}{cs:Array Value}(h:SPs D b C w0 w v0 v1 v2 v3 N S vn vw vr)(hg:BT w g cs t)(ht:(t≠73/\t≠5)/\28≠t)(hC:C<=g)(hc:Chg (λx=>x=g) w w')(hN:ONt C w' v0 v1 v2 v3 N' un uw ur)(hu:N'.uturn=N.uturn):SPs D b C w0 w' v0 v1 v2 v3 N' S un uw ur:=
 ⟨h.chg.trans (hc.mono λx hx=>Or.inr (by have e:x=g:=hx;omega)),Gr h.src hg ht.1 hc,by rw[hu];exact h.box.chg hc (h.box.ne hg ht.2),h.res.chg hc (h.res.ne hg ht.2),hN,h.low⟩
theorem SPs.lay (j:Nat)(v:Value)(h:SPs D b C w0 w v0 v1 v2 v3 N S vn vw vr)(hN:ONt C w u0 u1 u2 u3 N' un uw ur)(e:(#[v0,v1,v2,v3,.int .i64 N.uturn]:Array Value).setIfInBounds j v=#[u0,u1,u2,u3,.int .i64 N'.uturn]):SPs D b C w0 (w.setCell ⟨w0.heap.size,j,none⟩ v) u0 u1 u2 u3 N' S un uw ur:=by
 have hc:Chg (λx=>x=w0.heap.size) w (w.setCell ⟨w0.heap.size,j,none⟩ v):=Chg.set _ _ _ rfl
 refine⟨h.chg.trans (hc.mono λx hx=>Or.inr (by have e:x=w0.heap.size:=hx;have:=h.low;omega)),Gr h.src h.box (by decide) hc,?_,h.res.chg hc (show ¬(w0.heap.size+1=w0.heap.size) by omega),hN.turnBox h.box (by decide) (λe=>absurd e (by decide)) hc,h.low⟩
 have k:=h.box.set j v
 rw[e] at k
 exact k
end
structure U4 (m:Nat)(X:Nt×Src):Prop where
 ok:SOk X.2
 n1:1<=X.1.nodes.length
 n2:X.1.nodes.length<=m
 wl:X.1.ways.length<=900000
 wy:∀i,i<X.1.ways.length->(1<=(wat X.1.ways i).nodes.length/\(wat X.1.ways i).nodes.length<=900000)/\1<=(wat X.1.ways i).weights.length/\(wat X.1.ways i).weights.length<=900000
 rl:X.1.rels.length<=900000
 rw_:∀i,i<X.1.rels.length->(rat X.1.rels i).ways.length<=900000
 tl:X.1.turns.length<=900000
section
variable {m:Nat}{k:Int}{X:Nt×Src}
theorem Qdu (h:U4 m X):U4 m (sp0 k X):=by
 unfold sp0
 split
 ·exact⟨h.ok,h.n1,h.n2,h.wl,h.wy,h.rl,h.rw_,h.tl⟩
 ·exact h
theorem Qdt (h:U4 m X):U4 m (sp1 k X):=by
 unfold sp1
 split
 ·exact⟨h.ok,h.n1,h.n2,h.wl,h.wy,h.rl,h.rw_,h.tl⟩
 ·exact h
theorem Qds (h:U4 m X):U4 m (sp2 k X):=by
 unfold sp2
 split
 ·exact⟨h.ok,by simp only[List.length_set];exact h.n1,by simp only[List.length_set];exact h.n2,h.wl,h.wy,h.rl,h.rw_,h.tl⟩
 ·exact h
theorem Qdr (h:U4 m X):U4 m (sp3 k X):=by
 unfold sp3
 split
 ·exact⟨Qj h.ok 2,by simp only[List.length_set];exact h.n1,by simp only[List.length_set];exact h.n2,h.wl,h.wy,h.rl,h.rw_,h.tl⟩
 ·exact h
theorem Qdq (h:U4 m X):U4 (m+1) (sp4 k X):=by
 have:=h.n2
 unfold sp4
 split
 ·exact⟨h.ok,by simp only[List.length_cons];omega,by simp only[List.length_cons];omega,h.wl,h.wy,h.rl,h.rw_,h.tl⟩
 ·exact⟨h.ok,h.n1,by omega,h.wl,h.wy,h.rl,h.rw_,h.tl⟩
structure Qck (X:Nt×Src):Prop where
 ok:SOk X.2
 rl:X.1.rels.length<=900000
 rw_:∀i,i<X.1.rels.length->(rat X.1.rels i).ways.length<=900000
 tl:X.1.turns.length<=900000
theorem Qbe {N:Nt}{x:Wy}{S:Src}(h:SOk S):SOk (Iu k N x S).2:=by
 unfold Iu
 repeat (first|exact h|exact Qj h _|split)
theorem Qdn (h:U4 m X):Qck (spW k X):=by
 unfold spW
 split
 ·exact⟨h.ok,h.rl,h.rw_,h.tl⟩
 ·split
  ·exact⟨Qj (Qj h.ok X.1.ways.length) 2,h.rl,h.rw_,h.tl⟩
  ·split
   ·exact⟨Qbe (Qj h.ok X.1.ways.length),h.rl,h.rw_,h.tl⟩
   ·exact⟨Qj h.ok X.1.ways.length,h.rl,h.rw_,h.tl⟩
theorem Qdp (h:Qck X):SOk (spR k X).2/\(spR k X).1.turns.length<=900000:=by
 unfold spR
 split
 ·exact⟨h.ok,h.tl⟩
 ·exact⟨Qj h.ok X.1.rels.length,h.tl⟩
end
section
variable {C g n c i:Nat}{w:World}{v0 v1 v2 v3:Value}{N:Nt}{vn vw vr:Nat->Value}
theorem ONt.way (h:ONt C w v0 (.slice (some ⟨g,0,none⟩) n c) v2 v3 N vn vw vr)(hi:i<N.ways.length):C<=g/\(∃cs,BT w g cs 45)/\w.cell? ⟨g,i*4,none⟩=some (.int .i64 (wat N.ways i).id)/\w.cell? ⟨g,i*4+2,none⟩=some (vn i)/\w.cell? ⟨g,i*4+3,none⟩=some (vw i):=by
 obtain⟨g',c',e,hg,-,k0,-,k2,k3⟩:=h.ways.at hi
 simp only[Value.slice.injEq,Option.some.injEq,Addr.mk.injEq] at e
 obtain⟨⟨rfl,-⟩,-⟩:=e
 exact⟨hg,Yn h.ways rfl,k0,k2,k3⟩
theorem ONt.rel (h:ONt C w v0 v1 (.slice (some ⟨g,0,none⟩) n c) v3 N vn vw vr)(hi:i<N.rels.length):C<=g/\(∃cs,BT w g cs 48)/\w.cell? ⟨g,i*7,none⟩=some (.int .i64 (rat N.rels i).id)/\w.cell? ⟨g,i*7+1,none⟩=some (.bool (rat N.rels i).only)/\w.cell? ⟨g,i*7+2,none⟩=some (.int .i64 (rat N.rels i).frm)/\w.cell? ⟨g,i*7+3,none⟩=some (.int .i64 (rat N.rels i).to)/\w.cell? ⟨g,i*7+4,none⟩=some (.bool (rat N.rels i).via)/\w.cell? ⟨g,i*7+5,none⟩=some (.int .i64 (rat N.rels i).node)/\w.cell? ⟨g,i*7+6,none⟩=some (vr i):=by
 obtain⟨g',c',e,hg,-,k⟩:=h.rels.at hi
 simp only[Value.slice.injEq,Option.some.injEq,Addr.mk.injEq] at e
 obtain⟨⟨rfl,-⟩,-⟩:=e
 exact⟨hg,Yn h.rels rfl,k⟩
theorem ONt.turn (h:ONt C w v0 v1 v2 (.slice (some ⟨g,0,none⟩) n c) N vn vw vr)(hi:i<N.turns.length):C<=g/\(∃cs,BT w g cs 51)/\w.cell? ⟨g,i*3+1,none⟩=some (.int .i64 (tat N.turns i).to)/\w.cell? ⟨g,i*3+2,none⟩=some (.int .i64 (tat N.turns i).cost):=by
 have h3:=h.turns
 obtain⟨g',c',e,-,-,hg,-,k⟩:=Jc (l:=N.turns) (f:=Je) h3 rfl (by decide) (λ_=>rfl) (i:=i) (x:=tat N.turns i) (by simp[tat,List.getD_eq_getElem?_getD,hi])
 simp only[Value.slice.injEq,Option.some.injEq,Addr.mk.injEq] at e
 obtain⟨⟨rfl,-⟩,-⟩:=e
 exact⟨hg,Yn h3 rfl,k 1 (by omega),k 2 (by omega)⟩
end
section
variable {D b C:Nat}{w0 w:World}{v0 v1 v2 v3:Value}{N:Nt}{S:Src}{vn vw vr:Nat->Value}
theorem SPs.s0 (h:SPs D b C w0 w v0 v1 v2 v3 N S vn vw vr)(hp:0<N.nodes.length):∃g c,v0=.slice (some ⟨g,0,none⟩) N.nodes.length c:=by
 obtain⟨g,c,cs,e,-⟩:=h.net.nodes.open hp
 exact⟨g,c,e⟩
theorem SPs.s1 (h:SPs D b C w0 w v0 v1 v2 v3 N S vn vw vr)(hp:0<N.ways.length):∃g c,v1=.slice (some ⟨g,0,none⟩) N.ways.length c:=by
 obtain⟨g,c,e,-⟩:=h.net.ways.at hp
 exact⟨g,c,e⟩
theorem SPs.s2 (h:SPs D b C w0 w v0 v1 v2 v3 N S vn vw vr)(hp:0<N.rels.length):∃g c,v2=.slice (some ⟨g,0,none⟩) N.rels.length c:=by
 obtain⟨g,c,e,-⟩:=h.net.rels.at hp
 exact⟨g,c,e⟩
theorem SPs.s3 (h:SPs D b C w0 w v0 v1 v2 v3 N S vn vw vr)(hp:0<N.turns.length):∃g c,v3=.slice (some ⟨g,0,none⟩) N.turns.length c:=by
 obtain⟨g,c,e,-⟩:=Jc (l:=N.turns) (f:=Je) h.net.turns rfl (by decide) (λ_=>rfl) (i:=0) (x:=tat N.turns 0) (by simp[tat,List.getD_eq_getElem?_getD,hp])
 exact⟨g,c,e⟩
theorem SPx.box {X:Nt×Src}(h:SPx D b C w0 w X):∃a0 c0 a1 c1 a2 c2 a3 c3,w.cell? ⟨w0.heap.size,0,none⟩=some (.slice a0 X.1.nodes.length c0)/\w.cell? ⟨w0.heap.size,1,none⟩=some (.slice a1 X.1.ways.length c1)/\w.cell? ⟨w0.heap.size,2,none⟩=some (.slice a2 X.1.rels.length c2)/\w.cell? ⟨w0.heap.size,3,none⟩=some (.slice a3 X.1.turns.length c3):=by
 obtain⟨v0,v1,v2,v3,vn,vw,vr,h⟩:=h
 obtain⟨a0,c0,rfl⟩:=Q3 h.net.nodes
 obtain⟨a1,c1,rfl⟩:=Q3 h.net.ways
 obtain⟨a2,c2,rfl⟩:=Q3 h.net.rels
 obtain⟨a3,c3,rfl⟩:=Q3 h.net.turns
 exact⟨a0,c0,a1,c1,a2,c2,a3,c3,h.box.blk.cell (i:=0) rfl,h.box.blk.cell (i:=1) rfl,h.box.blk.cell (i:=2) rfl,h.box.blk.cell (i:=3) rfl⟩
end
theorem Ky {k:Int}{N:Nt}{S:Src}{i:Nat}(hn:¬N.ways.length=0)(hk:5<=k/\k<11)(hi:(nv S N.ways.length).toNat=i):spW k (N,S)=(nWy N i (Iu k N (wat N.ways i) (ns S N.ways.length)).1,(Iu k N (wat N.ways i) (ns S N.ways.length)).2):=by
 unfold spW
 simp only
 rw[if_neg hn,if_neg (by omega),if_pos hk,hi]
theorem Qe4 {C:Nat}{w:World}{z:Int}(hC:C<=w.heap.size):Qb C (w.alloc (.cells #[.int .i64 z] 2)) (.slice (some ⟨w.heap.size,0,none⟩) 1 1) [z]:=
 ⟨rfl,Or.inr ⟨w.heap.size,1,#[.int .i64 z],rfl,hC,BT.new _ _ _ _ rfl,Nat.le_refl _,by simp[maxLen],rfl,rfl⟩⟩
theorem own0 {C:Nat}{w:World}(hC:C<=w.heap.size):Qb C (w.alloc (.cells #[] 2)) (.slice (some ⟨w.heap.size,0,none⟩) 0 0) []:=
 ⟨rfl,Or.inr ⟨w.heap.size,0,#[],rfl,hC,BT.new _ _ _ _ rfl,Nat.le_refl _,by simp[maxLen],rfl,rfl⟩⟩
theorem Q3s {w w8:World}{o:Obj}{n c:Nat}(r2:Chg (λx=>some x=(Value.slice (some ⟨w.heap.size,0,none⟩) n c).ownBlock) (w.alloc o) w8):Nx w w8:=
 Below.trans (Qd w o) (r2.below (B:=w.heap.size) (by have:=(Qd w o).size;omega) (λx hx=>by have e:x=w.heap.size:=Option.some.inj hx;omega))
theorem Qao {w:World}{n c:Nat}{v:Value}(r3:∀g,v.ownBlock=some g->(Value.slice (some ⟨w.heap.size,0,none⟩) n c).ownBlock=some g\/w.heap.size+1<=g):∀y,v.ownBlock=some y->w.heap.size<=y:=λy hy=>by
 rcases r3 y hy with e|e
 ·have e':w.heap.size=y:=Option.some.inj e
  omega
 ·omega
def Qe0 (x:Rl)(va:Value):Array Value:=#[.int .i64 x.id,.bool x.only,.int .i64 x.frm,.int .i64 x.to,.bool x.via,.int .i64 x.node,va]
structure RSs (D b C:Nat)(w0 w:World)(g i:Nat)(v0 v1 v2 v3:Value)(N:Nt)(S:Src)(vn vw vr:Nat->Value)(x:Rl)(va:Value):Prop where
 st:SPs D b C w0 w v0 v1 v2 v3 N S vn vw vr
 bx:BT w g (Qe0 x va) 48
 row:Qb C w va x.ways
 fr:Fr N v0 vn vw vr (vr i) va
 ne:v2.ownBlock≠some g
 low:C<=g
def RSx (D b C:Nat)(w0 w:World)(g i:Nat)(N:Nt)(S:Src)(x:Rl):Prop:=∃v0 v1 v2 v3 vn vw vr va,RSs D b C w0 w g i v0 v1 v2 v3 N S vn vw vr x va
section
variable {D b C g i:Nat}{w0 w w':World}{v0 v1 v2 v3 va vb:Value}{N:Nt}{S:Src}{vn vw vr:Nat->Value}{x y:Rl}
theorem RSs.put (j:Nat)(v:Value)(h:RSs D b C w0 w g i v0 v1 v2 v3 N S vn vw vr x va)(ho:Qb C w vb y.ways)(hf:Fr N v0 vn vw vr (vr i) vb)(e:(Qe0 x va).setIfInBounds j v=Qe0 y vb):RSx D b C w0 (w.setCell ⟨g,j,none⟩ v) g i N S y:=by
 have hc:Chg (λx=>x=g) w (w.setCell ⟨g,j,none⟩ v):=Chg.set _ _ _ rfl
 have k:=h.bx.set j v
 rw[e] at k
 exact⟨_,_,_,_,_,_,_,vb,h.st.write h.bx (by decide) h.low hc (h.st.net.turnBox h.bx (by decide) (λ_=>h.ne) hc) rfl,k,Q2 ho h.bx (by decide) _ _,hf,h.ne,h.low⟩
theorem RSs.next (h:RSs D b C w0 w g i v0 v1 v2 v3 N S vn vw vr x va)(k:Nx w w'):RSs D b C w0 w' g i v0 v1 v2 v3 N S vn vw vr x va:=⟨h.st.next k,h.bx.next k,h.row.next k,h.fr,h.ne,h.low⟩
end
section
variable {k:Int}{x:Rl}
theorem Qdl:(Q04 k x).ways=x.ways:=by unfold Q04;split<;>rfl
theorem Qdk:(Q03 k x).ways=x.ways:=by unfold Q03;split<;>rfl
theorem Qdj:(Q02 k x).ways=x.ways:=by unfold Q02;split<;>rfl
theorem Qdi:(Q01 k x).ways=x.ways:=by unfold Q01;split<;>rfl
end
theorem Qbs {N:Nt}{i:Nat}{x y:Wy}(hi:i<N.ways.length):nWy (nWy N i x) i y=nWy N i y:=by
 unfold nWy
 simp only[List.set_set]
theorem Qea {N:Nt}{i:Nat}{x:Wy}(hi:i<N.ways.length):wat (nWy N i x).ways i=x:=by
 show wat (N.ways.set i x) i=x
 rw[Vs hi,if_pos rfl]
end Go.Proofs.YtmmolhlihhdkcaaGreatDoor
