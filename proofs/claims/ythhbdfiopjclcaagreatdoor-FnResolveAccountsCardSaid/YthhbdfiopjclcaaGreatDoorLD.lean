import Derived.Test.YthhbdfiopjclcaaGreatDoorKN
import Derived.RangeFuncOwn
import Derived.RangeFuncNested
import Derived.RangeFuncBound
import Derived.RangeFuncCalls
import Derived.RangeFuncLeaves
import Derived.Shelf.Abstract
import Derived.Shelf.RegionOpen
import Derived.OwnWalkIn
import Derived.LoopIn
namespace Go.Proofs.YthhbdfiopjclcaaGreatDoor
open Go.RowKit Go.Sort Go.Maps
set_option linter.unusedVariables false
set_option maxRecDepth 1000000
set_option maxHeartbeats 16000000
theorem step_mapUpdate_in {n0:Nat}{P:Program}{ops:Array Oper}{o:Oper}{a:Act}{w:World}{K:Act->World->Prop}{Q:Exit->Act->World->Prop}{E:Prop}
  (hg:o.guard=none) (m x v:Operand) (t:TypeId) (hop:o.op=Op.mapUpdate t m x v)
  (k e:TypeId) (KK:Keyed P k) (ht:P.underlying t=some (.map k e)) (b n:Nat) (D:DataW Unit)
  (hm:a.eval m=.map (some b)) (hown:w.ownsMap P k ptrR b n D) (hn:n<maxLen) (key val:Value) (kl:Lit) (hx:a.eval x=key) (hv:a.eval v=val) (hkey:keyOf P k key=some kl)
  (d:DataW Unit) (ps:List MemPlace) (hval:ptrR val=some (d,ps))
  (hK:∀w',w'.ownsMap P k ptrR b (n+1) (D.put kl d)->w.grownBy w' (some b)->K (a.put o.dst undef) w') :
  if Region.wanted o (yielded ops a.tmps)=true then Oper.wpIn Fence.wide n0 P o a w K Q else E:=by
 have hw:Region.wanted o (yielded ops a.tmps)=true:=by simp[Region.wanted,hg]
 rw[if_pos hw]
 obtain⟨w',hrun,r1,r2⟩:=hown.update KK ht hn hkey hval
 unfold Oper.wpIn
 refine⟨λf _=>trivial,?_⟩
 rw[show Fence.wide.round=none from rfl,Oper.semAt_none]
 simp[execOp,hop,hm,hx,hv,hrun,Result.andThen]
 exact hK w' r1 r2
def Lk0 (br bm:Nat)(v0 v1 v2 v3:Value)(wb:Nat->Nat):Lk:=⟨br,bm,v0,v1,v2,v3,wb,λ_=>0,λ_=>.slice none 0 0,λ_=>.slice none 0 0,.slice none 0 0⟩
theorem wkids_lt {N:Nt}(h:LkIn N){wb:Nat->Nat}{k:Nat}(hk:k<N.ways.length):∀p∈Y2 N wb k,p.1<(wat N.ways k).id:=λp hp=>by
 unfold Y2 at hp
 obtain⟨i,hi,rfl⟩:=List.mem_map.1 hp
 exact h.asc i k (List.mem_range.1 hi) hk
theorem BT.eb {w:World}{b e:Nat}{es:List Eg}{wb:Nat->Nat}(h:BT w b (ecell es wb e) 85):EB w b e (eat es e):=
 ⟨h.blk.cell (i:=0) rfl,h.blk.cell (i:=1) rfl,h.blk.cell (i:=2) rfl,h.blk.cell (i:=5) rfl,h.blk.cell (i:=6) rfl,h.blk.cell (i:=7) rfl⟩
theorem row_low {C C' t sz n:Nat}{w:World}{v:Value}{xs:List Value}(h:w.ownsRow C t sz v n xs)(hC:C'<=C):w.ownsRow C' t sz v n xs:=by
 refine⟨h.1,?_⟩
 rcases h.2 with h2|⟨g,cap,cur,hv,hg,r⟩
 ·exact Or.inl h2
 ·exact Or.inr ⟨g,cap,cur,hv,by omega,r⟩
theorem OwnS.base {C D C' D':Nat}{w:World}{v:Value}{es:List Eg}{ls:List (List Nat)}(h:OwnS C D w v es ls)(hC:C'<=C)(hD:D'<=D):OwnS C' D' w v es ls:=by
 obtain⟨us,hl,hr,hi⟩:=h
 exact⟨us,hl,row_low hr hC,λi hlt=>row_low (hi i hlt) hD⟩
theorem run_mkMap (w:World)(n:Int):(Instr.makeMap 74 (some (.int .i64 n))).run Tryz.prog w=.ok (.map (some w.heap.size)) (w.alloc (.map #[] 0)):=by
 kernel_rfl
theorem LR.made {C:Nat}(N:Nt)(es:List Eg)(v0 v1 v2 v3:Value)(w:World)(hC:C<=w.heap.size){br bm:Nat}(hm:bm=w.heap.size)(hr:br=w.heap.size+1):LR C N es 0 0 0 0 0 ((w.alloc (.map #[] 0)).alloc (.cells #[v0,v1,v2,v3,.int .i64 N.uturn,.slice none 0 0,.map (some bm)] 77)) (Lk0 br bm v0 v1 v2 v3 (λ_=>0)) where
 road:=BT.new _ _ _ _ (by rw[Q1];exact hr)
 cr:=by show C<=br;omega
 cm:=by show C<=bm;omega
 cw:=λi hi=>absurd hi (Nat.not_lt_zero _)
 ce:=λi hi=>absurd hi (Nat.not_lt_zero _)
 map:=by
  subst hm
  exact World.ownsMap.alloc (World.ownsMap_made w _ _ _) _
 way:=λi hi=>absurd hi (Nat.not_lt_zero _)
 row:=λi hi=>absurd hi (Nat.not_lt_zero _)
 all:=⟨rfl,Or.inl ⟨rfl,rfl⟩⟩
 edge:=λi hi=>absurd hi (Nat.not_lt_zero _)
 apart:=λi j g hi=>absurd hi (Nat.not_lt_zero _)
 apartE:=λi g hi=>absurd hi (Nat.not_lt_zero _)
 trav:=λi hi=>absurd hi (Nat.not_lt_zero _)
 bare:=λi _ hi=>absurd hi (Nat.not_lt_zero _)
theorem linkRoad_any (B0:Nat)(v0 v1 v2 v3:Value)(N:Nt)(w:World)(h0:Z0 B0 w v0 v1 v2 v3 N)(hs:wsum N.ways N.ways.length<=1048576)(hv:Qh N=true) :
  Calls Tryz.prog 14 #[.agg #[v0,v1,v2,v3,.int .i64 N.uturn]] w λe w'=>(∃L:Lk,e=.returned (.pointer (some ⟨L.br,0,none⟩))/\L.v0=v0/\L.v1=v1/\L.v2=v2/\L.v3=v3/\LR w.heap.size N (E1 N) N.ways.length (E1 N).length (E1 N).length (E1 N).length N.ways.length w' L)/\Nx w w':=by
 obtain⟨ip,hip,hp0,hp1,hp2⟩:=info_parts infoPtr
 have HLK:Hid (LkIn N):=lk_in hv
 have HRI:Hid (Yi N):=Jq hv
 have HVV:=mh hv
 have HS:=mh hs
 have HI:=mh h0
 obtain⟨i0,i1,i2,i3⟩:=h0
 obtain⟨a0,c0,rfl,_⟩:=i0.slice
 obtain⟨a2,c2,rfl,_⟩:=i2.slice
 obtain⟨a3,c3,rfl,_⟩:=i3.slice
 obtain⟨a1,c1,rfl,hn1,hk1⟩:=i1
 generalize N.nodes.length=l0 at *
 generalize N.rels.length=l2 at *
 generalize N.turns.length=l3 at *
 generalize hnw:N.ways.length=nw at *
 have HNW:=mh hnw
 have hnw2:nw<=2000:=by have:=HRI.out.c1;have:=HNW.out;omega
 clear hnw i0 i2 i3 hv hs hn1
 have hmk:=run_mkMap
 have hmx:Tryz.prog.follows .mixedOrders=true:=by kernel_rfl
 go_enter Tryz.func14,Tryz.ntmps14
 go_upto_region 1 with fail
 go_cut [1,2,3] from 12 to 18 (λs1 s2 s3 wc=>Hid (s1=.pointer (some ⟨w.heap.size,0,none⟩)/\s2=.pointer none/\s3=.pointer (some ⟨w.heap.size+2,0,none⟩))/\Hid (Nx w wc)/\Hid (BT wc w.heap.size #[.slice a0 l0 c0,.slice a1 nw c1,.slice a2 l2 c2,.slice a3 l3 c3,.int .i64 N.uturn] 28)/\Hid (LR w.heap.size N (E1 N) 0 0 0 0 0 wc (Lk0 (w.heap.size+2) (w.heap.size+1) (.slice a0 l0 c0) (.slice a1 nw c1) (.slice a2 l2 c2) (.slice a3 l3 c3) (λ_=>0))))
 case first=>
  have BA:=BT.new w #[.slice a0 l0 c0,.slice a1 nw c1,.slice a2 l2 c2,.slice a3 l3 c3,.int .i64 N.uturn] 28 _ rfl
  have y0:=BA.blk.cell (i:=0) rfl
  have y1:=BA.blk.cell (i:=1) rfl
  have y2:=BA.blk.cell (i:=2) rfl
  have y3:=BA.blk.cell (i:=3) rfl
  have y4:=BA.blk.cell (i:=4) rfl
  go_region_held3 (λw'=>w'.cell? ⟨w.heap.size,0,none⟩=some (.slice a0 l0 c0)/\w'.cell? ⟨w.heap.size,1,none⟩=some (.slice a1 nw c1)/\w'.cell? ⟨w.heap.size,2,none⟩=some (.slice a2 l2 c2)/\w'.cell? ⟨w.heap.size,3,none⟩=some (.slice a3 l3 c3)/\w'.cell? ⟨w.heap.size,4,none⟩=some (.int .i64 N.uturn)) (go_keep) (fail)
  all_goals go_wp2
  all_goals go_meet
  all_goals exact⟨⟨rfl,rfl,rfl⟩,Nx.drew (Nx.alloc (Nx.alloc (Qc _ _) _) _),(((BA.chg (S:=λ_=>False) (Chg.nx (Qc _ _)) id).chg (S:=λ_=>False) (Chg.nx (Qc _ _)) id).chg (S:=λ_=>False) (Chg.nx (show Nx _ (World.drew _) from(Below.refl _ _).drew)) id),(LR.made N _ _ _ _ _ _ (by rw[Q1];omega) (by rw[Q1]) (by rw[Q1])).next (show Nx _ (World.drew _) from(Below.refl _ _).drew)⟩
 case rest=>
 obtain⟨hs3,HX0,HBA,HL0⟩:=hcut
 obtain⟨e1,e2,e3⟩:=hs3.out
 subst e1 e2 e3
 clear hs3
 generalize hbr:w.heap.size+2=br at *
 generalize hbm:w.heap.size+1=bm at *
 have HBRM:Hid (br=w.heap.size+2/\bm=w.heap.size+1):=⟨hbr.symm,hbm.symm⟩
 clear hbr hbm
 have HCW:=mh HX0.out.size
 have k1:=HBA.out.blk.cell (i:=1) rfl
 go_wp2
 clear k1
 go_loopw [5,22] (λp5 i wr=>∃(k:Nat) (wb:Nat->Nat),k<=nw/\i=.int .i64 k/\Hid (LR w.heap.size N (E1 N) k 0 0 0 0 wr (Lk0 br bm (.slice a0 l0 c0) (.slice a1 nw c1) (.slice a2 l2 c2) (.slice a3 l3 c3) wb))/\Hid (Chg (λx=>x=bm) wc wr)) (λ_ i _=>nw-(intOf i).toNat)
 case atStart=>exact⟨0,_,Nat.zero_le _,rfl,HL0,Chg.nx (Below.refl _ _)⟩
 clear HL0
 obtain⟨k,wb,hkn,rfl,HL,HC⟩:=hrel
 have HNR:Hid (Nx w wr):=Below.trans HX0.out (HC.out.below HCW.out (λx e=>by subst e;have:=HBRM.out;omega))
 by_cases hlt:k<nw
 ·obtain⟨b,off,rfl,hB,hb,hc⟩:=hk1 (by omega)
  obtain⟨p1,p2,d0,d1,d2,d3,n1,n2⟩:=hc k hlt
  obtain⟨p1a,p1c,rfl,_⟩:=n1.slice
  obtain⟨p2a,p2c,rfl,_⟩:=n2.slice
  have x0:=Q3 HNR.out d0
  have x1:=Q3 HNR.out d1
  have x2:=Q3 HNR.out d2
  have x3:=Q3 HNR.out d3
  have hlt':(k:Int)<nw:=by omega
  have HKN:Hid (k<N.ways.length):=by unfold Hid;rw[HNW.out];exact hlt
  generalize (wat N.ways k).nodes.length=p1n at *
  generalize (wat N.ways k).weights.length=p2n at *
  clear hc d0 d1 d2 d3 n1 n2
  go_upto_region 5 with fail
  generalize hW5:wr.alloc (.cells #[.int .i64 (wat N.ways k).id,.bool (wat N.ways k).both,.slice p1a p1n p1c,.slice p2a p2n p2c] 47)=w5
  have HX5:Hid (Nx wr w5):=by unfold Hid;rw[<-hW5];exact Qc _ _
  have HBY:Hid (BT w5 wr.heap.size #[.int .i64 (wat N.ways k).id,.bool (wat N.ways k).both,.slice p1a p1n p1c,.slice p2a p2n p2c] 47):=by unfold Hid;rw[<-hW5];exact BT.new _ _ _ _ rfl
  have HL5:=mh (HL.out.next HX5.out)
  have HZ5:Hid (wr.heap.size<w5.heap.size/\w.heap.size<=wr.heap.size):=⟨HBY.out.lt,HNR.out.size⟩
  have z1:w5.cell? ⟨br,6,none⟩=some (.map (some bm)):=HL5.out.road.blk.cell (i:=6) rfl
  have z2:=HBY.out.blk.cell (i:=0) rfl
  clear hW5 x0 x1 x2 x3
  have HS0:Hid ((λw=>w.cell? ⟨br,6,none⟩=some (.map (some bm))/\w.cell? ⟨wr.heap.size,0,none⟩=some (.int .i64 (wat N.ways k).id)) w5.drew):=⟨z1,z2⟩
  refine(wpIn_wide (n:=9)).1 ?_
  refine Q9 (c:=10) (S:=λw=>w.cell? ⟨br,6,none⟩=some (.map (some bm))/\w.cell? ⟨wr.heap.size,0,none⟩=some (.int .i64 (wat N.ways k).id)) hmx (by kernel_rfl) (λhw hcl=>?_)
  refine Qb (i:=0) (v:=.pointer (some ⟨br,0,none⟩)) hw (by decide) hcl (Q4 rfl) rfl (by kernel_rfl) (by kernel_rfl) (by kernel_rfl) (λ_ _ _ h=>h) ⟨Or.inl ⟨by rfl,?y0⟩,λ_=>rfl⟩ HS0.out (λhcl=>?_)
  case y0=>
   rintro w ⟨c1,c2⟩
   go_simp
  refine Qb (i:=1) (v:=.pointer (some ⟨br,0,none⟩)) hw (by decide) hcl (Q4 rfl) rfl (by kernel_rfl) (by kernel_rfl) (by kernel_rfl) (λ_ _ _ h=>h) ⟨Or.inl ⟨by rfl,?y1⟩,λ_=>rfl⟩ HS0.out (λhcl=>?_)
  case y1=>
   rintro w ⟨c1,c2⟩
   go_simp
  refine Qb (i:=2) (v:=.pointer (some ⟨br,6,none⟩)) hw (by decide) hcl (Q4 rfl) rfl (by kernel_rfl) (by kernel_rfl) (by kernel_rfl) (λ_ _ _ h=>h) ⟨Or.inl ⟨by rfl,?y2⟩,λ_=>rfl⟩ HS0.out (λhcl=>?_)
  case y2=>
   rintro w ⟨c1,c2⟩
   go_simp
  refine Qb (i:=3) (v:=.map (some bm)) hw (by decide) hcl (Q4 rfl) rfl (by kernel_rfl) (by kernel_rfl) (by kernel_rfl) (λ_ _ _ h=>h) ⟨Or.inl ⟨by rfl,?y3⟩,λ_=>rfl⟩ HS0.out (λhcl=>?_)
  case y3=>
   rintro w ⟨c1,c2⟩
   go_simp
  refine Qb (i:=4) (v:=.pointer (some ⟨wr.heap.size,0,none⟩)) hw (by decide) hcl (Q4 rfl) rfl (by kernel_rfl) (by kernel_rfl) (by kernel_rfl) (λ_ _ _ h=>h) ⟨Or.inl ⟨by rfl,?y4⟩,λ_=>rfl⟩ HS0.out (λhcl=>?_)
  case y4=>
   rintro w ⟨c1,c2⟩
   go_simp
  refine Qb (i:=5) (v:=.int .i64 (wat N.ways k).id) hw (by decide) hcl (Q4 rfl) rfl (by kernel_rfl) (by kernel_rfl) (by kernel_rfl) (λ_ _ _ h=>h) ⟨Or.inl ⟨by rfl,?y5⟩,λ_=>rfl⟩ HS0.out (λhcl=>?_)
  case y5=>
   rintro w ⟨c1,c2⟩
   go_simp
  refine Qb (i:=6) (v:=.pointer (some ⟨wr.heap.size,0,none⟩)) hw (by decide) hcl (Q4 rfl) rfl (by kernel_rfl) (by kernel_rfl) (by kernel_rfl) (λ_ _ _ h=>h) ⟨Or.inl ⟨by rfl,?y6⟩,λ_=>rfl⟩ HS0.out (λhcl=>?_)
  case y6=>
   rintro w ⟨c1,c2⟩
   go_simp
  refine Qb (i:=7) (v:=.int .i64 (wat N.ways k).id) hw (by decide) hcl (Q4 rfl) rfl (by kernel_rfl) (by kernel_rfl) (by kernel_rfl) (λ_ _ _ h=>h) ⟨Or.inl ⟨by rfl,?y7⟩,λ_=>rfl⟩ HS0.out (λhcl=>?_)
  case y7=>
   rintro w ⟨c1,c2⟩
   go_simp
  refine Q5 (i:=8) (by kernel_rfl) (wpOpIn_step rfl (λK hK=>?_))
  go_simp
  refine hK _ _ ⟨Or.inr ⟨z1,z2⟩,?_⟩
  clear hK K
  refine Q5 (i:=9) (by kernel_rfl) (wpOpIn_step rfl (λK hK=>?_))
  go_simp
  refine hK _ _ ⟨Or.inr ⟨Q3 (Qc _ _) z1,Q3 (Qc _ _) z2⟩,?_⟩
  clear hK K
  refine Q5 (i:=10) (by kernel_rfl) (wpOpIn_step rfl (λK hK=>?_))
  refine step_mapUpdate_in rfl (.tmp 29) (.tmp 31) (.tmp 35) 74 rfl 2 78 keyI Tryz.underlying74 bm k (U8 (Y2 N wb k)) (by simp[Act.eval]) (show(w5.alloc (.cells #[.int .i64 (wat N.ways k).id,.slice none 0 0,.slice none 0 0] 81)).ownsMap _ _ _ _ _ _ from HL5.out.map.alloc _) (by unfold maxLen;omega) (.int .i64 (wat N.ways k).id) (.pointer (some ⟨w5.heap.size,0,none⟩)) (.int .i64 (wat N.ways k).id) (by simp[Act.eval]) (by simp[Act.eval]) (keyOf_int_mk Tryz.underlying2 (HLK.out.wf k HKN.out)) (.lit (.int .i64 (w5.heap.size:Int))) [] rfl ?_
  intro w6 hown hgrow1
  have hgrow:(w5.alloc (.cells #[.int .i64 (wat N.ways k).id,.slice none 0 0,.slice none 0 0] 81)).grownBy w6 (some bm):=⟨hgrow1.os,hgrow1.tape,hgrow1.output,hgrow1.size,hgrow1.block⟩
  have HC6:Hid (Chg (λx=>x=bm) w5 w6):=(Chg.nx (Qc _ _)).trans (Chg.grown hgrow (λb e=>Option.some.inj e))
  have HL6:Hid (LR w.heap.size N (E1 N) (k+1) 0 0 0 0 w6 (Lk0 br bm (.slice a0 l0 c0) (.slice (some ⟨b,off,none⟩) nw c1) (.slice a2 l2 c2) (.slice a3 l3 c3) (upd wb k w5.heap.size))):=
   LR.newWay HL5.out (λ_=>rfl) (λ_=>rfl) HC6.out (Nat.le_refl _) (by have:=HZ5.out;omega) ((BT.new w5 _ _ _ rfl).chg (Chg.grown hgrow (S:=λx=>x=bm) (λb e=>Option.some.inj e)) (λe=>by have:=HBRM.out;have:=HL5.out.map.lt;have q:bm<w5.heap.size:=this;omega)) (by rw[<-kids_put _ (wkids_lt HLK.out HKN.out)];exact hown)
  have HCC:=mh ((HC.out.trans (Chg.nx HX5.out)).trans HC6.out)
  refine hK _ _ ⟨Or.inl (by decide),?_⟩
  clear hK K hown hgrow hgrow1
  refine Qj (by kernel_rfl) ?_ _
  clear hw hcl HS0 z1 z2
  go_wp2
  go_roundw
  case rel=>exact⟨k+1,_,by omega,by go_num,HL6,HCC⟩
  case measure=>simp[intOf];omega
 have ek:nw=k:=by omega
 subst ek
 clear hlt hkn
 go_upto_region 7 with fail
 have HBAr:=mh (HBA.out.chg HC.out (by have:=HBRM.out;omega))
 have y0:=HBAr.out.blk.cell (i:=0) rfl
 have y1:=HBAr.out.blk.cell (i:=1) rfl
 have y2:=HBAr.out.blk.cell (i:=2) rfl
 have y3:=HBAr.out.blk.cell (i:=3) rfl
 have y4:=HBAr.out.blk.cell (i:=4) rfl
 go_wp2_with fail
 refine(layEdges_any B0 _ _ _ _ N _ (by exact HI.out.next HNR.out) (by rw[HNW.out];exact HS.out) HVV.out).mono ?_
 rintro e w7 ⟨⟨vE,rfl,hO7⟩,hx7⟩
 have HX7:Hid (Nx wr w7):=hx7
 have HN7:Hid (Nx w w7):=HNR.out.trans hx7
 have HE7:=mh hO7
 obtain⟨ea,ec,hve,_⟩:=hO7.slice
 have hml:(E1 N).length<=4000:=E1_le HRI.out
 generalize hm:(E1 N).length=m at *
 have HM:Hid ((E1 N).length=m):=hm
 subst hve
 have HL7:=mh (HL.out.next HX7.out)
 have HBA7:Hid (BT w7 w.heap.size #[.slice a0 l0 c0,.slice a1 nw c1,.slice a2 l2 c2,.slice a3 l3 c3,.int .i64 N.uturn] 28):=HBAr.out.chg (S:=λ_=>False) (Chg.nx HX7.out) id
 have HZ7:Hid (w.heap.size<wr.heap.size/\wr.heap.size<=w7.heap.size):=⟨HBAr.out.lt,hx7.size⟩
 clear hO7 hx7 hm y0 y1 y2 y3 y4 HL HC HNR HBAr HCW HX0 HBA
 generalize hwe:wr.heap.size=we at *
 clear hwe HX7
 go_wp2
 go_loopw [6,7,8,9,40] (λp6 p7 p8 p9 i wr=>∃(k:Nat) (wb eb:Nat->Nat) (vs:Nat->Value) (ve:Value),k<=m/\i=.int .i64 k/\Hid (LR w.heap.size N (E1 N) nw k k k 0 wr (Lk.mk br bm (.slice a0 l0 c0) (.slice a1 nw c1) (.slice a2 l2 c2) (.slice a3 l3 c3) wb eb vs (λ_=>.slice none 0 0) ve))/\Hid (V5 we wr (.slice ea m ec) (E1 N))/\Hid (BT wr w.heap.size #[.slice a0 l0 c0,.slice a1 nw c1,.slice a2 l2 c2,.slice a3 l3 c3,.int .i64 N.uturn] 28)/\Hid (Nx w wr)) (λ_ _ _ _ i _=>m-(intOf i).toNat)
 case atStart=>exact⟨0,_,_,_,_,Nat.zero_le _,rfl,HL7,HE7,HBA7,HN7⟩
 clear HL7 HE7 HBA7 HN7 wb
 obtain⟨k,wb,eb,vs,ve,hkm,rfl,HL,HE,HBA,HN⟩:=hrel
 by_cases hlt:k<m
 ·have HKM:Hid (k<(E1 N).length):=by unfold Hid;rw[HM.out];exact hlt
  obtain⟨hmz,be,oe,rfl,hbe,hce⟩:=V4.at' HE.out.held (by have:=HKM.out;omega)
  clear hmz
  obtain⟨d0,d1,d2,d3,d4,d5,d6⟩:=hce k HKM.out
  obtain⟨i,hiN,hiw⟩:=HLK.out.way k HKM.out
  rw[HNW.out] at hiN
  have HIW:=mh hiw
  rw[hiw] at d3
  have HEC:Hid (ecell (E1 N) wb k=#[.int .i64 (eat (E1 N) k).tail,.int .i64 (eat (E1 N) k).head,.int .i64 (eat (E1 N) k).weight,.int .i64 (i:Int),.int .i64 (eat (E1 N) k).seg,.bool (eat (E1 N) k).back,.int .i64 (eat (E1 N) k).twin,.int .i64 (k:Int),.pointer (some ⟨wb i,0,none⟩),.slice none 0 0,.slice none 0 0]):=by unfold Hid ecell;rw[hiw];rfl
  have hlt':(k:Int)<m:=by omega
  obtain⟨b,off,rfl,hB,hb,hc⟩:=hk1 (by omega)
  obtain⟨p1,p2,q0,_⟩:=hc i hiN
  have q0:=Q3 HN.out q0
  have HID:=mh (HLK.out.wf i (by rw[HNW.out];exact hiN))
  have HKO:Hid (kidOf (Y2 N wb nw) (wat N.ways i).id=some (wb i)):=wkids_of hiN (HLK.out.inj (by rw[HNW.out];exact Nat.le_refl _))
  generalize hX:eat (E1 N) k=X at *
  have HXE:Hid (eat (E1 N) k=X):=hX
  clear hX
  clear hce hc hiw
  go_upto_region 10 with fail
  generalize hW8:wr.alloc (.cells #[.int .i64 X.tail,.int .i64 X.head,.int .i64 X.weight,.int .i64 (i:Int),.int .i64 X.seg,.bool X.back,.int .i64 X.twin] 49)=w8
  have HX8:Hid (Nx wr w8):=by unfold Hid;rw[<-hW8];exact Qc _ _
  have HBG:Hid (BT w8 wr.heap.size #[.int .i64 X.tail,.int .i64 X.head,.int .i64 X.weight,.int .i64 (i:Int),.int .i64 X.seg,.bool X.back,.int .i64 X.twin] 49):=by unfold Hid;rw[<-hW8];exact BT.new _ _ _ _ rfl
  have HL8:=mh (HL.out.next HX8.out)
  have HBA8:Hid (BT w8 w.heap.size #[.slice a0 l0 c0,.slice (some ⟨b,off,none⟩) nw c1,.slice a2 l2 c2,.slice a3 l3 c3,.int .i64 N.uturn] 28):=HBA.out.chg (S:=λ_=>False) (Chg.nx HX8.out) id
  have z1:w8.cell? ⟨br,6,none⟩=some (.map (some bm)):=HL8.out.road.blk.cell (i:=6) rfl
  have z2:=HBG.out.blk.cell (i:=3) rfl
  have z3:=HBA8.out.blk.cell (i:=1) rfl
  have z4:=Q3 HX8.out q0
  have z5:=HL8.out.map
  clear hW8 d0 d1 d2 d3 d4 d5 d6
  have hi0:(0:Int)<=(i:Int):=by omega
  have hi1:(i:Int)<(nw:Int):=by omega
  have HS0:Hid ((λu=>u.cell? ⟨br,6,none⟩=some (.map (some bm))/\u.cell? ⟨wr.heap.size,3,none⟩=some (.int .i64 (i:Int))/\u.cell? ⟨w.heap.size,1,none⟩=some (.slice (some ⟨b,off,none⟩) nw c1)/\u.cell? ⟨b,off+i*4,none⟩=some (.int .i64 (wat N.ways i).id)/\u.ownsMap Tryz.prog 2 ptrR bm nw (U8 (Y2 N wb nw))) w8.drew):=⟨z1,z2,z3,z4,z5⟩
  refine(wpIn_wide (n:=9)).1 ?_
  refine Q9 (c:=13) (S:=λu=>u.cell? ⟨br,6,none⟩=some (.map (some bm))/\u.cell? ⟨wr.heap.size,3,none⟩=some (.int .i64 (i:Int))/\u.cell? ⟨w.heap.size,1,none⟩=some (.slice (some ⟨b,off,none⟩) nw c1)/\u.cell? ⟨b,off+i*4,none⟩=some (.int .i64 (wat N.ways i).id)/\u.ownsMap Tryz.prog 2 ptrR bm nw (U8 (Y2 N wb nw))) hmx (by kernel_rfl) (λhw hcl=>?_)
  refine Qb (i:=0) (v:=.pointer (some ⟨br,0,none⟩)) hw (by decide) hcl (Q4 rfl) rfl (by kernel_rfl) (by kernel_rfl) (by kernel_rfl) (λ_ _ _ h=>h) ⟨Or.inl ⟨by rfl,?y0⟩,λ_=>rfl⟩ HS0.out (λhcl=>?_)
  case y0=>
   rintro u ⟨c1,c2,c3,c4,c5⟩
   have hl:=Jm c5 HID.out HKO.out
   go_simp
  refine Qb (i:=1) (v:=.pointer (some ⟨br,0,none⟩)) hw (by decide) hcl (Q4 rfl) rfl (by kernel_rfl) (by kernel_rfl) (by kernel_rfl) (λ_ _ _ h=>h) ⟨Or.inl ⟨by rfl,?y1⟩,λ_=>rfl⟩ HS0.out (λhcl=>?_)
  case y1=>
   rintro u ⟨c1,c2,c3,c4,c5⟩
   have hl:=Jm c5 HID.out HKO.out
   go_simp
  refine Qb (i:=2) (v:=.pointer (some ⟨br,6,none⟩)) hw (by decide) hcl (Q4 rfl) rfl (by kernel_rfl) (by kernel_rfl) (by kernel_rfl) (λ_ _ _ h=>h) ⟨Or.inl ⟨by rfl,?y2⟩,λ_=>rfl⟩ HS0.out (λhcl=>?_)
  case y2=>
   rintro u ⟨c1,c2,c3,c4,c5⟩
   have hl:=Jm c5 HID.out HKO.out
   go_simp
  refine Qb (i:=3) (v:=.map (some bm)) hw (by decide) hcl (Q4 rfl) rfl (by kernel_rfl) (by kernel_rfl) (by kernel_rfl) (λ_ _ _ h=>h) ⟨Or.inl ⟨by rfl,?y3⟩,λ_=>rfl⟩ HS0.out (λhcl=>?_)
  case y3=>
   rintro u ⟨c1,c2,c3,c4,c5⟩
   have hl:=Jm c5 HID.out HKO.out
   go_simp
  refine Qb (i:=4) (v:=.pointer (some ⟨w.heap.size,1,none⟩)) hw (by decide) hcl (Q4 rfl) rfl (by kernel_rfl) (by kernel_rfl) (by kernel_rfl) (λ_ _ _ h=>h) ⟨Or.inl ⟨by rfl,?y4⟩,λ_=>rfl⟩ HS0.out (λhcl=>?_)
  case y4=>
   rintro u ⟨c1,c2,c3,c4,c5⟩
   have hl:=Jm c5 HID.out HKO.out
   go_simp
  refine Qb (i:=5) (v:=.slice (some ⟨b,off,none⟩) nw c1) hw (by decide) hcl (Q4 rfl) rfl (by kernel_rfl) (by kernel_rfl) (by kernel_rfl) (λ_ _ _ h=>h) ⟨Or.inl ⟨by rfl,?y5⟩,λ_=>rfl⟩ HS0.out (λhcl=>?_)
  case y5=>
   rintro u ⟨c1,c2,c3,c4,c5⟩
   have hl:=Jm c5 HID.out HKO.out
   go_simp
  refine Qb (i:=6) (v:=.pointer (some ⟨wr.heap.size,3,none⟩)) hw (by decide) hcl (Q4 rfl) rfl (by kernel_rfl) (by kernel_rfl) (by kernel_rfl) (λ_ _ _ h=>h) ⟨Or.inl ⟨by rfl,?y6⟩,λ_=>rfl⟩ HS0.out (λhcl=>?_)
  case y6=>
   rintro u ⟨c1,c2,c3,c4,c5⟩
   have hl:=Jm c5 HID.out HKO.out
   go_simp
  refine Qb (i:=7) (v:=.int .i64 (i:Int)) hw (by decide) hcl (Q4 rfl) rfl (by kernel_rfl) (by kernel_rfl) (by kernel_rfl) (λ_ _ _ h=>h) ⟨Or.inl ⟨by rfl,?y7⟩,λ_=>rfl⟩ HS0.out (λhcl=>?_)
  case y7=>
   rintro u ⟨c1,c2,c3,c4,c5⟩
   have hl:=Jm c5 HID.out HKO.out
   go_simp
  refine Qb (i:=8) (v:=.pointer (some ⟨b,off+i*4,none⟩)) hw (by decide) hcl (Q4 rfl) rfl (by kernel_rfl) (by kernel_rfl) (by kernel_rfl) (λ_ _ _ h=>h) ⟨Or.inl ⟨by rfl,?y8⟩,λ_=>rfl⟩ HS0.out (λhcl=>?_)
  case y8=>
   rintro u ⟨c1,c2,c3,c4,c5⟩
   have hl:=Jm c5 HID.out HKO.out
   go_simp
  refine Qb (i:=9) (v:=.pointer (some ⟨b,off+i*4,none⟩)) hw (by decide) hcl (Q4 rfl) rfl (by kernel_rfl) (by kernel_rfl) (by kernel_rfl) (λ_ _ _ h=>h) ⟨Or.inl ⟨by rfl,?y9⟩,λ_=>rfl⟩ HS0.out (λhcl=>?_)
  case y9=>
   rintro u ⟨c1,c2,c3,c4,c5⟩
   have hl:=Jm c5 HID.out HKO.out
   go_simp
  refine Qb (i:=10) (v:=.int .i64 (wat N.ways i).id) hw (by decide) hcl (Q4 rfl) rfl (by kernel_rfl) (by kernel_rfl) (by kernel_rfl) (λ_ _ _ h=>h) ⟨Or.inl ⟨by rfl,?y10⟩,λ_=>rfl⟩ HS0.out (λhcl=>?_)
  case y10=>
   rintro u ⟨c1,c2,c3,c4,c5⟩
   have hl:=Jm c5 HID.out HKO.out
   go_simp
  refine Qb (i:=11) (v:=.pointer (some ⟨wb i,0,none⟩)) hw (by decide) hcl (Q4 rfl) rfl (by kernel_rfl) (by kernel_rfl) (by kernel_rfl) (λ_ _ _ h=>h) ⟨Or.inl ⟨by rfl,?y11⟩,λ_=>rfl⟩ HS0.out (λhcl=>?_)
  case y11=>
   rintro u ⟨c1,c2,c3,c4,c5⟩
   have hl:=Jm c5 HID.out HKO.out
   go_simp
  refine Qb (i:=12) (v:=.pointer (some ⟨wb i,0,none⟩)) hw (by decide) hcl (Q4 rfl) rfl (by kernel_rfl) (by kernel_rfl) (by kernel_rfl) (λ_ _ _ h=>h) ⟨Or.inl ⟨by rfl,?y12⟩,λ_=>rfl⟩ HS0.out (λhcl=>?_)
  case y12=>
   rintro u ⟨c1,c2,c3,c4,c5⟩
   have hl:=Jm c5 HID.out HKO.out
   go_simp
  refine Qj (by kernel_rfl) ?_ _
  clear hw hcl HS0 z1 z2 z3 z4 z5
  have HX9:Hid (Nx w8 w8.drew):=(show Nx w8 w8.drew from(Below.refl _ _).drew)
  have HL9:Hid (LR w.heap.size N (E1 N) nw k k k 0 w8.drew (Lk.mk br bm (.slice a0 l0 c0) (.slice (some ⟨b,off,none⟩) nw c1) (.slice a2 l2 c2) (.slice a3 l3 c3) wb eb vs (λ_=>.slice none 0 0) ve)):=HL8.out.next HX9.out
  have HBG9:Hid (BT w8.drew wr.heap.size #[.int .i64 X.tail,.int .i64 X.head,.int .i64 X.weight,.int .i64 (i:Int),.int .i64 X.seg,.bool X.back,.int .i64 X.twin] 49):=HBG.out
  have HBA9:Hid (BT w8.drew w.heap.size #[.slice a0 l0 c0,.slice (some ⟨b,off,none⟩) nw c1,.slice a2 l2 c2,.slice a3 l3 c3,.int .i64 N.uturn] 28):=HBA8.out
  have HE9:Hid (V5 we w8.drew (.slice (some ⟨be,oe,none⟩) m ec) (E1 N)):=(HE.out.next HX8.out).next HX9.out
  have HN9:Hid (Nx w w8.drew):=(HN.out.trans HX8.out).trans HX9.out
  generalize w8.drew=w9 at *
  clear HL8 HBG HBA8 HX8 HX9 HL HE HBA HN
  have g0:=HBG9.out.blk.cell (i:=0) rfl
  have g1:=HBG9.out.blk.cell (i:=1) rfl
  have g2:=HBG9.out.blk.cell (i:=2) rfl
  have g3:=HBG9.out.blk.cell (i:=3) rfl
  have g4:=HBG9.out.blk.cell (i:=4) rfl
  have g5:=HBG9.out.blk.cell (i:=5) rfl
  have g6:=HBG9.out.blk.cell (i:=6) rfl
  go_upto_region 12 with fail
  clear g0 g1 g2 g3 g4 g5 g6 HBG9
  generalize hW10:w9.alloc (.cells #[.int .i64 X.tail,.int .i64 X.head,.int .i64 X.weight,.int .i64 (i:Int),.int .i64 X.seg,.bool X.back,.int .i64 X.twin,.int .i64 (k:Int),.pointer (some ⟨wb i,0,none⟩),.slice none 0 0,.slice none 0 0] 85)=w10
  have HX10:Hid (Nx w9 w10):=by unfold Hid;rw[<-hW10];exact Qc _ _
  have HEB:Hid (BT w10 w9.heap.size (ecell (E1 N) wb k) 85):=by unfold Hid;rw[<-hW10,HEC.out];exact BT.new _ _ _ _ rfl
  have HL10:Hid (LR w.heap.size N (E1 N) nw (k+1) k k 0 w10 (Lk.mk br bm (.slice a0 l0 c0) (.slice (some ⟨b,off,none⟩) nw c1) (.slice a2 l2 c2) (.slice a3 l3 c3) wb (upd eb k w9.heap.size) vs (λ_=>.slice none 0 0) ve)):=LR.newEdge HL9.out (Nat.le_refl _) (Nat.le_refl _) (Nat.le_of_lt (Nat.lt_of_le_of_lt HL9.out.cr HL9.out.road.lt)) HX10.out HEB.out
  have HUP:Hid (upd eb k w9.heap.size k=w9.heap.size):=J4 _ _ _
  have HBA10:Hid (BT w10 w.heap.size #[.slice a0 l0 c0,.slice (some ⟨b,off,none⟩) nw c1,.slice a2 l2 c2,.slice a3 l3 c3,.int .i64 N.uturn] 28):=HBA9.out.chg (S:=λ_=>False) (Chg.nx HX10.out) id
  have HE10:Hid (V5 we w10 (.slice (some ⟨be,oe,none⟩) m ec) (E1 N)):=HE9.out.next HX10.out
  have HN10:Hid (Nx w w10):=HN9.out.trans HX10.out
  clear hW10 HL9 HBA9 HE9 HN9 HX10 HEC HEB
  generalize upd eb k w9.heap.size=eb2 at *
  generalize w9.heap.size=b9 at *
  have HWI:Hid (BT w10 (wb i) #[.int .i64 (wat N.ways i).id,vs i,.slice none 0 0] 81):=HL10.out.way i hiN
  have HRI2:Hid (Jt w.heap.size w10 (vs i) ((Jp (E1 N) i k).map eb2)):=HL10.out.row i hiN
  have HOL:Hid ((Jp (E1 N) i k).length<=4000):=by unfold Hid Jp;have:=List.length_filter_le (Vx (E1 N) i) (List.range k);rw[List.length_range] at this;omega
  obtain⟨va,vc,hvi⟩:=Q2 HRI2.out
  rw[List.length_map] at hvi
  have HVI:Hid (vs i=.slice va (Jp (E1 N) i k).length vc):=hvi
  have HOW:Hid (w10.ownsRow w.heap.size 82 1 (.slice va (Jp (E1 N) i k).length vc) (Jp (E1 N) i k).length (ptc ((Jp (E1 N) i k).map eb2))):=by unfold Hid;rw[<-hvi];have:=HRI2.out;unfold Jt at this;rw[List.length_map] at this;exact this
  generalize hvn:(Jp (E1 N) i k).length=vn at *
  have HVN:Hid ((Jp (E1 N) i k).length=vn):=hvn
  have hvn4:vn<=4000:=HOL.out
  have t1:=HWI.out.blk.cell (i:=1) rfl
  rw[hvi] at t1
  clear hvi hvn
  go_wp2_with (at_builtin;refine wpList_append_own_at _ rfl _ _ 75 rfl w.heap.size 82 ip (.pointer none) 1 8 Tryz.underlying75 hip hp0 hp1 hp2 rfl (by decide) _ _ _ rfl (World.ownsRow.alloc HOW.out _) ⟨w10.heap.size,0,none⟩ 1 1 [.pointer (some ⟨b9,0,none⟩)] rfl rfl (λj u hj=>Qx w10 _ _ _ rfl j u hj) ?f2 ?f3 ?f4 ?f5 ?_)
  case f2=>first|rfl|(intro u hu;simp at hu;subst hu;rfl)
  case f3=>unfold maxLen;omega
  case f4=>omega
  case f5=>have:=HN10.out.size;first|omega|(rw[Q1];omega)
  intro v7 w11 hown hgrow _ hat
  have HG11:Hid (w10.grownBy w11 (vs i).ownBlock):=by unfold Hid;rw[HVI.out];exact(World.grownBy_alloc w10 _ _).trans hgrow
  have HV11:Hid (∀g,v7.ownBlock=some g->(vs i).ownBlock=some g\/w10.heap.size<=g):=λg hg=>by
   rcases hat with h|h
   ·exact Or.inl (by rw[HVI.out,<-h];exact hg)
   ·rw[h] at hg
    have h2:=Option.some.inj hg
    exact Or.inr (by first|omega|(rw[Q1] at h2;omega))
  have HO11:Hid (Jt w.heap.size w11 v7 ((Jp (E1 N) i k).map eb2++[eb2 k])):=by
   unfold Hid
   rw[HUP.out]
   refine Jt.snoc ?_
   rw[List.length_map,HVN.out]
   exact hown
  have HWB11:Hid (BT w11 (wb i) #[.int .i64 (wat N.ways i).id,vs i,.slice none 0 0] 81):=HWI.out.chg (Chg.grown HG11.out (S:=λx=>some x=(vs i).ownBlock) (λb e=>e)) (HWI.out.neRow HRI2.out (by decide))
  obtain⟨a7,c7,hv7⟩:=Q2 hown
  subst hv7
  clear hown hgrow hat t1
  have t2:=HWB11.out.blk.cell (i:=1) rfl
  have f2:=HWB11.out.blk.frozen 1
  go_upto_region 13 with fail
  generalize hW12:w11.setCell ⟨wb i,1,none⟩ (.slice a7 (vn+1) c7)=w12
  have HCH:Hid (Chg (λx=>some x=(vs i).ownBlock\/x=wb i) w10 w12):=by unfold Hid;rw[<-hW12];exact(Chg.grown HG11.out (λb e=>Or.inl e)).trans (Chg.set _ _ _ (Or.inr rfl))
  have HWB12:Hid (BT w12 (wb i) #[.int .i64 (wat N.ways i).id,.slice a7 (vn+1) c7,.slice none 0 0] 81):=by unfold Hid;rw[<-hW12];exact HWB11.out.set 1 _
  have HO12:Hid (Jt w.heap.size w12 (.slice a7 (vn+1) c7) ((Jp (E1 N) i k).map eb2++[eb2 k])):=by
   unfold Hid
   rw[<-hW12]
   exact Qz HO11.out (Chg.set (S:=λx=>x=wb i) _ _ _ rfl) (λg hg e=>by subst e;exact HWB11.out.neRow HO11.out (by decide) hg.symm)
  have HL12:Hid (LR w.heap.size N (E1 N) nw (k+1) (k+1) k 0 w12 (Lk.mk br bm (.slice a0 l0 c0) (.slice (some ⟨b,off,none⟩) nw c1) (.slice a2 l2 c2) (.slice a3 l3 c3) wb eb2 (upd vs i (.slice a7 (vn+1) c7)) (λ_=>.slice none 0 0) ve)):=LR.toRow HL10.out (HLK.out.inj (by rw[HNW.out];exact Nat.le_refl _)) hiN (by rw[HXE.out];exact HIW.out) HCH.out HWB12.out HO12.out HV11.out
  have HBA12:Hid (BT w12 w.heap.size #[.slice a0 l0 c0,.slice (some ⟨b,off,none⟩) nw c1,.slice a2 l2 c2,.slice a3 l3 c3,.int .i64 N.uturn] 28):=HBA10.out.chg HCH.out (λe=>e.elim (HBA10.out.neRow HRI2.out (by decide)) (HBA10.out.ne HWI.out (by decide)))
  have HE12:Hid (V5 we w12 (.slice (some ⟨be,oe,none⟩) m ec) (E1 N)):=Qz HE10.out HCH.out (λg hg e=>e.elim (λe=>row_ne HE10.out HRI2.out (by decide) hg e) (λe=>by subst e;exact HWI.out.neRow HE10.out (by decide) hg.symm))
  have HN12:Hid (Nx w w12):=Below.trans HN10.out (HCH.out.below HN10.out.size (λx e=>e.elim (λe=>(Qf HRI2.out x e.symm).1) (λe=>by subst e;exact HL10.out.cw i hiN)))
  clear hW12 t2 f2 HL10 HBA10 HE10 HN10 HCH HWB12 HO12 HO11 HWB11 HV11 HG11 HWI HRI2 HOW HVI
  generalize upd vs i (.slice a7 (vn+1) c7)=vs2 at *
  have HRD:=mh HL12.out.road
  have HRA:=mh HL12.out.all
  obtain⟨va2,vc2,hve⟩:=Q2 HRA.out
  rw[List.length_map,List.length_range] at hve
  have HOW:Hid (w12.ownsRow w.heap.size 82 1 (.slice va2 k vc2) k (ptc ((List.range k).map eb2))):=by unfold Hid;rw[<-hve];have:=HRA.out;unfold Jt at this;rw[List.length_map,List.length_range] at this;exact this
  subst hve
  have t1:=HRD.out.blk.cell (i:=5) rfl
  go_wp2_with (at_builtin;refine wpList_append_own_at _ rfl _ _ 75 rfl w.heap.size 82 ip (.pointer none) 1 8 Tryz.underlying75 hip hp0 hp1 hp2 rfl (by decide) _ _ _ rfl (World.ownsRow.alloc HOW.out _) ⟨w12.heap.size,0,none⟩ 1 1 [.pointer (some ⟨b9,0,none⟩)] rfl rfl (λj u hj=>Qx w12 _ _ _ rfl j u hj) ?f2 ?f3 ?f4 ?f5 ?_)
  case f2=>first|rfl|(intro u hu;simp at hu;subst hu;rfl)
  case f3=>unfold maxLen;omega
  case f4=>omega
  case f5=>have:=HN12.out.size;first|omega|(rw[Q1];omega)
  intro v7 w13 hown hgrow _ hat
  have HG13:Hid (w12.grownBy w13 (Value.slice va2 k vc2).ownBlock):=(World.grownBy_alloc w12 _ _).trans hgrow
  have HV13:Hid (∀g,v7.ownBlock=some g->(Value.slice va2 k vc2).ownBlock=some g\/w12.heap.size<=g):=λg hg=>by
   rcases hat with h|h
   ·exact Or.inl (by rw[<-h];exact hg)
   ·rw[h] at hg
    have h2:=Option.some.inj hg
    exact Or.inr (by first|omega|(rw[Q1] at h2;omega))
  have HO13:Hid (Jt w.heap.size w13 v7 ((List.range k).map eb2++[eb2 k])):=by
   unfold Hid
   rw[HUP.out]
   refine Jt.snoc ?_
   rw[List.length_map,List.length_range]
   exact hown
  have HRD13:Hid (BT w13 br #[.slice a0 l0 c0,.slice (some ⟨b,off,none⟩) nw c1,.slice a2 l2 c2,.slice a3 l3 c3,.int .i64 N.uturn,.slice va2 k vc2,.map (some bm)] 77):=HRD.out.chg (Chg.grown HG13.out (S:=λx=>some x=(Value.slice va2 k vc2).ownBlock) (λb e=>e)) (HRD.out.neRow HRA.out (by decide))
  obtain⟨a9,c9,hv7⟩:=Q2 hown
  subst hv7
  clear hown hgrow hat t1
  have t2:=HRD13.out.blk.cell (i:=5) rfl
  have f2:=HRD13.out.blk.frozen 5
  generalize hW14:w13.setCell ⟨br,5,none⟩ (.slice a9 (k+1) c9)=w14
  have HCH:Hid (Chg (λx=>some x=(Value.slice va2 k vc2).ownBlock\/x=br) w12 w14):=by unfold Hid;rw[<-hW14];exact(Chg.grown HG13.out (λb e=>Or.inl e)).trans (Chg.set _ _ _ (Or.inr rfl))
  have HRD14:Hid (BT w14 br #[.slice a0 l0 c0,.slice (some ⟨b,off,none⟩) nw c1,.slice a2 l2 c2,.slice a3 l3 c3,.int .i64 N.uturn,.slice a9 (k+1) c9,.map (some bm)] 77):=by unfold Hid;rw[<-hW14];exact HRD13.out.set 5 _
  have HO14:Hid (Jt w.heap.size w14 (.slice a9 (k+1) c9) ((List.range k).map eb2++[eb2 k])):=by
   unfold Hid
   rw[<-hW14]
   exact Qz HO13.out (Chg.set (S:=λx=>x=br) _ _ _ rfl) (λg hg e=>by subst e;exact HRD13.out.neRow HO13.out (by decide) hg.symm)
  have HL14:=mh (LR.toAll HL12.out HCH.out HRD14.out HO14.out HV13.out)
  have HBA14:Hid (BT w14 w.heap.size #[.slice a0 l0 c0,.slice (some ⟨b,off,none⟩) nw c1,.slice a2 l2 c2,.slice a3 l3 c3,.int .i64 N.uturn] 28):=HBA12.out.chg HCH.out (λe=>e.elim (HBA12.out.neRow HRA.out (by decide)) (HBA12.out.ne HRD.out (by decide)))
  have HE14:Hid (V5 we w14 (.slice (some ⟨be,oe,none⟩) m ec) (E1 N)):=Qz HE12.out HCH.out (λg hg e=>e.elim (λe=>row_ne HE12.out HRA.out (by decide) hg e) (λe=>by subst e;exact HRD.out.neRow HE12.out (by decide) hg.symm))
  have HN14:Hid (Nx w w14):=Below.trans HN12.out (HCH.out.below HN12.out.size (λx e=>e.elim (λe=>(Qf HRA.out x e.symm).1) (λe=>by subst e;exact HL12.out.cr)))
  have HEQ:=mh hW14
  clear hW14 HL12 HBA12 HE12 HN12 HCH HRD14 HO14 HO13 HRD13 HV13 HG13 HRD HRA HOW
  go_wp2
  try rw[HEQ.out]
  go_roundw
  case rel=>exact⟨k+1,wb,eb2,vs2,_,by omega,by go_num,HL14,HE14,HBA14,HN14⟩
  case measure=>simp[intOf];omega
 have ek:m=k:=by omega
 subst ek
 clear hlt hkm
 have y1:=HBA.out.blk.cell (i:=1) rfl
 have HLt:=mh HL.out
 have HX2:Hid (Nx w wr):=HN.out
 clear HL HN HE HZ7
 go_wp2
 clear y1
 go_loopw [11,86] (λp11 i wr=>∃(k:Nat) (ts:Nat->Value),k<=nw/\i=.int .i64 k/\Hid (LR w.heap.size N (E1 N) nw m m m k wr (Lk.mk br bm (.slice a0 l0 c0) (.slice a1 nw c1) (.slice a2 l2 c2) (.slice a3 l3 c3) wb eb vs ts ve))/\Hid (Nx w wr)) (λ_ i _=>nw-(intOf i).toNat)
 case atStart=>exact⟨0,_,Nat.zero_le _,rfl,HLt,HX2⟩
 clear HLt HX2 HBA
 obtain⟨k,ts,hkn,rfl,HL,HN⟩:=hrel
 by_cases hlt:k<nw
 ·obtain⟨b,off,rfl,hB,hb,hc⟩:=hk1 (by omega)
  obtain⟨p1,p2,d0,d1,d2,d3,n1,n2⟩:=hc k hlt
  obtain⟨p1a,p1c,rfl,_⟩:=n1.slice
  obtain⟨p2a,p2c,rfl,_⟩:=n2.slice
  have x0:=Q3 HN.out d0
  have x1:=Q3 HN.out d1
  have x2:=Q3 HN.out d2
  have x3:=Q3 HN.out d3
  have hlt':(k:Int)<nw:=by omega
  generalize (wat N.ways k).nodes.length=p1n at *
  generalize (wat N.ways k).weights.length=p2n at *
  clear hc d0 d1 d2 d3 n1 n2
  go_upto_region 18 with fail
  generalize hW5:wr.alloc (.cells #[.int .i64 (wat N.ways k).id,.bool (wat N.ways k).both,.slice p1a p1n p1c,.slice p2a p2n p2c] 47)=w5
  have HX5:Hid (Nx wr w5):=by unfold Hid;rw[<-hW5];exact Qc _ _
  have HBY:Hid (BT w5 wr.heap.size #[.int .i64 (wat N.ways k).id,.bool (wat N.ways k).both,.slice p1a p1n p1c,.slice p2a p2n p2c] 47):=by unfold Hid;rw[<-hW5];exact BT.new _ _ _ _ rfl
  have HL5:=mh (HL.out.next HX5.out)
  have HN5:Hid (Nx w w5):=HN.out.trans HX5.out
  have z1:w5.cell? ⟨br,6,none⟩=some (.map (some bm)):=HL5.out.road.blk.cell (i:=6) rfl
  have z2:=HBY.out.blk.cell (i:=0) rfl
  have z3:=HL5.out.map
  have HID:=mh (HLK.out.wf k (by rw[HNW.out];exact hlt))
  have HKO:Hid (kidOf (Y2 N wb nw) (wat N.ways k).id=some (wb k)):=wkids_of hlt (HLK.out.inj (by rw[HNW.out];exact Nat.le_refl _))
  clear hW5 x0 x1 x2 x3
  have HDR:Hid (Nx w5 w5.drew):=(show Nx w5 w5.drew from(Below.refl _ _).drew)
  have HLD:=mh (HL5.out.next HDR.out)
  have HND:Hid (Nx w w5.drew):=HN5.out.trans HDR.out
  have HTB:Hid (BT w5.drew (wb k) #[.int .i64 (wat N.ways k).id,vs k,.slice none 0 0] 81):=by
   have h1:BT w5.drew (wb k) #[.int .i64 (wat N.ways k).id,vs k,ts k] 81:=HLD.out.way k hlt
   have h2:ts k=.slice none 0 0:=HLD.out.bare k (Nat.le_refl _) hlt
   rw[h2] at h1
   exact h1
  have HTP:=mh (Jt.held (HLD.out.row k hlt))
  have HTL:Hid ((Jp (E1 N) k m).length<=4000):=by unfold Hid Jp;have:=List.length_filter_le (Vx (E1 N) k) (List.range m);rw[List.length_range] at this;omega
  have HTE:Hid (∀e∈Jp (E1 N) k m,EB w5.drew (eb e) e (eat (E1 N) e)):=λe he=>(HLD.out.edge e (ofTo_lt he)).eb
  have HTF:Hid ((Jp (E1 N) k m).filter (λe=>!(eat (E1 N) e).back)≠[]):=by have:=HLK.out.fwd k (by rw[HNW.out];exact hlt);rw[HM.out] at this;exact this
  have HS0:Hid ((λu=>u.cell? ⟨br,6,none⟩=some (.map (some bm))/\u.cell? ⟨wr.heap.size,0,none⟩=some (.int .i64 (wat N.ways k).id)/\u.ownsMap Tryz.prog 2 ptrR bm nw (U8 (Y2 N wb nw))) w5.drew):=⟨z1,z2,z3⟩
  refine(wpIn_wide (n:=9)).1 ?_
  refine Q9 (c:=7) (S:=λu=>u.cell? ⟨br,6,none⟩=some (.map (some bm))/\u.cell? ⟨wr.heap.size,0,none⟩=some (.int .i64 (wat N.ways k).id)/\u.ownsMap Tryz.prog 2 ptrR bm nw (U8 (Y2 N wb nw))) hmx (by kernel_rfl) (λhw hcl=>?_)
  refine Qb (i:=0) (v:=.pointer (some ⟨br,0,none⟩)) hw (by decide) hcl (Q4 rfl) rfl (by kernel_rfl) (by kernel_rfl) (by kernel_rfl) (λ_ _ _ h=>h) ⟨Or.inl ⟨by rfl,?y0⟩,λ_=>rfl⟩ HS0.out (λhcl=>?_)
  case y0=>
   rintro u ⟨c1,c2,c5⟩
   have hl:=Jm c5 HID.out HKO.out
   go_simp
  refine Qb (i:=1) (v:=.pointer (some ⟨br,0,none⟩)) hw (by decide) hcl (Q4 rfl) rfl (by kernel_rfl) (by kernel_rfl) (by kernel_rfl) (λ_ _ _ h=>h) ⟨Or.inl ⟨by rfl,?y1⟩,λ_=>rfl⟩ HS0.out (λhcl=>?_)
  case y1=>
   rintro u ⟨c1,c2,c5⟩
   have hl:=Jm c5 HID.out HKO.out
   go_simp
  refine Qb (i:=2) (v:=.pointer (some ⟨br,6,none⟩)) hw (by decide) hcl (Q4 rfl) rfl (by kernel_rfl) (by kernel_rfl) (by kernel_rfl) (λ_ _ _ h=>h) ⟨Or.inl ⟨by rfl,?y2⟩,λ_=>rfl⟩ HS0.out (λhcl=>?_)
  case y2=>
   rintro u ⟨c1,c2,c5⟩
   have hl:=Jm c5 HID.out HKO.out
   go_simp
  refine Qb (i:=3) (v:=.map (some bm)) hw (by decide) hcl (Q4 rfl) rfl (by kernel_rfl) (by kernel_rfl) (by kernel_rfl) (λ_ _ _ h=>h) ⟨Or.inl ⟨by rfl,?y3⟩,λ_=>rfl⟩ HS0.out (λhcl=>?_)
  case y3=>
   rintro u ⟨c1,c2,c5⟩
   have hl:=Jm c5 HID.out HKO.out
   go_simp
  refine Qb (i:=4) (v:=.pointer (some ⟨wr.heap.size,0,none⟩)) hw (by decide) hcl (Q4 rfl) rfl (by kernel_rfl) (by kernel_rfl) (by kernel_rfl) (λ_ _ _ h=>h) ⟨Or.inl ⟨by rfl,?y4⟩,λ_=>rfl⟩ HS0.out (λhcl=>?_)
  case y4=>
   rintro u ⟨c1,c2,c5⟩
   have hl:=Jm c5 HID.out HKO.out
   go_simp
  refine Qb (i:=5) (v:=.int .i64 (wat N.ways k).id) hw (by decide) hcl (Q4 rfl) rfl (by kernel_rfl) (by kernel_rfl) (by kernel_rfl) (λ_ _ _ h=>h) ⟨Or.inl ⟨by rfl,?y5⟩,λ_=>rfl⟩ HS0.out (λhcl=>?_)
  case y5=>
   rintro u ⟨c1,c2,c5⟩
   have hl:=Jm c5 HID.out HKO.out
   go_simp
  refine Qb (i:=6) (v:=.pointer (some ⟨wb k,0,none⟩)) hw (by decide) hcl (Q4 rfl) rfl (by kernel_rfl) (by kernel_rfl) (by kernel_rfl) (λ_ _ _ h=>h) ⟨Or.inl ⟨by rfl,?y6⟩,λ_=>rfl⟩ HS0.out (λhcl=>?_)
  case y6=>
   rintro u ⟨c1,c2,c5⟩
   have hl:=Jm c5 HID.out HKO.out
   go_simp
  refine Q5 (i:=7) (by kernel_rfl) (wpOpIn_step rfl (λK hK=>?_))
  go_simp
  refine⟨trivial,(callsIn_wide.2 (traverse_any w.heap.size (wb k) _ _ (E1 N) eb (Jp (E1 N) k m) _ (by exact HTB.out) (by exact HTP.out) HTL.out HTE.out HTF.out)).mono ?_⟩
  rintro e w6 ⟨⟨x,rfl⟩,⟨vt,hb6,hs6⟩,ho6⟩
  have HL6:Hid (LR w.heap.size N (E1 N) nw m m m (k+1) w6 (Lk.mk br bm (.slice a0 l0 c0) (.slice (some ⟨b,off,none⟩) nw c1) (.slice a2 l2 c2) (.slice a3 l3 c3) wb eb vs (upd ts k vt) ve)):=LR.toTrav HLD.out (HLK.out.inj (by rw[HNW.out];exact Nat.le_refl _)) hlt ho6 hb6 (hs6.base HND.out.size HND.out.size)
  have HN6:Hid (Nx w w6):=Below.trans HND.out (ho6.below (λg e=>by cases e;exact HLD.out.cw k hlt) HND.out.size)
  refine hK _ _ ⟨Or.inl (by decide),?_⟩
  clear hK K hb6 hs6 ho6
  refine Qj (by kernel_rfl) ?_ _
  clear hw hcl HS0 z1 z2 z3
  go_wp2
  go_roundw
  case rel=>exact⟨k+1,_,by omega,by go_num,HL6,HN6⟩
  case measure=>simp[intOf];omega
 have ek:nw=k:=by omega
 subst ek
 clear hlt hkn
 go_wp2
 go_ret
 exact⟨⟨_,rfl,rfl,rfl,rfl,rfl,by rw[HM.out];exact HL.out⟩,HN.out⟩
theorem no_back {N:Nt}{i:Nat}(hb:(wat N.ways i).both=false){e:Nat}(he:e<(E1 N).length)(hw:(eat (E1 N) e).way=i):(eat (E1 N) e).back=false:=by
 rw[Yj] at he
 obtain⟨i',j,q,hi,hj,hq,he1⟩:=lay_of N.ways.length he
 obtain⟨_,a1⟩:=Xw hi hj hq
 rw[<-he1] at a1
 have hii:i'=i:=by
  rw[a1] at hw
  split at hw
  ·simp[fwd] at hw;omega
  ·split at hw
   ·simp[fwd] at hw;omega
   ·simp[bwd] at hw;omega
 subst hii
 have hq0:q=0:=by
  have:bnN N i'=1:=by unfold bnN;rw[hb];rfl
  have hq':q<bnN N i':=hq
  omega
 rw[a1]
 split
 ·rfl
 ·first|rfl|(rw[if_pos hq0];rfl)
theorem of_th (es:List Eg)(i:Int)(m:Nat):(Jp es i m).filter (λe=>!(eat es e).back)=Vi es i m:=by
 unfold Jp Vi
 rw[List.filter_filter]
 congr 1
 funext x
 exact Bool.and_comm _ _
theorem of_bk (es:List Eg)(i:Int)(m:Nat):((Jp es i m).filter (λe=>(eat es e).back)).reverse=Vu es i m:=by
 unfold Jp Vu
 rw[List.filter_filter]
 congr 2
 funext x
 exact Bool.and_comm _ _
theorem trv_travs {N:Nt}(hv:Qh N=true){i:Nat}(hi:i<N.ways.length):trv (E1 N) (Jp (E1 N) i (E1 N).length)=J1 N (E1 N) i:=by
 unfold trv J1
 rw[of_th]
 congr 1
 have h:=Xu (Jq hv) (X9 hv) hi
 have hr:=of_bk (E1 N) i (E1 N).length
 cases hb:(wat N.ways i).both
 ·have e:(Jp (E1 N) i (E1 N).length).filter (λe=>(eat (E1 N) e).back)=[]:=by
   rw[List.filter_eq_nil_iff]
   intro x hx
   have hx1:=ofTo_lt hx
   have hx2:=(List.mem_filter.1 hx).2
   rw[no_back hb hx1 (by simpa [Vx] using hx2)]
   simp
  rw[if_pos e]
  rfl
 ·have hn:=h.2 hb
  rw[if_neg (λe=>hn (by rw[<-hr,e];rfl)),hr]
  rfl
end Go.Proofs.YthhbdfiopjclcaaGreatDoor
namespace Go.Proofs.YthhbdfiopjclcaaGreatDoor
open Go
set_option linter.unusedVariables false
set_option maxHeartbeats 16000000
def solid:Obj->Bool
 |.cells _ _ _=>true
 |.map _ _=>true
 |_=>false
structure Ck (X K:Nat->Prop)(A B:World):Prop where
 os:B.os=A.os
 tape:B.tape=A.tape
 output:B.output=A.output
 size:A.heap.size<=B.heap.size
 block:∀(b:Nat) (o:Obj),A.heap[b]?=some o->¬X b->(K b\/solid o=true)->B.heap[b]?=some o
abbrev noX:Nat->Prop:=λ_=>False
section
variable {X K:Nat->Prop}{A B C:World}
theorem Ck.refl (X K:Nat->Prop)(A:World):Ck X K A A:=⟨rfl,rfl,rfl,Nat.le_refl _,λ_ _ h _ _=>h⟩
theorem Ck.trans (h:Ck X K A B)(k:Ck X K B C):Ck X K A C:=
 ⟨k.os.trans h.os,k.tape.trans h.tape,k.output.trans h.output,Nat.le_trans h.size k.size,λb o hb hx hc=>k.block b o (h.block b o hb hx hc) hx hc⟩
theorem Ck.nx (h:Nx A B):Ck X K A B:=⟨h.os,h.tape,h.output,h.size,λb o hb _ _=>(h.block b (Array.getElem?_eq_some_iff.1 hb).1).trans hb⟩
theorem Ck.chg (h:Chg X A B):Ck X K A B:=⟨h.os,h.tape,h.output,h.size,λb o hb hx _=>(h.block b (Array.getElem?_eq_some_iff.1 hb).1 hx).trans hb⟩
theorem Ck.mono {Y L:Nat->Prop}(h:Ck X K A B)(hX:∀b,X b->Y b)(hK:∀b,L b->K b):Ck Y L A B:=
 ⟨h.os,h.tape,h.output,h.size,λb o hb hy hc=>h.block b o hb (λx=>hy (hX b x)) (hc.imp (hK b) id)⟩
theorem Ck.put {l:Nat}{o o':Obj}(h:A.heap[l]?=some o)(ho:solid o=false)(hl:¬K l):Ck X K A (A.putObj l o'):=
 ⟨rfl,rfl,rfl,by simp,λb p hb _ hc=>by
  by_cases e:b=l
  ·subst e
   rw[h] at hb
   cases hb
   rcases hc with q|q
   ·exact absurd q hl
   ·rw[ho] at q;cases q
  ·exact(World.putObj_heap_other e).trans hb⟩
end
def Gives (P:Program)(gf:Nat)(lb:Array Value)(Py:Nat->Nat->Array Value->World->Prop)(z len:Nat)(Inv:World->Prop):Prop:=
 ∀(X:Nat->Prop) (l m:Nat) (J:Nat->World->Prop) (Jx:World->Prop) (W:World),(∀b,X b->z<=b/\b<W.heap.size) ->
  (∀B,Ck X noX W B->Inv B)->(∀k A B,J k A->Ck noX (λb=>b<W.heap.size) A B->J k B)->(∀A B,Jx A->Ck noX (λb=>b<W.heap.size) A B->Jx B) ->
  (∀k args W1,k<len->J k W1->Ck X noX W W1->Py W.heap.size k args W1->YieldAt Fence.wide m P l args W1 λe W'=>Ck X (λb=>W.heap.size<=b) W1 W'/\((e=.returned (.bool true)/\J (k+1) W')\/(e=.returned (.bool false)/\Jx W'))) ->
  J 0 W->Calls P gf (#[.func (.yield l) #[] #[]]++lb) W λe W'=>(∃v,e=.returned v)/\Ck X noX W W'/\(J len W'\/Jx W')
def leftBy (X K:Nat->Prop)(I:World->Prop)(Ix:World->Prop)(W:World):Exit->Act->World->Prop
 |.normal,_,W'=>Ck X K W W'/\I W'
 |.ret,_,W'=>Ck X K W W'/\Ix W'
 |.exit _,_,_=>False
 |.goto _,_,_=>False
 |.panic _,_,_=>False
 |.outgrown,_,_=>False
theorem round_yield {P:Program}{X K0:Nat->Prop}{l m:Nat}{r:Loop}{W:World}{args:Array Value}{I:World->Prop}{Ix:World->Prop}(Ax:Act->World->Prop)
  (hl:W.heap[l]?=some (.loop r)) (hst:r.state=.ready) (hp:r.pending=none) (hs:args.size=r.params.size) (hX:¬X l) (hK:K0 l)
  (hassign:∀(K:Act->World->Prop),(∀a' W',Nx W W'->Ax a' W'->K a' W')->r.assign.wpIn (Fence.wide.inRound l) m P (Exit.then K (λ_ _ _=>False)) { tmps:=(r.params.zip args).foldl (λt (p,v)=>t.setIfInBounds p v) r.tmps,defers:=[] } W)
  (hbody:∀a' W',Nx W W'->Ax a' W'->r.body.wpIn (Fence.wide.inRound l) m P (leftBy X K0 I Ix (W'.putObj l (.loop { r with state:=.busy }))) a' (W'.putObj l (.loop { r with state:=.busy })))
  (R:Ending->World->Prop)
  (ht:∀W' W3,Nx W W'->Ck X K0 (W'.putObj l (.loop { r with state:=.busy })) W3->I W3->R (.returned (.bool true)) (W3.putObj l (.loop r)))
  (hf:∀W' W3,Nx W W'->Ck X K0 (W'.putObj l (.loop { r with state:=.busy })) W3->Ix W3->R (.returned (.bool false)) (W3.putObj l (.loop { r with state:=.done,pending:=some .ret }))) :
  YieldAt Fence.wide m P l args W R:=by
 refine⟨r.fn,_,r.assign,r.body,run_yield hl hs,roundIn_of_wpIn trivial (hassign _ λa' W' hn ha=>?_)⟩
 have hl':W'.heap[l]?=some (.loop r):=(hn.block l (Array.getElem?_eq_some_iff.1 hl).1).trans hl
 have hbusy:(W'.putObj l (.loop { r with state:=.busy })).heap[l]?=some (.loop { r with state:=.busy }):=World.putObj_heap_same (Array.getElem?_eq_some_iff.1 hl').1
 have still:∀W3,Ck X K0 (W'.putObj l (.loop { r with state:=.busy })) W3->W3.heap[l]?=some (.loop { r with state:=.busy }):=λW3 h=>h.block l _ hbusy hX (Or.inl hK)
 refine⟨_,run_beginRound hl' hst,wpIn_mono (hbody a' W' hn ha) ?_⟩
 intro e a3 W3 h
 cases e with
 |normal=>
  refine⟨_,_,run_endRound none (still W3 h.1),?_⟩
  have:=ht W' W3 hn h.1 h.2
  rcases r with⟨st,pe,f1,f2,f3,f4,f5,f6⟩
  simp only at hst hp
  subst hst hp
  exact this
 |ret=>exact⟨_,_,run_endRound (some .ret) (still W3 h.1),hf W' W3 hn h.1 h.2⟩
 |exit id=>exact h.elim
 |goto t=>exact h.elim
 |panic c=>exact h.elim
 |outgrown=>exact h.elim
theorem range_gives {P:Program}{n:Nat}{g:Operand}{ps:Array Tmp}{assign body:Code}{Q:Exit->Act->World->Prop}{a:Act}{w:World}{gf:Nat}{lb:Array Value}{Py:Nat->Nat->Array Value->World->Prop}{z len:Nat}{Inv:World->Prop}
  (hG:Gives P gf lb Py z len Inv) (hg:a.eval g=.func (.func gf) #[] lb) (eg:∀args w,(callFunc gf args).run P w=.ok (.enter gf args) w)
  (X:Nat->Prop) (hX:∀b,X b->z<=b/\b<w.heap.size)
  (hps:∀k args W,Py (w.heap.size+2) k args W->args.size=ps.size) (hPy:∀k args A B,Py (w.heap.size+2) k args A->Ck noX (λb=>b<w.heap.size) A B->Py (w.heap.size+2) k args B)
  (hInv:∀B,Ck X noX w B->Inv B)
  (I:Nat->World->Prop) (Ix:World->Prop) (hI:∀k A B,I k A->Ck noX (λb=>b<w.heap.size) A B->I k B) (hIx:∀A B,Ix A->Ck noX (λb=>b<w.heap.size) A B->Ix B)
  (h0I:I 0 w) (Ax:Array Value->Act->World->Prop) (hAx:∀args a' A B,Ax args a' A->Ck noX (λb=>b<w.heap.size) A B->Ax args a' B)
  (hassign:∀(l k:Nat) (args:Array Value) (W:World) (K:Act->World->Prop),k<len->w.heap.size<=W.heap.size->Py (w.heap.size+2) k args W->(∀a' W',Nx W W'->Ax args a' W'->K a' W')->assign.wpIn (Fence.wide.inRound l) n P (Exit.then K (λ_ _ _=>False)) { tmps:=(ps.zip args).foldl (λt (p,v)=>t.setIfInBounds p v) a.tmps,defers:=[] } W)
  (hbody:∀(l k:Nat) (args:Array Value) (a':Act) (W:World),k<len->I k W->Py (w.heap.size+2) k args W->Ax args a' W->Ck X noX w W->body.wpIn (Fence.wide.inRound l) n P (leftBy X (λb=>w.heap.size<=b) (I (k+1)) Ix W) a' W)
  (hdone:∀(D:Nat) (W:World),w.heap.size<=D->I len W->Ck X noX w W->W.heap[D]?=some (.deferred (some []))->Q .normal { a with defers:={ target:=.collected D,args:=#[] }::a.defers } W)
  (hstop:∀(D:Nat) (W:World),w.heap.size<=D->Ix W->Ck X noX w W->W.heap[D]?=some (.deferred (some []))->Code.ret.wpIn Fence.wide n P Q { a with defers:={ target:=.collected D,args:=#[] }::a.defers } W) :
  (Code.rangeFunc g ps assign body).wpIn Fence.wide n P Q a w:=by
 refine wpIn_rangeFunc λfn _=>?_
 generalize hr:(Loop.mk .ready none fn a.tmps ps assign body w.heap.size:Loop)=r
 generalize hW1:(w.alloc (.deferred (some []))).alloc (.loop r)=W1
 have n1:Nx w W1:=by rw[<-hW1];exact(Qc _ _).trans (Qc _ _)
 have s1:W1.heap.size=w.heap.size+2:=by rw[<-hW1,Q1,Q1]
 have r1:W1.heap[w.heap.size+1]?=some (.loop r):=by
  rw[<-hW1]
  have:=World.alloc_heap_new (w.alloc (.deferred (some []))) (.loop r)
  rwa [Q1] at this
 have d1:W1.heap[w.heap.size]?=some (.deferred (some [])):=by
  rw[<-hW1]
  exact((Qc (w.alloc (.deferred (some []))) (.loop r)).block _ (by rw[Q1];omega)).trans (World.alloc_heap_new w _)
 have hst:r.state=.ready:=by rw[<-hr]
 have hpe:r.pending=none:=by rw[<-hr]
 have hpa:r.params=ps:=by rw[<-hr]
 have has:r.assign=assign:=by rw[<-hr]
 have hbo:r.body=body:=by rw[<-hr]
 have htm:r.tmps=a.tmps:=by rw[<-hr]
 have nXl:¬X (w.heap.size+1):=λx=>by have:=(hX _ x).2;omega
 have tot:∀{W:World},Ck X noX W1 W->Ck X noX w W:=λh=>(Ck.nx n1).trans h
 have rec1:∀{A B:World}{o:Obj}{i:Nat},i<w.heap.size+2->Ck noX (λb=>b<W1.heap.size) A B->A.heap[i]?=some o->B.heap[i]?=some o:=λhi h ho=>h.block _ _ ho id (Or.inl (by omega))
 have weak:∀{A B:World},Ck noX (λb=>b<W1.heap.size) A B->Ck noX (λb=>b<w.heap.size) A B:=λh=>h.mono (λ_ x=>x) (λb q=>by omega)
 have wput:∀{X:Nat->Prop}{A:World}{q:Loop} (o:Obj),A.heap[w.heap.size+1]?=some (.loop q)->Ck X (λb=>b<w.heap.size) A (A.putObj (w.heap.size+1) o):=λo h=>Ck.put h rfl (by omega)
 have wputn:∀{X:Nat->Prop}{A:World}{q:Loop} (o:Obj),A.heap[w.heap.size+1]?=some (.loop q)->Ck X (λb=>W1.heap.size<=b) A (A.putObj (w.heap.size+1) o):=λo h=>Ck.put h rfl (by omega)
 have wput0:∀{X:Nat->Prop}{A:World}{q:Loop} (o:Obj),A.heap[w.heap.size+1]?=some (.loop q)->Ck X noX A (A.putObj (w.heap.size+1) o):=λo h=>Ck.put h rfl id
 refine⟨w.heap.size+1,[{ target:=.collected w.heap.size,args:=#[] }],W1,{ target:=.fn (.func gf) lb,args:=#[.func (.yield (w.heap.size+1)) #[] #[]] },W1,gf,#[.func (.yield (w.heap.size+1)) #[] #[]]++lb,W1,?_,?_,λ_ _=>trivial,?_,λh=>?_,?_⟩
 ·rw[<-hW1,<-hr]
  exact run_enterLoop_outer _ _ _ _ _
 ·simp only[resolve,hg]
  simp[go_sem]
 ·simp[invoke,go_sem,eg]
 ·simp[Fence.wide] at h
 refine callsIn_wide.2 ((hG X (w.heap.size+1) n
  (λk W=>I k W/\W.heap[w.heap.size+1]?=some (.loop r)/\W.heap[w.heap.size]?=some (.deferred (some [])))
  (λW=>Ix W/\W.heap[w.heap.size+1]?=some (.loop { r with state:=.done,pending:=some .ret })/\W.heap[w.heap.size]?=some (.deferred (some []))) W1
  (λb q=>⟨(hX b q).1,by have:=(hX b q).2;omega⟩) (λB h=>hInv B ((Ck.nx n1).trans h))
  (λk A B hj h=>⟨hI k A B hj.1 (weak h),rec1 (by omega) h hj.2.1,rec1 (by omega) h hj.2.2⟩)
  (λA B hj h=>⟨hIx A B hj.1 (weak h),rec1 (by omega) h hj.2.1,rec1 (by omega) h hj.2.2⟩)
  ?_ ⟨hI 0 _ _ h0I (Ck.nx n1),r1,d1⟩).mono ?_)
 ·rintro k args W hk ⟨hi,hl,hd⟩ hc hp
  rw[s1] at hp
  have hlt:w.heap.size+1<W.heap.size:=(Array.getElem?_eq_some_iff.1 hl).1
  have aft:∀W' W3,Nx W W'->Ck X (λb=>w.heap.size<=b) (W'.putObj (w.heap.size+1) (.loop { r with state:=.busy })) W3->W3.heap[w.heap.size+1]?=some (.loop { r with state:=.busy })/\W3.heap[w.heap.size]?=some (.deferred (some []))/\∀o,Ck X (λb=>W1.heap.size<=b) W (W3.putObj (w.heap.size+1) o):=λW' W3 hn h=>by
   have hl':W'.heap[w.heap.size+1]?=some (.loop r):=(hn.block _ hlt).trans hl
   have hd':W'.heap[w.heap.size]?=some (.deferred (some [])):=(hn.block _ (by omega)).trans hd
   have hbz:(W'.putObj (w.heap.size+1) (.loop { r with state:=.busy })).heap[w.heap.size+1]?=some (.loop { r with state:=.busy }):=World.putObj_heap_same (Array.getElem?_eq_some_iff.1 hl').1
   have hdz:(W'.putObj (w.heap.size+1) (.loop { r with state:=.busy })).heap[w.heap.size]?=some (.deferred (some [])):=(World.putObj_heap_other (by omega)).trans hd'
   have h1:=h.block _ _ hbz nXl (Or.inl (by omega))
   refine⟨h1,h.block _ _ hdz (λx=>by have:=(hX _ x).2;omega) (Or.inl (by omega)),λo=>?_⟩
   exact(((Ck.nx hn).trans (wputn _ hl')).trans (h.mono (λ_ x=>x) (λb q=>by omega))).trans (wputn _ h1)
  refine round_yield (X:=X) (K0:=λb=>w.heap.size<=b) (I:=I (k+1)) (Ix:=Ix) (Ax args) hl hst hpe (by rw[hpa];exact hps k args W hp) nXl (by omega) ?_ ?_ _ ?_ ?_
  ·intro K hK
   rw[has,hpa,htm]
   exact hassign _ k args W K hk (by have:=hc.size;omega) hp hK
  ·intro a' W' hn ha
   have hl':W'.heap[w.heap.size+1]?=some (.loop r):=(hn.block _ hlt).trans hl
   rw[hbo]
   exact hbody _ k args a' _ hk (hI _ _ _ (hI _ _ _ hi (Ck.nx hn)) (wput _ hl')) (hPy _ _ _ _ (hPy _ _ _ _ hp (Ck.nx hn)) (wput _ hl')) (hAx _ _ _ _ ha (wput _ hl')) (tot ((hc.trans (Ck.nx hn)).trans (wput0 _ hl')))
  ·intro W' W3 hn hc3 hi3
   obtain⟨h1,h2,h3⟩:=aft W' W3 hn hc3
   exact⟨h3 _,Or.inl ⟨rfl,hI _ _ _ hi3 (wput _ h1),World.putObj_heap_same (Array.getElem?_eq_some_iff.1 h1).1,(World.putObj_heap_other (by omega)).trans h2⟩⟩
  ·intro W' W3 hn hc3 hi3
   obtain⟨h1,h2,h3⟩:=aft W' W3 hn hc3
   exact⟨h3 _,Or.inr ⟨rfl,hIx _ _ hi3 (wput _ h1),World.putObj_heap_same (Array.getElem?_eq_some_iff.1 h1).1,(World.putObj_heap_other (by omega)).trans h2⟩⟩
 ·rintro e W2 ⟨⟨v,rfl⟩,hc,(⟨hi,hl,hd⟩|⟨hi,hl,hd⟩)⟩
  ·exact⟨none,_,by have:=run_endLoop (P:=P) hl (by rw[hst];simp);rw[hpe] at this;exact this,hdone w.heap.size _ (Nat.le_refl _) (hI _ _ _ hi (wput _ hl)) (tot (hc.trans (wput0 _ hl))) ((World.putObj_heap_other (by omega)).trans hd)⟩
  ·exact⟨some .ret,_,run_endLoop (P:=P) hl (by simp),hstop w.heap.size _ (Nat.le_refl _) (hIx _ _ hi (wput _ hl)) (tot (hc.trans (wput0 _ hl))) ((World.putObj_heap_other (by omega)).trans hd)⟩
end Go.Proofs.YthhbdfiopjclcaaGreatDoor
namespace Go.Proofs.YthhbdfiopjclcaaGreatDoor
open Go.RowKit Go.Sort Go.Maps Go.Shelf
set_option linter.unusedVariables false
set_option maxRecDepth 1000000
set_option maxHeartbeats 16000000
attribute [local go_sem] Oper.semAt_some
structure Sx where
 t:Int
 h:Int
 l:List Nat
def Ql (xs:List Sx)(i:Nat):Sx:=xs.getD i ⟨0,0,[]⟩
def Lies (z c:Nat)(u:Value):Prop:=∀g,u.ownBlock=some g->g<z\/c<=g
def HStx (z:Nat)(W:World)(v:Value)(xs:List Sx):Prop:=Jz 0 W v xs.length λb off i=>∃u,W.cell? ⟨b,off+i*3,none⟩=some (.int .i64 (Ql xs i).t)/\W.cell? ⟨b,off+i*3+1,none⟩=some (.int .i64 (Ql xs i).h)/\W.cell? ⟨b,off+i*3+2,none⟩=some u/\Qo 0 W u (Qd (Ql xs i).l)/\(∀g,u.ownBlock=some g->g<z)/\Yx u
def PyS (z:Nat)(xs:List Sx)(c k:Nat)(args:Array Value)(W:World):Prop:=∃u,args=#[.agg #[.int .i64 (Ql xs k).t,.int .i64 (Ql xs k).h,u]]/\Qo 0 W u (Qd (Ql xs k).l)/\Lies z c u/\Yx u
def InvV (z bq:Nat)(v:Value)(xs:List Sx)(W:World):Prop:=W.cell? ⟨bq,0,none⟩=some v/\HStx z W v xs
theorem values1_in (z bq:Nat)(v:Value)(xs:List Sx)(X:Nat->Prop)(l m:Nat)(J:Nat->World->Prop)(Jx:World->Prop)(W:World)(hX:∀b,X b->z<=b/\b<W.heap.size)
  (hInv:∀B,Ck X noX W B->InvV z bq v xs B) (hJ:∀k A B,J k A->Ck noX (λb=>b<W.heap.size) A B->J k B)
  (hY:∀k args W1,k<xs.length->J k W1->Ck X noX W W1->PyS z xs W.heap.size k args W1->YieldAt Fence.wide m Tryz.prog l args W1 λe W'=>Ck X (λb=>W.heap.size<=b) W1 W'/\((e=.returned (.bool true)/\J (k+1) W')\/(e=.returned (.bool false)/\Jx W')))
  (h0:J 0 W) :
  CallsIn Fence.wide (m+1) Tryz.prog 92 #[.func (.yield l) #[] #[],.pointer (some ⟨bq,0,none⟩)] W λe W'=>(∃v,e=.returned v)/\Ck X noX W W'/\(J xs.length W'\/Jx W'):=by
 have HY:=mh hY
 have HIN:=mh hInv
 have HJS:=mh hJ
 have hI:=hInv W (Ck.refl _ _ _)
 have HJ0:Hid (J 0 W):=h0
 obtain⟨x0,hv⟩:=hI
 obtain⟨sa,cap,rfl,hmx,hk⟩:=hv
 unfold maxLen at hmx
 generalize hn:xs.length=n at *
 have HN:Hid (xs.length=n):=hn
 clear hY hInv hJ h0 hk hn
 refine callsIn_of_wp Tryz.func92 rfl trivial ?_ rfl
 simp only[Tryz.ntmps92,List.size_toArray,List.length_cons,List.length_nil,Nat.reduceAdd,Nat.reduceSub,Array.replicate_succ,Array.replicate_zero,List.push_toArray,List.append_toArray,List.nil_append,List.cons_append]
 gi_wp2
 gi_loopw [4,7] (λp4 i wr=>∃c:Nat,c<=n/\i=.int .i64 c/\Hid (J c wr)/\Hid (Ck X noX W wr)) (λ_ i _=>n-(intOf i).toNat)
 case atStart=>exact⟨0,Nat.zero_le _,rfl,HJ0,Ck.refl _ _ _⟩
 case round=>
  clear HJ0
  obtain⟨c,hc,rfl,HJ,HC⟩:=hrel
  by_cases hlt:c<n
  ·have HIW:Hid (InvV z bq (.slice sa n cap) xs wr):=HIN.out _ HC.out
   obtain⟨y0,sa',cap',hse,hm',hk'⟩:=HIW.out
   have hlx:c<xs.length:=by rw[HN.out];exact hlt
   obtain⟨b,off,rfl,hB,hb,hcs⟩:=hk' (by omega)
   simp only[Value.slice.injEq] at hse
   obtain⟨rfl,jl,rfl⟩:=hse
   obtain⟨u,z0,z1,z2,hu,hlz,hcp⟩:=hcs c hlx
   have HLZ:=mh hlz
   have HCP:Hid (Yx u):=hcp
   have HU:=mh hu
   obtain⟨ua,uc,rfl,_⟩:=hu.slice
   generalize hun:(Qd (Ql xs c).l).length=un at *
   have hlt':(c:Int)<n:=by omega
   generalize hW2:wr.alloc (.cells #[.int .i64 (Ql xs c).t,.int .i64 (Ql xs c).h,.slice ua un uc] 116)=w2
   have HX2:Hid (Nx wr w2):=by unfold Hid;rw[<-hW2];exact Qc _ _
   have HJ2:Hid (J c w2):=HJS.out c _ _ HJ.out (Ck.nx HX2.out)
   have HC2:Hid (Ck X noX W w2):=HC.out.trans (Ck.nx HX2.out)
   obtain⟨fn,tmps,assign,body,hy,hR⟩:=HY.out c #[.agg #[.int .i64 (Ql xs c).t,.int .i64 (Ql xs c).h,.slice ua un uc]] w2 hlt HJ2.out HC2.out ⟨_,rfl,HU.out.keep (HX2.out.keeps 0),λg hg=>Or.inl (HLZ.out g hg),HCP.out⟩
   have HR:=mh hR
   have HEQ:=mh hW2
   rw[<-hW2] at hy
   clear hR hcs hk' hu hlz hcp jl hun hW2 y0 hm'
   gi_wp2
   rw[HEQ.out]
   refine RoundIn.mono HR.out ?_
   rintro e W3 ⟨hc3,(⟨rfl,hJ3⟩|⟨rfl,hJx3⟩)⟩
   ·have HJ3:Hid (J (c+1) W3):=hJ3
    have HC3:Hid (Ck X noX W W3):=HC2.out.trans (hc3.mono (λ_ x=>x) (λ_ x=>x.elim))
    clear hJ3 hc3 hy z0 z1 z2
    gi_wp2
    go_roundw
    case rel=>exact⟨c+1,by omega,by go_num,HJ3,HC3⟩
    case measure=>simp[intOf];omega
   ·have HC3:Hid (Ck X noX W W3):=HC2.out.trans (hc3.mono (λ_ x=>x) (λ_ x=>x.elim))
    clear hc3
    gi_wp2
    refine bodyPost_ret (results_none rfl _ _ _) rfl ?_
    exact⟨⟨_,rfl⟩,HC3.out,Or.inr hJx3⟩
  ·have he:c=n:=by omega
   subst he
   gi_wp2
   go_end0
   exact⟨⟨_,rfl⟩,HC.out,Or.inl HJ.out⟩
theorem values_gives (z bq:Nat)(v:Value)(xs:List Sx):Gives Tryz.prog 92 #[.pointer (some ⟨bq,0,none⟩)] (PyS z xs) z xs.length (InvV z bq v xs):=
 λX l m J Jx W hX hInv hJ hJx hY h0=>callsIn_wide.1 (values1_in z bq v xs X l m J Jx W hX hInv hJ hY h0)
theorem values_any (a:Option Addr)(n c:Nat)(w:World) :
  Calls Tryz.prog 86 #[.slice a n c] w λe w'=>e=.returned (.func (.func 92) #[] #[.pointer (some ⟨w.heap.size,0,none⟩)])/\w'=w.alloc (.cells #[.slice a n c] 79):=by
 have hmf:∀(fn:Fn) (first cap:Array Value) (w:World),(Instr.makeFunc fn first cap).run Tryz.prog w=.ok (.func fn first cap) w:=λ_ _ _ _=>rfl
 go_enter Tryz.func86,Tryz.ntmps86
 go_wp2
 go_ret
 exact⟨rfl,rfl⟩
attribute [local go_sem] Oper.semAt_some
theorem BT.ck {X K:Nat->Prop}{A B:World}{b t:Nat}{cs:Array Value}(h:BT A b cs t)(k:Ck X K A B)(hx:¬X b):BT B b cs t:=k.block b _ h hx (Or.inr rfl)
theorem row_ck {X K:Nat->Prop}{A B:World}{C t sz n:Nat}{v:Value}{xs:List Value}(h:A.ownsRow C t sz v n xs)(k:Ck X K A B)(hn:∀g,v.ownBlock=some g->¬X g):B.ownsRow C t sz v n xs:=by
 refine⟨h.1,?_⟩
 rcases h.2 with h2|⟨g,cap,cur,hv,hg,hh,r⟩
 ·exact Or.inl h2
 ·exact Or.inr ⟨g,cap,cur,hv,hg,k.block g _ hh (hn g (by rw[hv];rfl)) (Or.inr rfl),r⟩
theorem BT.neShort {w:World}{a t u C n:Nat}{x v:Value}{xs:List Value}(h:BT w a #[x] t)(k:w.ownsRow C u 1 v n xs)(hn:2<=n):some a≠v.ownBlock:=by
 rcases k.2 with⟨rfl,_⟩|⟨g,cap,cur,rfl,_,hh,h1,_,h2,_⟩
 ·simp[Value.ownBlock]
 ·intro e
  have e':a=g:=Option.some.inj e
  subst e'
  unfold BT at h
  rw[h] at hh
  simp at hh
  have:=hh.1
  rw[<-this] at h2
  simp at h2
  omega
def mark (D:Nat):Deferred:={ target:=.collected D,args:=#[] }
theorem Xr {F:Fence}{n:Nat}{P:Program}{fn:Func}{tmps:Array Value}{R:Ending->World->Prop}(D:Nat)(w:World)(hD:w.heap[D]?=some (.deferred (some [])))(h:∀w',Ck noX (λb=>b≠D) w w'->LeavesInM F n P fn tmps R [] .returning w'):LeavesInM F n P fn tmps R [mark D] .returning w:=
 ⟨by simp,Or.inl ⟨D,_,rfl,run_takeDeferred hD,h _ (Ck.put hD rfl (λq=>q rfl))⟩⟩
theorem Ck.low {X:Nat->Prop}{w w0 W:World}(n:Nx w w0)(hc:Ck X noX w0 W)(hX:∀b,X b->w.heap.size<=b):Ck noX noX w W:=
 ⟨hc.os.trans n.os,hc.tape.trans n.tape,hc.output.trans n.output,Nat.le_trans n.size hc.size,λb o hb _ hs=>hc.block b o ((n.block b (Array.getElem?_eq_some_iff.1 hb).1).trans hb) (λh=>by have:=hX b h;have:=(Array.getElem?_eq_some_iff.1 hb).1;omega) hs⟩
theorem Ck.set {w W:World}(h:Ck noX noX w W){b:Nat}(hb:w.heap.size<=b)(i:Nat)(v:Value):Ck noX noX w (W.setCell ⟨b,i,none⟩ v):=
 ⟨h.os,h.tape,h.output,by have:=h.size;simpa [World.setCell] using this,λc o hc hx hs=>(Below.heap_setCell _ _ _ _ (by have:=(Array.getElem?_eq_some_iff.1 hc).1;simp;omega)).trans (h.block c o hc hx hs)⟩
def PyC (cs:List (List Nat))(c k:Nat)(args:Array Value)(W:World):Prop:=∃u,args=#[u]/\Q6 c W u (Qd (Jj cs k))/\2<=(Jj cs k).length
theorem own_some {C:Nat}{W:World}{u:Value}{l:List Nat}(h:Q6 C W u (Qd l))(hp:2<=l.length):∃g c,u=.slice (some ⟨g,0,none⟩) l.length c:=by
 rcases h.2 with⟨_,e⟩|⟨g,cap,cur,hv,_⟩
 ·rw[show(Qd l).length=l.length by simp[Qd]] at e;omega
 ·exact⟨g,cap,by rw[hv];simp[Qd]⟩
def IS (C:Nat)(cs:List (List Nat))(b2 b3 b4:Nat):Nat->World->Prop
 |0,W=>BT W b2 #[.slice none 0 0] 23/\BT W b3 #[.int .i64 0] 2/\BT W b4 #[.slice none 0 0] 23
 |1,W=>BT W b2 #[.slice none 0 0] 23/\BT W b3 #[.int .i64 0] 2/\∃u,BT W b4 #[u] 23/\Q6 C W u (Qd (Jj cs 0))/\2<=(Jj cs 0).length
 |_,_=>False
def IxS (len b2 b3:Nat)(W:World):Prop:=BT W b2 #[.slice none 0 0] 23/\BT W b3 #[.int .i64 2] 2/\2<=len
theorem IS.ck {C:Nat}{cs:List (List Nat)}{b2 b3 b4:Nat}{K:Nat->Prop}:∀(k:Nat) (A B:World),IS C cs b2 b3 b4 k A->Ck noX K A B->IS C cs b2 b3 b4 k B
 |0,A,B,h,c=>⟨h.1.ck c id,h.2.1.ck c id,h.2.2.ck c id⟩
 |1,A,B,h,c=>by
  obtain⟨h1,h2,u,h3,h4,h5⟩:=h
  exact⟨h1.ck c id,h2.ck c id,u,h3.ck c id,row_ck h4 c (λ_ _=>id),h5⟩
 |k+2,A,B,h,c=>h.elim
def OldK (w A:World):Prop:=∀b,b<w.heap.size->A.heap[b]?=w.heap[b]?
theorem OldK.ck {w A B:World}{K:Nat->Prop}(h:OldK w A)(hK:∀b,b<w.heap.size->K b)(c:Ck noX K A B):OldK w B:=λb hb=>by
 have e:w.heap[b]?=some w.heap[b]:=Array.getElem?_eq_getElem hb
 rw[e]
 exact c.block b _ ((h b hb).trans e) id (Or.inl (hK b hb))
theorem OldK.chg {w A B:World}{S:Nat->Prop}(h:OldK w A)(c:Chg S A B)(hS:∀b,S b->w.heap.size<=b):OldK w B:=λb hb=>by
 have e:w.heap[b]?=some w.heap[b]:=Array.getElem?_eq_getElem hb
 have e2:=(h b hb).trans e
 rw[c.block b (Array.getElem?_eq_some_iff.1 e2).1 (λx=>by have:=hS b x;omega)]
 exact h b hb
theorem OldK.nx {w A:World}(h:OldK w A)(c:Ck noX noX w A):Nx w A:=⟨c.os,c.tape,c.output,c.size,λb hb=>h b hb⟩
theorem OldK.of {w A:World}(h:Nx w A):OldK w A:=λb hb=>h.block b hb
def soleOf (cs:List (List Nat)):Int:=if cs.length=0 then 1 else if cs.length=1 then 0 else 2
theorem sole_any (gf:Nat)(lb:Array Value)(cs:List (List Nat))(Inv:World->Prop)(z:Nat)(hG:Gives Tryz.prog gf lb (PyC cs) z cs.length Inv)(eg:∀args w,(callFunc gf args).run Tryz.prog w=.ok (.enter gf args) w)(w:World)(hz:z<=w.heap.size)
  (hInv:∀B,Ck noX noX w B->Inv B) :
  Calls Tryz.prog 37 #[.func (.func gf) #[] lb] w λe w'=>(∃v,e=.returned (.tuple #[v,.int .i64 (soleOf cs)])/\((cs.length=1/\Q6 w.heap.size w' v (Qd (Jj cs 0)))\/(cs.length≠1/\v=.slice none 0 0)))/\Nx w w':=by
 have HG:=mh hG
 have HIN:=mh hInv
 have HEG:=mh eg
 clear hG hInv eg
 refine(callsIn_wide (n:=9)).1 (callsIn_of_wp_marks Tryz.func37 rfl trivial ?_ rfl)
 refine wpIn_wide.2 ?_
 simp only[Tryz.ntmps37,List.size_toArray,List.length_cons,List.length_nil,Nat.reduceAdd,Nat.reduceSub,Array.replicate_succ,Array.replicate_zero,List.push_toArray,List.append_toArray,List.nil_append,List.cons_append]
 go_wp2
 generalize hW0:((w.alloc (.cells #[.slice none 0 0] 23)).alloc (.cells #[.int .i64 0] 2)).alloc (.cells #[.slice none 0 0] 23)=w0
 have HX0:Hid (Nx w w0):=by unfold Hid;rw[<-hW0];exact((Qc _ _).trans (Qc _ _)).trans (Qc _ _)
 have HS0:Hid (w0.heap.size=w.heap.size+3):=by unfold Hid;rw[<-hW0];simp
 have HB0:Hid (IS w.heap.size cs w.heap.size (w.heap.size+1) (w.heap.size+1+1) 0 w0):=by
  unfold Hid
  rw[<-hW0]
  exact⟨((BT.new w _ _ _ rfl).alloc _).alloc _,(BT.new _ _ _ _ (by simp)).alloc _,BT.new _ _ _ _ (by simp)⟩
 clear hW0
 generalize hb4:w.heap.size+1+1=b4 at *
 generalize hb3:w.heap.size+1=b3 at *
 have HBB:Hid (b3=w.heap.size+1/\b4=w.heap.size+2):=by unfold Hid;omega
 clear hb4 hb3
 refine(wpIn_wide (n:=9)).1 ?_
 refine range_gives HG.out rfl HEG.out (λb=>b=w.heap.size\/b=b3\/b=b4) ?hX ?hps ?hPy ?hInv (λk W=>IS w.heap.size cs w.heap.size b3 b4 k W/\OldK w W) (λW=>IxS cs.length w.heap.size b3 W/\OldK w W) ?hI ?hIx ⟨HB0.out,OldK.of HX0.out⟩ (λargs a' W=>∃u,args=#[u]/\a'=⟨#[.func (.func gf) #[] lb,undef,.pointer (some ⟨w.heap.size,0,none⟩),.pointer (some ⟨b3,0,none⟩),.pointer (some ⟨b4,0,none⟩),u,.func (.func gf) #[] lb,u,undef,undef,undef,undef,undef,undef],[]⟩) ?hAx ?assign ?body ?done ?stop
 case hX=>intro b h;have:=HS0.out;have:=HBB.out;rcases h with h|h|h<;>exact⟨by omega,by omega⟩
 case hps=>rintro k args W ⟨u,rfl,_⟩;rfl
 case hPy=>rintro k args A B ⟨u,h1,h2,h3⟩ hc;exact⟨u,h1,row_ck h2 hc (λ_ _=>id),h3⟩
 case hInv=>exact λB hc=>HIN.out B (Ck.low HX0.out hc (λb h=>by have:=HBB.out;rcases h with h|h|h<;>omega))
 case hI=>exact λk A B h c=>⟨IS.ck k A B h.1 c,h.2.ck (λb q=>by have:=HS0.out;omega) c⟩
 case hIx=>rintro A B ⟨⟨h1,h2,h3⟩,ho⟩ hc;exact⟨⟨h1.ck hc id,h2.ck hc id,h3⟩,ho.ck (λb q=>by have:=HS0.out;omega) hc⟩
 case hAx=>exact λargs a' A B h _=>h
 case assign=>
  rintro l k args W K hk _ ⟨u,rfl,hu,hp⟩ hK
  obtain⟨g,c,rfl⟩:=own_some hu hp
  clear hu
  gi_wp2
  exact hK _ _ (Below.refl _ _) ⟨_,rfl,rfl⟩
 case body=>
  rintro l k args a' W hk ⟨hI,hOld⟩ ⟨u,rfl,hu,hp⟩ ⟨u',e',rfl⟩ hc
  have HOLD:Hid (OldK w W):=hOld
  clear hOld
  have e2:u=u':=by simpa using e'
  subst e2
  obtain⟨g,c,rfl⟩:=own_some hu hp
  have HU:Hid (Q6 w.heap.size W (.slice (some ⟨g,0,none⟩) (Jj cs k).length c) (Qd (Jj cs k))):=Q6.base hu (by have:=HS0.out;omega)
  clear e' hu
  match k,hk,hI,hp with
  |0,hk,hI,hp=>
   have H2:=mh hI.1
   have H3:=mh hI.2.1
   have H4:=mh hI.2.2
   have x4:=H4.out.blk.cell (i:=0) rfl
   have f4:=H4.out.blk.frozen 0
   clear hI
   gi_wp2
   have n2:¬w.heap.size=b4:=by have:=HBB.out;omega
   have n3:¬b3=b4:=by have:=HBB.out;omega
   refine⟨Ck.chg (Chg.set _ _ _ (Or.inr (Or.inr rfl))),?_⟩
   have hst:Chg (λx=>x=b4) W (W.setCell ⟨b4,0,none⟩ (.slice (some ⟨g,0,none⟩) (Jj cs 0).length c)):=Chg.set _ _ _ rfl
   exact⟨⟨H2.out.chg hst n2,H3.out.chg hst n3,_,H4.out.set 0 _,Qz HU.out hst (λg hg e=>by subst e;exact H4.out.neRow HU.out (by decide) hg.symm),hp⟩,HOLD.out.chg hst (λb e=>by have:=HBB.out;omega)⟩
  |1,hk,hI,hp=>
   obtain⟨h2,h3,u0,h4,h5,h6⟩:=hI
   obtain⟨g0,c0,rfl⟩:=own_some h5 h6
   have H2:=mh h2
   have H3:=mh h3
   have x4:=h4.blk.cell (i:=0) rfl
   have x2:=h2.blk.cell (i:=0) rfl
   have x3:=h3.blk.cell (i:=0) rfl
   have f2:=h2.blk.frozen 0
   have f3:=h3.blk.frozen 0
   have n3:¬b3=w.heap.size:=by have:=HBB.out;omega
   have hst:Chg (λx=>x=w.heap.size) W (W.setCell ⟨w.heap.size,0,none⟩ (.slice none 0 0)):=Chg.set _ _ _ rfl
   have h3':=h3.chg hst n3
   have y3:=h3'.blk.cell (i:=0) rfl
   have g3:=h3'.blk.frozen 0
   have HB3:=mh h3'
   have HB2:Hid (BT (W.setCell ⟨w.heap.size,0,none⟩ (.slice none 0 0)) w.heap.size #[.slice none 0 0] 23):=h2.set 0 _
   clear h2 h3 h4 h5 h3' hst
   gi_wp2
   refine⟨(Ck.chg (Chg.set _ _ _ (Or.inl rfl))).trans (Ck.chg (Chg.set _ _ _ (Or.inr (Or.inl rfl)))),⟨HB2.out.chg (S:=λx=>x=b3) (Chg.set _ _ _ rfl) (λe=>n3 e.symm),HB3.out.set 0 _,hk⟩,(HOLD.out.chg (S:=λx=>x=w.heap.size) (Chg.set _ _ _ rfl) (λb e=>by omega)).chg (S:=λx=>x=b3) (Chg.set _ _ _ rfl) (λb e=>by have:=HBB.out;omega)⟩
  |k+2,hk,hI,hp=>exact hI.elim
 case done=>
  rintro D W hDw ⟨hI,hOld⟩ hc hD
  have HOLD:Hid (OldK w W):=hOld
  have HDW:Hid (w.heap.size<D):=by have:=HS0.out;unfold Hid;omega
  clear hOld hDw
  have HD:=mh hD
  have HCW:Hid (Ck noX noX w W):=Ck.low HX0.out hc (λb h=>by have:=HBB.out;rcases h with h|h|h<;>omega)
  have hn0:∀W,(binOp .eql 23 (.slice none 0 0) (.slice none 0 0)).run Tryz.prog W=.ok (.bool true) W:=λW=>by kernel_rfl
  have hn1:∀(g n c:Nat) W,(binOp .eql 23 (.slice (some ⟨g,0,none⟩) n c) (.slice none 0 0)).run Tryz.prog W=.ok (.bool false) W:=λg n c W=>by kernel_rfl
  clear hD hc
  generalize hlen:cs.length=n at *
  match n,hI with
  |0,hI=>
   have H2:=mh hI.1
   have H3:=mh hI.2.1
   have x4:=hI.2.2.blk.cell (i:=0) rfl
   clear hI
   have x2:=H2.out.blk.cell (i:=0) rfl
   have f2:=H2.out.blk.frozen 0
   have hst:Chg (λx=>x=w.heap.size) W (W.setCell ⟨w.heap.size,0,none⟩ (.slice none 0 0)):=Chg.set _ _ _ rfl
   have h3':=H3.out.chg hst (by have:=HBB.out;omega)
   have y3:=h3'.blk.cell (i:=0) rfl
   have g3:=h3'.blk.frozen 0
   have HB3:Hid (BT ((W.setCell ⟨w.heap.size,0,none⟩ (.slice none 0 0)).setCell ⟨b3,0,none⟩ (.int .i64 1)) b3 #[.int .i64 1] 2):=h3'.set 0 _
   have HB2:Hid (BT ((W.setCell ⟨w.heap.size,0,none⟩ (.slice none 0 0)).setCell ⟨b3,0,none⟩ (.int .i64 1)) w.heap.size #[.slice none 0 0] 23):=(H2.out.set 0 _).chg (S:=λx=>x=b3) (Chg.set _ _ _ rfl) (by have:=HBB.out;omega)
   have HCF:Hid (Ck noX noX w ((W.setCell ⟨w.heap.size,0,none⟩ (.slice none 0 0)).setCell ⟨b3,0,none⟩ (.int .i64 1))):=(HCW.out.set (Nat.le_refl _) _ _).set (by have:=HBB.out;omega) _ _
   have HOF:Hid (OldK w ((W.setCell ⟨w.heap.size,0,none⟩ (.slice none 0 0)).setCell ⟨b3,0,none⟩ (.int .i64 1))):=(HOLD.out.chg (S:=λx=>x=w.heap.size) (Chg.set _ _ _ rfl) (λb e=>by omega)).chg (S:=λx=>x=b3) (Chg.set _ _ _ rfl) (λb e=>by have:=HBB.out;omega)
   have HDF:Hid (((W.setCell ⟨w.heap.size,0,none⟩ (.slice none 0 0)).setCell ⟨b3,0,none⟩ (.int .i64 1)).heap[D]?=some (.deferred (some []))):=by
    have e1:¬D=w.heap.size:=λe=>by have h:=HD.out;rw[e] at h;rw[show W.heap[w.heap.size]?=_ from H2.out] at h;cases h
    have e2:¬D=b3:=λe=>by have h:=HD.out;rw[e] at h;rw[show W.heap[b3]?=_ from H3.out] at h;cases h
    exact(Below.heap_setCell _ _ _ _ (by simpa using e2)).trans ((Below.heap_setCell _ _ _ _ (by simpa using e1)).trans HD.out)
   clear h3' hst
   go_wp2
   refine Xr D _ HDF.out (λW' ho=>?_)
   have q2:=(HB2.out.ck ho id).blk.cell (i:=0) rfl
   have q3:=(HB3.out.ck ho id).blk.cell (i:=0) rfl
   refine⟨.tuple #[.slice none 0 0,.int .i64 1],by simp[results,Tryz.results37,go_sem,q2,q3],⟨_,by unfold soleOf;rw[if_pos hlen],Or.inr ⟨by omega,rfl⟩⟩,(HOF.out.ck (λb q=>by have:=HDW.out;omega) ho).nx (HCF.out.trans (ho.mono (λ_ x=>x) (λ_ x=>x.elim)))⟩
  |1,hI=>
   obtain⟨h2,h3,u,h4,h5,h6⟩:=hI
   obtain⟨g,c,rfl⟩:=own_some h5 h6
   have H2:=mh h2
   have H3:=mh h3
   have H4:=mh h4
   have HU:=mh h5
   have x4:=h4.blk.cell (i:=0) rfl
   clear h2 h3 h4 h5
   have x2:=H2.out.blk.cell (i:=0) rfl
   have f2:=H2.out.blk.frozen 0
   have hst:Chg (λx=>x=w.heap.size) W (W.setCell ⟨w.heap.size,0,none⟩ (.slice (some ⟨g,0,none⟩) (Jj cs 0).length c)):=Chg.set _ _ _ rfl
   have h3':=H3.out.chg hst (by have:=HBB.out;omega)
   have y3:=h3'.blk.cell (i:=0) rfl
   have g3:=h3'.blk.frozen 0
   have HB3:Hid (BT ((W.setCell ⟨w.heap.size,0,none⟩ (.slice (some ⟨g,0,none⟩) (Jj cs 0).length c)).setCell ⟨b3,0,none⟩ (.int .i64 0)) b3 #[.int .i64 0] 2):=h3'.set 0 _
   have HB2:Hid (BT ((W.setCell ⟨w.heap.size,0,none⟩ (.slice (some ⟨g,0,none⟩) (Jj cs 0).length c)).setCell ⟨b3,0,none⟩ (.int .i64 0)) w.heap.size #[.slice (some ⟨g,0,none⟩) (Jj cs 0).length c] 23):=(H2.out.set 0 _).chg (S:=λx=>x=b3) (Chg.set _ _ _ rfl) (by have:=HBB.out;omega)
   have HCF:Hid (Ck noX noX w ((W.setCell ⟨w.heap.size,0,none⟩ (.slice (some ⟨g,0,none⟩) (Jj cs 0).length c)).setCell ⟨b3,0,none⟩ (.int .i64 0))):=(HCW.out.set (Nat.le_refl _) _ _).set (by have:=HBB.out;omega) _ _
   have HOF:Hid (OldK w ((W.setCell ⟨w.heap.size,0,none⟩ (.slice (some ⟨g,0,none⟩) (Jj cs 0).length c)).setCell ⟨b3,0,none⟩ (.int .i64 0))):=(HOLD.out.chg (S:=λx=>x=w.heap.size) (Chg.set _ _ _ rfl) (λb e=>by omega)).chg (S:=λx=>x=b3) (Chg.set _ _ _ rfl) (λb e=>by have:=HBB.out;omega)
   have HDF:Hid (((W.setCell ⟨w.heap.size,0,none⟩ (.slice (some ⟨g,0,none⟩) (Jj cs 0).length c)).setCell ⟨b3,0,none⟩ (.int .i64 0)).heap[D]?=some (.deferred (some []))):=by
    have e1:¬D=w.heap.size:=λe=>by have h:=HD.out;rw[e] at h;rw[show W.heap[w.heap.size]?=_ from H2.out] at h;cases h
    have e2:¬D=b3:=λe=>by have h:=HD.out;rw[e] at h;rw[show W.heap[b3]?=_ from H3.out] at h;cases h
    exact(Below.heap_setCell _ _ _ _ (by simpa using e2)).trans ((Below.heap_setCell _ _ _ _ (by simpa using e1)).trans HD.out)
   have hro:=Qz (Qz HU.out hst (λg hg e=>by subst e;exact H2.out.neRow HU.out (by decide) hg.symm)) (Chg.set (S:=λx=>x=b3) b3 0 (.int .i64 0) rfl) (λg hg e=>by subst e;exact H3.out.neShort HU.out (by simpa [Qd] using h6) hg.symm)
   have HUF:=mh hro
   clear h3' hst hro
   go_wp2
   refine Xr D _ HDF.out (λW' ho=>?_)
   have q2:=(HB2.out.ck ho id).blk.cell (i:=0) rfl
   have q3:=(HB3.out.ck ho id).blk.cell (i:=0) rfl
   refine⟨.tuple #[.slice (some ⟨g,0,none⟩) (Jj cs 0).length c,.int .i64 0],by simp[results,Tryz.results37,go_sem,q2,q3],⟨_,by unfold soleOf;rw[if_neg (by omega),if_pos hlen],Or.inl ⟨hlen,row_ck HUF.out ho (λ_ _=>id)⟩⟩,(HOF.out.ck (λb q=>by have:=HDW.out;omega) ho).nx (HCF.out.trans (ho.mono (λ_ x=>x) (λ_ x=>x.elim)))⟩
  |k+2,hI=>exact hI.elim
 case stop=>
  rintro D W hDw ⟨⟨h2,h3,h4⟩,hOld⟩ hc hD
  have HOLD:Hid (OldK w W):=hOld
  have HDW:Hid (w.heap.size<D):=by have:=HS0.out;unfold Hid;omega
  clear hOld hDw
  have HCW:Hid (Ck noX noX w W):=Ck.low HX0.out hc (λb h=>by have:=HBB.out;rcases h with h|h|h<;>omega)
  refine wpIn_wide.2 ?_
  go_wp2
  refine Xr D _ hD (λW' ho=>?_)
  have q2:=(h2.ck ho id).blk.cell (i:=0) rfl
  have q3:=(h3.ck ho id).blk.cell (i:=0) rfl
  refine⟨.tuple #[.slice none 0 0,.int .i64 2],by simp[results,Tryz.results37,go_sem,q2,q3],⟨_,by unfold soleOf;rw[if_neg (by omega),if_neg (by omega)],Or.inr ⟨by omega,rfl⟩⟩,(HOLD.out.ck (λb q=>by have:=HDW.out;omega) ho).nx (HCW.out.trans (ho.mono (λ_ x=>x) (λ_ x=>x.elim)))⟩
end Go.Proofs.YthhbdfiopjclcaaGreatDoor
namespace Go.Proofs.YthhbdfiopjclcaaGreatDoor
set_option linter.unusedVariables false
set_option maxHeartbeats 16000000
def joinS (a b:Sx):Sx:=⟨a.t,b.h,a.l++b.l⟩
def extOf (a:Sx)(ys:List Sx):List Sx:=(ys.filter λb=>decide (a.h=b.t)).map (joinS a)
def exts (xs ys:List Sx):List Sx:=xs.flatMap λa=>extOf a ys
def Xn (xs ys:List Sx)(k j:Nat):List Sx:=exts (xs.take k) ys++extOf (Ql xs k) (ys.take j)
theorem sx_take {xs:List Sx}{k:Nat}(h:k<xs.length):xs.take (k+1)=xs.take k++[Ql xs k]:=by
 rw[List.take_add_one]
 simp[Ql,List.getD_eq_getElem?_getD,h]
theorem extTo_start (xs ys:List Sx):Xn xs ys 0 0=[]:=by simp[Xn,exts,extOf]
theorem extTo_zero (xs ys:List Sx)(k:Nat):Xn xs ys k 0=exts (xs.take k) ys:=by simp[Xn,extOf]
theorem extTo_full {xs ys:List Sx}{k:Nat}(h:k<xs.length):Xn xs ys k ys.length=Xn xs ys (k+1) 0:=by
 rw[extTo_zero,sx_take h]
 simp[Xn,exts]
theorem extTo_all (xs ys:List Sx):Xn xs ys xs.length 0=exts xs ys:=by rw[extTo_zero,List.take_length]
theorem extTo_yes {xs ys:List Sx}{k j:Nat}(h:j<ys.length)(e:(Ql xs k).h=(Ql ys j).t):Xn xs ys k (j+1)=Xn xs ys k j++[joinS (Ql xs k) (Ql ys j)]:=by
 unfold Xn extOf
 rw[sx_take h,List.filter_append]
 simp[e]
theorem extTo_no {xs ys:List Sx}{k j:Nat}(h:j<ys.length)(e:¬(Ql xs k).h=(Ql ys j).t):Xn xs ys k (j+1)=Xn xs ys k j:=by
 unfold Xn extOf
 rw[sx_take h,List.filter_append]
 simp[e]
theorem extTo_pre {xs ys:List Sx}{k j:Nat}(hk:k<xs.length):Xn xs ys k j <+: exts xs ys:=by
 have e1:xs=xs.take k++Ql xs k::xs.drop (k+1):=by
  conv=>lhs;rw[<-List.take_append_drop (k+1) xs,sx_take hk]
  simp
 have e2:extOf (Ql xs k) ys=extOf (Ql xs k) (ys.take j)++extOf (Ql xs k) (ys.drop j):=by
  unfold extOf
  rw[<-List.map_append,<-List.filter_append,List.take_append_drop]
 refine⟨extOf (Ql xs k) (ys.drop j)++exts (xs.drop (k+1)) ys,?_⟩
 conv=>rhs;rw[e1]
 unfold Xn exts
 rw[List.flatMap_append,List.flatMap_cons,e2]
 simp
theorem extTo_next {xs ys:List Sx}{k j:Nat}(hk:k<xs.length)(h:j<ys.length)(e:(Ql xs k).h=(Ql ys j).t):(Xn xs ys k j).length<(exts xs ys).length/\Ql (exts xs ys) (Xn xs ys k j).length=joinS (Ql xs k) (Ql ys j):=by
 obtain⟨r,hr⟩:=extTo_pre (ys:=ys) (j:=j+1) hk
 rw[extTo_yes h e] at hr
 rw[<-hr]
 refine⟨by simp,?_⟩
 simp[Ql,List.getD_eq_getElem?_getD]
end Go.Proofs.YthhbdfiopjclcaaGreatDoor
