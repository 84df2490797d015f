import Derived.Test.YtahpodmokbdjeaaGreatDoorQKN
import Derived.RangeFuncOwn
import Derived.RangeFuncNested
import Derived.RangeFuncBound
import Derived.RangeFuncCalls
import Derived.RangeFuncLeaves
import Derived.Shelf.Abstract
import Derived.Shelf.RegionOpen
import Derived.LoopIn
namespace Go.Proofs.YtahpodmokbdjeaaGreatDoor
open Go.RowKit Go.Sort Go.Maps Tryz
set_option linter.unusedVariables false
set_option maxRecDepth 1000000
set_option maxHeartbeats 16000000
theorem Ko {n0:Nat}{P:Program}{ops:Array Oper}{o:Oper}{a:Act}{w:World}{K:Act->World->Prop}{Q:Exit->Act->World->Prop}{E:Prop}
  (hg:o.guard=none) (m x v:Operand) (t:TypeId) (hop:o.op=Op.mapUpdate t m x v)
  (k e:TypeId) (KK:Keyed P k) (ht:P.underlying t=some (.map k e)) (b n:Nat) (D:DataW Unit)
  (hm:a.eval m=.map (some b)) (hown:w.ownsMap P k Zh b n D) (hn:n<maxLen) (key val:Value) (kl:Lit) (hx:a.eval x=key) (hv:a.eval v=val) (hkey:keyOf P k key=some kl)
  (d:DataW Unit) (ps:List MemPlace) (hval:Zh val=some (d,ps))
  (hK:∀w',w'.ownsMap P k Zh b (n+1) (D.put kl d)->w.grownBy w' (some b)->K (a.put o.dst undef) w') :
  if Region.wanted o (yielded ops a.tmps)=true then Oper.wpIn Fence.wide n0 P o a w K Q else E:=by
 have hw:Region.wanted o (yielded ops a.tmps)=true:=by simp[Region.wanted,hg]
 rw[if_pos hw]
 obtain⟨w',hrun,r1,r2⟩:=hown.update KK ht hn hkey hval
 unfold Oper.wpIn
 refine⟨λf _=>trivial,?_⟩
 rw[show Fence.wide.round=none from rfl,Oper.semAt_none]
 simp[execOp,hop,hm,hx,hv,hrun,Result.andThen]
 exact hK w' r1 r2
def Lk0 (br bm:Nat)(v0 v1 v2 v3:Value)(wb:Nat->Nat):Lk:=⟨br,bm,v0,v1,v2,v3,wb,λ_=>0,λ_=>sN,λ_=>sN,sN⟩
theorem Qas {N:Nt}(h:Qdt N){wb:Nat->Nat}{k:Nat}(hk:k<N.ways.length):∀p∈Yl N wb k,p.1<(wat N.ways k).id:=λp hp=>by
 unfold Yl at hp
 obtain⟨i,hi,rfl⟩:=List.mem_map.1 hp
 exact h.asc i k (List.mem_range.1 hi) hk
theorem BT.eb {w:World}{b e:Nat}{es:List Eg}{wb:Nat->Nat}(h:BT w b (Q1e es wb e) 146):EB w b e (eat es e):=
 ⟨h.c 0 rfl,h.c 1 rfl,h.c 2 rfl,h.c 5 rfl,h.c 6 rfl,h.c 7 rfl⟩
theorem Q7y {C C' t sz n:Nat}{w:World}{v:Value}{xs:List Value}(h:w.ownsRow C t sz v n xs)(hC:C'<=C):w.ownsRow C' t sz v n xs:=by
 refine⟨h.1,?_⟩
 rcases h.2 with h2|⟨g,cap,cur,hv,hg,r⟩
 ·exact oL h2
 ·exact oR ⟨g,cap,cur,hv,by omega,r⟩
theorem Wa.base {C D C' D':Nat}{w:World}{v:Value}{es:List Eg}{ls:List (List Nat)}(h:Wa C D w v es ls)(hC:C'<=C)(hD:D'<=D):Wa C' D' w v es ls:=by
 obtain⟨us,hl,hr,hi⟩:=h
 exact⟨us,hl,Q7y hr hC,λi hlt=>Q7y (hi i hlt) hD⟩
theorem Q9n (w:World)(n:Int):(Instr.makeMap 135 (some (iV n))).run prog w=.ok (.map (some w.heap.size)) (w.alloc (.map #[] 0)):=by
 kernel_rfl
theorem LR.made {C:Nat}(N:Nt)(es:List Eg)(v0 v1 v2 v3:Value)(w:World)(hC:C<=w.heap.size){br bm:Nat}(hm:bm=w.heap.size)(hr:br=w.heap.size+1):LR C N es 0 0 0 0 0 ((w.alloc (.map #[] 0)).alloc (.cells #[v0,v1,v2,v3,iV N.uturn,sN,.map (some bm)] 138)) (Lk0 br bm v0 v1 v2 v3 (λ_=>0)) where
 road:=BT.new _ _ _ _ (by rw[Q3];exact hr)
 cr:=by show C<=br;omega
 cm:=by show C<=bm;omega
 cw:=λi hi=>absurd hi (zM _)
 ce:=λi hi=>absurd hi (zM _)
 map:=by
  subst hm
  exact World.ownsMap.alloc (World.ownsMap_made w _ _ _) _
 way:=λi hi=>absurd hi (zM _)
 row:=λi hi=>absurd hi (zM _)
 all:=⟨rfl,oL ⟨rfl,rfl⟩⟩
 edge:=λi hi=>absurd hi (zM _)
 apart:=λi j g hi=>absurd hi (zM _)
 apartE:=λi g hi=>absurd hi (zM _)
 trav:=λi hi=>absurd hi (zM _)
 bare:=λi _ hi=>absurd hi (zM _)
theorem Q2c (B0:Nat)(v0 v1 v2 v3:Value)(N:Nt)(w:World)(h0:Ye B0 w v0 v1 v2 v3 N)(hs:wsum N.ways N.ways.length<=1048576)(hv:Qe N=true) :
  Calls prog 32 #[.agg #[v0,v1,v2,v3,iV N.uturn]] w λe w'=>(∃L:Lk,e=.returned (pT L.br)/\L.v0=v0/\L.v1=v1/\L.v2=v2/\L.v3=v3/\LR w.heap.size N (E1 N) N.ways.length (E1 N).length (E1 N).length (E1 N).length N.ways.length w' L)/\Nx w w':=by
 obtain⟨ip,hip,hp0,hp1,hp2⟩:=info_parts Q2g
 have HLK:Z (Qdt N):=Q89 hv
 have HRI:Z (Ua N):=Jz hv
 have HVV:Z (Qe N=true):=hv
 have HS:Z (wsum N.ways N.ways.length<=1048576):=hs
 have HI:Z (Ye B0 w v0 v1 v2 v3 N):=h0
 obtain⟨i0,i1,i2,i3⟩:=h0
 obtain⟨a0,c0,rfl,_⟩:=i0.slice
 obtain⟨a2,c2,rfl,_⟩:=i2.slice
 obtain⟨a3,c3,rfl,_⟩:=i3.slice
 obtain⟨a1,c1,rfl,hn1,hk1⟩:=i1
 generalize N.nodes.length=l0 at *
 generalize N.rels.length=l2 at *
 generalize N.turns.length=l3 at *
 generalize hnw:N.ways.length=nw at *
 have HNW:Z (N.ways.length=nw):=hnw
 have hnw2:nw<=2000:=by have:=HRI.o.c1;have:=HNW.o;omega
 clear hnw i0 i2 i3 hv hs hn1
 have hmk:=Q9n
 have hmx:prog.follows .mixedOrders=true:=by kernel_rfl
 go_enter func32,ntmps32
 go_upto_region 1 with fail
 go_cut [1,2,3] from 12 to 18 (λs1 s2 s3 wc=>Z (s1=pT w.heap.size/\s2=.pointer none/\s3=pT (w.heap.size+2))/\Z (Nx w wc)/\Z (BT wc w.heap.size #[sL a0 l0 c0,sL a1 nw c1,sL a2 l2 c2,sL a3 l3 c3,iV N.uturn] 38)/\Z (LR w.heap.size N (E1 N) 0 0 0 0 0 wc (Lk0 (w.heap.size+2) (w.heap.size+1) (sL a0 l0 c0) (sL a1 nw c1) (sL a2 l2 c2) (sL a3 l3 c3) (λ_=>0))))
 case first=>
  have BA:=BT.new w #[sL a0 l0 c0,sL a1 nw c1,sL a2 l2 c2,sL a3 l3 c3,iV N.uturn] 38 _ rfl
  have y0:=BA.c 0 rfl
  have y1:=BA.c 1 rfl
  have y2:=BA.c 2 rfl
  have y3:=BA.c 3 rfl
  have y4:=BA.c 4 rfl
  go_region_held3 (λw'=>w'.cell? (aD w.heap.size 0)=some (sL a0 l0 c0)/\w'.cell? (aD w.heap.size 1)=some (sL a1 nw c1)/\w'.cell? (aD w.heap.size 2)=some (sL a2 l2 c2)/\w'.cell? (aD w.heap.size 3)=some (sL a3 l3 c3)/\w'.cell? (aD w.heap.size 4)=some (iV N.uturn)) (go_keep) (fail)
  all_goals go_wp2
  all_goals go_meet
  all_goals exact⟨⟨rfl,rfl,rfl⟩,Nx.drew (Nx.alloc (Nx.alloc (Q4 _ _) _) _),(((BA.chg (S:=λ_=>False) (Chg.nx (Q4 _ _)) id).chg (S:=λ_=>False) (Chg.nx (Q4 _ _)) id).chg (S:=λ_=>False) (Chg.nx (show Nx _ (World.drew _) from(Below.refl _ _).drew)) id),(LR.made N _ _ _ _ _ _ (by rw[Q3];omega) (by rw[Q3]) (by rw[Q3])).next (show Nx _ (World.drew _) from(Below.refl _ _).drew)⟩
 case rest=>
 obtain⟨hs3,HX0,HBA,HL0⟩:=hcut
 obtain⟨e1,e2,e3⟩:=hs3.o
 subst e1 e2 e3
 clear hs3
 generalize hbr:w.heap.size+2=br at *
 generalize hbm:w.heap.size+1=bm at *
 have HBRM:Z (br=w.heap.size+2/\bm=w.heap.size+1):=⟨hbr.symm,hbm.symm⟩
 clear hbr hbm
 have HCW:Z (w.heap.size<=wc.heap.size):=HX0.o.size
 have k1:=HBA.o.c 1 rfl
 go_wp2
 clear k1
 go_loopw [5,22] (λp5 i wr=>∃(k:Nat) (wb:Nat->Nat),k<=nw/\i=iV k/\Z (LR w.heap.size N (E1 N) k 0 0 0 0 wr (Lk0 br bm (sL a0 l0 c0) (sL a1 nw c1) (sL a2 l2 c2) (sL a3 l3 c3) wb))/\Z (Chg (λx=>x=bm) wc wr)) (λ_ i _=>nw-(intOf i).toNat)
 case atStart=>exact⟨0,_,nZ,rfl,HL0,Chg.nx (Below.refl _ _)⟩
 clear HL0
 obtain⟨k,wb,hkn,rfl,HL,HC⟩:=hrel
 have HNR:Z (Nx w wr):=Below.trans HX0.o (HC.o.below HCW.o (λx e=>by subst e;have:=HBRM.o;omega))
 by_cases hlt:k<nw
 ·obtain⟨b,off,rfl,hB,hb,hc⟩:=hk1 (by omega)
  obtain⟨p1,p2,d0,d1,d2,d3,n1,n2⟩:=hc k hlt
  obtain⟨p1a,p1c,rfl,_⟩:=n1.slice
  obtain⟨p2a,p2c,rfl,_⟩:=n2.slice
  have x0:=Q1 HNR.o d0
  have x1:=Q1 HNR.o d1
  have x2:=Q1 HNR.o d2
  have x3:=Q1 HNR.o d3
  have hlt':(k:Int)<nw:=by omega
  have HKN:Z (k<N.ways.length):=by rw[HNW.o];exact hlt
  generalize (wat N.ways k).nodes.length=p1n at *
  generalize (wat N.ways k).weights.length=p2n at *
  clear hc d0 d1 d2 d3 n1 n2
  go_upto_region 5 with fail
  generalize hW5:wr.alloc (.cells #[iV (wat N.ways k).id,.bool (wat N.ways k).both,sL p1a p1n p1c,sL p2a p2n p2c] 108)=w5
  have HX5:Z (Nx wr w5):=by rw[<-hW5];exact Q4 _ _
  have HBY:Z (BT w5 wr.heap.size #[iV (wat N.ways k).id,.bool (wat N.ways k).both,sL p1a p1n p1c,sL p2a p2n p2c] 108):=by rw[<-hW5];exact BT.new _ _ _ _ rfl
  have HL5:Z (LR w.heap.size N (E1 N) k 0 0 0 0 w5 (Lk0 br bm (sL a0 l0 c0) (sL (some (aD b off)) nw c1) (sL a2 l2 c2) (sL a3 l3 c3) wb)):=HL.o.next HX5.o
  have HZ5:Z (wr.heap.size<w5.heap.size/\w.heap.size<=wr.heap.size):=⟨HBY.o.lt,HNR.o.size⟩
  have z1:w5.cell? (aD br 6)=some (.map (some bm)):=HL5.o.road.c 6 rfl
  have z2:=HBY.o.c 0 rfl
  clear hW5 x0 x1 x2 x3
  have HS0:Z ((λw=>w.cell? (aD br 6)=some (.map (some bm))/\w.cell? (aD wr.heap.size 0)=some (iV (wat N.ways k).id)) w5.drew):=⟨z1,z2⟩
  refine(wpIn_wide (n:=9)).1 ?_
  refine Qj (c:=10) (S:=λw=>w.cell? (aD br 6)=some (.map (some bm))/\w.cell? (aD wr.heap.size 0)=some (iV (wat N.ways k).id)) hmx (by kernel_rfl) (λhw hcl=>?_)
  refine Qf (i:=0) (v:=pT br) hw (by decide) hcl (Qa rfl) rfl (by kernel_rfl) (by kernel_rfl) (by kernel_rfl) (λ_ _ _ h=>h) ⟨oL ⟨by rfl,?y0⟩,λ_=>rfl⟩ HS0.o (λhcl=>?_)
  case y0=>
   rintro w ⟨c1,c2⟩
   go_simp
  refine Qf (i:=1) (v:=pT br) hw (by decide) hcl (Qa rfl) rfl (by kernel_rfl) (by kernel_rfl) (by kernel_rfl) (λ_ _ _ h=>h) ⟨oL ⟨by rfl,?y1⟩,λ_=>rfl⟩ HS0.o (λhcl=>?_)
  case y1=>
   rintro w ⟨c1,c2⟩
   go_simp
  refine Qf (i:=2) (v:=.pointer (some (aD br 6))) hw (by decide) hcl (Qa rfl) rfl (by kernel_rfl) (by kernel_rfl) (by kernel_rfl) (λ_ _ _ h=>h) ⟨oL ⟨by rfl,?y2⟩,λ_=>rfl⟩ HS0.o (λhcl=>?_)
  case y2=>
   rintro w ⟨c1,c2⟩
   go_simp
  refine Qf (i:=3) (v:=.map (some bm)) hw (by decide) hcl (Qa rfl) rfl (by kernel_rfl) (by kernel_rfl) (by kernel_rfl) (λ_ _ _ h=>h) ⟨oL ⟨by rfl,?y3⟩,λ_=>rfl⟩ HS0.o (λhcl=>?_)
  case y3=>
   rintro w ⟨c1,c2⟩
   go_simp
  refine Qf (i:=4) (v:=pT wr.heap.size) hw (by decide) hcl (Qa rfl) rfl (by kernel_rfl) (by kernel_rfl) (by kernel_rfl) (λ_ _ _ h=>h) ⟨oL ⟨by rfl,?y4⟩,λ_=>rfl⟩ HS0.o (λhcl=>?_)
  case y4=>
   rintro w ⟨c1,c2⟩
   go_simp
  refine Qf (i:=5) (v:=iV (wat N.ways k).id) hw (by decide) hcl (Qa rfl) rfl (by kernel_rfl) (by kernel_rfl) (by kernel_rfl) (λ_ _ _ h=>h) ⟨oL ⟨by rfl,?y5⟩,λ_=>rfl⟩ HS0.o (λhcl=>?_)
  case y5=>
   rintro w ⟨c1,c2⟩
   go_simp
  refine Qf (i:=6) (v:=pT wr.heap.size) hw (by decide) hcl (Qa rfl) rfl (by kernel_rfl) (by kernel_rfl) (by kernel_rfl) (λ_ _ _ h=>h) ⟨oL ⟨by rfl,?y6⟩,λ_=>rfl⟩ HS0.o (λhcl=>?_)
  case y6=>
   rintro w ⟨c1,c2⟩
   go_simp
  refine Qf (i:=7) (v:=iV (wat N.ways k).id) hw (by decide) hcl (Qa rfl) rfl (by kernel_rfl) (by kernel_rfl) (by kernel_rfl) (λ_ _ _ h=>h) ⟨oL ⟨by rfl,?y7⟩,λ_=>rfl⟩ HS0.o (λhcl=>?_)
  case y7=>
   rintro w ⟨c1,c2⟩
   go_simp
  refine Qg (i:=8) (by kernel_rfl) (wpOpIn_step rfl (λK hK=>?_))
  go_simp
  refine hK _ _ ⟨oR ⟨z1,z2⟩,?_⟩
  clear hK K
  refine Qg (i:=9) (by kernel_rfl) (wpOpIn_step rfl (λK hK=>?_))
  go_simp
  refine hK _ _ ⟨oR ⟨Q1 (Q4 _ _) z1,Q1 (Q4 _ _) z2⟩,?_⟩
  clear hK K
  refine Qg (i:=10) (by kernel_rfl) (wpOpIn_step rfl (λK hK=>?_))
  refine Ko rfl (.tmp 29) (.tmp 31) (.tmp 35) 135 rfl 2 139 Q6n underlying135 bm k (X8 (Yl N wb k)) (by simp[Act.eval]) (show(w5.alloc (.cells #[.int .i64 (wat N.ways k).id,.slice none 0 0,.slice none 0 0] 142)).ownsMap _ _ _ _ _ _ from HL5.o.map.alloc _) (by unfold maxLen;omega) (.int .i64 (wat N.ways k).id) (.pointer (some ⟨w5.heap.size,0,none⟩)) (.int .i64 (wat N.ways k).id) (by simp[Act.eval]) (by simp[Act.eval]) (keyOf_int_mk underlying2 (HLK.o.wf k HKN.o)) (.lit (.int .i64 (w5.heap.size:Int))) [] rfl ?_
  intro w6 hown hgrow1
  have hgrow:(w5.alloc (.cells #[iV (wat N.ways k).id,sN,sN] 142)).grownBy w6 (some bm):=⟨hgrow1.os,hgrow1.tape,hgrow1.output,hgrow1.size,hgrow1.block⟩
  have HC6:Z (Chg (λx=>x=bm) w5 w6):=(Chg.nx (Q4 _ _)).trans (Chg.grown hgrow (λb e=>zF e))
  have HL6:Z (LR w.heap.size N (E1 N) (k+1) 0 0 0 0 w6 (Lk0 br bm (sL a0 l0 c0) (sL (some (aD b off)) nw c1) (sL a2 l2 c2) (sL a3 l3 c3) (upd wb k w5.heap.size))):=
   LR.newWay HL5.o (λ_=>rfl) (λ_=>rfl) HC6.o lR (by have:=HZ5.o;omega) ((BT.new w5 _ _ _ rfl).chg (Chg.grown hgrow (S:=λx=>x=bm) (λb e=>zF e)) (λe=>by have:=HBRM.o;have:=HL5.o.map.lt;have q:bm<w5.heap.size:=this;omega)) (by rw[<-Q4l _ (Qas HLK.o HKN.o)];exact hown)
  have HCC:Z (Chg (λx=>x=bm) wc w6):=(HC.o.trans (Chg.nx HX5.o)).trans HC6.o
  refine hK _ _ ⟨oL (by decide),?_⟩
  clear hK K hown hgrow hgrow1
  refine Qm (by kernel_rfl) ?_ _
  clear hw hcl HS0 z1 z2
  go_wp2
  go_roundw
  case rel=>exact⟨k+1,_,by omega,by go_num,HL6,HCC⟩
  case measure=>simp[intOf];omega
 have ek:nw=k:=by omega
 subst ek
 clear hlt hkn
 go_upto_region 7 with fail
 have HBAr:Z (BT wr w.heap.size #[sL a0 l0 c0,sL a1 nw c1,sL a2 l2 c2,sL a3 l3 c3,iV N.uturn] 38):=HBA.o.chg HC.o (by have:=HBRM.o;omega)
 have y0:=HBAr.o.c 0 rfl
 have y1:=HBAr.o.c 1 rfl
 have y2:=HBAr.o.c 2 rfl
 have y3:=HBAr.o.c 3 rfl
 have y4:=HBAr.o.c 4 rfl
 go_wp2_with fail
 refine(Q2d B0 _ _ _ _ N _ (by exact HI.o.next HNR.o) (by rw[HNW.o];exact HS.o) HVV.o).mono ?_
 rintro e w7 ⟨⟨vE,rfl,hO7⟩,hx7⟩
 have HX7:Z (Nx wr w7):=hx7
 have HN7:Z (Nx w w7):=HNR.o.trans hx7
 have HE7:Z (Vc wr.heap.size w7 vE (E1 N)):=hO7
 obtain⟨ea,ec,hve,_⟩:=hO7.slice
 have hml:(E1 N).length<=4000:=Ar HRI.o
 generalize hm:(E1 N).length=m at *
 have HM:Z ((E1 N).length=m):=hm
 subst hve
 have HL7:Z (LR w.heap.size N (E1 N) nw 0 0 0 0 w7 (Lk0 br bm (sL a0 l0 c0) (sL a1 nw c1) (sL a2 l2 c2) (sL a3 l3 c3) wb)):=HL.o.next HX7.o
 have HBA7:Z (BT w7 w.heap.size #[sL a0 l0 c0,sL a1 nw c1,sL a2 l2 c2,sL a3 l3 c3,iV N.uturn] 38):=HBAr.o.chg (S:=λ_=>False) (Chg.nx HX7.o) id
 have HZ7:Z (w.heap.size<wr.heap.size/\wr.heap.size<=w7.heap.size):=⟨HBAr.o.lt,hx7.size⟩
 clear hO7 hx7 hm y0 y1 y2 y3 y4 HL HC HNR HBAr HCW HX0 HBA
 generalize hwe:wr.heap.size=we at *
 clear hwe HX7
 go_wp2
 go_loopw [6,7,8,9,40] (λp6 p7 p8 p9 i wr=>∃(k:Nat) (wb eb:Nat->Nat) (vs:Nat->Value) (ve:Value),k<=m/\i=iV k/\Z (LR w.heap.size N (E1 N) nw k k k 0 wr (Lk.mk br bm (sL a0 l0 c0) (sL a1 nw c1) (sL a2 l2 c2) (sL a3 l3 c3) wb eb vs (λ_=>sN) ve))/\Z (Vc we wr (sL ea m ec) (E1 N))/\Z (BT wr w.heap.size #[sL a0 l0 c0,sL a1 nw c1,sL a2 l2 c2,sL a3 l3 c3,iV N.uturn] 38)/\Z (Nx w wr)) (λ_ _ _ _ i _=>m-(intOf i).toNat)
 case atStart=>exact⟨0,_,_,_,_,nZ,rfl,HL7,HE7,HBA7,HN7⟩
 clear HL7 HE7 HBA7 HN7 wb
 obtain⟨k,wb,eb,vs,ve,hkm,rfl,HL,HE,HBA,HN⟩:=hrel
 by_cases hlt:k<m
 ·have HKM:Z (k<(E1 N).length):=by rw[HM.o];exact hlt
  obtain⟨hmz,be,oe,rfl,hbe,hce⟩:=Vh.at' HE.o.held (by have:=HKM.o;omega)
  clear hmz
  obtain⟨d0,d1,d2,d3,d4,d5,d6⟩:=hce k HKM.o
  obtain⟨i,hiN,hiw⟩:=HLK.o.way k HKM.o
  rw[HNW.o] at hiN
  have HIW:Z ((eat (E1 N) k).way=i):=hiw
  rw[hiw] at d3
  have HEC:Z (Q1e (E1 N) wb k=#[iV (eat (E1 N) k).tail,iV (eat (E1 N) k).head,iV (eat (E1 N) k).weight,iV (i:Int),iV (eat (E1 N) k).seg,.bool (eat (E1 N) k).back,iV (eat (E1 N) k).twin,iV (k:Int),pT (wb i),sN,sN]):=by unfold Z Q1e;rw[hiw];rfl
  have hlt':(k:Int)<m:=by omega
  obtain⟨b,off,rfl,hB,hb,hc⟩:=hk1 (by omega)
  obtain⟨p1,p2,q0,_⟩:=hc i hiN
  have q0:=Q1 HN.o q0
  have HID:Z ((Lit.int .i64 (wat N.ways i).id).wf=true):=HLK.o.wf i (by rw[HNW.o];exact hiN)
  have HKO:Z (Y8 (Yl N wb nw) (wat N.ways i).id=some (wb i)):=Fx hiN (HLK.o.inj (by rw[HNW.o];exact lR))
  generalize hX:eat (E1 N) k=X at *
  have HXE:Z (eat (E1 N) k=X):=hX
  clear hX
  clear hce hc hiw
  go_upto_region 10 with fail
  generalize hW8:wr.alloc (.cells #[iV X.tail,iV X.head,iV X.weight,iV (i:Int),iV X.seg,.bool X.back,iV X.twin] 75)=w8
  have HX8:Z (Nx wr w8):=by rw[<-hW8];exact Q4 _ _
  have HBG:Z (BT w8 wr.heap.size #[iV X.tail,iV X.head,iV X.weight,iV (i:Int),iV X.seg,.bool X.back,iV X.twin] 75):=by rw[<-hW8];exact BT.new _ _ _ _ rfl
  have HL8:Z (LR w.heap.size N (E1 N) nw k k k 0 w8 (Lk.mk br bm (sL a0 l0 c0) (sL (some (aD b off)) nw c1) (sL a2 l2 c2) (sL a3 l3 c3) wb eb vs (λ_=>sN) ve)):=HL.o.next HX8.o
  have HBA8:Z (BT w8 w.heap.size #[sL a0 l0 c0,sL (some (aD b off)) nw c1,sL a2 l2 c2,sL a3 l3 c3,iV N.uturn] 38):=HBA.o.chg (S:=λ_=>False) (Chg.nx HX8.o) id
  have z1:w8.cell? (aD br 6)=some (.map (some bm)):=HL8.o.road.c 6 rfl
  have z2:=HBG.o.c 3 rfl
  have z3:=HBA8.o.c 1 rfl
  have z4:=Q1 HX8.o q0
  have z5:=HL8.o.map
  clear hW8 d0 d1 d2 d3 d4 d5 d6
  have hi0:(0:Int)<=(i:Int):=by omega
  have hi1:(i:Int)<(nw:Int):=by omega
  have HS0:Z ((λu=>u.cell? (aD br 6)=some (.map (some bm))/\u.cell? (aD wr.heap.size 3)=some (iV (i:Int))/\u.cell? (aD w.heap.size 1)=some (sL (some (aD b off)) nw c1)/\u.cell? (aD b (off+i*4))=some (iV (wat N.ways i).id)/\u.ownsMap prog 2 Zh bm nw (X8 (Yl N wb nw))) w8.drew):=⟨z1,z2,z3,z4,z5⟩
  refine(wpIn_wide (n:=9)).1 ?_
  refine Qj (c:=13) (S:=λu=>u.cell? (aD br 6)=some (.map (some bm))/\u.cell? (aD wr.heap.size 3)=some (iV (i:Int))/\u.cell? (aD w.heap.size 1)=some (sL (some (aD b off)) nw c1)/\u.cell? (aD b (off+i*4))=some (iV (wat N.ways i).id)/\u.ownsMap prog 2 Zh bm nw (X8 (Yl N wb nw))) hmx (by kernel_rfl) (λhw hcl=>?_)
  refine Qf (i:=0) (v:=pT br) hw (by decide) hcl (Qa rfl) rfl (by kernel_rfl) (by kernel_rfl) (by kernel_rfl) (λ_ _ _ h=>h) ⟨oL ⟨by rfl,?y0⟩,λ_=>rfl⟩ HS0.o (λhcl=>?_)
  case y0=>
   rintro u ⟨c1,c2,c3,c4,c5⟩
   have hl:=Jp c5 HID.o HKO.o
   go_simp
  refine Qf (i:=1) (v:=pT br) hw (by decide) hcl (Qa rfl) rfl (by kernel_rfl) (by kernel_rfl) (by kernel_rfl) (λ_ _ _ h=>h) ⟨oL ⟨by rfl,?y1⟩,λ_=>rfl⟩ HS0.o (λhcl=>?_)
  case y1=>
   rintro u ⟨c1,c2,c3,c4,c5⟩
   have hl:=Jp c5 HID.o HKO.o
   go_simp
  refine Qf (i:=2) (v:=.pointer (some (aD br 6))) hw (by decide) hcl (Qa rfl) rfl (by kernel_rfl) (by kernel_rfl) (by kernel_rfl) (λ_ _ _ h=>h) ⟨oL ⟨by rfl,?y2⟩,λ_=>rfl⟩ HS0.o (λhcl=>?_)
  case y2=>
   rintro u ⟨c1,c2,c3,c4,c5⟩
   have hl:=Jp c5 HID.o HKO.o
   go_simp
  refine Qf (i:=3) (v:=.map (some bm)) hw (by decide) hcl (Qa rfl) rfl (by kernel_rfl) (by kernel_rfl) (by kernel_rfl) (λ_ _ _ h=>h) ⟨oL ⟨by rfl,?y3⟩,λ_=>rfl⟩ HS0.o (λhcl=>?_)
  case y3=>
   rintro u ⟨c1,c2,c3,c4,c5⟩
   have hl:=Jp c5 HID.o HKO.o
   go_simp
  refine Qf (i:=4) (v:=.pointer (some (aD w.heap.size 1))) hw (by decide) hcl (Qa rfl) rfl (by kernel_rfl) (by kernel_rfl) (by kernel_rfl) (λ_ _ _ h=>h) ⟨oL ⟨by rfl,?y4⟩,λ_=>rfl⟩ HS0.o (λhcl=>?_)
  case y4=>
   rintro u ⟨c1,c2,c3,c4,c5⟩
   have hl:=Jp c5 HID.o HKO.o
   go_simp
  refine Qf (i:=5) (v:=sL (some (aD b off)) nw c1) hw (by decide) hcl (Qa rfl) rfl (by kernel_rfl) (by kernel_rfl) (by kernel_rfl) (λ_ _ _ h=>h) ⟨oL ⟨by rfl,?y5⟩,λ_=>rfl⟩ HS0.o (λhcl=>?_)
  case y5=>
   rintro u ⟨c1,c2,c3,c4,c5⟩
   have hl:=Jp c5 HID.o HKO.o
   go_simp
  refine Qf (i:=6) (v:=.pointer (some (aD wr.heap.size 3))) hw (by decide) hcl (Qa rfl) rfl (by kernel_rfl) (by kernel_rfl) (by kernel_rfl) (λ_ _ _ h=>h) ⟨oL ⟨by rfl,?y6⟩,λ_=>rfl⟩ HS0.o (λhcl=>?_)
  case y6=>
   rintro u ⟨c1,c2,c3,c4,c5⟩
   have hl:=Jp c5 HID.o HKO.o
   go_simp
  refine Qf (i:=7) (v:=iV (i:Int)) hw (by decide) hcl (Qa rfl) rfl (by kernel_rfl) (by kernel_rfl) (by kernel_rfl) (λ_ _ _ h=>h) ⟨oL ⟨by rfl,?y7⟩,λ_=>rfl⟩ HS0.o (λhcl=>?_)
  case y7=>
   rintro u ⟨c1,c2,c3,c4,c5⟩
   have hl:=Jp c5 HID.o HKO.o
   go_simp
  refine Qf (i:=8) (v:=.pointer (some (aD b (off+i*4)))) hw (by decide) hcl (Qa rfl) rfl (by kernel_rfl) (by kernel_rfl) (by kernel_rfl) (λ_ _ _ h=>h) ⟨oL ⟨by rfl,?y8⟩,λ_=>rfl⟩ HS0.o (λhcl=>?_)
  case y8=>
   rintro u ⟨c1,c2,c3,c4,c5⟩
   have hl:=Jp c5 HID.o HKO.o
   go_simp
  refine Qf (i:=9) (v:=.pointer (some (aD b (off+i*4)))) hw (by decide) hcl (Qa rfl) rfl (by kernel_rfl) (by kernel_rfl) (by kernel_rfl) (λ_ _ _ h=>h) ⟨oL ⟨by rfl,?y9⟩,λ_=>rfl⟩ HS0.o (λhcl=>?_)
  case y9=>
   rintro u ⟨c1,c2,c3,c4,c5⟩
   have hl:=Jp c5 HID.o HKO.o
   go_simp
  refine Qf (i:=10) (v:=iV (wat N.ways i).id) hw (by decide) hcl (Qa rfl) rfl (by kernel_rfl) (by kernel_rfl) (by kernel_rfl) (λ_ _ _ h=>h) ⟨oL ⟨by rfl,?y10⟩,λ_=>rfl⟩ HS0.o (λhcl=>?_)
  case y10=>
   rintro u ⟨c1,c2,c3,c4,c5⟩
   have hl:=Jp c5 HID.o HKO.o
   go_simp
  refine Qf (i:=11) (v:=pT (wb i)) hw (by decide) hcl (Qa rfl) rfl (by kernel_rfl) (by kernel_rfl) (by kernel_rfl) (λ_ _ _ h=>h) ⟨oL ⟨by rfl,?y11⟩,λ_=>rfl⟩ HS0.o (λhcl=>?_)
  case y11=>
   rintro u ⟨c1,c2,c3,c4,c5⟩
   have hl:=Jp c5 HID.o HKO.o
   go_simp
  refine Qf (i:=12) (v:=pT (wb i)) hw (by decide) hcl (Qa rfl) rfl (by kernel_rfl) (by kernel_rfl) (by kernel_rfl) (λ_ _ _ h=>h) ⟨oL ⟨by rfl,?y12⟩,λ_=>rfl⟩ HS0.o (λhcl=>?_)
  case y12=>
   rintro u ⟨c1,c2,c3,c4,c5⟩
   have hl:=Jp c5 HID.o HKO.o
   go_simp
  refine Qm (by kernel_rfl) ?_ _
  clear hw hcl HS0 z1 z2 z3 z4 z5
  have HX9:Z (Nx w8 w8.drew):=(show Nx w8 w8.drew from(Below.refl _ _).drew)
  have HL9:Z (LR w.heap.size N (E1 N) nw k k k 0 w8.drew (Lk.mk br bm (sL a0 l0 c0) (sL (some (aD b off)) nw c1) (sL a2 l2 c2) (sL a3 l3 c3) wb eb vs (λ_=>sN) ve)):=HL8.o.next HX9.o
  have HBG9:Z (BT w8.drew wr.heap.size #[iV X.tail,iV X.head,iV X.weight,iV (i:Int),iV X.seg,.bool X.back,iV X.twin] 75):=HBG.o
  have HBA9:Z (BT w8.drew w.heap.size #[sL a0 l0 c0,sL (some (aD b off)) nw c1,sL a2 l2 c2,sL a3 l3 c3,iV N.uturn] 38):=HBA8.o
  have HE9:Z (Vc we w8.drew (sL (some (aD be oe)) m ec) (E1 N)):=(HE.o.next HX8.o).next HX9.o
  have HN9:Z (Nx w w8.drew):=(HN.o.trans HX8.o).trans HX9.o
  generalize w8.drew=w9 at *
  clear HL8 HBG HBA8 HX8 HX9 HL HE HBA HN
  have g0:=HBG9.o.c 0 rfl
  have g1:=HBG9.o.c 1 rfl
  have g2:=HBG9.o.c 2 rfl
  have g3:=HBG9.o.c 3 rfl
  have g4:=HBG9.o.c 4 rfl
  have g5:=HBG9.o.c 5 rfl
  have g6:=HBG9.o.c 6 rfl
  go_upto_region 12 with fail
  clear g0 g1 g2 g3 g4 g5 g6 HBG9
  generalize hW10:w9.alloc (.cells #[iV X.tail,iV X.head,iV X.weight,iV (i:Int),iV X.seg,.bool X.back,iV X.twin,iV (k:Int),pT (wb i),sN,sN] 146)=w10
  have HX10:Z (Nx w9 w10):=by rw[<-hW10];exact Q4 _ _
  have HEB:Z (BT w10 w9.heap.size (Q1e (E1 N) wb k) 146):=by rw[<-hW10,HEC.o];exact BT.new _ _ _ _ rfl
  have HL10:Z (LR w.heap.size N (E1 N) nw (k+1) k k 0 w10 (Lk.mk br bm (sL a0 l0 c0) (sL (some (aD b off)) nw c1) (sL a2 l2 c2) (sL a3 l3 c3) wb (upd eb k w9.heap.size) vs (λ_=>sN) ve)):=LR.newEdge HL9.o lR lR (Nat.le_of_lt (Nat.lt_of_le_of_lt HL9.o.cr HL9.o.road.lt)) HX10.o HEB.o
  have HUP:Z (upd eb k w9.heap.size k=w9.heap.size):=Xp _ _ _
  have HBA10:Z (BT w10 w.heap.size #[sL a0 l0 c0,sL (some (aD b off)) nw c1,sL a2 l2 c2,sL a3 l3 c3,iV N.uturn] 38):=HBA9.o.chg (S:=λ_=>False) (Chg.nx HX10.o) id
  have HE10:Z (Vc we w10 (sL (some (aD be oe)) m ec) (E1 N)):=HE9.o.next HX10.o
  have HN10:Z (Nx w w10):=HN9.o.trans HX10.o
  clear hW10 HL9 HBA9 HE9 HN9 HX10 HEC HEB
  generalize upd eb k w9.heap.size=eb2 at *
  generalize w9.heap.size=b9 at *
  have HWI:Z (BT w10 (wb i) #[iV (wat N.ways i).id,vs i,sN] 142):=HL10.o.way i hiN
  have HRI2:Z (Jg w.heap.size w10 (vs i) ((Jl (E1 N) i k).map eb2)):=HL10.o.row i hiN
  have HOL:Z ((Jl (E1 N) i k).length<=4000):=by unfold Z Jl;have:=yA (Yr (E1 N) i) (List.range k);rw[zY] at this;omega
  obtain⟨va,vc,hvi⟩:=Q7 HRI2.o
  rw[zG] at hvi
  have HVI:Z (vs i=sL va (Jl (E1 N) i k).length vc):=hvi
  have HOW:Z (w10.ownsRow w.heap.size 143 1 (sL va (Jl (E1 N) i k).length vc) (Jl (E1 N) i k).length (ptc ((Jl (E1 N) i k).map eb2))):=by unfold Z;rw[<-hvi];have:=HRI2.o;unfold Jg at this;rw[zG] at this;exact this
  generalize hvn:(Jl (E1 N) i k).length=vn at *
  have HVN:Z ((Jl (E1 N) i k).length=vn):=hvn
  have hvn4:vn<=4000:=HOL.o
  have t1:=HWI.o.c 1 rfl
  rw[hvi] at t1
  clear hvi hvn
  go_wp2_with (at_builtin;refine wpList_append_own_at _ rfl _ _ 136 rfl w.heap.size 143 ip (.pointer none) 1 8 underlying136 hip hp0 hp1 hp2 rfl (by decide) _ _ _ rfl (zB HOW.o _) (aD w10.heap.size 0) 1 1 [pT b9] rfl rfl (λj u hj=>Ql w10 _ _ _ rfl j u hj) ?f2 ?f3 ?f4 ?f5 ?_)
  case f2=>first|rfl|(intro u hu;simp at hu;subst hu;rfl)
  case f3=>unfold maxLen;omega
  case f4=>omega
  case f5=>have:=HN10.o.size;first|omega|(rw[Q3];omega)
  intro v7 w11 hown hgrow _ hat
  have HG11:Z (w10.grownBy w11 (vs i).ownBlock):=by rw[HVI.o];exact(World.grownBy_alloc w10 _ _).trans hgrow
  have HV11:Z (∀g,v7.ownBlock=some g->(vs i).ownBlock=some g\/w10.heap.size<=g):=λg hg=>by
   rcases hat with h|h
   ·exact oL (by rw[HVI.o,<-h];exact hg)
   ·rw[h] at hg
    have h2:=zF hg
    exact oR (by first|omega|(rw[Q3] at h2;omega))
  have HO11:Z (Jg w.heap.size w11 v7 ((Jl (E1 N) i k).map eb2++[eb2 k])):=by
   unfold Z
   rw[HUP.o]
   refine Jg.snoc ?_
   rw[zG,HVN.o]
   exact hown
  have HWB11:Z (BT w11 (wb i) #[iV (wat N.ways i).id,vs i,sN] 142):=HWI.o.chg (Chg.grown HG11.o (S:=λx=>some x=(vs i).ownBlock) (λb e=>e)) (HWI.o.neRow HRI2.o (by decide))
  obtain⟨a7,c7,hv7⟩:=Q7 hown
  subst hv7
  clear hown hgrow hat t1
  have t2:=HWB11.o.c 1 rfl
  have f2:=HWB11.o.blk.frozen 1
  go_upto_region 13 with fail
  generalize hW12:w11.setCell (aD (wb i) 1) (sL a7 (vn+1) c7)=w12
  have HCH:Z (Chg (λx=>some x=(vs i).ownBlock\/x=wb i) w10 w12):=by rw[<-hW12];exact(Chg.grown HG11.o (λb e=>oL e)).trans (Chg.set _ _ _ (oR rfl))
  have HWB12:Z (BT w12 (wb i) #[iV (wat N.ways i).id,sL a7 (vn+1) c7,sN] 142):=by rw[<-hW12];exact HWB11.o.set 1 _
  have HO12:Z (Jg w.heap.size w12 (sL a7 (vn+1) c7) ((Jl (E1 N) i k).map eb2++[eb2 k])):=by
   unfold Z
   rw[<-hW12]
   exact Qs HO11.o (Chg.set (S:=λx=>x=wb i) _ _ _ rfl) (λg hg e=>by subst e;exact HWB11.o.neRow HO11.o (by decide) hg.symm)
  have HL12:Z (LR w.heap.size N (E1 N) nw (k+1) (k+1) k 0 w12 (Lk.mk br bm (sL a0 l0 c0) (sL (some (aD b off)) nw c1) (sL a2 l2 c2) (sL a3 l3 c3) wb eb2 (upd vs i (sL a7 (vn+1) c7)) (λ_=>sN) ve)):=LR.toRow HL10.o (HLK.o.inj (by rw[HNW.o];exact lR)) hiN (by rw[HXE.o];exact HIW.o) HCH.o HWB12.o HO12.o HV11.o
  have HBA12:Z (BT w12 w.heap.size #[sL a0 l0 c0,sL (some (aD b off)) nw c1,sL a2 l2 c2,sL a3 l3 c3,iV N.uturn] 38):=HBA10.o.chg HCH.o (λe=>e.elim (HBA10.o.neRow HRI2.o (by decide)) (HBA10.o.ne HWI.o (by decide)))
  have HE12:Z (Vc we w12 (sL (some (aD be oe)) m ec) (E1 N)):=Qs HE10.o HCH.o (λg hg e=>e.elim (λe=>Qbb HE10.o HRI2.o (by decide) hg e) (λe=>by subst e;exact HWI.o.neRow HE10.o (by decide) hg.symm))
  have HN12:Z (Nx w w12):=Below.trans HN10.o (HCH.o.below HN10.o.size (λx e=>e.elim (λe=>(Q5 HRI2.o x e.symm).1) (λe=>by subst e;exact HL10.o.cw i hiN)))
  clear hW12 t2 f2 HL10 HBA10 HE10 HN10 HCH HWB12 HO12 HO11 HWB11 HV11 HG11 HWI HRI2 HOW HVI
  generalize upd vs i (sL a7 (vn+1) c7)=vs2 at *
  have HRD:Z (BT w12 br #[sL a0 l0 c0,sL (some (aD b off)) nw c1,sL a2 l2 c2,sL a3 l3 c3,iV N.uturn,ve,.map (some bm)] 138):=HL12.o.road
  have HRA:Z (Jg w.heap.size w12 ve ((List.range k).map eb2)):=HL12.o.all
  obtain⟨va2,vc2,hve⟩:=Q7 HRA.o
  rw[zG,zY] at hve
  have HOW:Z (w12.ownsRow w.heap.size 143 1 (sL va2 k vc2) k (ptc ((List.range k).map eb2))):=by unfold Z;rw[<-hve];have:=HRA.o;unfold Jg at this;rw[zG,zY] at this;exact this
  subst hve
  have t1:=HRD.o.c 5 rfl
  go_wp2_with (at_builtin;refine wpList_append_own_at _ rfl _ _ 136 rfl w.heap.size 143 ip (.pointer none) 1 8 underlying136 hip hp0 hp1 hp2 rfl (by decide) _ _ _ rfl (zB HOW.o _) (aD w12.heap.size 0) 1 1 [pT b9] rfl rfl (λj u hj=>Ql w12 _ _ _ rfl j u hj) ?f2 ?f3 ?f4 ?f5 ?_)
  case f2=>first|rfl|(intro u hu;simp at hu;subst hu;rfl)
  case f3=>unfold maxLen;omega
  case f4=>omega
  case f5=>have:=HN12.o.size;first|omega|(rw[Q3];omega)
  intro v7 w13 hown hgrow _ hat
  have HG13:Z (w12.grownBy w13 (sL va2 k vc2).ownBlock):=(World.grownBy_alloc w12 _ _).trans hgrow
  have HV13:Z (∀g,v7.ownBlock=some g->(sL va2 k vc2).ownBlock=some g\/w12.heap.size<=g):=λg hg=>by
   rcases hat with h|h
   ·exact oL (by rw[<-h];exact hg)
   ·rw[h] at hg
    have h2:=zF hg
    exact oR (by first|omega|(rw[Q3] at h2;omega))
  have HO13:Z (Jg w.heap.size w13 v7 ((List.range k).map eb2++[eb2 k])):=by
   unfold Z
   rw[HUP.o]
   refine Jg.snoc ?_
   rw[zG,zY]
   exact hown
  have HRD13:Z (BT w13 br #[sL a0 l0 c0,sL (some (aD b off)) nw c1,sL a2 l2 c2,sL a3 l3 c3,iV N.uturn,sL va2 k vc2,.map (some bm)] 138):=HRD.o.chg (Chg.grown HG13.o (S:=λx=>some x=(sL va2 k vc2).ownBlock) (λb e=>e)) (HRD.o.neRow HRA.o (by decide))
  obtain⟨a9,c9,hv7⟩:=Q7 hown
  subst hv7
  clear hown hgrow hat t1
  have t2:=HRD13.o.c 5 rfl
  have f2:=HRD13.o.blk.frozen 5
  generalize hW14:w13.setCell (aD br 5) (sL a9 (k+1) c9)=w14
  have HCH:Z (Chg (λx=>some x=(sL va2 k vc2).ownBlock\/x=br) w12 w14):=by rw[<-hW14];exact(Chg.grown HG13.o (λb e=>oL e)).trans (Chg.set _ _ _ (oR rfl))
  have HRD14:Z (BT w14 br #[sL a0 l0 c0,sL (some (aD b off)) nw c1,sL a2 l2 c2,sL a3 l3 c3,iV N.uturn,sL a9 (k+1) c9,.map (some bm)] 138):=by rw[<-hW14];exact HRD13.o.set 5 _
  have HO14:Z (Jg w.heap.size w14 (sL a9 (k+1) c9) ((List.range k).map eb2++[eb2 k])):=by
   unfold Z
   rw[<-hW14]
   exact Qs HO13.o (Chg.set (S:=λx=>x=br) _ _ _ rfl) (λg hg e=>by subst e;exact HRD13.o.neRow HO13.o (by decide) hg.symm)
  have HL14:Z (LR w.heap.size N (E1 N) nw (k+1) (k+1) (k+1) 0 w14 (Lk.mk br bm (sL a0 l0 c0) (sL (some (aD b off)) nw c1) (sL a2 l2 c2) (sL a3 l3 c3) wb eb2 vs2 (λ_=>sN) (sL a9 (k+1) c9))):=LR.toAll HL12.o HCH.o HRD14.o HO14.o HV13.o
  have HBA14:Z (BT w14 w.heap.size #[sL a0 l0 c0,sL (some (aD b off)) nw c1,sL a2 l2 c2,sL a3 l3 c3,iV N.uturn] 38):=HBA12.o.chg HCH.o (λe=>e.elim (HBA12.o.neRow HRA.o (by decide)) (HBA12.o.ne HRD.o (by decide)))
  have HE14:Z (Vc we w14 (sL (some (aD be oe)) m ec) (E1 N)):=Qs HE12.o HCH.o (λg hg e=>e.elim (λe=>Qbb HE12.o HRA.o (by decide) hg e) (λe=>by subst e;exact HRD.o.neRow HE12.o (by decide) hg.symm))
  have HN14:Z (Nx w w14):=Below.trans HN12.o (HCH.o.below HN12.o.size (λx e=>e.elim (λe=>(Q5 HRA.o x e.symm).1) (λe=>by subst e;exact HL12.o.cr)))
  have HEQ:Z (w13.setCell (aD br 5) (sL a9 (k+1) c9)=w14):=hW14
  clear hW14 HL12 HBA12 HE12 HN12 HCH HRD14 HO14 HO13 HRD13 HV13 HG13 HRD HRA HOW
  go_wp2
  try rw[HEQ.o]
  go_roundw
  case rel=>exact⟨k+1,wb,eb2,vs2,_,by omega,by go_num,HL14,HE14,HBA14,HN14⟩
  case measure=>simp[intOf];omega
 have ek:m=k:=by omega
 subst ek
 clear hlt hkm
 have y1:=HBA.o.c 1 rfl
 have HLt:Z (LR w.heap.size N (E1 N) nw m m m 0 wr (Lk.mk br bm (sL a0 l0 c0) (sL a1 nw c1) (sL a2 l2 c2) (sL a3 l3 c3) wb eb vs (λ_=>sN) ve)):=HL.o
 have HX2:Z (Nx w wr):=HN.o
 clear HL HN HE HZ7
 go_wp2
 clear y1
 go_loopw [11,86] (λp11 i wr=>∃(k:Nat) (ts:Nat->Value),k<=nw/\i=iV k/\Z (LR w.heap.size N (E1 N) nw m m m k wr (Lk.mk br bm (sL a0 l0 c0) (sL a1 nw c1) (sL a2 l2 c2) (sL a3 l3 c3) wb eb vs ts ve))/\Z (Nx w wr)) (λ_ i _=>nw-(intOf i).toNat)
 case atStart=>exact⟨0,_,nZ,rfl,HLt,HX2⟩
 clear HLt HX2 HBA
 obtain⟨k,ts,hkn,rfl,HL,HN⟩:=hrel
 by_cases hlt:k<nw
 ·obtain⟨b,off,rfl,hB,hb,hc⟩:=hk1 (by omega)
  obtain⟨p1,p2,d0,d1,d2,d3,n1,n2⟩:=hc k hlt
  obtain⟨p1a,p1c,rfl,_⟩:=n1.slice
  obtain⟨p2a,p2c,rfl,_⟩:=n2.slice
  have x0:=Q1 HN.o d0
  have x1:=Q1 HN.o d1
  have x2:=Q1 HN.o d2
  have x3:=Q1 HN.o d3
  have hlt':(k:Int)<nw:=by omega
  generalize (wat N.ways k).nodes.length=p1n at *
  generalize (wat N.ways k).weights.length=p2n at *
  clear hc d0 d1 d2 d3 n1 n2
  go_upto_region 18 with fail
  generalize hW5:wr.alloc (.cells #[iV (wat N.ways k).id,.bool (wat N.ways k).both,sL p1a p1n p1c,sL p2a p2n p2c] 108)=w5
  have HX5:Z (Nx wr w5):=by rw[<-hW5];exact Q4 _ _
  have HBY:Z (BT w5 wr.heap.size #[iV (wat N.ways k).id,.bool (wat N.ways k).both,sL p1a p1n p1c,sL p2a p2n p2c] 108):=by rw[<-hW5];exact BT.new _ _ _ _ rfl
  have HL5:Z (LR w.heap.size N (E1 N) nw m m m k w5 (Lk.mk br bm (sL a0 l0 c0) (sL (some (aD b off)) nw c1) (sL a2 l2 c2) (sL a3 l3 c3) wb eb vs ts ve)):=HL.o.next HX5.o
  have HN5:Z (Nx w w5):=HN.o.trans HX5.o
  have z1:w5.cell? (aD br 6)=some (.map (some bm)):=HL5.o.road.c 6 rfl
  have z2:=HBY.o.c 0 rfl
  have z3:=HL5.o.map
  have HID:Z ((Lit.int .i64 (wat N.ways k).id).wf=true):=HLK.o.wf k (by rw[HNW.o];exact hlt)
  have HKO:Z (Y8 (Yl N wb nw) (wat N.ways k).id=some (wb k)):=Fx hlt (HLK.o.inj (by rw[HNW.o];exact lR))
  clear hW5 x0 x1 x2 x3
  have HDR:Z (Nx w5 w5.drew):=(show Nx w5 w5.drew from(Below.refl _ _).drew)
  have HLD:Z (LR w.heap.size N (E1 N) nw m m m k w5.drew (Lk.mk br bm (sL a0 l0 c0) (sL (some (aD b off)) nw c1) (sL a2 l2 c2) (sL a3 l3 c3) wb eb vs ts ve)):=HL5.o.next HDR.o
  have HND:Z (Nx w w5.drew):=HN5.o.trans HDR.o
  have HTB:Z (BT w5.drew (wb k) #[iV (wat N.ways k).id,vs k,sN] 142):=by
   have h1:BT w5.drew (wb k) #[iV (wat N.ways k).id,vs k,ts k] 142:=HLD.o.way k hlt
   have h2:ts k=sN:=HLD.o.bare k lR hlt
   rw[h2] at h1
   exact h1
  have HTP:Z (Zb w.heap.size w5.drew (vs k) ((Jl (E1 N) k m).map eb)):=Jg.held (HLD.o.row k hlt)
  have HTL:Z ((Jl (E1 N) k m).length<=4000):=by unfold Z Jl;have:=yA (Yr (E1 N) k) (List.range m);rw[zY] at this;omega
  have HTE:Z (∀e∈Jl (E1 N) k m,EB w5.drew (eb e) e (eat (E1 N) e)):=λe he=>(HLD.o.edge e (Wx he)).eb
  have HTF:Z ((Jl (E1 N) k m).filter (λe=>!(eat (E1 N) e).back)≠[]):=by have:=HLK.o.fwd k (by rw[HNW.o];exact hlt);rw[HM.o] at this;exact this
  have HS0:Z ((λu=>u.cell? (aD br 6)=some (.map (some bm))/\u.cell? (aD wr.heap.size 0)=some (iV (wat N.ways k).id)/\u.ownsMap prog 2 Zh bm nw (X8 (Yl N wb nw))) w5.drew):=⟨z1,z2,z3⟩
  refine(wpIn_wide (n:=9)).1 ?_
  refine Qj (c:=7) (S:=λu=>u.cell? (aD br 6)=some (.map (some bm))/\u.cell? (aD wr.heap.size 0)=some (iV (wat N.ways k).id)/\u.ownsMap prog 2 Zh bm nw (X8 (Yl N wb nw))) hmx (by kernel_rfl) (λhw hcl=>?_)
  refine Qf (i:=0) (v:=pT br) hw (by decide) hcl (Qa rfl) rfl (by kernel_rfl) (by kernel_rfl) (by kernel_rfl) (λ_ _ _ h=>h) ⟨oL ⟨by rfl,?y0⟩,λ_=>rfl⟩ HS0.o (λhcl=>?_)
  case y0=>
   rintro u ⟨c1,c2,c5⟩
   have hl:=Jp c5 HID.o HKO.o
   go_simp
  refine Qf (i:=1) (v:=pT br) hw (by decide) hcl (Qa rfl) rfl (by kernel_rfl) (by kernel_rfl) (by kernel_rfl) (λ_ _ _ h=>h) ⟨oL ⟨by rfl,?y1⟩,λ_=>rfl⟩ HS0.o (λhcl=>?_)
  case y1=>
   rintro u ⟨c1,c2,c5⟩
   have hl:=Jp c5 HID.o HKO.o
   go_simp
  refine Qf (i:=2) (v:=.pointer (some (aD br 6))) hw (by decide) hcl (Qa rfl) rfl (by kernel_rfl) (by kernel_rfl) (by kernel_rfl) (λ_ _ _ h=>h) ⟨oL ⟨by rfl,?y2⟩,λ_=>rfl⟩ HS0.o (λhcl=>?_)
  case y2=>
   rintro u ⟨c1,c2,c5⟩
   have hl:=Jp c5 HID.o HKO.o
   go_simp
  refine Qf (i:=3) (v:=.map (some bm)) hw (by decide) hcl (Qa rfl) rfl (by kernel_rfl) (by kernel_rfl) (by kernel_rfl) (λ_ _ _ h=>h) ⟨oL ⟨by rfl,?y3⟩,λ_=>rfl⟩ HS0.o (λhcl=>?_)
  case y3=>
   rintro u ⟨c1,c2,c5⟩
   have hl:=Jp c5 HID.o HKO.o
   go_simp
  refine Qf (i:=4) (v:=pT wr.heap.size) hw (by decide) hcl (Qa rfl) rfl (by kernel_rfl) (by kernel_rfl) (by kernel_rfl) (λ_ _ _ h=>h) ⟨oL ⟨by rfl,?y4⟩,λ_=>rfl⟩ HS0.o (λhcl=>?_)
  case y4=>
   rintro u ⟨c1,c2,c5⟩
   have hl:=Jp c5 HID.o HKO.o
   go_simp
  refine Qf (i:=5) (v:=iV (wat N.ways k).id) hw (by decide) hcl (Qa rfl) rfl (by kernel_rfl) (by kernel_rfl) (by kernel_rfl) (λ_ _ _ h=>h) ⟨oL ⟨by rfl,?y5⟩,λ_=>rfl⟩ HS0.o (λhcl=>?_)
  case y5=>
   rintro u ⟨c1,c2,c5⟩
   have hl:=Jp c5 HID.o HKO.o
   go_simp
  refine Qf (i:=6) (v:=pT (wb k)) hw (by decide) hcl (Qa rfl) rfl (by kernel_rfl) (by kernel_rfl) (by kernel_rfl) (λ_ _ _ h=>h) ⟨oL ⟨by rfl,?y6⟩,λ_=>rfl⟩ HS0.o (λhcl=>?_)
  case y6=>
   rintro u ⟨c1,c2,c5⟩
   have hl:=Jp c5 HID.o HKO.o
   go_simp
  refine Qg (i:=7) (by kernel_rfl) (wpOpIn_step rfl (λK hK=>?_))
  go_simp
  refine⟨trivial,(callsIn_wide.2 (Q1s w.heap.size (wb k) _ _ (E1 N) eb (Jl (E1 N) k m) _ (by exact HTB.o) (by exact HTP.o) HTL.o HTE.o HTF.o)).mono ?_⟩
  rintro e w6 ⟨⟨x,rfl⟩,⟨vt,hb6,hs6⟩,ho6⟩
  have HL6:Z (LR w.heap.size N (E1 N) nw m m m (k+1) w6 (Lk.mk br bm (sL a0 l0 c0) (sL (some (aD b off)) nw c1) (sL a2 l2 c2) (sL a3 l3 c3) wb eb vs (upd ts k vt) ve)):=LR.toTrav HLD.o (HLK.o.inj (by rw[HNW.o];exact lR)) hlt ho6 hb6 (hs6.base HND.o.size HND.o.size)
  have HN6:Z (Nx w w6):=Below.trans HND.o (ho6.below (λg e=>by cases e;exact HLD.o.cw k hlt) HND.o.size)
  refine hK _ _ ⟨oL (by decide),?_⟩
  clear hK K hb6 hs6 ho6
  refine Qm (by kernel_rfl) ?_ _
  clear hw hcl HS0 z1 z2 z3
  go_wp2
  go_roundw
  case rel=>exact⟨k+1,_,by omega,by go_num,HL6,HN6⟩
  case measure=>simp[intOf];omega
 have ek:nw=k:=by omega
 subst ek
 clear hlt hkn
 go_wp2
 go_ret
 exact⟨⟨_,rfl,rfl,rfl,rfl,rfl,by rw[HM.o];exact HL.o⟩,HN.o⟩
end Go.Proofs.YtahpodmokbdjeaaGreatDoor
namespace Go.Proofs.YtahpodmokbdjeaaGreatDoor
open Go.RowKit Go.Sort Go.Maps
set_option linter.unusedVariables false
set_option maxRecDepth 1000000
set_option maxHeartbeats 16000000
theorem Qev {N:Nt}{i:Nat}(hb:(wat N.ways i).both=false){e:Nat}(he:e<(E1 N).length)(hw:(eat (E1 N) e).way=i):(eat (E1 N) e).back=false:=by
 rw[Wb] at he
 obtain⟨i',j,q,hi,hj,hq,he1⟩:=Tw N.ways.length he
 obtain⟨_,a1⟩:=Yb hi hj hq
 rw[<-he1] at a1
 have hii:i'=i:=by
  rw[a1] at hw
  split at hw
  ·simp[fwd] at hw;omega
  ·split at hw
   ·simp[fwd] at hw;omega
   ·simp[bwd] at hw;omega
 subst hii
 have hq0:q=0:=by
  have:bnN N i'=1:=by unfold bnN;rw[hb];rfl
  have hq':q<bnN N i':=hq
  omega
 rw[a1]
 split
 ·rfl
 ·first|rfl|(rw[if_pos hq0];rfl)
theorem of_th (es:List Eg)(i:Int)(m:Nat):(Jl es i m).filter (λe=>!(eat es e).back)=Vy es i m:=by
 unfold Jl Vy
 rw[List.filter_filter]
 congr 1
 funext x
 exact Bool.and_comm _ _
theorem of_bk (es:List Eg)(i:Int)(m:Nat):((Jl es i m).filter (λe=>(eat es e).back)).reverse=Xt es i m:=by
 unfold Jl Xt
 rw[List.filter_filter]
 congr 2
 funext x
 exact Bool.and_comm _ _
theorem Q9c {N:Nt}(hv:Qe N=true){i:Nat}(hi:i<N.ways.length):trv (E1 N) (Jl (E1 N) i (E1 N).length)=Jm N (E1 N) i:=by
 unfold trv Jm
 rw[of_th]
 congr 1
 have h:=Z3 (Jz hv) (Yv hv) hi
 have hr:=of_bk (E1 N) i (E1 N).length
 cases hb:(wat N.ways i).both
 ·have e:(Jl (E1 N) i (E1 N).length).filter (λe=>(eat (E1 N) e).back)=[]:=by
   rw[List.filter_eq_nil_iff]
   intro x hx
   have hx1:=Wx hx
   have hx2:=(List.mem_filter.1 hx).2
   rw[Qev hb hx1 (by simpa [Yr] using hx2)]
   simp
  rw[if_pos e]
  rfl
 ·have hn:=h.2 hb
  rw[if_neg (λe=>hn (by rw[<-hr,e];rfl)),hr]
  rfl
end Go.Proofs.YtahpodmokbdjeaaGreatDoor
namespace Go.Proofs.YtahpodmokbdjeaaGreatDoor
open Go
set_option linter.unusedVariables false
set_option maxHeartbeats 16000000
def Qb8:Obj->Bool
 |.cells _ _ _=>true
 |.map _ _=>true
 |_=>false
structure Ck (X K:Nat->Prop)(A B:World):Prop where
 os:B.os=A.os
 tape:B.tape=A.tape
 output:B.output=A.output
 size:A.heap.size<=B.heap.size
 block:∀(b:Nat) (o:Obj),A.heap[b]?=some o->¬X b->(K b\/Qb8 o=true)->B.heap[b]?=some o
abbrev noX:Nat->Prop:=λ_=>False
section
variable {X K:Nat->Prop}{A B C:World}
theorem Ck.refl (X K:Nat->Prop)(A:World):Ck X K A A:=⟨rfl,rfl,rfl,lR,λ_ _ h _ _=>h⟩
theorem Ck.trans (h:Ck X K A B)(k:Ck X K B C):Ck X K A C:=
 ⟨k.os.trans h.os,k.tape.trans h.tape,k.output.trans h.output,zP h.size k.size,λb o hb hx hc=>k.block b o (h.block b o hb hx hc) hx hc⟩
theorem Ck.nx (h:Nx A B):Ck X K A B:=⟨h.os,h.tape,h.output,h.size,λb o hb _ _=>(h.block b (Array.getElem?_eq_some_iff.1 hb).1).trans hb⟩
theorem Ck.chg (h:Chg X A B):Ck X K A B:=⟨h.os,h.tape,h.output,h.size,λb o hb hx _=>(h.block b (Array.getElem?_eq_some_iff.1 hb).1 hx).trans hb⟩
theorem Ck.mono {Y L:Nat->Prop}(h:Ck X K A B)(hX:∀b,X b->Y b)(hK:∀b,L b->K b):Ck Y L A B:=
 ⟨h.os,h.tape,h.output,h.size,λb o hb hy hc=>h.block b o hb (λx=>hy (hX b x)) (hc.imp (hK b) id)⟩
theorem Ck.put {l:Nat}{o o':Obj}(h:A.heap[l]?=some o)(ho:Qb8 o=false)(hl:¬K l):Ck X K A (A.putObj l o'):=
 ⟨rfl,rfl,rfl,by simp,λb p hb _ hc=>by
  by_cases e:b=l
  ·subst e
   rw[h] at hb
   cases hb
   rcases hc with q|q
   ·exact absurd q hl
   ·rw[ho] at q;cases q
  ·exact(World.putObj_heap_other e).trans hb⟩
end
def Ik (P:Program)(gf:Nat)(lb:Array Value)(Py:Nat->Nat->Array Value->World->Prop)(z len:Nat)(Inv:World->Prop):Prop:=
 ∀(X:Nat->Prop) (l m:Nat) (J:Nat->World->Prop) (Jx:World->Prop) (W:World),(∀b,X b->z<=b/\b<W.heap.size) ->
  (∀B,Ck X noX W B->Inv B)->(∀k A B,J k A->Ck noX (λb=>b<W.heap.size) A B->J k B)->(∀A B,Jx A->Ck noX (λb=>b<W.heap.size) A B->Jx B) ->
  (∀k args W1,k<len->J k W1->Ck X noX W W1->Py W.heap.size k args W1->YieldAt Fence.wide m P l args W1 λe W'=>Ck X (λb=>W.heap.size<=b) W1 W'/\((e=.returned (.bool true)/\J (k+1) W')\/(e=.returned (.bool false)/\Jx W'))) ->
  J 0 W->Calls P gf (#[.func (.yield l) #[] #[]]++lb) W λe W'=>(∃v,e=.returned v)/\Ck X noX W W'/\(J len W'\/Jx W')
def Qcg (X K:Nat->Prop)(I:World->Prop)(Ix:World->Prop)(W:World):Exit->Act->World->Prop
 |.normal,_,W'=>Ck X K W W'/\I W'
 |.ret,_,W'=>Ck X K W W'/\Ix W'
 |.exit _,_,_=>False
 |.goto _,_,_=>False
 |.panic _,_,_=>False
 |.outgrown,_,_=>False
theorem Q3p {P:Program}{X K0:Nat->Prop}{l m:Nat}{r:Loop}{W:World}{args:Array Value}{I:World->Prop}{Ix:World->Prop}(Ax:Act->World->Prop)
  (hl:W.heap[l]?=some (.loop r)) (hst:r.state=.ready) (hp:r.pending=none) (hs:args.size=r.params.size) (hX:¬X l) (hK:K0 l)
  (hassign:∀(K:Act->World->Prop),(∀a' W',Nx W W'->Ax a' W'->K a' W')->r.assign.wpIn (Fence.wide.inRound l) m P (Exit.then K (λ_ _ _=>False)) { tmps:=(r.params.zip args).foldl (λt (p,v)=>t.setIfInBounds p v) r.tmps,defers:=[] } W)
  (hbody:∀a' W',Nx W W'->Ax a' W'->r.body.wpIn (Fence.wide.inRound l) m P (Qcg X K0 I Ix (W'.putObj l (.loop { r with state:=.busy }))) a' (W'.putObj l (.loop { r with state:=.busy })))
  (R:Ending->World->Prop)
  (ht:∀W' W3,Nx W W'->Ck X K0 (W'.putObj l (.loop { r with state:=.busy })) W3->I W3->R (.returned (.bool true)) (W3.putObj l (.loop r)))
  (hf:∀W' W3,Nx W W'->Ck X K0 (W'.putObj l (.loop { r with state:=.busy })) W3->Ix W3->R (.returned (.bool false)) (W3.putObj l (.loop { r with state:=.done,pending:=some .ret }))) :
  YieldAt Fence.wide m P l args W R:=by
 refine⟨r.fn,_,r.assign,r.body,run_yield hl hs,roundIn_of_wpIn trivial (hassign _ λa' W' hn ha=>?_)⟩
 have hl':W'.heap[l]?=some (.loop r):=(hn.block l (Array.getElem?_eq_some_iff.1 hl).1).trans hl
 have hbusy:(W'.putObj l (.loop { r with state:=.busy })).heap[l]?=some (.loop { r with state:=.busy }):=World.putObj_heap_same (Array.getElem?_eq_some_iff.1 hl').1
 have still:∀W3,Ck X K0 (W'.putObj l (.loop { r with state:=.busy })) W3->W3.heap[l]?=some (.loop { r with state:=.busy }):=λW3 h=>h.block l _ hbusy hX (oL hK)
 refine⟨_,run_beginRound hl' hst,wpIn_mono (hbody a' W' hn ha) ?_⟩
 intro e a3 W3 h
 cases e with
 |normal=>
  refine⟨_,_,run_endRound none (still W3 h.1),?_⟩
  have:=ht W' W3 hn h.1 h.2
  rcases r with⟨st,pe,f1,f2,f3,f4,f5,f6⟩
  simp only at hst hp
  subst hst hp
  exact this
 |ret=>exact⟨_,_,run_endRound (some .ret) (still W3 h.1),hf W' W3 hn h.1 h.2⟩
 |exit id=>exact h.elim
 |goto t=>exact h.elim
 |panic c=>exact h.elim
 |outgrown=>exact h.elim
theorem Ts {P:Program}{n:Nat}{g:Operand}{ps:Array Tmp}{assign body:Code}{Q:Exit->Act->World->Prop}{a:Act}{w:World}{gf:Nat}{lb:Array Value}{Py:Nat->Nat->Array Value->World->Prop}{z len:Nat}{Inv:World->Prop}
  (hG:Ik P gf lb Py z len Inv) (hg:a.eval g=.func (.func gf) #[] lb) (eg:∀args w,(callFunc gf args).run P w=.ok (.enter gf args) w)
  (X:Nat->Prop) (hX:∀b,X b->z<=b/\b<w.heap.size)
  (hps:∀k args W,Py (w.heap.size+2) k args W->args.size=ps.size) (hPy:∀k args A B,Py (w.heap.size+2) k args A->Ck noX (λb=>b<w.heap.size) A B->Py (w.heap.size+2) k args B)
  (hInv:∀B,Ck X noX w B->Inv B)
  (I:Nat->World->Prop) (Ix:World->Prop) (hI:∀k A B,I k A->Ck noX (λb=>b<w.heap.size) A B->I k B) (hIx:∀A B,Ix A->Ck noX (λb=>b<w.heap.size) A B->Ix B)
  (h0I:I 0 w) (Ax:Array Value->Act->World->Prop) (hAx:∀args a' A B,Ax args a' A->Ck noX (λb=>b<w.heap.size) A B->Ax args a' B)
  (hassign:∀(l k:Nat) (args:Array Value) (W:World) (K:Act->World->Prop),k<len->w.heap.size<=W.heap.size->Py (w.heap.size+2) k args W->(∀a' W',Nx W W'->Ax args a' W'->K a' W')->assign.wpIn (Fence.wide.inRound l) n P (Exit.then K (λ_ _ _=>False)) { tmps:=(ps.zip args).foldl (λt (p,v)=>t.setIfInBounds p v) a.tmps,defers:=[] } W)
  (hbody:∀(l k:Nat) (args:Array Value) (a':Act) (W:World),k<len->I k W->Py (w.heap.size+2) k args W->Ax args a' W->Ck X noX w W->body.wpIn (Fence.wide.inRound l) n P (Qcg X (λb=>w.heap.size<=b) (I (k+1)) Ix W) a' W)
  (hdone:∀(D:Nat) (W:World),w.heap.size<=D->I len W->Ck X noX w W->W.heap[D]?=some (.deferred (some []))->Q .normal { a with defers:={ target:=.collected D,args:=#[] }::a.defers } W)
  (hstop:∀(D:Nat) (W:World),w.heap.size<=D->Ix W->Ck X noX w W->W.heap[D]?=some (.deferred (some []))->Code.ret.wpIn Fence.wide n P Q { a with defers:={ target:=.collected D,args:=#[] }::a.defers } W) :
  (Code.rangeFunc g ps assign body).wpIn Fence.wide n P Q a w:=by
 refine wpIn_rangeFunc λfn _=>?_
 generalize hr:(Loop.mk .ready none fn a.tmps ps assign body w.heap.size:Loop)=r
 generalize hW1:(w.alloc (.deferred (some []))).alloc (.loop r)=W1
 have n1:Nx w W1:=by rw[<-hW1];exact(Q4 _ _).trans (Q4 _ _)
 have s1:W1.heap.size=w.heap.size+2:=by rw[<-hW1,Q3,Q3]
 have r1:W1.heap[w.heap.size+1]?=some (.loop r):=by
  rw[<-hW1]
  have:=World.alloc_heap_new (w.alloc (.deferred (some []))) (.loop r)
  rwa [Q3] at this
 have d1:W1.heap[w.heap.size]?=some (.deferred (some [])):=by
  rw[<-hW1]
  exact((Q4 (w.alloc (.deferred (some []))) (.loop r)).block _ (by rw[Q3];omega)).trans (World.alloc_heap_new w _)
 have hst:r.state=.ready:=by rw[<-hr]
 have hpe:r.pending=none:=by rw[<-hr]
 have hpa:r.params=ps:=by rw[<-hr]
 have has:r.assign=assign:=by rw[<-hr]
 have hbo:r.body=body:=by rw[<-hr]
 have htm:r.tmps=a.tmps:=by rw[<-hr]
 have nXl:¬X (w.heap.size+1):=λx=>by have:=(hX _ x).2;omega
 have tot:∀{W:World},Ck X noX W1 W->Ck X noX w W:=λh=>(Ck.nx n1).trans h
 have rec1:∀{A B:World}{o:Obj}{i:Nat},i<w.heap.size+2->Ck noX (λb=>b<W1.heap.size) A B->A.heap[i]?=some o->B.heap[i]?=some o:=λhi h ho=>h.block _ _ ho id (oL (by omega))
 have weak:∀{A B:World},Ck noX (λb=>b<W1.heap.size) A B->Ck noX (λb=>b<w.heap.size) A B:=λh=>h.mono (λ_ x=>x) (λb q=>by omega)
 have wput:∀{X:Nat->Prop}{A:World}{q:Loop} (o:Obj),A.heap[w.heap.size+1]?=some (.loop q)->Ck X (λb=>b<w.heap.size) A (A.putObj (w.heap.size+1) o):=λo h=>Ck.put h rfl (by omega)
 have wputn:∀{X:Nat->Prop}{A:World}{q:Loop} (o:Obj),A.heap[w.heap.size+1]?=some (.loop q)->Ck X (λb=>W1.heap.size<=b) A (A.putObj (w.heap.size+1) o):=λo h=>Ck.put h rfl (by omega)
 have wput0:∀{X:Nat->Prop}{A:World}{q:Loop} (o:Obj),A.heap[w.heap.size+1]?=some (.loop q)->Ck X noX A (A.putObj (w.heap.size+1) o):=λo h=>Ck.put h rfl id
 refine⟨w.heap.size+1,[{ target:=.collected w.heap.size,args:=#[] }],W1,{ target:=.fn (.func gf) lb,args:=#[.func (.yield (w.heap.size+1)) #[] #[]] },W1,gf,#[.func (.yield (w.heap.size+1)) #[] #[]]++lb,W1,?_,?_,λ_ _=>trivial,?_,λh=>?_,?_⟩
 ·rw[<-hW1,<-hr]
  exact run_enterLoop_outer _ _ _ _ _
 ·simp only[resolve,hg]
  simp[go_sem]
 ·simp[invoke,go_sem,eg]
 ·simp[Fence.wide] at h
 refine callsIn_wide.2 ((hG X (w.heap.size+1) n
  (λk W=>I k W/\W.heap[w.heap.size+1]?=some (.loop r)/\W.heap[w.heap.size]?=some (.deferred (some [])))
  (λW=>Ix W/\W.heap[w.heap.size+1]?=some (.loop { r with state:=.done,pending:=some .ret })/\W.heap[w.heap.size]?=some (.deferred (some []))) W1
  (λb q=>⟨(hX b q).1,by have:=(hX b q).2;omega⟩) (λB h=>hInv B ((Ck.nx n1).trans h))
  (λk A B hj h=>⟨hI k A B hj.1 (weak h),rec1 (by omega) h hj.2.1,rec1 (by omega) h hj.2.2⟩)
  (λA B hj h=>⟨hIx A B hj.1 (weak h),rec1 (by omega) h hj.2.1,rec1 (by omega) h hj.2.2⟩)
  ?_ ⟨hI 0 _ _ h0I (Ck.nx n1),r1,d1⟩).mono ?_)
 ·rintro k args W hk ⟨hi,hl,hd⟩ hc hp
  rw[s1] at hp
  have hlt:w.heap.size+1<W.heap.size:=(Array.getElem?_eq_some_iff.1 hl).1
  have aft:∀W' W3,Nx W W'->Ck X (λb=>w.heap.size<=b) (W'.putObj (w.heap.size+1) (.loop { r with state:=.busy })) W3->W3.heap[w.heap.size+1]?=some (.loop { r with state:=.busy })/\W3.heap[w.heap.size]?=some (.deferred (some []))/\∀o,Ck X (λb=>W1.heap.size<=b) W (W3.putObj (w.heap.size+1) o):=λW' W3 hn h=>by
   have hl':W'.heap[w.heap.size+1]?=some (.loop r):=(hn.block _ hlt).trans hl
   have hd':W'.heap[w.heap.size]?=some (.deferred (some [])):=(hn.block _ (by omega)).trans hd
   have hbz:(W'.putObj (w.heap.size+1) (.loop { r with state:=.busy })).heap[w.heap.size+1]?=some (.loop { r with state:=.busy }):=World.putObj_heap_same (Array.getElem?_eq_some_iff.1 hl').1
   have hdz:(W'.putObj (w.heap.size+1) (.loop { r with state:=.busy })).heap[w.heap.size]?=some (.deferred (some [])):=(World.putObj_heap_other (by omega)).trans hd'
   have h1:=h.block _ _ hbz nXl (oL (by omega))
   refine⟨h1,h.block _ _ hdz (λx=>by have:=(hX _ x).2;omega) (oL (by omega)),λo=>?_⟩
   exact(((Ck.nx hn).trans (wputn _ hl')).trans (h.mono (λ_ x=>x) (λb q=>by omega))).trans (wputn _ h1)
  refine Q3p (X:=X) (K0:=λb=>w.heap.size<=b) (I:=I (k+1)) (Ix:=Ix) (Ax args) hl hst hpe (by rw[hpa];exact hps k args W hp) nXl (by omega) ?_ ?_ _ ?_ ?_
  ·intro K hK
   rw[has,hpa,htm]
   exact hassign _ k args W K hk (by have:=hc.size;omega) hp hK
  ·intro a' W' hn ha
   have hl':W'.heap[w.heap.size+1]?=some (.loop r):=(hn.block _ hlt).trans hl
   rw[hbo]
   exact hbody _ k args a' _ hk (hI _ _ _ (hI _ _ _ hi (Ck.nx hn)) (wput _ hl')) (hPy _ _ _ _ (hPy _ _ _ _ hp (Ck.nx hn)) (wput _ hl')) (hAx _ _ _ _ ha (wput _ hl')) (tot ((hc.trans (Ck.nx hn)).trans (wput0 _ hl')))
  ·intro W' W3 hn hc3 hi3
   obtain⟨h1,h2,h3⟩:=aft W' W3 hn hc3
   exact⟨h3 _,oL ⟨rfl,hI _ _ _ hi3 (wput _ h1),World.putObj_heap_same (Array.getElem?_eq_some_iff.1 h1).1,(World.putObj_heap_other (by omega)).trans h2⟩⟩
  ·intro W' W3 hn hc3 hi3
   obtain⟨h1,h2,h3⟩:=aft W' W3 hn hc3
   exact⟨h3 _,oR ⟨rfl,hIx _ _ hi3 (wput _ h1),World.putObj_heap_same (Array.getElem?_eq_some_iff.1 h1).1,(World.putObj_heap_other (by omega)).trans h2⟩⟩
 ·rintro e W2 ⟨⟨v,rfl⟩,hc,(⟨hi,hl,hd⟩|⟨hi,hl,hd⟩)⟩
  ·exact⟨none,_,by have:=run_endLoop (P:=P) hl (by rw[hst];simp);rw[hpe] at this;exact this,hdone w.heap.size _ lR (hI _ _ _ hi (wput _ hl)) (tot (hc.trans (wput0 _ hl))) ((World.putObj_heap_other (by omega)).trans hd)⟩
  ·exact⟨some .ret,_,run_endLoop (P:=P) hl (by simp),hstop w.heap.size _ lR (hIx _ _ hi (wput _ hl)) (tot (hc.trans (wput0 _ hl))) ((World.putObj_heap_other (by omega)).trans hd)⟩
end Go.Proofs.YtahpodmokbdjeaaGreatDoor
namespace Go.Proofs.YtahpodmokbdjeaaGreatDoor
open Go.RowKit Go.Sort Go.Maps Go.Shelf Tryz
set_option linter.unusedVariables false
set_option maxRecDepth 1000000
set_option maxHeartbeats 16000000
attribute [local go_sem] Oper.semAt_some
structure Sx where
 t:Int
 h:Int
 l:List Nat
def Qh (xs:List Sx)(i:Nat):Sx:=xs.getD i ⟨0,0,[]⟩
def Qhq (z c:Nat)(u:Value):Prop:=∀g,u.ownBlock=some g->g<z\/c<=g
def Td (z:Nat)(W:World)(v:Value)(xs:List Sx):Prop:=Ji 0 W v xs.length λb off i=>∃u,W.cell? (aD b (off+i*3))=some (iV (Qh xs i).t)/\W.cell? (aD b (off+i*3+1))=some (iV (Qh xs i).h)/\W.cell? (aD b (off+i*3+2))=some u/\Q8 0 W u (Qb (Qh xs i).l)/\(∀g,u.ownBlock=some g->g<z)/\Vw u
def PyS (z:Nat)(xs:List Sx)(c k:Nat)(args:Array Value)(W:World):Prop:=∃u,args=#[.agg #[iV (Qh xs k).t,iV (Qh xs k).h,u]]/\Q8 0 W u (Qb (Qh xs k).l)/\Qhq z c u/\Vw u
def Qdu (z bq:Nat)(v:Value)(xs:List Sx)(W:World):Prop:=W.cell? (aD bq 0)=some v/\Td z W v xs
theorem Q62 (z bq:Nat)(v:Value)(xs:List Sx)(X:Nat->Prop)(l m:Nat)(J:Nat->World->Prop)(Jx:World->Prop)(W:World)(hX:∀b,X b->z<=b/\b<W.heap.size)
  (hInv:∀B,Ck X noX W B->Qdu z bq v xs B) (hJ:∀k A B,J k A->Ck noX (λb=>b<W.heap.size) A B->J k B)
  (hY:∀k args W1,k<xs.length->J k W1->Ck X noX W W1->PyS z xs W.heap.size k args W1->YieldAt Fence.wide m prog l args W1 λe W'=>Ck X (λb=>W.heap.size<=b) W1 W'/\((e=.returned (.bool true)/\J (k+1) W')\/(e=.returned (.bool false)/\Jx W')))
  (h0:J 0 W) :
  CallsIn Fence.wide (m+1) prog 173 #[.func (.yield l) #[] #[],pT bq] W λe W'=>(∃v,e=.returned v)/\Ck X noX W W'/\(J xs.length W'\/Jx W'):=by
 have HY:Z (∀k args W1,k<xs.length->J k W1->Ck X noX W W1->PyS z xs W.heap.size k args W1->YieldAt Fence.wide m prog l args W1 λe W'=>Ck X (λb=>W.heap.size<=b) W1 W'/\((e=.returned (.bool true)/\J (k+1) W')\/(e=.returned (.bool false)/\Jx W'))):=hY
 have HIN:Z (∀B,Ck X noX W B->Qdu z bq v xs B):=hInv
 have HJS:Z (∀k A B,J k A->Ck noX (λb=>b<W.heap.size) A B->J k B):=hJ
 have hI:=hInv W (Ck.refl _ _ _)
 have HJ0:Z (J 0 W):=h0
 obtain⟨x0,hv⟩:=hI
 obtain⟨sa,cap,rfl,hmx,hk⟩:=hv
 unfold maxLen at hmx
 generalize hn:xs.length=n at *
 have HN:Z (xs.length=n):=hn
 clear hY hInv hJ h0 hk hn
 refine callsIn_of_wp func173 rfl trivial ?_ rfl
 simp only[ntmps173,List.size_toArray,List.length_cons,List.length_nil,Nat.reduceAdd,Nat.reduceSub,Array.replicate_succ,Array.replicate_zero,List.push_toArray,List.append_toArray,List.nil_append,List.cons_append]
 gi_wp2
 gi_loopw [4,7] (λp4 i wr=>∃c:Nat,c<=n/\i=iV c/\Z (J c wr)/\Z (Ck X noX W wr)) (λ_ i _=>n-(intOf i).toNat)
 case atStart=>exact⟨0,nZ,rfl,HJ0,Ck.refl _ _ _⟩
 case round=>
  clear HJ0
  obtain⟨c,hc,rfl,HJ,HC⟩:=hrel
  by_cases hlt:c<n
  ·have HIW:Z (Qdu z bq (sL sa n cap) xs wr):=HIN.o _ HC.o
   obtain⟨y0,sa',cap',hse,hm',hk'⟩:=HIW.o
   have hlx:c<xs.length:=by rw[HN.o];exact hlt
   obtain⟨b,off,rfl,hB,hb,hcs⟩:=hk' (by omega)
   simp only[zC] at hse
   obtain⟨rfl,jl,rfl⟩:=hse
   obtain⟨u,z0,z1,z2,hu,hlz,hcp⟩:=hcs c hlx
   have HLZ:Z (∀g,u.ownBlock=some g->g<z):=hlz
   have HCP:Z (Vw u):=hcp
   have HU:Z (Q8 0 wr u (Qb (Qh xs c).l)):=hu
   obtain⟨ua,uc,rfl,_⟩:=hu.slice
   generalize hun:(Qb (Qh xs c).l).length=un at *
   have hlt':(c:Int)<n:=by omega
   generalize hW2:wr.alloc (.cells #[iV (Qh xs c).t,iV (Qh xs c).h,sL ua un uc] 208)=w2
   have HX2:Z (Nx wr w2):=by rw[<-hW2];exact Q4 _ _
   have HJ2:Z (J c w2):=HJS.o c _ _ HJ.o (Ck.nx HX2.o)
   have HC2:Z (Ck X noX W w2):=HC.o.trans (Ck.nx HX2.o)
   obtain⟨fn,tmps,assign,body,hy,hR⟩:=HY.o c #[.agg #[iV (Qh xs c).t,iV (Qh xs c).h,sL ua un uc]] w2 hlt HJ2.o HC2.o ⟨_,rfl,HU.o.keep (HX2.o.keeps 0),λg hg=>oL (HLZ.o g hg),HCP.o⟩
   have HR:Z (RoundIn Fence.wide m prog l fn tmps assign body w2 _):=hR
   have HEQ:Z (wr.alloc (.cells #[iV (Qh xs c).t,iV (Qh xs c).h,sL ua un uc] 208)=w2):=hW2
   rw[<-hW2] at hy
   clear hR hcs hk' hu hlz hcp jl hun hW2 y0 hm'
   gi_wp2
   rw[HEQ.o]
   refine RoundIn.mono HR.o ?_
   rintro e W3 ⟨hc3,(⟨rfl,hJ3⟩|⟨rfl,hJx3⟩)⟩
   ·have HJ3:Z (J (c+1) W3):=hJ3
    have HC3:Z (Ck X noX W W3):=HC2.o.trans (hc3.mono (λ_ x=>x) (λ_ x=>x.elim))
    clear hJ3 hc3 hy z0 z1 z2
    gi_wp2
    go_roundw
    case rel=>exact⟨c+1,by omega,by go_num,HJ3,HC3⟩
    case measure=>simp[intOf];omega
   ·have HC3:Z (Ck X noX W W3):=HC2.o.trans (hc3.mono (λ_ x=>x) (λ_ x=>x.elim))
    clear hc3
    gi_wp2
    refine bodyPost_ret (results_none rfl _ _ _) rfl ?_
    exact⟨⟨_,rfl⟩,HC3.o,oR hJx3⟩
  ·have he:c=n:=by omega
   subst he
   gi_wp2
   go_end0
   exact⟨⟨_,rfl⟩,HC.o,oL HJ.o⟩
theorem Q1p (z bq:Nat)(v:Value)(xs:List Sx):Ik prog 173 #[pT bq] (PyS z xs) z xs.length (Qdu z bq v xs):=
 λX l m J Jx W hX hInv hJ hJx hY h0=>callsIn_wide.1 (Q62 z bq v xs X l m J Jx W hX hInv hJ hY h0)
theorem Fz (a:Option Addr)(n c:Nat)(w:World) :
  Calls prog 154 #[sL a n c] w λe w'=>e=.returned (.func (.func 173) #[] #[pT w.heap.size])/\w'=w.alloc (.cells #[sL a n c] 140):=by
 have hmf:∀(fn:Fn) (first cap:Array Value) (w:World),(Instr.makeFunc fn first cap).run prog w=.ok (.func fn first cap) w:=λ_ _ _ _=>rfl
 go_enter func154,ntmps154
 go_wp2
 go_ret
 exact⟨rfl,rfl⟩
attribute [local go_sem] Oper.semAt_some
theorem BT.ck {X K:Nat->Prop}{A B:World}{b t:Nat}{cs:Array Value}(h:BT A b cs t)(k:Ck X K A B)(hx:¬X b):BT B b cs t:=k.block b _ h hx (oR rfl)
theorem Px {X K:Nat->Prop}{A B:World}{C t sz n:Nat}{v:Value}{xs:List Value}(h:A.ownsRow C t sz v n xs)(k:Ck X K A B)(hn:∀g,v.ownBlock=some g->¬X g):B.ownsRow C t sz v n xs:=by
 refine⟨h.1,?_⟩
 rcases h.2 with h2|⟨g,cap,cur,hv,hg,hh,r⟩
 ·exact oL h2
 ·exact oR ⟨g,cap,cur,hv,hg,k.block g _ hh (hn g (by rw[hv];rfl)) (oR rfl),r⟩
theorem BT.neShort {w:World}{a t u C n:Nat}{x v:Value}{xs:List Value}(h:BT w a #[x] t)(k:w.ownsRow C u 1 v n xs)(hn:2<=n):some a≠v.ownBlock:=by
 rcases k.2 with⟨rfl,_⟩|⟨g,cap,cur,rfl,_,hh,h1,_,h2,_⟩
 ·simp[Value.ownBlock]
 ·intro e
  have e':a=g:=zF e
  subst e'
  unfold BT at h
  rw[h] at hh
  simp at hh
  have:=hh.1
  rw[<-this] at h2
  simp at h2
  omega
def mark (D:Nat):Deferred:={ target:=.collected D,args:=#[] }
theorem Y6 {F:Fence}{n:Nat}{P:Program}{fn:Func}{tmps:Array Value}{R:Ending->World->Prop}(D:Nat)(w:World)(hD:w.heap[D]?=some (.deferred (some [])))(h:∀w',Ck noX (λb=>b≠D) w w'->LeavesInM F n P fn tmps R [] .returning w'):LeavesInM F n P fn tmps R [mark D] .returning w:=
 ⟨by simp,oL ⟨D,_,rfl,run_takeDeferred hD,h _ (Ck.put hD rfl (λq=>q rfl))⟩⟩
theorem Ck.low {X:Nat->Prop}{w w0 W:World}(n:Nx w w0)(hc:Ck X noX w0 W)(hX:∀b,X b->w.heap.size<=b):Ck noX noX w W:=
 ⟨hc.os.trans n.os,hc.tape.trans n.tape,hc.output.trans n.output,zP n.size hc.size,λb o hb _ hs=>hc.block b o ((n.block b (Array.getElem?_eq_some_iff.1 hb).1).trans hb) (λh=>by have:=hX b h;have:=(Array.getElem?_eq_some_iff.1 hb).1;omega) hs⟩
theorem Ck.set {w W:World}(h:Ck noX noX w W){b:Nat}(hb:w.heap.size<=b)(i:Nat)(v:Value):Ck noX noX w (W.setCell (aD b i) v):=
 ⟨h.os,h.tape,h.output,by have:=h.size;simpa [World.setCell] using this,λc o hc hx hs=>(Below.heap_setCell _ _ _ _ (by have:=(Array.getElem?_eq_some_iff.1 hc).1;simp;omega)).trans (h.block c o hc hx hs)⟩
def PyC (cs:List (List Nat))(c k:Nat)(args:Array Value)(W:World):Prop:=∃u,args=#[u]/\Qd c W u (Qb (Jd cs k))/\2<=(Jd cs k).length
theorem Ks {C:Nat}{W:World}{u:Value}{l:List Nat}(h:Qd C W u (Qb l))(hp:2<=l.length):∃g c,u=sL (sA g) l.length c:=by
 rcases h.2 with⟨_,e⟩|⟨g,cap,cur,hv,_⟩
 ·rw[show(Qb l).length=l.length by simp[Qb]] at e;omega
 ·exact⟨g,cap,by rw[hv];simp[Qb]⟩
def IS (C:Nat)(cs:List (List Nat))(b2 b3 b4:Nat):Nat->World->Prop
 |0,W=>BT W b2 #[sN] 22/\BT W b3 #[iV 0] 2/\BT W b4 #[sN] 22
 |1,W=>BT W b2 #[sN] 22/\BT W b3 #[iV 0] 2/\∃u,BT W b4 #[u] 22/\Qd C W u (Qb (Jd cs 0))/\2<=(Jd cs 0).length
 |_,_=>False
def IxS (len b2 b3:Nat)(W:World):Prop:=BT W b2 #[sN] 22/\BT W b3 #[iV 2] 2/\2<=len
theorem IS.ck {C:Nat}{cs:List (List Nat)}{b2 b3 b4:Nat}{K:Nat->Prop}:∀(k:Nat) (A B:World),IS C cs b2 b3 b4 k A->Ck noX K A B->IS C cs b2 b3 b4 k B
 |0,A,B,h,c=>⟨h.1.ck c id,h.2.1.ck c id,h.2.2.ck c id⟩
 |1,A,B,h,c=>by
  obtain⟨h1,h2,u,h3,h4,h5⟩:=h
  exact⟨h1.ck c id,h2.ck c id,u,h3.ck c id,Px h4 c (λ_ _=>id),h5⟩
 |k+2,A,B,h,c=>h.elim
def Tm (w A:World):Prop:=∀b,b<w.heap.size->A.heap[b]?=w.heap[b]?
theorem Tm.ck {w A B:World}{K:Nat->Prop}(h:Tm w A)(hK:∀b,b<w.heap.size->K b)(c:Ck noX K A B):Tm w B:=λb hb=>by
 have e:w.heap[b]?=some w.heap[b]:=zL hb
 rw[e]
 exact c.block b _ ((h b hb).trans e) id (oL (hK b hb))
theorem Tm.chg {w A B:World}{S:Nat->Prop}(h:Tm w A)(c:Chg S A B)(hS:∀b,S b->w.heap.size<=b):Tm w B:=λb hb=>by
 have e:w.heap[b]?=some w.heap[b]:=zL hb
 have e2:=(h b hb).trans e
 rw[c.block b (Array.getElem?_eq_some_iff.1 e2).1 (λx=>by have:=hS b x;omega)]
 exact h b hb
theorem Tm.nx {w A:World}(h:Tm w A)(c:Ck noX noX w A):Nx w A:=⟨c.os,c.tape,c.output,c.size,λb hb=>h b hb⟩
theorem Tm.of {w A:World}(h:Nx w A):Tm w A:=λb hb=>h.block b hb
def Ws (cs:List (List Nat)):Int:=if cs.length=0 then 1 else if cs.length=1 then 0 else 2
theorem Qb9 (gf:Nat)(lb:Array Value)(cs:List (List Nat))(Inv:World->Prop)(z:Nat)(hG:Ik prog gf lb (PyC cs) z cs.length Inv)(eg:∀args w,(callFunc gf args).run prog w=.ok (.enter gf args) w)(w:World)(hz:z<=w.heap.size)
  (hInv:∀B,Ck noX noX w B->Inv B) :
  Calls prog 83 #[.func (.func gf) #[] lb] w λe w'=>(∃v,e=.returned (.tuple #[v,iV (Ws cs)])/\((cs.length=1/\Qd w.heap.size w' v (Qb (Jd cs 0)))\/(cs.length≠1/\v=sN)))/\Nx w w':=by
 have HG:Z (Ik prog gf lb (PyC cs) z cs.length Inv):=hG
 have HIN:Z (∀B,Ck noX noX w B->Inv B):=hInv
 have HEG:Z (∀args w,(callFunc gf args).run prog w=.ok (.enter gf args) w):=eg
 clear hG hInv eg
 refine(callsIn_wide (n:=9)).1 (callsIn_of_wp_marks func83 rfl trivial ?_ rfl)
 refine wpIn_wide.2 ?_
 simp only[ntmps83,List.size_toArray,List.length_cons,List.length_nil,Nat.reduceAdd,Nat.reduceSub,Array.replicate_succ,Array.replicate_zero,List.push_toArray,List.append_toArray,List.nil_append,List.cons_append]
 go_wp2
 generalize hW0:((w.alloc (.cells #[sN] 22)).alloc (.cells #[iV 0] 2)).alloc (.cells #[sN] 22)=w0
 have HX0:Z (Nx w w0):=by rw[<-hW0];exact((Q4 _ _).trans (Q4 _ _)).trans (Q4 _ _)
 have HS0:Z (w0.heap.size=w.heap.size+3):=by unfold Z;rw[<-hW0];simp
 have HB0:Z (IS w.heap.size cs w.heap.size (w.heap.size+1) (w.heap.size+1+1) 0 w0):=by
  unfold Z
  rw[<-hW0]
  exact⟨((BT.new w _ _ _ rfl).alloc _).alloc _,(BT.new _ _ _ _ (by simp)).alloc _,BT.new _ _ _ _ (by simp)⟩
 clear hW0
 generalize hb4:w.heap.size+1+1=b4 at *
 generalize hb3:w.heap.size+1=b3 at *
 have HBB:Z (b3=w.heap.size+1/\b4=w.heap.size+2):=by unfold Z;omega
 clear hb4 hb3
 refine(wpIn_wide (n:=9)).1 ?_
 refine Ts HG.o rfl HEG.o (λb=>b=w.heap.size\/b=b3\/b=b4) ?hX ?hps ?hPy ?hInv (λk W=>IS w.heap.size cs w.heap.size b3 b4 k W/\Tm w W) (λW=>IxS cs.length w.heap.size b3 W/\Tm w W) ?hI ?hIx ⟨HB0.o,Tm.of HX0.o⟩ (λargs a' W=>∃u,args=#[u]/\a'=⟨#[.func (.func gf) #[] lb,undef,pT w.heap.size,pT b3,pT b4,u,.func (.func gf) #[] lb,u,undef,undef,undef,undef,undef,undef],[]⟩) ?hAx ?assign ?body ?done ?stop
 case hX=>intro b h;have:=HS0.o;have:=HBB.o;rcases h with h|h|h<;>exact⟨by omega,by omega⟩
 case hps=>rintro k args W ⟨u,rfl,_⟩;rfl
 case hPy=>rintro k args A B ⟨u,h1,h2,h3⟩ hc;exact⟨u,h1,Px h2 hc (λ_ _=>id),h3⟩
 case hInv=>exact λB hc=>HIN.o B (Ck.low HX0.o hc (λb h=>by have:=HBB.o;rcases h with h|h|h<;>omega))
 case hI=>exact λk A B h c=>⟨IS.ck k A B h.1 c,h.2.ck (λb q=>by have:=HS0.o;omega) c⟩
 case hIx=>rintro A B ⟨⟨h1,h2,h3⟩,ho⟩ hc;exact⟨⟨h1.ck hc id,h2.ck hc id,h3⟩,ho.ck (λb q=>by have:=HS0.o;omega) hc⟩
 case hAx=>exact λargs a' A B h _=>h
 case assign=>
  rintro l k args W K hk _ ⟨u,rfl,hu,hp⟩ hK
  obtain⟨g,c,rfl⟩:=Ks hu hp
  clear hu
  gi_wp2
  exact hK _ _ (Below.refl _ _) ⟨_,rfl,rfl⟩
 case body=>
  rintro l k args a' W hk ⟨hI,hOld⟩ ⟨u,rfl,hu,hp⟩ ⟨u',e',rfl⟩ hc
  have HOLD:Z (Tm w W):=hOld
  clear hOld
  have e2:u=u':=by simpa using e'
  subst e2
  obtain⟨g,c,rfl⟩:=Ks hu hp
  have HU:Z (Qd w.heap.size W (.slice (sA g) (Jd cs k).length c) (Qb (Jd cs k))):=Qd.base hu (by have:=HS0.o;omega)
  clear e' hu
  match k,hk,hI,hp with
  |0,hk,hI,hp=>
   have H2:Z (BT W w.heap.size #[sN] 22):=hI.1
   have H3:Z (BT W b3 #[iV 0] 2):=hI.2.1
   have H4:Z (BT W b4 #[sN] 22):=hI.2.2
   have x4:=H4.o.c 0 rfl
   have f4:=H4.o.blk.frozen 0
   clear hI
   gi_wp2
   have n2:¬w.heap.size=b4:=by have:=HBB.o;omega
   have n3:¬b3=b4:=by have:=HBB.o;omega
   refine⟨Ck.chg (Chg.set _ _ _ (oR (oR rfl))),?_⟩
   have hst:Chg (λx=>x=b4) W (W.setCell (aD b4 0) (.slice (sA g) (Jd cs 0).length c)):=Chg.set _ _ _ rfl
   exact⟨⟨H2.o.chg hst n2,H3.o.chg hst n3,_,H4.o.set 0 _,Qs HU.o hst (λg hg e=>by subst e;exact H4.o.neRow HU.o (by decide) hg.symm),hp⟩,HOLD.o.chg hst (λb e=>by have:=HBB.o;omega)⟩
  |1,hk,hI,hp=>
   obtain⟨h2,h3,u0,h4,h5,h6⟩:=hI
   obtain⟨g0,c0,rfl⟩:=Ks h5 h6
   have H2:Z (BT W w.heap.size #[sN] 22):=h2
   have H3:Z (BT W b3 #[iV 0] 2):=h3
   have x4:=h4.c 0 rfl
   have x2:=h2.c 0 rfl
   have x3:=h3.c 0 rfl
   have f2:=h2.blk.frozen 0
   have f3:=h3.blk.frozen 0
   have n3:¬b3=w.heap.size:=by have:=HBB.o;omega
   have hst:Chg (λx=>x=w.heap.size) W (W.setCell (aD w.heap.size 0) sN):=Chg.set _ _ _ rfl
   have h3':=h3.chg hst n3
   have y3:=h3'.c 0 rfl
   have g3:=h3'.blk.frozen 0
   have HB3:Z (BT (W.setCell (aD w.heap.size 0) sN) b3 #[iV 0] 2):=h3'
   have HB2:Z (BT (W.setCell (aD w.heap.size 0) sN) w.heap.size #[sN] 22):=h2.set 0 _
   clear h2 h3 h4 h5 h3' hst
   gi_wp2
   refine⟨(Ck.chg (Chg.set _ _ _ (oL rfl))).trans (Ck.chg (Chg.set _ _ _ (oR (oL rfl)))),⟨HB2.o.chg (S:=λx=>x=b3) (Chg.set _ _ _ rfl) (λe=>n3 e.symm),HB3.o.set 0 _,hk⟩,(HOLD.o.chg (S:=λx=>x=w.heap.size) (Chg.set _ _ _ rfl) (λb e=>by omega)).chg (S:=λx=>x=b3) (Chg.set _ _ _ rfl) (λb e=>by have:=HBB.o;omega)⟩
  |k+2,hk,hI,hp=>exact hI.elim
 case done=>
  rintro D W hDw ⟨hI,hOld⟩ hc hD
  have HOLD:Z (Tm w W):=hOld
  have HDW:Z (w.heap.size<D):=by have:=HS0.o;unfold Z;omega
  clear hOld hDw
  have HD:Z (W.heap[D]?=some (.deferred (some []))):=hD
  have HCW:Z (Ck noX noX w W):=Ck.low HX0.o hc (λb h=>by have:=HBB.o;rcases h with h|h|h<;>omega)
  have hn0:∀W,(binOp .eql 22 sN sN).run prog W=.ok (.bool true) W:=λW=>by kernel_rfl
  have hn1:∀(g n c:Nat) W,(binOp .eql 22 (sL (sA g) n c) sN).run prog W=.ok (.bool false) W:=λg n c W=>by kernel_rfl
  clear hD hc
  generalize hlen:cs.length=n at *
  match n,hI with
  |0,hI=>
   have H2:Z (BT W w.heap.size #[sN] 22):=hI.1
   have H3:Z (BT W b3 #[iV 0] 2):=hI.2.1
   have x4:=hI.2.2.c 0 rfl
   clear hI
   have x2:=H2.o.c 0 rfl
   have f2:=H2.o.blk.frozen 0
   have hst:Chg (λx=>x=w.heap.size) W (W.setCell (aD w.heap.size 0) sN):=Chg.set _ _ _ rfl
   have h3':=H3.o.chg hst (by have:=HBB.o;omega)
   have y3:=h3'.c 0 rfl
   have g3:=h3'.blk.frozen 0
   have HB3:Z (BT ((W.setCell (aD w.heap.size 0) sN).setCell (aD b3 0) (iV 1)) b3 #[iV 1] 2):=h3'.set 0 _
   have HB2:Z (BT ((W.setCell (aD w.heap.size 0) sN).setCell (aD b3 0) (iV 1)) w.heap.size #[sN] 22):=(H2.o.set 0 _).chg (S:=λx=>x=b3) (Chg.set _ _ _ rfl) (by have:=HBB.o;omega)
   have HCF:Z (Ck noX noX w ((W.setCell (aD w.heap.size 0) sN).setCell (aD b3 0) (iV 1))):=(HCW.o.set lR _ _).set (by have:=HBB.o;omega) _ _
   have HOF:Z (Tm w ((W.setCell (aD w.heap.size 0) sN).setCell (aD b3 0) (iV 1))):=(HOLD.o.chg (S:=λx=>x=w.heap.size) (Chg.set _ _ _ rfl) (λb e=>by omega)).chg (S:=λx=>x=b3) (Chg.set _ _ _ rfl) (λb e=>by have:=HBB.o;omega)
   have HDF:Z (((W.setCell (aD w.heap.size 0) sN).setCell (aD b3 0) (iV 1)).heap[D]?=some (.deferred (some []))):=by
    have e1:¬D=w.heap.size:=λe=>by have h:=HD.o;rw[e] at h;rw[show W.heap[w.heap.size]?=_ from H2.o] at h;cases h
    have e2:¬D=b3:=λe=>by have h:=HD.o;rw[e] at h;rw[show W.heap[b3]?=_ from H3.o] at h;cases h
    exact(Below.heap_setCell _ _ _ _ (by simpa using e2)).trans ((Below.heap_setCell _ _ _ _ (by simpa using e1)).trans HD.o)
   clear h3' hst
   go_wp2
   refine Y6 D _ HDF.o (λW' ho=>?_)
   have q2:=(HB2.o.ck ho id).c 0 rfl
   have q3:=(HB3.o.ck ho id).c 0 rfl
   refine⟨.tuple #[sN,iV 1],by simp[results,results83,go_sem,q2,q3],⟨_,by unfold Ws;rw[if_pos hlen],oR ⟨by omega,rfl⟩⟩,(HOF.o.ck (λb q=>by have:=HDW.o;omega) ho).nx (HCF.o.trans (ho.mono (λ_ x=>x) (λ_ x=>x.elim)))⟩
  |1,hI=>
   obtain⟨h2,h3,u,h4,h5,h6⟩:=hI
   obtain⟨g,c,rfl⟩:=Ks h5 h6
   have H2:Z (BT W w.heap.size #[sN] 22):=h2
   have H3:Z (BT W b3 #[iV 0] 2):=h3
   have H4:Z (BT W b4 #[.slice (sA g) (Jd cs 0).length c] 22):=h4
   have HU:Z (Qd w.heap.size W (.slice (sA g) (Jd cs 0).length c) (Qb (Jd cs 0))):=h5
   have x4:=h4.c 0 rfl
   clear h2 h3 h4 h5
   have x2:=H2.o.c 0 rfl
   have f2:=H2.o.blk.frozen 0
   have hst:Chg (λx=>x=w.heap.size) W (W.setCell (aD w.heap.size 0) (.slice (sA g) (Jd cs 0).length c)):=Chg.set _ _ _ rfl
   have h3':=H3.o.chg hst (by have:=HBB.o;omega)
   have y3:=h3'.c 0 rfl
   have g3:=h3'.blk.frozen 0
   have HB3:Z (BT ((W.setCell (aD w.heap.size 0) (.slice (sA g) (Jd cs 0).length c)).setCell (aD b3 0) (iV 0)) b3 #[iV 0] 2):=h3'.set 0 _
   have HB2:Z (BT ((W.setCell (aD w.heap.size 0) (.slice (sA g) (Jd cs 0).length c)).setCell (aD b3 0) (iV 0)) w.heap.size #[.slice (sA g) (Jd cs 0).length c] 22):=(H2.o.set 0 _).chg (S:=λx=>x=b3) (Chg.set _ _ _ rfl) (by have:=HBB.o;omega)
   have HCF:Z (Ck noX noX w ((W.setCell (aD w.heap.size 0) (.slice (sA g) (Jd cs 0).length c)).setCell (aD b3 0) (iV 0))):=(HCW.o.set lR _ _).set (by have:=HBB.o;omega) _ _
   have HOF:Z (Tm w ((W.setCell (aD w.heap.size 0) (.slice (sA g) (Jd cs 0).length c)).setCell (aD b3 0) (iV 0))):=(HOLD.o.chg (S:=λx=>x=w.heap.size) (Chg.set _ _ _ rfl) (λb e=>by omega)).chg (S:=λx=>x=b3) (Chg.set _ _ _ rfl) (λb e=>by have:=HBB.o;omega)
   have HDF:Z (((W.setCell (aD w.heap.size 0) (.slice (sA g) (Jd cs 0).length c)).setCell (aD b3 0) (iV 0)).heap[D]?=some (.deferred (some []))):=by
    have e1:¬D=w.heap.size:=λe=>by have h:=HD.o;rw[e] at h;rw[show W.heap[w.heap.size]?=_ from H2.o] at h;cases h
    have e2:¬D=b3:=λe=>by have h:=HD.o;rw[e] at h;rw[show W.heap[b3]?=_ from H3.o] at h;cases h
    exact(Below.heap_setCell _ _ _ _ (by simpa using e2)).trans ((Below.heap_setCell _ _ _ _ (by simpa using e1)).trans HD.o)
   have hro:=Qs (Qs HU.o hst (λg hg e=>by subst e;exact H2.o.neRow HU.o (by decide) hg.symm)) (Chg.set (S:=λx=>x=b3) b3 0 (iV 0) rfl) (λg hg e=>by subst e;exact H3.o.neShort HU.o (by simpa [Qb] using h6) hg.symm)
   have HUF:Z (Qd w.heap.size _ (.slice (sA g) (Jd cs 0).length c) (Qb (Jd cs 0))):=hro
   clear h3' hst hro
   go_wp2
   refine Y6 D _ HDF.o (λW' ho=>?_)
   have q2:=(HB2.o.ck ho id).c 0 rfl
   have q3:=(HB3.o.ck ho id).c 0 rfl
   refine⟨.tuple #[.slice (sA g) (Jd cs 0).length c,iV 0],by simp[results,results83,go_sem,q2,q3],⟨_,by unfold Ws;rw[if_neg (by omega),if_pos hlen],oL ⟨hlen,Px HUF.o ho (λ_ _=>id)⟩⟩,(HOF.o.ck (λb q=>by have:=HDW.o;omega) ho).nx (HCF.o.trans (ho.mono (λ_ x=>x) (λ_ x=>x.elim)))⟩
  |k+2,hI=>exact hI.elim
 case stop=>
  rintro D W hDw ⟨⟨h2,h3,h4⟩,hOld⟩ hc hD
  have HOLD:Z (Tm w W):=hOld
  have HDW:Z (w.heap.size<D):=by have:=HS0.o;unfold Z;omega
  clear hOld hDw
  have HCW:Z (Ck noX noX w W):=Ck.low HX0.o hc (λb h=>by have:=HBB.o;rcases h with h|h|h<;>omega)
  refine wpIn_wide.2 ?_
  go_wp2
  refine Y6 D _ hD (λW' ho=>?_)
  have q2:=(h2.ck ho id).c 0 rfl
  have q3:=(h3.ck ho id).c 0 rfl
  refine⟨.tuple #[sN,iV 2],by simp[results,results83,go_sem,q2,q3],⟨_,by unfold Ws;rw[if_neg (by omega),if_neg (by omega)],oR ⟨by omega,rfl⟩⟩,(HOLD.o.ck (λb q=>by have:=HDW.o;omega) ho).nx (HCW.o.trans (ho.mono (λ_ x=>x) (λ_ x=>x.elim)))⟩
end Go.Proofs.YtahpodmokbdjeaaGreatDoor
namespace Go.Proofs.YtahpodmokbdjeaaGreatDoor
set_option linter.unusedVariables false
set_option maxHeartbeats 16000000
def Q8f (a b:Sx):Sx:=⟨a.t,b.h,a.l++b.l⟩
def Tl (a:Sx)(ys:List Sx):List Sx:=(ys.filter λb=>decide (a.h=b.t)).map (Q8f a)
def Wk (xs ys:List Sx):List Sx:=xs.flatMap λa=>Tl a ys
def Xm (xs ys:List Sx)(k j:Nat):List Sx:=Wk (xs.take k) ys++Tl (Qh xs k) (ys.take j)
theorem Kn {xs:List Sx}{k:Nat}(h:k<xs.length):xs.take (k+1)=xs.take k++[Qh xs k]:=by
 rw[List.take_add_one]
 simp[Qh,List.getD_eq_getElem?_getD,h]
theorem Q57 (xs ys:List Sx):Xm xs ys 0 0=[]:=by simp[Xm,Wk,Tl]
theorem Af (xs ys:List Sx)(k:Nat):Xm xs ys k 0=Wk (xs.take k) ys:=by simp[Xm,Tl]
theorem Q6w {xs ys:List Sx}{k:Nat}(h:k<xs.length):Xm xs ys k ys.length=Xm xs ys (k+1) 0:=by
 rw[Af,Kn h]
 simp[Xm,Wk]
theorem Qad (xs ys:List Sx):Xm xs ys xs.length 0=Wk xs ys:=by rw[Af,zU]
theorem Q1c {xs ys:List Sx}{k j:Nat}(h:j<ys.length)(e:(Qh xs k).h=(Qh ys j).t):Xm xs ys k (j+1)=Xm xs ys k j++[Q8f (Qh xs k) (Qh ys j)]:=by
 unfold Xm Tl
 rw[Kn h,zZ]
 simp[e]
theorem Qd9 {xs ys:List Sx}{k j:Nat}(h:j<ys.length)(e:¬(Qh xs k).h=(Qh ys j).t):Xm xs ys k (j+1)=Xm xs ys k j:=by
 unfold Xm Tl
 rw[Kn h,zZ]
 simp[e]
theorem Qac {xs ys:List Sx}{k j:Nat}(hk:k<xs.length):Xm xs ys k j <+: Wk xs ys:=by
 have e1:xs=xs.take k++Qh xs k::xs.drop (k+1):=by
  conv=>lhs;rw[<-yF (k+1) xs,Kn hk]
  simp
 have e2:Tl (Qh xs k) ys=Tl (Qh xs k) (ys.take j)++Tl (Qh xs k) (ys.drop j):=by
  unfold Tl
  rw[<-yL,<-zZ,yF]
 refine⟨Tl (Qh xs k) (ys.drop j)++Wk (xs.drop (k+1)) ys,?_⟩
 conv=>rhs;rw[e1]
 unfold Xm Wk
 rw[List.flatMap_append,List.flatMap_cons,e2]
 simp
theorem Q6v {xs ys:List Sx}{k j:Nat}(hk:k<xs.length)(h:j<ys.length)(e:(Qh xs k).h=(Qh ys j).t):(Xm xs ys k j).length<(Wk xs ys).length/\Qh (Wk xs ys) (Xm xs ys k j).length=Q8f (Qh xs k) (Qh ys j):=by
 obtain⟨r,hr⟩:=Qac (ys:=ys) (j:=j+1) hk
 rw[Q1c h e] at hr
 rw[<-hr]
 refine⟨by simp,?_⟩
 simp[Qh,List.getD_eq_getElem?_getD]
end Go.Proofs.YtahpodmokbdjeaaGreatDoor
