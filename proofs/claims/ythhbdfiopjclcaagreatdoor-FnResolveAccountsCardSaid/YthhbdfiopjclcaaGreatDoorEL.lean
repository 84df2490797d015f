import Derived.Test.YthhbdfiopjclcaaGreatDoorEN
import Derived.Test.YthhbdfiopjclcaaGreatDoorEH
namespace Go.Proofs.YthhbdfiopjclcaaGreatDoor
open Go.RowKit Go.Sort
set_option linter.unusedVariables false
set_option maxRecDepth 1000000
set_option maxHeartbeats 16000000
attribute [local go_sem] field_first field_drops
theorem accounts_any (B:Nat)(v:Value)(code:List UInt8)(w:World)(h:HBy B w v code)(ht:TabW w) :
  Calls Tryz.prog 3 #[v] w λe w'=>e=.returned (.bool true)/\Nx w w':=by
 have hmx:Tryz.prog.follows .mixedOrders=true:=by kernel_rfl
 have HB:=mh h
 have HT:=mh ht
 obtain⟨ca,cc,rfl,hmx0,-⟩:=h
 unfold maxLen at hmx0
 generalize hn:code.length=n at hmx0 ⊢
 have HN:Hid (code.length=n):=hn
 clear ht hn
 go_enter Tryz.func3,Tryz.ntmps3
 by_cases hbig:1048576<n
 ·have hbig':(1048576:Int)<n:=by omega
  go_wp2
  go_ret
  exact⟨rfl,Nx.refl _⟩
 have hbig':¬(1048576:Int)<n:=by omega
 have HL:Hid (code.length<=1048576):=by unfold Hid;rw[HN.out];omega
 rw[HN.out] at HB
 have HB':Hid (HBy B w (.slice ca n cc) code):=HB
 clear HB
 go_wp2_with fail
 refine(drawResolve_any B _ code w HB'.out HL.out).mono ?_
 rintro e w1 ⟨⟨v0,v1,v2,v3,rfl,vn,vw,vr,hO⟩,hx⟩
 have HWS:=mh (dnNet_b (srcOf_ok code)).sum
 generalize hNN:dnNet (srcOf code)=N at *
 have HNN:=mh hNN
 clear hNN
 obtain⟨a0,c0,rfl⟩:=Q2 hO.nodes
 obtain⟨a1,c1,rfl⟩:=Q2 hO.ways
 obtain⟨a2,c2,rfl⟩:=Q2 hO.rels
 obtain⟨a3,c3,rfl⟩:=Q2 hO.turns
 generalize h0n:N.nodes.length=nn at hO ⊢
 generalize h1n:N.ways.length=nw at hO ⊢
 generalize h2n:N.rels.length=nr at hO ⊢
 generalize h3n:N.turns.length=nt at hO ⊢
 have HNN0:=mh h0n
 have HNW:=mh h1n
 have HNR:=mh h2n
 have HNT:=mh h3n
 have HO1:=mh hO
 have HX1:Hid (Nx w w1):=hx
 have HBX:Hid (BT (w1.alloc (.cells #[.slice a0 nn c0,.slice a1 nw c1,.slice a2 nr c2,.slice a3 nt c3,.int .i64 N.uturn] 28)) w1.heap.size #[.slice a0 nn c0,.slice a1 nw c1,.slice a2 nr c2,.slice a3 nt c3,.int .i64 N.uturn] 28):=BT.new _ _ _ _ rfl
 have HXA:Hid (Nx w1 (w1.alloc (.cells #[.slice a0 nn c0,.slice a1 nw c1,.slice a2 nr c2,.slice a3 nt c3,.int .i64 N.uturn] 28))):=Qc _ _
 clear h0n h1n h2n h3n hO hx
 go_upto_region 4 with fail
 generalize w1.alloc (.cells #[.slice a0 nn c0,.slice a1 nw c1,.slice a2 nr c2,.slice a3 nt c3,.int .i64 N.uturn] 28)=w2 at *
 generalize w1.heap.size=p3 at *
 have HX2:Hid (Nx w w2):=HX1.out.trans HXA.out
 have HO2:=mh (HO1.out.next HXA.out)
 clear HO1 HX1 HXA
 go_wp2_with fail
 refine(drawResolve_any B _ code w2 (HB'.out.next HX2.out) HL.out).mono ?_
 rintro e w3 ⟨⟨v0,v1,v2,v3,rfl,un,uw,ur,hO⟩,hx⟩
 rw[HNN.out] at hO ⊢
 obtain⟨z0,g0,rfl⟩:=Q2 hO.nodes
 obtain⟨z1,g1,rfl⟩:=Q2 hO.ways
 obtain⟨z2,g2,rfl⟩:=Q2 hO.rels
 obtain⟨z3,g3,rfl⟩:=Q2 hO.turns
 have HO3:=mh hO
 have HX3:Hid (Nx w2 w3):=hx
 clear hO hx
 go_wp2_with fail
 refine(implResolve_any _ _ _ _ _ N w3 HO3.out.held HO3.out.caps HWS.out (HT.out.next (HX2.out.trans HX3.out))).mono ?_
 rintro e w4 ⟨⟨vru,vdr,rfl,hX,hD⟩,hx⟩
 obtain⟨ra,rc,rfl⟩:=hX.slice
 obtain⟨da,dc,rfl⟩:=Q2 hD
 generalize hni:(J5 N).rules.length=ni at hX ⊢
 generalize hnd:(J5 N).drops.length=nd at hD ⊢
 have HNI:=mh hni
 have HND:=mh hnd
 have HRX:=mh hX.r
 have HRD:=mh hD
 have HX4:Hid (Nx w2 w4):=HX3.out.trans hx
 have HBY:Hid (BT (w4.alloc (.cells #[.slice ra ni rc,.slice da nd dc] 33)) w4.heap.size #[.slice ra ni rc,.slice da nd dc] 33):=BT.new _ _ _ _ rfl
 have HXA:Hid (Nx w4 (w4.alloc (.cells #[.slice ra ni rc,.slice da nd dc] 33))):=Qc _ _
 clear hni hnd hX hD hx HO3 HX3
 go_upto_region 5 with fail
 generalize w4.alloc (.cells #[.slice ra ni rc,.slice da nd dc] 33)=w5 at *
 generalize w4.heap.size=p4 at *
 have HX5:Hid (Nx w2 w5):=HX4.out.trans HXA.out
 have HO5:=mh (HO2.out.next HX5.out)
 have HBX5:=mh (HBX.out.next HX5.out)
 have HRX5:=mh (HRX.out.next HXA.out)
 have HRD5:=mh (HRD.out.next HXA.out)
 have HXW:Hid (Nx w w5):=HX2.out.trans HX5.out
 have HSV:=mh (specValid_same N)
 clear HX4 HXA HO2 HBX HRX HRD HX2 HX5 HB' HL HT
 have b0:w5.cell? ⟨p3,0,none⟩=some (.slice a0 nn c0):=HBX5.out.blk.cell (i:=0) rfl
 have b1:w5.cell? ⟨p3,1,none⟩=some (.slice a1 nw c1):=HBX5.out.blk.cell (i:=1) rfl
 have b2:w5.cell? ⟨p3,2,none⟩=some (.slice a2 nr c2):=HBX5.out.blk.cell (i:=2) rfl
 have b3:w5.cell? ⟨p3,3,none⟩=some (.slice a3 nt c3):=HBX5.out.blk.cell (i:=3) rfl
 have b4:w5.cell? ⟨p3,4,none⟩=some (.int .i64 N.uturn):=HBX5.out.blk.cell (i:=4) rfl
 go_wp2_with fail
 refine(specValid_any _ _ _ _ _ N w5 HO5.out.held HWS.out).mono ?_
 rintro e w6 ⟨rfl,hx⟩
 have HX6:Hid (Nx w5 w6):=hx
 have HO6:=mh (HO5.out.next hx)
 have HBX6:=mh (HBX5.out.next hx)
 have HBY6:=mh (HBY.out.next hx)
 have HRX6:=mh (HRX5.out.next hx)
 have HRD6:=mh (HRD5.out.next hx)
 rw[HSV.out]
 clear hx HO5 HBX5 HBY HRX5 HRD5 b0 b1 b2 b3 b4
 generalize hvv:Qh N=vv at *
 have HV:Hid (Qh N=vv):=hvv
 clear hvv HSV
 cases vv with
 |false=>
  have HRO:Hid (J5 N=⟨[],[]⟩):=by unfold Hid J5;rw[HV.out];rfl
  have HRR:Hid (Je N=⟨[],[],[],[]⟩):=by unfold Hid Je;rw[HV.out];rfl
  have hni:ni=0:=by rw[<-HNI.out,HRO.out];rfl
  have hnd:nd=0:=by rw[<-HND.out,HRO.out];rfl
  subst hni
  subst hnd
  have b0:w6.cell? ⟨p3,0,none⟩=some (.slice a0 nn c0):=HBX6.out.blk.cell (i:=0) rfl
  have b1:w6.cell? ⟨p3,1,none⟩=some (.slice a1 nw c1):=HBX6.out.blk.cell (i:=1) rfl
  have b2:w6.cell? ⟨p3,2,none⟩=some (.slice a2 nr c2):=HBX6.out.blk.cell (i:=2) rfl
  have b3:w6.cell? ⟨p3,3,none⟩=some (.slice a3 nt c3):=HBX6.out.blk.cell (i:=3) rfl
  have b4:w6.cell? ⟨p3,4,none⟩=some (.int .i64 N.uturn):=HBX6.out.blk.cell (i:=4) rfl
  have aA:w6.cell? ⟨p4,0,none⟩=some (.slice ra 0 rc):=HBY6.out.blk.cell (i:=0) rfl
  have aB:w6.cell? ⟨p4,1,none⟩=some (.slice da 0 dc):=HBY6.out.blk.cell (i:=1) rfl
  go_wp2_with fail
  refine(implRoad_any _ _ _ _ _ N w6 HO6.out.held HWS.out).mono ?_
  rintro e w7 ⟨⟨r0,r1,r2,r3,rfl,hR⟩,hx⟩
  obtain⟨q0,q1,q2,q3,q4,q5,q6,q7,q8,q9,q10,rfl,rfl,rfl,rfl⟩:=hR.sl
  rw[HRR.out]
  go_wp2
  go_ret
  exact⟨rfl,HXW.out.trans (HX6.out.trans hx)⟩
 |true=>
  have b0:w6.cell? ⟨p3,0,none⟩=some (.slice a0 nn c0):=HBX6.out.blk.cell (i:=0) rfl
  have b1:w6.cell? ⟨p3,1,none⟩=some (.slice a1 nw c1):=HBX6.out.blk.cell (i:=1) rfl
  have b2:w6.cell? ⟨p3,2,none⟩=some (.slice a2 nr c2):=HBX6.out.blk.cell (i:=2) rfl
  have b3:w6.cell? ⟨p3,3,none⟩=some (.slice a3 nt c3):=HBX6.out.blk.cell (i:=3) rfl
  have b4:w6.cell? ⟨p3,4,none⟩=some (.int .i64 N.uturn):=HBX6.out.blk.cell (i:=4) rfl
  go_wp2_with fail
  refine(specRoad_any _ _ _ _ _ N w6 HO6.out.held HWS.out).mono ?_
  rintro e w7 ⟨⟨r0,r1,r2,r3,rfl,hR⟩,hx⟩
  have HRO:Hid (Je N=Xd N):=by unfold Hid Je;rw[HV.out];rfl
  rw[HRO.out] at hR
  obtain⟨e0,f0,rfl,-,-⟩:=hR.1
  obtain⟨e1,f1,rfl,-,-⟩:=hR.2.1
  obtain⟨e2,f2,rfl,-,-⟩:=hR.2.2.1
  obtain⟨e3,f3,rfl,-,-⟩:=hR.2.2.2
  have hR0:Qo w6.heap.size w7 (.slice e0 N.nodes.length f0) N.nodes:=hR.1
  have hR1:V4 w6.heap.size w7 (.slice e1 (E1 N).length f1) (E1 N):=hR.2.1
  replace hR0:Hid (Qo w6.heap.size w7 (.slice e0 N.nodes.length f0) N.nodes):=hR0
  generalize hne:(Xd N).edges.length=ne
  generalize hnn:(Xd N).nodes.length=nz
  generalize (Xd N).first.length=n2
  generalize (Xd N).out.length=n3
  have HNE:=mh hne
  have hnz:nn=nz:=by rw[<-hnn,<-HNN0.out];rfl
  subst hnz
  rw[show(E1 N).length=ne from hne] at hR1
  rw[HNN0.out] at hR0
  have HR0:=hR0
  have HR1:=mh hR1
  have HBZ:Hid (BT (w7.alloc (.cells #[.slice e0 nn f0,.slice e1 ne f1,.slice e2 n2 f2,.slice e3 n3 f3] 38)) w7.heap.size #[.slice e0 nn f0,.slice e1 ne f1,.slice e2 n2 f2,.slice e3 n3 f3] 38):=BT.new _ _ _ _ rfl
  have HXA:Hid (Nx w7 (w7.alloc (.cells #[.slice e0 nn f0,.slice e1 ne f1,.slice e2 n2 f2,.slice e3 n3 f3] 38))):=Qc _ _
  have HX7:Hid (Nx w6 w7):=hx
  clear hR hR0 hR1 hne hnn hx b0 b1 b2 b3 b4
  go_upto_region 8 with fail
  generalize w7.alloc (.cells #[.slice e0 nn f0,.slice e1 ne f1,.slice e2 n2 f2,.slice e3 n3 f3] 38)=w8 at *
  generalize w7.heap.size=p5 at *
  have HX8:Hid (Nx w6 w8):=HX7.out.trans HXA.out
  have HR08:=mh (HR0.out.next HXA.out)
  have HR18:Hid (V4 w6.heap.size w8 (.slice e1 ne f1) (E1 N)):=HR1.out.keep (HXA.out.keeps _)
  have HO8:=mh (HO6.out.next HX8.out)
  have HBX8:=mh (HBX6.out.next HX8.out)
  have HBY8:=mh (HBY6.out.next HX8.out)
  have HRX8:=mh (HRX6.out.next HX8.out)
  have HRD8:=mh (HRD6.out.next HX8.out)
  have HXW8:Hid (Nx w w8):=HXW.out.trans (HX6.out.trans HX8.out)
  clear HX6 HX7 HX8 HXA HR0 HR1 HO6 HBX6 HBY6 HRX6 HRD6 HXW
  have HRL:Hid (ni+nd=nr):=by
   have hrl:=rt_len HV.out N.rels.length (Nat.le_refl _)
   rw[<-rt_of HV.out,HNI.out,HND.out,HNR.out] at hrl
   exact hrl
  have HCR:Hid (nr<=1000):=by
   have hcr:N.rels.length<=1000:=(X9 HV.out).cnt
   rw[HNR.out] at hcr
   exact hcr
  go_cut [68] from 47 to 68 (λs68 wq=>s68=.bool false/\Hid (Nx w8 wq))
  case first=>
   have HD:=mh (HO8.out.next (show Nx w8 w8.drew from(Below.refl _ _).drew))
   have HXD:Hid (Nx w8 w8.drew):=(show Nx w8 w8.drew from(Below.refl _ _).drew)
   have HSS:Hid ((λq=>q.cell? ⟨p3,0,none⟩=some (.slice a0 nn c0)/\q.cell? ⟨p3,1,none⟩=some (.slice a1 nw c1)/\q.cell? ⟨p3,2,none⟩=some (.slice a2 nr c2)/\q.cell? ⟨p3,3,none⟩=some (.slice a3 nt c3)/\q.cell? ⟨p3,4,none⟩=some (.int .i64 N.uturn)/\q.cell? ⟨p4,0,none⟩=some (.slice ra ni rc)/\q.cell? ⟨p4,1,none⟩=some (.slice da nd dc)) w8.drew):=⟨Q3 (show Nx w8 w8.drew from(Below.refl _ _).drew) (HBX8.out.blk.cell (i:=0) rfl),Q3 (show Nx w8 w8.drew from(Below.refl _ _).drew) (HBX8.out.blk.cell (i:=1) rfl),Q3 (show Nx w8 w8.drew from(Below.refl _ _).drew) (HBX8.out.blk.cell (i:=2) rfl),Q3 (show Nx w8 w8.drew from(Below.refl _ _).drew) (HBX8.out.blk.cell (i:=3) rfl),Q3 (show Nx w8 w8.drew from(Below.refl _ _).drew) (HBX8.out.blk.cell (i:=4) rfl),Q3 (show Nx w8 w8.drew from(Below.refl _ _).drew) (HBY8.out.blk.cell (i:=0) rfl),Q3 (show Nx w8 w8.drew from(Below.refl _ _).drew) (HBY8.out.blk.cell (i:=1) rfl)⟩
   have HFL:Hid ((Je N).first.length=nn+1):=by unfold Hid;rw[HRO.out];show((List.range (N.nodes.length+1)).map _).length=_;rw[List.length_map,List.length_range,HNN0.out]
   have hrl:=HRL.out
   have hcnt:N.nodes.length<=2000:=(Jq HV.out).c0
   have hcr:=HCR.out
   rw[HNN0.out] at hcnt
   have hne8:((ni:Int)+(nd:Int) !=(nr:Int))=false:=by simp;omega
   have hw8:IntKind.i64.wrap ((ni:Int)+(nd:Int))=(ni:Int)+(nd:Int):=by rw[IntKind.wrap_i64];omega
   have hw9:IntKind.i64.wrap ((nn:Int)+1)=(nn:Int)+1:=by rw[IntKind.wrap_i64];omega
   clear hrl hcr hcnt
   refine(wpIn_wide (n:=9)).1 ?_
   refine Q9 (c:=22) (S:=λq=>q.cell? ⟨p3,0,none⟩=some (.slice a0 nn c0)/\q.cell? ⟨p3,1,none⟩=some (.slice a1 nw c1)/\q.cell? ⟨p3,2,none⟩=some (.slice a2 nr c2)/\q.cell? ⟨p3,3,none⟩=some (.slice a3 nt c3)/\q.cell? ⟨p3,4,none⟩=some (.int .i64 N.uturn)/\q.cell? ⟨p4,0,none⟩=some (.slice ra ni rc)/\q.cell? ⟨p4,1,none⟩=some (.slice da nd dc)) hmx (by kernel_rfl) (λhw hcl=>?_)
   generalize w8.drew=wd at *
   refine tq (i:=0) (v:=.agg #[.slice a0 nn c0,.slice a1 nw c1,.slice a2 nr c2,.slice a3 nt c3,.int .i64 N.uturn]) (λhcl=>?_)
   refine tq (i:=4) (v:=.pointer (some ⟨p3,0,none⟩)) (λhcl=>?_)
   refine tq (i:=5) (v:=.slice a0 nn c0) (λhcl=>?_)
   refine tq (i:=6) (v:=.int .i64 (nn:Int)) (λhcl=>?_)
   refine tq (i:=7) (v:=.int .i64 ((nn:Int)+1)) (λhcl=>?_)
   refine Qg (i:=1) (by kernel_rfl) hcl (λhcl=>wpOpIn_step rfl (λK hK=>?_))
   go_simp
   refine⟨trivial,(callsIn_wide.2 (implRoad_any _ _ _ _ _ N _ HD.out.held HWS.out)).mono ?_⟩
   rintro e9 w9 ⟨⟨r0,r1,r2,r3,rfl,hR⟩,hx9⟩
   obtain⟨q0,q1,q2,q3,q4,q5,q6,q7,q8,q9,q10,rfl,rfl,rfl,rfl⟩:=hR.sl
   rw[HFL.out]
   have HX9:Hid (Nx wd w9):=hx9
   have HSS:Hid ((λq=>q.cell? ⟨p3,0,none⟩=some (.slice a0 nn c0)/\q.cell? ⟨p3,1,none⟩=some (.slice a1 nw c1)/\q.cell? ⟨p3,2,none⟩=some (.slice a2 nr c2)/\q.cell? ⟨p3,3,none⟩=some (.slice a3 nt c3)/\q.cell? ⟨p3,4,none⟩=some (.int .i64 N.uturn)/\q.cell? ⟨p4,0,none⟩=some (.slice ra ni rc)/\q.cell? ⟨p4,1,none⟩=some (.slice da nd dc)) w9):=⟨Q3 hx9 HSS.out.1,Q3 hx9 HSS.out.2.1,Q3 hx9 HSS.out.2.2.1,Q3 hx9 HSS.out.2.2.2.1,Q3 hx9 HSS.out.2.2.2.2.1,Q3 hx9 HSS.out.2.2.2.2.2.1,Q3 hx9 HSS.out.2.2.2.2.2.2⟩
   clear hR hx9
   refine hK _ _ ⟨Or.inr HSS.out,?_⟩
   clear hK K
   refine tq (i:=2) (v:=.slice q6 (nn+1) q7) (λhcl=>?_)
   refine tq (i:=3) (v:=.int .i64 ((nn:Int)+1)) (λhcl=>?_)
   refine tq (i:=8) (v:=.bool false) (λhcl=>?_)
   refine tq (i:=9) (v:=.bool false) (λhcl=>?_)
   refine tq (i:=10) (v:=.pointer (some ⟨p4,0,none⟩)) (λhcl=>?_)
   refine tq (i:=11) (v:=.slice ra ni rc) (λhcl=>?_)
   refine tq (i:=12) (v:=.int .i64 (ni:Int)) (λhcl=>?_)
   refine tq (i:=13) (v:=.pointer (some ⟨p4,1,none⟩)) (λhcl=>?_)
   refine tq (i:=14) (v:=.slice da nd dc) (λhcl=>?_)
   refine tq (i:=15) (v:=.int .i64 (nd:Int)) (λhcl=>?_)
   refine tq (i:=16) (v:=.int .i64 ((ni:Int)+(nd:Int))) (λhcl=>?_)
   refine tq (i:=17) (v:=.pointer (some ⟨p3,2,none⟩)) (λhcl=>?_)
   refine tq (i:=18) (v:=.slice a2 nr c2) (λhcl=>?_)
   refine tq (i:=19) (v:=.int .i64 (nr:Int)) (λhcl=>?_)
   refine tq (i:=20) (v:=.bool false) (λhcl=>?_)
   refine tq (i:=21) (v:=.bool false) (λhcl=>?_)
   refine anyS_act (a':=⟨#[.slice ca n cc,undef,.bool false,.pointer (some ⟨p3,0,none⟩),.pointer (some ⟨p4,0,none⟩),.pointer (some ⟨p5,0,none⟩),undef,undef,undef,undef,undef,undef,undef,undef,undef,undef,undef,.slice ca n cc,.int .i64 (n:Int),.bool false,.slice ca n cc,.agg #[.slice a0 nn c0,.slice a1 nw c1,.slice a2 nr c2,.slice a3 nt c3,.int .i64 N.uturn],.slice ca n cc,.agg #[.slice z0 N.nodes.length g0,.slice z1 N.ways.length g1,.slice z2 N.rels.length g2,.slice z3 N.turns.length g3,.int .i64 N.uturn],.agg #[.slice ra ni rc,.slice da nd dc],.agg #[.slice a0 nn c0,.slice a1 nw c1,.slice a2 nr c2,.slice a3 nt c3,.int .i64 N.uturn],.bool true,.bool false,undef,undef,undef,undef,undef,undef,undef,undef,undef,undef,undef,undef,undef,undef,undef,undef,undef,.agg #[.slice a0 nn c0,.slice a1 nw c1,.slice a2 nr c2,.slice a3 nt c3,.int .i64 N.uturn],.agg #[.slice e0 nn f0,.slice e1 ne f1,.slice e2 n2 f2,.slice e3 n3 f3],.agg #[.slice a0 nn c0,.slice a1 nw c1,.slice a2 nr c2,.slice a3 nt c3,.int .i64 N.uturn],.agg #[.slice q0 q1 q2,.slice q3 q4 q5,.slice q6 (nn+1) q7,.slice q8 q9 q10],.slice q6 (nn+1) q7,.int .i64 ((nn:Int)+1),.pointer (some ⟨p3,0,none⟩),.slice a0 nn c0,.int .i64 (nn:Int),.int .i64 ((nn:Int)+1),.bool false,.bool false,.pointer (some ⟨p4,0,none⟩),.slice ra ni rc,.int .i64 (ni:Int),.pointer (some ⟨p4,1,none⟩),.slice da nd dc,.int .i64 (nd:Int),.int .i64 ((ni:Int)+(nd:Int)),.pointer (some ⟨p3,2,none⟩),.slice a2 nr c2,.int .i64 (nr:Int),.bool false,.bool false,undef,undef,undef,undef,undef,undef,undef,undef,undef,undef,undef,undef,undef,undef,undef,undef,undef,undef,undef,undef,undef,undef,undef,undef,undef,undef,undef,undef,undef,undef,undef,undef,undef,undef,undef,undef,undef,undef,undef,undef,undef,undef,undef,undef,undef,undef,undef,undef,undef,undef,undef,undef,undef,undef,undef,undef,undef,undef,undef,undef,undef,undef,undef,undef,undef,undef,undef,undef,undef,undef,undef,undef,undef,undef,undef,undef,undef,undef,undef,undef,undef,undef,undef,undef,undef,undef,undef,undef,undef,undef,undef,undef,undef,undef,undef,undef,undef,undef,undef,undef,undef,undef,undef,undef,undef,undef,undef,undef,undef,undef,undef,undef,undef,undef,undef,undef,undef,undef,undef,undef,undef,undef,undef,undef,undef,undef,undef,undef,undef,undef,undef,undef,undef,undef,undef,undef,undef,undef,undef,undef,undef,undef,undef,undef,undef,undef,undef,undef,undef,undef,undef,undef,undef,undef,undef,undef,undef,undef,undef,undef,undef,undef,undef,undef,undef,undef,undef,undef,undef,undef,undef,undef,undef,undef,undef,undef,undef,undef,undef,undef,undef,undef,undef,undef,undef,undef,undef,undef,undef,undef,undef,undef,undef,undef,undef,undef,undef,undef,undef,undef,undef,undef,undef,undef,undef,undef,undef,undef,undef,undef,undef,undef,undef,undef,undef,undef,undef,undef,undef,undef,undef,undef,undef,undef,undef,undef,undef,undef,undef,undef,undef,undef,undef,undef,undef,undef,undef,undef,undef,undef,undef,undef,undef,undef,undef,undef,undef,undef,undef,undef,undef,undef,undef,undef,undef,undef,undef,undef,undef,undef,undef,undef,undef,undef,undef,undef,undef],[]⟩) (by kernel_rfl) ?_
   refine Qj (by kernel_rfl) ?_ _
   dsimp only
   have HXS:Hid (Nx w8 w9):=HXD.out.trans HX9.out
   clear hw hcl HSS HD HXD HX9 hne8 hw8 hw9
   go_wp2
   go_meet
   exact⟨rfl,HXS⟩
  case rest=>
  obtain⟨rfl,HXS⟩:=hcut
  have HO9:=mh (HO8.out.next HXS.out)
  have HBX9:=mh (HBX8.out.next HXS.out)
  have b0:wc.cell? ⟨p3,0,none⟩=some (.slice a0 nn c0):=HBX9.out.blk.cell (i:=0) rfl
  have b1:wc.cell? ⟨p3,1,none⟩=some (.slice a1 nw c1):=HBX9.out.blk.cell (i:=1) rfl
  have b2:wc.cell? ⟨p3,2,none⟩=some (.slice a2 nr c2):=HBX9.out.blk.cell (i:=2) rfl
  have b3:wc.cell? ⟨p3,3,none⟩=some (.slice a3 nt c3):=HBX9.out.blk.cell (i:=3) rfl
  have b4:wc.cell? ⟨p3,4,none⟩=some (.int .i64 N.uturn):=HBX9.out.blk.cell (i:=4) rfl
  go_wp2_with fail
  refine(specResolve_any _ _ _ _ _ N wc HO9.out.held HWS.out).mono ?_
  rintro e wS ⟨⟨vr9,vd9,rfl,⟨vs9,-,hR9,-⟩,hD9⟩,hx⟩
  obtain⟨qa,qc,rfl⟩:=Q2 hR9
  obtain⟨xa,xc,rfl⟩:=Q2 hD9
  rw[HND.out] at hD9 ⊢
  have HX:Hid (Nx w8 wS):=HXS.out.trans hx
  have HXWS:Hid (Nx w wS):=HXW8.out.trans HX.out
  have HOS:=mh (HO8.out.next HX.out)
  have HBXS:=mh (HBX8.out.next HX.out)
  have HBYS:=mh (HBY8.out.next HX.out)
  have HBZS:=mh (HBZ.out.next HX.out)
  have HRXS:=mh (HRX8.out.next HX.out)
  have HRDS:=mh (HRD8.out.next HX.out)
  have HR0S:=mh (HR08.out.next HX.out)
  have HR1S:Hid (V4 w6.heap.size wS (.slice e1 ne f1) (E1 N)):=HR18.out.keep (HX.out.keeps _)
  have HRES:=mh hD9
  clear hx hR9 hD9 HO9 HBX9 HXS HO8 HBX8 HBY8 HBZ HRX8 HRD8 HR08 HR18 HXW8 HX b0 b1 b2 b3 b4 vs9
  generalize w6.heap.size=B6 at *
  generalize wc.heap.size=B9 at *
  go_wp2
  go_loopw [7,8,9] (λs7 s8 s9 wr=>∃k:Nat,k<=nr/\s7=.int .i64 ((rtN N k).rules.length:Int)/\s8=.int .i64 ((rtN N k).drops.length:Int)/\s9=.int .i64 (k:Int)/\Hid (Nx wS wr)) (λ_ _ s9 _=>nr-(intOf s9).toNat)
  case atStart=>exact⟨0,Nat.zero_le _,rfl,rfl,rfl,Nx.refl _⟩
  obtain⟨k,hk,rfl,rfl,rfl,HXR⟩:=hrel
  by_cases hlt:k<nr
  ·have HK:Hid (k<nr):=hlt
   have hkN:k<N.rels.length:=by rw[HNR.out];exact hlt
   have HIJ:Hid ((rtN N k).rules.length<=1000/\(rtN N k).drops.length<=1000/\nr<=1000):=by
    have h1:=rt_len HV.out k (by omega)
    have h2:=HCR.out
    unfold Hid
    omega
   rcases law_step HV.out hkN with hD|hR
   ·have HD:=mh hD
    clear hD
    refine law_rD HV HNN0 HNW HNR HNI HND HNE HOS HBXS HBYS HBZS HRXS HRDS HRES HR0S HR1S HXR HK HIJ rfl (by rw[<-HND.out];exact HD.out.lt) HD.out.rel _ _ _ _ _ _ _ _ _ _ _ _ _ _ _ _ _ _ _ _ _ _ _ _ _ _ _ _ _ _ _ _ _ _ _ _ _ _ _ _ _ _ _ _ _ _ _ _ _ _ _ _ _ _ _ _ _ _ _ _ _ _ _ _ _ _ _ _ _ _ _ _ _ _ _ _ _ _ _ _ _ _ _ _ _ _ _ _ _ _ _ _ _ _ _ _ _ _ _ _ _ _ _ _ _ _ _ _ _ _ _ _ _ _ _ _ _ _ _ _ _ _ _ _ _ _ _ _ _ _ _ _ _ _ _ _ _ _ _ _ _ _ _ _ _ _ _ _ _ _ _ _ _ _ _ _ _ _ _ _ _ _ _ _ _ _ _ _ _ _ _ _ _ _ _ _ _ _ _ _ _ _ _ _ _ _ _ _ _ _ _ _ _ _ _ _ _ _ _ _ _ _ _ _ _ _ _ _ _ _ _ _ _ _ _ _ _ _ _ _ _ _ _ _ _ _ _ _ _ _ _ _ _ _ _ _ _ _ _ _ _ _ _ _ _ _ _ _ _ _ _ _ _ _ _ _ _ _ _ _ _ _ _ _ _ _ _ _ _ _ _ _ _ _ _ _ _ _ _ _ _ _ _ _ _ _ _ _ _ _ _ _ _ _ _ _ _ _ _ _ _ _ _ _ _ _ _ _ _ _ _ _ _ _ _ _ _ _ _ _ _ _ _ _ _ _ _ _ _ _ ?_
    intro s7 s8 s9 aC aD aE aF aG aH aI aJ aK aL aM aN aO aP aQ aR aS aT aU aV aW aX aY aZ bA bB bC bD bE bF bG bH bI bJ bK bL bM bN bO bP bQ bR bS bT bU bV bW bX bY bZ cA cB cC cD cE cF cG cH cI cJ cK cL cM cN cO cP cQ cR cS cT cU cV cW cX cY cZ dA dB dC dD dE dF dG dH dI dJ dK dL dM dN dO dP dQ dR dS dT dU dV dW dX dY dZ eA eB eC eD eE eF eG eH eI eJ eK eL eM eN eO eP eQ eR eS eT eU eV eW eX eY eZ fA fB fC fD fE fF fG fH fI fJ fK fL fM fN fO fP fQ fR fS fT fU fV fW fX fY fZ gA gB gC gD gE gF gG gH gI gJ gK gL gM gN gO gP gQ gR gS gT gU gV gW gX gY gZ hA hB hC hE hF hG hH hI hJ hL hM hN hP hQ hS hT hU hV hW hY hZ iA iB iC iD iE iF iG iH iI iJ iK iL iM iN iO iP iQ iR iS iT iU iV iW iX iY iZ jA jB jC jD jE jF jG jH jI jJ jK jL jM jN jO jP jQ jR jS jT jU jV jW jX jY jZ kA wx e7 e8 e9 HXx
    subst e7
    subst e8
    subst e9
    dsimp only
    go_wp2
    go_roundw
    case rel=>exact⟨k+1,by omega,by rw[HD.out.ri],by rw[HD.out.dj],rfl,HXx⟩
    case measure=>simp[intOf];omega
   ·have HR:=mh hR
    clear hR
    refine law_rR HV HNN0 HNW HNR HNI HND HNE HOS HBXS HBYS HBZS HRXS HRDS HRES HR0S HR1S HXR HK HIJ rfl (λh=>HR.out.no (by rw[HND.out];exact h)) (by rw[<-HNI.out];exact HR.out.lt) HR.out.rel HR.out.only HR.out.acc HR.out.new _ _ _ _ _ _ _ _ _ _ _ _ _ _ _ _ _ _ _ _ _ _ _ _ _ _ _ _ _ _ _ _ _ _ _ _ _ _ _ _ _ _ _ _ _ _ _ _ _ _ _ _ _ _ _ _ _ _ _ _ _ _ _ _ _ _ _ _ _ _ _ _ _ _ _ _ _ _ _ _ _ _ _ _ _ _ _ _ _ _ _ _ _ _ _ _ _ _ _ _ _ _ _ _ _ _ _ _ _ _ _ _ _ _ _ _ _ _ _ _ _ _ _ _ _ _ _ _ _ _ _ _ _ _ _ _ _ _ _ _ _ _ _ _ _ _ _ _ _ _ _ _ _ _ _ _ _ _ _ _ _ _ _ _ _ _ _ _ _ _ _ _ _ _ _ _ _ _ _ _ _ _ _ _ _ _ _ _ _ _ _ _ _ _ _ _ _ _ _ _ _ _ _ _ _ _ _ _ _ _ _ _ _ _ _ _ _ _ _ _ _ _ _ _ _ _ _ _ _ _ _ _ _ _ _ _ _ _ _ _ _ _ _ _ _ _ _ _ _ _ _ _ _ _ _ _ _ _ _ _ _ _ _ _ _ _ _ _ _ _ _ _ _ _ _ _ _ _ _ _ _ _ _ _ _ _ _ _ _ _ _ _ _ _ _ _ _ _ _ _ _ _ _ _ _ _ _ _ _ _ _ _ _ _ _ _ _ _ _ _ _ _ _ _ _ _ _ _ _ _ ?_
    intro s7 s8 s9 aC aD aE aF aG aH aI aJ aK aL aM aN aO aP aQ aR aS aT aU aV aW aX aY aZ bA bB bC bD bE bF bG bH bI bJ bK bL bM bN bO bP bQ bR bS bT bU bV bW bX bY bZ cA cB cC cD cE cF cG cH cI cJ cK cL cM cN cO cP cQ cR cS cT cU cV cW cX cY cZ dA dB dC dD dE dF dG dH dI dJ dK dL dM dN dO dP dQ dR dS dT dU dV dW dX dY dZ eA eB eC eD eE eF eG eH eI eJ eK eL eM eN eO eP eQ eR eS eT eU eV eW eX eY eZ fA fB fC fD fE fF fG fH fI fJ fK fL fM fN fO fP fQ fR fS fT fU fV fW fX fY fZ gA gB gC gD gE gF gG gH gI gJ gK gL gM gN gO gP gQ gR gS gT gU gV gW gX gY gZ hA hB hC hE hF hG hH hI hJ hL hM hN hP hQ hS hT hU hV hW hY hZ iA iB iC iD iE iF iG iH iI iJ iK iL iM iN iO iP iQ iR iS iT iU iV iW iX iY iZ jA jB jC jD jE jF jG jH jI jJ jK jL jM jN jO jP jQ jR jS jT jU jV jW jX jY jZ kA wx e7 e8 e9 HXx
    subst e7
    subst e8
    subst e9
    dsimp only
    go_wp2
    go_roundw
    case rel=>exact⟨k+1,by omega,by rw[HR.out.ri],by rw[HR.out.dj],rfl,HXx⟩
    case measure=>simp[intOf];omega
  have hkk:k=nr:=by omega
  subst hkk
  have HL1:Hid ((rtN N k).rules.length=ni/\(rtN N k).drops.length=nd):=by
   have e:=rt_of HV.out
   rw[HNR.out] at e
   rw[<-HNI.out,<-HND.out,e]
   exact⟨rfl,rfl⟩
  rw[HL1.out.1,HL1.out.2]
  have b2:wr.cell? ⟨p3,2,none⟩=some (.slice a2 k c2):=(HBXS.out.next HXR.out).blk.cell (i:=2) rfl
  have aA:wr.cell? ⟨p4,0,none⟩=some (.slice ra ni rc):=(HBYS.out.next HXR.out).blk.cell (i:=0) rfl
  have aB:wr.cell? ⟨p4,1,none⟩=some (.slice da nd dc):=(HBYS.out.next HXR.out).blk.cell (i:=1) rfl
  clear hlt hk
  go_wp2
  go_ret
  exact⟨rfl,HXWS.out.trans HXR.out⟩
end Go.Proofs.YthhbdfiopjclcaaGreatDoor
