import Derived.Test.YtdpfdkihbgmapaaGreatDR
namespace Go.Proofs.YtdpfdkihbgmapaaGreat
open Go.RowKit Go.Sort
set_option linter.unusedVariables false
set_option maxRecDepth 1000000
set_option maxHeartbeats 16000000
theorem set5 {w:World}{g t:Nat}{a0 a1 a2 a3 a4 c0 c1 c2 c3 c4:Value}(h:BT w g #[c0,c1,c2,c3,c4] t):BT (((((w.setCell ⟨g,0,none⟩ a0).setCell ⟨g,1,none⟩ a1).setCell ⟨g,2,none⟩ a2).setCell ⟨g,3,none⟩ a3).setCell ⟨g,4,none⟩ a4) g #[a0,a1,a2,a3,a4] t:=by
 have k0:BT (w.setCell ⟨g,0,none⟩ a0) g #[a0,c1,c2,c3,c4] t:=h.set 0 a0
 have k1:BT ((w.setCell ⟨g,0,none⟩ a0).setCell ⟨g,1,none⟩ a1) g #[a0,a1,c2,c3,c4] t:=k0.set 1 a1
 have k2:BT (((w.setCell ⟨g,0,none⟩ a0).setCell ⟨g,1,none⟩ a1).setCell ⟨g,2,none⟩ a2) g #[a0,a1,a2,c3,c4] t:=k1.set 2 a2
 have k3:BT ((((w.setCell ⟨g,0,none⟩ a0).setCell ⟨g,1,none⟩ a1).setCell ⟨g,2,none⟩ a2).setCell ⟨g,3,none⟩ a3) g #[a0,a1,a2,a3,c4] t:=k2.set 3 a3
 have k4:BT (((((w.setCell ⟨g,0,none⟩ a0).setCell ⟨g,1,none⟩ a1).setCell ⟨g,2,none⟩ a2).setCell ⟨g,3,none⟩ a3).setCell ⟨g,4,none⟩ a4) g #[a0,a1,a2,a3,a4] t:=k3.set 4 a4
 exact k4
theorem chg5 {w:World}{g:Nat}{a0 a1 a2 a3 a4:Value}:Chg (λx=>x=g) w (((((w.setCell ⟨g,0,none⟩ a0).setCell ⟨g,1,none⟩ a1).setCell ⟨g,2,none⟩ a2).setCell ⟨g,3,none⟩ a3).setCell ⟨g,4,none⟩ a4):=by
 have k0:Chg (λx=>x=g) w (w.setCell ⟨g,0,none⟩ a0):=Chg.set g 0 a0 rfl
 have k1:Chg (λx=>x=g) w ((w.setCell ⟨g,0,none⟩ a0).setCell ⟨g,1,none⟩ a1):=k0.trans (Chg.set g 1 a1 rfl)
 have k2:Chg (λx=>x=g) w (((w.setCell ⟨g,0,none⟩ a0).setCell ⟨g,1,none⟩ a1).setCell ⟨g,2,none⟩ a2):=k1.trans (Chg.set g 2 a2 rfl)
 have k3:Chg (λx=>x=g) w ((((w.setCell ⟨g,0,none⟩ a0).setCell ⟨g,1,none⟩ a1).setCell ⟨g,2,none⟩ a2).setCell ⟨g,3,none⟩ a3):=k2.trans (Chg.set g 3 a3 rfl)
 have k4:Chg (λx=>x=g) w (((((w.setCell ⟨g,0,none⟩ a0).setCell ⟨g,1,none⟩ a1).setCell ⟨g,2,none⟩ a2).setCell ⟨g,3,none⟩ a3).setCell ⟨g,4,none⟩ a4):=k3.trans (Chg.set g 4 a4 rfl)
 exact k4
def br3 (h g g2:Nat)(nt rd:Array Value):List (Nat×Array Value×Nat):=[(h,#[.slice none 0 0,.slice none 0 0,.slice none 0 0,.slice none 0 0,.int .i64 0],86),(g,nt,86),(g2,rd,106)]
def br4 (h g g2:Nat)(nt rd:Array Value)(g8:Nat)(ra:Array Value):List (Nat×Array Value×Nat):=[(h,#[.slice none 0 0,.slice none 0 0,.slice none 0 0,.slice none 0 0,.int .i64 0],86),(g,nt,86),(g2,rd,106),(g8,ra,109)]
def br5 (h g g2:Nat)(nt rd:Array Value)(g8:Nat)(ra:Array Value)(g9:Nat)(pa:Array Value):List (Nat×Array Value×Nat):=[(h,#[.slice none 0 0,.slice none 0 0,.slice none 0 0,.slice none 0 0,.int .i64 0],86),(g,nt,86),(g2,rd,106),(g8,ra,109),(g9,pa,109)]
theorem l2DrawRich_any (D b:Nat)(S:Src)(w:World)(hS:HSrc D w b S)(hok:SOk S) :
  Calls Tryz.prog 47 #[.pointer (some ⟨b,0,none⟩)] w λe w'=>∃v0 v1 v2 v3 vn vw vr,e=.returned (.agg #[v0,v1,v2,v3,.int .i64 (riNet S).uturn])/\ONt (w.heap.size+1) w' v0 v1 v2 v3 (riNet S) vn vw vr/\HSrc D w' b (riS S)/\Chg (Sx1 b) w w':=by
 have HOK:Hid (SOk S):=hok
 have HDI:=mkHid' (dbNet_in hok)
 have HS0:Hid (HSrc D w b S):=hS
 have hmx:Tryz.prog.follows .mixedOrders=true:=by kernel_rfl
 have HbL:Hid (b<w.heap.size):=by
  obtain⟨v,hb,_⟩:=hS
  exact hb.lt
 clear hS hok
 go_enter Tryz.func47,Tryz.ntmps47
 go_upto_region 1 with fail
 generalize hWA:w.alloc (.cells #[.slice none 0 0,.slice none 0 0,.slice none 0 0,.slice none 0 0,.int .i64 0] 86)=wA
 have HA:Hid (FR D b w wA S [(w.heap.size,#[.slice none 0 0,.slice none 0 0,.slice none 0 0,.slice none 0 0,.int .i64 0],86)]):=by
  unfold Hid
  rw[<-hWA]
  have k0:FR D b w w S []:=⟨Chg.nx (Nx.refl _),HS0.out,λp hp=>absurd hp (by simp),λp hp=>absurd hp (by simp),List.nodup_nil⟩
  exact k0.alloc #[.slice none 0 0,.slice none 0 0,.slice none 0 0,.slice none 0 0,.int .i64 0] 86 (by decide)
 have HAS:Hid (wA.heap.size=w.heap.size+1):=by unfold Hid;rw[<-hWA,size_alloc']
 clear hWA
 go_wp2_with fail
 refine(l1DrawBase_any D b S wA HA.out.src HOK.out).mono ?_
 rintro e w1 ⟨v0,v1,v3,vn,vw,vr0,rfl,hO⟩
 have H1:=mkHid' (HA.out.drawn hO.src hO.chg)
 have O1:=mkHid' hO.net
 rw[HAS.out] at O1
 obtain⟨a0,q0,e0⟩:=row_slice O1.out.nodes
 obtain⟨a1,q1,e1⟩:=row_slice O1.out.ways
 obtain⟨a3,q3,e3⟩:=row_slice O1.out.turns
 subst e0 e1 e3
 have HL1:Hid ((dbNet S).ways.length=(dbNet S).ways.length):=rfl
 have hw12:=HDI.out.2.2.1
 generalize (dbNet S).nodes.length=l0 at O1 ⊢
 generalize hl1:(dbNet S).ways.length=l1 at O1 HL1 hw12 ⊢
 replace HL1:Hid ((dbNet S).ways.length=l1):=hl1
 generalize (dbNet S).turns.length=l3 at O1 ⊢
 clear hO HA hl1
 go_upto_region 2 with fail
 generalize hW2:w1.alloc (.cells #[.slice a0 l0 q0,.slice a1 l1 q1,.slice none 0 0,.slice a3 l3 q3,.int .i64 (dbNet S).uturn] 86)=w2
 have H2:Hid (FR D b w w2 (dbS S) [(w.heap.size,#[.slice none 0 0,.slice none 0 0,.slice none 0 0,.slice none 0 0,.int .i64 0],86),(w1.heap.size,#[.slice a0 l0 q0,.slice a1 l1 q1,.slice none 0 0,.slice a3 l3 q3,.int .i64 (dbNet S).uturn],86)]):=by unfold Hid;rw[<-hW2];exact H1.out.alloc #[.slice a0 l0 q0,.slice a1 l1 q1,.slice none 0 0,.slice a3 l3 q3,.int .i64 (dbNet S).uturn] 86 (by decide)
 have O2:=mkHid' (O1.out.next (box1 w1 (.cells #[.slice a0 l0 q0,.slice a1 l1 q1,.slice none 0 0,.slice a3 l3 q3,.int .i64 (dbNet S).uturn] 86)))
 rw[hW2] at O2
 clear hW2 H1 O1
 generalize w1.heap.size=g at *
 have nn1:w2.cell? ⟨g,1,none⟩=some (.slice a1 l1 q1):=(H2.out.at 1 rfl).blk.cell (i:=1) rfl
 by_cases hz:l1=0
 ·skip
  have HRN:Hid (riNet S=dbNet S):=by unfold Hid riNet;rw[HL1.out,if_pos hz]
  have HRS:Hid (riS S=dbS S):=by unfold Hid riS;rw[HL1.out,if_pos hz]
  subst hz
  have nc0:w2.cell? ⟨g,0,none⟩=some (.slice a0 l0 q0):=(H2.out.at 1 rfl).blk.cell (i:=0) rfl
  have nc1:w2.cell? ⟨g,1,none⟩=some (.slice a1 0 q1):=(H2.out.at 1 rfl).blk.cell (i:=1) rfl
  have nc2:w2.cell? ⟨g,2,none⟩=some (.slice none 0 0):=(H2.out.at 1 rfl).blk.cell (i:=2) rfl
  have nc3:w2.cell? ⟨g,3,none⟩=some (.slice a3 l3 q3):=(H2.out.at 1 rfl).blk.cell (i:=3) rfl
  have nc4:w2.cell? ⟨g,4,none⟩=some (.int .i64 (dbNet S).uturn):=(H2.out.at 1 rfl).blk.cell (i:=4) rfl
  clear nn1
  have BR:BT w2 w.heap.size #[.slice none 0 0,.slice none 0 0,.slice none 0 0,.slice none 0 0,.int .i64 0] 86:=H2.out.at 0 rfl
  have x0:=BR.blk.cell (i:=0) rfl
  have fz0:=BR.blk.frozen 0
  have x1:=BR.blk.cell (i:=1) rfl
  have fz1:=BR.blk.frozen 1
  have x2:=BR.blk.cell (i:=2) rfl
  have fz2:=BR.blk.frozen 2
  have x3:=BR.blk.cell (i:=3) rfl
  have fz3:=BR.blk.frozen 3
  have x4:=BR.blk.cell (i:=4) rfl
  have fz4:=BR.blk.frozen 4
  have BS:=set5 (a0:=.slice a0 l0 q0) (a1:=.slice a1 0 q1) (a2:=.slice none 0 0) (a3:=.slice a3 l3 q3) (a4:=.int .i64 (dbNet S).uturn) BR
  have P0:Hid (_=some (Value.slice a0 l0 q0)):=BS.blk.cell (i:=0) rfl
  have P1:Hid (_=some (Value.slice a1 0 q1)):=BS.blk.cell (i:=1) rfl
  have P2:Hid (_=some (Value.slice none 0 0)):=BS.blk.cell (i:=2) rfl
  have P3:Hid (_=some (Value.slice a3 l3 q3)):=BS.blk.cell (i:=3) rfl
  have P4:Hid (_=some (Value.int .i64 (dbNet S).uturn)):=BS.blk.cell (i:=4) rfl
  have HCF:Hid (Chg (λx=>x=w.heap.size) w2 (((((w2.setCell ⟨w.heap.size,0,none⟩ (.slice a0 l0 q0)).setCell ⟨w.heap.size,1,none⟩ (.slice a1 0 q1)).setCell ⟨w.heap.size,2,none⟩ (.slice none 0 0)).setCell ⟨w.heap.size,3,none⟩ (.slice a3 l3 q3)).setCell ⟨w.heap.size,4,none⟩ (.int .i64 (dbNet S).uturn))):=chg5
  have HBS:=mkHid' BS
  clear BS BR
  go_wp2
  generalize hWF:(((((w2.setCell ⟨w.heap.size,0,none⟩ (.slice a0 l0 q0)).setCell ⟨w.heap.size,1,none⟩ (.slice a1 0 q1)).setCell ⟨w.heap.size,2,none⟩ (.slice none 0 0)).setCell ⟨w.heap.size,3,none⟩ (.slice a3 l3 q3)).setCell ⟨w.heap.size,4,none⟩ (.int .i64 (dbNet S).uturn))=wF at P0 P1 P2 P3 P4 HBS HCF ⊢
  have p0_:=P0.out
  have p1_:=P1.out
  have p2_:=P2.out
  have p3_:=P3.out
  have p4_:=P4.out
  refine bodyPost_ret (v:=.agg #[.slice a0 l0 q0,.slice a1 0 q1,.slice none 0 0,.slice a3 l3 q3,.int .i64 (dbNet S).uturn]) (by simp[results,Tryz.results47,go_sem,p0_,p1_,p2_,p3_,p4_]) rfl ?_
  have hF:=H2.out.turn 0 rfl HCF.out HBS.out
  have hO:=O2.out.turnBox (show BT w2 w.heap.size #[.slice none 0 0,.slice none 0 0,.slice none 0 0,.slice none 0 0,.int .i64 0] 86 from H2.out.at 0 rfl) (by decide) (λe=>absurd e (by decide)) HCF.out
  rw[HRN.out,HRS.out]
  exact⟨_,_,_,_,_,_,_,rfl,hO,hF.src,hF.chg⟩
 have hz1:((l1:Int)==0)=false:=by simp;omega
 have hz2:¬(l1:Int)=0:=by omega
 have HSM:Hid (wsum (dbNet S).ways (dbNet S).ways.length<=1048576):=by
  unfold Hid
  have:=wsum_le (dbNet S).ways (dbNet S).ways.length HDI.out.2.2.2
  have:=HDI.out.2.2.1
  omega
 have nc0:w2.cell? ⟨g,0,none⟩=some (.slice a0 l0 q0):=(H2.out.at 1 rfl).blk.cell (i:=0) rfl
 have nc1:w2.cell? ⟨g,1,none⟩=some (.slice a1 l1 q1):=(H2.out.at 1 rfl).blk.cell (i:=1) rfl
 have nc2:w2.cell? ⟨g,2,none⟩=some (.slice none 0 0):=(H2.out.at 1 rfl).blk.cell (i:=2) rfl
 have nc3:w2.cell? ⟨g,3,none⟩=some (.slice a3 l3 q3):=(H2.out.at 1 rfl).blk.cell (i:=3) rfl
 have nc4:w2.cell? ⟨g,4,none⟩=some (.int .i64 (dbNet S).uturn):=(H2.out.at 1 rfl).blk.cell (i:=4) rfl
 clear nn1
 go_wp2_with fail
 refine(specRoad_any (w.heap.size+1) (.slice a0 l0 q0) (.slice a1 l1 q1) (.slice none 0 0) (.slice a3 l3 q3) (dbNet S) w2 O2.out.held HSM.out).mono ?_
 rintro e w3 ⟨⟨rr0,rr1,rr2,rr3,rfl,hR⟩,hx⟩
 have HR3:Hid (HRoad w2.heap.size w3 rr0 rr1 rr2 rr3 (roadOf (dbNet S))):=hR
 obtain⟨p0,d0,e0,-,-⟩:=hR.1
 obtain⟨p1,d1,e1,-,-⟩:=hR.2.1
 obtain⟨p2,d2,e2,-,-⟩:=hR.2.2.1
 obtain⟨p3,d3,e3,-,-⟩:=hR.2.2.2
 generalize (roadOf (dbNet S)).nodes.length=s0 at e0
 generalize (roadOf (dbNet S)).edges.length=s1 at e1
 generalize (roadOf (dbNet S)).first.length=s2 at e2
 generalize (roadOf (dbNet S)).out.length=s3 at e3
 subst e0 e1 e2 e3
 have H3:=mkHid' (H2.out.next hx)
 have O3:=mkHid' (O2.out.next hx)
 have HG2:Hid (g<w2.heap.size):=(show BT w2 g _ 86 from H2.out.at 1 rfl).lt
 have HC2:Hid (w.heap.size+1<=w2.heap.size):=by have h1:=(show BT w2 w.heap.size _ 86 from H2.out.at 0 rfl).lt;unfold Hid;omega
 have HX3:Hid (w2.heap.size<=w3.heap.size):=hx.size
 generalize hCr:w2.heap.size=Cr at *
 clear hx hR H2 O2 nc0 nc1 nc2 nc3 nc4 hz1 hz2 hCr
 go_upto_region 5 with fail
 generalize hW4:w3.alloc (.cells #[.slice p0 s0 d0,.slice p1 s1 d1,.slice p2 s2 d2,.slice p3 s3 d3] 106)=w4
 have H4:Hid (FR D b w w4 (dbS S) (br3 w.heap.size g w3.heap.size #[.slice a0 l0 q0,.slice a1 l1 q1,.slice none 0 0,.slice a3 l3 q3,.int .i64 (dbNet S).uturn] #[.slice p0 s0 d0,.slice p1 s1 d1,.slice p2 s2 d2,.slice p3 s3 d3])):=by unfold Hid;rw[<-hW4];exact H3.out.alloc #[.slice p0 s0 d0,.slice p1 s1 d1,.slice p2 s2 d2,.slice p3 s3 d3] 106 (by decide)
 have O4:=mkHid' (O3.out.next (box1 w3 (.cells #[.slice p0 s0 d0,.slice p1 s1 d1,.slice p2 s2 d2,.slice p3 s3 d3] 106)))
 have HR4:=mkHid' (HR3.out.next (box1 w3 (.cells #[.slice p0 s0 d0,.slice p1 s1 d1,.slice p2 s2 d2,.slice p3 s3 d3] 106)))
 rw[hW4] at O4 HR4
 have HCr:Hid (Cr<=w4.heap.size):=by unfold Hid;rw[<-hW4,size_alloc'];have:=HX3.out;omega
 clear hW4 H3 O3 HR3
 generalize w3.heap.size=g2 at *
 have hsz:=HDI.out.1.size
 have b3:=H4.out.src.size
 go_wp2_with fail
 refine(l1Next_any D b (dbS S) (2+(dbS S).size) w4 H4.out.src HDI.out.1 (by omega)).mono ?_
 rintro e w5 ⟨rfl,hs1,hc1⟩
 have H5:=mkHid' (H4.out.drawn hs1 hc1)
 have O5:=mkHid' (O4.out.src H4.out.src hc1)
 have HK5:Hid (Chg (λx=>x<Cr) w4 w5):=hc1.mono (λx hx=>by have hx':x=b:=hx;have:=HbL.out;have:=HC2.out;omega)
 have HT1:Hid (SOk (ns (dbS S) (2+(dbS S).size))):=ns_ok HDI.out.1 _
 have hv5:=nv_in HDI.out.1 (2+(dbS S).size)
 clear hs1 hc1 b3
 have HCN:Hid (riCount S=if nv (ns (dbS S) (2+(dbS S).size)) 16=0 then 0 else 1+nv (dbS S) (2+(dbS S).size)):=rfl
 generalize nv (dbS S) (2+(dbS S).size)=d5 at *
 go_wp2_with fail
 refine(l1Next_any D b (ns (dbS S) (2+(dbS S).size)) 16 w5 H5.out.src HT1.out (by omega)).mono ?_
 rintro e w6 ⟨rfl,hs1,hc1⟩
 have H6:Hid (FR D b w w6 (riS2 S) (br3 w.heap.size g g2 #[.slice a0 l0 q0,.slice a1 l1 q1,.slice none 0 0,.slice a3 l3 q3,.int .i64 (dbNet S).uturn] #[.slice p0 s0 d0,.slice p1 s1 d1,.slice p2 s2 d2,.slice p3 s3 d3])):=H5.out.drawn hs1 hc1
 have O6:=mkHid' (O5.out.src H5.out.src hc1)
 have HK6:Hid (Chg (λx=>x<Cr) w4 w6):=HK5.out.trans (hc1.mono (λx hx=>by have hx':x=b:=hx;have:=HbL.out;have:=HC2.out;omega))
 have HT2:Hid (SOk (riS2 S)):=ns_ok HT1.out _
 clear hs1 hc1 H4 O4 H5 O5 HK5
 generalize nv (ns (dbS S) (2+(dbS S).size)) 16=d6 at *
 obtain⟨cn,hcn⟩:∃c:Nat,riCount S=c:=⟨(riCount S).toNat,by rw[HCN.out];have:=hv5.1;split<;>omega⟩
 have hcb:cn<=10:=by rw[HCN.out] at hcn;have:=hv5.2 (by omega);split at hcn<;>omega
 have HCC:Hid (riCount S=cn):=hcn
 clear hcn
 go_upto_if 29 with fail
 generalize hbd:(d6==0)=bd
 have HBD:Hid ((d6==0)=bd):=hbd
 clear hbd
 go_cut [5] from 30 to 30 (λs5 wc=>s5=.int .i64 (cn:Int)/\wc=w6)
 case first=>
  cases bd with
  |true=>
   have h0:d6=0:=by simpa using HBD.out
   have HC0:Hid ((0:Int)=(cn:Int)):=by unfold Hid;rw[<-HCC.out,HCN.out,if_pos h0]
   clear h0 HBD HCN
   go_wp2
   go_meet
   exact⟨by rw[<-HC0.out],rfl⟩
  |false=>
   have h0:¬d6=0:=by simpa using HBD.out
   have HC0:Hid (1+d5=(cn:Int)):=by unfold Hid;rw[<-HCC.out,HCN.out,if_neg h0]
   clear h0 HBD HCN
   go_wp2
   go_meet
   exact⟨by rw[HC0.out],rfl⟩
 case rest=>
 obtain⟨rfl,rfl⟩:=hcut
 clear HBD HCN
 generalize wc=w6 at *
 go_wp2_with fail
 refine(l1Next_any D b (riS2 S) 3 w6 H6.out.src HT2.out (by omega)).mono ?_
 rintro e w7 ⟨rfl,hs1,hc1⟩
 have H7:=mkHid' (H6.out.drawn hs1 hc1)
 have O7:=mkHid' (O6.out.src H6.out.src hc1)
 have HK7:Hid (Chg (λx=>x<Cr) w4 w7):=HK6.out.trans (hc1.mono (λx hx=>by have hx':x=b:=hx;have:=HbL.out;have:=HC2.out;omega))
 have HXI:Hid (riX S=rcTo (dbNet S) (roadOf (dbNet S)) ⟨ns (riS2 S) 3,nv (riS2 S) 3,[]⟩ cn):=by unfold Hid riX riN riR;rw[HCC.out,Int.toNat_natCast]
 generalize riS2 S=T2 at *
 have v:=nv_in HT2.out 3
 have hv7:0<=nv T2 3/\nv T2 3<=3:=by have:=v.2 (by omega);omega
 have hk0:RcOk 0 T2.size ⟨ns T2 3,nv T2 3,[]⟩:=⟨(show SOk (ns T2 3) from ns_ok HT2.out _),(show(ns T2 3).size=T2.size from ns_size _ _),(show 0<=nv T2 3/\nv T2 3<=3+2*((0:Nat):Int) by omega),rfl,λr hr=>absurd hr (by simp)⟩
 generalize nv T2 3=d7 at *
 obtain⟨x0,hx0⟩:∃x:RcSt,x=⟨ns T2 3,d7,[]⟩:=⟨_,rfl⟩
 rw[<-hx0] at hk0 HXI
 have HXO:Hid (∀k,RcOk k T2.size (rcTo (dbNet S) (roadOf (dbNet S)) x0 k)):=rcTo_ok hk0
 have hxS:(rcTo (dbNet S) (roadOf (dbNet S)) x0 0).S=ns T2 3:=by show x0.S=_;rw[hx0]
 have hxI:(rcTo (dbNet S) (roadOf (dbNet S)) x0 0).id=d7:=by show x0.id=_;rw[hx0]
 have hxR:(rcTo (dbNet S) (roadOf (dbNet S)) x0 0).rels=[]:=by show x0.rels=_;rw[hx0]
 have HI0:Hid (d7=(rcTo (dbNet S) (roadOf (dbNet S)) x0 0).id):=hxI.symm
 have HL7:Hid (FR D b w w7 (rcTo (dbNet S) (roadOf (dbNet S)) x0 0).S (br3 w.heap.size g g2 #[.slice a0 l0 q0,.slice a1 l1 q1,.slice none 0 0,.slice a3 l3 q3,.int .i64 (dbNet S).uturn] #[.slice p0 s0 d0,.slice p1 s1 d1,.slice p2 s2 d2,.slice p3 s3 d3])):=by unfold Hid;rw[hxS];exact H7.out
 have OL7:Hid (∃vr,ONt (w.heap.size+1) w7 (.slice a0 l0 q0) (.slice a1 l1 q1) (.slice none 0 0) (.slice a3 l3 q3) (nW (dbNet S) (rcTo (dbNet S) (roadOf (dbNet S)) x0 0).rels) vn vw vr):=by unfold Hid;rw[hxR];exact⟨vr0,O7.out⟩
 clear hxS hxI hxR hk0 v hv7
 clear hs1 hc1 hx0 H6 O6 HK6 H7 O7
 rw[HI0.out]
 go_wp2
 have HRI:Hid (RdIn (dbNet S) (roadOf (dbNet S))):=rd_in _
 have HR4s:Hid (Cr<=w4.heap.size):=by
  have:=HK7.out.size
  exact HCr.out
 generalize roadOf (dbNet S)=R at *
 go_loopw [6,7] (λs6 s7 wr=>∃(k c2:Nat) (a2:Option Addr),k<=cn/\s7=.int .i64 (k:Int)/\s6=.int .i64 (rcTo (dbNet S) R x0 k).id/\Hid (FR D b w wr (rcTo (dbNet S) R x0 k).S (br3 w.heap.size g g2 #[.slice a0 l0 q0,.slice a1 l1 q1,.slice a2 k c2,.slice a3 l3 q3,.int .i64 (dbNet S).uturn] #[.slice p0 s0 d0,.slice p1 s1 d1,.slice p2 s2 d2,.slice p3 s3 d3]))/\Hid (∃vr,ONt (w.heap.size+1) wr (.slice a0 l0 q0) (.slice a1 l1 q1) (.slice a2 k c2) (.slice a3 l3 q3) (nW (dbNet S) (rcTo (dbNet S) R x0 k).rels) vn vw vr)/\Hid (Chg (λx=>x<Cr) w4 wr)/\Hid (∀y,(Value.slice a2 k c2).ownBlock=some y->w4.heap.size<=y)) (λ_ i _=>cn-(intOf i).toNat)
 case atStart=>exact⟨0,0,none,Nat.zero_le _,rfl,rfl,HL7,OL7,HK7,λy hy=>by cases hy⟩
 clear HL7 OL7 HK7 HI0
 obtain⟨k,c2,a2,hk,rfl,rfl,Hk,OLk,Kk,HVk⟩:=hrel
 by_cases hlt:k<cn
 ·skip
  have hlt':(k:Int)<cn:=by omega
  obtain⟨hok1,hok2,hok3,hok4,hok5⟩:=HXO.out k
  have HST:Hid ((rcTo (dbNet S) R x0 (k+1))=rcStep (dbNet S) R (rcTo (dbNet S) R x0 k)):=rfl
  generalize hxk:(rcTo (dbNet S) R x0 k)=xk at *
  have HXK:Hid ((rcTo (dbNet S) R x0 k)=xk):=hxk
  clear hxk
  obtain⟨sk,idk,rk⟩:=xk
  simp only at hok1 hok2 hok3 hok4 hok5 Hk OLk ⊢
  obtain⟨vr,hOk⟩:=OLk.out
  have Ok:Hid (ONt (w.heap.size+1) wr (.slice a0 l0 q0) (.slice a1 l1 q1) (.slice a2 k c2) (.slice a3 l3 q3) (nW (dbNet S) rk) vn vw vr):=hOk
  have HOKk:Hid (SOk sk):=hok1
  have HLR:Hid (rk.length=k):=hok4
  have HWL:Hid (∀r∈rk,r.ways.length<=4):=hok5
  have hidk:=hok3
  clear hok1 hok2 hok3 hok4 hok5 OLk hOk
  have nc0:wr.cell? ⟨g,0,none⟩=some (.slice a0 l0 q0):=(Hk.out.at 1 rfl).blk.cell (i:=0) rfl
  have nc1:wr.cell? ⟨g,1,none⟩=some (.slice a1 l1 q1):=(Hk.out.at 1 rfl).blk.cell (i:=1) rfl
  have nc2:wr.cell? ⟨g,2,none⟩=some (.slice a2 k c2):=(Hk.out.at 1 rfl).blk.cell (i:=2) rfl
  have nc3:wr.cell? ⟨g,3,none⟩=some (.slice a3 l3 q3):=(Hk.out.at 1 rfl).blk.cell (i:=3) rfl
  have nc4:wr.cell? ⟨g,4,none⟩=some (.int .i64 (dbNet S).uturn):=(Hk.out.at 1 rfl).blk.cell (i:=4) rfl
  have rc0:wr.cell? ⟨g2,0,none⟩=some (.slice p0 s0 d0):=(Hk.out.at 2 rfl).blk.cell (i:=0) rfl
  have rc1:wr.cell? ⟨g2,1,none⟩=some (.slice p1 s1 d1):=(Hk.out.at 2 rfl).blk.cell (i:=1) rfl
  have rc2:wr.cell? ⟨g2,2,none⟩=some (.slice p2 s2 d2):=(Hk.out.at 2 rfl).blk.cell (i:=2) rfl
  have rc3:wr.cell? ⟨g2,3,none⟩=some (.slice p3 s3 d3):=(Hk.out.at 2 rfl).blk.cell (i:=3) rfl
  have HND1:Hid (0<(dbNet S).nodes.length/\(dbNet S).nodes.length<=1000000):=by have:=HDI.out.2.1;unfold Hid;omega
  have HWD1:Hid (0<(dbNet S).ways.length/\(dbNet S).ways.length<=1000000):=⟨by rw[HL1.out];exact Nat.pos_of_ne_zero hz,Nat.le_trans HDI.out.2.2.1 (by decide)⟩
  go_wp2_with fail
  refine(l2DrawRelation_any (w.heap.size+1) D b (.slice a0 l0 q0) (.slice a1 l1 q1) (.slice a2 k c2) (.slice a3 l3 q3) (.slice p0 s0 d0) (.slice p1 s1 d1) (.slice p2 s2 d2) (.slice p3 s3 d3) (nW (dbNet S) rk) R sk wr Ok.out.held ((HR4.out.keep Kk.out.keepsU).base HC2.out) (by have:=HbL.out;omega) HND1.out.1 HWD1.out.1 HND1.out.2 HWD1.out.2 Hk.out.src HOKk.out (HRI.out.nW rk)).mono ?_
  rintro e w8 ⟨va,rfl,ho,hs1,hc1⟩
  obtain⟨av,cv,rfl⟩:=row_slice ho
  have H8:=mkHid' (Hk.out.drawn hs1 hc1)
  have O8:=mkHid' (Ok.out.src Hk.out.src hc1)
  have P8:Hid (OwnI wr.heap.size w8 (.slice av (drR (nW (dbNet S) rk) R sk).ways.length cv) (drR (nW (dbNet S) rk) R sk).ways):=ho
  have K8:Hid (Chg (λx=>x<Cr) w4 w8):=Kk.out.trans (hc1.mono (λx hx=>by have hx':x=b:=hx;have:=HbL.out;have:=HC2.out;omega))
  have HWG:Hid (wr.heap.size<=w8.heap.size):=hc1.size
  have HIZ:Hid (∀u∈irows (nW (dbNet S) rk) (.slice a0 l0 q0) vn vw vr,∀y,u.ownBlock=some y->y<wr.heap.size):=irows_lt Ok.out
  have HZC:Hid (w.heap.size+1<=wr.heap.size):=by have h1:=HC2.out;have h2:=HR4s.out;have h3:=Kk.out.size;unfold Hid;omega
  have HOK8:Hid (SOk (drS (nW (dbNet S) rk) R sk)):=(drS_ok HOKk.out).1
  have HS2:Hid (rcS2 (dbNet S) R ⟨sk,idk,rk⟩=ns (drS (nW (dbNet S) rk) R sk) 4):=rfl
  have HYE:Hid (rcY (dbNet S) R ⟨sk,idk,rk⟩=⟨0,decide (nv (drS (nW (dbNet S) rk) R sk) 4=0),(drR (nW (dbNet S) rk) R sk).frm,(drR (nW (dbNet S) rk) R sk).to,(drR (nW (dbNet S) rk) R sk).via,(drR (nW (dbNet S) rk) R sk).node,(drR (nW (dbNet S) rk) R sk).ways⟩):=rfl
  have hwl:(drR (nW (dbNet S) rk) R sk).ways.length<=4:=drR_ways HOKk.out
  generalize drR (nW (dbNet S) rk) R sk=rr at *
  generalize drS (nW (dbNet S) rk) R sk=s8 at *
  obtain⟨y1,y2,y3,y4,y5,y6,y7⟩:=rr
  simp only at P8 HYE hwl ⊢
  generalize hnl:y7.length=nl at *
  have HNL:Hid (y7.length=nl):=hnl
  clear ho hs1 hc1 nc0 nc1 nc2 nc3 nc4 rc0 rc1 rc2 rc3 Hk Ok hnl
  go_upto_region 13 with fail
  generalize hW9:w8.alloc (.cells #[.int .i64 y1,.bool y2,.int .i64 y3,.int .i64 y4,.bool y5,.int .i64 y6,.slice av nl cv] 109)=w9
  have H9:Hid (FR D b w w9 s8 (br4 w.heap.size g g2 #[.slice a0 l0 q0,.slice a1 l1 q1,.slice a2 k c2,.slice a3 l3 q3,.int .i64 (dbNet S).uturn] #[.slice p0 s0 d0,.slice p1 s1 d1,.slice p2 s2 d2,.slice p3 s3 d3] w8.heap.size #[.int .i64 y1,.bool y2,.int .i64 y3,.int .i64 y4,.bool y5,.int .i64 y6,.slice av nl cv])):=by unfold Hid;rw[<-hW9];exact H8.out.alloc #[.int .i64 y1,.bool y2,.int .i64 y3,.int .i64 y4,.bool y5,.int .i64 y6,.slice av nl cv] 109 (by decide)
  have O9:=mkHid' (O8.out.next (box1 w8 (.cells #[.int .i64 y1,.bool y2,.int .i64 y3,.int .i64 y4,.bool y5,.int .i64 y6,.slice av nl cv] 109)))
  have P9:=mkHid' (P8.out.next (box1 w8 (.cells #[.int .i64 y1,.bool y2,.int .i64 y3,.int .i64 y4,.bool y5,.int .i64 y6,.slice av nl cv] 109)))
  have K9:=mkHid' (K8.out.trans (Chg.nx (box1 w8 (.cells #[.int .i64 y1,.bool y2,.int .i64 y3,.int .i64 y4,.bool y5,.int .i64 y6,.slice av nl cv] 109))))
  have HV8:Hid ((Value.slice a2 k c2).ownBlock≠some w8.heap.size):=λe=>by have:=(own_lt O8.out.rels _ e).2;omega
  have HG8:Hid (w4.heap.size<=w8.heap.size):=K8.out.size
  rw[hW9] at O9 P9 K9
  clear hW9 H8 O8 P8 K8
  generalize w8.heap.size=g8 at *
  go_wp2_with fail
  refine(l1Next_any D b s8 4 w9 H9.out.src HOK8.out (by omega)).mono ?_
  rintro e w10 ⟨rfl,hs1,hc1⟩
  have H10:=mkHid' (H9.out.drawn hs1 hc1)
  have O10:=mkHid' (O9.out.src H9.out.src hc1)
  have P10:=mkHid' (H9.out.rowDrawn P9.out hc1)
  have K10:Hid (Chg (λx=>x<Cr) w4 w10):=K9.out.trans (hc1.mono (λx hx=>by have hx':x=b:=hx;have:=HbL.out;have:=HC2.out;omega))
  clear hs1 hc1 H9 O9 P9 K9
  have HOK9:Hid (SOk (ns s8 4)):=ns_ok HOK8.out _
  generalize nv s8 4=d4 at *
  have BG:BT w10 g8 #[.int .i64 y1,.bool y2,.int .i64 y3,.int .i64 y4,.bool y5,.int .i64 y6,.slice av nl cv] 109:=H10.out.at 3 rfl
  have x1:=BG.blk.cell (i:=1) rfl
  have fz1:=BG.blk.frozen 1
  go_upto_region 14 with fail
  generalize hb4:(d4==0)=b4
  have HB4:Hid (decide (d4=0)=b4):=by unfold Hid;rw[<-hb4];rfl
  clear hb4
  rw[HB4.out] at HYE
  have H11:Hid (FR D b w (w10.setCell ⟨g8,1,none⟩ (.bool b4)) (ns s8 4) (br4 w.heap.size g g2 #[.slice a0 l0 q0,.slice a1 l1 q1,.slice a2 k c2,.slice a3 l3 q3,.int .i64 (dbNet S).uturn] #[.slice p0 s0 d0,.slice p1 s1 d1,.slice p2 s2 d2,.slice p3 s3 d3] g8 #[.int .i64 y1,.bool b4,.int .i64 y3,.int .i64 y4,.bool y5,.int .i64 y6,.slice av nl cv])):=H10.out.set 3 rfl 1 _
  have O11:Hid (ONt (w.heap.size+1) (w10.setCell ⟨g8,1,none⟩ (.bool b4)) (.slice a0 l0 q0) (.slice a1 l1 q1) (.slice a2 k c2) (.slice a3 l3 q3) (nW (dbNet S) rk) vn vw vr):=O10.out.turnBox (show BT w10 g8 #[.int .i64 y1,.bool y2,.int .i64 y3,.int .i64 y4,.bool y5,.int .i64 y6,.slice av nl cv] 109 from H10.out.at 3 rfl) (by decide) (λ_=>HV8.out) (Chg.set _ _ _ rfl)
  have P11:=mkHid' (H10.out.rowTurn 3 rfl P10.out (Chg.set g8 1 (.bool b4) rfl))
  have K11:Hid (Chg (λx=>x<Cr) w4 (w10.setCell ⟨g8,1,none⟩ (.bool b4))):=K10.out.young (Chg.set (S:=λx=>x=g8) _ _ _ rfl) (λx hx hl=>by have hx':x=g8:=hx;have:=HG8.out;omega)
  clear x1 fz1 BG H10 O10 P10 K10
  generalize w10.setCell ⟨g8,1,none⟩ (.bool b4)=w11 at *
  have HB:Hid (rcB (dbNet S) R ⟨sk,idk,rk⟩=(decide (0<k)&&decide (nv (ns s8 4) 10=0))):=by unfold Hid rcB;rw[HS2.out];show(decide (0<rk.length)&&_)=_;rw[HLR.out]
  generalize hbc:(decide (0<k)&&decide (nv (ns s8 4) 10=0))=bc at HB
  have HBC:Hid ((decide (0<k)&&decide (nv (ns s8 4) 10=0))=bc):=hbc
  obtain⟨SC,hSC⟩:∃s,s=if 0<k then ns (ns s8 4) 10 else ns s8 4:=⟨_,rfl⟩
  have HSC:Hid (SC=if 0<k then ns (ns s8 4) 10 else ns s8 4):=hSC
  have HOC:Hid (SOk SC):=by unfold Hid;rw[hSC];split<;>first|exact ns_ok HOK9.out _|exact HOK9.out
  clear hbc hSC
  go_cut [51] from 45 to 50 (λs51 wc=>s51=.bool bc/\Hid (FR D b w wc SC (br4 w.heap.size g g2 #[.slice a0 l0 q0,.slice a1 l1 q1,.slice a2 k c2,.slice a3 l3 q3,.int .i64 (dbNet S).uturn] #[.slice p0 s0 d0,.slice p1 s1 d1,.slice p2 s2 d2,.slice p3 s3 d3] g8 #[.int .i64 y1,.bool b4,.int .i64 y3,.int .i64 y4,.bool y5,.int .i64 y6,.slice av nl cv]))/\Hid (ONt (w.heap.size+1) wc (.slice a0 l0 q0) (.slice a1 l1 q1) (.slice a2 k c2) (.slice a3 l3 q3) (nW (dbNet S) rk) vn vw vr)/\Hid (OwnI wr.heap.size wc (.slice av nl cv) y7)/\Hid (Chg (λx=>x<Cr) w4 wc))
  case first=>
   by_cases hk0:k=0
   ·have hkn:¬0<k:=by omega
    have hkd:decide (0<k)=false:=by simp;omega
    have hki:decide ((0:Int)<(k:Int))=false:=by simp;omega
    have hSe:SC=ns s8 4:=by rw[HSC.out,if_neg hkn]
    have HBe:Hid (bc=false):=by unfold Hid;rw[<-HBC.out,hkd];rfl
    have HF:Hid (FR D b w w11 SC (br4 w.heap.size g g2 #[.slice a0 l0 q0,.slice a1 l1 q1,.slice a2 k c2,.slice a3 l3 q3,.int .i64 (dbNet S).uturn] #[.slice p0 s0 d0,.slice p1 s1 d1,.slice p2 s2 d2,.slice p3 s3 d3] g8 #[.int .i64 y1,.bool b4,.int .i64 y3,.int .i64 y4,.bool y5,.int .i64 y6,.slice av nl cv])):=by unfold Hid;rw[hSe];exact H11.out
    clear hSe HSC
    go_wp2
    go_meet
    exact⟨by rw[HBe.out],HF,O11,P11,K11⟩
   ·have hkp:0<k:=by omega
    have hkd:decide (0<k)=true:=by simp;omega
    have hki:decide ((0:Int)<(k:Int))=true:=by simp;omega
    have hkz:(0:Int)<(k:Int):=by omega
    have HSe:Hid (SC=ns (ns s8 4) 10):=by unfold Hid;rw[HSC.out,if_pos hkp]
    have HBe:Hid (bc=decide (nv (ns s8 4) 10=0)):=by unfold Hid;rw[<-HBC.out,hkd];rfl
    clear HSC HBC
    go_wp2_with fail
    refine(l1Next_any D b (ns s8 4) 10 w11 H11.out.src HOK9.out (by omega)).mono ?_
    rintro e w12 ⟨rfl,hs1,hc1⟩
    have H12:=mkHid' (H11.out.drawn hs1 hc1)
    have O12:=mkHid' (O11.out.src H11.out.src hc1)
    have P12:=mkHid' (H11.out.rowDrawn P11.out hc1)
    have K12:Hid (Chg (λx=>x<Cr) w4 w12):=K11.out.trans (hc1.mono (λx hx=>by have hx':x=b:=hx;have:=HbL.out;have:=HC2.out;omega))
    clear hs1 hc1 H11 O11 P11 K11
    rw[<-HSe.out] at H12
    generalize nv (ns s8 4) 10=d10 at *
    have HB5:Hid (bc=(d10==0)):=by unfold Hid;rw[HBe.out];rfl
    clear HBe
    go_wp2
    go_meet
    exact⟨by rw[HB5.out],H12,O12,P12,K12⟩
  case rest=>
  obtain⟨rfl,H12,O12,P12,K12⟩:=hcut
  obtain⟨zz,hzz⟩:∃z,z=rcZ (dbNet S) R ⟨sk,idk,rk⟩:=⟨_,rfl⟩
  obtain⟨S5,hS5⟩:∃z,z=rcS5 (dbNet S) R ⟨sk,idk,rk⟩:=⟨_,rfl⟩
  have HZ:Hid (zz=if bc then rcC ⟨sk,idk,rk⟩ (ns (ns s8 4) 10) else rcY (dbNet S) R ⟨sk,idk,rk⟩):=by unfold Hid;rw[hzz];unfold rcZ;rw[HB.out,HS2.out]
  have HZ5:Hid (S5=if bc then ns (ns (ns (ns s8 4) 10) k) 3 else SC):=by
   unfold Hid
   rw[hS5]
   unfold rcS5
   rw[HB.out,HS2.out,HSC.out]
   show(if bc=true then ns (ns (ns (ns s8 4) 10) rk.length) 3 else if 0<rk.length then _ else _)=_
   rw[HLR.out]
  have HO5:Hid (SOk S5):=by unfold Hid;rw[hS5];exact(rcS5_ok (x:=⟨sk,idk,rk⟩) HOKk.out).1
  have HSTEP:Hid ((rcTo (dbNet S) R x0 (k+1))=⟨ns S5 2,idk+(1+nv S5 2),rk++[⟨idk,zz.only,zz.frm,zz.to,zz.via,zz.node,zz.ways⟩]⟩):=by unfold Hid;rw[HST.out,hS5,hzz];rfl
  clear hzz hS5 HST H11 O11 P11 K11 HB
  go_upto_if 51 with fail
  go_cut [9] from 52 to 80 (λs9 wq=>∃(i1:Int) (nl cv:Nat) (av:Option Addr),Hid (zz.ways.length=nl)/\Hid (FR D b w wq S5 (br4 w.heap.size g g2 #[.slice a0 l0 q0,.slice a1 l1 q1,.slice a2 k c2,.slice a3 l3 q3,.int .i64 (dbNet S).uturn] #[.slice p0 s0 d0,.slice p1 s1 d1,.slice p2 s2 d2,.slice p3 s3 d3] g8 #[.int .i64 i1,.bool zz.only,.int .i64 zz.frm,.int .i64 zz.to,.bool zz.via,.int .i64 zz.node,.slice av nl cv]))/\Hid (ONt (w.heap.size+1) wq (.slice a0 l0 q0) (.slice a1 l1 q1) (.slice a2 k c2) (.slice a3 l3 q3) (nW (dbNet S) rk) vn vw vr)/\Hid (OwnI wr.heap.size wq (.slice av nl cv) zz.ways)/\Hid (Chg (λx=>x<Cr) w4 wq))
  case first=>
   cases bc with
   |false=>
    have hzy:zz=⟨0,b4,y3,y4,y5,y6,y7⟩:=by rw[HZ.out,if_neg (by decide),HYE.out]
    have h5c:S5=SC:=by rw[HZ5.out,if_neg (by decide)]
    have HR:Hid (zz.ways.length=nl/\FR D b w wc S5 (br4 w.heap.size g g2 #[.slice a0 l0 q0,.slice a1 l1 q1,.slice a2 k c2,.slice a3 l3 q3,.int .i64 (dbNet S).uturn] #[.slice p0 s0 d0,.slice p1 s1 d1,.slice p2 s2 d2,.slice p3 s3 d3] g8 #[.int .i64 y1,.bool zz.only,.int .i64 zz.frm,.int .i64 zz.to,.bool zz.via,.int .i64 zz.node,.slice av nl cv])/\OwnI wr.heap.size wc (.slice av nl cv) zz.ways):=by
     unfold Hid
     rw[hzy,h5c]
     exact⟨HNL.out,H12.out,P12.out⟩
    clear hzy h5c
    go_wp2
    go_meet
    exact⟨y1,nl,cv,av,HR.out.1,HR.out.2.1,O12,HR.out.2.2,K12⟩
   |true=>
    have hkp:0<k:=by
     have h:=HBC.out
     rw[Bool.and_eq_true,decide_eq_true_eq] at h
     exact h.1
    have HSe:Hid (SC=ns (ns s8 4) 10):=by unfold Hid;rw[HSC.out,if_pos hkp]
    obtain⟨i9,hi9⟩:∃i:Nat,nv SC k=i:=⟨(nv SC k).toNat,by have:=(nv_in HOC.out k).1;omega⟩
    have hl9:i9<k:=by have:=(nv_in HOC.out k).2 (by omega);omega
    have hj9:(i9:Int)<k:=by omega
    have HI9:Hid (nv SC k=i9):=hi9
    obtain⟨rb,c2',e9,hrb,_,_⟩:=O12.out.rels.at (i:=i9) (show i9<rk.length by rw[HLR.out];exact hl9)
    replace e9:(.slice a2 k c2:Value)=.slice (some ⟨rb,0,none⟩) rk.length c2':=e9
    simp only[Value.slice.injEq] at e9
    obtain⟨rfl,-,rfl⟩:=e9
    have hwy:=HWL.out (rat rk i9) (by have h9:i9<rk.length:=(by rw[HLR.out];exact hl9);rw[rat_eq h9];exact List.getElem_mem h9)
    obtain⟨ap,cp,eap⟩:=row_slice (O12.out.rw_ i9 (show i9<rk.length by rw[HLR.out];exact hl9))
    have HEP:Hid (vr i9=.slice ap (rat rk i9).ways.length cp):=eap
    have HPW0:Hid (∀q,ONt (w.heap.size+1) q (.slice a0 l0 q0) (.slice a1 l1 q1) (.slice (some ⟨rb,0,none⟩) k c2) (.slice a3 l3 q3) (nW (dbNet S) rk) vn vw vr->HInts (w.heap.size+1) q (.slice ap (rat rk i9).ways.length cp) (rat rk i9).ways):=λq h=>by rw[<-HEP.out];exact(h.rw_ i9 (show i9<rk.length by rw[HLR.out];exact hl9)).held
    have HRC:Hid (∀q,ONt (w.heap.size+1) q (.slice a0 l0 q0) (.slice a1 l1 q1) (.slice (some ⟨rb,0,none⟩) k c2) (.slice a3 l3 q3) (nW (dbNet S) rk) vn vw vr->q.cell? ⟨rb,i9*7,none⟩=some (.int .i64 (rat rk i9).id)/\q.cell? ⟨rb,i9*7+1,none⟩=some (.bool (rat rk i9).only)/\q.cell? ⟨rb,i9*7+2,none⟩=some (.int .i64 (rat rk i9).frm)/\q.cell? ⟨rb,i9*7+3,none⟩=some (.int .i64 (rat rk i9).to)/\q.cell? ⟨rb,i9*7+4,none⟩=some (.bool (rat rk i9).via)/\q.cell? ⟨rb,i9*7+5,none⟩=some (.int .i64 (rat rk i9).node)/\q.cell? ⟨rb,i9*7+6,none⟩=some (.slice ap (rat rk i9).ways.length cp)):=λq h=>by
     obtain⟨b',c',e',_,_,k0,k1,k2,k3,k4,k5,k6⟩:=h.rels.at (i:=i9) (show i9<rk.length by rw[HLR.out];exact hl9)
     simp only[Value.slice.injEq,Option.some.injEq,Addr.mk.injEq] at e'
     obtain⟨⟨rfl,_⟩,_⟩:=e'
     rw[HEP.out] at k6
     exact⟨k0,k1,k2,k3,k4,k5,k6⟩
    have hzc:zz=⟨0,if nv (ns SC k) 3=0 then !(rat rk i9).only else (rat rk i9).only,(rat rk i9).frm,(rat rk i9).to,(rat rk i9).via,(rat rk i9).node,(rat rk i9).ways⟩:=by
     rw[HZ.out,if_pos rfl,<-HSe.out]
     have hp:rcP ⟨sk,idk,rk⟩ SC=rat rk i9:=by show rat rk (nv SC rk.length).toNat=_;rw[HLR.out,HI9.out,Int.toNat_natCast]
     unfold rcC
     rw[hp]
     show(⟨0,if nv (ns SC rk.length) 3=0 then _ else _,_,_,_,_,_⟩:Rl)=_
     rw[HLR.out]
    have h5c:S5=ns (ns SC k) 3:=by rw[HZ5.out,if_pos rfl,<-HSe.out]
    have HZC:=mkHid' hzc
    have H5C:=mkHid' h5c
    clear hzc h5c hi9 eap HZ HZ5 HSe HSC HBC hrb HYE
    generalize rat rk i9=pp at *
    obtain⟨p_id,p_on,p_fr,p_to,p_vi,p_no,p_wy⟩:=pp
    simp only at HPW0 HRC HZC hwy
    generalize hnp:p_wy.length=np at *
    have HPN:Hid (p_wy.length=np):=hnp
    have HPL:Hid (p_wy.length<=4):=by unfold Hid;rw[hnp];exact hwy
    have HPW:=HPW0
    clear hnp HPW0 HEP
    have HSN:Hid (∀q,ONt (w.heap.size+1) q (.slice a0 l0 q0) (.slice a1 l1 q1) (.slice (some ⟨rb,0,none⟩) k c2) (.slice a3 l3 q3) (nW (dbNet S) rk) vn vw vr->BT q g #[.slice a0 l0 q0,.slice a1 l1 q1,.slice (some ⟨rb,0,none⟩) k c2,.slice a3 l3 q3,.int .i64 (dbNet S).uturn] 86->(λq=>q.cell? ⟨g,2,none⟩=some (.slice (some ⟨rb,0,none⟩) k c2)/\q.cell? ⟨rb,i9*7,none⟩=some (.int .i64 p_id)/\q.cell? ⟨rb,i9*7+1,none⟩=some (.bool p_on)/\q.cell? ⟨rb,i9*7+2,none⟩=some (.int .i64 p_fr)/\q.cell? ⟨rb,i9*7+3,none⟩=some (.int .i64 p_to)/\q.cell? ⟨rb,i9*7+4,none⟩=some (.bool p_vi)/\q.cell? ⟨rb,i9*7+5,none⟩=some (.int .i64 p_no)/\q.cell? ⟨rb,i9*7+6,none⟩=some (.slice ap np cp)) q):=λq h hb=>⟨hb.blk.cell (i:=2) rfl,HRC.out q h⟩
    go_upto_region 15 with fail
    go_cut [9] from 52 to 58 (λs9 wx=>∃g9,s9=.pointer (some ⟨g9,0,none⟩)/\Hid (FR D b w wx (ns SC k) (br5 w.heap.size g g2 #[.slice a0 l0 q0,.slice a1 l1 q1,.slice (some ⟨rb,0,none⟩) k c2,.slice a3 l3 q3,.int .i64 (dbNet S).uturn] #[.slice p0 s0 d0,.slice p1 s1 d1,.slice p2 s2 d2,.slice p3 s3 d3] g8 #[.int .i64 y1,.bool b4,.int .i64 y3,.int .i64 y4,.bool y5,.int .i64 y6,.slice av nl cv] g9 #[.int .i64 p_id,.bool p_on,.int .i64 p_fr,.int .i64 p_to,.bool p_vi,.int .i64 p_no,.slice ap np cp]))/\Hid (ONt (w.heap.size+1) wx (.slice a0 l0 q0) (.slice a1 l1 q1) (.slice (some ⟨rb,0,none⟩) k c2) (.slice a3 l3 q3) (nW (dbNet S) rk) vn vw vr)/\Hid (Chg (λx=>x<Cr) w4 wx))
    case first=>
     have H20:=mkHid' (H12.out.next (show Nx wc wc.drew from(Below.refl _ _).drew))
     have O20:=mkHid' (O12.out.next (show Nx wc wc.drew from(Below.refl _ _).drew))
     have P20:=mkHid' (P12.out.next (show Nx wc wc.drew from(Below.refl _ _).drew))
     have K20:Hid (Chg (λx=>x<Cr) w4 wc.drew):=K12.out.trans (Chg.nx (show Nx wc wc.drew from(Below.refl _ _).drew))
     have HSS:Hid ((λq=>q.cell? ⟨g,2,none⟩=some (.slice (some ⟨rb,0,none⟩) k c2)/\q.cell? ⟨rb,i9*7,none⟩=some (.int .i64 p_id)/\q.cell? ⟨rb,i9*7+1,none⟩=some (.bool p_on)/\q.cell? ⟨rb,i9*7+2,none⟩=some (.int .i64 p_fr)/\q.cell? ⟨rb,i9*7+3,none⟩=some (.int .i64 p_to)/\q.cell? ⟨rb,i9*7+4,none⟩=some (.bool p_vi)/\q.cell? ⟨rb,i9*7+5,none⟩=some (.int .i64 p_no)/\q.cell? ⟨rb,i9*7+6,none⟩=some (.slice ap np cp)) wc.drew):=HSN.out _ O20.out (H20.out.at 1 rfl)
     refine(wpIn_wide (n:=9)).1 ?_
     refine wpIn_region_S (c:=8) (S:=λq=>q.cell? ⟨g,2,none⟩=some (.slice (some ⟨rb,0,none⟩) k c2)/\q.cell? ⟨rb,i9*7,none⟩=some (.int .i64 p_id)/\q.cell? ⟨rb,i9*7+1,none⟩=some (.bool p_on)/\q.cell? ⟨rb,i9*7+2,none⟩=some (.int .i64 p_fr)/\q.cell? ⟨rb,i9*7+3,none⟩=some (.int .i64 p_to)/\q.cell? ⟨rb,i9*7+4,none⟩=some (.bool p_vi)/\q.cell? ⟨rb,i9*7+5,none⟩=some (.int .i64 p_no)/\q.cell? ⟨rb,i9*7+6,none⟩=some (.slice ap np cp)) hmx (by kernel_rfl) (λhw hcl=>?_)
     generalize wc.drew=wd at *
     refine tq (i:=0) (v:=.pointer (some ⟨g,2,none⟩)) (λhcl=>?_)
     refine tq (i:=1) (v:=.slice (some ⟨rb,0,none⟩) k c2) (λhcl=>?_)
     refine tq (i:=2) (v:=.pointer (some ⟨b,0,none⟩)) (λhcl=>?_)
     refine tq (i:=3) (v:=.int .i64 (k:Int)) (λhcl=>?_)
     refine anyS_two2 (i:=4) (j:=7) (by kernel_rfl) hcl (λhcl=>wpOpIn_step rfl (λK hK=>?_)) (λhcl=>wpOpIn_step rfl (λK hK=>?_))
     ·go_simp
      refine⟨trivial,(callsIn_wide.2 (l1Next_any D b SC (k:Int) _ H20.out.src HOC.out (by omega))).mono ?_⟩
      rintro e7 wa ⟨rfl,hs1,hc1⟩
      rw[HI9.out]
      have H21:=mkHid' (H20.out.drawn hs1 hc1)
      have O21:=mkHid' (O20.out.src H20.out.src hc1)
      have P21:=mkHid' (H20.out.rowDrawn P20.out hc1)
      have K21:Hid (Chg (λx=>x<Cr) w4 wa):=K20.out.trans (hc1.mono (λx hx=>by have hx':x=b:=hx;have:=HbL.out;have:=HC2.out;omega))
      have HSS:Hid ((λq=>q.cell? ⟨g,2,none⟩=some (.slice (some ⟨rb,0,none⟩) k c2)/\q.cell? ⟨rb,i9*7,none⟩=some (.int .i64 p_id)/\q.cell? ⟨rb,i9*7+1,none⟩=some (.bool p_on)/\q.cell? ⟨rb,i9*7+2,none⟩=some (.int .i64 p_fr)/\q.cell? ⟨rb,i9*7+3,none⟩=some (.int .i64 p_to)/\q.cell? ⟨rb,i9*7+4,none⟩=some (.bool p_vi)/\q.cell? ⟨rb,i9*7+5,none⟩=some (.int .i64 p_no)/\q.cell? ⟨rb,i9*7+6,none⟩=some (.slice ap np cp)) wa):=HSN.out _ O21.out (H21.out.at 1 rfl)
      refine hK _ _ ⟨Or.inr HSS.out,?_⟩
      clear hK K hs1 hc1
      refine tq (i:=5) (v:=.pointer (some ⟨rb,i9*7,none⟩)) (λhcl=>?_)
      refine tq (i:=6) (v:=.agg #[.int .i64 p_id,.bool p_on,.int .i64 p_fr,.int .i64 p_to,.bool p_vi,.int .i64 p_no,.slice ap np cp]) (λhcl=>?_)
      refine anyS_one2 (i:=7) (by kernel_rfl) hcl (λhcl=>wpOpIn_step rfl (λK hK=>?_))
      go_simp
      generalize hWa:wa.alloc (.cells #[.int .i64 0,.bool false,.int .i64 0,.int .i64 0,.bool false,.int .i64 0,.slice none 0 0] 109)=wb
      have H22:Hid (FR D b w wb (ns SC k) (br5 w.heap.size g g2 #[.slice a0 l0 q0,.slice a1 l1 q1,.slice (some ⟨rb,0,none⟩) k c2,.slice a3 l3 q3,.int .i64 (dbNet S).uturn] #[.slice p0 s0 d0,.slice p1 s1 d1,.slice p2 s2 d2,.slice p3 s3 d3] g8 #[.int .i64 y1,.bool b4,.int .i64 y3,.int .i64 y4,.bool y5,.int .i64 y6,.slice av nl cv] wa.heap.size #[.int .i64 0,.bool false,.int .i64 0,.int .i64 0,.bool false,.int .i64 0,.slice none 0 0])):=by unfold Hid;rw[<-hWa];exact H21.out.alloc #[.int .i64 0,.bool false,.int .i64 0,.int .i64 0,.bool false,.int .i64 0,.slice none 0 0] 109 (by decide)
      have O22:Hid (ONt (w.heap.size+1) wb (.slice a0 l0 q0) (.slice a1 l1 q1) (.slice (some ⟨rb,0,none⟩) k c2) (.slice a3 l3 q3) (nW (dbNet S) rk) vn vw vr):=by unfold Hid;rw[<-hWa];exact O21.out.next (box1 _ _)
      have P22:Hid (OwnI wr.heap.size wb (.slice av nl cv) y7):=by unfold Hid;rw[<-hWa];exact P21.out.next (box1 _ _)
      have K22:Hid (Chg (λx=>x<Cr) w4 wb):=by unfold Hid;rw[<-hWa];exact K21.out.trans (Chg.nx (box1 _ _))
      have HV9:Hid ((Value.slice (some ⟨rb,0,none⟩) k c2).ownBlock≠some wa.heap.size):=λe=>by have:=(own_lt O21.out.rels _ e).2;omega
      have HG9:Hid (w4.heap.size<=wa.heap.size):=K21.out.size
      clear hWa
      generalize wa.heap.size=g9 at *
      have HSS:Hid ((λq=>q.cell? ⟨g,2,none⟩=some (.slice (some ⟨rb,0,none⟩) k c2)/\q.cell? ⟨rb,i9*7,none⟩=some (.int .i64 p_id)/\q.cell? ⟨rb,i9*7+1,none⟩=some (.bool p_on)/\q.cell? ⟨rb,i9*7+2,none⟩=some (.int .i64 p_fr)/\q.cell? ⟨rb,i9*7+3,none⟩=some (.int .i64 p_to)/\q.cell? ⟨rb,i9*7+4,none⟩=some (.bool p_vi)/\q.cell? ⟨rb,i9*7+5,none⟩=some (.int .i64 p_no)/\q.cell? ⟨rb,i9*7+6,none⟩=some (.slice ap np cp)) wb):=HSN.out _ O22.out (H22.out.at 1 rfl)
      refine hK _ _ ⟨Or.inr HSS.out,?_⟩
      clear hK K
      have BG:BT wb g9 #[.int .i64 0,.bool false,.int .i64 0,.int .i64 0,.bool false,.int .i64 0,.slice none 0 0] 109:=H22.out.at 4 rfl
      have x0:=BG.blk.cell (i:=0) rfl
      have fz0:=BG.blk.frozen 0
      have x1:=BG.blk.cell (i:=1) rfl
      have fz1:=BG.blk.frozen 1
      have x2:=BG.blk.cell (i:=2) rfl
      have fz2:=BG.blk.frozen 2
      have x3:=BG.blk.cell (i:=3) rfl
      have fz3:=BG.blk.frozen 3
      have x4:=BG.blk.cell (i:=4) rfl
      have fz4:=BG.blk.frozen 4
      have x5:=BG.blk.cell (i:=5) rfl
      have fz5:=BG.blk.frozen 5
      have x6:=BG.blk.cell (i:=6) rfl
      have fz6:=BG.blk.frozen 6
      have BS:=set7 (a0:=.int .i64 p_id) (a1:=.bool p_on) (a2:=.int .i64 p_fr) (a3:=.int .i64 p_to) (a4:=.bool p_vi) (a5:=.int .i64 p_no) (a6:=.slice ap np cp) BG
      have HCF:Hid (Chg (λx=>x=g9) wb (((((((wb.setCell ⟨g9,0,none⟩ (.int .i64 p_id)).setCell ⟨g9,1,none⟩ (.bool p_on)).setCell ⟨g9,2,none⟩ (.int .i64 p_fr)).setCell ⟨g9,3,none⟩ (.int .i64 p_to)).setCell ⟨g9,4,none⟩ (.bool p_vi)).setCell ⟨g9,5,none⟩ (.int .i64 p_no)).setCell ⟨g9,6,none⟩ (.slice ap np cp))):=chg7
      have HR15:Hid (FR D b w (((((((wb.setCell ⟨g9,0,none⟩ (.int .i64 p_id)).setCell ⟨g9,1,none⟩ (.bool p_on)).setCell ⟨g9,2,none⟩ (.int .i64 p_fr)).setCell ⟨g9,3,none⟩ (.int .i64 p_to)).setCell ⟨g9,4,none⟩ (.bool p_vi)).setCell ⟨g9,5,none⟩ (.int .i64 p_no)).setCell ⟨g9,6,none⟩ (.slice ap np cp)) (ns SC k) (br5 w.heap.size g g2 #[.slice a0 l0 q0,.slice a1 l1 q1,.slice (some ⟨rb,0,none⟩) k c2,.slice a3 l3 q3,.int .i64 (dbNet S).uturn] #[.slice p0 s0 d0,.slice p1 s1 d1,.slice p2 s2 d2,.slice p3 s3 d3] g8 #[.int .i64 y1,.bool b4,.int .i64 y3,.int .i64 y4,.bool y5,.int .i64 y6,.slice av nl cv] g9 #[.int .i64 p_id,.bool p_on,.int .i64 p_fr,.int .i64 p_to,.bool p_vi,.int .i64 p_no,.slice ap np cp])):=H22.out.turn 4 rfl HCF.out BS
      have HO15:Hid (ONt (w.heap.size+1) (((((((wb.setCell ⟨g9,0,none⟩ (.int .i64 p_id)).setCell ⟨g9,1,none⟩ (.bool p_on)).setCell ⟨g9,2,none⟩ (.int .i64 p_fr)).setCell ⟨g9,3,none⟩ (.int .i64 p_to)).setCell ⟨g9,4,none⟩ (.bool p_vi)).setCell ⟨g9,5,none⟩ (.int .i64 p_no)).setCell ⟨g9,6,none⟩ (.slice ap np cp)) (.slice a0 l0 q0) (.slice a1 l1 q1) (.slice (some ⟨rb,0,none⟩) k c2) (.slice a3 l3 q3) (nW (dbNet S) rk) vn vw vr):=O22.out.turnBox BG (by decide) (λ_=>HV9.out) HCF.out
      have HP15:Hid (OwnI wr.heap.size (((((((wb.setCell ⟨g9,0,none⟩ (.int .i64 p_id)).setCell ⟨g9,1,none⟩ (.bool p_on)).setCell ⟨g9,2,none⟩ (.int .i64 p_fr)).setCell ⟨g9,3,none⟩ (.int .i64 p_to)).setCell ⟨g9,4,none⟩ (.bool p_vi)).setCell ⟨g9,5,none⟩ (.int .i64 p_no)).setCell ⟨g9,6,none⟩ (.slice ap np cp)) (.slice av nl cv) y7):=H22.out.rowTurn 4 rfl P22.out HCF.out
      have HK15:Hid (Chg (λx=>x<Cr) w4 (((((((wb.setCell ⟨g9,0,none⟩ (.int .i64 p_id)).setCell ⟨g9,1,none⟩ (.bool p_on)).setCell ⟨g9,2,none⟩ (.int .i64 p_fr)).setCell ⟨g9,3,none⟩ (.int .i64 p_to)).setCell ⟨g9,4,none⟩ (.bool p_vi)).setCell ⟨g9,5,none⟩ (.int .i64 p_no)).setCell ⟨g9,6,none⟩ (.slice ap np cp))):=K22.out.young HCF.out (λx hx hl=>by have hx':x=g9:=hx;have:=HG9.out;omega)
      clear BS
      refine anyS_one (i:=8) (by kernel_rfl) (wpOpIn_step rfl (λK hK=>?_))
      go_simp
      refine hK _ _ ⟨Or.inl (by decide),?_⟩
      clear hK K
      refine anyS_done (by kernel_rfl) ?_ _
      clear hw hcl HSS BG x0 x1 x2 x3 x4 x5 x6 fz0 fz1 fz2 fz3 fz4 fz5 fz6
      go_wp2
      go_meet
      exact⟨g9,rfl,HR15,HO15,HK15⟩
     ·go_simp
      generalize hWa:wd.alloc (.cells #[.int .i64 0,.bool false,.int .i64 0,.int .i64 0,.bool false,.int .i64 0,.slice none 0 0] 109)=wa
      have H21:Hid (FR D b w wa SC (br5 w.heap.size g g2 #[.slice a0 l0 q0,.slice a1 l1 q1,.slice (some ⟨rb,0,none⟩) k c2,.slice a3 l3 q3,.int .i64 (dbNet S).uturn] #[.slice p0 s0 d0,.slice p1 s1 d1,.slice p2 s2 d2,.slice p3 s3 d3] g8 #[.int .i64 y1,.bool b4,.int .i64 y3,.int .i64 y4,.bool y5,.int .i64 y6,.slice av nl cv] wd.heap.size #[.int .i64 0,.bool false,.int .i64 0,.int .i64 0,.bool false,.int .i64 0,.slice none 0 0])):=by unfold Hid;rw[<-hWa];exact H20.out.alloc #[.int .i64 0,.bool false,.int .i64 0,.int .i64 0,.bool false,.int .i64 0,.slice none 0 0] 109 (by decide)
      have O21:Hid (ONt (w.heap.size+1) wa (.slice a0 l0 q0) (.slice a1 l1 q1) (.slice (some ⟨rb,0,none⟩) k c2) (.slice a3 l3 q3) (nW (dbNet S) rk) vn vw vr):=by unfold Hid;rw[<-hWa];exact O20.out.next (box1 _ _)
      have P21:Hid (OwnI wr.heap.size wa (.slice av nl cv) y7):=by unfold Hid;rw[<-hWa];exact P20.out.next (box1 _ _)
      have K21:Hid (Chg (λx=>x<Cr) w4 wa):=by unfold Hid;rw[<-hWa];exact K20.out.trans (Chg.nx (box1 _ _))
      have HV9:Hid ((Value.slice (some ⟨rb,0,none⟩) k c2).ownBlock≠some wd.heap.size):=λe=>by have:=(own_lt O20.out.rels _ e).2;omega
      have HG9:Hid (w4.heap.size<=wd.heap.size):=K20.out.size
      clear hWa
      generalize wd.heap.size=g9 at *
      have HSS:Hid ((λq=>q.cell? ⟨g,2,none⟩=some (.slice (some ⟨rb,0,none⟩) k c2)/\q.cell? ⟨rb,i9*7,none⟩=some (.int .i64 p_id)/\q.cell? ⟨rb,i9*7+1,none⟩=some (.bool p_on)/\q.cell? ⟨rb,i9*7+2,none⟩=some (.int .i64 p_fr)/\q.cell? ⟨rb,i9*7+3,none⟩=some (.int .i64 p_to)/\q.cell? ⟨rb,i9*7+4,none⟩=some (.bool p_vi)/\q.cell? ⟨rb,i9*7+5,none⟩=some (.int .i64 p_no)/\q.cell? ⟨rb,i9*7+6,none⟩=some (.slice ap np cp)) wa):=HSN.out _ O21.out (H21.out.at 1 rfl)
      refine hK _ _ ⟨Or.inr HSS.out,?_⟩
      clear hK K
      refine anyS_one2 (i:=4) (by kernel_rfl) hcl (λhcl=>wpOpIn_step rfl (λK hK=>?_))
      go_simp
      refine⟨trivial,(callsIn_wide.2 (l1Next_any D b SC (k:Int) _ H21.out.src HOC.out (by omega))).mono ?_⟩
      rintro e7 wb ⟨rfl,hs1,hc1⟩
      rw[HI9.out]
      have H22:=mkHid' (H21.out.drawn hs1 hc1)
      have O22:=mkHid' (O21.out.src H21.out.src hc1)
      have P22:=mkHid' (H21.out.rowDrawn P21.out hc1)
      have K22:Hid (Chg (λx=>x<Cr) w4 wb):=K21.out.trans (hc1.mono (λx hx=>by have hx':x=b:=hx;have:=HbL.out;have:=HC2.out;omega))
      have HSS:Hid ((λq=>q.cell? ⟨g,2,none⟩=some (.slice (some ⟨rb,0,none⟩) k c2)/\q.cell? ⟨rb,i9*7,none⟩=some (.int .i64 p_id)/\q.cell? ⟨rb,i9*7+1,none⟩=some (.bool p_on)/\q.cell? ⟨rb,i9*7+2,none⟩=some (.int .i64 p_fr)/\q.cell? ⟨rb,i9*7+3,none⟩=some (.int .i64 p_to)/\q.cell? ⟨rb,i9*7+4,none⟩=some (.bool p_vi)/\q.cell? ⟨rb,i9*7+5,none⟩=some (.int .i64 p_no)/\q.cell? ⟨rb,i9*7+6,none⟩=some (.slice ap np cp)) wb):=HSN.out _ O22.out (H22.out.at 1 rfl)
      refine hK _ _ ⟨Or.inr HSS.out,?_⟩
      clear hK K hs1 hc1
      refine tq (i:=5) (v:=.pointer (some ⟨rb,i9*7,none⟩)) (λhcl=>?_)
      refine tq (i:=6) (v:=.agg #[.int .i64 p_id,.bool p_on,.int .i64 p_fr,.int .i64 p_to,.bool p_vi,.int .i64 p_no,.slice ap np cp]) (λhcl=>?_)
      have BG:BT wb g9 #[.int .i64 0,.bool false,.int .i64 0,.int .i64 0,.bool false,.int .i64 0,.slice none 0 0] 109:=H22.out.at 4 rfl
      have x0:=BG.blk.cell (i:=0) rfl
      have fz0:=BG.blk.frozen 0
      have x1:=BG.blk.cell (i:=1) rfl
      have fz1:=BG.blk.frozen 1
      have x2:=BG.blk.cell (i:=2) rfl
      have fz2:=BG.blk.frozen 2
      have x3:=BG.blk.cell (i:=3) rfl
      have fz3:=BG.blk.frozen 3
      have x4:=BG.blk.cell (i:=4) rfl
      have fz4:=BG.blk.frozen 4
      have x5:=BG.blk.cell (i:=5) rfl
      have fz5:=BG.blk.frozen 5
      have x6:=BG.blk.cell (i:=6) rfl
      have fz6:=BG.blk.frozen 6
      have BS:=set7 (a0:=.int .i64 p_id) (a1:=.bool p_on) (a2:=.int .i64 p_fr) (a3:=.int .i64 p_to) (a4:=.bool p_vi) (a5:=.int .i64 p_no) (a6:=.slice ap np cp) BG
      have HCF:Hid (Chg (λx=>x=g9) wb (((((((wb.setCell ⟨g9,0,none⟩ (.int .i64 p_id)).setCell ⟨g9,1,none⟩ (.bool p_on)).setCell ⟨g9,2,none⟩ (.int .i64 p_fr)).setCell ⟨g9,3,none⟩ (.int .i64 p_to)).setCell ⟨g9,4,none⟩ (.bool p_vi)).setCell ⟨g9,5,none⟩ (.int .i64 p_no)).setCell ⟨g9,6,none⟩ (.slice ap np cp))):=chg7
      have HR15:Hid (FR D b w (((((((wb.setCell ⟨g9,0,none⟩ (.int .i64 p_id)).setCell ⟨g9,1,none⟩ (.bool p_on)).setCell ⟨g9,2,none⟩ (.int .i64 p_fr)).setCell ⟨g9,3,none⟩ (.int .i64 p_to)).setCell ⟨g9,4,none⟩ (.bool p_vi)).setCell ⟨g9,5,none⟩ (.int .i64 p_no)).setCell ⟨g9,6,none⟩ (.slice ap np cp)) (ns SC k) (br5 w.heap.size g g2 #[.slice a0 l0 q0,.slice a1 l1 q1,.slice (some ⟨rb,0,none⟩) k c2,.slice a3 l3 q3,.int .i64 (dbNet S).uturn] #[.slice p0 s0 d0,.slice p1 s1 d1,.slice p2 s2 d2,.slice p3 s3 d3] g8 #[.int .i64 y1,.bool b4,.int .i64 y3,.int .i64 y4,.bool y5,.int .i64 y6,.slice av nl cv] g9 #[.int .i64 p_id,.bool p_on,.int .i64 p_fr,.int .i64 p_to,.bool p_vi,.int .i64 p_no,.slice ap np cp])):=H22.out.turn 4 rfl HCF.out BS
      have HO15:Hid (ONt (w.heap.size+1) (((((((wb.setCell ⟨g9,0,none⟩ (.int .i64 p_id)).setCell ⟨g9,1,none⟩ (.bool p_on)).setCell ⟨g9,2,none⟩ (.int .i64 p_fr)).setCell ⟨g9,3,none⟩ (.int .i64 p_to)).setCell ⟨g9,4,none⟩ (.bool p_vi)).setCell ⟨g9,5,none⟩ (.int .i64 p_no)).setCell ⟨g9,6,none⟩ (.slice ap np cp)) (.slice a0 l0 q0) (.slice a1 l1 q1) (.slice (some ⟨rb,0,none⟩) k c2) (.slice a3 l3 q3) (nW (dbNet S) rk) vn vw vr):=O22.out.turnBox BG (by decide) (λ_=>HV9.out) HCF.out
      have HP15:Hid (OwnI wr.heap.size (((((((wb.setCell ⟨g9,0,none⟩ (.int .i64 p_id)).setCell ⟨g9,1,none⟩ (.bool p_on)).setCell ⟨g9,2,none⟩ (.int .i64 p_fr)).setCell ⟨g9,3,none⟩ (.int .i64 p_to)).setCell ⟨g9,4,none⟩ (.bool p_vi)).setCell ⟨g9,5,none⟩ (.int .i64 p_no)).setCell ⟨g9,6,none⟩ (.slice ap np cp)) (.slice av nl cv) y7):=H22.out.rowTurn 4 rfl P22.out HCF.out
      have HK15:Hid (Chg (λx=>x<Cr) w4 (((((((wb.setCell ⟨g9,0,none⟩ (.int .i64 p_id)).setCell ⟨g9,1,none⟩ (.bool p_on)).setCell ⟨g9,2,none⟩ (.int .i64 p_fr)).setCell ⟨g9,3,none⟩ (.int .i64 p_to)).setCell ⟨g9,4,none⟩ (.bool p_vi)).setCell ⟨g9,5,none⟩ (.int .i64 p_no)).setCell ⟨g9,6,none⟩ (.slice ap np cp))):=K22.out.young HCF.out (λx hx hl=>by have hx':x=g9:=hx;have:=HG9.out;omega)
      clear BS
      refine anyS_one (i:=8) (by kernel_rfl) (wpOpIn_step rfl (λK hK=>?_))
      go_simp
      refine hK _ _ ⟨Or.inl (by decide),?_⟩
      clear hK K
      refine anyS_done (by kernel_rfl) ?_ _
      clear hw hcl HSS BG x0 x1 x2 x3 x4 x5 x6 fz0 fz1 fz2 fz3 fz4 fz5 fz6
      go_wp2
      go_meet
      exact⟨g9,rfl,HR15,HO15,HK15⟩
    case rest=>
    obtain⟨g9,rfl,H29,O29,K29⟩:=hcut
    have HSQ:Hid (∀q S',FR D b w q S' (br5 w.heap.size g g2 #[.slice a0 l0 q0,.slice a1 l1 q1,.slice (some ⟨rb,0,none⟩) k c2,.slice a3 l3 q3,.int .i64 (dbNet S).uturn] #[.slice p0 s0 d0,.slice p1 s1 d1,.slice p2 s2 d2,.slice p3 s3 d3] g8 #[.int .i64 y1,.bool b4,.int .i64 y3,.int .i64 y4,.bool y5,.int .i64 y6,.slice av nl cv] g9 #[.int .i64 p_id,.bool p_on,.int .i64 p_fr,.int .i64 p_to,.bool p_vi,.int .i64 p_no,.slice ap np cp])->(λq=>q.cell? ⟨g9,1,none⟩=some (.bool p_on)/\q.cell? ⟨g9,2,none⟩=some (.int .i64 p_fr)/\q.cell? ⟨g9,3,none⟩=some (.int .i64 p_to)/\q.cell? ⟨g9,4,none⟩=some (.bool p_vi)/\q.cell? ⟨g9,5,none⟩=some (.int .i64 p_no)/\q.cell? ⟨g9,6,none⟩=some (.slice ap np cp)) q):=λq S' h=>⟨(h.at 4 rfl).blk.cell (i:=1) rfl,(h.at 4 rfl).blk.cell (i:=2) rfl,(h.at 4 rfl).blk.cell (i:=3) rfl,(h.at 4 rfl).blk.cell (i:=4) rfl,(h.at 4 rfl).blk.cell (i:=5) rfl,(h.at 4 rfl).blk.cell (i:=6) rfl⟩
    clear H12 O12 P12 K12
    go_upto_region 16 with fail
    have H30:=mkHid' (H29.out.next (show Nx wc wc.drew from(Below.refl _ _).drew))
    have O30:=mkHid' (O29.out.next (show Nx wc wc.drew from(Below.refl _ _).drew))
    have K30:Hid (Chg (λx=>x<Cr) w4 wc.drew):=K29.out.trans (Chg.nx (show Nx wc wc.drew from(Below.refl _ _).drew))
    have HSS:Hid ((λq=>q.cell? ⟨g9,1,none⟩=some (.bool p_on)/\q.cell? ⟨g9,2,none⟩=some (.int .i64 p_fr)/\q.cell? ⟨g9,3,none⟩=some (.int .i64 p_to)/\q.cell? ⟨g9,4,none⟩=some (.bool p_vi)/\q.cell? ⟨g9,5,none⟩=some (.int .i64 p_no)/\q.cell? ⟨g9,6,none⟩=some (.slice ap np cp)) wc.drew):=HSQ.out _ _ H30.out
    refine(wpIn_wide (n:=9)).1 ?_
    refine wpIn_region_S (c:=15) (S:=λq=>q.cell? ⟨g9,1,none⟩=some (.bool p_on)/\q.cell? ⟨g9,2,none⟩=some (.int .i64 p_fr)/\q.cell? ⟨g9,3,none⟩=some (.int .i64 p_to)/\q.cell? ⟨g9,4,none⟩=some (.bool p_vi)/\q.cell? ⟨g9,5,none⟩=some (.int .i64 p_no)/\q.cell? ⟨g9,6,none⟩=some (.slice ap np cp)) hmx (by kernel_rfl) (λhw hcl=>?_)
    generalize wc.drew=wd at *
    refine tq (i:=0) (v:=.pointer (some ⟨g9,1,none⟩)) (λhcl=>?_)
    refine tq (i:=1) (v:=.bool p_on) (λhcl=>?_)
    refine tq (i:=2) (v:=.pointer (some ⟨g9,2,none⟩)) (λhcl=>?_)
    refine tq (i:=3) (v:=.int .i64 p_fr) (λhcl=>?_)
    refine tq (i:=4) (v:=.pointer (some ⟨g9,3,none⟩)) (λhcl=>?_)
    refine tq (i:=5) (v:=.int .i64 p_to) (λhcl=>?_)
    refine tq (i:=6) (v:=.pointer (some ⟨g9,4,none⟩)) (λhcl=>?_)
    refine tq (i:=7) (v:=.bool p_vi) (λhcl=>?_)
    refine tq (i:=8) (v:=.pointer (some ⟨g9,5,none⟩)) (λhcl=>?_)
    refine tq (i:=9) (v:=.int .i64 p_no) (λhcl=>?_)
    refine tq (i:=10) (v:=.pointer (some ⟨g9,6,none⟩)) (λhcl=>?_)
    refine tq (i:=11) (v:=.slice ap np cp) (λhcl=>?_)
    refine anyS_one2 (i:=12) (by kernel_rfl) hcl (λhcl=>wpOpIn_step rfl (λK hK=>?_))
    go_simp
    generalize hWe:wd.alloc (.cells #[] 2)=we
    have HXe:Hid (Nx wd we):=by unfold Hid;rw[<-hWe];exact box1 _ _
    have HZe:Hid (HInts 0 we (.slice (some ⟨wd.heap.size,0,none⟩) 0 0) []):=⟨_,_,rfl,Nat.zero_le _,λh=>absurd h (Nat.lt_irrefl _)⟩
    clear hWe
    have H31:=mkHid' (H30.out.next HXe.out)
    have O31:=mkHid' (O30.out.next HXe.out)
    have K31:Hid (Chg (λx=>x<Cr) w4 we):=K30.out.trans (Chg.nx HXe.out)
    have HSS:Hid ((λq=>q.cell? ⟨g9,1,none⟩=some (.bool p_on)/\q.cell? ⟨g9,2,none⟩=some (.int .i64 p_fr)/\q.cell? ⟨g9,3,none⟩=some (.int .i64 p_to)/\q.cell? ⟨g9,4,none⟩=some (.bool p_vi)/\q.cell? ⟨g9,5,none⟩=some (.int .i64 p_no)/\q.cell? ⟨g9,6,none⟩=some (.slice ap np cp)) we):=HSQ.out _ _ H31.out
    refine hK _ _ ⟨Or.inr HSS.out,?_⟩
    clear hK K
    refine anyS_one2 (i:=13) (by kernel_rfl) hcl (λhcl=>wpOpIn_step rfl (λK hK=>?_))
    go_simp
    refine⟨trivial,(callsIn_wide.2 (l2Plus_any (w.heap.size+1) 0 (.slice ap np cp) (.slice (some ⟨wd.heap.size,0,none⟩) 0 0) p_wy [] we (HPW.out we O31.out) HZe.out (by have:=HPL.out;omega) (by simp))).mono ?_⟩
    rintro e7 wg ⟨⟨uu,rfl,hou⟩,hxg⟩
    have H32:=mkHid' (H31.out.next hxg)
    have O32:=mkHid' (O31.out.next hxg)
    have K32:Hid (Chg (λx=>x<Cr) w4 wg):=K31.out.trans (Chg.nx hxg)
    rw[List.append_nil] at hou
    obtain⟨au,cu,rfl⟩:=row_slice hou
    have P32:Hid (OwnI wr.heap.size wg (.slice au p_wy.length cu) p_wy):=hou.base (by have h1:=HWG.out;have h2:=(show BT we g8 #[.int .i64 y1,.bool b4,.int .i64 y3,.int .i64 y4,.bool y5,.int .i64 y6,.slice av nl cv] 109 from H31.out.at 3 rfl).lt;omega)
    rw[HPN.out] at P32 ⊢
    have HSS:Hid ((λq=>q.cell? ⟨g9,1,none⟩=some (.bool p_on)/\q.cell? ⟨g9,2,none⟩=some (.int .i64 p_fr)/\q.cell? ⟨g9,3,none⟩=some (.int .i64 p_to)/\q.cell? ⟨g9,4,none⟩=some (.bool p_vi)/\q.cell? ⟨g9,5,none⟩=some (.int .i64 p_no)/\q.cell? ⟨g9,6,none⟩=some (.slice ap np cp)) wg):=HSQ.out _ _ H32.out
    refine hK _ _ ⟨Or.inr HSS.out,?_⟩
    clear hK K hou hxg
    refine tq (i:=14) (v:=.agg #[.int .i64 0,.bool p_on,.int .i64 p_fr,.int .i64 p_to,.bool p_vi,.int .i64 p_no,.slice au np cu]) (λhcl=>?_)
    have BG:BT wg g8 #[.int .i64 y1,.bool b4,.int .i64 y3,.int .i64 y4,.bool y5,.int .i64 y6,.slice av nl cv] 109:=H32.out.at 3 rfl
    have x0:=BG.blk.cell (i:=0) rfl
    have fz0:=BG.blk.frozen 0
    have x1:=BG.blk.cell (i:=1) rfl
    have fz1:=BG.blk.frozen 1
    have x2:=BG.blk.cell (i:=2) rfl
    have fz2:=BG.blk.frozen 2
    have x3:=BG.blk.cell (i:=3) rfl
    have fz3:=BG.blk.frozen 3
    have x4:=BG.blk.cell (i:=4) rfl
    have fz4:=BG.blk.frozen 4
    have x5:=BG.blk.cell (i:=5) rfl
    have fz5:=BG.blk.frozen 5
    have x6:=BG.blk.cell (i:=6) rfl
    have fz6:=BG.blk.frozen 6
    have BS:=set7 (a0:=.int .i64 0) (a1:=.bool p_on) (a2:=.int .i64 p_fr) (a3:=.int .i64 p_to) (a4:=.bool p_vi) (a5:=.int .i64 p_no) (a6:=.slice au np cu) BG
    have HCF:Hid (Chg (λx=>x=g8) wg (((((((wg.setCell ⟨g8,0,none⟩ (.int .i64 0)).setCell ⟨g8,1,none⟩ (.bool p_on)).setCell ⟨g8,2,none⟩ (.int .i64 p_fr)).setCell ⟨g8,3,none⟩ (.int .i64 p_to)).setCell ⟨g8,4,none⟩ (.bool p_vi)).setCell ⟨g8,5,none⟩ (.int .i64 p_no)).setCell ⟨g8,6,none⟩ (.slice au np cu))):=chg7
    have H33:Hid (FR D b w (((((((wg.setCell ⟨g8,0,none⟩ (.int .i64 0)).setCell ⟨g8,1,none⟩ (.bool p_on)).setCell ⟨g8,2,none⟩ (.int .i64 p_fr)).setCell ⟨g8,3,none⟩ (.int .i64 p_to)).setCell ⟨g8,4,none⟩ (.bool p_vi)).setCell ⟨g8,5,none⟩ (.int .i64 p_no)).setCell ⟨g8,6,none⟩ (.slice au np cu)) (ns SC k) (br4 w.heap.size g g2 #[.slice a0 l0 q0,.slice a1 l1 q1,.slice (some ⟨rb,0,none⟩) k c2,.slice a3 l3 q3,.int .i64 (dbNet S).uturn] #[.slice p0 s0 d0,.slice p1 s1 d1,.slice p2 s2 d2,.slice p3 s3 d3] g8 #[.int .i64 0,.bool p_on,.int .i64 p_fr,.int .i64 p_to,.bool p_vi,.int .i64 p_no,.slice au np cu])):=(show FR D b w (((((((wg.setCell ⟨g8,0,none⟩ (.int .i64 0)).setCell ⟨g8,1,none⟩ (.bool p_on)).setCell ⟨g8,2,none⟩ (.int .i64 p_fr)).setCell ⟨g8,3,none⟩ (.int .i64 p_to)).setCell ⟨g8,4,none⟩ (.bool p_vi)).setCell ⟨g8,5,none⟩ (.int .i64 p_no)).setCell ⟨g8,6,none⟩ (.slice au np cu)) (ns SC k) (br5 w.heap.size g g2 #[.slice a0 l0 q0,.slice a1 l1 q1,.slice (some ⟨rb,0,none⟩) k c2,.slice a3 l3 q3,.int .i64 (dbNet S).uturn] #[.slice p0 s0 d0,.slice p1 s1 d1,.slice p2 s2 d2,.slice p3 s3 d3] g8 #[.int .i64 0,.bool p_on,.int .i64 p_fr,.int .i64 p_to,.bool p_vi,.int .i64 p_no,.slice au np cu] g9 #[.int .i64 p_id,.bool p_on,.int .i64 p_fr,.int .i64 p_to,.bool p_vi,.int .i64 p_no,.slice ap np cp]) from H32.out.turn 3 rfl HCF.out BS).less 4
    have O33:Hid (ONt (w.heap.size+1) (((((((wg.setCell ⟨g8,0,none⟩ (.int .i64 0)).setCell ⟨g8,1,none⟩ (.bool p_on)).setCell ⟨g8,2,none⟩ (.int .i64 p_fr)).setCell ⟨g8,3,none⟩ (.int .i64 p_to)).setCell ⟨g8,4,none⟩ (.bool p_vi)).setCell ⟨g8,5,none⟩ (.int .i64 p_no)).setCell ⟨g8,6,none⟩ (.slice au np cu)) (.slice a0 l0 q0) (.slice a1 l1 q1) (.slice (some ⟨rb,0,none⟩) k c2) (.slice a3 l3 q3) (nW (dbNet S) rk) vn vw vr):=O32.out.turnBox BG (by decide) (λ_=>HV8.out) HCF.out
    have P33:Hid (OwnI wr.heap.size (((((((wg.setCell ⟨g8,0,none⟩ (.int .i64 0)).setCell ⟨g8,1,none⟩ (.bool p_on)).setCell ⟨g8,2,none⟩ (.int .i64 p_fr)).setCell ⟨g8,3,none⟩ (.int .i64 p_to)).setCell ⟨g8,4,none⟩ (.bool p_vi)).setCell ⟨g8,5,none⟩ (.int .i64 p_no)).setCell ⟨g8,6,none⟩ (.slice au np cu)) (.slice au np cu) p_wy):=H32.out.rowTurn 3 rfl P32.out HCF.out
    have K33:Hid (Chg (λx=>x<Cr) w4 (((((((wg.setCell ⟨g8,0,none⟩ (.int .i64 0)).setCell ⟨g8,1,none⟩ (.bool p_on)).setCell ⟨g8,2,none⟩ (.int .i64 p_fr)).setCell ⟨g8,3,none⟩ (.int .i64 p_to)).setCell ⟨g8,4,none⟩ (.bool p_vi)).setCell ⟨g8,5,none⟩ (.int .i64 p_no)).setCell ⟨g8,6,none⟩ (.slice au np cu))):=K32.out.young HCF.out (λx hx hl=>by have hx':x=g8:=hx;have:=HG8.out;omega)
    clear BS
    refine anyS_one (i:=15) (by kernel_rfl) (wpOpIn_step rfl (λK hK=>?_))
    go_simp
    refine hK _ _ ⟨Or.inl (by decide),?_⟩
    clear hK K
    refine anyS_done (by kernel_rfl) ?_ _
    clear hw hcl HSS BG x0 x1 x2 x3 x4 x5 x6 fz0 fz1 fz2 fz3 fz4 fz5 fz6 H31 O31 K31 H32 O32 K32 P32 H30 O30 K30 HCF
    generalize (((((((wg.setCell ⟨g8,0,none⟩ (.int .i64 0)).setCell ⟨g8,1,none⟩ (.bool p_on)).setCell ⟨g8,2,none⟩ (.int .i64 p_fr)).setCell ⟨g8,3,none⟩ (.int .i64 p_to)).setCell ⟨g8,4,none⟩ (.bool p_vi)).setCell ⟨g8,5,none⟩ (.int .i64 p_no)).setCell ⟨g8,6,none⟩ (.slice au np cu))=w33 at *
    have HO17:Hid (SOk (ns SC k)):=ns_ok HOC.out _
    clear H29 O29 K29
    go_wp2_with fail
    refine(l1Next_any D b (ns SC k) 3 w33 H33.out.src HO17.out (by omega)).mono ?_
    rintro e w34 ⟨rfl,hs1,hc1⟩
    have H34:=mkHid' (H33.out.drawn hs1 hc1)
    have O34:=mkHid' (O33.out.src H33.out.src hc1)
    have P34:=mkHid' (H33.out.rowDrawn P33.out hc1)
    have K34:Hid (Chg (λx=>x<Cr) w4 w34):=K33.out.trans (hc1.mono (λx hx=>by have hx':x=b:=hx;have:=HbL.out;have:=HC2.out;omega))
    clear hs1 hc1 H33 O33 P33 K33
    rw[<-H5C.out] at H34
    generalize nv (ns SC k) 3=dq3 at *
    by_cases hdq3:dq3=0
    ·have hzc:zz=⟨0,!p_on,p_fr,p_to,p_vi,p_no,p_wy⟩:=by rw[HZC.out,if_pos hdq3]
     have BG:BT w34 g8 #[.int .i64 0,.bool p_on,.int .i64 p_fr,.int .i64 p_to,.bool p_vi,.int .i64 p_no,.slice au np cu] 109:=H34.out.at 3 rfl
     have x1:=BG.blk.cell (i:=1) rfl
     have fz1:=BG.blk.frozen 1
     have H35:Hid (FR D b w (w34.setCell ⟨g8,1,none⟩ (.bool (!p_on))) S5 (br4 w.heap.size g g2 #[.slice a0 l0 q0,.slice a1 l1 q1,.slice (some ⟨rb,0,none⟩) k c2,.slice a3 l3 q3,.int .i64 (dbNet S).uturn] #[.slice p0 s0 d0,.slice p1 s1 d1,.slice p2 s2 d2,.slice p3 s3 d3] g8 #[.int .i64 0,.bool (!p_on),.int .i64 p_fr,.int .i64 p_to,.bool p_vi,.int .i64 p_no,.slice au np cu])):=H34.out.set 3 rfl 1 _
     have O35:Hid (ONt (w.heap.size+1) (w34.setCell ⟨g8,1,none⟩ (.bool (!p_on))) (.slice a0 l0 q0) (.slice a1 l1 q1) (.slice (some ⟨rb,0,none⟩) k c2) (.slice a3 l3 q3) (nW (dbNet S) rk) vn vw vr):=O34.out.turnBox BG (by decide) (λ_=>HV8.out) (Chg.set _ _ _ rfl)
     have P35:=mkHid' (H34.out.rowTurn 3 rfl P34.out (Chg.set g8 1 (.bool (!p_on)) rfl))
     have K35:Hid (Chg (λx=>x<Cr) w4 (w34.setCell ⟨g8,1,none⟩ (.bool (!p_on)))):=K34.out.young (Chg.set (S:=λx=>x=g8) _ _ _ rfl) (λx hx hl=>by have hx':x=g8:=hx;have:=HG8.out;omega)
     have HR:Hid (zz.ways.length=np/\FR D b w (w34.setCell ⟨g8,1,none⟩ (.bool (!p_on))) S5 (br4 w.heap.size g g2 #[.slice a0 l0 q0,.slice a1 l1 q1,.slice (some ⟨rb,0,none⟩) k c2,.slice a3 l3 q3,.int .i64 (dbNet S).uturn] #[.slice p0 s0 d0,.slice p1 s1 d1,.slice p2 s2 d2,.slice p3 s3 d3] g8 #[.int .i64 0,.bool zz.only,.int .i64 zz.frm,.int .i64 zz.to,.bool zz.via,.int .i64 zz.node,.slice au np cu])/\OwnI wr.heap.size (w34.setCell ⟨g8,1,none⟩ (.bool (!p_on))) (.slice au np cu) zz.ways):=by
      unfold Hid
      rw[hzc]
      exact⟨HPN.out,H35.out,P35.out⟩
     subst hdq3
     clear hzc H35 P35 BG HZC
     go_wp2
     go_meet
     exact⟨0,np,cu,au,HR.out.1,HR.out.2.1,O35,HR.out.2.2,K35⟩
    ·have hzc:zz=⟨0,p_on,p_fr,p_to,p_vi,p_no,p_wy⟩:=by rw[HZC.out,if_neg hdq3]
     have hdq3':(dq3==0)=false:=by simpa using hdq3
     have HR:Hid (zz.ways.length=np/\FR D b w w34 S5 (br4 w.heap.size g g2 #[.slice a0 l0 q0,.slice a1 l1 q1,.slice (some ⟨rb,0,none⟩) k c2,.slice a3 l3 q3,.int .i64 (dbNet S).uturn] #[.slice p0 s0 d0,.slice p1 s1 d1,.slice p2 s2 d2,.slice p3 s3 d3] g8 #[.int .i64 0,.bool zz.only,.int .i64 zz.frm,.int .i64 zz.to,.bool zz.via,.int .i64 zz.node,.slice au np cu])/\OwnI wr.heap.size w34 (.slice au np cu) zz.ways):=by
      unfold Hid
      rw[hzc]
      exact⟨HPN.out,H34.out,P34.out⟩
     clear hzc HZC hdq3
     go_wp2
     go_meet
     exact⟨0,np,cu,au,HR.out.1,HR.out.2.1,O34,HR.out.2.2,K34⟩
  case rest=>
  clear HZ HZ5 HSC HOC H12 O12 P12 K12 HYE HNL
  obtain⟨i1,nl,cv,av,HNL,H13,O13,P13,K13⟩:=hcut
  obtain⟨z1,z2,z3,z4,z5,z6,z7⟩:=zz
  simp only at HNL H13 P13 HSTEP ⊢
  have BG:BT wc g8 #[.int .i64 i1,.bool z2,.int .i64 z3,.int .i64 z4,.bool z5,.int .i64 z6,.slice av nl cv] 109:=H13.out.at 3 rfl
  have x0:=BG.blk.cell (i:=0) rfl
  have fz0:=BG.blk.frozen 0
  go_upto_region 20 with fail
  have H14:Hid (FR D b w (wc.setCell ⟨g8,0,none⟩ (.int .i64 idk)) S5 (br4 w.heap.size g g2 #[.slice a0 l0 q0,.slice a1 l1 q1,.slice a2 k c2,.slice a3 l3 q3,.int .i64 (dbNet S).uturn] #[.slice p0 s0 d0,.slice p1 s1 d1,.slice p2 s2 d2,.slice p3 s3 d3] g8 #[.int .i64 idk,.bool z2,.int .i64 z3,.int .i64 z4,.bool z5,.int .i64 z6,.slice av nl cv])):=H13.out.set 3 rfl 0 _
  have O14:Hid (ONt (w.heap.size+1) (wc.setCell ⟨g8,0,none⟩ (.int .i64 idk)) (.slice a0 l0 q0) (.slice a1 l1 q1) (.slice a2 k c2) (.slice a3 l3 q3) (nW (dbNet S) rk) vn vw vr):=O13.out.turnBox (show BT wc g8 #[.int .i64 i1,.bool z2,.int .i64 z3,.int .i64 z4,.bool z5,.int .i64 z6,.slice av nl cv] 109 from H13.out.at 3 rfl) (by decide) (λ_=>HV8.out) (Chg.set _ _ _ rfl)
  have P14:=mkHid' (H13.out.rowTurn 3 rfl P13.out (Chg.set g8 0 (.int .i64 idk) rfl))
  have K14:Hid (Chg (λx=>x<Cr) w4 (wc.setCell ⟨g8,0,none⟩ (.int .i64 idk))):=K13.out.young (Chg.set (S:=λx=>x=g8) _ _ _ rfl) (λx hx hl=>by have hx':x=g8:=hx;have:=HG8.out;omega)
  clear x0 fz0 BG H13 O13 P13 K13
  generalize wc.setCell ⟨g8,0,none⟩ (.int .i64 idk)=w14 at *
  have hv2:=nv_in HO5.out 2
  go_wp2_with fail
  refine(l1Next_any D b S5 2 w14 H14.out.src HO5.out (by omega)).mono ?_
  rintro e w15 ⟨rfl,hs1,hc1⟩
  have H15:=mkHid' (H14.out.drawn hs1 hc1)
  have O15:=mkHid' (O14.out.src H14.out.src hc1)
  have P15:=mkHid' (H14.out.rowDrawn P14.out hc1)
  have K15:Hid (Chg (λx=>x<Cr) w4 w15):=K14.out.trans (hc1.mono (λx hx=>by have hx':x=b:=hx;have:=HbL.out;have:=HC2.out;omega))
  clear hs1 hc1 H14 O14 P14 K14
  generalize nv S5 2=dd2 at *
  have HROW:Hid (w15.ownsRow (w.heap.size+1) 109 7 (.slice a2 k c2) k (rrow rk vr)):=by
   have h:=O15.out.rels
   unfold OwnRl at h
   replace h:w15.ownsRow (w.heap.size+1) 109 7 (.slice a2 k c2) rk.length (rrow rk vr):=h
   rw[HLR.out] at h
   exact h
  have nn2:w15.cell? ⟨g,2,none⟩=some (.slice a2 k c2):=(H15.out.at 1 rfl).blk.cell (i:=2) rfl
  have yy0:w15.cell? ⟨g8,0,none⟩=some (.int .i64 idk):=(H15.out.at 3 rfl).blk.cell (i:=0) rfl
  have yy1:w15.cell? ⟨g8,1,none⟩=some (.bool z2):=(H15.out.at 3 rfl).blk.cell (i:=1) rfl
  have yy2:w15.cell? ⟨g8,2,none⟩=some (.int .i64 z3):=(H15.out.at 3 rfl).blk.cell (i:=2) rfl
  have yy3:w15.cell? ⟨g8,3,none⟩=some (.int .i64 z4):=(H15.out.at 3 rfl).blk.cell (i:=3) rfl
  have yy4:w15.cell? ⟨g8,4,none⟩=some (.bool z5):=(H15.out.at 3 rfl).blk.cell (i:=4) rfl
  have yy5:w15.cell? ⟨g8,5,none⟩=some (.int .i64 z6):=(H15.out.at 3 rfl).blk.cell (i:=5) rfl
  have yy6:w15.cell? ⟨g8,6,none⟩=some (.slice av nl cv):=(H15.out.at 3 rfl).blk.cell (i:=6) rfl
  have hzr:w.heap.size+1<=w15.heap.size:=by have h1:=HC2.out;have h2:=HR4s.out;have h3:=K15.out.size;omega
  go_wp2_with (at_builtin;refine app_row infoRelE Tryz.underlying83 rfl (by decide) (by decide) rfl _ _ rfl (w.heap.size+1) k (.slice a2 k c2) (rrow rk vr) [.int .i64 idk,.bool z2,.int .i64 z3,.int .i64 z4,.bool z5,.int .i64 z6,.slice av nl cv] w15 rfl HROW.out rfl rfl (by intro u hu;simp at hu;rcases hu with rfl|rfl|rfl|rfl|rfl|rfl|rfl<;>rfl) (by omega) hzr ?_)
  intro a9 c9 w16 r1 r2 r3
  have H16:Hid (FR D b w w16 (ns S5 2) (br3 w.heap.size g g2 #[.slice a0 l0 q0,.slice a1 l1 q1,.slice a2 k c2,.slice a3 l3 q3,.int .i64 (dbNet S).uturn] #[.slice p0 s0 d0,.slice p1 s1 d1,.slice p2 s2 d2,.slice p3 s3 d3])):=by
   have hl:FR D b w w15 (ns S5 2) (br3 w.heap.size g g2 #[.slice a0 l0 q0,.slice a1 l1 q1,.slice a2 k c2,.slice a3 l3 q3,.int .i64 (dbNet S).uturn] #[.slice p0 s0 d0,.slice p1 s1 d1,.slice p2 s2 d2,.slice p3 s3 d3]):=H15.out.less 3
   refine hl.growX r2 (λp hp e=>?_) (λx hx=>?_) (λx hx=>?_)
   ·have hb:=(hl.bx p hp).1
    refine hb.neRow HROW.out ?_ e
    simp only[br3,List.mem_cons,List.not_mem_nil,or_false] at hp
    rcases hp with rfl|rfl|rfl<;>simp
   ·obtain⟨cs,hb⟩:=row_bt HROW.out hx.symm
    exact⟨cs,_,hb,by decide,by decide⟩
   ·have:=(own_lt HROW.out x hx.symm).1
    omega
  have O16:Hid (ONt (w.heap.size+1) w16 (.slice a0 l0 q0) (.slice a1 l1 q1) (.slice a9 (k+1) c9) (.slice a3 l3 q3) (nW (dbNet S) (rk++[⟨idk,z2,z3,z4,z5,z6,z7⟩])) vn vw (upd vr rk.length (.slice av nl cv))):=
   O15.out.addRel (z:=wr.heap.size) HIZ.out (x:=⟨idk,z2,z3,z4,z5,z6,z7⟩) (va:=.slice av nl cv) (by show w16.ownsRow _ _ 7 _ (rk.length+1) _;rw[HLR.out];exact r1) r2 P15.out HZC.out
  have K16:Hid (Chg (λx=>x<Cr) w4 w16):=K15.out.young r2 (λx hx hl=>by have:=HVk.out x hx.symm;omega)
  have HV16:Hid (∀y,(Value.slice a9 (k+1) c9).ownBlock=some y->w4.heap.size<=y):=λy hy=>(r3 y hy).elim (HVk.out y) (λh=>Nat.le_trans K15.out.size h)
  clear r1 r2 r3 nn2 yy0 yy1 yy2 yy3 yy4 yy5 yy6
  have BN:BT w16 g #[.slice a0 l0 q0,.slice a1 l1 q1,.slice a2 k c2,.slice a3 l3 q3,.int .i64 (dbNet S).uturn] 86:=H16.out.at 1 rfl
  have nn2:=BN.blk.cell (i:=2) rfl
  have fz2:=BN.blk.frozen 2
  have H17:Hid (FR D b w (w16.setCell ⟨g,2,none⟩ (.slice a9 (k+1) c9)) (ns S5 2) (br3 w.heap.size g g2 #[.slice a0 l0 q0,.slice a1 l1 q1,.slice a9 (k+1) c9,.slice a3 l3 q3,.int .i64 (dbNet S).uturn] #[.slice p0 s0 d0,.slice p1 s1 d1,.slice p2 s2 d2,.slice p3 s3 d3])):=H16.out.set 1 rfl 2 _
  have O17:=mkHid' (O16.out.turnBox BN (by decide) (λe=>absurd e (by decide)) (Chg.set g 2 (.slice a9 (k+1) c9) rfl))
  have K17:Hid (Chg (λx=>x<Cr) w4 (w16.setCell ⟨g,2,none⟩ (.slice a9 (k+1) c9))):=K16.out.trans (Chg.set g 2 (.slice a9 (k+1) c9) (show g<Cr from HG2.out))
  have HF1:Hid (FR D b w (w16.setCell ⟨g,2,none⟩ (.slice a9 (k+1) c9)) (rcTo (dbNet S) R x0 (k+1)).S (br3 w.heap.size g g2 #[.slice a0 l0 q0,.slice a1 l1 q1,.slice a9 (k+1) c9,.slice a3 l3 q3,.int .i64 (dbNet S).uturn] #[.slice p0 s0 d0,.slice p1 s1 d1,.slice p2 s2 d2,.slice p3 s3 d3])):=by unfold Hid;rw[HSTEP.out];exact H17.out
  have HF2:Hid (∃vr,ONt (w.heap.size+1) (w16.setCell ⟨g,2,none⟩ (.slice a9 (k+1) c9)) (.slice a0 l0 q0) (.slice a1 l1 q1) (.slice a9 (k+1) c9) (.slice a3 l3 q3) (nW (dbNet S) (rcTo (dbNet S) R x0 (k+1)).rels) vn vw vr):=by unfold Hid;rw[HSTEP.out];exact⟨_,O17.out⟩
  have HF3:Hid (idk+(1+dd2)=(rcTo (dbNet S) R x0 (k+1)).id):=by unfold Hid;rw[HSTEP.out]
  clear H16 O16 K16 H17 O17 H15 O15 P15 K15 HROW
  go_wp2
  go_roundw
  case rel=>exact⟨k+1,c9,a9,by omega,by go_num,by rw[HF3.out],HF1,HF2,K17,HV16⟩
  case measure=>simp[intOf];omega
 have hkc:k=cn:=by omega
 subst hkc
 rw[<-HXI.out] at Hk OLk ⊢
 obtain⟨vr,hOk⟩:=OLk.out
 have HRN:Hid (riNet S=nW (dbNet S) (riX S).rels):=by unfold Hid riNet;rw[HL1.out,if_neg hz]
 have HRS:Hid (riS S=(riX S).S):=by unfold Hid riS;rw[HL1.out,if_neg hz]
 have Ok:=mkHid' hOk
 clear hOk OLk hlt hk
 have nc0:wr.cell? ⟨g,0,none⟩=some (.slice a0 l0 q0):=(Hk.out.at 1 rfl).blk.cell (i:=0) rfl
 have nc1:wr.cell? ⟨g,1,none⟩=some (.slice a1 l1 q1):=(Hk.out.at 1 rfl).blk.cell (i:=1) rfl
 have nc2:wr.cell? ⟨g,2,none⟩=some (.slice a2 k c2):=(Hk.out.at 1 rfl).blk.cell (i:=2) rfl
 have nc3:wr.cell? ⟨g,3,none⟩=some (.slice a3 l3 q3):=(Hk.out.at 1 rfl).blk.cell (i:=3) rfl
 have nc4:wr.cell? ⟨g,4,none⟩=some (.int .i64 (dbNet S).uturn):=(Hk.out.at 1 rfl).blk.cell (i:=4) rfl
 have BR:BT wr w.heap.size #[.slice none 0 0,.slice none 0 0,.slice none 0 0,.slice none 0 0,.int .i64 0] 86:=Hk.out.at 0 rfl
 have x0:=BR.blk.cell (i:=0) rfl
 have fz0:=BR.blk.frozen 0
 have x1:=BR.blk.cell (i:=1) rfl
 have fz1:=BR.blk.frozen 1
 have x2:=BR.blk.cell (i:=2) rfl
 have fz2:=BR.blk.frozen 2
 have x3:=BR.blk.cell (i:=3) rfl
 have fz3:=BR.blk.frozen 3
 have x4:=BR.blk.cell (i:=4) rfl
 have fz4:=BR.blk.frozen 4
 have BS:=set5 (a0:=.slice a0 l0 q0) (a1:=.slice a1 l1 q1) (a2:=.slice a2 k c2) (a3:=.slice a3 l3 q3) (a4:=.int .i64 (dbNet S).uturn) BR
 have P0:Hid (_=some (Value.slice a0 l0 q0)):=BS.blk.cell (i:=0) rfl
 have P1:Hid (_=some (Value.slice a1 l1 q1)):=BS.blk.cell (i:=1) rfl
 have P2:Hid (_=some (Value.slice a2 k c2)):=BS.blk.cell (i:=2) rfl
 have P3:Hid (_=some (Value.slice a3 l3 q3)):=BS.blk.cell (i:=3) rfl
 have P4:Hid (_=some (Value.int .i64 (dbNet S).uturn)):=BS.blk.cell (i:=4) rfl
 have HCF:Hid (Chg (λx=>x=w.heap.size) wr (((((wr.setCell ⟨w.heap.size,0,none⟩ (.slice a0 l0 q0)).setCell ⟨w.heap.size,1,none⟩ (.slice a1 l1 q1)).setCell ⟨w.heap.size,2,none⟩ (.slice a2 k c2)).setCell ⟨w.heap.size,3,none⟩ (.slice a3 l3 q3)).setCell ⟨w.heap.size,4,none⟩ (.int .i64 (dbNet S).uturn))):=chg5
 have HBS:=mkHid' BS
 clear BS BR
 go_wp2
 generalize hWF:(((((wr.setCell ⟨w.heap.size,0,none⟩ (.slice a0 l0 q0)).setCell ⟨w.heap.size,1,none⟩ (.slice a1 l1 q1)).setCell ⟨w.heap.size,2,none⟩ (.slice a2 k c2)).setCell ⟨w.heap.size,3,none⟩ (.slice a3 l3 q3)).setCell ⟨w.heap.size,4,none⟩ (.int .i64 (dbNet S).uturn))=wF at P0 P1 P2 P3 P4 HBS HCF ⊢
 have p0_:=P0.out
 have p1_:=P1.out
 have p2_:=P2.out
 have p3_:=P3.out
 have p4_:=P4.out
 refine bodyPost_ret (v:=.agg #[.slice a0 l0 q0,.slice a1 l1 q1,.slice a2 k c2,.slice a3 l3 q3,.int .i64 (dbNet S).uturn]) (by simp[results,Tryz.results47,go_sem,p0_,p1_,p2_,p3_,p4_]) rfl ?_
 have hF:=Hk.out.turn 0 rfl HCF.out HBS.out
 have hO:=Ok.out.turnBox (show BT wr w.heap.size #[.slice none 0 0,.slice none 0 0,.slice none 0 0,.slice none 0 0,.int .i64 0] 86 from Hk.out.at 0 rfl) (by decide) (λe=>absurd e (by decide)) HCF.out
 rw[HRN.out,HRS.out]
 exact⟨_,_,_,_,_,_,_,rfl,hO,hF.src,hF.chg⟩
theorem eq_sorted:∀{a b:List Nat},a.Pairwise (·<·)->b.Pairwise (·<·)->(∀x,x∈a↔x∈b)->a=b
 |[],[],_,_,_=>rfl
 |[],y::ys,_,_,h=>absurd ((h y).2 (by simp)) (by simp)
 |x::xs,[],_,_,h=>absurd ((h x).1 (by simp)) (by simp)
 |x::xs,y::ys,ha,hb,h=>by
  obtain⟨a1,a2⟩:=List.pairwise_cons.1 ha
  obtain⟨b1,b2⟩:=List.pairwise_cons.1 hb
  have e:x=y:=by
   rcases List.mem_cons.1 ((h x).1 (by simp)) with e|hx
   ·exact e
   ·rcases List.mem_cons.1 ((h y).2 (by simp)) with e|hy
    ·exact e.symm
    ·have:=a1 y hy
     have:=b1 x hx
     omega
  subst e
  congr 1
  refine eq_sorted a2 b2 λz=>⟨λhz=>?_,λhz=>?_⟩
  ·rcases List.mem_cons.1 ((h z).1 (List.mem_cons_of_mem _ hz)) with e|q
   ·have:=a1 z hz
    omega
   ·exact q
  ·rcases List.mem_cons.1 ((h z).2 (List.mem_cons_of_mem _ hz)) with e|q
   ·have:=b1 z hz
    omega
   ·exact q
theorem filter_seq {p:Nat->Bool}{f:Nat->Nat}{n M:Nat}(hm:∀a b,a<b->b<n->f a<f b)(hl:∀a,a<n->f a<M)(hp:∀a,a<n->p (f a)=true)(hq:∀e,e<M->p e=true->∃a,a<n/\e=f a):(List.range M).filter p=(List.range n).map f:=by
 refine eq_sorted (List.pairwise_lt_range.filter _) ?_ λx=>?_
 ·rw[List.pairwise_map]
  refine List.pairwise_iff_getElem.2 λi j hi hj hij=>?_
  rw[List.length_range] at hj
  simp only[List.getElem_range]
  exact hm i j hij hj
 ·rw[List.mem_filter,List.mem_range,List.mem_map]
  constructor
  ·rintro⟨h1,h2⟩
   obtain⟨a,ha,e⟩:=hq x h1 h2
   exact⟨a,List.mem_range.2 ha,e.symm⟩
  ·rintro⟨a,ha,rfl⟩
   have ha':=List.mem_range.1 ha
   exact⟨hl a ha',hp a ha'⟩
def plc (N:Nt)(i j q:Nat):Nat:=st (nsN N) (bnN N) i+bnN N i*j+q
theorem bn_in (N:Nt)(i:Nat):bnN N i=1\/bnN N i=2:=by unfold bnN;split<;>simp
theorem plc_lt {N:Nt}{i a b q:Nat}(h:a<b):plc N i a q<plc N i b q:=by
 unfold plc
 have h1:bnN N i*(a+1)<=bnN N i*b:=Nat.mul_le_mul_left _ h
 rw[Nat.mul_succ] at h1
 rcases bn_in N i with e|e<;>omega
def nod (N:Nt)(i j:Nat):Int:=pos N.nodes (iat (wat N.ways i).nodes j)
theorem edge_at {N:Nt}{i j q:Nat}(hi:i<N.ways.length)(hj:j<nsN N i)(hq:q<bnN N i):plc N i j q<(E1 N).length/\(eat (E1 N) (plc N i j q)).way=i/\(eat (E1 N) (plc N i j q)).back=decide (q=1)/\(eat (E1 N) (plc N i j q)).tail=nod N i (j+q)/\(eat (E1 N) (plc N i j q)).head=nod N i (j+1-q):=by
 obtain⟨_,a1⟩:=at_place hi hj hq
 refine⟨by rw[E1_len];exact st_in hi hj hq,?_⟩
 unfold plc
 rw[a1]
 rcases bn_in N i with e|e
 ·have q0:q=0:=by omega
  subst q0
  rw[if_pos e]
  exact⟨rfl,rfl,rfl,rfl⟩
 ·rw[if_neg (by omega)]
  rcases (show q=0\/q=1 by omega) with rfl|rfl
  ·rw[if_pos rfl]
   exact⟨rfl,rfl,rfl,rfl⟩
  ·rw[if_neg (by omega)]
   exact⟨rfl,rfl,rfl,rfl⟩
theorem way_seq {N:Nt}{i q:Nat}(hi:i<N.ways.length)(hq:q<bnN N i):(List.range (E1 N).length).filter (λe=>wayIs (E1 N) i e&&((eat (E1 N) e).back==decide (q=1)))=(List.range (nsN N i)).map λj=>plc N i j q:=by
 refine filter_seq (λa b h _=>plc_lt h) (λa ha=>(edge_at hi ha hq).1) (λa ha=>?_) (λe he hp=>?_)
 ·obtain⟨_,h1,h2,_⟩:=edge_at hi ha hq
  simp[wayIs,h1,h2]
 ·rw[E1_len] at he
  obtain⟨i',j,q',hi',hj,hq',rfl⟩:=lay_of N.ways.length he
  obtain⟨_,h1,h2,_⟩:=edge_at hi' hj hq'
  unfold plc at h1 h2
  simp only[wayIs,h1,h2,Bool.and_eq_true,decide_eq_true_eq,beq_iff_eq] at hp
  have ei:i'=i:=by omega
  subst ei
  have eq:q'=q:=by
   have h3:=hp.2
   rcases bn_in N i' with e|e
   ·omega
   ·rcases (show q'=0\/q'=1 by omega) with rfl|rfl<;>rcases (show q=0\/q=1 by omega) with rfl|rfl<;>simp at h3 ⊢
  subst eq
  exact⟨j,hj,rfl⟩
theorem th_seq {N:Nt}{i:Nat}(hi:i<N.ways.length):thTo (E1 N) i (E1 N).length=(List.range (nsN N i)).map λj=>plc N i j 0:=by
 rw[<-way_seq hi (by rcases bn_in N i with e|e<;>omega)]
 unfold thTo
 congr 1
 funext e
 cases (eat (E1 N) e).back<;>simp
theorem bk_seq {N:Nt}{i:Nat}(hi:i<N.ways.length)(hb:(wat N.ways i).both=true):bkTo (E1 N) i (E1 N).length=((List.range (nsN N i)).map λj=>plc N i j 1).reverse:=by
 rw[<-way_seq hi (by unfold bnN;rw[if_pos hb];omega)]
 unfold bkTo
 congr 2
 funext e
 cases (eat (E1 N) e).back<;>simp
def Jn (es:List Eg)(l:List Nat):Prop:=∀u a b,l[u]?=some a->l[u+1]?=some b->(eat es a).head=(eat es b).tail
theorem at_last {l:List Nat}(h:l≠[]):l[l.length-1]?=some (l.getLastD 0):=by
 rw[<-List.getLast?_eq_getElem?]
 cases l with
 |nil=>exact absurd rfl h
 |cons a l=>rw[List.getLast?_cons,List.getLastD_cons,List.getLastD_eq_getLast?]
theorem at_head {l:List Nat}(h:l≠[]):l[0]?=some (l.headD 0):=by
 cases l with
 |nil=>exact absurd rfl h
 |cons a l=>rfl
theorem Jn.app {es:List Eg}{l p:List Nat}(hl:Jn es l)(hp:Jn es p)(nl:l≠[])(np:p≠[])(h:hdL es l=tlL es p):Jn es (l++p):=by
 have l0:0<l.length:=List.length_pos_iff.2 nl
 intro u a b ha hb
 rcases Nat.lt_trichotomy (u+1) l.length with c|c|c
 ·rw[List.getElem?_append_left (by omega)] at ha
  rw[List.getElem?_append_left c] at hb
  exact hl u a b ha hb
 ·rw[List.getElem?_append_left (by omega),show u=l.length-1 by omega,at_last nl] at ha
  rw[List.getElem?_append_right (by omega),show u+1-l.length=0 by omega,at_head np] at hb
  have e1:=Option.some.inj ha
  have e2:=Option.some.inj hb
  unfold hdL tlL at h
  rw[<-e1,<-e2]
  exact h
 ·rw[List.getElem?_append_right (by omega)] at ha hb
  rw[show u+1-l.length=u-l.length+1 by omega] at hb
  exact hp _ a b ha hb
theorem seq_at {n u a:Nat}{f:Nat->Nat}(h:((List.range n).map f)[u]?=some a):u<n/\a=f u:=by
 rw[List.getElem?_map] at h
 by_cases hu:u<n
 ·rw[List.getElem?_range hu] at h
  exact⟨hu,(Option.some.inj h).symm⟩
 ·rw[List.getElem?_eq_none (by rw[List.length_range];omega)] at h
  simp at h
theorem trav_ok {N:Nt}{i:Nat}(hi:i<N.ways.length)(h1:1<=nsN N i):∀p∈travs N (E1 N) i,p≠[]/\p.length=nsN N i/\(∀e∈p,e<(E1 N).length)/\Jn (E1 N) p:=by
 have one:∀q,q<bnN N i->∀e∈(List.range (nsN N i)).map (λj=>plc N i j q),e<(E1 N).length:=λq hq e he=>by
  obtain⟨j,hj,rfl⟩:=List.mem_map.1 he
  exact(edge_at hi (List.mem_range.1 hj) hq).1
 have ne:∀{p:List Nat},p.length=nsN N i->p≠[]:=λhl e=>by
  rw[e] at hl
  simp at hl
  omega
 intro p hp
 unfold travs at hp
 rcases List.mem_append.1 hp with g|g
 ·have e:p=thTo (E1 N) i (E1 N).length:=by simpa using g
  rw[e,th_seq hi]
  have hq:0<bnN N i:=by rcases bn_in N i with e|e<;>omega
  refine⟨ne (by simp),by simp,one 0 hq,λu a b ha hb=>?_⟩
  obtain⟨ua,rfl⟩:=seq_at ha
  obtain⟨ub,rfl⟩:=seq_at hb
  rw[(edge_at hi ua hq).2.2.2.2,(edge_at hi ub hq).2.2.2.1]
  rfl
 ·split at g
  ·rename_i hb
   have e:p=bkTo (E1 N) i (E1 N).length:=by simpa using g
   rw[e,bk_seq hi hb]
   have hq:1<bnN N i:=by unfold bnN;rw[if_pos hb];omega
   refine⟨ne (by simp),by simp,λe he=>one 1 hq e (List.mem_reverse.1 he),λu a b ha hb=>?_⟩
   have hu:u+1<((List.range (nsN N i)).map λj=>plc N i j 1).length:=by
    have:=(List.getElem?_eq_some_iff.1 hb).1
    rw[List.length_reverse] at this
    exact this
   rw[List.getElem?_reverse (by omega)] at ha
   rw[List.getElem?_reverse hu] at hb
   rw[List.length_map,List.length_range] at ha hb hu
   obtain⟨ua,rfl⟩:=seq_at ha
   obtain⟨ub,rfl⟩:=seq_at hb
   rw[(edge_at hi ua hq).2.2.2.2,(edge_at hi ub hq).2.2.2.1]
   congr 1
   omega
  ·simp at g
theorem growL_mem {es:List Eg}{ls ps:List (List Nat)}{l:List Nat}(h:l∈growL es ls ps):∃a∈ls,∃p∈ps,hdL es a=tlL es p/\l=a++p:=by
 unfold growL at h
 obtain⟨a,ha,h1⟩:=List.mem_flatMap.1 h
 obtain⟨p,hp,e⟩:=List.mem_map.1 h1
 obtain⟨hp1,hp2⟩:=List.mem_filter.1 hp
 exact⟨a,ha,p,hp1,by simpa using hp2,e.symm⟩
structure Ch (N:Nt)(r:Rl)(n:Nat)(l:List Nat):Prop where
 ne:l≠[]
 len:l.length=n
 lt:∀e∈l,e<(E1 N).length
 jn:Jn (E1 N) l
 hd:(eat (E1 N) (l.headD 0)).way=(wpos N.ways r.frm:Int)
theorem Ch.app {N:Nt}{r:Rl}{n:Nat}{l p:List Nat}(h:Ch N r n l)(np:p≠[])(hp:∀e∈p,e<(E1 N).length)(jp:Jn (E1 N) p)(e:hdL (E1 N) l=tlL (E1 N) p):Ch N r (n+p.length) (l++p):=by
 refine⟨λq=>h.ne (List.append_eq_nil_iff.1 q).1,by rw[List.length_append,h.len],λx hx=>?_,h.jn.app jp h.ne np e,?_⟩
 ·rcases List.mem_append.1 hx with g|g
  ·exact h.lt x g
  ·exact hp x g
 ·have e2:(l++p).headD 0=l.headD 0:=by
   cases hl:l with
   |nil=>exact absurd hl h.ne
   |cons a l=>rfl
  rw[e2]
  exact h.hd
theorem one_ch {N:Nt}{r:Rl}{e:Nat}(he:e∈firstsR N (E1 N) r):Ch N r 1 [e]:=by
 unfold firstsR ofTo at he
 obtain⟨h1,h2⟩:=List.mem_filter.1 he
 refine⟨by simp,rfl,λx hx=>?_,λu a b _ hb=>by simp at hb,?_⟩
 ·have:x=e:=by simpa using hx
  rw[this]
  exact List.mem_range.1 h1
 ·unfold wayIs at h2
  simpa using h2
def smW (N:Nt)(ways:List Int):Nat->Nat
 |0=>0
 |t+1=>smW N ways t+nsN N (wpos N.ways (iat ways t))
theorem growW_ch {N:Nt}{r:Rl}(h1:∀i,i<N.ways.length->1<=nsN N i)(hw:∀k,k<r.ways.length->hasW N.ways (iat r.ways k)=true):∀k,k<=r.ways.length->∀l∈growW N (E1 N) r k,Ch N r (1+smW N r.ways k) l
 |0,_,l,hl=>by
  have hl':l∈sing (firstsR N (E1 N) r):=hl
  obtain⟨e,he,rfl⟩:=List.mem_map.1 hl'
  exact one_ch he
 |k+1,hk,l,hl=>by
  rw[growW_succ (by omega)] at hl
  obtain⟨a,ha,p,hp,e,rfl⟩:=growL_mem hl
  have h2:=growW_ch h1 hw k (by omega) a ha
  have h3:=wpos_lt (hw k (by omega))
  obtain⟨t1,t2,t3,t4⟩:=trav_ok h3 (h1 _ h3) p hp
  have h4:=h2.app t1 t3 t4 e
  rw[t2,Nat.add_assoc] at h4
  exact h4
def szIn (ws:List Wy)(id:Int)(a:Nat):Nat->Nat
 |0=>a
 |v+1=>if (wat ws v).id=id then szIn ws id a v+(wat ws v).weights.length else szIn ws id a v
def szTo (ws:List Wy)(ways:List Int):Nat->Nat
 |0=>2
 |u+1=>szIn ws (iat ways u) (szTo ws ways u) ws.length
theorem szIn_eq {ws:List Wy}{id:Int}{a:Nat}(hm:∀i j,i<j->j<ws.length->(wat ws i).id<(wat ws j).id)(hh:hasW ws id=true):∀v,v<=ws.length->szIn ws id a v=if wpos ws id<v then a+(wat ws (wpos ws id)).weights.length else a
 |0,_=>by simp[szIn]
 |v+1,hv=>by
  have h1:=wpos_lt hh
  have h2:=wpos_id hh
  unfold szIn
  rw[szIn_eq hm hh v (by omega)]
  rcases Nat.lt_trichotomy (wpos ws id) v with c|c|c
  ·have:=hm _ _ c (by omega)
   rw[if_neg (by omega),if_pos c,if_pos (by omega)]
  ·subst c
   rw[if_pos h2,if_neg (by omega),if_pos (by omega)]
  ·have:=hm _ _ c h1
   rw[if_neg (by omega),if_neg (by omega),if_neg (by omega)]
theorem szTo_eq {N:Nt}{ways:List Int}(hm:∀i j,i<j->j<N.ways.length->(wat N.ways i).id<(wat N.ways j).id)(hw:∀k,k<ways.length->hasW N.ways (iat ways k)=true):∀u,u<=ways.length->szTo N.ways ways u=2+smW N ways u
 |0,_=>rfl
 |u+1,hu=>by
  have h:=hw u (by omega)
  unfold szTo
  rw[szIn_eq hm h _ (Nat.le_refl _),if_pos (wpos_lt h),szTo_eq hm hw u (by omega)]
  show _=2+(smW N ways u+nsN N (wpos N.ways (iat ways u)))
  unfold nsN
  omega
structure Acc (N:Nt)(r:Rl)(q:List Int):Prop where
 len:q.length=szTo N.ways r.ways r.ways.length
 two:2<=q.length
 big:q.length<=100000
 inn:∀u,u<q.length->0<=iat q u/\iat q u<(E1 N).length
 join:∀u,u+1<q.length->(eat (E1 N) (iat q u).toNat).head=(eat (E1 N) (iat q (u+1)).toNat).tail
 frm:∃i,i<N.ways.length/\(eat (E1 N) (iat q 0).toNat).way=(i:Int)/\(wat N.ways i).id=r.frm
 dst:∃i,i<N.ways.length/\(eat (E1 N) (iat q (q.length-1)).toNat).way=(i:Int)/\(wat N.ways i).id=r.to
 via:r.via=true->iat N.nodes (eat (E1 N) (iat q 0).toNat).head.toNat=r.node
theorem nums_at {l:List Nat}{u:Nat}(hu:u<l.length):∃e,l[u]?=some e/\iat (nums l) u=(e:Int):=by
 refine⟨l[u],List.getElem?_eq_getElem hu,?_⟩
 rw[iat_eq (by rw[nums_len];exact hu)]
 simp[nums]
theorem ch_acc {N:Nt}{r:Rl}{n b:Nat}{l:List Nat}(hc:Ch N r n l)(hb:b∈lastsR N (E1 N) r)(he:hdL (E1 N) l=tlL (E1 N) [b])(hf:hasW N.ways r.frm=true)(ht:hasW N.ways r.to=true)(hn:n+1=szTo N.ways r.ways r.ways.length)(hbig:n+1<=100000)(hv:r.via=true->iat N.nodes (eat (E1 N) (l.headD 0)).head.toNat=r.node):Acc N r (nums (l++[b])):=by
 unfold lastsR ofTo at hb
 obtain⟨b1,b2⟩:=List.mem_filter.1 hb
 have bl:=List.mem_range.1 b1
 have bw:(eat (E1 N) b).way=(wpos N.ways r.to:Int):=by unfold wayIs at b2;simpa using b2
 have h:=hc.app (p:=[b]) (by simp) (λe q=>by have e2:e=b:=(by simpa using q);rw[e2];exact bl) (λu a c _ q=>by simp at q) he
 have hl:(l++[b]).length=n+1:=h.len
 have n1:1<=n:=by
  have:=List.length_pos_iff.2 hc.ne
  have:=hc.len
  omega
 have h0:(l++[b])[0]?=some (l.headD 0):=by
  rw[List.getElem?_append_left (by have:=hc.len;omega)]
  exact at_head hc.ne
 have z0:iat (nums (l++[b])) 0=((l.headD 0:Nat):Int):=by
  obtain⟨e,e1,e2⟩:=nums_at (l:=l++[b]) (u:=0) (by omega)
  rw[h0] at e1
  rw[e2,Option.some.inj e1]
 have zl:iat (nums (l++[b])) (n+1-1)=(b:Int):=by
  obtain⟨e,e1,e2⟩:=nums_at (l:=l++[b]) (u:=n) (by omega)
  rw[List.getElem?_append_right (by rw[hc.len];exact Nat.le_refl _),hc.len,Nat.sub_self] at e1
  rw[Nat.add_sub_cancel,e2]
  simp at e1
  rw[e1]
 refine⟨by rw[nums_len,hl,hn],by rw[nums_len,hl];omega,by rw[nums_len,hl];exact hbig,λu hu=>?_,λu hu=>?_,⟨_,wpos_lt hf,?_,wpos_id hf⟩,⟨_,wpos_lt ht,?_,wpos_id ht⟩,λe=>?_⟩
 ·rw[nums_len] at hu
  obtain⟨e,e1,e2⟩:=nums_at hu
  have:=h.lt e (List.mem_of_getElem? e1)
  rw[e2]
  omega
 ·rw[nums_len] at hu
  obtain⟨e,e1,e2⟩:=nums_at (l:=l++[b]) (u:=u) (by omega)
  obtain⟨f,f1,f2⟩:=nums_at hu
  rw[e2,f2,Int.toNat_natCast,Int.toNat_natCast]
  exact h.jn u e f e1 f1
 ·rw[z0,Int.toNat_natCast]
  exact hc.hd
 ·rw[nums_len,hl,zl,Int.toNat_natCast]
  exact bw
 ·rw[z0,Int.toNat_natCast]
  exact hv e
theorem acc_of {N:Nt}(hv:implValid N=true){k:Nat}(hk:k<N.rels.length){l:List Nat}(h:l∈chainsR N N.nodes (E1 N) (rat N.rels k)):Acc N (rat N.rels k) (nums l):=by
 have hr:=rels_in hv
 have h1:∀i,i<N.ways.length->1<=nsN N i:=hr.one
 have hI:=all_in hv k hk
 have hm:∀i j,i<j->j<N.ways.length->(wat N.ways i).id<(wat N.ways j).id:=asc_mono (f:=λi=>(wat N.ways i).id) (λi j=>rfl) hr.ascw
 have hG:=hr.rel k hk
 have hE:=E1_le (road_in hv)
 generalize rat N.rels k=r at *
 have hwv:r.via=true->r.ways=[]:=λe=>by
  simp only[relGood,Bool.and_eq_true] at hG
  obtain⟨_,_,_,hT⟩:=hG
  unfold relTail at hT
  rw[if_pos e] at hT
  simp at hT
  exact hT.1
 have hsz:=szTo_eq hm hI.ways r.ways.length (Nat.le_refl _)
 have big:∀t,t<=r.ways.length->smW N r.ways t<=4000*t:=λt=>by
  induction t with
  |zero=>intro _;simp[smW]
  |succ t ih=>
   intro ht
   have a:=ih (by omega)
   have b:nsN N (wpos N.ways (iat r.ways t))<=4000:=by
    have hw:=wpos_lt (hI.ways t (by omega))
    have e:=th_seq hw
    have e2:=thTo_len (E1 N) (wpos N.ways (iat r.ways t)) (E1 N).length
    rw[nums_len,e,List.length_map,List.length_range] at e2
    omega
   show smW N r.ways t+nsN N _<=_
   omega
 have hb4:=big r.ways.length (Nat.le_refl _)
 have hl4:=hI.len
 unfold chainsR at h
 split at h
 ·rename_i e
  obtain⟨a,ha,p,hp,ej,rfl⟩:=growL_mem h
  obtain⟨x,hx,rfl⟩:=List.mem_map.1 ha
  obtain⟨b,hb,rfl⟩:=List.mem_map.1 hp
  obtain⟨x1,x2⟩:=List.mem_filter.1 hx
  refine ch_acc (n:=1) (one_ch x1) hb ej hI.frm hI.dst ?_ (by omega) (λ_=>?_)
  ·rw[hwv e];rfl
  ·unfold atNode at x2
   simpa using x2
 ·rename_i e
  obtain⟨a,ha,p,hp,ej,rfl⟩:=growL_mem h
  obtain⟨b,hb,rfl⟩:=List.mem_map.1 hp
  refine ch_acc (growW_ch h1 hI.ways _ (Nat.le_refl _) a ha) hb ej hI.frm hI.dst ?_ (by omega) (λq=>absurd q e)
  rw[hsz]
  omega
def rtN (N:Nt)(k:Nat):Rs:=resTo (chOf N (roadY N)) N.rels k
theorem rt_of {N:Nt}(hv:implValid N=true):resOf N=rtN N N.rels.length:=by unfold resOf;rw[if_pos hv];rfl
theorem rt_step {N:Nt}(hv:implValid N=true){k:Nat}(hk:k<N.rels.length) :
  (∃d,rtN N (k+1)=⟨(rtN N k).rules,(rtN N k).drops++[⟨(rat N.rels k).id,d⟩]⟩) \/
  ∃q,rtN N (k+1)=⟨(rtN N k).rules++[⟨(rat N.rels k).id,(rat N.rels k).only,q⟩],(rtN N k).drops⟩/\Acc N (rat N.rels k) q/\rpt (rtN N k).rules (rat N.rels k).only q=false:=by
 have e0:rtN N (k+1)=resStep (rtN N k) (rat N.rels k) (chOf N (roadY N) (rat N.rels k)):=rfl
 have hin:∀l∈chOf N (roadY N) (rat N.rels k),Acc N (rat N.rels k) (nums l):=λl hl=>acc_of hv hk hl
 rw[e0]
 generalize chOf N (roadY N) (rat N.rels k)=ch at *
 unfold resStep
 by_cases e:reason (rtN N k).rules (rat N.rels k).only ch=0
 ·rw[if_pos e]
  unfold reason at e
  by_cases c0:ch.length=0
  ·rw[if_pos c0] at e;omega
  ·by_cases c1:1<ch.length
   ·rw[if_neg c0,if_pos c1] at e;omega
   ·rw[if_neg c0,if_neg c1] at e
    refine Or.inr ⟨_,rfl,hin _ (lsat_mem (by omega)),?_⟩
    cases hr:rpt (rtN N k).rules (rat N.rels k).only (nums (lsat ch 0))
    ·rfl
    ·rw[hr] at e
     simp at e
 ·rw[if_neg e]
  exact Or.inl ⟨_,rfl⟩
theorem ri_few {S:Src}(h:SOk S):SOk (riS S)/\(riNet S).ways.length<=12/\(∀i,i<(riNet S).ways.length->(wat (riNet S).ways i).weights.length<=3)/\(riNet S).rels.length<=10:=by
 obtain⟨h1,h2,h3,h4⟩:=dbNet_in h
 have m3:(dbNet S).rels=[]:=rfl
 unfold riNet riS
 by_cases e:(dbNet S).ways.length=0
 ·rw[if_pos e,if_pos e]
  exact⟨h1,h3,h4,by rw[m3];simp⟩
 ·rw[if_neg e,if_neg e]
  have hz:=h1.size
  have o2:SOk (riS2 S):=ns_ok (ns_ok h1 _) _
  have v2:=nv_in o2 3
  have v1:=nv_in h1 (2+(dbS S).size)
  obtain⟨T,hT⟩:∃T,T=riS2 S:=⟨_,rfl⟩
  rw[<-hT] at o2 v2
  have q0:RcOk 0 (ns T 3).size ⟨ns T 3,nv T 3,[]⟩:=⟨ns_ok o2 3,Eq.refl _,by show 0<=nv T 3/\nv T 3<=3+2*((0:Nat):Int);have:=v2.2 (by omega);omega,Eq.refl _,λr hr=>by simp at hr⟩
  have q:RcOk (riCount S).toNat (ns T 3).size (riX S):=by
   unfold riX
   rw[<-hT]
   exact rcTo_ok q0 _
  have hc:riCount S<=10:=by
   unfold riCount
   have:=v1.2 (by omega)
   split<;>omega
  have hl:(riX S).rels.length=(riCount S).toNat:=q.len
  generalize riX S=RX at q hl ⊢
  exact⟨q.ok,h3,h4,by show RX.rels.length<=10;omega⟩
theorem wsum_3 (ws:List Wy):∀k,(∀i,i<k->(wat ws i).weights.length<=3)->wsum ws k<=3*k
 |0,_=>Nat.le_refl _
 |k+1,h=>by
  have h1:=wsum_3 ws k (λi hi=>h i (by omega))
  have h2:=h k (by omega)
  show wsum ws k+(wat ws k).weights.length<=_
  omega
structure RGd (n M:Nat)(rs:List Ru):Prop where
 len:rs.length<=n
 each:∀r∈rs,2<=r.seq.length/\r.seq.length<=M/\∀x∈r.seq,0<=x/\x<4000
theorem RGd.nil (n M:Nat):RGd n M []:=⟨Nat.zero_le _,λr hr=>by simp at hr⟩
theorem RGd.snoc {n M:Nat}{rs:List Ru}{x:Ru}(h:RGd n M rs)(h1:2<=x.seq.length)(h2:x.seq.length<=M)(h3:∀y∈x.seq,0<=y/\y<4000):RGd (n+1) M (rs++[x]):=by
 refine⟨by rw[List.length_append];simp;exact h.len,λr hr=>?_⟩
 rcases List.mem_append.1 hr with g|g
 ·exact h.each r g
 ·have e:r=x:=by simpa using g
  subst e
  exact⟨h1,h2,h3⟩
theorem RGd.up {n n' M M':Nat}{rs:List Ru}(h:RGd n M rs)(h1:n<=n')(h2:M<=M'):RGd n' M' rs:=
 ⟨Nat.le_trans h.len h1,λr hr=>by have:=h.each r hr;exact⟨this.1,by omega,this.2.2⟩⟩
theorem smW_le {N:Nt}{ways:List Int}(h:∀i,i<N.ways.length->(wat N.ways i).weights.length<=3)(hw:∀k,k<ways.length->hasW N.ways (iat ways k)=true):∀t,t<=ways.length->smW N ways t<=3*t
 |0,_=>Nat.le_refl _
 |t+1,ht=>by
  have a:=smW_le h hw t (by omega)
  have b:nsN N (wpos N.ways (iat ways t))<=3:=h _ (wpos_lt (hw t (by omega)))
  show smW N ways t+nsN N _<=_
  omega
theorem rt_good {N:Nt}(hv:implValid N=true)(h3:∀i,i<N.ways.length->(wat N.ways i).weights.length<=3):∀k,k<=N.rels.length->RGd k 14 (rtN N k).rules
 |0,_=>RGd.nil _ _
 |k+1,hk=>by
  have ih:=rt_good hv h3 k (by omega)
  rcases rt_step hv (k:=k) (by omega) with⟨d,e⟩|⟨q,e,hA,-⟩
  ·rw[e]
   exact ih.up (Nat.le_succ _) (Nat.le_refl _)
  ·rw[e]
   have hr:=rels_in hv
   have hI:=all_in hv k (by omega)
   have hm:∀i j,i<j->j<N.ways.length->(wat N.ways i).id<(wat N.ways j).id:=asc_mono (f:=λi=>(wat N.ways i).id) (λi j=>rfl) hr.ascw
   have hsz:=szTo_eq hm hI.ways (rat N.rels k).ways.length (Nat.le_refl _)
   have hs:=smW_le h3 hI.ways (rat N.rels k).ways.length (Nat.le_refl _)
   have hl:=hI.len
   have hE:=E1_le (road_in hv)
   have hq:=hA.len
   refine ih.snoc hA.two (by show q.length<=14;omega) (λy hy=>?_)
   have hy':y∈q:=hy
   obtain⟨u,hu,e2⟩:=List.getElem_of_mem hy'
   have:=hA.inn u hu
   rw[iat_eq hu,e2] at this
   omega
theorem res_good {S:Src}(h:SOk S):RGd 10 14 (resOf (riNet S)).rules:=by
 obtain⟨h1,h2,h3,h4⟩:=ri_few h
 by_cases hv:implValid (riNet S)=true
 ·rw[rt_of hv]
  exact(rt_good hv h3 _ (Nat.le_refl _)).up h4 (Nat.le_refl _)
 ·have e:(resOf (riNet S)).rules=[]:=by unfold resOf;rw[if_neg hv]
  rw[e]
  exact RGd.nil _ _
end Go.Proofs.YtdpfdkihbgmapaaGreat
