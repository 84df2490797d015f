import Derived.Test.YtmmolhlihhdkcaaGreatDoorBDQ
namespace Go.Proofs.YtmmolhlihhdkcaaGreatDoor
open Go.RowKit Go.Sort
set_option linter.unusedVariables false
set_option maxRecDepth 1000000
set_option maxHeartbeats 16000000
theorem Tl {w:World}{g t:Nat}{a0 a1 a2 a3 a4 c0 c1 c2 c3 c4:Value}(h:BT w g #[c0,c1,c2,c3,c4] t):BT (((((w.setCell ⟨g,0,none⟩ a0).setCell ⟨g,1,none⟩ a1).setCell ⟨g,2,none⟩ a2).setCell ⟨g,3,none⟩ a3).setCell ⟨g,4,none⟩ a4) g #[a0,a1,a2,a3,a4] t:=by
 have k0:BT (w.setCell ⟨g,0,none⟩ a0) g #[a0,c1,c2,c3,c4] t:=h.set 0 a0
 have k1:BT ((w.setCell ⟨g,0,none⟩ a0).setCell ⟨g,1,none⟩ a1) g #[a0,a1,c2,c3,c4] t:=k0.set 1 a1
 have k2:BT (((w.setCell ⟨g,0,none⟩ a0).setCell ⟨g,1,none⟩ a1).setCell ⟨g,2,none⟩ a2) g #[a0,a1,a2,c3,c4] t:=k1.set 2 a2
 have k3:BT ((((w.setCell ⟨g,0,none⟩ a0).setCell ⟨g,1,none⟩ a1).setCell ⟨g,2,none⟩ a2).setCell ⟨g,3,none⟩ a3) g #[a0,a1,a2,a3,c4] t:=k2.set 3 a3
 have k4:BT (((((w.setCell ⟨g,0,none⟩ a0).setCell ⟨g,1,none⟩ a1).setCell ⟨g,2,none⟩ a2).setCell ⟨g,3,none⟩ a3).setCell ⟨g,4,none⟩ a4) g #[a0,a1,a2,a3,a4] t:=k3.set 4 a4
 exact k4
theorem Ts {w:World}{g:Nat}{a0 a1 a2 a3 a4:Value}:Chg (λx=>x=g) w (((((w.setCell ⟨g,0,none⟩ a0).setCell ⟨g,1,none⟩ a1).setCell ⟨g,2,none⟩ a2).setCell ⟨g,3,none⟩ a3).setCell ⟨g,4,none⟩ a4):=by
 have k0:Chg (λx=>x=g) w (w.setCell ⟨g,0,none⟩ a0):=Chg.set g 0 a0 rfl
 have k1:Chg (λx=>x=g) w ((w.setCell ⟨g,0,none⟩ a0).setCell ⟨g,1,none⟩ a1):=k0.trans (Chg.set g 1 a1 rfl)
 have k2:Chg (λx=>x=g) w (((w.setCell ⟨g,0,none⟩ a0).setCell ⟨g,1,none⟩ a1).setCell ⟨g,2,none⟩ a2):=k1.trans (Chg.set g 2 a2 rfl)
 have k3:Chg (λx=>x=g) w ((((w.setCell ⟨g,0,none⟩ a0).setCell ⟨g,1,none⟩ a1).setCell ⟨g,2,none⟩ a2).setCell ⟨g,3,none⟩ a3):=k2.trans (Chg.set g 3 a3 rfl)
 have k4:Chg (λx=>x=g) w (((((w.setCell ⟨g,0,none⟩ a0).setCell ⟨g,1,none⟩ a1).setCell ⟨g,2,none⟩ a2).setCell ⟨g,3,none⟩ a3).setCell ⟨g,4,none⟩ a4):=k3.trans (Chg.set g 4 a4 rfl)
 exact k4
def br3 (h g g2:Nat)(nt rd:Array Value):List (Nat×Array Value×Nat):=[(h,#[.slice none 0 0,.slice none 0 0,.slice none 0 0,.slice none 0 0,.int .i64 0],28),(g,nt,28),(g2,rd,113)]
def br4 (h g g2:Nat)(nt rd:Array Value)(g8:Nat)(ra:Array Value):List (Nat×Array Value×Nat):=[(h,#[.slice none 0 0,.slice none 0 0,.slice none 0 0,.slice none 0 0,.int .i64 0],28),(g,nt,28),(g2,rd,113),(g8,ra,48)]
def br5 (h g g2:Nat)(nt rd:Array Value)(g8:Nat)(ra:Array Value)(g9:Nat)(pa:Array Value):List (Nat×Array Value×Nat):=[(h,#[.slice none 0 0,.slice none 0 0,.slice none 0 0,.slice none 0 0,.int .i64 0],28),(g,nt,28),(g2,rd,113),(g8,ra,48),(g9,pa,48)]
theorem Wr (D b:Nat)(S:Src)(w:World)(hS:J8 D w b S)(hok:SOk S) :
  Calls Tryz.prog 38 #[.pointer (some ⟨b,0,none⟩)] w λe w'=>∃v0 v1 v2 v3 vn vw vr,e=.returned (.agg #[v0,v1,v2,v3,.int .i64 (Xq S).uturn])/\ONt (w.heap.size+1) w' v0 v1 v2 v3 (Xq S) vn vw vr/\J8 D w' b (riS S)/\Chg (Sx1 b) w w':=by
 have HOK:Hid (SOk S):=hok
 have HDI:=Q0 (Q2k hok)
 have HS0:Hid (J8 D w b S):=hS
 have hmx:Tryz.prog.follows .mixedOrders=true:=by kernel_rfl
 have HbL:Hid (b<w.heap.size):=by
  obtain⟨v,hb,_⟩:=hS
  exact hb.lt
 clear hS hok
 go_enter Tryz.func38,Tryz.ntmps38
 go_upto_region 1 with fail
 generalize hWA:w.alloc (.cells #[.slice none 0 0,.slice none 0 0,.slice none 0 0,.slice none 0 0,.int .i64 0] 28)=wA
 have HA:Hid (FR D b w wA S [(w.heap.size,#[.slice none 0 0,.slice none 0 0,.slice none 0 0,.slice none 0 0,.int .i64 0],28)]):=by
  unfold Hid
  rw[<-hWA]
  have k0:FR D b w w S []:=⟨Chg.nx (Nx.refl _),HS0.out,λp hp=>absurd hp (by simp),λp hp=>absurd hp (by simp),List.nodup_nil⟩
  exact k0.alloc #[.slice none 0 0,.slice none 0 0,.slice none 0 0,.slice none 0 0,.int .i64 0] 28 (by decide)
 have HAS:Hid (wA.heap.size=w.heap.size+1):=by unfold Hid;rw[<-hWA,Q7]
 clear hWA
 go_wp2_with fail
 refine(Fi D b S wA HA.out.src HOK.out).mono ?_
 rintro e w1 ⟨v0,v1,v3,vn,vw,vr0,rfl,hO⟩
 have H1:=Q0 (HA.out.drawn hO.src hO.chg)
 have O1:=Q0 hO.net
 rw[HAS.out] at O1
 obtain⟨a0,q0,e0⟩:=Q3 O1.out.nodes
 obtain⟨a1,q1,e1⟩:=Q3 O1.out.ways
 obtain⟨a3,q3,e3⟩:=Q3 O1.out.turns
 subst e0 e1 e3
 have HL1:Hid ((Q8 S).ways.length=(Q8 S).ways.length):=rfl
 have hw12:=HDI.out.2.2.1
 generalize (Q8 S).nodes.length=l0 at O1 ⊢
 generalize hl1:(Q8 S).ways.length=l1 at O1 HL1 hw12 ⊢
 replace HL1:Hid ((Q8 S).ways.length=l1):=hl1
 generalize (Q8 S).turns.length=l3 at O1 ⊢
 clear hO HA hl1
 go_upto_region 2 with fail
 generalize hW2:w1.alloc (.cells #[.slice a0 l0 q0,.slice a1 l1 q1,.slice none 0 0,.slice a3 l3 q3,.int .i64 (Q8 S).uturn] 28)=w2
 have H2:Hid (FR D b w w2 (dbS S) [(w.heap.size,#[.slice none 0 0,.slice none 0 0,.slice none 0 0,.slice none 0 0,.int .i64 0],28),(w1.heap.size,#[.slice a0 l0 q0,.slice a1 l1 q1,.slice none 0 0,.slice a3 l3 q3,.int .i64 (Q8 S).uturn],28)]):=by unfold Hid;rw[<-hW2];exact H1.out.alloc #[.slice a0 l0 q0,.slice a1 l1 q1,.slice none 0 0,.slice a3 l3 q3,.int .i64 (Q8 S).uturn] 28 (by decide)
 have O2:=Q0 (O1.out.next (Qd w1 (.cells #[.slice a0 l0 q0,.slice a1 l1 q1,.slice none 0 0,.slice a3 l3 q3,.int .i64 (Q8 S).uturn] 28)))
 rw[hW2] at O2
 clear hW2 H1 O1
 generalize w1.heap.size=g at *
 have nn1:w2.cell? ⟨g,1,none⟩=some (.slice a1 l1 q1):=(H2.out.at 1 rfl).blk.cell (i:=1) rfl
 by_cases hz:l1=0
 ·skip
  have HRN:Hid (Xq S=Q8 S):=by unfold Hid Xq;rw[HL1.out,if_pos hz]
  have HRS:Hid (riS S=dbS S):=by unfold Hid riS;rw[HL1.out,if_pos hz]
  subst hz
  have nc0:w2.cell? ⟨g,0,none⟩=some (.slice a0 l0 q0):=(H2.out.at 1 rfl).blk.cell (i:=0) rfl
  have nc1:w2.cell? ⟨g,1,none⟩=some (.slice a1 0 q1):=(H2.out.at 1 rfl).blk.cell (i:=1) rfl
  have nc2:w2.cell? ⟨g,2,none⟩=some (.slice none 0 0):=(H2.out.at 1 rfl).blk.cell (i:=2) rfl
  have nc3:w2.cell? ⟨g,3,none⟩=some (.slice a3 l3 q3):=(H2.out.at 1 rfl).blk.cell (i:=3) rfl
  have nc4:w2.cell? ⟨g,4,none⟩=some (.int .i64 (Q8 S).uturn):=(H2.out.at 1 rfl).blk.cell (i:=4) rfl
  clear nn1
  have BR:BT w2 w.heap.size #[.slice none 0 0,.slice none 0 0,.slice none 0 0,.slice none 0 0,.int .i64 0] 28:=H2.out.at 0 rfl
  have x0:=BR.blk.cell (i:=0) rfl
  have fz0:=BR.blk.frozen 0
  have x1:=BR.blk.cell (i:=1) rfl
  have fz1:=BR.blk.frozen 1
  have x2:=BR.blk.cell (i:=2) rfl
  have fz2:=BR.blk.frozen 2
  have x3:=BR.blk.cell (i:=3) rfl
  have fz3:=BR.blk.frozen 3
  have x4:=BR.blk.cell (i:=4) rfl
  have fz4:=BR.blk.frozen 4
  have BS:=Tl (a0:=.slice a0 l0 q0) (a1:=.slice a1 0 q1) (a2:=.slice none 0 0) (a3:=.slice a3 l3 q3) (a4:=.int .i64 (Q8 S).uturn) BR
  have P0:Hid (_=some (Value.slice a0 l0 q0)):=BS.blk.cell (i:=0) rfl
  have P1:Hid (_=some (Value.slice a1 0 q1)):=BS.blk.cell (i:=1) rfl
  have P2:Hid (_=some (Value.slice none 0 0)):=BS.blk.cell (i:=2) rfl
  have P3:Hid (_=some (Value.slice a3 l3 q3)):=BS.blk.cell (i:=3) rfl
  have P4:Hid (_=some (Value.int .i64 (Q8 S).uturn)):=BS.blk.cell (i:=4) rfl
  have HCF:Hid (Chg (λx=>x=w.heap.size) w2 (((((w2.setCell ⟨w.heap.size,0,none⟩ (.slice a0 l0 q0)).setCell ⟨w.heap.size,1,none⟩ (.slice a1 0 q1)).setCell ⟨w.heap.size,2,none⟩ (.slice none 0 0)).setCell ⟨w.heap.size,3,none⟩ (.slice a3 l3 q3)).setCell ⟨w.heap.size,4,none⟩ (.int .i64 (Q8 S).uturn))):=Ts
  have HBS:=Q0 BS
  clear BS BR
  go_wp2
  generalize hWF:(((((w2.setCell ⟨w.heap.size,0,none⟩ (.slice a0 l0 q0)).setCell ⟨w.heap.size,1,none⟩ (.slice a1 0 q1)).setCell ⟨w.heap.size,2,none⟩ (.slice none 0 0)).setCell ⟨w.heap.size,3,none⟩ (.slice a3 l3 q3)).setCell ⟨w.heap.size,4,none⟩ (.int .i64 (Q8 S).uturn))=wF at P0 P1 P2 P3 P4 HBS HCF ⊢
  have p0_:=P0.out
  have p1_:=P1.out
  have p2_:=P2.out
  have p3_:=P3.out
  have p4_:=P4.out
  refine bodyPost_ret (v:=.agg #[.slice a0 l0 q0,.slice a1 0 q1,.slice none 0 0,.slice a3 l3 q3,.int .i64 (Q8 S).uturn]) (by simp[results,Tryz.results38,go_sem,p0_,p1_,p2_,p3_,p4_]) rfl ?_
  have hF:=H2.out.turn 0 rfl HCF.out HBS.out
  have hO:=O2.out.turnBox (show BT w2 w.heap.size #[.slice none 0 0,.slice none 0 0,.slice none 0 0,.slice none 0 0,.int .i64 0] 28 from H2.out.at 0 rfl) (by decide) (λe=>absurd e (by decide)) HCF.out
  rw[HRN.out,HRS.out]
  exact⟨_,_,_,_,_,_,_,rfl,hO,hF.src,hF.chg⟩
 have hz1:((l1:Int)==0)=false:=by simp;omega
 have hz2:¬(l1:Int)=0:=by omega
 have HSM:Hid (wsum (Q8 S).ways (Q8 S).ways.length<=1048576):=by
  unfold Hid
  have:=Q4m (Q8 S).ways (Q8 S).ways.length HDI.out.2.2.2
  have:=HDI.out.2.2.1
  omega
 have nc0:w2.cell? ⟨g,0,none⟩=some (.slice a0 l0 q0):=(H2.out.at 1 rfl).blk.cell (i:=0) rfl
 have nc1:w2.cell? ⟨g,1,none⟩=some (.slice a1 l1 q1):=(H2.out.at 1 rfl).blk.cell (i:=1) rfl
 have nc2:w2.cell? ⟨g,2,none⟩=some (.slice none 0 0):=(H2.out.at 1 rfl).blk.cell (i:=2) rfl
 have nc3:w2.cell? ⟨g,3,none⟩=some (.slice a3 l3 q3):=(H2.out.at 1 rfl).blk.cell (i:=3) rfl
 have nc4:w2.cell? ⟨g,4,none⟩=some (.int .i64 (Q8 S).uturn):=(H2.out.at 1 rfl).blk.cell (i:=4) rfl
 clear nn1
 go_wp2_with fail
 refine(Q05 (w.heap.size+1) (.slice a0 l0 q0) (.slice a1 l1 q1) (.slice none 0 0) (.slice a3 l3 q3) (Q8 S) w2 O2.out.held HSM.out).mono ?_
 rintro e w3 ⟨⟨rr0,rr1,rr2,rr3,rfl,hR⟩,hx⟩
 have HR3:Hid (Y8 w2.heap.size w3 rr0 rr1 rr2 rr3 (Vb (Q8 S))):=hR
 obtain⟨p0,d0,e0,-,-⟩:=hR.1
 obtain⟨p1,d1,e1,-,-⟩:=hR.2.1
 obtain⟨p2,d2,e2,-,-⟩:=hR.2.2.1
 obtain⟨p3,d3,e3,-,-⟩:=hR.2.2.2
 generalize (Vb (Q8 S)).nodes.length=s0 at e0
 generalize (Vb (Q8 S)).edges.length=s1 at e1
 generalize (Vb (Q8 S)).first.length=s2 at e2
 generalize (Vb (Q8 S)).out.length=s3 at e3
 subst e0 e1 e2 e3
 have H3:=Q0 (H2.out.next hx)
 have O3:=Q0 (O2.out.next hx)
 have HG2:Hid (g<w2.heap.size):=(show BT w2 g _ 28 from H2.out.at 1 rfl).lt
 have HC2:Hid (w.heap.size+1<=w2.heap.size):=by have h1:=(show BT w2 w.heap.size _ 28 from H2.out.at 0 rfl).lt;unfold Hid;omega
 have HX3:Hid (w2.heap.size<=w3.heap.size):=hx.size
 generalize hCr:w2.heap.size=Cr at *
 clear hx hR H2 O2 nc0 nc1 nc2 nc3 nc4 hz1 hz2 hCr
 go_upto_region 5 with fail
 generalize hW4:w3.alloc (.cells #[.slice p0 s0 d0,.slice p1 s1 d1,.slice p2 s2 d2,.slice p3 s3 d3] 113)=w4
 have H4:Hid (FR D b w w4 (dbS S) (br3 w.heap.size g w3.heap.size #[.slice a0 l0 q0,.slice a1 l1 q1,.slice none 0 0,.slice a3 l3 q3,.int .i64 (Q8 S).uturn] #[.slice p0 s0 d0,.slice p1 s1 d1,.slice p2 s2 d2,.slice p3 s3 d3])):=by unfold Hid;rw[<-hW4];exact H3.out.alloc #[.slice p0 s0 d0,.slice p1 s1 d1,.slice p2 s2 d2,.slice p3 s3 d3] 113 (by decide)
 have O4:=Q0 (O3.out.next (Qd w3 (.cells #[.slice p0 s0 d0,.slice p1 s1 d1,.slice p2 s2 d2,.slice p3 s3 d3] 113)))
 have HR4:=Q0 (HR3.out.next (Qd w3 (.cells #[.slice p0 s0 d0,.slice p1 s1 d1,.slice p2 s2 d2,.slice p3 s3 d3] 113)))
 rw[hW4] at O4 HR4
 have HCr:Hid (Cr<=w4.heap.size):=by unfold Hid;rw[<-hW4,Q7];have:=HX3.out;omega
 clear hW4 H3 O3 HR3
 generalize w3.heap.size=g2 at *
 have hsz:=HDI.out.1.size
 have b3:=H4.out.src.size
 go_wp2_with fail
 refine(Qe D b (dbS S) (2+(dbS S).size) w4 H4.out.src HDI.out.1 (by omega)).mono ?_
 rintro e w5 ⟨rfl,hs1,hc1⟩
 have H5:=Q0 (H4.out.drawn hs1 hc1)
 have O5:=Q0 (O4.out.src H4.out.src hc1)
 have HK5:Hid (Chg (λx=>x<Cr) w4 w5):=hc1.mono (λx hx=>by have hx':x=b:=hx;have:=HbL.out;have:=HC2.out;omega)
 have HT1:Hid (SOk (ns (dbS S) (2+(dbS S).size))):=Qj HDI.out.1 _
 have hv5:=Qt HDI.out.1 (2+(dbS S).size)
 clear hs1 hc1 b3
 have HCN:Hid (Z9 S=if nv (ns (dbS S) (2+(dbS S).size)) 16=0 then 0 else 1+nv (dbS S) (2+(dbS S).size)):=rfl
 generalize nv (dbS S) (2+(dbS S).size)=d5 at *
 go_wp2_with fail
 refine(Qe D b (ns (dbS S) (2+(dbS S).size)) 16 w5 H5.out.src HT1.out (by omega)).mono ?_
 rintro e w6 ⟨rfl,hs1,hc1⟩
 have H6:Hid (FR D b w w6 (Ec S) (br3 w.heap.size g g2 #[.slice a0 l0 q0,.slice a1 l1 q1,.slice none 0 0,.slice a3 l3 q3,.int .i64 (Q8 S).uturn] #[.slice p0 s0 d0,.slice p1 s1 d1,.slice p2 s2 d2,.slice p3 s3 d3])):=H5.out.drawn hs1 hc1
 have O6:=Q0 (O5.out.src H5.out.src hc1)
 have HK6:Hid (Chg (λx=>x<Cr) w4 w6):=HK5.out.trans (hc1.mono (λx hx=>by have hx':x=b:=hx;have:=HbL.out;have:=HC2.out;omega))
 have HT2:Hid (SOk (Ec S)):=Qj HT1.out _
 clear hs1 hc1 H4 O4 H5 O5 HK5
 generalize nv (ns (dbS S) (2+(dbS S).size)) 16=d6 at *
 obtain⟨cn,hcn⟩:∃c:Nat,Z9 S=c:=⟨(Z9 S).toNat,by rw[HCN.out];have:=hv5.1;split<;>omega⟩
 have hcb:cn<=10:=by rw[HCN.out] at hcn;have:=hv5.2 (by omega);split at hcn<;>omega
 have HCC:Hid (Z9 S=cn):=hcn
 clear hcn
 go_upto_if 29 with fail
 generalize hbd:(d6==0)=bd
 have HBD:Hid ((d6==0)=bd):=hbd
 clear hbd
 go_cut [5] from 30 to 30 (λs5 wc=>s5=.int .i64 (cn:Int)/\wc=w6)
 case first=>
  cases bd with
  |true=>
   have h0:d6=0:=by simpa using HBD.out
   have HC0:Hid ((0:Int)=(cn:Int)):=by unfold Hid;rw[<-HCC.out,HCN.out,if_pos h0]
   clear h0 HBD HCN
   go_wp2
   go_meet
   exact⟨by rw[<-HC0.out],rfl⟩
  |false=>
   have h0:¬d6=0:=by simpa using HBD.out
   have HC0:Hid (1+d5=(cn:Int)):=by unfold Hid;rw[<-HCC.out,HCN.out,if_neg h0]
   clear h0 HBD HCN
   go_wp2
   go_meet
   exact⟨by rw[HC0.out],rfl⟩
 case rest=>
 obtain⟨rfl,rfl⟩:=hcut
 clear HBD HCN
 generalize wc=w6 at *
 go_wp2_with fail
 refine(Qe D b (Ec S) 3 w6 H6.out.src HT2.out (by omega)).mono ?_
 rintro e w7 ⟨rfl,hs1,hc1⟩
 have H7:=Q0 (H6.out.drawn hs1 hc1)
 have O7:=Q0 (O6.out.src H6.out.src hc1)
 have HK7:Hid (Chg (λx=>x<Cr) w4 w7):=HK6.out.trans (hc1.mono (λx hx=>by have hx':x=b:=hx;have:=HbL.out;have:=HC2.out;omega))
 have HXI:Hid (riX S=Vy (Q8 S) (Vb (Q8 S)) ⟨ns (Ec S) 3,nv (Ec S) 3,[]⟩ cn):=by unfold Hid riX riN riR;rw[HCC.out,Int.toNat_natCast]
 generalize Ec S=T2 at *
 have v:=Qt HT2.out 3
 have hv7:0<=nv T2 3/\nv T2 3<=3:=by have:=v.2 (by omega);omega
 have hk0:Q7u 0 T2.size ⟨ns T2 3,nv T2 3,[]⟩:=⟨(show SOk (ns T2 3) from Qj HT2.out _),(show(ns T2 3).size=T2.size from Qs _ _),(show 0<=nv T2 3/\nv T2 3<=3+2*((0:Nat):Int) by omega),rfl,λr hr=>absurd hr (by simp)⟩
 generalize nv T2 3=d7 at *
 obtain⟨x0,hx0⟩:∃x:Tt,x=⟨ns T2 3,d7,[]⟩:=⟨_,rfl⟩
 rw[<-hx0] at hk0 HXI
 have HXO:Hid (∀k,Q7u k T2.size (Vy (Q8 S) (Vb (Q8 S)) x0 k)):=Q0h hk0
 have hxS:(Vy (Q8 S) (Vb (Q8 S)) x0 0).S=ns T2 3:=by show x0.S=_;rw[hx0]
 have hxI:(Vy (Q8 S) (Vb (Q8 S)) x0 0).id=d7:=by show x0.id=_;rw[hx0]
 have hxR:(Vy (Q8 S) (Vb (Q8 S)) x0 0).rels=[]:=by show x0.rels=_;rw[hx0]
 have HI0:Hid (d7=(Vy (Q8 S) (Vb (Q8 S)) x0 0).id):=hxI.symm
 have HL7:Hid (FR D b w w7 (Vy (Q8 S) (Vb (Q8 S)) x0 0).S (br3 w.heap.size g g2 #[.slice a0 l0 q0,.slice a1 l1 q1,.slice none 0 0,.slice a3 l3 q3,.int .i64 (Q8 S).uturn] #[.slice p0 s0 d0,.slice p1 s1 d1,.slice p2 s2 d2,.slice p3 s3 d3])):=by unfold Hid;rw[hxS];exact H7.out
 have OL7:Hid (∃vr,ONt (w.heap.size+1) w7 (.slice a0 l0 q0) (.slice a1 l1 q1) (.slice none 0 0) (.slice a3 l3 q3) (nW (Q8 S) (Vy (Q8 S) (Vb (Q8 S)) x0 0).rels) vn vw vr):=by unfold Hid;rw[hxR];exact⟨vr0,O7.out⟩
 clear hxS hxI hxR hk0 v hv7
 clear hs1 hc1 hx0 H6 O6 HK6 H7 O7
 rw[HI0.out]
 go_wp2
 have HRI:Hid (Eu (Q8 S) (Vb (Q8 S))):=rd_in _
 have HR4s:Hid (Cr<=w4.heap.size):=by
  have:=HK7.out.size
  exact HCr.out
 generalize Vb (Q8 S)=R at *
 go_loopw [6,7] (λs6 s7 wr=>∃(k c2:Nat) (a2:Option Addr),k<=cn/\s7=.int .i64 (k:Int)/\s6=.int .i64 (Vy (Q8 S) R x0 k).id/\Hid (FR D b w wr (Vy (Q8 S) R x0 k).S (br3 w.heap.size g g2 #[.slice a0 l0 q0,.slice a1 l1 q1,.slice a2 k c2,.slice a3 l3 q3,.int .i64 (Q8 S).uturn] #[.slice p0 s0 d0,.slice p1 s1 d1,.slice p2 s2 d2,.slice p3 s3 d3]))/\Hid (∃vr,ONt (w.heap.size+1) wr (.slice a0 l0 q0) (.slice a1 l1 q1) (.slice a2 k c2) (.slice a3 l3 q3) (nW (Q8 S) (Vy (Q8 S) R x0 k).rels) vn vw vr)/\Hid (Chg (λx=>x<Cr) w4 wr)/\Hid (∀y,(Value.slice a2 k c2).ownBlock=some y->w4.heap.size<=y)) (λ_ i _=>cn-(intOf i).toNat)
 case atStart=>exact⟨0,0,none,Nat.zero_le _,rfl,rfl,HL7,OL7,HK7,λy hy=>by cases hy⟩
 clear HL7 OL7 HK7 HI0
 obtain⟨k,c2,a2,hk,rfl,rfl,Hk,OLk,Kk,HVk⟩:=hrel
 by_cases hlt:k<cn
 ·skip
  have hlt':(k:Int)<cn:=by omega
  obtain⟨hok1,hok2,hok3,hok4,hok5⟩:=HXO.out k
  have HST:Hid ((Vy (Q8 S) R x0 (k+1))=Q3p (Q8 S) R (Vy (Q8 S) R x0 k)):=rfl
  generalize hxk:(Vy (Q8 S) R x0 k)=xk at *
  clear hxk
  obtain⟨sk,idk,rk⟩:=xk
  simp only at hok1 hok2 hok3 hok4 hok5 Hk OLk ⊢
  obtain⟨vr,hOk⟩:=OLk.out
  have Ok:Hid (ONt (w.heap.size+1) wr (.slice a0 l0 q0) (.slice a1 l1 q1) (.slice a2 k c2) (.slice a3 l3 q3) (nW (Q8 S) rk) vn vw vr):=hOk
  have HOKk:Hid (SOk sk):=hok1
  have HLR:Hid (rk.length=k):=hok4
  have HWL:Hid (∀r∈rk,r.ways.length<=4):=hok5
  have hidk:=hok3
  clear hok1 hok2 hok3 hok4 hok5 OLk hOk
  have nc0:wr.cell? ⟨g,0,none⟩=some (.slice a0 l0 q0):=(Hk.out.at 1 rfl).blk.cell (i:=0) rfl
  have nc1:wr.cell? ⟨g,1,none⟩=some (.slice a1 l1 q1):=(Hk.out.at 1 rfl).blk.cell (i:=1) rfl
  have nc2:wr.cell? ⟨g,2,none⟩=some (.slice a2 k c2):=(Hk.out.at 1 rfl).blk.cell (i:=2) rfl
  have nc3:wr.cell? ⟨g,3,none⟩=some (.slice a3 l3 q3):=(Hk.out.at 1 rfl).blk.cell (i:=3) rfl
  have nc4:wr.cell? ⟨g,4,none⟩=some (.int .i64 (Q8 S).uturn):=(Hk.out.at 1 rfl).blk.cell (i:=4) rfl
  have rc0:wr.cell? ⟨g2,0,none⟩=some (.slice p0 s0 d0):=(Hk.out.at 2 rfl).blk.cell (i:=0) rfl
  have rc1:wr.cell? ⟨g2,1,none⟩=some (.slice p1 s1 d1):=(Hk.out.at 2 rfl).blk.cell (i:=1) rfl
  have rc2:wr.cell? ⟨g2,2,none⟩=some (.slice p2 s2 d2):=(Hk.out.at 2 rfl).blk.cell (i:=2) rfl
  have rc3:wr.cell? ⟨g2,3,none⟩=some (.slice p3 s3 d3):=(Hk.out.at 2 rfl).blk.cell (i:=3) rfl
  have HND1:Hid (0<(Q8 S).nodes.length/\(Q8 S).nodes.length<=1000000):=by have:=HDI.out.2.1;unfold Hid;omega
  have HWD1:Hid (0<(Q8 S).ways.length/\(Q8 S).ways.length<=1000000):=⟨by rw[HL1.out];exact Nat.pos_of_ne_zero hz,Nat.le_trans HDI.out.2.2.1 (by decide)⟩
  go_wp2_with fail
  refine(Pi (w.heap.size+1) D b (.slice a0 l0 q0) (.slice a1 l1 q1) (.slice a2 k c2) (.slice a3 l3 q3) (.slice p0 s0 d0) (.slice p1 s1 d1) (.slice p2 s2 d2) (.slice p3 s3 d3) (nW (Q8 S) rk) R sk wr Ok.out.held ((HR4.out.keep Kk.out.keepsU).base HC2.out) (by have:=HbL.out;omega) HND1.out.1 HWD1.out.1 HND1.out.2 HWD1.out.2 Hk.out.src HOKk.out (HRI.out.nW rk)).mono ?_
  rintro e w8 ⟨va,rfl,ho,hs1,hc1⟩
  obtain⟨av,cv,rfl⟩:=Q3 ho
  have H8:=Q0 (Hk.out.drawn hs1 hc1)
  have O8:=Q0 (Ok.out.src Hk.out.src hc1)
  have P8:Hid (Qb wr.heap.size w8 (.slice av (drR (nW (Q8 S) rk) R sk).ways.length cv) (drR (nW (Q8 S) rk) R sk).ways):=ho
  have K8:Hid (Chg (λx=>x<Cr) w4 w8):=Kk.out.trans (hc1.mono (λx hx=>by have hx':x=b:=hx;have:=HbL.out;have:=HC2.out;omega))
  have HWG:Hid (wr.heap.size<=w8.heap.size):=hc1.size
  have HIZ:Hid (∀u∈Ja (nW (Q8 S) rk) (.slice a0 l0 q0) vn vw vr,∀y,u.ownBlock=some y->y<wr.heap.size):=Vk Ok.out
  have HZC:Hid (w.heap.size+1<=wr.heap.size):=by have h1:=HC2.out;have h2:=HR4s.out;have h3:=Kk.out.size;unfold Hid;omega
  have HOK8:Hid (SOk (drS (nW (Q8 S) rk) R sk)):=(Q43 HOKk.out).1
  have HS2:Hid (Gz (Q8 S) R ⟨sk,idk,rk⟩=ns (drS (nW (Q8 S) rk) R sk) 4):=rfl
  have HYE:Hid (rcY (Q8 S) R ⟨sk,idk,rk⟩=⟨0,decide (nv (drS (nW (Q8 S) rk) R sk) 4=0),(drR (nW (Q8 S) rk) R sk).frm,(drR (nW (Q8 S) rk) R sk).to,(drR (nW (Q8 S) rk) R sk).via,(drR (nW (Q8 S) rk) R sk).node,(drR (nW (Q8 S) rk) R sk).ways⟩):=rfl
  have hwl:(drR (nW (Q8 S) rk) R sk).ways.length<=4:=Q2i HOKk.out
  generalize drR (nW (Q8 S) rk) R sk=rr at *
  generalize drS (nW (Q8 S) rk) R sk=s8 at *
  obtain⟨y1,y2,y3,y4,y5,y6,y7⟩:=rr
  simp only at P8 HYE hwl ⊢
  generalize hnl:y7.length=nl at *
  have HNL:Hid (y7.length=nl):=hnl
  clear ho hs1 hc1 nc0 nc1 nc2 nc3 nc4 rc0 rc1 rc2 rc3 Hk Ok hnl
  go_upto_region 13 with fail
  generalize hW9:w8.alloc (.cells #[.int .i64 y1,.bool y2,.int .i64 y3,.int .i64 y4,.bool y5,.int .i64 y6,.slice av nl cv] 48)=w9
  have H9:Hid (FR D b w w9 s8 (br4 w.heap.size g g2 #[.slice a0 l0 q0,.slice a1 l1 q1,.slice a2 k c2,.slice a3 l3 q3,.int .i64 (Q8 S).uturn] #[.slice p0 s0 d0,.slice p1 s1 d1,.slice p2 s2 d2,.slice p3 s3 d3] w8.heap.size #[.int .i64 y1,.bool y2,.int .i64 y3,.int .i64 y4,.bool y5,.int .i64 y6,.slice av nl cv])):=by unfold Hid;rw[<-hW9];exact H8.out.alloc #[.int .i64 y1,.bool y2,.int .i64 y3,.int .i64 y4,.bool y5,.int .i64 y6,.slice av nl cv] 48 (by decide)
  have O9:=Q0 (O8.out.next (Qd w8 (.cells #[.int .i64 y1,.bool y2,.int .i64 y3,.int .i64 y4,.bool y5,.int .i64 y6,.slice av nl cv] 48)))
  have P9:=Q0 (P8.out.next (Qd w8 (.cells #[.int .i64 y1,.bool y2,.int .i64 y3,.int .i64 y4,.bool y5,.int .i64 y6,.slice av nl cv] 48)))
  have K9:=Q0 (K8.out.trans (Chg.nx (Qd w8 (.cells #[.int .i64 y1,.bool y2,.int .i64 y3,.int .i64 y4,.bool y5,.int .i64 y6,.slice av nl cv] 48))))
  have HV8:Hid ((Value.slice a2 k c2).ownBlock≠some w8.heap.size):=λe=>by have:=(Ql O8.out.rels _ e).2;omega
  have HG8:Hid (w4.heap.size<=w8.heap.size):=K8.out.size
  rw[hW9] at O9 P9 K9
  clear hW9 H8 O8 P8 K8
  generalize w8.heap.size=g8 at *
  go_wp2_with fail
  refine(Qe D b s8 4 w9 H9.out.src HOK8.out (by omega)).mono ?_
  rintro e w10 ⟨rfl,hs1,hc1⟩
  have H10:=Q0 (H9.out.drawn hs1 hc1)
  have O10:=Q0 (O9.out.src H9.out.src hc1)
  have P10:=Q0 (H9.out.rowDrawn P9.out hc1)
  have K10:Hid (Chg (λx=>x<Cr) w4 w10):=K9.out.trans (hc1.mono (λx hx=>by have hx':x=b:=hx;have:=HbL.out;have:=HC2.out;omega))
  clear hs1 hc1 H9 O9 P9 K9
  have HOK9:Hid (SOk (ns s8 4)):=Qj HOK8.out _
  generalize nv s8 4=d4 at *
  have BG:BT w10 g8 #[.int .i64 y1,.bool y2,.int .i64 y3,.int .i64 y4,.bool y5,.int .i64 y6,.slice av nl cv] 48:=H10.out.at 3 rfl
  have x1:=BG.blk.cell (i:=1) rfl
  have fz1:=BG.blk.frozen 1
  go_upto_region 14 with fail
  generalize hb4:(d4==0)=b4
  have HB4:Hid (decide (d4=0)=b4):=by unfold Hid;rw[<-hb4];rfl
  clear hb4
  rw[HB4.out] at HYE
  have H11:Hid (FR D b w (w10.setCell ⟨g8,1,none⟩ (.bool b4)) (ns s8 4) (br4 w.heap.size g g2 #[.slice a0 l0 q0,.slice a1 l1 q1,.slice a2 k c2,.slice a3 l3 q3,.int .i64 (Q8 S).uturn] #[.slice p0 s0 d0,.slice p1 s1 d1,.slice p2 s2 d2,.slice p3 s3 d3] g8 #[.int .i64 y1,.bool b4,.int .i64 y3,.int .i64 y4,.bool y5,.int .i64 y6,.slice av nl cv])):=H10.out.set 3 rfl 1 _
  have O11:Hid (ONt (w.heap.size+1) (w10.setCell ⟨g8,1,none⟩ (.bool b4)) (.slice a0 l0 q0) (.slice a1 l1 q1) (.slice a2 k c2) (.slice a3 l3 q3) (nW (Q8 S) rk) vn vw vr):=O10.out.turnBox (show BT w10 g8 #[.int .i64 y1,.bool y2,.int .i64 y3,.int .i64 y4,.bool y5,.int .i64 y6,.slice av nl cv] 48 from H10.out.at 3 rfl) (by decide) (λ_=>HV8.out) (Chg.set _ _ _ rfl)
  have P11:=Q0 (H10.out.rowTurn 3 rfl P10.out (Chg.set g8 1 (.bool b4) rfl))
  have K11:Hid (Chg (λx=>x<Cr) w4 (w10.setCell ⟨g8,1,none⟩ (.bool b4))):=K10.out.young (Chg.set (S:=λx=>x=g8) _ _ _ rfl) (λx hx hl=>by have hx':x=g8:=hx;have:=HG8.out;omega)
  clear x1 fz1 BG H10 O10 P10 K10
  generalize w10.setCell ⟨g8,1,none⟩ (.bool b4)=w11 at *
  have HB:Hid (rcB (Q8 S) R ⟨sk,idk,rk⟩=(decide (0<k)&&decide (nv (ns s8 4) 10=0))):=by unfold Hid rcB;rw[HS2.out];show(decide (0<rk.length)&&_)=_;rw[HLR.out]
  generalize hbc:(decide (0<k)&&decide (nv (ns s8 4) 10=0))=bc at HB
  have HBC:Hid ((decide (0<k)&&decide (nv (ns s8 4) 10=0))=bc):=hbc
  obtain⟨SC,hSC⟩:∃s,s=if 0<k then ns (ns s8 4) 10 else ns s8 4:=⟨_,rfl⟩
  have HSC:Hid (SC=if 0<k then ns (ns s8 4) 10 else ns s8 4):=hSC
  have HOC:Hid (SOk SC):=by unfold Hid;rw[hSC];split<;>first|exact Qj HOK9.out _|exact HOK9.out
  clear hbc hSC
  go_cut [51] from 45 to 50 (λs51 wc=>s51=.bool bc/\Hid (FR D b w wc SC (br4 w.heap.size g g2 #[.slice a0 l0 q0,.slice a1 l1 q1,.slice a2 k c2,.slice a3 l3 q3,.int .i64 (Q8 S).uturn] #[.slice p0 s0 d0,.slice p1 s1 d1,.slice p2 s2 d2,.slice p3 s3 d3] g8 #[.int .i64 y1,.bool b4,.int .i64 y3,.int .i64 y4,.bool y5,.int .i64 y6,.slice av nl cv]))/\Hid (ONt (w.heap.size+1) wc (.slice a0 l0 q0) (.slice a1 l1 q1) (.slice a2 k c2) (.slice a3 l3 q3) (nW (Q8 S) rk) vn vw vr)/\Hid (Qb wr.heap.size wc (.slice av nl cv) y7)/\Hid (Chg (λx=>x<Cr) w4 wc))
  case first=>
   by_cases hk0:k=0
   ·have hkn:¬0<k:=by omega
    have hkd:decide (0<k)=false:=by simp;omega
    have hki:decide ((0:Int)<(k:Int))=false:=by simp;omega
    have hSe:SC=ns s8 4:=by rw[HSC.out,if_neg hkn]
    have HBe:Hid (bc=false):=by unfold Hid;rw[<-HBC.out,hkd];rfl
    have HF:Hid (FR D b w w11 SC (br4 w.heap.size g g2 #[.slice a0 l0 q0,.slice a1 l1 q1,.slice a2 k c2,.slice a3 l3 q3,.int .i64 (Q8 S).uturn] #[.slice p0 s0 d0,.slice p1 s1 d1,.slice p2 s2 d2,.slice p3 s3 d3] g8 #[.int .i64 y1,.bool b4,.int .i64 y3,.int .i64 y4,.bool y5,.int .i64 y6,.slice av nl cv])):=by unfold Hid;rw[hSe];exact H11.out
    clear hSe HSC
    go_wp2
    go_meet
    exact⟨by rw[HBe.out],HF,O11,P11,K11⟩
   ·have hkp:0<k:=by omega
    have hkd:decide (0<k)=true:=by simp;omega
    have hki:decide ((0:Int)<(k:Int))=true:=by simp;omega
    have hkz:(0:Int)<(k:Int):=by omega
    have HSe:Hid (SC=ns (ns s8 4) 10):=by unfold Hid;rw[HSC.out,if_pos hkp]
    have HBe:Hid (bc=decide (nv (ns s8 4) 10=0)):=by unfold Hid;rw[<-HBC.out,hkd];rfl
    clear HSC HBC
    go_wp2_with fail
    refine(Qe D b (ns s8 4) 10 w11 H11.out.src HOK9.out (by omega)).mono ?_
    rintro e w12 ⟨rfl,hs1,hc1⟩
    have H12:=Q0 (H11.out.drawn hs1 hc1)
    have O12:=Q0 (O11.out.src H11.out.src hc1)
    have P12:=Q0 (H11.out.rowDrawn P11.out hc1)
    have K12:Hid (Chg (λx=>x<Cr) w4 w12):=K11.out.trans (hc1.mono (λx hx=>by have hx':x=b:=hx;have:=HbL.out;have:=HC2.out;omega))
    clear hs1 hc1 H11 O11 P11 K11
    rw[<-HSe.out] at H12
    generalize nv (ns s8 4) 10=d10 at *
    have HB5:Hid (bc=(d10==0)):=by unfold Hid;rw[HBe.out];rfl
    clear HBe
    go_wp2
    go_meet
    exact⟨by rw[HB5.out],H12,O12,P12,K12⟩
  case rest=>
  obtain⟨rfl,H12,O12,P12,K12⟩:=hcut
  obtain⟨zz,hzz⟩:∃z,z=rcZ (Q8 S) R ⟨sk,idk,rk⟩:=⟨_,rfl⟩
  obtain⟨S5,hS5⟩:∃z,z=Q0i (Q8 S) R ⟨sk,idk,rk⟩:=⟨_,rfl⟩
  have HZ:Hid (zz=if bc then rcC ⟨sk,idk,rk⟩ (ns (ns s8 4) 10) else rcY (Q8 S) R ⟨sk,idk,rk⟩):=by unfold Hid;rw[hzz];unfold rcZ;rw[HB.out,HS2.out]
  have HZ5:Hid (S5=if bc then ns (ns (ns (ns s8 4) 10) k) 3 else SC):=by
   unfold Hid
   rw[hS5]
   unfold Q0i
   rw[HB.out,HS2.out,HSC.out]
   show(if bc=true then ns (ns (ns (ns s8 4) 10) rk.length) 3 else if 0<rk.length then _ else _)=_
   rw[HLR.out]
  have HO5:Hid (SOk S5):=by unfold Hid;rw[hS5];exact(Q58 (x:=⟨sk,idk,rk⟩) HOKk.out).1
  have HSTEP:Hid ((Vy (Q8 S) R x0 (k+1))=⟨ns S5 2,idk+(1+nv S5 2),rk++[⟨idk,zz.only,zz.frm,zz.to,zz.via,zz.node,zz.ways⟩]⟩):=by unfold Hid;rw[HST.out,hS5,hzz];rfl
  clear hzz hS5 HST H11 O11 P11 K11 HB
  go_upto_if 51 with fail
  go_cut [9] from 52 to 80 (λs9 wq=>∃(i1:Int) (nl cv:Nat) (av:Option Addr),Hid (zz.ways.length=nl)/\Hid (FR D b w wq S5 (br4 w.heap.size g g2 #[.slice a0 l0 q0,.slice a1 l1 q1,.slice a2 k c2,.slice a3 l3 q3,.int .i64 (Q8 S).uturn] #[.slice p0 s0 d0,.slice p1 s1 d1,.slice p2 s2 d2,.slice p3 s3 d3] g8 #[.int .i64 i1,.bool zz.only,.int .i64 zz.frm,.int .i64 zz.to,.bool zz.via,.int .i64 zz.node,.slice av nl cv]))/\Hid (ONt (w.heap.size+1) wq (.slice a0 l0 q0) (.slice a1 l1 q1) (.slice a2 k c2) (.slice a3 l3 q3) (nW (Q8 S) rk) vn vw vr)/\Hid (Qb wr.heap.size wq (.slice av nl cv) zz.ways)/\Hid (Chg (λx=>x<Cr) w4 wq))
  case first=>
   cases bc with
   |false=>
    have hzy:zz=⟨0,b4,y3,y4,y5,y6,y7⟩:=by rw[HZ.out,if_neg (by decide),HYE.out]
    have h5c:S5=SC:=by rw[HZ5.out,if_neg (by decide)]
    have HR:Hid (zz.ways.length=nl/\FR D b w wc S5 (br4 w.heap.size g g2 #[.slice a0 l0 q0,.slice a1 l1 q1,.slice a2 k c2,.slice a3 l3 q3,.int .i64 (Q8 S).uturn] #[.slice p0 s0 d0,.slice p1 s1 d1,.slice p2 s2 d2,.slice p3 s3 d3] g8 #[.int .i64 y1,.bool zz.only,.int .i64 zz.frm,.int .i64 zz.to,.bool zz.via,.int .i64 zz.node,.slice av nl cv])/\Qb wr.heap.size wc (.slice av nl cv) zz.ways):=by
     unfold Hid
     rw[hzy,h5c]
     exact⟨HNL.out,H12.out,P12.out⟩
    clear hzy h5c
    go_wp2
    go_meet
    exact⟨y1,nl,cv,av,HR.out.1,HR.out.2.1,O12,HR.out.2.2,K12⟩
   |true=>
    have hkp:0<k:=by
     have h:=HBC.out
     rw[Bool.and_eq_true,decide_eq_true_eq] at h
     exact h.1
    have HSe:Hid (SC=ns (ns s8 4) 10):=by unfold Hid;rw[HSC.out,if_pos hkp]
    obtain⟨i9,hi9⟩:∃i:Nat,nv SC k=i:=⟨(nv SC k).toNat,by have:=(Qt HOC.out k).1;omega⟩
    have hl9:i9<k:=by have:=(Qt HOC.out k).2 (by omega);omega
    have hj9:(i9:Int)<k:=by omega
    have HI9:Hid (nv SC k=i9):=hi9
    obtain⟨rb,c2',e9,hrb,_,_⟩:=O12.out.rels.at (i:=i9) (show i9<rk.length by rw[HLR.out];exact hl9)
    replace e9:(.slice a2 k c2:Value)=.slice (some ⟨rb,0,none⟩) rk.length c2':=e9
    simp only[Value.slice.injEq] at e9
    obtain⟨rfl,-,rfl⟩:=e9
    have hwy:=HWL.out (rat rk i9) (by have h9:i9<rk.length:=(by rw[HLR.out];exact hl9);rw[Pe h9];exact List.getElem_mem h9)
    obtain⟨ap,cp,eap⟩:=Q3 (O12.out.rw_ i9 (show i9<rk.length by rw[HLR.out];exact hl9))
    have HEP:Hid (vr i9=.slice ap (rat rk i9).ways.length cp):=eap
    have HPW0:Hid (∀q,ONt (w.heap.size+1) q (.slice a0 l0 q0) (.slice a1 l1 q1) (.slice (some ⟨rb,0,none⟩) k c2) (.slice a3 l3 q3) (nW (Q8 S) rk) vn vw vr->Qr (w.heap.size+1) q (.slice ap (rat rk i9).ways.length cp) (rat rk i9).ways):=λq h=>by rw[<-HEP.out];exact(h.rw_ i9 (show i9<rk.length by rw[HLR.out];exact hl9)).held
    have HRC:Hid (∀q,ONt (w.heap.size+1) q (.slice a0 l0 q0) (.slice a1 l1 q1) (.slice (some ⟨rb,0,none⟩) k c2) (.slice a3 l3 q3) (nW (Q8 S) rk) vn vw vr->q.cell? ⟨rb,i9*7,none⟩=some (.int .i64 (rat rk i9).id)/\q.cell? ⟨rb,i9*7+1,none⟩=some (.bool (rat rk i9).only)/\q.cell? ⟨rb,i9*7+2,none⟩=some (.int .i64 (rat rk i9).frm)/\q.cell? ⟨rb,i9*7+3,none⟩=some (.int .i64 (rat rk i9).to)/\q.cell? ⟨rb,i9*7+4,none⟩=some (.bool (rat rk i9).via)/\q.cell? ⟨rb,i9*7+5,none⟩=some (.int .i64 (rat rk i9).node)/\q.cell? ⟨rb,i9*7+6,none⟩=some (.slice ap (rat rk i9).ways.length cp)):=λq h=>by
     obtain⟨b',c',e',_,_,k0,k1,k2,k3,k4,k5,k6⟩:=h.rels.at (i:=i9) (show i9<rk.length by rw[HLR.out];exact hl9)
     simp only[Value.slice.injEq,Option.some.injEq,Addr.mk.injEq] at e'
     obtain⟨⟨rfl,_⟩,_⟩:=e'
     rw[HEP.out] at k6
     exact⟨k0,k1,k2,k3,k4,k5,k6⟩
    have hzc:zz=⟨0,if nv (ns SC k) 3=0 then !(rat rk i9).only else (rat rk i9).only,(rat rk i9).frm,(rat rk i9).to,(rat rk i9).via,(rat rk i9).node,(rat rk i9).ways⟩:=by
     rw[HZ.out,if_pos rfl,<-HSe.out]
     have hp:rcP ⟨sk,idk,rk⟩ SC=rat rk i9:=by show rat rk (nv SC rk.length).toNat=_;rw[HLR.out,HI9.out,Int.toNat_natCast]
     unfold rcC
     rw[hp]
     show(⟨0,if nv (ns SC rk.length) 3=0 then _ else _,_,_,_,_,_⟩:Rl)=_
     rw[HLR.out]
    have h5c:S5=ns (ns SC k) 3:=by rw[HZ5.out,if_pos rfl,<-HSe.out]
    have HZC:=Q0 hzc
    have H5C:=Q0 h5c
    clear hzc h5c hi9 eap HZ HZ5 HSe HSC HBC hrb HYE
    generalize rat rk i9=pp at *
    obtain⟨p_id,p_on,p_fr,p_to,p_vi,p_no,p_wy⟩:=pp
    simp only at HPW0 HRC HZC hwy
    generalize hnp:p_wy.length=np at *
    have HPN:Hid (p_wy.length=np):=hnp
    have HPL:Hid (p_wy.length<=4):=by unfold Hid;rw[hnp];exact hwy
    have HPW:=HPW0
    clear hnp HPW0 HEP
    have HSN:Hid (∀q,ONt (w.heap.size+1) q (.slice a0 l0 q0) (.slice a1 l1 q1) (.slice (some ⟨rb,0,none⟩) k c2) (.slice a3 l3 q3) (nW (Q8 S) rk) vn vw vr->BT q g #[.slice a0 l0 q0,.slice a1 l1 q1,.slice (some ⟨rb,0,none⟩) k c2,.slice a3 l3 q3,.int .i64 (Q8 S).uturn] 28->(λq=>q.cell? ⟨g,2,none⟩=some (.slice (some ⟨rb,0,none⟩) k c2)/\q.cell? ⟨rb,i9*7,none⟩=some (.int .i64 p_id)/\q.cell? ⟨rb,i9*7+1,none⟩=some (.bool p_on)/\q.cell? ⟨rb,i9*7+2,none⟩=some (.int .i64 p_fr)/\q.cell? ⟨rb,i9*7+3,none⟩=some (.int .i64 p_to)/\q.cell? ⟨rb,i9*7+4,none⟩=some (.bool p_vi)/\q.cell? ⟨rb,i9*7+5,none⟩=some (.int .i64 p_no)/\q.cell? ⟨rb,i9*7+6,none⟩=some (.slice ap np cp)) q):=λq h hb=>⟨hb.blk.cell (i:=2) rfl,HRC.out q h⟩
    go_upto_region 15 with fail
    go_cut [9] from 52 to 58 (λs9 wx=>∃g9,s9=.pointer (some ⟨g9,0,none⟩)/\Hid (FR D b w wx (ns SC k) (br5 w.heap.size g g2 #[.slice a0 l0 q0,.slice a1 l1 q1,.slice (some ⟨rb,0,none⟩) k c2,.slice a3 l3 q3,.int .i64 (Q8 S).uturn] #[.slice p0 s0 d0,.slice p1 s1 d1,.slice p2 s2 d2,.slice p3 s3 d3] g8 #[.int .i64 y1,.bool b4,.int .i64 y3,.int .i64 y4,.bool y5,.int .i64 y6,.slice av nl cv] g9 #[.int .i64 p_id,.bool p_on,.int .i64 p_fr,.int .i64 p_to,.bool p_vi,.int .i64 p_no,.slice ap np cp]))/\Hid (ONt (w.heap.size+1) wx (.slice a0 l0 q0) (.slice a1 l1 q1) (.slice (some ⟨rb,0,none⟩) k c2) (.slice a3 l3 q3) (nW (Q8 S) rk) vn vw vr)/\Hid (Chg (λx=>x<Cr) w4 wx))
    case first=>
     have H20:=Q0 (H12.out.next (show Nx wc wc.drew from(Below.refl _ _).drew))
     have O20:=Q0 (O12.out.next (show Nx wc wc.drew from(Below.refl _ _).drew))
     have K20:Hid (Chg (λx=>x<Cr) w4 wc.drew):=K12.out.trans (Chg.nx (show Nx wc wc.drew from(Below.refl _ _).drew))
     have HSS:Hid ((λq=>q.cell? ⟨g,2,none⟩=some (.slice (some ⟨rb,0,none⟩) k c2)/\q.cell? ⟨rb,i9*7,none⟩=some (.int .i64 p_id)/\q.cell? ⟨rb,i9*7+1,none⟩=some (.bool p_on)/\q.cell? ⟨rb,i9*7+2,none⟩=some (.int .i64 p_fr)/\q.cell? ⟨rb,i9*7+3,none⟩=some (.int .i64 p_to)/\q.cell? ⟨rb,i9*7+4,none⟩=some (.bool p_vi)/\q.cell? ⟨rb,i9*7+5,none⟩=some (.int .i64 p_no)/\q.cell? ⟨rb,i9*7+6,none⟩=some (.slice ap np cp)) wc.drew):=HSN.out _ O20.out (H20.out.at 1 rfl)
     refine(wpIn_wide (n:=9)).1 ?_
     refine Q9 (c:=8) (S:=λq=>q.cell? ⟨g,2,none⟩=some (.slice (some ⟨rb,0,none⟩) k c2)/\q.cell? ⟨rb,i9*7,none⟩=some (.int .i64 p_id)/\q.cell? ⟨rb,i9*7+1,none⟩=some (.bool p_on)/\q.cell? ⟨rb,i9*7+2,none⟩=some (.int .i64 p_fr)/\q.cell? ⟨rb,i9*7+3,none⟩=some (.int .i64 p_to)/\q.cell? ⟨rb,i9*7+4,none⟩=some (.bool p_vi)/\q.cell? ⟨rb,i9*7+5,none⟩=some (.int .i64 p_no)/\q.cell? ⟨rb,i9*7+6,none⟩=some (.slice ap np cp)) hmx (by kernel_rfl) (λhw hcl=>?_)
     generalize wc.drew=wd at *
     refine tq (i:=0) (v:=.pointer (some ⟨g,2,none⟩)) (λhcl=>?_)
     refine tq (i:=1) (v:=.slice (some ⟨rb,0,none⟩) k c2) (λhcl=>?_)
     refine tq (i:=2) (v:=.pointer (some ⟨b,0,none⟩)) (λhcl=>?_)
     refine tq (i:=3) (v:=.int .i64 (k:Int)) (λhcl=>?_)
     refine Ij (i:=4) (j:=7) (by kernel_rfl) hcl (λhcl=>wpOpIn_step rfl (λK hK=>?_)) (λhcl=>wpOpIn_step rfl (λK hK=>?_))
     ·go_simp
      refine⟨trivial,(callsIn_wide.2 (Qe D b SC (k:Int) _ H20.out.src HOC.out (by omega))).mono ?_⟩
      rintro e7 wa ⟨rfl,hs1,hc1⟩
      rw[HI9.out]
      have H21:=Q0 (H20.out.drawn hs1 hc1)
      have O21:=Q0 (O20.out.src H20.out.src hc1)
      have K21:Hid (Chg (λx=>x<Cr) w4 wa):=K20.out.trans (hc1.mono (λx hx=>by have hx':x=b:=hx;have:=HbL.out;have:=HC2.out;omega))
      have HSS:Hid ((λq=>q.cell? ⟨g,2,none⟩=some (.slice (some ⟨rb,0,none⟩) k c2)/\q.cell? ⟨rb,i9*7,none⟩=some (.int .i64 p_id)/\q.cell? ⟨rb,i9*7+1,none⟩=some (.bool p_on)/\q.cell? ⟨rb,i9*7+2,none⟩=some (.int .i64 p_fr)/\q.cell? ⟨rb,i9*7+3,none⟩=some (.int .i64 p_to)/\q.cell? ⟨rb,i9*7+4,none⟩=some (.bool p_vi)/\q.cell? ⟨rb,i9*7+5,none⟩=some (.int .i64 p_no)/\q.cell? ⟨rb,i9*7+6,none⟩=some (.slice ap np cp)) wa):=HSN.out _ O21.out (H21.out.at 1 rfl)
      refine hK _ _ ⟨Or.inr HSS.out,?_⟩
      clear hK K hs1 hc1
      refine tq (i:=5) (v:=.pointer (some ⟨rb,i9*7,none⟩)) (λhcl=>?_)
      refine tq (i:=6) (v:=.agg #[.int .i64 p_id,.bool p_on,.int .i64 p_fr,.int .i64 p_to,.bool p_vi,.int .i64 p_no,.slice ap np cp]) (λhcl=>?_)
      refine Q5 (i:=7) (by kernel_rfl) hcl (λhcl=>wpOpIn_step rfl (λK hK=>?_))
      go_simp
      generalize hWa:wa.alloc (.cells #[.int .i64 0,.bool false,.int .i64 0,.int .i64 0,.bool false,.int .i64 0,.slice none 0 0] 48)=wb
      have H22:Hid (FR D b w wb (ns SC k) (br5 w.heap.size g g2 #[.slice a0 l0 q0,.slice a1 l1 q1,.slice (some ⟨rb,0,none⟩) k c2,.slice a3 l3 q3,.int .i64 (Q8 S).uturn] #[.slice p0 s0 d0,.slice p1 s1 d1,.slice p2 s2 d2,.slice p3 s3 d3] g8 #[.int .i64 y1,.bool b4,.int .i64 y3,.int .i64 y4,.bool y5,.int .i64 y6,.slice av nl cv] wa.heap.size #[.int .i64 0,.bool false,.int .i64 0,.int .i64 0,.bool false,.int .i64 0,.slice none 0 0])):=by unfold Hid;rw[<-hWa];exact H21.out.alloc #[.int .i64 0,.bool false,.int .i64 0,.int .i64 0,.bool false,.int .i64 0,.slice none 0 0] 48 (by decide)
      have O22:Hid (ONt (w.heap.size+1) wb (.slice a0 l0 q0) (.slice a1 l1 q1) (.slice (some ⟨rb,0,none⟩) k c2) (.slice a3 l3 q3) (nW (Q8 S) rk) vn vw vr):=by unfold Hid;rw[<-hWa];exact O21.out.next (Qd _ _)
      have K22:Hid (Chg (λx=>x<Cr) w4 wb):=by unfold Hid;rw[<-hWa];exact K21.out.trans (Chg.nx (Qd _ _))
      have HV9:Hid ((Value.slice (some ⟨rb,0,none⟩) k c2).ownBlock≠some wa.heap.size):=λe=>by have:=(Ql O21.out.rels _ e).2;omega
      have HG9:Hid (w4.heap.size<=wa.heap.size):=K21.out.size
      clear hWa
      generalize wa.heap.size=g9 at *
      have HSS:Hid ((λq=>q.cell? ⟨g,2,none⟩=some (.slice (some ⟨rb,0,none⟩) k c2)/\q.cell? ⟨rb,i9*7,none⟩=some (.int .i64 p_id)/\q.cell? ⟨rb,i9*7+1,none⟩=some (.bool p_on)/\q.cell? ⟨rb,i9*7+2,none⟩=some (.int .i64 p_fr)/\q.cell? ⟨rb,i9*7+3,none⟩=some (.int .i64 p_to)/\q.cell? ⟨rb,i9*7+4,none⟩=some (.bool p_vi)/\q.cell? ⟨rb,i9*7+5,none⟩=some (.int .i64 p_no)/\q.cell? ⟨rb,i9*7+6,none⟩=some (.slice ap np cp)) wb):=HSN.out _ O22.out (H22.out.at 1 rfl)
      refine hK _ _ ⟨Or.inr HSS.out,?_⟩
      clear hK K
      have BG:BT wb g9 #[.int .i64 0,.bool false,.int .i64 0,.int .i64 0,.bool false,.int .i64 0,.slice none 0 0] 48:=H22.out.at 4 rfl
      have x0:=BG.blk.cell (i:=0) rfl
      have fz0:=BG.blk.frozen 0
      have x1:=BG.blk.cell (i:=1) rfl
      have fz1:=BG.blk.frozen 1
      have x2:=BG.blk.cell (i:=2) rfl
      have fz2:=BG.blk.frozen 2
      have x3:=BG.blk.cell (i:=3) rfl
      have fz3:=BG.blk.frozen 3
      have x4:=BG.blk.cell (i:=4) rfl
      have fz4:=BG.blk.frozen 4
      have x5:=BG.blk.cell (i:=5) rfl
      have fz5:=BG.blk.frozen 5
      have x6:=BG.blk.cell (i:=6) rfl
      have fz6:=BG.blk.frozen 6
      have BS:=Pw (a0:=.int .i64 p_id) (a1:=.bool p_on) (a2:=.int .i64 p_fr) (a3:=.int .i64 p_to) (a4:=.bool p_vi) (a5:=.int .i64 p_no) (a6:=.slice ap np cp) BG
      have HCF:Hid (Chg (λx=>x=g9) wb (((((((wb.setCell ⟨g9,0,none⟩ (.int .i64 p_id)).setCell ⟨g9,1,none⟩ (.bool p_on)).setCell ⟨g9,2,none⟩ (.int .i64 p_fr)).setCell ⟨g9,3,none⟩ (.int .i64 p_to)).setCell ⟨g9,4,none⟩ (.bool p_vi)).setCell ⟨g9,5,none⟩ (.int .i64 p_no)).setCell ⟨g9,6,none⟩ (.slice ap np cp))):=Kj
      have HR15:Hid (FR D b w (((((((wb.setCell ⟨g9,0,none⟩ (.int .i64 p_id)).setCell ⟨g9,1,none⟩ (.bool p_on)).setCell ⟨g9,2,none⟩ (.int .i64 p_fr)).setCell ⟨g9,3,none⟩ (.int .i64 p_to)).setCell ⟨g9,4,none⟩ (.bool p_vi)).setCell ⟨g9,5,none⟩ (.int .i64 p_no)).setCell ⟨g9,6,none⟩ (.slice ap np cp)) (ns SC k) (br5 w.heap.size g g2 #[.slice a0 l0 q0,.slice a1 l1 q1,.slice (some ⟨rb,0,none⟩) k c2,.slice a3 l3 q3,.int .i64 (Q8 S).uturn] #[.slice p0 s0 d0,.slice p1 s1 d1,.slice p2 s2 d2,.slice p3 s3 d3] g8 #[.int .i64 y1,.bool b4,.int .i64 y3,.int .i64 y4,.bool y5,.int .i64 y6,.slice av nl cv] g9 #[.int .i64 p_id,.bool p_on,.int .i64 p_fr,.int .i64 p_to,.bool p_vi,.int .i64 p_no,.slice ap np cp])):=H22.out.turn 4 rfl HCF.out BS
      have HO15:Hid (ONt (w.heap.size+1) (((((((wb.setCell ⟨g9,0,none⟩ (.int .i64 p_id)).setCell ⟨g9,1,none⟩ (.bool p_on)).setCell ⟨g9,2,none⟩ (.int .i64 p_fr)).setCell ⟨g9,3,none⟩ (.int .i64 p_to)).setCell ⟨g9,4,none⟩ (.bool p_vi)).setCell ⟨g9,5,none⟩ (.int .i64 p_no)).setCell ⟨g9,6,none⟩ (.slice ap np cp)) (.slice a0 l0 q0) (.slice a1 l1 q1) (.slice (some ⟨rb,0,none⟩) k c2) (.slice a3 l3 q3) (nW (Q8 S) rk) vn vw vr):=O22.out.turnBox BG (by decide) (λ_=>HV9.out) HCF.out
      have HK15:Hid (Chg (λx=>x<Cr) w4 (((((((wb.setCell ⟨g9,0,none⟩ (.int .i64 p_id)).setCell ⟨g9,1,none⟩ (.bool p_on)).setCell ⟨g9,2,none⟩ (.int .i64 p_fr)).setCell ⟨g9,3,none⟩ (.int .i64 p_to)).setCell ⟨g9,4,none⟩ (.bool p_vi)).setCell ⟨g9,5,none⟩ (.int .i64 p_no)).setCell ⟨g9,6,none⟩ (.slice ap np cp))):=K22.out.young HCF.out (λx hx hl=>by have hx':x=g9:=hx;have:=HG9.out;omega)
      clear BS
      refine Qk (i:=8) (by kernel_rfl) (wpOpIn_step rfl (λK hK=>?_))
      go_simp
      refine hK _ _ ⟨Or.inl (by decide),?_⟩
      clear hK K
      refine Qi (by kernel_rfl) ?_ _
      clear hw hcl HSS BG x0 x1 x2 x3 x4 x5 x6 fz0 fz1 fz2 fz3 fz4 fz5 fz6
      go_wp2
      go_meet
      exact⟨g9,rfl,HR15,HO15,HK15⟩
     ·go_simp
      generalize hWa:wd.alloc (.cells #[.int .i64 0,.bool false,.int .i64 0,.int .i64 0,.bool false,.int .i64 0,.slice none 0 0] 48)=wa
      have H21:Hid (FR D b w wa SC (br5 w.heap.size g g2 #[.slice a0 l0 q0,.slice a1 l1 q1,.slice (some ⟨rb,0,none⟩) k c2,.slice a3 l3 q3,.int .i64 (Q8 S).uturn] #[.slice p0 s0 d0,.slice p1 s1 d1,.slice p2 s2 d2,.slice p3 s3 d3] g8 #[.int .i64 y1,.bool b4,.int .i64 y3,.int .i64 y4,.bool y5,.int .i64 y6,.slice av nl cv] wd.heap.size #[.int .i64 0,.bool false,.int .i64 0,.int .i64 0,.bool false,.int .i64 0,.slice none 0 0])):=by unfold Hid;rw[<-hWa];exact H20.out.alloc #[.int .i64 0,.bool false,.int .i64 0,.int .i64 0,.bool false,.int .i64 0,.slice none 0 0] 48 (by decide)
      have O21:Hid (ONt (w.heap.size+1) wa (.slice a0 l0 q0) (.slice a1 l1 q1) (.slice (some ⟨rb,0,none⟩) k c2) (.slice a3 l3 q3) (nW (Q8 S) rk) vn vw vr):=by unfold Hid;rw[<-hWa];exact O20.out.next (Qd _ _)
      have K21:Hid (Chg (λx=>x<Cr) w4 wa):=by unfold Hid;rw[<-hWa];exact K20.out.trans (Chg.nx (Qd _ _))
      have HV9:Hid ((Value.slice (some ⟨rb,0,none⟩) k c2).ownBlock≠some wd.heap.size):=λe=>by have:=(Ql O20.out.rels _ e).2;omega
      have HG9:Hid (w4.heap.size<=wd.heap.size):=K20.out.size
      clear hWa
      generalize wd.heap.size=g9 at *
      have HSS:Hid ((λq=>q.cell? ⟨g,2,none⟩=some (.slice (some ⟨rb,0,none⟩) k c2)/\q.cell? ⟨rb,i9*7,none⟩=some (.int .i64 p_id)/\q.cell? ⟨rb,i9*7+1,none⟩=some (.bool p_on)/\q.cell? ⟨rb,i9*7+2,none⟩=some (.int .i64 p_fr)/\q.cell? ⟨rb,i9*7+3,none⟩=some (.int .i64 p_to)/\q.cell? ⟨rb,i9*7+4,none⟩=some (.bool p_vi)/\q.cell? ⟨rb,i9*7+5,none⟩=some (.int .i64 p_no)/\q.cell? ⟨rb,i9*7+6,none⟩=some (.slice ap np cp)) wa):=HSN.out _ O21.out (H21.out.at 1 rfl)
      refine hK _ _ ⟨Or.inr HSS.out,?_⟩
      clear hK K
      refine Q5 (i:=4) (by kernel_rfl) hcl (λhcl=>wpOpIn_step rfl (λK hK=>?_))
      go_simp
      refine⟨trivial,(callsIn_wide.2 (Qe D b SC (k:Int) _ H21.out.src HOC.out (by omega))).mono ?_⟩
      rintro e7 wb ⟨rfl,hs1,hc1⟩
      rw[HI9.out]
      have H22:=Q0 (H21.out.drawn hs1 hc1)
      have O22:=Q0 (O21.out.src H21.out.src hc1)
      have K22:Hid (Chg (λx=>x<Cr) w4 wb):=K21.out.trans (hc1.mono (λx hx=>by have hx':x=b:=hx;have:=HbL.out;have:=HC2.out;omega))
      have HSS:Hid ((λq=>q.cell? ⟨g,2,none⟩=some (.slice (some ⟨rb,0,none⟩) k c2)/\q.cell? ⟨rb,i9*7,none⟩=some (.int .i64 p_id)/\q.cell? ⟨rb,i9*7+1,none⟩=some (.bool p_on)/\q.cell? ⟨rb,i9*7+2,none⟩=some (.int .i64 p_fr)/\q.cell? ⟨rb,i9*7+3,none⟩=some (.int .i64 p_to)/\q.cell? ⟨rb,i9*7+4,none⟩=some (.bool p_vi)/\q.cell? ⟨rb,i9*7+5,none⟩=some (.int .i64 p_no)/\q.cell? ⟨rb,i9*7+6,none⟩=some (.slice ap np cp)) wb):=HSN.out _ O22.out (H22.out.at 1 rfl)
      refine hK _ _ ⟨Or.inr HSS.out,?_⟩
      clear hK K hs1 hc1
      refine tq (i:=5) (v:=.pointer (some ⟨rb,i9*7,none⟩)) (λhcl=>?_)
      refine tq (i:=6) (v:=.agg #[.int .i64 p_id,.bool p_on,.int .i64 p_fr,.int .i64 p_to,.bool p_vi,.int .i64 p_no,.slice ap np cp]) (λhcl=>?_)
      have BG:BT wb g9 #[.int .i64 0,.bool false,.int .i64 0,.int .i64 0,.bool false,.int .i64 0,.slice none 0 0] 48:=H22.out.at 4 rfl
      have x0:=BG.blk.cell (i:=0) rfl
      have fz0:=BG.blk.frozen 0
      have x1:=BG.blk.cell (i:=1) rfl
      have fz1:=BG.blk.frozen 1
      have x2:=BG.blk.cell (i:=2) rfl
      have fz2:=BG.blk.frozen 2
      have x3:=BG.blk.cell (i:=3) rfl
      have fz3:=BG.blk.frozen 3
      have x4:=BG.blk.cell (i:=4) rfl
      have fz4:=BG.blk.frozen 4
      have x5:=BG.blk.cell (i:=5) rfl
      have fz5:=BG.blk.frozen 5
      have x6:=BG.blk.cell (i:=6) rfl
      have fz6:=BG.blk.frozen 6
      have BS:=Pw (a0:=.int .i64 p_id) (a1:=.bool p_on) (a2:=.int .i64 p_fr) (a3:=.int .i64 p_to) (a4:=.bool p_vi) (a5:=.int .i64 p_no) (a6:=.slice ap np cp) BG
      have HCF:Hid (Chg (λx=>x=g9) wb (((((((wb.setCell ⟨g9,0,none⟩ (.int .i64 p_id)).setCell ⟨g9,1,none⟩ (.bool p_on)).setCell ⟨g9,2,none⟩ (.int .i64 p_fr)).setCell ⟨g9,3,none⟩ (.int .i64 p_to)).setCell ⟨g9,4,none⟩ (.bool p_vi)).setCell ⟨g9,5,none⟩ (.int .i64 p_no)).setCell ⟨g9,6,none⟩ (.slice ap np cp))):=Kj
      have HR15:Hid (FR D b w (((((((wb.setCell ⟨g9,0,none⟩ (.int .i64 p_id)).setCell ⟨g9,1,none⟩ (.bool p_on)).setCell ⟨g9,2,none⟩ (.int .i64 p_fr)).setCell ⟨g9,3,none⟩ (.int .i64 p_to)).setCell ⟨g9,4,none⟩ (.bool p_vi)).setCell ⟨g9,5,none⟩ (.int .i64 p_no)).setCell ⟨g9,6,none⟩ (.slice ap np cp)) (ns SC k) (br5 w.heap.size g g2 #[.slice a0 l0 q0,.slice a1 l1 q1,.slice (some ⟨rb,0,none⟩) k c2,.slice a3 l3 q3,.int .i64 (Q8 S).uturn] #[.slice p0 s0 d0,.slice p1 s1 d1,.slice p2 s2 d2,.slice p3 s3 d3] g8 #[.int .i64 y1,.bool b4,.int .i64 y3,.int .i64 y4,.bool y5,.int .i64 y6,.slice av nl cv] g9 #[.int .i64 p_id,.bool p_on,.int .i64 p_fr,.int .i64 p_to,.bool p_vi,.int .i64 p_no,.slice ap np cp])):=H22.out.turn 4 rfl HCF.out BS
      have HO15:Hid (ONt (w.heap.size+1) (((((((wb.setCell ⟨g9,0,none⟩ (.int .i64 p_id)).setCell ⟨g9,1,none⟩ (.bool p_on)).setCell ⟨g9,2,none⟩ (.int .i64 p_fr)).setCell ⟨g9,3,none⟩ (.int .i64 p_to)).setCell ⟨g9,4,none⟩ (.bool p_vi)).setCell ⟨g9,5,none⟩ (.int .i64 p_no)).setCell ⟨g9,6,none⟩ (.slice ap np cp)) (.slice a0 l0 q0) (.slice a1 l1 q1) (.slice (some ⟨rb,0,none⟩) k c2) (.slice a3 l3 q3) (nW (Q8 S) rk) vn vw vr):=O22.out.turnBox BG (by decide) (λ_=>HV9.out) HCF.out
      have HK15:Hid (Chg (λx=>x<Cr) w4 (((((((wb.setCell ⟨g9,0,none⟩ (.int .i64 p_id)).setCell ⟨g9,1,none⟩ (.bool p_on)).setCell ⟨g9,2,none⟩ (.int .i64 p_fr)).setCell ⟨g9,3,none⟩ (.int .i64 p_to)).setCell ⟨g9,4,none⟩ (.bool p_vi)).setCell ⟨g9,5,none⟩ (.int .i64 p_no)).setCell ⟨g9,6,none⟩ (.slice ap np cp))):=K22.out.young HCF.out (λx hx hl=>by have hx':x=g9:=hx;have:=HG9.out;omega)
      clear BS
      refine Qk (i:=8) (by kernel_rfl) (wpOpIn_step rfl (λK hK=>?_))
      go_simp
      refine hK _ _ ⟨Or.inl (by decide),?_⟩
      clear hK K
      refine Qi (by kernel_rfl) ?_ _
      clear hw hcl HSS BG x0 x1 x2 x3 x4 x5 x6 fz0 fz1 fz2 fz3 fz4 fz5 fz6
      go_wp2
      go_meet
      exact⟨g9,rfl,HR15,HO15,HK15⟩
    case rest=>
    obtain⟨g9,rfl,H29,O29,K29⟩:=hcut
    have HSQ:Hid (∀q S',FR D b w q S' (br5 w.heap.size g g2 #[.slice a0 l0 q0,.slice a1 l1 q1,.slice (some ⟨rb,0,none⟩) k c2,.slice a3 l3 q3,.int .i64 (Q8 S).uturn] #[.slice p0 s0 d0,.slice p1 s1 d1,.slice p2 s2 d2,.slice p3 s3 d3] g8 #[.int .i64 y1,.bool b4,.int .i64 y3,.int .i64 y4,.bool y5,.int .i64 y6,.slice av nl cv] g9 #[.int .i64 p_id,.bool p_on,.int .i64 p_fr,.int .i64 p_to,.bool p_vi,.int .i64 p_no,.slice ap np cp])->(λq=>q.cell? ⟨g9,1,none⟩=some (.bool p_on)/\q.cell? ⟨g9,2,none⟩=some (.int .i64 p_fr)/\q.cell? ⟨g9,3,none⟩=some (.int .i64 p_to)/\q.cell? ⟨g9,4,none⟩=some (.bool p_vi)/\q.cell? ⟨g9,5,none⟩=some (.int .i64 p_no)/\q.cell? ⟨g9,6,none⟩=some (.slice ap np cp)) q):=λq S' h=>⟨(h.at 4 rfl).blk.cell (i:=1) rfl,(h.at 4 rfl).blk.cell (i:=2) rfl,(h.at 4 rfl).blk.cell (i:=3) rfl,(h.at 4 rfl).blk.cell (i:=4) rfl,(h.at 4 rfl).blk.cell (i:=5) rfl,(h.at 4 rfl).blk.cell (i:=6) rfl⟩
    clear H12 O12 P12 K12
    go_upto_region 16 with fail
    have H30:=Q0 (H29.out.next (show Nx wc wc.drew from(Below.refl _ _).drew))
    have O30:=Q0 (O29.out.next (show Nx wc wc.drew from(Below.refl _ _).drew))
    have K30:Hid (Chg (λx=>x<Cr) w4 wc.drew):=K29.out.trans (Chg.nx (show Nx wc wc.drew from(Below.refl _ _).drew))
    have HSS:Hid ((λq=>q.cell? ⟨g9,1,none⟩=some (.bool p_on)/\q.cell? ⟨g9,2,none⟩=some (.int .i64 p_fr)/\q.cell? ⟨g9,3,none⟩=some (.int .i64 p_to)/\q.cell? ⟨g9,4,none⟩=some (.bool p_vi)/\q.cell? ⟨g9,5,none⟩=some (.int .i64 p_no)/\q.cell? ⟨g9,6,none⟩=some (.slice ap np cp)) wc.drew):=HSQ.out _ _ H30.out
    refine(wpIn_wide (n:=9)).1 ?_
    refine Q9 (c:=15) (S:=λq=>q.cell? ⟨g9,1,none⟩=some (.bool p_on)/\q.cell? ⟨g9,2,none⟩=some (.int .i64 p_fr)/\q.cell? ⟨g9,3,none⟩=some (.int .i64 p_to)/\q.cell? ⟨g9,4,none⟩=some (.bool p_vi)/\q.cell? ⟨g9,5,none⟩=some (.int .i64 p_no)/\q.cell? ⟨g9,6,none⟩=some (.slice ap np cp)) hmx (by kernel_rfl) (λhw hcl=>?_)
    generalize wc.drew=wd at *
    refine tq (i:=0) (v:=.pointer (some ⟨g9,1,none⟩)) (λhcl=>?_)
    refine tq (i:=1) (v:=.bool p_on) (λhcl=>?_)
    refine tq (i:=2) (v:=.pointer (some ⟨g9,2,none⟩)) (λhcl=>?_)
    refine tq (i:=3) (v:=.int .i64 p_fr) (λhcl=>?_)
    refine tq (i:=4) (v:=.pointer (some ⟨g9,3,none⟩)) (λhcl=>?_)
    refine tq (i:=5) (v:=.int .i64 p_to) (λhcl=>?_)
    refine tq (i:=6) (v:=.pointer (some ⟨g9,4,none⟩)) (λhcl=>?_)
    refine tq (i:=7) (v:=.bool p_vi) (λhcl=>?_)
    refine tq (i:=8) (v:=.pointer (some ⟨g9,5,none⟩)) (λhcl=>?_)
    refine tq (i:=9) (v:=.int .i64 p_no) (λhcl=>?_)
    refine tq (i:=10) (v:=.pointer (some ⟨g9,6,none⟩)) (λhcl=>?_)
    refine tq (i:=11) (v:=.slice ap np cp) (λhcl=>?_)
    refine Q5 (i:=12) (by kernel_rfl) hcl (λhcl=>wpOpIn_step rfl (λK hK=>?_))
    go_simp
    generalize hWe:wd.alloc (.cells #[] 2)=we
    have HXe:Hid (Nx wd we):=by unfold Hid;rw[<-hWe];exact Qd _ _
    have HZe:Hid (Qr 0 we (.slice (some ⟨wd.heap.size,0,none⟩) 0 0) []):=⟨_,_,rfl,Nat.zero_le _,λh=>absurd h (Nat.lt_irrefl _)⟩
    clear hWe
    have H31:=Q0 (H30.out.next HXe.out)
    have O31:=Q0 (O30.out.next HXe.out)
    have K31:Hid (Chg (λx=>x<Cr) w4 we):=K30.out.trans (Chg.nx HXe.out)
    have HSS:Hid ((λq=>q.cell? ⟨g9,1,none⟩=some (.bool p_on)/\q.cell? ⟨g9,2,none⟩=some (.int .i64 p_fr)/\q.cell? ⟨g9,3,none⟩=some (.int .i64 p_to)/\q.cell? ⟨g9,4,none⟩=some (.bool p_vi)/\q.cell? ⟨g9,5,none⟩=some (.int .i64 p_no)/\q.cell? ⟨g9,6,none⟩=some (.slice ap np cp)) we):=HSQ.out _ _ H31.out
    refine hK _ _ ⟨Or.inr HSS.out,?_⟩
    clear hK K
    refine Q5 (i:=13) (by kernel_rfl) hcl (λhcl=>wpOpIn_step rfl (λK hK=>?_))
    go_simp
    refine⟨trivial,(callsIn_wide.2 (Ph (w.heap.size+1) 0 (.slice ap np cp) (.slice (some ⟨wd.heap.size,0,none⟩) 0 0) p_wy [] we (HPW.out we O31.out) HZe.out (by have:=HPL.out;omega) (by simp))).mono ?_⟩
    rintro e7 wg ⟨⟨uu,rfl,hou⟩,hxg⟩
    have H32:=Q0 (H31.out.next hxg)
    have O32:=Q0 (O31.out.next hxg)
    have K32:Hid (Chg (λx=>x<Cr) w4 wg):=K31.out.trans (Chg.nx hxg)
    rw[List.append_nil] at hou
    obtain⟨au,cu,rfl⟩:=Q3 hou
    have P32:Hid (Qb wr.heap.size wg (.slice au p_wy.length cu) p_wy):=hou.base (by have h1:=HWG.out;have h2:=(show BT we g8 #[.int .i64 y1,.bool b4,.int .i64 y3,.int .i64 y4,.bool y5,.int .i64 y6,.slice av nl cv] 48 from H31.out.at 3 rfl).lt;omega)
    rw[HPN.out] at P32 ⊢
    have HSS:Hid ((λq=>q.cell? ⟨g9,1,none⟩=some (.bool p_on)/\q.cell? ⟨g9,2,none⟩=some (.int .i64 p_fr)/\q.cell? ⟨g9,3,none⟩=some (.int .i64 p_to)/\q.cell? ⟨g9,4,none⟩=some (.bool p_vi)/\q.cell? ⟨g9,5,none⟩=some (.int .i64 p_no)/\q.cell? ⟨g9,6,none⟩=some (.slice ap np cp)) wg):=HSQ.out _ _ H32.out
    refine hK _ _ ⟨Or.inr HSS.out,?_⟩
    clear hK K hou hxg
    refine tq (i:=14) (v:=.agg #[.int .i64 0,.bool p_on,.int .i64 p_fr,.int .i64 p_to,.bool p_vi,.int .i64 p_no,.slice au np cu]) (λhcl=>?_)
    have BG:BT wg g8 #[.int .i64 y1,.bool b4,.int .i64 y3,.int .i64 y4,.bool y5,.int .i64 y6,.slice av nl cv] 48:=H32.out.at 3 rfl
    have x0:=BG.blk.cell (i:=0) rfl
    have fz0:=BG.blk.frozen 0
    have x1:=BG.blk.cell (i:=1) rfl
    have fz1:=BG.blk.frozen 1
    have x2:=BG.blk.cell (i:=2) rfl
    have fz2:=BG.blk.frozen 2
    have x3:=BG.blk.cell (i:=3) rfl
    have fz3:=BG.blk.frozen 3
    have x4:=BG.blk.cell (i:=4) rfl
    have fz4:=BG.blk.frozen 4
    have x5:=BG.blk.cell (i:=5) rfl
    have fz5:=BG.blk.frozen 5
    have x6:=BG.blk.cell (i:=6) rfl
    have fz6:=BG.blk.frozen 6
    have BS:=Pw (a0:=.int .i64 0) (a1:=.bool p_on) (a2:=.int .i64 p_fr) (a3:=.int .i64 p_to) (a4:=.bool p_vi) (a5:=.int .i64 p_no) (a6:=.slice au np cu) BG
    have HCF:Hid (Chg (λx=>x=g8) wg (((((((wg.setCell ⟨g8,0,none⟩ (.int .i64 0)).setCell ⟨g8,1,none⟩ (.bool p_on)).setCell ⟨g8,2,none⟩ (.int .i64 p_fr)).setCell ⟨g8,3,none⟩ (.int .i64 p_to)).setCell ⟨g8,4,none⟩ (.bool p_vi)).setCell ⟨g8,5,none⟩ (.int .i64 p_no)).setCell ⟨g8,6,none⟩ (.slice au np cu))):=Kj
    have H33:Hid (FR D b w (((((((wg.setCell ⟨g8,0,none⟩ (.int .i64 0)).setCell ⟨g8,1,none⟩ (.bool p_on)).setCell ⟨g8,2,none⟩ (.int .i64 p_fr)).setCell ⟨g8,3,none⟩ (.int .i64 p_to)).setCell ⟨g8,4,none⟩ (.bool p_vi)).setCell ⟨g8,5,none⟩ (.int .i64 p_no)).setCell ⟨g8,6,none⟩ (.slice au np cu)) (ns SC k) (br4 w.heap.size g g2 #[.slice a0 l0 q0,.slice a1 l1 q1,.slice (some ⟨rb,0,none⟩) k c2,.slice a3 l3 q3,.int .i64 (Q8 S).uturn] #[.slice p0 s0 d0,.slice p1 s1 d1,.slice p2 s2 d2,.slice p3 s3 d3] g8 #[.int .i64 0,.bool p_on,.int .i64 p_fr,.int .i64 p_to,.bool p_vi,.int .i64 p_no,.slice au np cu])):=(show FR D b w (((((((wg.setCell ⟨g8,0,none⟩ (.int .i64 0)).setCell ⟨g8,1,none⟩ (.bool p_on)).setCell ⟨g8,2,none⟩ (.int .i64 p_fr)).setCell ⟨g8,3,none⟩ (.int .i64 p_to)).setCell ⟨g8,4,none⟩ (.bool p_vi)).setCell ⟨g8,5,none⟩ (.int .i64 p_no)).setCell ⟨g8,6,none⟩ (.slice au np cu)) (ns SC k) (br5 w.heap.size g g2 #[.slice a0 l0 q0,.slice a1 l1 q1,.slice (some ⟨rb,0,none⟩) k c2,.slice a3 l3 q3,.int .i64 (Q8 S).uturn] #[.slice p0 s0 d0,.slice p1 s1 d1,.slice p2 s2 d2,.slice p3 s3 d3] g8 #[.int .i64 0,.bool p_on,.int .i64 p_fr,.int .i64 p_to,.bool p_vi,.int .i64 p_no,.slice au np cu] g9 #[.int .i64 p_id,.bool p_on,.int .i64 p_fr,.int .i64 p_to,.bool p_vi,.int .i64 p_no,.slice ap np cp]) from H32.out.turn 3 rfl HCF.out BS).less 4
    have O33:Hid (ONt (w.heap.size+1) (((((((wg.setCell ⟨g8,0,none⟩ (.int .i64 0)).setCell ⟨g8,1,none⟩ (.bool p_on)).setCell ⟨g8,2,none⟩ (.int .i64 p_fr)).setCell ⟨g8,3,none⟩ (.int .i64 p_to)).setCell ⟨g8,4,none⟩ (.bool p_vi)).setCell ⟨g8,5,none⟩ (.int .i64 p_no)).setCell ⟨g8,6,none⟩ (.slice au np cu)) (.slice a0 l0 q0) (.slice a1 l1 q1) (.slice (some ⟨rb,0,none⟩) k c2) (.slice a3 l3 q3) (nW (Q8 S) rk) vn vw vr):=O32.out.turnBox BG (by decide) (λ_=>HV8.out) HCF.out
    have P33:Hid (Qb wr.heap.size (((((((wg.setCell ⟨g8,0,none⟩ (.int .i64 0)).setCell ⟨g8,1,none⟩ (.bool p_on)).setCell ⟨g8,2,none⟩ (.int .i64 p_fr)).setCell ⟨g8,3,none⟩ (.int .i64 p_to)).setCell ⟨g8,4,none⟩ (.bool p_vi)).setCell ⟨g8,5,none⟩ (.int .i64 p_no)).setCell ⟨g8,6,none⟩ (.slice au np cu)) (.slice au np cu) p_wy):=H32.out.rowTurn 3 rfl P32.out HCF.out
    have K33:Hid (Chg (λx=>x<Cr) w4 (((((((wg.setCell ⟨g8,0,none⟩ (.int .i64 0)).setCell ⟨g8,1,none⟩ (.bool p_on)).setCell ⟨g8,2,none⟩ (.int .i64 p_fr)).setCell ⟨g8,3,none⟩ (.int .i64 p_to)).setCell ⟨g8,4,none⟩ (.bool p_vi)).setCell ⟨g8,5,none⟩ (.int .i64 p_no)).setCell ⟨g8,6,none⟩ (.slice au np cu))):=K32.out.young HCF.out (λx hx hl=>by have hx':x=g8:=hx;have:=HG8.out;omega)
    clear BS
    refine Qk (i:=15) (by kernel_rfl) (wpOpIn_step rfl (λK hK=>?_))
    go_simp
    refine hK _ _ ⟨Or.inl (by decide),?_⟩
    clear hK K
    refine Qi (by kernel_rfl) ?_ _
    clear hw hcl HSS BG x0 x1 x2 x3 x4 x5 x6 fz0 fz1 fz2 fz3 fz4 fz5 fz6 H31 O31 K31 H32 O32 K32 P32 H30 O30 K30 HCF
    generalize (((((((wg.setCell ⟨g8,0,none⟩ (.int .i64 0)).setCell ⟨g8,1,none⟩ (.bool p_on)).setCell ⟨g8,2,none⟩ (.int .i64 p_fr)).setCell ⟨g8,3,none⟩ (.int .i64 p_to)).setCell ⟨g8,4,none⟩ (.bool p_vi)).setCell ⟨g8,5,none⟩ (.int .i64 p_no)).setCell ⟨g8,6,none⟩ (.slice au np cu))=w33 at *
    have HO17:Hid (SOk (ns SC k)):=Qj HOC.out _
    clear H29 O29 K29
    go_wp2_with fail
    refine(Qe D b (ns SC k) 3 w33 H33.out.src HO17.out (by omega)).mono ?_
    rintro e w34 ⟨rfl,hs1,hc1⟩
    have H34:=Q0 (H33.out.drawn hs1 hc1)
    have O34:=Q0 (O33.out.src H33.out.src hc1)
    have P34:=Q0 (H33.out.rowDrawn P33.out hc1)
    have K34:Hid (Chg (λx=>x<Cr) w4 w34):=K33.out.trans (hc1.mono (λx hx=>by have hx':x=b:=hx;have:=HbL.out;have:=HC2.out;omega))
    clear hs1 hc1 H33 O33 P33 K33
    rw[<-H5C.out] at H34
    generalize nv (ns SC k) 3=dq3 at *
    by_cases hdq3:dq3=0
    ·have hzc:zz=⟨0,!p_on,p_fr,p_to,p_vi,p_no,p_wy⟩:=by rw[HZC.out,if_pos hdq3]
     have BG:BT w34 g8 #[.int .i64 0,.bool p_on,.int .i64 p_fr,.int .i64 p_to,.bool p_vi,.int .i64 p_no,.slice au np cu] 48:=H34.out.at 3 rfl
     have x1:=BG.blk.cell (i:=1) rfl
     have fz1:=BG.blk.frozen 1
     have H35:Hid (FR D b w (w34.setCell ⟨g8,1,none⟩ (.bool (!p_on))) S5 (br4 w.heap.size g g2 #[.slice a0 l0 q0,.slice a1 l1 q1,.slice (some ⟨rb,0,none⟩) k c2,.slice a3 l3 q3,.int .i64 (Q8 S).uturn] #[.slice p0 s0 d0,.slice p1 s1 d1,.slice p2 s2 d2,.slice p3 s3 d3] g8 #[.int .i64 0,.bool (!p_on),.int .i64 p_fr,.int .i64 p_to,.bool p_vi,.int .i64 p_no,.slice au np cu])):=H34.out.set 3 rfl 1 _
     have O35:Hid (ONt (w.heap.size+1) (w34.setCell ⟨g8,1,none⟩ (.bool (!p_on))) (.slice a0 l0 q0) (.slice a1 l1 q1) (.slice (some ⟨rb,0,none⟩) k c2) (.slice a3 l3 q3) (nW (Q8 S) rk) vn vw vr):=O34.out.turnBox BG (by decide) (λ_=>HV8.out) (Chg.set _ _ _ rfl)
     have P35:=Q0 (H34.out.rowTurn 3 rfl P34.out (Chg.set g8 1 (.bool (!p_on)) rfl))
     have K35:Hid (Chg (λx=>x<Cr) w4 (w34.setCell ⟨g8,1,none⟩ (.bool (!p_on)))):=K34.out.young (Chg.set (S:=λx=>x=g8) _ _ _ rfl) (λx hx hl=>by have hx':x=g8:=hx;have:=HG8.out;omega)
     have HR:Hid (zz.ways.length=np/\FR D b w (w34.setCell ⟨g8,1,none⟩ (.bool (!p_on))) S5 (br4 w.heap.size g g2 #[.slice a0 l0 q0,.slice a1 l1 q1,.slice (some ⟨rb,0,none⟩) k c2,.slice a3 l3 q3,.int .i64 (Q8 S).uturn] #[.slice p0 s0 d0,.slice p1 s1 d1,.slice p2 s2 d2,.slice p3 s3 d3] g8 #[.int .i64 0,.bool zz.only,.int .i64 zz.frm,.int .i64 zz.to,.bool zz.via,.int .i64 zz.node,.slice au np cu])/\Qb wr.heap.size (w34.setCell ⟨g8,1,none⟩ (.bool (!p_on))) (.slice au np cu) zz.ways):=by
      unfold Hid
      rw[hzc]
      exact⟨HPN.out,H35.out,P35.out⟩
     subst hdq3
     clear hzc H35 P35 BG HZC
     go_wp2
     go_meet
     exact⟨0,np,cu,au,HR.out.1,HR.out.2.1,O35,HR.out.2.2,K35⟩
    ·have hzc:zz=⟨0,p_on,p_fr,p_to,p_vi,p_no,p_wy⟩:=by rw[HZC.out,if_neg hdq3]
     have hdq3':(dq3==0)=false:=by simpa using hdq3
     have HR:Hid (zz.ways.length=np/\FR D b w w34 S5 (br4 w.heap.size g g2 #[.slice a0 l0 q0,.slice a1 l1 q1,.slice (some ⟨rb,0,none⟩) k c2,.slice a3 l3 q3,.int .i64 (Q8 S).uturn] #[.slice p0 s0 d0,.slice p1 s1 d1,.slice p2 s2 d2,.slice p3 s3 d3] g8 #[.int .i64 0,.bool zz.only,.int .i64 zz.frm,.int .i64 zz.to,.bool zz.via,.int .i64 zz.node,.slice au np cu])/\Qb wr.heap.size w34 (.slice au np cu) zz.ways):=by
      unfold Hid
      rw[hzc]
      exact⟨HPN.out,H34.out,P34.out⟩
     clear hzc HZC hdq3
     go_wp2
     go_meet
     exact⟨0,np,cu,au,HR.out.1,HR.out.2.1,O34,HR.out.2.2,K34⟩
  case rest=>
  clear HZ HZ5 HSC HOC H12 O12 P12 K12 HYE HNL
  obtain⟨i1,nl,cv,av,HNL,H13,O13,P13,K13⟩:=hcut
  obtain⟨z1,z2,z3,z4,z5,z6,z7⟩:=zz
  simp only at HNL H13 P13 HSTEP ⊢
  have BG:BT wc g8 #[.int .i64 i1,.bool z2,.int .i64 z3,.int .i64 z4,.bool z5,.int .i64 z6,.slice av nl cv] 48:=H13.out.at 3 rfl
  have x0:=BG.blk.cell (i:=0) rfl
  have fz0:=BG.blk.frozen 0
  go_upto_region 20 with fail
  have H14:Hid (FR D b w (wc.setCell ⟨g8,0,none⟩ (.int .i64 idk)) S5 (br4 w.heap.size g g2 #[.slice a0 l0 q0,.slice a1 l1 q1,.slice a2 k c2,.slice a3 l3 q3,.int .i64 (Q8 S).uturn] #[.slice p0 s0 d0,.slice p1 s1 d1,.slice p2 s2 d2,.slice p3 s3 d3] g8 #[.int .i64 idk,.bool z2,.int .i64 z3,.int .i64 z4,.bool z5,.int .i64 z6,.slice av nl cv])):=H13.out.set 3 rfl 0 _
  have O14:Hid (ONt (w.heap.size+1) (wc.setCell ⟨g8,0,none⟩ (.int .i64 idk)) (.slice a0 l0 q0) (.slice a1 l1 q1) (.slice a2 k c2) (.slice a3 l3 q3) (nW (Q8 S) rk) vn vw vr):=O13.out.turnBox (show BT wc g8 #[.int .i64 i1,.bool z2,.int .i64 z3,.int .i64 z4,.bool z5,.int .i64 z6,.slice av nl cv] 48 from H13.out.at 3 rfl) (by decide) (λ_=>HV8.out) (Chg.set _ _ _ rfl)
  have P14:=Q0 (H13.out.rowTurn 3 rfl P13.out (Chg.set g8 0 (.int .i64 idk) rfl))
  have K14:Hid (Chg (λx=>x<Cr) w4 (wc.setCell ⟨g8,0,none⟩ (.int .i64 idk))):=K13.out.young (Chg.set (S:=λx=>x=g8) _ _ _ rfl) (λx hx hl=>by have hx':x=g8:=hx;have:=HG8.out;omega)
  clear x0 fz0 BG H13 O13 P13 K13
  generalize wc.setCell ⟨g8,0,none⟩ (.int .i64 idk)=w14 at *
  have hv2:=Qt HO5.out 2
  go_wp2_with fail
  refine(Qe D b S5 2 w14 H14.out.src HO5.out (by omega)).mono ?_
  rintro e w15 ⟨rfl,hs1,hc1⟩
  have H15:=Q0 (H14.out.drawn hs1 hc1)
  have O15:=Q0 (O14.out.src H14.out.src hc1)
  have P15:=Q0 (H14.out.rowDrawn P14.out hc1)
  have K15:Hid (Chg (λx=>x<Cr) w4 w15):=K14.out.trans (hc1.mono (λx hx=>by have hx':x=b:=hx;have:=HbL.out;have:=HC2.out;omega))
  clear hs1 hc1 H14 O14 P14 K14
  generalize nv S5 2=dd2 at *
  have HROW:Hid (w15.ownsRow (w.heap.size+1) 48 7 (.slice a2 k c2) k (Zz rk vr)):=by
   have h:=O15.out.rels
   unfold Ir at h
   replace h:w15.ownsRow (w.heap.size+1) 48 7 (.slice a2 k c2) rk.length (Zz rk vr):=h
   rw[HLR.out] at h
   exact h
  have nn2:w15.cell? ⟨g,2,none⟩=some (.slice a2 k c2):=(H15.out.at 1 rfl).blk.cell (i:=2) rfl
  have yy0:w15.cell? ⟨g8,0,none⟩=some (.int .i64 idk):=(H15.out.at 3 rfl).blk.cell (i:=0) rfl
  have yy1:w15.cell? ⟨g8,1,none⟩=some (.bool z2):=(H15.out.at 3 rfl).blk.cell (i:=1) rfl
  have yy2:w15.cell? ⟨g8,2,none⟩=some (.int .i64 z3):=(H15.out.at 3 rfl).blk.cell (i:=2) rfl
  have yy3:w15.cell? ⟨g8,3,none⟩=some (.int .i64 z4):=(H15.out.at 3 rfl).blk.cell (i:=3) rfl
  have yy4:w15.cell? ⟨g8,4,none⟩=some (.bool z5):=(H15.out.at 3 rfl).blk.cell (i:=4) rfl
  have yy5:w15.cell? ⟨g8,5,none⟩=some (.int .i64 z6):=(H15.out.at 3 rfl).blk.cell (i:=5) rfl
  have yy6:w15.cell? ⟨g8,6,none⟩=some (.slice av nl cv):=(H15.out.at 3 rfl).blk.cell (i:=6) rfl
  have hzr:w.heap.size+1<=w15.heap.size:=by have h1:=HC2.out;have h2:=HR4s.out;have h3:=K15.out.size;omega
  go_wp2_with (at_builtin;refine Xu Wu Tryz.underlying25 rfl (by decide) (by decide) rfl _ _ rfl (w.heap.size+1) k (.slice a2 k c2) (Zz rk vr) [.int .i64 idk,.bool z2,.int .i64 z3,.int .i64 z4,.bool z5,.int .i64 z6,.slice av nl cv] w15 rfl HROW.out rfl rfl (by intro u hu;simp at hu;rcases hu with rfl|rfl|rfl|rfl|rfl|rfl|rfl<;>rfl) (by omega) hzr ?_)
  intro a9 c9 w16 r1 r2 r3
  have H16:Hid (FR D b w w16 (ns S5 2) (br3 w.heap.size g g2 #[.slice a0 l0 q0,.slice a1 l1 q1,.slice a2 k c2,.slice a3 l3 q3,.int .i64 (Q8 S).uturn] #[.slice p0 s0 d0,.slice p1 s1 d1,.slice p2 s2 d2,.slice p3 s3 d3])):=by
   have hl:FR D b w w15 (ns S5 2) (br3 w.heap.size g g2 #[.slice a0 l0 q0,.slice a1 l1 q1,.slice a2 k c2,.slice a3 l3 q3,.int .i64 (Q8 S).uturn] #[.slice p0 s0 d0,.slice p1 s1 d1,.slice p2 s2 d2,.slice p3 s3 d3]):=H15.out.less 3
   refine hl.growX r2 (λp hp e=>?_) (λx hx=>?_) (λx hx=>?_)
   ·have hb:=(hl.bx p hp).1
    refine hb.neRow HROW.out ?_ e
    simp only[br3,List.mem_cons,List.not_mem_nil,or_false] at hp
    rcases hp with rfl|rfl|rfl<;>simp
   ·obtain⟨cs,hb⟩:=Yn HROW.out hx.symm
    exact⟨cs,_,hb,by decide,by decide⟩
   ·have:=(Ql HROW.out x hx.symm).1
    omega
  have O16:Hid (ONt (w.heap.size+1) w16 (.slice a0 l0 q0) (.slice a1 l1 q1) (.slice a9 (k+1) c9) (.slice a3 l3 q3) (nW (Q8 S) (rk++[⟨idk,z2,z3,z4,z5,z6,z7⟩])) vn vw (upd vr rk.length (.slice av nl cv))):=
   O15.out.addRel (z:=wr.heap.size) HIZ.out (x:=⟨idk,z2,z3,z4,z5,z6,z7⟩) (va:=.slice av nl cv) (by show w16.ownsRow _ _ 7 _ (rk.length+1) _;rw[HLR.out];exact r1) r2 P15.out HZC.out
  have K16:Hid (Chg (λx=>x<Cr) w4 w16):=K15.out.young r2 (λx hx hl=>by have:=HVk.out x hx.symm;omega)
  have HV16:Hid (∀y,(Value.slice a9 (k+1) c9).ownBlock=some y->w4.heap.size<=y):=λy hy=>(r3 y hy).elim (HVk.out y) (λh=>Nat.le_trans K15.out.size h)
  clear r1 r2 r3 nn2 yy0 yy1 yy2 yy3 yy4 yy5 yy6
  have BN:BT w16 g #[.slice a0 l0 q0,.slice a1 l1 q1,.slice a2 k c2,.slice a3 l3 q3,.int .i64 (Q8 S).uturn] 28:=H16.out.at 1 rfl
  have nn2:=BN.blk.cell (i:=2) rfl
  have fz2:=BN.blk.frozen 2
  have H17:Hid (FR D b w (w16.setCell ⟨g,2,none⟩ (.slice a9 (k+1) c9)) (ns S5 2) (br3 w.heap.size g g2 #[.slice a0 l0 q0,.slice a1 l1 q1,.slice a9 (k+1) c9,.slice a3 l3 q3,.int .i64 (Q8 S).uturn] #[.slice p0 s0 d0,.slice p1 s1 d1,.slice p2 s2 d2,.slice p3 s3 d3])):=H16.out.set 1 rfl 2 _
  have O17:=Q0 (O16.out.turnBox BN (by decide) (λe=>absurd e (by decide)) (Chg.set g 2 (.slice a9 (k+1) c9) rfl))
  have K17:Hid (Chg (λx=>x<Cr) w4 (w16.setCell ⟨g,2,none⟩ (.slice a9 (k+1) c9))):=K16.out.trans (Chg.set g 2 (.slice a9 (k+1) c9) (show g<Cr from HG2.out))
  have HF1:Hid (FR D b w (w16.setCell ⟨g,2,none⟩ (.slice a9 (k+1) c9)) (Vy (Q8 S) R x0 (k+1)).S (br3 w.heap.size g g2 #[.slice a0 l0 q0,.slice a1 l1 q1,.slice a9 (k+1) c9,.slice a3 l3 q3,.int .i64 (Q8 S).uturn] #[.slice p0 s0 d0,.slice p1 s1 d1,.slice p2 s2 d2,.slice p3 s3 d3])):=by unfold Hid;rw[HSTEP.out];exact H17.out
  have HF2:Hid (∃vr,ONt (w.heap.size+1) (w16.setCell ⟨g,2,none⟩ (.slice a9 (k+1) c9)) (.slice a0 l0 q0) (.slice a1 l1 q1) (.slice a9 (k+1) c9) (.slice a3 l3 q3) (nW (Q8 S) (Vy (Q8 S) R x0 (k+1)).rels) vn vw vr):=by unfold Hid;rw[HSTEP.out];exact⟨_,O17.out⟩
  have HF3:Hid (idk+(1+dd2)=(Vy (Q8 S) R x0 (k+1)).id):=by unfold Hid;rw[HSTEP.out]
  clear H16 O16 K16 H17 O17 H15 O15 P15 K15 HROW
  go_wp2
  go_roundw
  case rel=>exact⟨k+1,c9,a9,by omega,by go_num,by rw[HF3.out],HF1,HF2,K17,HV16⟩
  case measure=>simp[intOf];omega
 have hkc:k=cn:=by omega
 subst hkc
 rw[<-HXI.out] at Hk OLk ⊢
 obtain⟨vr,hOk⟩:=OLk.out
 have HRN:Hid (Xq S=nW (Q8 S) (riX S).rels):=by unfold Hid Xq;rw[HL1.out,if_neg hz]
 have HRS:Hid (riS S=(riX S).S):=by unfold Hid riS;rw[HL1.out,if_neg hz]
 have Ok:=Q0 hOk
 clear hOk OLk hlt hk
 have nc0:wr.cell? ⟨g,0,none⟩=some (.slice a0 l0 q0):=(Hk.out.at 1 rfl).blk.cell (i:=0) rfl
 have nc1:wr.cell? ⟨g,1,none⟩=some (.slice a1 l1 q1):=(Hk.out.at 1 rfl).blk.cell (i:=1) rfl
 have nc2:wr.cell? ⟨g,2,none⟩=some (.slice a2 k c2):=(Hk.out.at 1 rfl).blk.cell (i:=2) rfl
 have nc3:wr.cell? ⟨g,3,none⟩=some (.slice a3 l3 q3):=(Hk.out.at 1 rfl).blk.cell (i:=3) rfl
 have nc4:wr.cell? ⟨g,4,none⟩=some (.int .i64 (Q8 S).uturn):=(Hk.out.at 1 rfl).blk.cell (i:=4) rfl
 have BR:BT wr w.heap.size #[.slice none 0 0,.slice none 0 0,.slice none 0 0,.slice none 0 0,.int .i64 0] 28:=Hk.out.at 0 rfl
 have x0:=BR.blk.cell (i:=0) rfl
 have fz0:=BR.blk.frozen 0
 have x1:=BR.blk.cell (i:=1) rfl
 have fz1:=BR.blk.frozen 1
 have x2:=BR.blk.cell (i:=2) rfl
 have fz2:=BR.blk.frozen 2
 have x3:=BR.blk.cell (i:=3) rfl
 have fz3:=BR.blk.frozen 3
 have x4:=BR.blk.cell (i:=4) rfl
 have fz4:=BR.blk.frozen 4
 have BS:=Tl (a0:=.slice a0 l0 q0) (a1:=.slice a1 l1 q1) (a2:=.slice a2 k c2) (a3:=.slice a3 l3 q3) (a4:=.int .i64 (Q8 S).uturn) BR
 have P0:Hid (_=some (Value.slice a0 l0 q0)):=BS.blk.cell (i:=0) rfl
 have P1:Hid (_=some (Value.slice a1 l1 q1)):=BS.blk.cell (i:=1) rfl
 have P2:Hid (_=some (Value.slice a2 k c2)):=BS.blk.cell (i:=2) rfl
 have P3:Hid (_=some (Value.slice a3 l3 q3)):=BS.blk.cell (i:=3) rfl
 have P4:Hid (_=some (Value.int .i64 (Q8 S).uturn)):=BS.blk.cell (i:=4) rfl
 have HCF:Hid (Chg (λx=>x=w.heap.size) wr (((((wr.setCell ⟨w.heap.size,0,none⟩ (.slice a0 l0 q0)).setCell ⟨w.heap.size,1,none⟩ (.slice a1 l1 q1)).setCell ⟨w.heap.size,2,none⟩ (.slice a2 k c2)).setCell ⟨w.heap.size,3,none⟩ (.slice a3 l3 q3)).setCell ⟨w.heap.size,4,none⟩ (.int .i64 (Q8 S).uturn))):=Ts
 have HBS:=Q0 BS
 clear BS BR
 go_wp2
 generalize hWF:(((((wr.setCell ⟨w.heap.size,0,none⟩ (.slice a0 l0 q0)).setCell ⟨w.heap.size,1,none⟩ (.slice a1 l1 q1)).setCell ⟨w.heap.size,2,none⟩ (.slice a2 k c2)).setCell ⟨w.heap.size,3,none⟩ (.slice a3 l3 q3)).setCell ⟨w.heap.size,4,none⟩ (.int .i64 (Q8 S).uturn))=wF at P0 P1 P2 P3 P4 HBS HCF ⊢
 have p0_:=P0.out
 have p1_:=P1.out
 have p2_:=P2.out
 have p3_:=P3.out
 have p4_:=P4.out
 refine bodyPost_ret (v:=.agg #[.slice a0 l0 q0,.slice a1 l1 q1,.slice a2 k c2,.slice a3 l3 q3,.int .i64 (Q8 S).uturn]) (by simp[results,Tryz.results38,go_sem,p0_,p1_,p2_,p3_,p4_]) rfl ?_
 have hF:=Hk.out.turn 0 rfl HCF.out HBS.out
 have hO:=Ok.out.turnBox (show BT wr w.heap.size #[.slice none 0 0,.slice none 0 0,.slice none 0 0,.slice none 0 0,.int .i64 0] 28 from Hk.out.at 0 rfl) (by decide) (λe=>absurd e (by decide)) HCF.out
 rw[HRN.out,HRS.out]
 exact⟨_,_,_,_,_,_,_,rfl,hO,hF.src,hF.chg⟩
section
variable {C:Nat}{w w':World}{v0 v1 v2 v3:Value}{N:Nt}{vn vw vr:Nat->Value}
theorem ONt.addNode (h:ONt C w v0 v1 v2 v3 N vn vw vr){v:Value}{z:Int}(hr:Qb C w' v (N.nodes++[z]))(hc:Chg (λx=>some x=v0.ownBlock) w w')(ha:∀g,v.ownBlock=some g->v0.ownBlock=some g\/w.heap.size<=g) :
  ONt C w' v v1 v2 v3 ⟨N.nodes++[z],N.ways,N.rels,N.turns,N.uturn⟩ vn vw vr:=by
 have ap:=List.pairwise_cons.1 (show Apt (v0::((List.range N.ways.length).flatMap (λi=>[vn i,vw i])++(List.range N.rels.length).map vr)) from h.apart)
 have hin1:∀i,i<N.ways.length->vn i∈(List.range N.ways.length).flatMap (λi=>[vn i,vw i])++(List.range N.rels.length).map vr/\vw i∈(List.range N.ways.length).flatMap (λi=>[vn i,vw i])++(List.range N.rels.length).map vr:=λi hi=>⟨List.mem_append_left _ (Uu (vn:=vn) (vw:=vw) hi).1,List.mem_append_left _ (Uu (vn:=vn) (vw:=vw) hi).2⟩
 have hin2:∀i,i<N.rels.length->vr i∈(List.range N.ways.length).flatMap (λi=>[vn i,vw i])++(List.range N.rels.length).map vr:=λi hi=>List.mem_append_right _ (List.mem_map.2 ⟨i,List.mem_range.2 hi,rfl⟩)
 have far:∀{u:Value}{zs:List Int},u∈(List.range N.ways.length).flatMap (λi=>[vn i,vw i])++(List.range N.rels.length).map vr->Qb C w u zs->Qb C w' u zs:=λhu ho=>Yw ho (λg hg=>ap.1 _ hu g hg) hc
 refine⟨hr,Q4 h.ways h.nodes (by decide) hc,λi hi=>far (hin1 i hi).1 (h.wn i hi),λi hi=>far (hin1 i hi).2 (h.ww i hi),Q4 h.rels h.nodes (by decide) hc,λi hi=>far (hin2 i hi) (h.rw_ i hi),Q4 h.turns h.nodes (by decide) hc,?_⟩
 show Apt (v::((List.range N.ways.length).flatMap (λi=>[vn i,vw i])++(List.range N.rels.length).map vr))
 refine List.pairwise_cons.2 ⟨λu hu g hg=>?_,ap.2⟩
 rcases ha g hg with e|e
 ·exact ap.1 u hu g e
 ·intro e2
  have:=Vk h u (show u∈v0::_ from List.mem_cons_of_mem _ hu) g e2
  omega
theorem ONt.addWay (h:ONt C w v0 v1 v2 v3 N vn vw vr)(hn:N.rels=[]){z:Nat}(hz:∀u∈Ja N v0 vn vw vr,∀g,u.ownBlock=some g->g<z){v va vb:Value}{x:Wy}(hr:w'.ownsRow C 45 4 v (N.ways.length+1) (V4 N.ways vn vw++Pc x va vb))(hc:Chg (λy=>some y=v1.ownBlock) w w')
  (ha:Qb z w va x.nodes) (hb:Qb z w vb x.weights) (hCz:C<=z) (hab:∀g,va.ownBlock=some g->vb.ownBlock≠some g) :
  ONt C w' v0 v v2 v3 ⟨N.nodes,N.ways++[x],N.rels,N.turns,N.uturn⟩ (upd vn N.ways.length va) (upd vw N.ways.length vb) vr:=by
 have far:∀{u:Value}{zs:List Int},Qb C w u zs->Qb C w' u zs:=λho=>Q4 ho h.ways (by decide) hc
 have hl:(N.ways++[x]).length=N.ways.length+1:=by simp
 refine⟨far h.nodes,?_,λi hi=>?_,λi hi=>?_,Q4 h.rels h.ways (by decide) hc,λi hi=>far (h.rw_ i hi),Q4 h.turns h.ways (by decide) hc,?_⟩
 ·show w'.ownsRow C _ 4 v (N.ways++[x]).length (V4 (N.ways++[x]) (upd vn N.ways.length va) (upd vw N.ways.length vb))
  rw[hl,Ey]
  exact hr
 ·replace hi:i<(N.ways++[x]).length:=hi
  show Qb C w' (upd vn N.ways.length va i) (wat (N.ways++[x]) i).nodes
  by_cases e:i=N.ways.length
  ·subst e
   rw[Jf,Zg]
   exact far (ha.base hCz)
  ·rw[J4 _ _ e,Zf (by omega)]
   exact far (h.wn i (by omega))
 ·replace hi:i<(N.ways++[x]).length:=hi
  show Qb C w' (upd vw N.ways.length vb i) (wat (N.ways++[x]) i).weights
  by_cases e:i=N.ways.length
  ·subst e
   rw[Jf,Zg]
   exact far (hb.base hCz)
  ·rw[J4 _ _ e,Zf (by omega)]
   exact far (h.ww i (by omega))
 ·have e1:Ja N v0 vn vw vr=v0::prs N.ways.length vn vw:=by unfold Ja prs;rw[hn];simp
  have e2:Ja ⟨N.nodes,N.ways++[x],N.rels,N.turns,N.uturn⟩ v0 (upd vn N.ways.length va) (upd vw N.ways.length vb) vr=v0::(prs N.ways.length vn vw++[va,vb]):=by
   rw[<-Q1n]
   unfold Ja prs
   simp only[hn,hl]
   simp
  have hap:=h.apart
  rw[e1] at hap hz
  rw[e2]
  show Apt ((v0::prs N.ways.length vn vw)++[va,vb])
  refine List.pairwise_append.2 ⟨hap,?_,λu hu t ht g hg e=>?_⟩
  ·refine List.pairwise_cons.2 ⟨λu hu g hg=>?_,List.pairwise_singleton _ _⟩
   have:u=vb:=by simpa using hu
   subst this
   exact hab g hg
  ·have h1:=hz u hu g hg
   simp at ht
   rcases ht with rfl|rfl
   ·have:=(Ql ha g e).1;omega
   ·have:=(Ql hb g e).1;omega
theorem ONt.addTurn (h:ONt C w v0 v1 v2 v3 N vn vw vr){v:Value}{us:List Tn}(hr:Uq C w' v us)(hc:Chg (λy=>some y=v3.ownBlock) w w'):ONt C w' v0 v1 v2 v ⟨N.nodes,N.ways,N.rels,us,N.uturn⟩ vn vw vr:=by
 have far:∀{u:Value}{zs:List Int},Qb C w u zs->Qb C w' u zs:=λho=>Q4 ho h.turns (by decide) hc
 exact⟨far h.nodes,Q4 h.ways h.turns (by decide) hc,λi hi=>far (h.wn i hi),λi hi=>far (h.ww i hi),Q4 h.rels h.turns (by decide) hc,λi hi=>far (h.rw_ i hi),hr,h.apart⟩
end
structure NBx (w0 w:World)(v0 v1 v2 v3:Value)(N:Nt)(vn vw vr:Nat->Value):Prop where
 nx:Nx w0 w
 res:BT w w0.heap.size Pa 28
 box:BT w (w0.heap.size+2) #[v0,v1,v2,v3,.int .i64 N.uturn] 28
 net:ONt (w0.heap.size+1) w v0 v1 v2 v3 N vn vw vr
section
variable {w0 w w':World}{v0 v1 v2 v3:Value}{N:Nt}{vn vw vr:Nat->Value}
theorem NBx.next (h:NBx w0 w v0 v1 v2 v3 N vn vw vr)(k:Nx w w'):NBx w0 w' v0 v1 v2 v3 N vn vw vr:=⟨h.nx.trans k,h.res.next k,h.box.next k,h.net.next k⟩
theorem NBx.grown {t sz n:Nat}{v:Value}{xs:List Value}(h:NBx w0 w v0 v1 v2 v3 N vn vw vr)(hr:w.ownsRow (w0.heap.size+1) t sz v n xs)(ht:28≠t)(hc:Chg (λx=>some x=v.ownBlock) w w') :
  Nx w0 w'/\BT w' w0.heap.size Pa 28/\BT w' (w0.heap.size+2) #[v0,v1,v2,v3,.int .i64 N.uturn] 28:=
 ⟨Below.trans h.nx (hc.below h.nx.size (λx hx=>by have:=(Ql hr x hx.symm).1;omega)),h.res.row hr ht hc,h.box.row hr ht hc⟩
theorem NBx.lay {u0 u1 u2 u3:Value}{N':Nt}{un uw ur:Nat->Value}(i:Nat)(v:Value)(h:Nx w0 w'/\BT w' w0.heap.size Pa 28/\BT w' (w0.heap.size+2) #[v0,v1,v2,v3,.int .i64 N.uturn] 28)(hn:ONt (w0.heap.size+1) w' u0 u1 u2 u3 N' un uw ur)(e:(#[v0,v1,v2,v3,.int .i64 N.uturn]:Array Value).setIfInBounds i v=#[u0,u1,u2,u3,.int .i64 N'.uturn]):NBx w0 (w'.setCell ⟨w0.heap.size+2,i,none⟩ v) u0 u1 u2 u3 N' un uw ur:=
 ⟨Below.setCell h.1 (show w0.heap.size<=w0.heap.size+2 by omega) _,h.2.1.setOther (by omega) _ _,by rw[<-e];exact h.2.2.set i v,hn.turnBox h.2.2 (by decide) (λe=>absurd e (by decide)) (Chg.set _ _ _ rfl)⟩
end
def lmW (id:Int)(bo:Bool)(a b:Int)(segs:Nat)(wt:Int):Wy:=⟨id,bo,lwN a b segs,lwW wt segs⟩
def lm0:Nt:=⟨[0,1],[],[],[],1048576⟩
def Z4 (ws:List Wy):Nt:=⟨[0,1],ws,[],[],1048576⟩
def J0 {α:Type}(f:Nat->α):Nat->List α
 |0=>[]
 |k+1=>J0 f k++[f k]
theorem Jw {α:Type}(f:Nat->α):∀k,(J0 f k).length=k
 |0=>rfl
 |k+1=>by show(J0 f k++[_]).length=_;rw[List.length_append,Jw f k];rfl
def Yi (k:Int)(over:Nat):Nt:=
 if k<3 then Z4 [lmW 3 (k==0) 0 1 (100+over) 1048576]
 else if k=3\/k=4 then ⟨[0,1],[lmW 3 true 0 1 1 5],[⟨1048576,k==4,3,3,false,0,J0 (λ_=>3) (4+over)⟩],[],1048576⟩
 else if k=5 then ⟨J0 (λi=>(i:Int)) (2000+over),[],[],[],1048576⟩
 else if k=6 then Z4 (J0 (λi=>lmW i true 0 1 100 1) 20++if over=1 then [lmW 5000 false 1 0 1 1] else [])
 else if k=7 then ⟨[0,1],[lmW 0 true 0 1 1 1],J0 (λi=>⟨i,false,0,0,true,(i:Int)%2,[]⟩) (1000+over),[],1048576⟩
 else if k=8 then ⟨[0,1],J0 (λi=>lmW i false 0 1 1 i) 45,[],J0 (λi=>⟨(i:Int)/45,(i:Int)%45,i⟩) (2000+over),1048576⟩
 else lm0
end Go.Proofs.YtmmolhlihhdkcaaGreatDoor
