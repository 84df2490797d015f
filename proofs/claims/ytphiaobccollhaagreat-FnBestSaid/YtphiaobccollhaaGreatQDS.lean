import Derived.Test.YtphiaobccollhaaGreatQDM
namespace Go.Proofs.YtphiaobccollhaaGreat
open Go.RowKit Go.Sort Tryz
set_option linter.unusedVariables false
set_option maxRecDepth 1000000
set_option maxHeartbeats 16000000
theorem set5 {w:World}{g t:Nat}{a0 a1 a2 a3 a4 c0 c1 c2 c3 c4:Value}(h:BT w g #[c0,c1,c2,c3,c4] t):BT (((((w.setCell (aD g 0) a0).setCell (aD g 1) a1).setCell (aD g 2) a2).setCell (aD g 3) a3).setCell (aD g 4) a4) g #[a0,a1,a2,a3,a4] t:=by
 have k0:BT (w.setCell (aD g 0) a0) g #[a0,c1,c2,c3,c4] t:=h.set 0 a0
 have k1:BT ((w.setCell (aD g 0) a0).setCell (aD g 1) a1) g #[a0,a1,c2,c3,c4] t:=k0.set 1 a1
 have k2:BT (((w.setCell (aD g 0) a0).setCell (aD g 1) a1).setCell (aD g 2) a2) g #[a0,a1,a2,c3,c4] t:=k1.set 2 a2
 have k3:BT ((((w.setCell (aD g 0) a0).setCell (aD g 1) a1).setCell (aD g 2) a2).setCell (aD g 3) a3) g #[a0,a1,a2,a3,c4] t:=k2.set 3 a3
 have k4:BT (((((w.setCell (aD g 0) a0).setCell (aD g 1) a1).setCell (aD g 2) a2).setCell (aD g 3) a3).setCell (aD g 4) a4) g #[a0,a1,a2,a3,a4] t:=k3.set 4 a4
 exact k4
theorem chg5 {w:World}{g:Nat}{a0 a1 a2 a3 a4:Value}:Chg (λx=>x=g) w (((((w.setCell (aD g 0) a0).setCell (aD g 1) a1).setCell (aD g 2) a2).setCell (aD g 3) a3).setCell (aD g 4) a4):=by
 have k0:Chg (λx=>x=g) w (w.setCell (aD g 0) a0):=Chg.set g 0 a0 rfl
 have k1:=k0.trans (Chg.set g 1 a1 rfl)
 have k2:=k1.trans (Chg.set g 2 a2 rfl)
 have k3:=k2.trans (Chg.set g 3 a3 rfl)
 have k4:=k3.trans (Chg.set g 4 a4 rfl)
 exact k4
def br3 (h g g2:Nat)(nt rd:Array Value):List (Nat×Array Value×Nat):=[(h,#[sN,sN,sN,sN,iV 0],60),(g,nt,60),(g2,rd,86)]
def br4 (h g g2:Nat)(nt rd:Array Value)(g8:Nat)(ra:Array Value):List (Nat×Array Value×Nat):=[(h,#[sN,sN,sN,sN,iV 0],60),(g,nt,60),(g2,rd,86),(g8,ra,89)]
def br5 (h g g2:Nat)(nt rd:Array Value)(g8:Nat)(ra:Array Value)(g9:Nat)(pa:Array Value):List (Nat×Array Value×Nat):=[(h,#[sN,sN,sN,sN,iV 0],60),(g,nt,60),(g2,rd,86),(g8,ra,89),(g9,pa,89)]
theorem Ez (D b:Nat)(S:Src)(w:World)(hS:Jj D w b S)(hok:SOk S) :
  Calls prog 32 #[pT b] w λe w'=>∃v0 v1 v2 v3 vn vw vr,e=.returned (.agg #[v0,v1,v2,v3,iV (Yk S).uturn])/\ONt (w.heap.size+1) w' v0 v1 v2 v3 (Yk S) vn vw vr/\Jj D w' b (riS S)/\Chg (Sx1 b) w w':=by
 have HOK:Z (SOk S):=hok
 have HDI:=mh (Q4i hok)
 have HS0:=mh hS
 have hmx:prog.follows .mixedOrders=true:=by kernel_rfl
 have HbL:Z (b<w.heap.size):=by
  obtain⟨v,hb,_⟩:=hS
  exact hb.lt
 clear hS hok
 go_enter func32,ntmps32
 go_upto_region 1 with fail
 generalize hWA:w.alloc (.cells #[sN,sN,sN,sN,iV 0] 60)=wA
 have HA:Z (FR D b w wA S [(w.heap.size,#[sN,sN,sN,sN,iV 0],60)]):=by
  unfold Z
  rw[<-hWA]
  have k0:FR D b w w S []:=⟨Chg.nx (Nx.refl _),HS0.o,λp hp=>absurd hp (by simp),λp hp=>absurd hp (by simp),List.nodup_nil⟩
  exact k0.alloc #[sN,sN,sN,sN,iV 0] 60 (by decide)
 have HAS:Z (wA.heap.size=w.heap.size+1):=by unfold Z;rw[<-hWA,Q1]
 clear hWA
 go_wp2_with fail
 refine(A1 D b S wA HA.o.src HOK.o).mono ?_
 rintro e w1 ⟨v0,v1,v3,vn,vw,vr0,rfl,hO⟩
 have H1:=mh (HA.o.drawn hO.src hO.chg)
 have O1:=mh hO.net
 rw[HAS.o] at O1
 obtain⟨a0,q0,e0⟩:=Qd O1.o.nodes
 obtain⟨a1,q1,e1⟩:=Qd O1.o.ways
 obtain⟨a3,q3,e3⟩:=Qd O1.o.turns
 subst e0 e1 e3
 have HL1:Z ((Qa S).ways.length=(Qa S).ways.length):=rfl
 have hw12:=HDI.o.2.2.1
 generalize (Qa S).nodes.length=l0 at O1 ⊢
 generalize hl1:(Qa S).ways.length=l1 at O1 HL1 hw12 ⊢
 replace HL1:Z ((Qa S).ways.length=l1):=hl1
 generalize (Qa S).turns.length=l3 at O1 ⊢
 clear hO HA hl1
 go_upto_region 2 with fail
 generalize hW2:w1.alloc (.cells #[sL a0 l0 q0,sL a1 l1 q1,sN,sL a3 l3 q3,iV (Qa S).uturn] 60)=w2
 have H2:Z (FR D b w w2 (dbS S) [(w.heap.size,#[sN,sN,sN,sN,iV 0],60),(w1.heap.size,#[sL a0 l0 q0,sL a1 l1 q1,sN,sL a3 l3 q3,iV (Qa S).uturn],60)]):=by rw[<-hW2];exact H1.o.alloc #[sL a0 l0 q0,sL a1 l1 q1,sN,sL a3 l3 q3,iV (Qa S).uturn] 60 (by decide)
 have O2:=mh (O1.o.next (Qe w1 (.cells #[sL a0 l0 q0,sL a1 l1 q1,sN,sL a3 l3 q3,iV (Qa S).uturn] 60)))
 rw[hW2] at O2
 clear hW2 H1 O1
 generalize w1.heap.size=g at *
 have nn1:w2.cell? (aD g 1)=some (sL a1 l1 q1):=(H2.o.at 1 rfl).c 1 rfl
 by_cases hz:l1=0
 ·skip
  have HRN:Z (Yk S=Qa S):=by unfold Z Yk;rw[HL1.o,if_pos hz]
  have HRS:Z (riS S=dbS S):=by unfold Z riS;rw[HL1.o,if_pos hz]
  subst hz
  have nc0:w2.cell? (aD g 0)=some (sL a0 l0 q0):=(H2.o.at 1 rfl).c 0 rfl
  have nc1:w2.cell? (aD g 1)=some (sL a1 0 q1):=(H2.o.at 1 rfl).c 1 rfl
  have nc2:w2.cell? (aD g 2)=some sN:=(H2.o.at 1 rfl).c 2 rfl
  have nc3:w2.cell? (aD g 3)=some (sL a3 l3 q3):=(H2.o.at 1 rfl).c 3 rfl
  have nc4:w2.cell? (aD g 4)=some (iV (Qa S).uturn):=(H2.o.at 1 rfl).c 4 rfl
  clear nn1
  have BR:BT w2 w.heap.size #[sN,sN,sN,sN,iV 0] 60:=H2.o.at 0 rfl
  have x0:=BR.c 0 rfl
  have fz0:=BR.blk.frozen 0
  have x1:=BR.c 1 rfl
  have fz1:=BR.blk.frozen 1
  have x2:=BR.c 2 rfl
  have fz2:=BR.blk.frozen 2
  have x3:=BR.c 3 rfl
  have fz3:=BR.blk.frozen 3
  have x4:=BR.c 4 rfl
  have fz4:=BR.blk.frozen 4
  have BS:=set5 (a0:=sL a0 l0 q0) (a1:=sL a1 0 q1) (a2:=sN) (a3:=sL a3 l3 q3) (a4:=iV (Qa S).uturn) BR
  have P0:Z (_=some (sL a0 l0 q0)):=BS.c 0 rfl
  have P1:Z (_=some (sL a1 0 q1)):=BS.c 1 rfl
  have P2:Z (_=some sN):=BS.c 2 rfl
  have P3:Z (_=some (sL a3 l3 q3)):=BS.c 3 rfl
  have P4:Z (_=some (iV (Qa S).uturn)):=BS.c 4 rfl
  have HCF:Z (Chg (λx=>x=w.heap.size) w2 (((((w2.setCell (aD w.heap.size 0) (sL a0 l0 q0)).setCell (aD w.heap.size 1) (sL a1 0 q1)).setCell (aD w.heap.size 2) sN).setCell (aD w.heap.size 3) (sL a3 l3 q3)).setCell (aD w.heap.size 4) (iV (Qa S).uturn))):=chg5
  have HBS:=mh BS
  clear BS BR
  go_wp2
  generalize hWF:(((((w2.setCell (aD w.heap.size 0) (sL a0 l0 q0)).setCell (aD w.heap.size 1) (sL a1 0 q1)).setCell (aD w.heap.size 2) sN).setCell (aD w.heap.size 3) (sL a3 l3 q3)).setCell (aD w.heap.size 4) (iV (Qa S).uturn))=wF at P0 P1 P2 P3 P4 HBS HCF ⊢
  have p0_:=P0.o
  have p1_:=P1.o
  have p2_:=P2.o
  have p3_:=P3.o
  have p4_:=P4.o
  refine bodyPost_ret (v:=.agg #[sL a0 l0 q0,sL a1 0 q1,sN,sL a3 l3 q3,iV (Qa S).uturn]) (by simp[results,results32,go_sem,p0_,p1_,p2_,p3_,p4_]) rfl ?_
  have hF:=H2.o.turn 0 rfl HCF.o HBS.o
  have hO:=O2.o.turnBox (show BT w2 w.heap.size #[sN,sN,sN,sN,iV 0] 60 from H2.o.at 0 rfl) (by decide) (λe=>absurd e (by decide)) HCF.o
  rw[HRN.o,HRS.o]
  exact⟨_,_,_,_,_,_,_,rfl,hO,hF.src,hF.chg⟩
 have hz1:((l1:Int)==0)=false:=by simp;omega
 have hz2:¬(l1:Int)=0:=by omega
 have HSM:Z (Wx (Qa S).ways (Qa S).ways.length<=1048576):=by
  unfold Z
  have:=Q6s (Qa S).ways (Qa S).ways.length HDI.o.2.2.2
  have:=HDI.o.2.2.1
  omega
 have nc0:w2.cell? (aD g 0)=some (sL a0 l0 q0):=(H2.o.at 1 rfl).c 0 rfl
 have nc1:w2.cell? (aD g 1)=some (sL a1 l1 q1):=(H2.o.at 1 rfl).c 1 rfl
 have nc2:w2.cell? (aD g 2)=some sN:=(H2.o.at 1 rfl).c 2 rfl
 have nc3:w2.cell? (aD g 3)=some (sL a3 l3 q3):=(H2.o.at 1 rfl).c 3 rfl
 have nc4:w2.cell? (aD g 4)=some (iV (Qa S).uturn):=(H2.o.at 1 rfl).c 4 rfl
 clear nn1
 go_wp2_with fail
 refine(I8 (w.heap.size+1) (sL a0 l0 q0) (sL a1 l1 q1) sN (sL a3 l3 q3) (Qa S) w2 O2.o.held HSM.o).mono ?_
 rintro e w3 ⟨⟨rr0,rr1,rr2,rr3,rfl,hR⟩,hx⟩
 have HR3:=mh hR
 obtain⟨p0,d0,e0,-,-⟩:=hR.1
 obtain⟨p1,d1,e1,-,-⟩:=hR.2.1
 obtain⟨p2,d2,e2,-,-⟩:=hR.2.2.1
 obtain⟨p3,d3,e3,-,-⟩:=hR.2.2.2
 generalize (V4 (Qa S)).nodes.length=s0 at e0
 generalize (V4 (Qa S)).edges.length=s1 at e1
 generalize (V4 (Qa S)).first.length=s2 at e2
 generalize (V4 (Qa S)).o.length=s3 at e3
 subst e0 e1 e2 e3
 have H3:=mh (H2.o.next hx)
 have O3:=mh (O2.o.next hx)
 have HG2:=mh ((show BT w2 g _ 60 from H2.o.at 1 rfl).lt)
 have HC2:Z (w.heap.size+1<=w2.heap.size):=by have h1:=(show BT w2 w.heap.size _ 60 from H2.o.at 0 rfl).lt;unfold Z;omega
 have HX3:=mh hx.size
 generalize hCr:w2.heap.size=Cr at *
 clear hx hR H2 O2 nc0 nc1 nc2 nc3 nc4 hz1 hz2 hCr
 go_upto_region 5 with fail
 generalize hW4:w3.alloc (.cells #[sL p0 s0 d0,sL p1 s1 d1,sL p2 s2 d2,sL p3 s3 d3] 86)=w4
 have H4:Z (FR D b w w4 (dbS S) (br3 w.heap.size g w3.heap.size #[sL a0 l0 q0,sL a1 l1 q1,sN,sL a3 l3 q3,iV (Qa S).uturn] #[sL p0 s0 d0,sL p1 s1 d1,sL p2 s2 d2,sL p3 s3 d3])):=by rw[<-hW4];exact H3.o.alloc #[sL p0 s0 d0,sL p1 s1 d1,sL p2 s2 d2,sL p3 s3 d3] 86 (by decide)
 have O4:=mh (O3.o.next (Qe w3 (.cells #[sL p0 s0 d0,sL p1 s1 d1,sL p2 s2 d2,sL p3 s3 d3] 86)))
 have HR4:=mh (HR3.o.next (Qe w3 (.cells #[sL p0 s0 d0,sL p1 s1 d1,sL p2 s2 d2,sL p3 s3 d3] 86)))
 rw[hW4] at O4 HR4
 have HCr:Z (Cr<=w4.heap.size):=by unfold Z;rw[<-hW4,Q1];have:=HX3.o;omega
 clear hW4 H3 O3 HR3
 generalize w3.heap.size=g2 at *
 have hsz:=HDI.o.1.size
 have b3:=H4.o.src.size
 go_wp2_with fail
 refine(Q6 D b (dbS S) (2+(dbS S).size) w4 H4.o.src HDI.o.1 (by omega)).mono ?_
 rintro e w5 ⟨rfl,hs1,hc1⟩
 have H5:=mh (H4.o.drawn hs1 hc1)
 have O5:=mh (O4.o.src H4.o.src hc1)
 have HK5:Z (Chg (λx=>x<Cr) w4 w5):=hc1.mono (λx hx=>by have hx':x=b:=hx;have:=HbL.o;have:=HC2.o;omega)
 have HT1:Z (SOk (ns (dbS S) (2+(dbS S).size))):=Qf HDI.o.1 _
 have hv5:=Qv HDI.o.1 (2+(dbS S).size)
 clear hs1 hc1 b3
 have HCN:Z (Ic S=if nv (ns (dbS S) (2+(dbS S).size)) 16=0 then 0 else 1+nv (dbS S) (2+(dbS S).size)):=rfl
 generalize nv (dbS S) (2+(dbS S).size)=d5 at *
 go_wp2_with fail
 refine(Q6 D b (ns (dbS S) (2+(dbS S).size)) 16 w5 H5.o.src HT1.o (by omega)).mono ?_
 rintro e w6 ⟨rfl,hs1,hc1⟩
 have H6:Z (FR D b w w6 (Aw S) (br3 w.heap.size g g2 #[sL a0 l0 q0,sL a1 l1 q1,sN,sL a3 l3 q3,iV (Qa S).uturn] #[sL p0 s0 d0,sL p1 s1 d1,sL p2 s2 d2,sL p3 s3 d3])):=H5.o.drawn hs1 hc1
 have O6:=mh (O5.o.src H5.o.src hc1)
 have HK6:=mh (HK5.o.trans (hc1.mono (λx hx=>by have hx':x=b:=hx;have:=HbL.o;have:=HC2.o;omega)))
 have HT2:Z (SOk (Aw S)):=Qf HT1.o _
 clear hs1 hc1 H4 O4 H5 O5 HK5
 generalize nv (ns (dbS S) (2+(dbS S).size)) 16=d6 at *
 obtain⟨cn,hcn⟩:∃c:Nat,Ic S=c:=⟨(Ic S).toNat,by rw[HCN.o];have:=hv5.1;split<;>omega⟩
 have hcb:cn<=10:=by rw[HCN.o] at hcn;have:=hv5.2 (by omega);split at hcn<;>omega
 have HCC:=mh hcn
 clear hcn
 go_upto_if 29 with fail
 generalize hbd:(d6==0)=bd
 have HBD:=mh hbd
 clear hbd
 go_cut [5] from 30 to 30 (λs5 wc=>s5=iV (cn:Int)/\wc=w6)
 case first=>
  cases bd with
  |true=>
   have h0:d6=0:=by simpa using HBD.o
   have HC0:Z ((0:Int)=(cn:Int)):=by unfold Z;rw[<-HCC.o,HCN.o,if_pos h0]
   clear h0 HBD HCN
   go_wp2
   go_meet
   exact⟨by rw[<-HC0.o],rfl⟩
  |false=>
   have h0:¬d6=0:=by simpa using HBD.o
   have HC0:Z (1+d5=(cn:Int)):=by unfold Z;rw[<-HCC.o,HCN.o,if_neg h0]
   clear h0 HBD HCN
   go_wp2
   go_meet
   exact⟨by rw[HC0.o],rfl⟩
 case rest=>
 obtain⟨rfl,rfl⟩:=hcut
 clear HBD HCN
 generalize wc=w6 at *
 go_wp2_with fail
 refine(Q6 D b (Aw S) 3 w6 H6.o.src HT2.o (by omega)).mono ?_
 rintro e w7 ⟨rfl,hs1,hc1⟩
 have H7:=mh (H6.o.drawn hs1 hc1)
 have O7:=mh (O6.o.src H6.o.src hc1)
 have HK7:=mh (HK6.o.trans (hc1.mono (λx hx=>by have hx':x=b:=hx;have:=HbL.o;have:=HC2.o;omega)))
 have HXI:Z (riX S=Xk (Qa S) (V4 (Qa S)) ⟨ns (Aw S) 3,nv (Aw S) 3,[]⟩ cn):=by unfold Z riX riN riR;rw[HCC.o,zU]
 generalize Aw S=T2 at *
 have v:=Qv HT2.o 3
 have hv7:0<=nv T2 3/\nv T2 3<=3:=by have:=v.2 (by omega);omega
 have hk0:Q9w 0 T2.size ⟨ns T2 3,nv T2 3,[]⟩:=⟨(show SOk (ns T2 3) from Qf HT2.o _),(show(ns T2 3).size=T2.size from Qs _ _),(show 0<=nv T2 3/\nv T2 3<=3+2*((0:Nat):Int) by omega),rfl,λr hr=>absurd hr (by simp)⟩
 generalize nv T2 3=d7 at *
 obtain⟨x0,hx0⟩:∃x:Kc,x=⟨ns T2 3,d7,[]⟩:=⟨_,rfl⟩
 rw[<-hx0] at hk0 HXI
 have HXO:Z (∀k,Q9w k T2.size (Xk (Qa S) (V4 (Qa S)) x0 k)):=Q1t hk0
 have hxS:(Xk (Qa S) (V4 (Qa S)) x0 0).S=ns T2 3:=by show x0.S=_;rw[hx0]
 have hxI:(Xk (Qa S) (V4 (Qa S)) x0 0).id=d7:=by show x0.id=_;rw[hx0]
 have hxR:(Xk (Qa S) (V4 (Qa S)) x0 0).rels=[]:=by show x0.rels=_;rw[hx0]
 have HI0:=mh hxI.symm
 have HL7:Z (FR D b w w7 (Xk (Qa S) (V4 (Qa S)) x0 0).S (br3 w.heap.size g g2 #[sL a0 l0 q0,sL a1 l1 q1,sN,sL a3 l3 q3,iV (Qa S).uturn] #[sL p0 s0 d0,sL p1 s1 d1,sL p2 s2 d2,sL p3 s3 d3])):=by rw[hxS];exact H7.o
 have OL7:Z (∃vr,ONt (w.heap.size+1) w7 (sL a0 l0 q0) (sL a1 l1 q1) sN (sL a3 l3 q3) (nW (Qa S) (Xk (Qa S) (V4 (Qa S)) x0 0).rels) vn vw vr):=by rw[hxR];exact⟨vr0,O7.o⟩
 clear hxS hxI hxR hk0 v hv7
 clear hs1 hc1 hx0 H6 O6 HK6 H7 O7
 rw[HI0.o]
 go_wp2
 have HRI:Z (Q4t (Qa S) (V4 (Qa S))):=rd_in _
 have HR4s:Z (Cr<=w4.heap.size):=by
  have:=HK7.o.size
  exact HCr.o
 generalize V4 (Qa S)=R at *
 go_loopw [6,7] (λs6 s7 wr=>∃(k c2:Nat) (a2:Option Addr),k<=cn/\s7=iV (k:Int)/\s6=iV (Xk (Qa S) R x0 k).id/\Z (FR D b w wr (Xk (Qa S) R x0 k).S (br3 w.heap.size g g2 #[sL a0 l0 q0,sL a1 l1 q1,sL a2 k c2,sL a3 l3 q3,iV (Qa S).uturn] #[sL p0 s0 d0,sL p1 s1 d1,sL p2 s2 d2,sL p3 s3 d3]))/\Z (∃vr,ONt (w.heap.size+1) wr (sL a0 l0 q0) (sL a1 l1 q1) (sL a2 k c2) (sL a3 l3 q3) (nW (Qa S) (Xk (Qa S) R x0 k).rels) vn vw vr)/\Z (Chg (λx=>x<Cr) w4 wr)/\Z (∀y,(sL a2 k c2).ownBlock=some y->w4.heap.size<=y)) (λ_ i _=>cn-(intOf i).toNat)
 case atStart=>exact⟨0,0,none,nZ,rfl,rfl,HL7,OL7,HK7,λy hy=>by cases hy⟩
 clear HL7 OL7 HK7 HI0
 obtain⟨k,c2,a2,hk,rfl,rfl,Hk,OLk,Kk,HVk⟩:=hrel
 by_cases hlt:k<cn
 ·skip
  have hlt':(k:Int)<cn:=by omega
  obtain⟨hok1,hok2,hok3,hok4,hok5⟩:=HXO.o k
  have HST:Z ((Xk (Qa S) R x0 (k+1))=Q5h (Qa S) R (Xk (Qa S) R x0 k)):=rfl
  generalize hxk:(Xk (Qa S) R x0 k)=xk at *
  have HXK:=mh hxk
  clear hxk
  obtain⟨sk,idk,rk⟩:=xk
  simp only at hok1 hok2 hok3 hok4 hok5 Hk OLk ⊢
  obtain⟨vr,hOk⟩:=OLk.o
  have Ok:=mh hOk
  have HOKk:=mh hok1
  have HLR:=mh hok4
  have HWL:=mh hok5
  have hidk:=hok3
  clear hok1 hok2 hok3 hok4 hok5 OLk hOk
  have nc0:wr.cell? (aD g 0)=some (sL a0 l0 q0):=(Hk.o.at 1 rfl).c 0 rfl
  have nc1:wr.cell? (aD g 1)=some (sL a1 l1 q1):=(Hk.o.at 1 rfl).c 1 rfl
  have nc2:wr.cell? (aD g 2)=some (sL a2 k c2):=(Hk.o.at 1 rfl).c 2 rfl
  have nc3:wr.cell? (aD g 3)=some (sL a3 l3 q3):=(Hk.o.at 1 rfl).c 3 rfl
  have nc4:wr.cell? (aD g 4)=some (iV (Qa S).uturn):=(Hk.o.at 1 rfl).c 4 rfl
  have rc0:wr.cell? (aD g2 0)=some (sL p0 s0 d0):=(Hk.o.at 2 rfl).c 0 rfl
  have rc1:wr.cell? (aD g2 1)=some (sL p1 s1 d1):=(Hk.o.at 2 rfl).c 1 rfl
  have rc2:wr.cell? (aD g2 2)=some (sL p2 s2 d2):=(Hk.o.at 2 rfl).c 2 rfl
  have rc3:wr.cell? (aD g2 3)=some (sL p3 s3 d3):=(Hk.o.at 2 rfl).c 3 rfl
  have HND1:Z (0<(Qa S).nodes.length/\(Qa S).nodes.length<=1000000):=by have:=HDI.o.2.1;unfold Z;omega
  have HWD1:Z (0<(Qa S).ways.length/\(Qa S).ways.length<=1000000):=⟨by rw[HL1.o];exact Nat.pos_of_ne_zero hz,zM HDI.o.2.2.1 (by decide)⟩
  go_wp2_with fail
  refine(Ks (w.heap.size+1) D b (sL a0 l0 q0) (sL a1 l1 q1) (sL a2 k c2) (sL a3 l3 q3) (sL p0 s0 d0) (sL p1 s1 d1) (sL p2 s2 d2) (sL p3 s3 d3) (nW (Qa S) rk) R sk wr Ok.o.held ((HR4.o.keep Kk.o.keepsU).base HC2.o) (by have:=HbL.o;omega) HND1.o.1 HWD1.o.1 HND1.o.2 HWD1.o.2 Hk.o.src HOKk.o (HRI.o.nW rk)).mono ?_
  rintro e w8 ⟨va,rfl,ho,hs1,hc1⟩
  obtain⟨av,cv,rfl⟩:=Qd ho
  have H8:=mh (Hk.o.drawn hs1 hc1)
  have O8:=mh (Ok.o.src Hk.o.src hc1)
  have P8:=mh ho
  have K8:=mh (Kk.o.trans (hc1.mono (λx hx=>by have hx':x=b:=hx;have:=HbL.o;have:=HC2.o;omega)))
  have HWG:=mh hc1.size
  have HIZ:=mh (A2 Ok.o)
  have HZC:Z (w.heap.size+1<=wr.heap.size):=by have h1:=HC2.o;have h2:=HR4s.o;have h3:=Kk.o.size;unfold Z;omega
  have HOK8:Z (SOk (drS (nW (Qa S) rk) R sk)):=(Q69 HOKk.o).1
  have HS2:Z (El (Qa S) R ⟨sk,idk,rk⟩=ns (drS (nW (Qa S) rk) R sk) 4):=rfl
  have HYE:Z (rcY (Qa S) R ⟨sk,idk,rk⟩=⟨0,decide (nv (drS (nW (Qa S) rk) R sk) 4=0),(drR (nW (Qa S) rk) R sk).frm,(drR (nW (Qa S) rk) R sk).to,(drR (nW (Qa S) rk) R sk).via,(drR (nW (Qa S) rk) R sk).node,(drR (nW (Qa S) rk) R sk).ways⟩):=rfl
  have hwl:(drR (nW (Qa S) rk) R sk).ways.length<=4:=Q4g HOKk.o
  generalize drR (nW (Qa S) rk) R sk=rr at *
  generalize drS (nW (Qa S) rk) R sk=s8 at *
  obtain⟨y1,y2,y3,y4,y5,y6,y7⟩:=rr
  simp only at P8 HYE hwl ⊢
  generalize hnl:y7.length=nl at *
  have HNL:=mh hnl
  clear ho hs1 hc1 nc0 nc1 nc2 nc3 nc4 rc0 rc1 rc2 rc3 Hk Ok hnl
  go_upto_region 13 with fail
  generalize hW9:w8.alloc (.cells #[iV y1,.bool y2,iV y3,iV y4,.bool y5,iV y6,sL av nl cv] 89)=w9
  have H9:Z (FR D b w w9 s8 (br4 w.heap.size g g2 #[sL a0 l0 q0,sL a1 l1 q1,sL a2 k c2,sL a3 l3 q3,iV (Qa S).uturn] #[sL p0 s0 d0,sL p1 s1 d1,sL p2 s2 d2,sL p3 s3 d3] w8.heap.size #[iV y1,.bool y2,iV y3,iV y4,.bool y5,iV y6,sL av nl cv])):=by rw[<-hW9];exact H8.o.alloc #[iV y1,.bool y2,iV y3,iV y4,.bool y5,iV y6,sL av nl cv] 89 (by decide)
  have O9:=mh (O8.o.next (Qe w8 (.cells #[iV y1,.bool y2,iV y3,iV y4,.bool y5,iV y6,sL av nl cv] 89)))
  have P9:=mh (P8.o.next (Qe w8 (.cells #[iV y1,.bool y2,iV y3,iV y4,.bool y5,iV y6,sL av nl cv] 89)))
  have K9:=mh (K8.o.trans (Chg.nx (Qe w8 (.cells #[iV y1,.bool y2,iV y3,iV y4,.bool y5,iV y6,sL av nl cv] 89))))
  have HV8:Z ((sL a2 k c2).ownBlock≠some w8.heap.size):=λe=>by have:=(Q7 O8.o.rels _ e).2;omega
  have HG8:=mh K8.o.size
  rw[hW9] at O9 P9 K9
  clear hW9 H8 O8 P8 K8
  generalize w8.heap.size=g8 at *
  go_wp2_with fail
  refine(Q6 D b s8 4 w9 H9.o.src HOK8.o (by omega)).mono ?_
  rintro e w10 ⟨rfl,hs1,hc1⟩
  have H10:=mh (H9.o.drawn hs1 hc1)
  have O10:=mh (O9.o.src H9.o.src hc1)
  have P10:=mh (H9.o.rowDrawn P9.o hc1)
  have K10:=mh (K9.o.trans (hc1.mono (λx hx=>by have hx':x=b:=hx;have:=HbL.o;have:=HC2.o;omega)))
  clear hs1 hc1 H9 O9 P9 K9
  have HOK9:Z (SOk (ns s8 4)):=Qf HOK8.o _
  generalize nv s8 4=d4 at *
  have BG:BT w10 g8 #[iV y1,.bool y2,iV y3,iV y4,.bool y5,iV y6,sL av nl cv] 89:=H10.o.at 3 rfl
  have x1:=BG.c 1 rfl
  have fz1:=BG.blk.frozen 1
  go_upto_region 14 with fail
  generalize hb4:(d4==0)=b4
  have HB4:Z (decide (d4=0)=b4):=by unfold Z;rw[<-hb4];rfl
  clear hb4
  rw[HB4.o] at HYE
  have H11:Z (FR D b w (w10.setCell (aD g8 1) (.bool b4)) (ns s8 4) (br4 w.heap.size g g2 #[sL a0 l0 q0,sL a1 l1 q1,sL a2 k c2,sL a3 l3 q3,iV (Qa S).uturn] #[sL p0 s0 d0,sL p1 s1 d1,sL p2 s2 d2,sL p3 s3 d3] g8 #[iV y1,.bool b4,iV y3,iV y4,.bool y5,iV y6,sL av nl cv])):=H10.o.set 3 rfl 1 _
  have O11:Z (ONt (w.heap.size+1) (w10.setCell (aD g8 1) (.bool b4)) (sL a0 l0 q0) (sL a1 l1 q1) (sL a2 k c2) (sL a3 l3 q3) (nW (Qa S) rk) vn vw vr):=O10.o.turnBox (show BT w10 g8 #[iV y1,.bool y2,iV y3,iV y4,.bool y5,iV y6,sL av nl cv] 89 from H10.o.at 3 rfl) (by decide) (λ_=>HV8.o) (Chg.set _ _ _ rfl)
  have P11:=mh (H10.o.rowTurn 3 rfl P10.o (Chg.set g8 1 (.bool b4) rfl))
  have K11:Z (Chg (λx=>x<Cr) w4 (w10.setCell (aD g8 1) (.bool b4))):=K10.o.young (Chg.set (S:=λx=>x=g8) _ _ _ rfl) (λx hx hl=>by have hx':x=g8:=hx;have:=HG8.o;omega)
  clear x1 fz1 BG H10 O10 P10 K10
  generalize w10.setCell (aD g8 1) (.bool b4)=w11 at *
  have HB:Z (rcB (Qa S) R ⟨sk,idk,rk⟩=(decide (0<k)&&decide (nv (ns s8 4) 10=0))):=by unfold Z rcB;rw[HS2.o];show(decide (0<rk.length)&&_)=_;rw[HLR.o]
  generalize hbc:(decide (0<k)&&decide (nv (ns s8 4) 10=0))=bc at HB
  have HBC:=mh hbc
  obtain⟨SC,hSC⟩:∃s,s=if 0<k then ns (ns s8 4) 10 else ns s8 4:=⟨_,rfl⟩
  have HSC:=mh hSC
  have HOC:Z (SOk SC):=by unfold Z;rw[hSC];split<;>first|exact Qf HOK9.o _|exact HOK9.o
  clear hbc hSC
  go_cut [51] from 45 to 50 (λs51 wc=>s51=.bool bc/\Z (FR D b w wc SC (br4 w.heap.size g g2 #[sL a0 l0 q0,sL a1 l1 q1,sL a2 k c2,sL a3 l3 q3,iV (Qa S).uturn] #[sL p0 s0 d0,sL p1 s1 d1,sL p2 s2 d2,sL p3 s3 d3] g8 #[iV y1,.bool b4,iV y3,iV y4,.bool y5,iV y6,sL av nl cv]))/\Z (ONt (w.heap.size+1) wc (sL a0 l0 q0) (sL a1 l1 q1) (sL a2 k c2) (sL a3 l3 q3) (nW (Qa S) rk) vn vw vr)/\Z (Q5 wr.heap.size wc (sL av nl cv) y7)/\Z (Chg (λx=>x<Cr) w4 wc))
  case first=>
   by_cases hk0:k=0
   ·have hkn:¬0<k:=by omega
    have hkd:decide (0<k)=false:=by simp;omega
    have hki:decide ((0:Int)<(k:Int))=false:=by simp;omega
    have hSe:SC=ns s8 4:=by rw[HSC.o,if_neg hkn]
    have HBe:Z (bc=false):=by unfold Z;rw[<-HBC.o,hkd];rfl
    have HF:Z (FR D b w w11 SC (br4 w.heap.size g g2 #[sL a0 l0 q0,sL a1 l1 q1,sL a2 k c2,sL a3 l3 q3,iV (Qa S).uturn] #[sL p0 s0 d0,sL p1 s1 d1,sL p2 s2 d2,sL p3 s3 d3] g8 #[iV y1,.bool b4,iV y3,iV y4,.bool y5,iV y6,sL av nl cv])):=by rw[hSe];exact H11.o
    clear hSe HSC
    go_wp2
    go_meet
    exact⟨by rw[HBe.o],HF,O11,P11,K11⟩
   ·have hkp:0<k:=by omega
    have hkd:decide (0<k)=true:=by simp;omega
    have hki:decide ((0:Int)<(k:Int))=true:=by simp;omega
    have hkz:(0:Int)<(k:Int):=by omega
    have HSe:Z (SC=ns (ns s8 4) 10):=by unfold Z;rw[HSC.o,if_pos hkp]
    have HBe:Z (bc=decide (nv (ns s8 4) 10=0)):=by unfold Z;rw[<-HBC.o,hkd];rfl
    clear HSC HBC
    go_wp2_with fail
    refine(Q6 D b (ns s8 4) 10 w11 H11.o.src HOK9.o (by omega)).mono ?_
    rintro e w12 ⟨rfl,hs1,hc1⟩
    have H12:=mh (H11.o.drawn hs1 hc1)
    have O12:=mh (O11.o.src H11.o.src hc1)
    have P12:=mh (H11.o.rowDrawn P11.o hc1)
    have K12:=mh (K11.o.trans (hc1.mono (λx hx=>by have hx':x=b:=hx;have:=HbL.o;have:=HC2.o;omega)))
    clear hs1 hc1 H11 O11 P11 K11
    rw[<-HSe.o] at H12
    generalize nv (ns s8 4) 10=d10 at *
    have HB5:Z (bc=(d10==0)):=by unfold Z;rw[HBe.o];rfl
    clear HBe
    go_wp2
    go_meet
    exact⟨by rw[HB5.o],H12,O12,P12,K12⟩
  case rest=>
  obtain⟨rfl,H12,O12,P12,K12⟩:=hcut
  obtain⟨zz,hzz⟩:∃z,z=rcZ (Qa S) R ⟨sk,idk,rk⟩:=⟨_,rfl⟩
  obtain⟨S5,hS5⟩:∃z,z=Q1u (Qa S) R ⟨sk,idk,rk⟩:=⟨_,rfl⟩
  have HZ:Z (zz=if bc then rcC ⟨sk,idk,rk⟩ (ns (ns s8 4) 10) else rcY (Qa S) R ⟨sk,idk,rk⟩):=by unfold Z;rw[hzz];unfold rcZ;rw[HB.o,HS2.o]
  have HZ5:Z (S5=if bc then ns (ns (ns (ns s8 4) 10) k) 3 else SC):=by
   unfold Z
   rw[hS5]
   unfold Q1u
   rw[HB.o,HS2.o,HSC.o]
   show(if bc=true then ns (ns (ns (ns s8 4) 10) rk.length) 3 else if 0<rk.length then _ else _)=_
   rw[HLR.o]
  have HO5:Z (SOk S5):=by rw[hS5];exact(Q78 (x:=⟨sk,idk,rk⟩) HOKk.o).1
  have HSTEP:Z ((Xk (Qa S) R x0 (k+1))=⟨ns S5 2,idk+(1+nv S5 2),rk++[⟨idk,zz.only,zz.frm,zz.to,zz.via,zz.node,zz.ways⟩]⟩):=by unfold Z;rw[HST.o,hS5,hzz];rfl
  clear hzz hS5 HST H11 O11 P11 K11 HB
  go_upto_if 51 with fail
  go_cut [9] from 52 to 80 (λs9 wq=>∃(i1:Int) (nl cv:Nat) (av:Option Addr),Z (zz.ways.length=nl)/\Z (FR D b w wq S5 (br4 w.heap.size g g2 #[sL a0 l0 q0,sL a1 l1 q1,sL a2 k c2,sL a3 l3 q3,iV (Qa S).uturn] #[sL p0 s0 d0,sL p1 s1 d1,sL p2 s2 d2,sL p3 s3 d3] g8 #[iV i1,.bool zz.only,iV zz.frm,iV zz.to,.bool zz.via,iV zz.node,sL av nl cv]))/\Z (ONt (w.heap.size+1) wq (sL a0 l0 q0) (sL a1 l1 q1) (sL a2 k c2) (sL a3 l3 q3) (nW (Qa S) rk) vn vw vr)/\Z (Q5 wr.heap.size wq (sL av nl cv) zz.ways)/\Z (Chg (λx=>x<Cr) w4 wq))
  case first=>
   cases bc with
   |false=>
    have hzy:zz=⟨0,b4,y3,y4,y5,y6,y7⟩:=by rw[HZ.o,if_neg (by decide),HYE.o]
    have h5c:S5=SC:=by rw[HZ5.o,if_neg (by decide)]
    have HR:Z (zz.ways.length=nl/\FR D b w wc S5 (br4 w.heap.size g g2 #[sL a0 l0 q0,sL a1 l1 q1,sL a2 k c2,sL a3 l3 q3,iV (Qa S).uturn] #[sL p0 s0 d0,sL p1 s1 d1,sL p2 s2 d2,sL p3 s3 d3] g8 #[iV y1,.bool zz.only,iV zz.frm,iV zz.to,.bool zz.via,iV zz.node,sL av nl cv])/\Q5 wr.heap.size wc (sL av nl cv) zz.ways):=by
     unfold Z
     rw[hzy,h5c]
     exact⟨HNL.o,H12.o,P12.o⟩
    clear hzy h5c
    go_wp2
    go_meet
    exact⟨y1,nl,cv,av,HR.o.1,HR.o.2.1,O12,HR.o.2.2,K12⟩
   |true=>
    have hkp:0<k:=by
     have h:=HBC.o
     rw[zG,decide_eq_true_eq] at h
     exact h.1
    have HSe:Z (SC=ns (ns s8 4) 10):=by unfold Z;rw[HSC.o,if_pos hkp]
    obtain⟨i9,hi9⟩:∃i:Nat,nv SC k=i:=⟨(nv SC k).toNat,by have:=(Qv HOC.o k).1;omega⟩
    have hl9:i9<k:=by have:=(Qv HOC.o k).2 (by omega);omega
    have hj9:(i9:Int)<k:=by omega
    have HI9:=mh hi9
    obtain⟨rb,c2',e9,hrb,_,_⟩:=O12.o.rels.at (i:=i9) (show i9<rk.length by rw[HLR.o];exact hl9)
    replace e9:(sL a2 k c2:Value)=sL (sA rb) rk.length c2':=e9
    simp only[zC] at e9
    obtain⟨rfl,-,rfl⟩:=e9
    have hwy:=HWL.o (rat rk i9) (by have h9:i9<rk.length:=(by rw[HLR.o];exact hl9);rw[Qan h9];exact yH h9)
    obtain⟨ap,cp,eap⟩:=Qd (O12.o.rw_ i9 (show i9<rk.length by rw[HLR.o];exact hl9))
    have HEP:Z (vr i9=.slice ap (rat rk i9).ways.length cp):=eap
    have HPW0:Z (∀q,ONt (w.heap.size+1) q (sL a0 l0 q0) (sL a1 l1 q1) (sL (sA rb) k c2) (sL a3 l3 q3) (nW (Qa S) rk) vn vw vr->Qi (w.heap.size+1) q (.slice ap (rat rk i9).ways.length cp) (rat rk i9).ways):=λq h=>by rw[<-HEP.o];exact(h.rw_ i9 (show i9<rk.length by rw[HLR.o];exact hl9)).held
    have HRC:Z (∀q,ONt (w.heap.size+1) q (sL a0 l0 q0) (sL a1 l1 q1) (sL (sA rb) k c2) (sL a3 l3 q3) (nW (Qa S) rk) vn vw vr->q.cell? (aD rb (i9*7))=some (iV (rat rk i9).id)/\q.cell? (aD rb (i9*7+1))=some (.bool (rat rk i9).only)/\q.cell? (aD rb (i9*7+2))=some (iV (rat rk i9).frm)/\q.cell? (aD rb (i9*7+3))=some (iV (rat rk i9).to)/\q.cell? (aD rb (i9*7+4))=some (.bool (rat rk i9).via)/\q.cell? (aD rb (i9*7+5))=some (iV (rat rk i9).node)/\q.cell? (aD rb (i9*7+6))=some (.slice ap (rat rk i9).ways.length cp)):=λq h=>by
     obtain⟨b',c',e',_,_,k0,k1,k2,k3,k4,k5,k6⟩:=h.rels.at (i:=i9) (show i9<rk.length by rw[HLR.o];exact hl9)
     simp only[zC,Option.some.injEq,Addr.mk.injEq] at e'
     obtain⟨⟨rfl,_⟩,_⟩:=e'
     rw[HEP.o] at k6
     exact⟨k0,k1,k2,k3,k4,k5,k6⟩
    have hzc:zz=⟨0,if nv (ns SC k) 3=0 then !(rat rk i9).only else (rat rk i9).only,(rat rk i9).frm,(rat rk i9).to,(rat rk i9).via,(rat rk i9).node,(rat rk i9).ways⟩:=by
     rw[HZ.o,if_pos rfl,<-HSe.o]
     have hp:rcP ⟨sk,idk,rk⟩ SC=rat rk i9:=by show rat rk (nv SC rk.length).toNat=_;rw[HLR.o,HI9.o,zU]
     unfold rcC
     rw[hp]
     show(⟨0,if nv (ns SC rk.length) 3=0 then _ else _,_,_,_,_,_⟩:Rl)=_
     rw[HLR.o]
    have h5c:S5=ns (ns SC k) 3:=by rw[HZ5.o,if_pos rfl,<-HSe.o]
    have HZC:=mh hzc
    have H5C:=mh h5c
    clear hzc h5c hi9 eap HZ HZ5 HSe HSC HBC hrb HYE
    generalize rat rk i9=pp at *
    obtain⟨p_id,p_on,p_fr,p_to,p_vi,p_no,p_wy⟩:=pp
    simp only at HPW0 HRC HZC hwy
    generalize hnp:p_wy.length=np at *
    have HPN:=mh hnp
    have HPL:Z (p_wy.length<=4):=by rw[hnp];exact hwy
    have HPW:=HPW0
    clear hnp HPW0 HEP
    have HSN:Z (∀q,ONt (w.heap.size+1) q (sL a0 l0 q0) (sL a1 l1 q1) (sL (sA rb) k c2) (sL a3 l3 q3) (nW (Qa S) rk) vn vw vr->BT q g #[sL a0 l0 q0,sL a1 l1 q1,sL (sA rb) k c2,sL a3 l3 q3,iV (Qa S).uturn] 60->(λq=>q.cell? (aD g 2)=some (sL (sA rb) k c2)/\q.cell? (aD rb (i9*7))=some (iV p_id)/\q.cell? (aD rb (i9*7+1))=some (.bool p_on)/\q.cell? (aD rb (i9*7+2))=some (iV p_fr)/\q.cell? (aD rb (i9*7+3))=some (iV p_to)/\q.cell? (aD rb (i9*7+4))=some (.bool p_vi)/\q.cell? (aD rb (i9*7+5))=some (iV p_no)/\q.cell? (aD rb (i9*7+6))=some (sL ap np cp)) q):=λq h hb=>⟨hb.c 2 rfl,HRC.o q h⟩
    go_upto_region 15 with fail
    go_cut [9] from 52 to 58 (λs9 wx=>∃g9,s9=pT g9/\Z (FR D b w wx (ns SC k) (br5 w.heap.size g g2 #[sL a0 l0 q0,sL a1 l1 q1,sL (sA rb) k c2,sL a3 l3 q3,iV (Qa S).uturn] #[sL p0 s0 d0,sL p1 s1 d1,sL p2 s2 d2,sL p3 s3 d3] g8 #[iV y1,.bool b4,iV y3,iV y4,.bool y5,iV y6,sL av nl cv] g9 #[iV p_id,.bool p_on,iV p_fr,iV p_to,.bool p_vi,iV p_no,sL ap np cp]))/\Z (ONt (w.heap.size+1) wx (sL a0 l0 q0) (sL a1 l1 q1) (sL (sA rb) k c2) (sL a3 l3 q3) (nW (Qa S) rk) vn vw vr)/\Z (Chg (λx=>x<Cr) w4 wx))
    case first=>
     have H20:=mh (H12.o.next (show Nx wc wc.drew from(Below.refl _ _).drew))
     have O20:=mh (O12.o.next (show Nx wc wc.drew from(Below.refl _ _).drew))
     have P20:=mh (P12.o.next (show Nx wc wc.drew from(Below.refl _ _).drew))
     have K20:=mh (K12.o.trans (Chg.nx (show Nx wc wc.drew from(Below.refl _ _).drew)))
     have HSS:=mh (HSN.o _ O20.o (H20.o.at 1 rfl))
     refine(wpIn_wide (n:=9)).1 ?_
     refine Qb (c:=8) (S:=λq=>q.cell? (aD g 2)=some (sL (sA rb) k c2)/\q.cell? (aD rb (i9*7))=some (iV p_id)/\q.cell? (aD rb (i9*7+1))=some (.bool p_on)/\q.cell? (aD rb (i9*7+2))=some (iV p_fr)/\q.cell? (aD rb (i9*7+3))=some (iV p_to)/\q.cell? (aD rb (i9*7+4))=some (.bool p_vi)/\q.cell? (aD rb (i9*7+5))=some (iV p_no)/\q.cell? (aD rb (i9*7+6))=some (sL ap np cp)) hmx (by kernel_rfl) (λhw hcl=>?_)
     generalize wc.drew=wd at *
     refine tq (i:=0) (v:=.pointer (some (aD g 2))) (λhcl=>?_)
     refine tq (i:=1) (v:=sL (sA rb) k c2) (λhcl=>?_)
     refine tq (i:=2) (v:=pT b) (λhcl=>?_)
     refine tq (i:=3) (v:=iV (k:Int)) (λhcl=>?_)
     refine F7 (i:=4) (j:=7) (by kernel_rfl) hcl (λhcl=>wpOpIn_step rfl (λK hK=>?_)) (λhcl=>wpOpIn_step rfl (λK hK=>?_))
     ·go_simp
      refine⟨trivial,(callsIn_wide.2 (Q6 D b SC (k:Int) _ H20.o.src HOC.o (by omega))).mono ?_⟩
      rintro e7 wa ⟨rfl,hs1,hc1⟩
      rw[HI9.o]
      have H21:=mh (H20.o.drawn hs1 hc1)
      have O21:=mh (O20.o.src H20.o.src hc1)
      have P21:=mh (H20.o.rowDrawn P20.o hc1)
      have K21:=mh (K20.o.trans (hc1.mono (λx hx=>by have hx':x=b:=hx;have:=HbL.o;have:=HC2.o;omega)))
      have HSS:=mh (HSN.o _ O21.o (H21.o.at 1 rfl))
      refine hK _ _ ⟨oR HSS.o,?_⟩
      clear hK K hs1 hc1
      refine tq (i:=5) (v:=.pointer (some (aD rb (i9*7)))) (λhcl=>?_)
      refine tq (i:=6) (v:=.agg #[iV p_id,.bool p_on,iV p_fr,iV p_to,.bool p_vi,iV p_no,sL ap np cp]) (λhcl=>?_)
      refine Q8 (i:=7) (by kernel_rfl) hcl (λhcl=>wpOpIn_step rfl (λK hK=>?_))
      go_simp
      generalize hWa:wa.alloc (.cells #[iV 0,.bool false,iV 0,iV 0,.bool false,iV 0,sN] 89)=wb
      have H22:Z (FR D b w wb (ns SC k) (br5 w.heap.size g g2 #[sL a0 l0 q0,sL a1 l1 q1,sL (sA rb) k c2,sL a3 l3 q3,iV (Qa S).uturn] #[sL p0 s0 d0,sL p1 s1 d1,sL p2 s2 d2,sL p3 s3 d3] g8 #[iV y1,.bool b4,iV y3,iV y4,.bool y5,iV y6,sL av nl cv] wa.heap.size #[iV 0,.bool false,iV 0,iV 0,.bool false,iV 0,sN])):=by rw[<-hWa];exact H21.o.alloc #[iV 0,.bool false,iV 0,iV 0,.bool false,iV 0,sN] 89 (by decide)
      have O22:Z (ONt (w.heap.size+1) wb (sL a0 l0 q0) (sL a1 l1 q1) (sL (sA rb) k c2) (sL a3 l3 q3) (nW (Qa S) rk) vn vw vr):=by rw[<-hWa];exact O21.o.next (Qe _ _)
      have P22:Z (Q5 wr.heap.size wb (sL av nl cv) y7):=by rw[<-hWa];exact P21.o.next (Qe _ _)
      have K22:Z (Chg (λx=>x<Cr) w4 wb):=by rw[<-hWa];exact K21.o.trans (Chg.nx (Qe _ _))
      have HV9:Z ((sL (sA rb) k c2).ownBlock≠some wa.heap.size):=λe=>by have:=(Q7 O21.o.rels _ e).2;omega
      have HG9:=mh K21.o.size
      clear hWa
      generalize wa.heap.size=g9 at *
      have HSS:=mh (HSN.o _ O22.o (H22.o.at 1 rfl))
      refine hK _ _ ⟨oR HSS.o,?_⟩
      clear hK K
      have BG:BT wb g9 #[iV 0,.bool false,iV 0,iV 0,.bool false,iV 0,sN] 89:=H22.o.at 4 rfl
      have x0:=BG.c 0 rfl
      have fz0:=BG.blk.frozen 0
      have x1:=BG.c 1 rfl
      have fz1:=BG.blk.frozen 1
      have x2:=BG.c 2 rfl
      have fz2:=BG.blk.frozen 2
      have x3:=BG.c 3 rfl
      have fz3:=BG.blk.frozen 3
      have x4:=BG.c 4 rfl
      have fz4:=BG.blk.frozen 4
      have x5:=BG.c 5 rfl
      have fz5:=BG.blk.frozen 5
      have x6:=BG.c 6 rfl
      have fz6:=BG.blk.frozen 6
      have BS:=Km (a0:=iV p_id) (a1:=.bool p_on) (a2:=iV p_fr) (a3:=iV p_to) (a4:=.bool p_vi) (a5:=iV p_no) (a6:=sL ap np cp) BG
      have HCF:Z (Chg (λx=>x=g9) wb (((((((wb.setCell (aD g9 0) (iV p_id)).setCell (aD g9 1) (.bool p_on)).setCell (aD g9 2) (iV p_fr)).setCell (aD g9 3) (iV p_to)).setCell (aD g9 4) (.bool p_vi)).setCell (aD g9 5) (iV p_no)).setCell (aD g9 6) (sL ap np cp))):=Ky
      have HR15:Z (FR D b w (((((((wb.setCell (aD g9 0) (iV p_id)).setCell (aD g9 1) (.bool p_on)).setCell (aD g9 2) (iV p_fr)).setCell (aD g9 3) (iV p_to)).setCell (aD g9 4) (.bool p_vi)).setCell (aD g9 5) (iV p_no)).setCell (aD g9 6) (sL ap np cp)) (ns SC k) (br5 w.heap.size g g2 #[sL a0 l0 q0,sL a1 l1 q1,sL (sA rb) k c2,sL a3 l3 q3,iV (Qa S).uturn] #[sL p0 s0 d0,sL p1 s1 d1,sL p2 s2 d2,sL p3 s3 d3] g8 #[iV y1,.bool b4,iV y3,iV y4,.bool y5,iV y6,sL av nl cv] g9 #[iV p_id,.bool p_on,iV p_fr,iV p_to,.bool p_vi,iV p_no,sL ap np cp])):=H22.o.turn 4 rfl HCF.o BS
      have HO15:=mh (O22.o.turnBox BG (by decide) (λ_=>HV9.o) HCF.o)
      have HP15:=mh (H22.o.rowTurn 4 rfl P22.o HCF.o)
      have HK15:=mh (K22.o.young HCF.o (λx hx hl=>by have hx':x=g9:=hx;have:=HG9.o;omega))
      clear BS
      refine Qh (i:=8) (by kernel_rfl) (wpOpIn_step rfl (λK hK=>?_))
      go_simp
      refine hK _ _ ⟨oL (by decide),?_⟩
      clear hK K
      refine Ql (by kernel_rfl) ?_ _
      clear hw hcl HSS BG x0 x1 x2 x3 x4 x5 x6 fz0 fz1 fz2 fz3 fz4 fz5 fz6
      go_wp2
      go_meet
      exact⟨g9,rfl,HR15,HO15,HK15⟩
     ·go_simp
      generalize hWa:wd.alloc (.cells #[iV 0,.bool false,iV 0,iV 0,.bool false,iV 0,sN] 89)=wa
      have H21:Z (FR D b w wa SC (br5 w.heap.size g g2 #[sL a0 l0 q0,sL a1 l1 q1,sL (sA rb) k c2,sL a3 l3 q3,iV (Qa S).uturn] #[sL p0 s0 d0,sL p1 s1 d1,sL p2 s2 d2,sL p3 s3 d3] g8 #[iV y1,.bool b4,iV y3,iV y4,.bool y5,iV y6,sL av nl cv] wd.heap.size #[iV 0,.bool false,iV 0,iV 0,.bool false,iV 0,sN])):=by rw[<-hWa];exact H20.o.alloc #[iV 0,.bool false,iV 0,iV 0,.bool false,iV 0,sN] 89 (by decide)
      have O21:Z (ONt (w.heap.size+1) wa (sL a0 l0 q0) (sL a1 l1 q1) (sL (sA rb) k c2) (sL a3 l3 q3) (nW (Qa S) rk) vn vw vr):=by rw[<-hWa];exact O20.o.next (Qe _ _)
      have P21:Z (Q5 wr.heap.size wa (sL av nl cv) y7):=by rw[<-hWa];exact P20.o.next (Qe _ _)
      have K21:Z (Chg (λx=>x<Cr) w4 wa):=by rw[<-hWa];exact K20.o.trans (Chg.nx (Qe _ _))
      have HV9:Z ((sL (sA rb) k c2).ownBlock≠some wd.heap.size):=λe=>by have:=(Q7 O20.o.rels _ e).2;omega
      have HG9:=mh K20.o.size
      clear hWa
      generalize wd.heap.size=g9 at *
      have HSS:=mh (HSN.o _ O21.o (H21.o.at 1 rfl))
      refine hK _ _ ⟨oR HSS.o,?_⟩
      clear hK K
      refine Q8 (i:=4) (by kernel_rfl) hcl (λhcl=>wpOpIn_step rfl (λK hK=>?_))
      go_simp
      refine⟨trivial,(callsIn_wide.2 (Q6 D b SC (k:Int) _ H21.o.src HOC.o (by omega))).mono ?_⟩
      rintro e7 wb ⟨rfl,hs1,hc1⟩
      rw[HI9.o]
      have H22:=mh (H21.o.drawn hs1 hc1)
      have O22:=mh (O21.o.src H21.o.src hc1)
      have P22:=mh (H21.o.rowDrawn P21.o hc1)
      have K22:=mh (K21.o.trans (hc1.mono (λx hx=>by have hx':x=b:=hx;have:=HbL.o;have:=HC2.o;omega)))
      have HSS:=mh (HSN.o _ O22.o (H22.o.at 1 rfl))
      refine hK _ _ ⟨oR HSS.o,?_⟩
      clear hK K hs1 hc1
      refine tq (i:=5) (v:=.pointer (some (aD rb (i9*7)))) (λhcl=>?_)
      refine tq (i:=6) (v:=.agg #[iV p_id,.bool p_on,iV p_fr,iV p_to,.bool p_vi,iV p_no,sL ap np cp]) (λhcl=>?_)
      have BG:BT wb g9 #[iV 0,.bool false,iV 0,iV 0,.bool false,iV 0,sN] 89:=H22.o.at 4 rfl
      have x0:=BG.c 0 rfl
      have fz0:=BG.blk.frozen 0
      have x1:=BG.c 1 rfl
      have fz1:=BG.blk.frozen 1
      have x2:=BG.c 2 rfl
      have fz2:=BG.blk.frozen 2
      have x3:=BG.c 3 rfl
      have fz3:=BG.blk.frozen 3
      have x4:=BG.c 4 rfl
      have fz4:=BG.blk.frozen 4
      have x5:=BG.c 5 rfl
      have fz5:=BG.blk.frozen 5
      have x6:=BG.c 6 rfl
      have fz6:=BG.blk.frozen 6
      have BS:=Km (a0:=iV p_id) (a1:=.bool p_on) (a2:=iV p_fr) (a3:=iV p_to) (a4:=.bool p_vi) (a5:=iV p_no) (a6:=sL ap np cp) BG
      have HCF:Z (Chg (λx=>x=g9) wb (((((((wb.setCell (aD g9 0) (iV p_id)).setCell (aD g9 1) (.bool p_on)).setCell (aD g9 2) (iV p_fr)).setCell (aD g9 3) (iV p_to)).setCell (aD g9 4) (.bool p_vi)).setCell (aD g9 5) (iV p_no)).setCell (aD g9 6) (sL ap np cp))):=Ky
      have HR15:Z (FR D b w (((((((wb.setCell (aD g9 0) (iV p_id)).setCell (aD g9 1) (.bool p_on)).setCell (aD g9 2) (iV p_fr)).setCell (aD g9 3) (iV p_to)).setCell (aD g9 4) (.bool p_vi)).setCell (aD g9 5) (iV p_no)).setCell (aD g9 6) (sL ap np cp)) (ns SC k) (br5 w.heap.size g g2 #[sL a0 l0 q0,sL a1 l1 q1,sL (sA rb) k c2,sL a3 l3 q3,iV (Qa S).uturn] #[sL p0 s0 d0,sL p1 s1 d1,sL p2 s2 d2,sL p3 s3 d3] g8 #[iV y1,.bool b4,iV y3,iV y4,.bool y5,iV y6,sL av nl cv] g9 #[iV p_id,.bool p_on,iV p_fr,iV p_to,.bool p_vi,iV p_no,sL ap np cp])):=H22.o.turn 4 rfl HCF.o BS
      have HO15:=mh (O22.o.turnBox BG (by decide) (λ_=>HV9.o) HCF.o)
      have HP15:=mh (H22.o.rowTurn 4 rfl P22.o HCF.o)
      have HK15:=mh (K22.o.young HCF.o (λx hx hl=>by have hx':x=g9:=hx;have:=HG9.o;omega))
      clear BS
      refine Qh (i:=8) (by kernel_rfl) (wpOpIn_step rfl (λK hK=>?_))
      go_simp
      refine hK _ _ ⟨oL (by decide),?_⟩
      clear hK K
      refine Ql (by kernel_rfl) ?_ _
      clear hw hcl HSS BG x0 x1 x2 x3 x4 x5 x6 fz0 fz1 fz2 fz3 fz4 fz5 fz6
      go_wp2
      go_meet
      exact⟨g9,rfl,HR15,HO15,HK15⟩
    case rest=>
    obtain⟨g9,rfl,H29,O29,K29⟩:=hcut
    have HSQ:Z (∀q S',FR D b w q S' (br5 w.heap.size g g2 #[sL a0 l0 q0,sL a1 l1 q1,sL (sA rb) k c2,sL a3 l3 q3,iV (Qa S).uturn] #[sL p0 s0 d0,sL p1 s1 d1,sL p2 s2 d2,sL p3 s3 d3] g8 #[iV y1,.bool b4,iV y3,iV y4,.bool y5,iV y6,sL av nl cv] g9 #[iV p_id,.bool p_on,iV p_fr,iV p_to,.bool p_vi,iV p_no,sL ap np cp])->(λq=>q.cell? (aD g9 1)=some (.bool p_on)/\q.cell? (aD g9 2)=some (iV p_fr)/\q.cell? (aD g9 3)=some (iV p_to)/\q.cell? (aD g9 4)=some (.bool p_vi)/\q.cell? (aD g9 5)=some (iV p_no)/\q.cell? (aD g9 6)=some (sL ap np cp)) q):=λq S' h=>⟨(h.at 4 rfl).c 1 rfl,(h.at 4 rfl).c 2 rfl,(h.at 4 rfl).c 3 rfl,(h.at 4 rfl).c 4 rfl,(h.at 4 rfl).c 5 rfl,(h.at 4 rfl).c 6 rfl⟩
    clear H12 O12 P12 K12
    go_upto_region 16 with fail
    have H30:=mh (H29.o.next (show Nx wc wc.drew from(Below.refl _ _).drew))
    have O30:=mh (O29.o.next (show Nx wc wc.drew from(Below.refl _ _).drew))
    have K30:=mh (K29.o.trans (Chg.nx (show Nx wc wc.drew from(Below.refl _ _).drew)))
    have HSS:=mh (HSQ.o _ _ H30.o)
    refine(wpIn_wide (n:=9)).1 ?_
    refine Qb (c:=15) (S:=λq=>q.cell? (aD g9 1)=some (.bool p_on)/\q.cell? (aD g9 2)=some (iV p_fr)/\q.cell? (aD g9 3)=some (iV p_to)/\q.cell? (aD g9 4)=some (.bool p_vi)/\q.cell? (aD g9 5)=some (iV p_no)/\q.cell? (aD g9 6)=some (sL ap np cp)) hmx (by kernel_rfl) (λhw hcl=>?_)
    generalize wc.drew=wd at *
    refine tq (i:=0) (v:=.pointer (some (aD g9 1))) (λhcl=>?_)
    refine tq (i:=1) (v:=.bool p_on) (λhcl=>?_)
    refine tq (i:=2) (v:=.pointer (some (aD g9 2))) (λhcl=>?_)
    refine tq (i:=3) (v:=iV p_fr) (λhcl=>?_)
    refine tq (i:=4) (v:=.pointer (some (aD g9 3))) (λhcl=>?_)
    refine tq (i:=5) (v:=iV p_to) (λhcl=>?_)
    refine tq (i:=6) (v:=.pointer (some (aD g9 4))) (λhcl=>?_)
    refine tq (i:=7) (v:=.bool p_vi) (λhcl=>?_)
    refine tq (i:=8) (v:=.pointer (some (aD g9 5))) (λhcl=>?_)
    refine tq (i:=9) (v:=iV p_no) (λhcl=>?_)
    refine tq (i:=10) (v:=.pointer (some (aD g9 6))) (λhcl=>?_)
    refine tq (i:=11) (v:=sL ap np cp) (λhcl=>?_)
    refine Q8 (i:=12) (by kernel_rfl) hcl (λhcl=>wpOpIn_step rfl (λK hK=>?_))
    go_simp
    generalize hWe:wd.alloc (.cells #[] 2)=we
    have HXe:Z (Nx wd we):=by rw[<-hWe];exact Qe _ _
    have HZe:Z (Qi 0 we (sL (sA wd.heap.size) 0 0) []):=⟨_,_,rfl,nZ,λh=>absurd h (yE _)⟩
    clear hWe
    have H31:=mh (H30.o.next HXe.o)
    have O31:=mh (O30.o.next HXe.o)
    have K31:=mh (K30.o.trans (Chg.nx HXe.o))
    have HSS:=mh (HSQ.o _ _ H31.o)
    refine hK _ _ ⟨oR HSS.o,?_⟩
    clear hK K
    refine Q8 (i:=13) (by kernel_rfl) hcl (λhcl=>wpOpIn_step rfl (λK hK=>?_))
    go_simp
    refine⟨trivial,(callsIn_wide.2 (Yg (w.heap.size+1) 0 (sL ap np cp) (sL (sA wd.heap.size) 0 0) p_wy [] we (HPW.o we O31.o) HZe.o (by have:=HPL.o;omega) (by simp))).mono ?_⟩
    rintro e7 wg ⟨⟨uu,rfl,hou⟩,hxg⟩
    have H32:=mh (H31.o.next hxg)
    have O32:=mh (O31.o.next hxg)
    have K32:=mh (K31.o.trans (Chg.nx hxg))
    rw[List.append_nil] at hou
    obtain⟨au,cu,rfl⟩:=Qd hou
    have P32:Z (Q5 wr.heap.size wg (sL au p_wy.length cu) p_wy):=hou.base (by have h1:=HWG.o;have h2:=(show BT we g8 #[iV y1,.bool b4,iV y3,iV y4,.bool y5,iV y6,sL av nl cv] 89 from H31.o.at 3 rfl).lt;omega)
    rw[HPN.o] at P32 ⊢
    have HSS:=mh (HSQ.o _ _ H32.o)
    refine hK _ _ ⟨oR HSS.o,?_⟩
    clear hK K hou hxg
    refine tq (i:=14) (v:=.agg #[iV 0,.bool p_on,iV p_fr,iV p_to,.bool p_vi,iV p_no,sL au np cu]) (λhcl=>?_)
    have BG:BT wg g8 #[iV y1,.bool b4,iV y3,iV y4,.bool y5,iV y6,sL av nl cv] 89:=H32.o.at 3 rfl
    have x0:=BG.c 0 rfl
    have fz0:=BG.blk.frozen 0
    have x1:=BG.c 1 rfl
    have fz1:=BG.blk.frozen 1
    have x2:=BG.c 2 rfl
    have fz2:=BG.blk.frozen 2
    have x3:=BG.c 3 rfl
    have fz3:=BG.blk.frozen 3
    have x4:=BG.c 4 rfl
    have fz4:=BG.blk.frozen 4
    have x5:=BG.c 5 rfl
    have fz5:=BG.blk.frozen 5
    have x6:=BG.c 6 rfl
    have fz6:=BG.blk.frozen 6
    have BS:=Km (a0:=iV 0) (a1:=.bool p_on) (a2:=iV p_fr) (a3:=iV p_to) (a4:=.bool p_vi) (a5:=iV p_no) (a6:=sL au np cu) BG
    have HCF:Z (Chg (λx=>x=g8) wg (((((((wg.setCell (aD g8 0) (iV 0)).setCell (aD g8 1) (.bool p_on)).setCell (aD g8 2) (iV p_fr)).setCell (aD g8 3) (iV p_to)).setCell (aD g8 4) (.bool p_vi)).setCell (aD g8 5) (iV p_no)).setCell (aD g8 6) (sL au np cu))):=Ky
    have H33:Z (FR D b w (((((((wg.setCell (aD g8 0) (iV 0)).setCell (aD g8 1) (.bool p_on)).setCell (aD g8 2) (iV p_fr)).setCell (aD g8 3) (iV p_to)).setCell (aD g8 4) (.bool p_vi)).setCell (aD g8 5) (iV p_no)).setCell (aD g8 6) (sL au np cu)) (ns SC k) (br4 w.heap.size g g2 #[sL a0 l0 q0,sL a1 l1 q1,sL (sA rb) k c2,sL a3 l3 q3,iV (Qa S).uturn] #[sL p0 s0 d0,sL p1 s1 d1,sL p2 s2 d2,sL p3 s3 d3] g8 #[iV 0,.bool p_on,iV p_fr,iV p_to,.bool p_vi,iV p_no,sL au np cu])):=(show FR D b w (((((((wg.setCell (aD g8 0) (iV 0)).setCell (aD g8 1) (.bool p_on)).setCell (aD g8 2) (iV p_fr)).setCell (aD g8 3) (iV p_to)).setCell (aD g8 4) (.bool p_vi)).setCell (aD g8 5) (iV p_no)).setCell (aD g8 6) (sL au np cu)) (ns SC k) (br5 w.heap.size g g2 #[sL a0 l0 q0,sL a1 l1 q1,sL (sA rb) k c2,sL a3 l3 q3,iV (Qa S).uturn] #[sL p0 s0 d0,sL p1 s1 d1,sL p2 s2 d2,sL p3 s3 d3] g8 #[iV 0,.bool p_on,iV p_fr,iV p_to,.bool p_vi,iV p_no,sL au np cu] g9 #[iV p_id,.bool p_on,iV p_fr,iV p_to,.bool p_vi,iV p_no,sL ap np cp]) from H32.o.turn 3 rfl HCF.o BS).less 4
    have O33:=mh (O32.o.turnBox BG (by decide) (λ_=>HV8.o) HCF.o)
    have P33:=mh (H32.o.rowTurn 3 rfl P32.o HCF.o)
    have K33:=mh (K32.o.young HCF.o (λx hx hl=>by have hx':x=g8:=hx;have:=HG8.o;omega))
    clear BS
    refine Qh (i:=15) (by kernel_rfl) (wpOpIn_step rfl (λK hK=>?_))
    go_simp
    refine hK _ _ ⟨oL (by decide),?_⟩
    clear hK K
    refine Ql (by kernel_rfl) ?_ _
    clear hw hcl HSS BG x0 x1 x2 x3 x4 x5 x6 fz0 fz1 fz2 fz3 fz4 fz5 fz6 H31 O31 K31 H32 O32 K32 P32 H30 O30 K30 HCF
    generalize (((((((wg.setCell (aD g8 0) (iV 0)).setCell (aD g8 1) (.bool p_on)).setCell (aD g8 2) (iV p_fr)).setCell (aD g8 3) (iV p_to)).setCell (aD g8 4) (.bool p_vi)).setCell (aD g8 5) (iV p_no)).setCell (aD g8 6) (sL au np cu))=w33 at *
    have HO17:Z (SOk (ns SC k)):=Qf HOC.o _
    clear H29 O29 K29
    go_wp2_with fail
    refine(Q6 D b (ns SC k) 3 w33 H33.o.src HO17.o (by omega)).mono ?_
    rintro e w34 ⟨rfl,hs1,hc1⟩
    have H34:=mh (H33.o.drawn hs1 hc1)
    have O34:=mh (O33.o.src H33.o.src hc1)
    have P34:=mh (H33.o.rowDrawn P33.o hc1)
    have K34:=mh (K33.o.trans (hc1.mono (λx hx=>by have hx':x=b:=hx;have:=HbL.o;have:=HC2.o;omega)))
    clear hs1 hc1 H33 O33 P33 K33
    rw[<-H5C.o] at H34
    generalize nv (ns SC k) 3=dq3 at *
    by_cases hdq3:dq3=0
    ·have hzc:zz=⟨0,!p_on,p_fr,p_to,p_vi,p_no,p_wy⟩:=by rw[HZC.o,if_pos hdq3]
     have BG:BT w34 g8 #[iV 0,.bool p_on,iV p_fr,iV p_to,.bool p_vi,iV p_no,sL au np cu] 89:=H34.o.at 3 rfl
     have x1:=BG.c 1 rfl
     have fz1:=BG.blk.frozen 1
     have H35:Z (FR D b w (w34.setCell (aD g8 1) (.bool (!p_on))) S5 (br4 w.heap.size g g2 #[sL a0 l0 q0,sL a1 l1 q1,sL (sA rb) k c2,sL a3 l3 q3,iV (Qa S).uturn] #[sL p0 s0 d0,sL p1 s1 d1,sL p2 s2 d2,sL p3 s3 d3] g8 #[iV 0,.bool (!p_on),iV p_fr,iV p_to,.bool p_vi,iV p_no,sL au np cu])):=H34.o.set 3 rfl 1 _
     have O35:Z (ONt (w.heap.size+1) (w34.setCell (aD g8 1) (.bool (!p_on))) (sL a0 l0 q0) (sL a1 l1 q1) (sL (sA rb) k c2) (sL a3 l3 q3) (nW (Qa S) rk) vn vw vr):=O34.o.turnBox BG (by decide) (λ_=>HV8.o) (Chg.set _ _ _ rfl)
     have P35:=mh (H34.o.rowTurn 3 rfl P34.o (Chg.set g8 1 (.bool (!p_on)) rfl))
     have K35:Z (Chg (λx=>x<Cr) w4 (w34.setCell (aD g8 1) (.bool (!p_on)))):=K34.o.young (Chg.set (S:=λx=>x=g8) _ _ _ rfl) (λx hx hl=>by have hx':x=g8:=hx;have:=HG8.o;omega)
     have HR:Z (zz.ways.length=np/\FR D b w (w34.setCell (aD g8 1) (.bool (!p_on))) S5 (br4 w.heap.size g g2 #[sL a0 l0 q0,sL a1 l1 q1,sL (sA rb) k c2,sL a3 l3 q3,iV (Qa S).uturn] #[sL p0 s0 d0,sL p1 s1 d1,sL p2 s2 d2,sL p3 s3 d3] g8 #[iV 0,.bool zz.only,iV zz.frm,iV zz.to,.bool zz.via,iV zz.node,sL au np cu])/\Q5 wr.heap.size (w34.setCell (aD g8 1) (.bool (!p_on))) (sL au np cu) zz.ways):=by
      unfold Z
      rw[hzc]
      exact⟨HPN.o,H35.o,P35.o⟩
     subst hdq3
     clear hzc H35 P35 BG HZC
     go_wp2
     go_meet
     exact⟨0,np,cu,au,HR.o.1,HR.o.2.1,O35,HR.o.2.2,K35⟩
    ·have hzc:zz=⟨0,p_on,p_fr,p_to,p_vi,p_no,p_wy⟩:=by rw[HZC.o,if_neg hdq3]
     have hdq3':(dq3==0)=false:=by simpa using hdq3
     have HR:Z (zz.ways.length=np/\FR D b w w34 S5 (br4 w.heap.size g g2 #[sL a0 l0 q0,sL a1 l1 q1,sL (sA rb) k c2,sL a3 l3 q3,iV (Qa S).uturn] #[sL p0 s0 d0,sL p1 s1 d1,sL p2 s2 d2,sL p3 s3 d3] g8 #[iV 0,.bool zz.only,iV zz.frm,iV zz.to,.bool zz.via,iV zz.node,sL au np cu])/\Q5 wr.heap.size w34 (sL au np cu) zz.ways):=by
      unfold Z
      rw[hzc]
      exact⟨HPN.o,H34.o,P34.o⟩
     clear hzc HZC hdq3
     go_wp2
     go_meet
     exact⟨0,np,cu,au,HR.o.1,HR.o.2.1,O34,HR.o.2.2,K34⟩
  case rest=>
  clear HZ HZ5 HSC HOC H12 O12 P12 K12 HYE HNL
  obtain⟨i1,nl,cv,av,HNL,H13,O13,P13,K13⟩:=hcut
  obtain⟨z1,z2,z3,z4,z5,z6,z7⟩:=zz
  simp only at HNL H13 P13 HSTEP ⊢
  have BG:BT wc g8 #[iV i1,.bool z2,iV z3,iV z4,.bool z5,iV z6,sL av nl cv] 89:=H13.o.at 3 rfl
  have x0:=BG.c 0 rfl
  have fz0:=BG.blk.frozen 0
  go_upto_region 20 with fail
  have H14:Z (FR D b w (wc.setCell (aD g8 0) (iV idk)) S5 (br4 w.heap.size g g2 #[sL a0 l0 q0,sL a1 l1 q1,sL a2 k c2,sL a3 l3 q3,iV (Qa S).uturn] #[sL p0 s0 d0,sL p1 s1 d1,sL p2 s2 d2,sL p3 s3 d3] g8 #[iV idk,.bool z2,iV z3,iV z4,.bool z5,iV z6,sL av nl cv])):=H13.o.set 3 rfl 0 _
  have O14:Z (ONt (w.heap.size+1) (wc.setCell (aD g8 0) (iV idk)) (sL a0 l0 q0) (sL a1 l1 q1) (sL a2 k c2) (sL a3 l3 q3) (nW (Qa S) rk) vn vw vr):=O13.o.turnBox (show BT wc g8 #[iV i1,.bool z2,iV z3,iV z4,.bool z5,iV z6,sL av nl cv] 89 from H13.o.at 3 rfl) (by decide) (λ_=>HV8.o) (Chg.set _ _ _ rfl)
  have P14:=mh (H13.o.rowTurn 3 rfl P13.o (Chg.set g8 0 (iV idk) rfl))
  have K14:Z (Chg (λx=>x<Cr) w4 (wc.setCell (aD g8 0) (iV idk))):=K13.o.young (Chg.set (S:=λx=>x=g8) _ _ _ rfl) (λx hx hl=>by have hx':x=g8:=hx;have:=HG8.o;omega)
  clear x0 fz0 BG H13 O13 P13 K13
  generalize wc.setCell (aD g8 0) (iV idk)=w14 at *
  have hv2:=Qv HO5.o 2
  go_wp2_with fail
  refine(Q6 D b S5 2 w14 H14.o.src HO5.o (by omega)).mono ?_
  rintro e w15 ⟨rfl,hs1,hc1⟩
  have H15:=mh (H14.o.drawn hs1 hc1)
  have O15:=mh (O14.o.src H14.o.src hc1)
  have P15:=mh (H14.o.rowDrawn P14.o hc1)
  have K15:=mh (K14.o.trans (hc1.mono (λx hx=>by have hx':x=b:=hx;have:=HbL.o;have:=HC2.o;omega)))
  clear hs1 hc1 H14 O14 P14 K14
  generalize nv S5 2=dd2 at *
  have HROW:Z (w15.ownsRow (w.heap.size+1) 89 7 (sL a2 k c2) k (Fp rk vr)):=by
   have h:=O15.o.rels
   unfold Q1b at h
   replace h:w15.ownsRow (w.heap.size+1) 89 7 (sL a2 k c2) rk.length (Fp rk vr):=h
   rw[HLR.o] at h
   exact h
  have nn2:w15.cell? (aD g 2)=some (sL a2 k c2):=(H15.o.at 1 rfl).c 2 rfl
  have yy0:w15.cell? (aD g8 0)=some (iV idk):=(H15.o.at 3 rfl).c 0 rfl
  have yy1:w15.cell? (aD g8 1)=some (.bool z2):=(H15.o.at 3 rfl).c 1 rfl
  have yy2:w15.cell? (aD g8 2)=some (iV z3):=(H15.o.at 3 rfl).c 2 rfl
  have yy3:w15.cell? (aD g8 3)=some (iV z4):=(H15.o.at 3 rfl).c 3 rfl
  have yy4:w15.cell? (aD g8 4)=some (.bool z5):=(H15.o.at 3 rfl).c 4 rfl
  have yy5:w15.cell? (aD g8 5)=some (iV z6):=(H15.o.at 3 rfl).c 5 rfl
  have yy6:w15.cell? (aD g8 6)=some (sL av nl cv):=(H15.o.at 3 rfl).c 6 rfl
  have hzr:w.heap.size+1<=w15.heap.size:=by have h1:=HC2.o;have h2:=HR4s.o;have h3:=K15.o.size;omega
  go_wp2_with (at_builtin;refine U7 Q48 underlying57 rfl (by decide) (by decide) rfl _ _ rfl (w.heap.size+1) k (sL a2 k c2) (Fp rk vr) [iV idk,.bool z2,iV z3,iV z4,.bool z5,iV z6,sL av nl cv] w15 rfl HROW.o rfl rfl (by intro u hu;simp at hu;rcases hu with rfl|rfl|rfl|rfl|rfl|rfl|rfl<;>rfl) (by omega) hzr ?_)
  intro a9 c9 w16 r1 r2 r3
  have H16:Z (FR D b w w16 (ns S5 2) (br3 w.heap.size g g2 #[sL a0 l0 q0,sL a1 l1 q1,sL a2 k c2,sL a3 l3 q3,iV (Qa S).uturn] #[sL p0 s0 d0,sL p1 s1 d1,sL p2 s2 d2,sL p3 s3 d3])):=by
   have hl:FR D b w w15 (ns S5 2) (br3 w.heap.size g g2 #[sL a0 l0 q0,sL a1 l1 q1,sL a2 k c2,sL a3 l3 q3,iV (Qa S).uturn] #[sL p0 s0 d0,sL p1 s1 d1,sL p2 s2 d2,sL p3 s3 d3]):=H15.o.less 3
   refine hl.growX r2 (λp hp e=>?_) (λx hx=>?_) (λx hx=>?_)
   ·have hb:=(hl.bx p hp).1
    refine hb.neRow HROW.o ?_ e
    simp only[br3,List.mem_cons,List.not_mem_nil,or_false] at hp
    rcases hp with rfl|rfl|rfl<;>simp
   ·obtain⟨cs,hb⟩:=Q1q HROW.o hx.symm
    exact⟨cs,_,hb,by decide,by decide⟩
   ·have:=(Q7 HROW.o x hx.symm).1
    omega
  have O16:Z (ONt (w.heap.size+1) w16 (sL a0 l0 q0) (sL a1 l1 q1) (sL a9 (k+1) c9) (sL a3 l3 q3) (nW (Qa S) (rk++[⟨idk,z2,z3,z4,z5,z6,z7⟩])) vn vw (upd vr rk.length (sL av nl cv))):=
   O15.o.addRel (z:=wr.heap.size) HIZ.o (x:=⟨idk,z2,z3,z4,z5,z6,z7⟩) (va:=sL av nl cv) (by show w16.ownsRow _ _ 7 _ (rk.length+1) _;rw[HLR.o];exact r1) r2 P15.o HZC.o
  have K16:=mh (K15.o.young r2 (λx hx hl=>by have:=HVk.o x hx.symm;omega))
  have HV16:Z (∀y,(sL a9 (k+1) c9).ownBlock=some y->w4.heap.size<=y):=λy hy=>(r3 y hy).elim (HVk.o y) (λh=>zM K15.o.size h)
  clear r1 r2 r3 nn2 yy0 yy1 yy2 yy3 yy4 yy5 yy6
  have BN:BT w16 g #[sL a0 l0 q0,sL a1 l1 q1,sL a2 k c2,sL a3 l3 q3,iV (Qa S).uturn] 60:=H16.o.at 1 rfl
  have nn2:=BN.c 2 rfl
  have fz2:=BN.blk.frozen 2
  have H17:Z (FR D b w (w16.setCell (aD g 2) (sL a9 (k+1) c9)) (ns S5 2) (br3 w.heap.size g g2 #[sL a0 l0 q0,sL a1 l1 q1,sL a9 (k+1) c9,sL a3 l3 q3,iV (Qa S).uturn] #[sL p0 s0 d0,sL p1 s1 d1,sL p2 s2 d2,sL p3 s3 d3])):=H16.o.set 1 rfl 2 _
  have O17:=mh (O16.o.turnBox BN (by decide) (λe=>absurd e (by decide)) (Chg.set g 2 (sL a9 (k+1) c9) rfl))
  have K17:=mh (K16.o.trans (Chg.set g 2 (sL a9 (k+1) c9) (show g<Cr from HG2.o)))
  have HF1:Z (FR D b w (w16.setCell (aD g 2) (sL a9 (k+1) c9)) (Xk (Qa S) R x0 (k+1)).S (br3 w.heap.size g g2 #[sL a0 l0 q0,sL a1 l1 q1,sL a9 (k+1) c9,sL a3 l3 q3,iV (Qa S).uturn] #[sL p0 s0 d0,sL p1 s1 d1,sL p2 s2 d2,sL p3 s3 d3])):=by rw[HSTEP.o];exact H17.o
  have HF2:Z (∃vr,ONt (w.heap.size+1) (w16.setCell (aD g 2) (sL a9 (k+1) c9)) (sL a0 l0 q0) (sL a1 l1 q1) (sL a9 (k+1) c9) (sL a3 l3 q3) (nW (Qa S) (Xk (Qa S) R x0 (k+1)).rels) vn vw vr):=by rw[HSTEP.o];exact⟨_,O17.o⟩
  have HF3:Z (idk+(1+dd2)=(Xk (Qa S) R x0 (k+1)).id):=by unfold Z;rw[HSTEP.o]
  clear H16 O16 K16 H17 O17 H15 O15 P15 K15 HROW
  go_wp2
  go_roundw
  case rel=>exact⟨k+1,c9,a9,by omega,by go_num,by rw[HF3.o],HF1,HF2,K17,HV16⟩
  case measure=>simp[intOf];omega
 have hkc:k=cn:=by omega
 subst hkc
 rw[<-HXI.o] at Hk OLk ⊢
 obtain⟨vr,hOk⟩:=OLk.o
 have HRN:Z (Yk S=nW (Qa S) (riX S).rels):=by unfold Z Yk;rw[HL1.o,if_neg hz]
 have HRS:Z (riS S=(riX S).S):=by unfold Z riS;rw[HL1.o,if_neg hz]
 have Ok:=mh hOk
 clear hOk OLk hlt hk
 have nc0:wr.cell? (aD g 0)=some (sL a0 l0 q0):=(Hk.o.at 1 rfl).c 0 rfl
 have nc1:wr.cell? (aD g 1)=some (sL a1 l1 q1):=(Hk.o.at 1 rfl).c 1 rfl
 have nc2:wr.cell? (aD g 2)=some (sL a2 k c2):=(Hk.o.at 1 rfl).c 2 rfl
 have nc3:wr.cell? (aD g 3)=some (sL a3 l3 q3):=(Hk.o.at 1 rfl).c 3 rfl
 have nc4:wr.cell? (aD g 4)=some (iV (Qa S).uturn):=(Hk.o.at 1 rfl).c 4 rfl
 have BR:BT wr w.heap.size #[sN,sN,sN,sN,iV 0] 60:=Hk.o.at 0 rfl
 have x0:=BR.c 0 rfl
 have fz0:=BR.blk.frozen 0
 have x1:=BR.c 1 rfl
 have fz1:=BR.blk.frozen 1
 have x2:=BR.c 2 rfl
 have fz2:=BR.blk.frozen 2
 have x3:=BR.c 3 rfl
 have fz3:=BR.blk.frozen 3
 have x4:=BR.c 4 rfl
 have fz4:=BR.blk.frozen 4
 have BS:=set5 (a0:=sL a0 l0 q0) (a1:=sL a1 l1 q1) (a2:=sL a2 k c2) (a3:=sL a3 l3 q3) (a4:=iV (Qa S).uturn) BR
 have P0:Z (_=some (sL a0 l0 q0)):=BS.c 0 rfl
 have P1:Z (_=some (sL a1 l1 q1)):=BS.c 1 rfl
 have P2:Z (_=some (sL a2 k c2)):=BS.c 2 rfl
 have P3:Z (_=some (sL a3 l3 q3)):=BS.c 3 rfl
 have P4:Z (_=some (iV (Qa S).uturn)):=BS.c 4 rfl
 have HCF:Z (Chg (λx=>x=w.heap.size) wr (((((wr.setCell (aD w.heap.size 0) (sL a0 l0 q0)).setCell (aD w.heap.size 1) (sL a1 l1 q1)).setCell (aD w.heap.size 2) (sL a2 k c2)).setCell (aD w.heap.size 3) (sL a3 l3 q3)).setCell (aD w.heap.size 4) (iV (Qa S).uturn))):=chg5
 have HBS:=mh BS
 clear BS BR
 go_wp2
 generalize hWF:(((((wr.setCell (aD w.heap.size 0) (sL a0 l0 q0)).setCell (aD w.heap.size 1) (sL a1 l1 q1)).setCell (aD w.heap.size 2) (sL a2 k c2)).setCell (aD w.heap.size 3) (sL a3 l3 q3)).setCell (aD w.heap.size 4) (iV (Qa S).uturn))=wF at P0 P1 P2 P3 P4 HBS HCF ⊢
 have p0_:=P0.o
 have p1_:=P1.o
 have p2_:=P2.o
 have p3_:=P3.o
 have p4_:=P4.o
 refine bodyPost_ret (v:=.agg #[sL a0 l0 q0,sL a1 l1 q1,sL a2 k c2,sL a3 l3 q3,iV (Qa S).uturn]) (by simp[results,results32,go_sem,p0_,p1_,p2_,p3_,p4_]) rfl ?_
 have hF:=Hk.o.turn 0 rfl HCF.o HBS.o
 have hO:=Ok.o.turnBox (show BT wr w.heap.size #[sN,sN,sN,sN,iV 0] 60 from Hk.o.at 0 rfl) (by decide) (λe=>absurd e (by decide)) HCF.o
 rw[HRN.o,HRS.o]
 exact⟨_,_,_,_,_,_,_,rfl,hO,hF.src,hF.chg⟩
end Go.Proofs.YtphiaobccollhaaGreat
