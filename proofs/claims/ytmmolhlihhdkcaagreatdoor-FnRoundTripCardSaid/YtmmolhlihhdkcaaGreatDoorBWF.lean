import Derived.Test.YtmmolhlihhdkcaaGreatDoorBWD
import Derived.Test.YtmmolhlihhdkcaaGreatDoorBWE
import Derived.Test.YtmmolhlihhdkcaaGreatDoorBEF
import Derived.Lib.LaidTab
namespace Go.Proofs.YtmmolhlihhdkcaaGreatDoor
open Go.RowKit Go.Sort
set_option linter.unusedVariables false
set_option maxRecDepth 1000000
set_option maxHeartbeats 16000000
theorem T6 (B:Nat)(v:Value)(code:List UInt8)(w:World)(h:HBy B w v code)(hl:code.length<=1048576) :
  Calls Tryz.prog 5 #[v] w λe w'=>(∃v0 v1 v2 v3,e=.returned (.agg #[v0,v1,v2,v3,.int .i64 (Zu (Wb code)).uturn])/\∃vn vw vr,ONt (w.heap.size+1) w' v0 v1 v2 v3 (Zu (Wb code)) vn vw vr)/\Nx w w':=by
 have HB:=Q0 h
 have HL:Hid (code.length<=1048576):=hl
 obtain⟨ca,cc,rfl,hmx1,hk⟩:=h
 clear hk hmx1 hl
 go_enter Tryz.func5,Tryz.ntmps5
 go_upto_region 1 with fail
 have HX0:Hid (Nx w (w.alloc (.cells #[.slice none 0 0,.slice none 0 0,.slice none 0 0,.slice none 0 0,.int .i64 0] 28))):=Qd _ _
 have HB0:Hid (BT (w.alloc (.cells #[.slice none 0 0,.slice none 0 0,.slice none 0 0,.slice none 0 0,.int .i64 0] 28)) w.heap.size #[.slice none 0 0,.slice none 0 0,.slice none 0 0,.slice none 0 0,.int .i64 0] 28):=BT.new _ _ _ _ rfl
 have HZ:Hid ((w.alloc (.cells #[.slice none 0 0,.slice none 0 0,.slice none 0 0,.slice none 0 0,.int .i64 0] 28)).heap.size=w.heap.size+1):=by unfold Hid;rw[Q7]
 generalize w.alloc (.cells #[.slice none 0 0,.slice none 0 0,.slice none 0 0,.slice none 0 0,.int .i64 0] 28)=wA at *
 have HBA:=Q0 (HB.out.next HX0.out)
 clear HB
 go_wp2_with fail
 refine(Q0o B _ code wA HBA.out HL.out).mono ?_
 rintro e w1 ⟨⟨b,rfl,hs1,hb1⟩,hx1⟩
 have HS1:=Q0 hs1
 have HX1:Hid (Nx w w1):=HX0.out.trans hx1
 have HB1:=Q0 (HB0.out.next hx1)
 have HBL:Hid (wA.heap.size<=b):=hb1
 clear hs1 hx1 hb1 HX0 HB0 HBA
 go_wp2_with fail
 refine(Ek _ b (Wb code) w1 HS1.out (Q1b code)).mono ?_
 rintro e w3 ⟨⟨v0,v1,v2,v3,rfl,vn,vw,vr,hO3⟩,hc3⟩
 have O3:=Q0 (hO3.base (show w.heap.size+1<=w1.heap.size+1 by have:=HX1.out.size;omega))
 have HX3:Hid (Nx w w3):=Below.trans HX1.out (hc3.below HX1.out.size (λx hx=>by have e:x=b:=hx;have:=HBL.out;have:=HZ.out;omega))
 have HB3:Hid (BT w3 w.heap.size #[.slice none 0 0,.slice none 0 0,.slice none 0 0,.slice none 0 0,.int .i64 0] 28):=HB1.out.chg hc3 (λe=>by have e':w.heap.size=b:=e;have:=HBL.out;have:=HZ.out;omega)
 clear hO3 hc3 HS1 HX1 HB1 HBL HZ
 obtain⟨a0,q0,e0⟩:=Q3 O3.out.nodes
 obtain⟨a1,q1,e1⟩:=Q3 O3.out.ways
 obtain⟨a2,q2,e2⟩:=Q3 O3.out.rels
 obtain⟨a3,q3,e3⟩:=Q3 O3.out.turns
 generalize hN0:Zu (Wb code)=NN at *
 have HNN:Hid (Zu (Wb code)=NN):=hN0
 clear hN0
 generalize NN.nodes.length=l0 at e0
 generalize NN.ways.length=l1 at e1
 generalize NN.rels.length=l2 at e2
 generalize NN.turns.length=l3 at e3
 generalize huu:NN.uturn=uu
 have HU:Hid (NN.uturn=uu):=huu
 clear huu
 subst e0 e1 e2 e3
 have BR:=HB3.out
 have x0:=BR.blk.cell (i:=0) rfl
 have fz0:=BR.blk.frozen 0
 have x1:=BR.blk.cell (i:=1) rfl
 have fz1:=BR.blk.frozen 1
 have x2:=BR.blk.cell (i:=2) rfl
 have fz2:=BR.blk.frozen 2
 have x3:=BR.blk.cell (i:=3) rfl
 have fz3:=BR.blk.frozen 3
 have x4:=BR.blk.cell (i:=4) rfl
 have fz4:=BR.blk.frozen 4
 have BS:=Tl (a0:=.slice a0 l0 q0) (a1:=.slice a1 l1 q1) (a2:=.slice a2 l2 q2) (a3:=.slice a3 l3 q3) (a4:=.int .i64 uu) BR
 have P0:Hid (_=some (Value.slice a0 l0 q0)):=BS.blk.cell (i:=0) rfl
 have P1:Hid (_=some (Value.slice a1 l1 q1)):=BS.blk.cell (i:=1) rfl
 have P2:Hid (_=some (Value.slice a2 l2 q2)):=BS.blk.cell (i:=2) rfl
 have P3:Hid (_=some (Value.slice a3 l3 q3)):=BS.blk.cell (i:=3) rfl
 have P4:Hid (_=some (Value.int .i64 uu)):=BS.blk.cell (i:=4) rfl
 have HCF:Hid (Chg (λx=>x=w.heap.size) w3 (((((w3.setCell ⟨w.heap.size,0,none⟩ (.slice a0 l0 q0)).setCell ⟨w.heap.size,1,none⟩ (.slice a1 l1 q1)).setCell ⟨w.heap.size,2,none⟩ (.slice a2 l2 q2)).setCell ⟨w.heap.size,3,none⟩ (.slice a3 l3 q3)).setCell ⟨w.heap.size,4,none⟩ (.int .i64 uu))):=Ts
 clear BS BR
 go_wp2
 generalize hWF:(((((w3.setCell ⟨w.heap.size,0,none⟩ (.slice a0 l0 q0)).setCell ⟨w.heap.size,1,none⟩ (.slice a1 l1 q1)).setCell ⟨w.heap.size,2,none⟩ (.slice a2 l2 q2)).setCell ⟨w.heap.size,3,none⟩ (.slice a3 l3 q3)).setCell ⟨w.heap.size,4,none⟩ (.int .i64 uu))=wF at P0 P1 P2 P3 P4 HCF ⊢
 have p0_:=P0.out
 have p1_:=P1.out
 have p2_:=P2.out
 have p3_:=P3.out
 have p4_:=P4.out
 refine bodyPost_ret (v:=.agg #[.slice a0 l0 q0,.slice a1 l1 q1,.slice a2 l2 q2,.slice a3 l3 q3,.int .i64 uu]) (by simp[results,Tryz.results5,go_sem,p0_,p1_,p2_,p3_,p4_]) rfl ?_
 have hO:=O3.out.turnBox HB3.out (by decide) (λe=>absurd e (by decide)) HCF.out
 rw[HNN.out,<-HU.out]
 exact⟨⟨_,_,_,_,rfl,_,_,_,hO⟩,Below.trans HX3.out (HCF.out.below HX3.out.size (λx hx=>by have e:x=w.heap.size:=hx;omega))⟩
def Q31 (w:World):Prop:=Lib.TabIs Tryz.prog w "internal/strconv.uint64pow10" .u64 Lib.pow10Tab
theorem Q31.tab {w:World}(h:Q31 w):Tab w.heap.size w:=Lib.tabBelow_of_tabIs h
theorem Q31.next {w w':World}(h:Q31 w)(k:Nx w w'):Q31 w':=(h.tab).on k |>.here
theorem Own.held {B:Nat}{w:World}{v:Value}{bs:List UInt8}(h:Own B w v bs):HBy B w v bs:=by
 obtain⟨h1,h2⟩:=h
 rcases h2 with⟨rfl,h2⟩|⟨g,cap,cur,rfl,hg,hh,hc,hm,hs,ht⟩
 ·unfold HBy
  rw[h2]
  exact⟨_,_,rfl,by simp[maxLen],λh=>by omega⟩
 ·refine⟨_,_,rfl,by omega,λh0=>⟨g,0,rfl,hg,(Array.getElem?_eq_some_iff.1 hh).1,λi hi=>?_⟩⟩
  have e:cur[i]?=some (.int .u8 (Qw bs i)):=by
   have:(cur.toList.take (bs.length*1))[i]?=(Lib.byteCells bs)[i]?:=by rw[ht]
   rw[List.getElem?_take_of_lt (by omega)] at this
   rw[<-Array.getElem?_toList,this]
   simp[Lib.byteCells,hi,Qw]
  unfold World.cell?
  simp only[hh]
  simpa using e
theorem HBy.conv {B:Nat}{w:World}{v:Value}{bs:List UInt8}(h:HBy B w v bs):(convert 22 9 v).run Tryz.prog w=.ok (.string (stOf bs)) w:=by
 obtain⟨a,c,rfl,hm,hk⟩:=h
 by_cases h0:0<bs.length
 ·obtain⟨b,off,rfl,-,-,hc⟩:=hk h0
  exact Q0v w b off bs.length c bs rfl hc
 ·have e:bs=[]:=List.length_eq_zero_iff.1 (by omega)
  subst e
  exact Am w a c
theorem Q48 (w:World)(bs:List UInt8)(hm:bs.length<=1000000):HBy w.heap.size (Lib.bytesWorld w 5 (stOf bs)) (.slice (some ⟨w.heap.size,0,none⟩) bs.length (grownCap w bs.length 0 5)) bs:=
 ⟨_,_,rfl,by unfold maxLen;omega,λh0=>⟨w.heap.size,0,rfl,Nat.le_refl _,by rw[Lib.bytesWorld_size];omega,λi hi=>by
  show(Lib.bytesWorld w 5 (stOf bs)).cell? ⟨w.heap.size,0+i,none⟩=some (.int .u8 (Qw bs i))
  rw[Nat.zero_add,Lib.bytesWorld_cell w _ (stOf bs) i (by rw[Xj];exact hi)]
  rfl⟩⟩
theorem Fc (B C:Nat)(u v:Value)(bs:List UInt8)(w:World)(hu:HBy B w u bs)(hv:HBy C w v bs) :
  Calls Tryz.prog 11 #[u,v] w λe w'=>e=.returned (.bool true)/\Nx w w':=by
 have c1:=hu.conv
 have c2:=hv.conv
 obtain⟨a1,k1,rfl,-⟩:=hu
 obtain⟨a2,k2,rfl,-⟩:=hv
 generalize bs.length=n at *
 generalize stOf bs=s at *
 have HC1:=Q0 c1
 have HC2:=Q0 c2
 clear c1 c2
 go_enter Tryz.func11,Tryz.ntmps11
 go_wp2_with fail
 rw[HC1.out]
 go_wp2_with fail
 rw[HC2.out]
 go_wp2
 go_ret
 exact⟨rfl,Nx.refl _⟩
theorem Q09 (B:Nat)(v:Value)(code:List UInt8)(w:World)(h:HBy B w v code)(ht:Q31 w)(hG:Gv w) :
  Calls Tryz.prog 3 #[v] w λe w'=>e=.returned (.bool true)/\Nx w w':=by
 have HB:=Q0 h
 have HT:=Q0 ht
 have HG:=Q0 hG
 obtain⟨ca,cc,rfl,hmx0,-⟩:=h
 unfold maxLen at hmx0
 generalize hn:code.length=n at hmx0 ⊢
 have HN:Hid (code.length=n):=hn
 clear ht hG hn
 go_enter Tryz.func3,Tryz.ntmps3
 by_cases hbig:1048576<n
 ·have hbig':(1048576:Int)<n:=by omega
  go_wp2
  go_ret
  exact⟨rfl,Nx.refl _⟩
 have hbig':¬(1048576:Int)<n:=by omega
 have HL:Hid (code.length<=1048576):=by unfold Hid;rw[HN.out];omega
 rw[HN.out] at HB
 have HB':Hid (HBy B w (.slice ca n cc) code):=HB
 clear HB
 go_wp2_with fail
 refine(T6 B _ code w HB'.out HL.out).mono ?_
 rintro e w1 ⟨⟨v0,v1,v2,v3,rfl,vn,vw,vr,hO⟩,hx⟩
 have HWS:=Q0 (Qc6 (Q1b code)).sum
 generalize hNN:Zu (Wb code)=N at *
 have HNN:Hid (Zu (Wb code)=N):=hNN
 clear hNN
 obtain⟨a0,c0,rfl⟩:=Q3 hO.nodes
 obtain⟨a1,c1,rfl⟩:=Q3 hO.ways
 obtain⟨a2,c2,rfl⟩:=Q3 hO.rels
 obtain⟨a3,c3,rfl⟩:=Q3 hO.turns
 have hH:=hO.held
 generalize h0n:N.nodes.length=nn at hH ⊢
 generalize h1n:N.ways.length=nw at hH ⊢
 generalize h2n:N.rels.length=nr at hH ⊢
 generalize h3n:N.turns.length=nt at hH ⊢
 have HNL:Hid (N.nodes.length=nn/\N.ways.length=nw/\N.rels.length=nr/\N.turns.length=nt):=⟨h0n,h1n,h2n,h3n⟩
 have HO1:=Q0 hH
 have HX1:Hid (Nx w w1):=hx
 have HBX:Hid (BT (w1.alloc (.cells #[.slice a0 nn c0,.slice a1 nw c1,.slice a2 nr c2,.slice a3 nt c3,.int .i64 N.uturn] 28)) w1.heap.size #[.slice a0 nn c0,.slice a1 nw c1,.slice a2 nr c2,.slice a3 nt c3,.int .i64 N.uturn] 28):=BT.new _ _ _ _ rfl
 have HXA:Hid (Nx w1 (w1.alloc (.cells #[.slice a0 nn c0,.slice a1 nw c1,.slice a2 nr c2,.slice a3 nt c3,.int .i64 N.uturn] 28))):=Qd _ _
 clear h0n h1n h2n h3n hO hH hx
 go_upto_region 4 with fail
 generalize w1.alloc (.cells #[.slice a0 nn c0,.slice a1 nw c1,.slice a2 nr c2,.slice a3 nt c3,.int .i64 N.uturn] 28)=w2 at *
 generalize w1.heap.size=p3 at *
 have HX2:Hid (Nx w w2):=HX1.out.trans HXA.out
 have HO2:=Q0 (HO1.out.next HXA.out)
 clear HO1 HX1 HXA
 go_wp2_with fail
 refine(T6 B _ code w2 (HB'.out.next HX2.out) HL.out).mono ?_
 rintro e w3 ⟨⟨v0,v1,v2,v3,rfl,un,uw,ur,hO⟩,hx⟩
 rw[HNN.out] at hO ⊢
 obtain⟨z0,g0,rfl⟩:=Q3 hO.nodes
 obtain⟨z1,g1,rfl⟩:=Q3 hO.ways
 obtain⟨z2,g2,rfl⟩:=Q3 hO.rels
 obtain⟨z3,g3,rfl⟩:=Q3 hO.turns
 have HO3:=Q0 hO.held
 have HX3:Hid (Nx w2 w3):=hx
 clear hO hx
 go_wp2_with fail
 refine(Ww _ _ _ _ _ N w3 HO3.out HWS.out (HT.out.next (HX2.out.trans HX3.out)).tab).mono ?_
 rintro e w4 ⟨⟨vt,rfl,hT⟩,hx⟩
 obtain⟨ta,tc,rfl⟩:=Q3 hT
 have HX4:Hid (Nx w2 w4):=HX3.out.trans hx
 have hTH:=hT.held
 generalize hme:(Xa N).length=m at hTH ⊢
 have HM:Hid ((Xa N).length=m):=hme
 have HTX:Hid (HBy w3.heap.size w4 (.slice ta m tc) (Xa N)):=hTH
 have HX4w:Hid (Nx w w4):=HX2.out.trans HX4.out
 have HO4:=Q0 (HO2.out.next HX4.out)
 have HBX4:=Q0 (HBX.out.next HX4.out)
 have HSV:Hid (Qz N=Qn N):=Gt N
 clear hT hTH hme hx HO3 HX3 HX4 HX2 HO2 HBX HB' HL HNN
 have b0:=HBX4.out.blk.cell (i:=0) rfl
 have b1:=HBX4.out.blk.cell (i:=1) rfl
 have b2:=HBX4.out.blk.cell (i:=2) rfl
 have b3:=HBX4.out.blk.cell (i:=3) rfl
 have b4:=HBX4.out.blk.cell (i:=4) rfl
 go_wp2_with fail
 refine(Tv _ _ _ _ _ N w4 HO4.out HWS.out).mono ?_
 rintro e w5 ⟨rfl,hx⟩
 have HX5:Hid (Nx w w5):=HX4w.out.trans hx
 have HO5:=Q0 (HO4.out.next hx)
 have HBX5:=Q0 (HBX4.out.next hx)
 have HT5:=Q0 (HTX.out.next hx)
 rw[HSV.out]
 clear hx HO4 HBX4 HTX HX4w b0 b1 b2 b3 b4
 generalize hvv:Qn N=vv at *
 have HV:Hid (Qn N=vv):=hvv
 clear hvv HSV
 cases vv with
 |false=>
  have hm0:m=0:=by rw[<-HM.out];unfold Xa;rw[HV.out];rfl
  subst hm0
  have b0:=HBX5.out.blk.cell (i:=0) rfl
  have b1:=HBX5.out.blk.cell (i:=1) rfl
  have b2:=HBX5.out.blk.cell (i:=2) rfl
  have b3:=HBX5.out.blk.cell (i:=3) rfl
  have b4:=HBX5.out.blk.cell (i:=4) rfl
  go_wp2_with fail
  refine(U3 _ _ _ _ _ N w5 HO5.out HWS.out).mono ?_
  rintro e w6 ⟨rfl,hx⟩
  rw[HV.out]
  clear b0 b1 b2 b3 b4
  go_wp2
  go_ret
  exact⟨rfl,HX5.out.trans hx⟩
 |true=>
  have HE:Hid (Xa N=Fa N):=by unfold Hid Xa;rw[HV.out];rfl
  have HBK:=Q0 (Qa5 HV.out (List.Perm.refl (Up N)))
  have hm1:m<=256024:=by rw[<-HM.out,HE.out];exact Q5y HV.out
  have HM2:Hid (decide ((300000:Int)<=(m:Int))=false):=decide_eq_false (by omega)
  have HCV:Hid ((convert 22 9 (.slice ta m tc)).run Tryz.prog w5=.ok (.string (stOf (Xa N))) w5):=HT5.out.conv
  have hsz:(stOf (Xa N)).size=m:=by rw[Xj,HM.out]
  have HCW:Hid ((convert 9 22 (.string (stOf (Xa N)))).run Tryz.prog w5=.ok (.slice (some ⟨w5.heap.size,0,none⟩) m (grownCap w5 m 0 5)) (Lib.bytesWorld w5 5 (stOf (Xa N)))):=by
   have e:=Lib.run_convert_string_bytes w5 _ _ _ (stOf (Xa N)) Tryz.underlying9 Tryz.underlying22 Tryz.underlying5
   rw[hsz] at e
   exact e
  have hge:=grownCap_ge w5 m 0 5
  have hgm:=grownCap_le_maxLen w5 m 0 5 (by unfold maxLen;omega)
  have HBN:Hid (HBy w5.heap.size (Lib.bytesWorld w5 5 (stOf (Xa N))) (.slice (some ⟨w5.heap.size,0,none⟩) m (grownCap w5 m 0 5)) (Xa N)):=by
   have e:=Q48 w5 (Xa N) (by rw[HM.out];omega)
   rw[HM.out] at e
   exact e
  have HX6:Hid (Nx w5 (Lib.bytesWorld w5 5 (stOf (Xa N)))):=Qal _ _ _
  generalize grownCap w5 m 0 5=gc at *
  have HGE:Hid (m<=gc):=hge
  have HGM:Hid (gc<=maxLen):=hgm
  clear hsz hge hgm hm1
  go_wp2_with fail
  rw[HCV.out]
  go_wp2_with fail
  rw[HCW.out]
  clear HCV HCW
  generalize Lib.bytesWorld w5 5 (stOf (Xa N))=w6 at *
  go_wp2_with fail
  refine(En w5.heap.size _ m gc (Xa N) w6 HBN.out HGE.out (by have h:=HGM.out;unfold maxLen at h;omega) (HG.out.next (HX5.out.trans HX6.out))).mono ?_
  rintro e w7 ⟨hp,hx⟩
  have hpe:Z0 (Xa N)=.ok (Up N):=by rw[HE.out,<-Q86];exact HBK.out.1
  obtain⟨u0,u1,u2,u3,rfl,hH⟩:=Qcl.net hp hpe
  rw[HBK.out.2] at hH ⊢
  obtain⟨p0,q0,rfl,-⟩:=hH.1
  obtain⟨p1,q1,rfl,-⟩:=hH.2.1
  obtain⟨p2,q2,rfl,-⟩:=hH.2.2.1
  obtain⟨p3',q3,rfl,-⟩:=hH.2.2.2
  rw[HNL.out.1,HNL.out.2.1,HNL.out.2.2.1,HNL.out.2.2.2] at hH ⊢
  have HH7:=Q0 hH
  have HX7:Hid (Nx w5 w7):=HX6.out.trans hx
  have HBP:Hid (BT (w7.alloc (.cells #[.int .i64 0,.int .i64 0,.slice p0 nn q0,.slice p1 nw q1,.slice p2 nr q2,.slice p3' nt q3,.int .i64 N.uturn] 33)) w7.heap.size #[.int .i64 0,.int .i64 0,.slice p0 nn q0,.slice p1 nw q1,.slice p2 nr q2,.slice p3' nt q3,.int .i64 N.uturn] 33):=BT.new _ _ _ _ rfl
  have HXA:Hid (Nx w7 (w7.alloc (.cells #[.int .i64 0,.int .i64 0,.slice p0 nn q0,.slice p1 nw q1,.slice p2 nr q2,.slice p3' nt q3,.int .i64 N.uturn] 33))):=Qd _ _
  clear hp hpe hH hx HX6 HBN HGE HGM
  go_upto_region 8 with fail
  generalize w7.alloc (.cells #[.int .i64 0,.int .i64 0,.slice p0 nn q0,.slice p1 nw q1,.slice p2 nr q2,.slice p3' nt q3,.int .i64 N.uturn] 33)=w8 at *
  generalize w7.heap.size=p5 at *
  have HX8:Hid (Nx w5 w8):=HX7.out.trans HXA.out
  have HH8:=Q0 (HH7.out.next HXA.out)
  have HO8:=Q0 (HO5.out.next HX8.out)
  have HBX8:=Q0 (HBX5.out.next HX8.out)
  have HT8:=Q0 (HT5.out.next HX8.out)
  clear HH7 HX7 HXA HO5 HBX5 HT5
  have b0:=HBX8.out.blk.cell (i:=0) rfl
  have b1:=HBX8.out.blk.cell (i:=1) rfl
  have b2:=HBX8.out.blk.cell (i:=2) rfl
  have b3:=HBX8.out.blk.cell (i:=3) rfl
  have b4:=HBX8.out.blk.cell (i:=4) rfl
  have y0:=HBP.out.blk.cell (i:=0) rfl
  have y1:=HBP.out.blk.cell (i:=1) rfl
  have y2:=HBP.out.blk.cell (i:=2) rfl
  have y3:=HBP.out.blk.cell (i:=3) rfl
  have y4:=HBP.out.blk.cell (i:=4) rfl
  have y5:=HBP.out.blk.cell (i:=5) rfl
  have y6:=HBP.out.blk.cell (i:=6) rfl
  go_wp2_with fail
  refine(Q0m _ _ _ _ _ _ _ _ _ _ N w8 HH8.out HO8.out).mono ?_
  rintro e w9 ⟨rfl,hx⟩
  have HX9:Hid (Nx w5 w9):=HX8.out.trans hx
  have HH9:=Q0 (HH8.out.next hx)
  have HBP9:=Q0 (HBP.out.next hx)
  have HT9:=Q0 (HT8.out.next hx)
  clear hx HH8 HO8 HBX8 HT8 HBP HX8 b0 b1 b2 b3 b4 y0 y1 y2 y3 y4 y5 y6
  have y2:=HBP9.out.blk.cell (i:=2) rfl
  have y3:=HBP9.out.blk.cell (i:=3) rfl
  have y4:=HBP9.out.blk.cell (i:=4) rfl
  have y5:=HBP9.out.blk.cell (i:=5) rfl
  have y6:=HBP9.out.blk.cell (i:=6) rfl
  have hm3:=HM2.out
  go_wp2_with fail
  refine(U3 _ _ _ _ _ N w9 HH9.out HWS.out).mono ?_
  rintro e w10 ⟨rfl,hx⟩
  rw[HV.out]
  have HX10:Hid (Nx w5 w10):=HX9.out.trans hx
  have HH10:=Q0 (HH9.out.next hx)
  have HBP10:=Q0 (HBP9.out.next hx)
  have HT10:=Q0 (HT9.out.next hx)
  clear hx HH9 HT9 HBP9 HX9 y2 y3 y4 y5 y6
  have y2:=HBP10.out.blk.cell (i:=2) rfl
  have y3:=HBP10.out.blk.cell (i:=3) rfl
  have y4:=HBP10.out.blk.cell (i:=4) rfl
  have y5:=HBP10.out.blk.cell (i:=5) rfl
  have y6:=HBP10.out.blk.cell (i:=6) rfl
  go_wp2_with fail
  refine(Ww _ _ _ _ _ N w10 HH10.out HWS.out (HT.out.next (HX5.out.trans HX10.out)).tab).mono ?_
  rintro e w11 ⟨⟨vt,rfl,hT⟩,hx⟩
  obtain⟨xa,xc,rfl⟩:=Q3 hT
  have hTH:=hT.held
  rw[HM.out] at hTH ⊢
  have HZ11:=Q0 hTH
  have HX11:Hid (Nx w5 w11):=HX10.out.trans hx
  have HT11:=Q0 (HT10.out.next hx)
  clear hx hT hTH HH10 HT10 HBP10 HX10 y2 y3 y4 y5 y6
  go_wp2_with fail
  refine(Fc _ _ _ _ (Xa N) w11 HZ11.out HT11.out).mono ?_
  rintro e w12 ⟨rfl,hx⟩
  go_wp2
  go_ret
  exact⟨rfl,HX5.out.trans (HX11.out.trans hx)⟩
end Go.Proofs.YtmmolhlihhdkcaaGreatDoor
