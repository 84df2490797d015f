import Derived.Test.YtahpodmokbdjeaaGreatDoorQYX
import Derived.Test.YtahpodmokbdjeaaGreatDoorQMkC
namespace Go.Proofs.YtahpodmokbdjeaaGreatDoor
open Go.RowKit Go.Sort Tryz
set_option linter.unusedVariables false
set_option maxRecDepth 1000000
set_option maxHeartbeats 16000000
theorem Mk.below {B C:Nat}{w0 w1 w:World}(h:Mk B w0 w1 w)(hC:C<=B)(hs:C<=w1.heap.size):Below C w1 w:=
 ⟨h.os,h.tape,h.output,h.size,λk hk=>h.same k (by omega) (by omega)⟩
theorem Zv {C ty sz n:Nat}{w w':World}{v:Value}{xs:List Value}(h:w.ownsRow C ty sz v n xs)(k:∀b,C<=b->b<w.heap.size->w'.heap[b]?=w.heap[b]?):w'.ownsRow C ty sz v n xs:=by
 obtain⟨h1,h2⟩:=h
 refine⟨h1,?_⟩
 rcases h2 with h2|⟨g,cap,cur,hv,hg,hh,r⟩
 ·exact oL h2
 ·exact oR ⟨g,cap,cur,hv,hg,(k g hg (Array.getElem?_eq_some_iff.1 hh).1).trans hh,r⟩
theorem O7.keepC {C:Nat}{w w':World}{v0 v1 v2 v3 v4 v5 v6:Value}{G:Gc}(h:O7 C w v0 v1 v2 v3 v4 v5 v6 G)(k:∀b,C<=b->b<w.heap.size->w'.heap[b]?=w.heap[b]?):O7 C w' v0 v1 v2 v3 v4 v5 v6 G:=
 ⟨Zv h.o0 k,Zv h.o1 k,Zv h.o2 k,Zv h.o3 k,Zv h.o4 k,Zv h.o5 k,Zv h.o6 k,h.ap⟩
theorem Qha {N:Nt}{c:Int}{G:Gc}(h:Q96 N c G):G.eo.length<=100000/\G.so.length<=100000/\G.fi.length<=100000/\G.tt.length<=100000/\G.co.length<=100000/\G.sa.length<=100000/\G.we.length<=100000:=by
 have hz:(gcZ.eo.length<=100000/\gcZ.so.length<=100000/\gcZ.fi.length<=100000/\gcZ.tt.length<=100000/\gcZ.co.length<=100000/\gcZ.sa.length<=100000/\gcZ.we.length<=100000):=by decide
 rcases h with⟨-,-,rfl⟩|⟨hv,b,A,hb,⟨-,-,rfl⟩|⟨-,k,vs,hR,⟨-,-,rfl⟩|⟨ha,-,rfl⟩⟩⟩
 ·exact hz
 ·exact hz
 ·exact hz
 have h1:vs.length<=48000:=by
  rw[hR.1.perm.length_eq]
  have h2:=Gm (es:=(E1 N)) (st:=(Q9 A (wsA A))) k
  have h3:=hR.1.ar
  have h4:=Ar (Jz hv)
  omega
 have h4:=Ar (Jz hv)
 have h5:(gTo (E1 N) (Q9 A (wsA A)) vs vs.length).length<=40000:=by rw[I7 _ lR,zU];exact ha
 refine⟨?_,?_,?_,?_,?_,?_,?_⟩
 ·show(gEo vs vs.length).length<=_
  rw[Fr];omega
 ·show(gSo vs vs.length).length<=_
  rw[Fp];omega
 ·show(gFi (E1 N) (Q9 A (wsA A)) vs (vs.length+1)).length<=_
  rw[I8];omega
 ·exact zP h5 (by omega)
 ·show(gCo N (E1 N) (Q9 A (wsA A)) vs vs.length).length<=_
  rw[Fs];omega
 ·show(gSa (Q9 A (wsA A)) vs (E1 N).length).length<=_
  rw[Fq];omega
 ·show(gWe (E1 N) (E1 N).length).length<=_
  rw[Fo];omega
theorem Q5e (B:Nat)(v0 v1 v2 v3:Value)(N:Nt)(w:World)(h0:Ye B w v0 v1 v2 v3 N)(ht:Q0e w) :
  Calls prog 3 #[.agg #[v0,v1,v2,v3,iV N.uturn]] w λe w'=>e=.returned (.bool true)/\Nx w w':=by
 have HT:Z (Q0e w):=ht
 clear ht
 go_enter func3,ntmps3
 go_wp2_with fail
 refine(Q9i B _ _ _ _ N _ (by exact h0.next (Q4 _ _))).mono ?_
 rintro e w1 ⟨⟨r,rfl,hr⟩,hx⟩
 have BA:=(Blk.new w #[v0,v1,v2,v3,iV N.uturn] 27 _ rfl).next hx
 have HX:Z (Nx w w1):=(Q4 _ _).trans hx
 clear hx
 rcases hr with hr|⟨hr,hsm,hws⟩
 ·go_wp2
  go_ret
  exact⟨rfl,HX.o⟩
 have HSM:Z (Q92 N/\wsum N.ways N.ways.length<=1048576):=⟨hsm,hws⟩
 clear hsm hws
 have k0_:=BA.c 0 rfl
 have k1_:=BA.c 1 rfl
 have k2_:=BA.c 2 rfl
 have k3_:=BA.c 3 rfl
 have k4_:=BA.c 4 rfl
 go_wp2_with fail
 refine(Fe B _ _ _ _ N _ (by exact h0.next HX.o) HSM.o.1).mono ?_
 rintro e w2 ⟨⟨a0,n0,c0,a1,n1,c1,a2,n2,c2,a3,n3,c3,rfl,hNc⟩,hu⟩
 have hN:=hNc.net
 clear hNc
 have hx:=hu.nx
 have HX2:Z (Nx w w2):=HX.o.trans hx
 have BA2:=BA.next hx
 clear hx hu BA k0_ k1_ k2_ k3_ k4_ HX
 go_wp2_with fail
 refine(Ea _ _ _ _ _ N _ hN HSM.o.2).mono ?_
 rintro e w3 ⟨⟨code,u0,u1,u2,u3,u4,u5,u6,G,rfl,⟨o0,o1,o2,o3,o4,o5,o6⟩,hcs⟩,hx⟩
 have HCS:=Q2 hcs
 have HLN:Z (G.eo.length<=100000/\G.so.length<=100000/\G.fi.length<=100000/\G.tt.length<=100000/\G.co.length<=100000/\G.sa.length<=100000/\G.we.length<=100000):=Qha hcs
 have HU:Z (H7 w3 u0 u1 u2 u3 u4 u5 u6 G):=⟨o0.held.base nZ,o1.held.base nZ,o2.held.base nZ,o3.held.base nZ,o4.held.base nZ,o5.held.base nZ,o6.held.base nZ⟩
 obtain⟨ua0,uc0,he0⟩:=Q7 o0
 generalize G.eo.length=un0 at he0
 obtain⟨ua1,uc1,he1⟩:=Q7 o1
 generalize G.so.length=un1 at he1
 obtain⟨ua2,uc2,he2⟩:=Q7 o2
 generalize G.fi.length=un2 at he2
 obtain⟨ua3,uc3,he3⟩:=Q7 o3
 generalize G.tt.length=un3 at he3
 obtain⟨ua4,uc4,he4⟩:=Q7 o4
 generalize G.co.length=un4 at he4
 obtain⟨ua5,uc5,he5⟩:=Q7 o5
 generalize G.sa.length=un5 at he5
 obtain⟨ua6,uc6,he6⟩:=Q7 o6
 generalize G.we.length=un6 at he6
 subst he0 he1 he2 he3 he4 he5 he6
 have HX3:Z (Nx w w3):=HX2.o.trans hx
 have BA3:=BA2.next hx
 clear hx hcs o0 o1 o2 o3 o4 o5 o6 BA2 HX2 hN
 have k0_:=BA3.c 0 rfl
 have k1_:=BA3.c 1 rfl
 have k2_:=BA3.c 2 rfl
 have k3_:=BA3.c 3 rfl
 have k4_:=BA3.c 4 rfl
 have BW3:=Blk.new w3 #[iV code,sL ua0 un0 uc0,sL ua1 un1 uc1,sL ua2 un2 uc2,sL ua3 un3 uc3,sL ua4 un4 uc4,sL ua5 un5 uc5,sL ua6 un6 uc6] 32 _ rfl
 have BA3':=BA3.alloc (.cells #[iV code,sL ua0 un0 uc0,sL ua1 un1 uc1,sL ua2 un2 uc2,sL ua3 un3 uc3,sL ua4 un4 uc4,sL ua5 un5 uc5,sL ua6 un6 uc6] 32)
 have hz3:=BA3.lt
 go_wp2_with fail
 refine(Fe B _ _ _ _ N _ (by exact h0.next (HX3.o.trans (Q4 _ _))) HSM.o.1).mono ?_
 rintro e w4 ⟨⟨p0,s0,t0,p1,s1,t1,p2,s2,t2,p3,s3,t3,rfl,hN⟩,hu⟩
 have hx:=hu.nx
 have HOP:Z (∀b,w3.heap.size+1<=b->b<w4.heap.size->Opn w4 b):=λb hb=>hu.op b (by simpa using hb)
 have HN4:Z (Ye (w3.heap.size+1) w4 (sL p0 s0 t0) (sL p1 s1 t1) (sL p2 s2 t2) (sL p3 s3 t3) N):=by
  unfold Z
  simpa using hN.net
 have HRC:Z (Te w4 (sL p2 s2 t2) N.rels):=hN.caps
 have HZ4:Z (w3.heap.size+1<=w4.heap.size):=by have:=hx.size;unfold Z;simpa using this
 have HX4:Z (Nx w w4):=(HX3.o.trans (Q4 _ _)).trans hx
 have HU4:Z (H7 w4 (sL ua0 un0 uc0) (sL ua1 un1 uc1) (sL ua2 un2 uc2) (sL ua3 un3 uc3) (sL ua4 un4 uc4) (sL ua5 un5 uc5) (sL ua6 un6 uc6) G):=(HU.o.next (Q4 _ _)).next hx
 have BW4:=BW3.next hx
 have BA4:=BA3'.next hx
 have HBW:Z (Blk w4 w3.heap.size #[iV code,sL ua0 un0 uc0,sL ua1 un1 uc1,sL ua2 un2 uc2,sL ua3 un3 uc3,sL ua4 un4 uc4,sL ua5 un5 uc5,sL ua6 un6 uc6]):=BW4
 have HBA:Z (Blk w4 w.heap.size #[v0,v1,v2,v3,iV N.uturn]):=BA4
 have HY34:Z (Nx w3 w4):=(Q4 _ _).trans hx
 clear hx hu hN k0_ k1_ k2_ k3_ k4_ BA3 BA3' BW3
 go_wp2_with fail
 have BX:=Blk.new w4 #[sL p0 s0 t0,sL p1 s1 t1,sL p2 s2 t2,sL p3 s3 t3,iV N.uturn] 38 _ rfl
 refine(Tj _ _ _ _ _ N _ (by exact HN4.o.next (Q4 _ _)) (by exact HRC.o.next (Q4 _ _)) HSM.o.2 (by exact HT.o.next (HX4.o.trans (Q4 _ _)))).mono ?_
 rintro e w5 ⟨⟨code',g0,g1,g2,g3,g4,g5,g6,G',rfl,⟨o0,o1,o2,o3,o4,o5,o6⟩,hap,hci⟩,hx⟩
 obtain⟨rfl,rfl⟩:=Q5d HCS.o hci
 rw[Q3] at o0 o1 o2 o3 o4 o5 o6
 have HG5:Z (O7 (w4.heap.size+1) w5 g0 g1 g2 g3 g4 g5 g6 G):=⟨o0,o1,o2,o3,o4,o5,o6,hap⟩
 obtain⟨ga0,gc0,he0⟩:=Q7 o0
 generalize G.eo.length=gn0 at he0
 obtain⟨ga1,gc1,he1⟩:=Q7 o1
 generalize G.so.length=gn1 at he1
 obtain⟨ga2,gc2,he2⟩:=Q7 o2
 generalize G.fi.length=gn2 at he2
 obtain⟨ga3,gc3,he3⟩:=Q7 o3
 generalize G.tt.length=gn3 at he3
 obtain⟨ga4,gc4,he4⟩:=Q7 o4
 generalize G.co.length=gn4 at he4
 obtain⟨ga5,gc5,he5⟩:=Q7 o5
 generalize G.sa.length=gn5 at he5
 obtain⟨ga6,gc6,he6⟩:=Q7 o6
 generalize G.we.length=gn6 at he6
 subst he0 he1 he2 he3 he4 he5 he6
 have HY5:Z (Nx w4 w5):=(Q4 _ _).trans hx
 have BX5:=BX.next hx
 have BA5:=HBA.o.next HY5.o
 have BW5:=HBW.o.next HY5.o
 have HX5:Z (Nx w w5):=HX4.o.trans HY5.o
 clear hx hci hap o0 o1 o2 o3 o4 o5 o6 BX BA4 BW4
 have BG:=Blk.new w5 #[iV code,sL ga0 gn0 gc0,sL ga1 gn1 gc1,sL ga2 gn2 gc2,sL ga3 gn3 gc3,sL ga4 gn4 gc4,sL ga5 gn5 gc5,sL ga6 gn6 gc6] 32 _ rfl
 have BW5':=BW5.alloc (.cells #[iV code,sL ga0 gn0 gc0,sL ga1 gn1 gc1,sL ga2 gn2 gc2,sL ga3 gn3 gc3,sL ga4 gn4 gc4,sL ga5 gn5 gc5,sL ga6 gn6 gc6] 32)
 have BX5':=BX5.alloc (.cells #[iV code,sL ga0 gn0 gc0,sL ga1 gn1 gc1,sL ga2 gn2 gc2,sL ga3 gn3 gc3,sL ga4 gn4 gc4,sL ga5 gn5 gc5,sL ga6 gn6 gc6] 32)
 have BA5':=BA5.alloc (.cells #[iV code,sL ga0 gn0 gc0,sL ga1 gn1 gc1,sL ga2 gn2 gc2,sL ga3 gn3 gc3,sL ga4 gn4 gc4,sL ga5 gn5 gc5,sL ga6 gn6 gc6] 32)
 have q0_:=BW5'.c 0 rfl
 have q1_:=BW5'.c 1 rfl
 have q2_:=BW5'.c 2 rfl
 have q3_:=BW5'.c 3 rfl
 have q4_:=BW5'.c 4 rfl
 have q5_:=BW5'.c 5 rfl
 have q6_:=BW5'.c 6 rfl
 have q7_:=BW5'.c 7 rfl
 have hzw:=BW5.lt
 go_wp2_with fail
 refine(U7 code _ _ _ _ _ _ _ _ _ _ _ _ _ _ _ _ _ _ _ _ _ _ _ _ _ _ _ _ _ _ _ _ _ _ _ _ _ _ _ _ _ _  G _ (by exact HG5.o.h7.next (Q4 _ _)) (by exact(HU4.o.next HY5.o).next (Q4 _ _))).mono ?_
 rintro e w6 ⟨rfl,hx⟩
 have HY6:Z (Nx w4 w6):=(HY5.o.trans (Q4 _ _)).trans hx
 have HG6:Z (O7 (w4.heap.size+1) w6 (sL ga0 gn0 gc0) (sL ga1 gn1 gc1) (sL ga2 gn2 gc2) (sL ga3 gn3 gc3) (sL ga4 gn4 gc4) (sL ga5 gn5 gc5) (sL ga6 gn6 gc6) G):=HG5.o.next ((Q4 _ _).trans hx)
 have BX6:=BX5'.next hx
 have BA6:=BA5'.next hx
 have BG6:=BG.next hx
 have HZ5:Z (w4.heap.size+1<=w5.heap.size):=by have:=BX5.lt;unfold Z;omega
 have HGL:Z (∀(j:Nat) x g,([sL ga0 gn0 gc0,sL ga1 gn1 gc1,sL ga2 gn2 gc2,sL ga3 gn3 gc3,sL ga4 gn4 gc4,sL ga5 gn5 gc5,sL ga6 gn6 gc6]:List Value)[j]?=some x->x.ownBlock=some g->g<w5.heap.size):=λj x g hj hg=>by
  match j,hj with
  |0,hj=>obtain rfl:=zF hj;exact(Q5 HG5.o.o0 g hg).2
  |1,hj=>obtain rfl:=zF hj;exact(Q5 HG5.o.o1 g hg).2
  |2,hj=>obtain rfl:=zF hj;exact(Q5 HG5.o.o2 g hg).2
  |3,hj=>obtain rfl:=zF hj;exact(Q5 HG5.o.o3 g hg).2
  |4,hj=>obtain rfl:=zF hj;exact(Q5 HG5.o.o4 g hg).2
  |5,hj=>obtain rfl:=zF hj;exact(Q5 HG5.o.o5 g hg).2
  |6,hj=>obtain rfl:=zF hj;exact(Q5 HG5.o.o6 g hg).2
  |j+7,hj=>simp at hj
 clear hx BG BW5' BX5' BA5' BW5 BX5 BA5 q0_ q1_ q2_ q3_ q4_ q5_ q6_ q7_ hzw
 have k0_:=BA6.c 0 rfl
 have k1_:=BA6.c 1 rfl
 have k2_:=BA6.c 2 rfl
 have k3_:=BA6.c 3 rfl
 have k4_:=BA6.c 4 rfl
 have l0_:=BX6.c 0 rfl
 have l1_:=BX6.c 1 rfl
 have l2_:=BX6.c 2 rfl
 have l3_:=BX6.c 3 rfl
 have l4_:=BX6.c 4 rfl
 have BD:=BX6.drew
 have BGD:=BG6.drew
 clear BX6 BA6 BG6
 go_wp2
 have HXD:Z (Nx w w6.drew):=(HX4.o.trans HY6.o).drew
 have HND:Z (Ye (w3.heap.size+1) w6.drew (sL p0 s0 t0) (sL p1 s1 t1) (sL p2 s2 t2) (sL p3 s3 t3) N):=HN4.o.next HY6.o.drew
 go_region_with (first
  |(go_at_call 6;refine(Fe B _ _ _ _ N _ (by exact h0.next HXD.o) HSM.o.1).mono ?_;rintro e w7 ⟨⟨y0',i0,z0',y1',i1,z1',y2',i2,z2',y3',i3,z3',rfl,hN6⟩,hu7⟩;have BE:=BD.next hu7.nx;have q0_:=BE.c 0 rfl;have q1_:=BE.c 1 rfl;have q2_:=BE.c 2 rfl;have q3_:=BE.c 3 rfl;have q4_:=BE.c 4 rfl)
  |(go_at_call 9;refine(Q70 _ _ _ _ _ _ _ _ _ _ N _ (by exact HND.o.next hu7.nx) (by exact hN6.net)).mono ?_;rintro e w8 ⟨rfl,hx8⟩))
 all_goals
  have HD8:Z (Nx w6.drew w8):=hu7.nx.trans hx8
  have HY8:Z (Nx w4 w8):=HY6.o.drew.trans HD8.o
  have HG8:Z (O7 (w4.heap.size+1) w8 (sL ga0 gn0 gc0) (sL ga1 gn1 gc1) (sL ga2 gn2 gc2) (sL ga3 gn3 gc3) (sL ga4 gn4 gc4) (sL ga5 gn5 gc5) (sL ga6 gn6 gc6) G):=HG6.o.next ((Below.refl _ _).drew.trans HD8.o)
  have BX8:=BD.next HD8.o
  have BG8:=BGD.next HD8.o
  have HM8:Z (Mk (w3.heap.size+1) w4 w8 w8):=Mk.start HY8.o HOP.o
  clear hx8 hu7 hN6 BE BD BGD q0_ q1_ q2_ q3_ q4_ k0_ k1_ k2_ k3_ k4_ l0_ l1_ l2_ l3_ l4_ HND HXD HD8
  have l0_:=BX8.c 0 rfl
  have l1_:=BX8.c 1 rfl
  have l2_:=BX8.c 2 rfl
  have l3_:=BX8.c 3 rfl
  have l4_:=BX8.c 4 rfl
  go_wp2_with fail
  refine(Q4c (w3.heap.size+1) w4 w8 _ _ _ _ N _ HN4.o HM8.o HSM.o.1).mono ?_
  rintro e w9 ⟨⟨k9,rfl,hk9⟩,hm⟩
  have hk9':¬k9<0:=by omega
  have hz8:w4.heap.size<=w8.heap.size:=HY8.o.size
  have HL9:Z (Below (w3.heap.size+1) w4 w9):=Below.trans (Below.mono HY8.o HZ4.o) (hm.below lR (by have:=HZ4.o;omega))
  have HG9:Z (O7 (w4.heap.size+1) w9 (sL ga0 gn0 gc0) (sL ga1 gn1 gc1) (sL ga2 gn2 gc2) (sL ga3 gn3 gc3) (sL ga4 gn4 gc4) (sL ga5 gn5 gc5) (sL ga6 gn6 gc6) G):=HG8.o.keepC λb hb hs=>hm.same b hs (by omega)
  have BG9:Blk w9 w5.heap.size #[iV code,sL ga0 gn0 gc0,sL ga1 gn1 gc1,sL ga2 gn2 gc2,sL ga3 gn3 gc3,sL ga4 gn4 gc4,sL ga5 gn5 gc5,sL ga6 gn6 gc6]:=by
   have hl:=BG8.lt
   obtain⟨t,hb⟩:=BG8
   exact⟨t,(hm.same _ hl (by have:=HZ5.o;omega)).trans hb⟩
  have BW9:Blk w9 w3.heap.size #[iV code,sL ua0 un0 uc0,sL ua1 un1 uc1,sL ua2 un2 uc2,sL ua3 un3 uc3,sL ua4 un4 uc4,sL ua5 un5 uc5,sL ua6 un6 uc6]:=by
   obtain⟨t,h⟩:=HBW.o
   exact⟨t,(HL9.o.block _ (Nat.lt_succ_self _)).trans h⟩
  have HW9:Z (Nx w3 w9):=Below.trans HY34.o (Below.mono HL9.o (Nat.le_succ _))
  clear hm BX8 l0_ l1_ l2_ l3_ l4_ HM8 HG8 BG8
  have r0_:=BG9.c 0 rfl
  have r1_:=BG9.c 1 rfl
  have r2_:=BG9.c 2 rfl
  have r3_:=BG9.c 3 rfl
  have r4_:=BG9.c 4 rfl
  have r5_:=BG9.c 5 rfl
  have r6_:=BG9.c 6 rfl
  have r7_:=BG9.c 7 rfl
  have q0_:=BW9.c 0 rfl
  have q1_:=BW9.c 1 rfl
  have q2_:=BW9.c 2 rfl
  have q3_:=BW9.c 3 rfl
  have q4_:=BW9.c 4 rfl
  have q5_:=BW9.c 5 rfl
  have q6_:=BW9.c 6 rfl
  have q7_:=BW9.c 7 rfl
  go_wp2_with fail
  refine(U7 code _ _ _ _ _ _ _ _ _ _ _ _ _ _ _ _ _ _ _ _ _ _ _ _ _ _ _ _ _ _ _ _ _ _ _ _ _ _ _ _ _ _  G _ (by exact HG9.o.h7) (by exact HU.o.next HW9.o)).mono ?_
  rintro e w10 ⟨rfl,hx⟩
  have HG10:Z (O7 (w4.heap.size+1) w10 (sL ga0 gn0 gc0) (sL ga1 gn1 gc1) (sL ga2 gn2 gc2) (sL ga3 gn3 gc3) (sL ga4 gn4 gc4) (sL ga5 gn5 gc5) (sL ga6 gn6 gc6) G):=HG9.o.next hx
  have BG10:=BG9.next hx
  have HL10:Z (Below (w3.heap.size+1) w4 w10):=Below.trans HL9.o (Below.mono hx (by have:=HZ4.o;have:=HL9.o.size;omega))
  clear hx HG9 BG9 BW9 HW9 HL9 r0_ r1_ r2_ r3_ r4_ r5_ r6_ r7_ q0_ q1_ q2_ q3_ q4_ q5_ q6_ q7_
  have r0_:=BG10.c 0 rfl
  have r1_:=BG10.c 1 rfl
  have r2_:=BG10.c 2 rfl
  have r3_:=BG10.c 3 rfl
  have r4_:=BG10.c 4 rfl
  have r5_:=BG10.c 5 rfl
  have r6_:=BG10.c 6 rfl
  have r7_:=BG10.c 7 rfl
  have hz10:w4.heap.size+1<=w10.heap.size:=by have:=BG10.lt;have:=HZ5.o;omega
  have HGS:=Q2 HG10.o.gs
  have HGD:Z (∀(j:Nat) x g,([sL ga0 gn0 gc0,sL ga1 gn1 gc1,sL ga2 gn2 gc2,sL ga3 gn3 gc3,sL ga4 gn4 gc4,sL ga5 gn5 gc5,sL ga6 gn6 gc6]:List Value)[j]?=some x->x.ownBlock=some g->w4.heap.size+1<=g):=λj x g hj hg=>by
   match j,hj with
   |0,hj=>obtain rfl:=zF hj;exact(Q5 HG10.o.o0 g hg).1
   |1,hj=>obtain rfl:=zF hj;exact(Q5 HG10.o.o1 g hg).1
   |2,hj=>obtain rfl:=zF hj;exact(Q5 HG10.o.o2 g hg).1
   |3,hj=>obtain rfl:=zF hj;exact(Q5 HG10.o.o3 g hg).1
   |4,hj=>obtain rfl:=zF hj;exact(Q5 HG10.o.o4 g hg).1
   |5,hj=>obtain rfl:=zF hj;exact(Q5 HG10.o.o5 g hg).1
   |6,hj=>obtain rfl:=zF hj;exact(Q5 HG10.o.o6 g hg).1
   |j+7,hj=>simp at hj
  have e0_:G.eo.length=gn0:=by obtain⟨a,c,e⟩:=Q7 HG10.o.o0;simp only[zC] at e;exact e.2.1.symm
  have l0_:=HLN.o.1
  rw[e0_] at l0_
  have e1_:G.so.length=gn1:=by obtain⟨a,c,e⟩:=Q7 HG10.o.o1;simp only[zC] at e;exact e.2.1.symm
  have l1_:=HLN.o.2.1
  rw[e1_] at l1_
  have e2_:G.fi.length=gn2:=by obtain⟨a,c,e⟩:=Q7 HG10.o.o2;simp only[zC] at e;exact e.2.1.symm
  have l2_:=HLN.o.2.2.1
  rw[e2_] at l2_
  have e3_:G.tt.length=gn3:=by obtain⟨a,c,e⟩:=Q7 HG10.o.o3;simp only[zC] at e;exact e.2.1.symm
  have l3_:=HLN.o.2.2.2.1
  rw[e3_] at l3_
  have e4_:G.co.length=gn4:=by obtain⟨a,c,e⟩:=Q7 HG10.o.o4;simp only[zC] at e;exact e.2.1.symm
  have l4_:=HLN.o.2.2.2.2.1
  rw[e4_] at l4_
  have e5_:G.sa.length=gn5:=by obtain⟨a,c,e⟩:=Q7 HG10.o.o5;simp only[zC] at e;exact e.2.1.symm
  have l5_:=HLN.o.2.2.2.2.2.1
  rw[e5_] at l5_
  have e6_:G.we.length=gn6:=by obtain⟨a,c,e⟩:=Q7 HG10.o.o6;simp only[zC] at e;exact e.2.1.symm
  have l6_:=HLN.o.2.2.2.2.2.2
  rw[e6_] at l6_
  rw[e0_,e1_,e2_,e3_,e4_,e5_,e6_] at HGS
  clear e0_ e1_ e2_ e3_ e4_ e5_ e6_
  go_wp2_with fail
  refine(G8 (w4.heap.size+1) code _ _ _ _ _ _ _ _ _ _ _ _ _ _ _ _ _ _ _ _ _  _ _ _ _ _ _ _  _ HGS.o l0_ l1_ l2_ l3_ l4_ l5_ l6_).mono ?_
  rintro e w11 ⟨rfl,hg11,hc11⟩
  have HS11:=Q2 hg11
  have BG11:Blk w11 w5.heap.size #[iV code,sL ga0 gn0 gc0,sL ga1 gn1 gc1,sL ga2 gn2 gc2,sL ga3 gn3 gc3,sL ga4 gn4 gc4,sL ga5 gn5 gc5,sL ga6 gn6 gc6]:=by
   have hl:=BG10.lt
   obtain⟨t,hb⟩:=BG10
   exact⟨t,(hc11.block _ hl (λ⟨j,x,hj,hg⟩=>yK _ (HGL.o j x _ hj hg))).trans hb⟩
  have HL11:Z (Below (w3.heap.size+1) w4 w11):=Below.trans HL10.o (hc11.below (by have:=HZ4.o;omega) (λx ⟨j,v,hj,hg⟩=>by have h1:=HGD.o j v x hj hg;have:=HZ4.o;omega))
  clear hg11 hc11 BG10 r0_ r1_ r2_ r3_ r4_ r5_ r6_ r7_ HG10 HL10 HGS
  have r0_:=BG11.c 0 rfl
  have r1_:=BG11.c 1 rfl
  have r2_:=BG11.c 2 rfl
  have r3_:=BG11.c 3 rfl
  have r4_:=BG11.c 4 rfl
  have r5_:=BG11.c 5 rfl
  have r6_:=BG11.c 6 rfl
  have r7_:=BG11.c 7 rfl
  go_wp2_with fail
  refine(Gg (w4.heap.size+1) code _ _ _ _ _ _ _ _ _ _ _ _ _ _ _ _ _ _ _ _ _  _ HS11.o l0_ l1_ l2_ l3_ l4_ l5_ l6_).mono ?_
  rintro e w12 ⟨rfl,hx⟩
  have HL12:Z (Below (w3.heap.size+1) w4 w12):=Below.trans HL11.o (Below.mono hx (by have:=HZ4.o;have:=HL11.o.size;omega))
  clear hx BG11 r0_ r1_ r2_ r3_ r4_ r5_ r6_ r7_ HS11 HL11
  have HXW:Z (Nx w3 w12):=Below.trans HY34.o (Below.mono HL12.o (Nat.le_succ _))
  have HX12:Z (Nx w w12):=HX3.o.trans HXW.o
  have hzb:w.heap.size<w3.heap.size+1:=by omega
  have BA12:Blk w12 w.heap.size #[v0,v1,v2,v3,iV N.uturn]:=by
   obtain⟨t,hb⟩:=HBA.o
   exact⟨t,(HL12.o.block _ hzb).trans hb⟩
  have BW12:Blk w12 w3.heap.size #[iV code,sL ua0 un0 uc0,sL ua1 un1 uc1,sL ua2 un2 uc2,sL ua3 un3 uc3,sL ua4 un4 uc4,sL ua5 un5 uc5,sL ua6 un6 uc6]:=by
   obtain⟨t,hb⟩:=HBW.o
   exact⟨t,(HL12.o.block _ (Nat.lt_succ_self _)).trans hb⟩
  have k0_:=BA12.c 0 rfl
  have k1_:=BA12.c 1 rfl
  have k2_:=BA12.c 2 rfl
  have k3_:=BA12.c 3 rfl
  have k4_:=BA12.c 4 rfl
  have hq:((1+(gn0:Int)+(gn1:Int)+(gn2:Int)+(gn3:Int)+(gn4:Int)+(gn5:Int)+(gn6:Int)) !=1+(gn0:Int)+(gn1:Int)+(gn2:Int)+(gn3:Int)+(gn4:Int)+(gn5:Int)+(gn6:Int))=false:=by simp
  have hq2:¬(1+(gn0:Int)+(gn1:Int)+(gn2:Int)+(gn3:Int)+(gn4:Int)+(gn5:Int)+(gn6:Int)<0):=by omega
  go_wp2_with fail
  refine(Fe B _ _ _ _ N _ (by exact h0.next HX12.o) HSM.o.1).mono ?_
  rintro e w13 ⟨⟨f0,i0',j0',f1,i1',j1',f2,i2',j2',f3,i3',j3',rfl,hN7⟩,hu8⟩
  have HXW13:Z (Nx w3 w13):=HXW.o.trans hu8.nx
  have BW13:=BW12.next hu8.nx
  clear hu8 BA12 BW12 k0_ k1_ k2_ k3_ k4_
  go_wp2_with fail
  refine(Tj _ _ _ _ _ N _ (by exact hN7.net) (by exact hN7.caps) HSM.o.2 (HT.o.next (HX3.o.trans HXW13.o))).mono ?_
  rintro e w14 ⟨⟨code',x0,x1,x2,x3,x4,x5,x6,G',rfl,⟨o0,o1,o2,o3,o4,o5,o6⟩,hap,hci⟩,hx⟩
  obtain⟨rfl,rfl⟩:=Q5d HCS.o hci
  have HH:Z (H7 w14 x0 x1 x2 x3 x4 x5 x6 G):=⟨o0.held.base nZ,o1.held.base nZ,o2.held.base nZ,o3.held.base nZ,o4.held.base nZ,o5.held.base nZ,o6.held.base nZ⟩
  obtain⟨xa0,xc0,he0⟩:=Q7 o0
  generalize G.eo.length=xn0 at he0
  obtain⟨xa1,xc1,he1⟩:=Q7 o1
  generalize G.so.length=xn1 at he1
  obtain⟨xa2,xc2,he2⟩:=Q7 o2
  generalize G.fi.length=xn2 at he2
  obtain⟨xa3,xc3,he3⟩:=Q7 o3
  generalize G.tt.length=xn3 at he3
  obtain⟨xa4,xc4,he4⟩:=Q7 o4
  generalize G.co.length=xn4 at he4
  obtain⟨xa5,xc5,he5⟩:=Q7 o5
  generalize G.sa.length=xn5 at he5
  obtain⟨xa6,xc6,he6⟩:=Q7 o6
  generalize G.we.length=xn6 at he6
  subst he0 he1 he2 he3 he4 he5 he6
  have HXW14:Z (Nx w3 w14):=HXW13.o.trans hx
  have BW14:=BW13.next hx
  clear hx hN7 hci hap o0 o1 o2 o3 o4 o5 o6 BW13
  have q0_:=BW14.c 0 rfl
  have q1_:=BW14.c 1 rfl
  have q2_:=BW14.c 2 rfl
  have q3_:=BW14.c 3 rfl
  have q4_:=BW14.c 4 rfl
  have q5_:=BW14.c 5 rfl
  have q6_:=BW14.c 6 rfl
  have q7_:=BW14.c 7 rfl
  have hzw:=BW14.lt
  go_wp2_with fail
  refine(U7 code _ _ _ _ _ _ _ _ _ _ _ _ _ _ _ _ _ _ _ _ _ _ _ _ _ _ _ _ _ _ _ _ _ _ _ _ _ _ _ _ _ _  G _ (by exact HH.o.next (Q4 _ _)) (by exact(HU.o.next HXW14.o).next (Q4 _ _))).mono ?_
  rintro e w15 ⟨rfl,hx⟩
  go_wp2
  go_ret
  exact⟨rfl,HX3.o.trans ((HXW14.o.trans (Q4 _ _)).trans hx)⟩
end Go.Proofs.YtahpodmokbdjeaaGreatDoor
