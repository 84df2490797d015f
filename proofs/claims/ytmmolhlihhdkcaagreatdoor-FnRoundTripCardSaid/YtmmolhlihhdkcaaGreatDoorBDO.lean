import Derived.Test.YtmmolhlihhdkcaaGreatDoorBDM
namespace Go.Proofs.YtmmolhlihhdkcaaGreatDoor
open Go.RowKit Go.Sort
set_option linter.unusedVariables false
set_option maxRecDepth 1000000
set_option maxHeartbeats 16000000
def bl3 (h:Nat)(nt rd:Array Value):List (Nat×Array Value×Nat):=[(h,nt,28),(h+1,rd,113),(h+2,#[.int .i64 0,.bool false,.int .i64 0,.int .i64 0,.bool false,.int .i64 0,.slice none 0 0],48)]
def bl4 (h:Nat)(nt rd:Array Value)(g:Nat)(ra:Array Value):List (Nat×Array Value×Nat):=[(h,nt,28),(h+1,rd,113),(h+2,#[.int .i64 0,.bool false,.int .i64 0,.int .i64 0,.bool false,.int .i64 0,.slice none 0 0],48),(g,ra,48)]
def Qes (N:Nt):Prop:=0<N.nodes.length/\0<N.ways.length/\N.nodes.length<=1000000/\N.ways.length<=1000000
theorem Chg.mono {S T:Nat->Prop}{w w':World}(h:Chg S w w')(k:∀x,S x->T x):Chg T w w':=⟨h.os,h.tape,h.output,h.size,λx hx hn=>h.block x hx (λe=>hn (k x e))⟩
theorem To (B D b:Nat)(v0 v1 v2 v3 q0 q1 q2 q3:Value)(N:Nt)(R:Rd)(S:Src)(w:World)(hN:Yf B w v0 v1 v2 v3 N)(hR:Y8 B w q0 q1 q2 q3 R)(hB:b<B)(h0:0<N.nodes.length)(hw0:0<N.ways.length)(hl0:N.nodes.length<=1000000)(hl1:N.ways.length<=1000000)(hS:J8 D w b S)(hok:SOk S)(hE:R.edges.length=0) :
  Calls Tryz.prog 66 #[.agg #[v0,v1,v2,v3,.int .i64 N.uturn],.agg #[q0,q1,q2,q3],.pointer (some ⟨b,0,none⟩)] w λe w'=>∃va,e=.returned (.agg #[.int .i64 (drR N R S).id,.bool (drR N R S).only,.int .i64 (drR N R S).frm,.int .i64 (drR N R S).to,.bool (drR N R S).via,.int .i64 (drR N R S).node,va])/\Qb w.heap.size w' va (drR N R S).ways/\J8 D w' b (drS N R S)/\Chg (Sx1 b) w w':=by
 have HOK:Hid (SOk S):=hok
 have HOK1:Hid (SOk (ns S 10)):=Qj hok 10
 have HS0:Hid (J8 D w b S):=hS
 have HP:Hid (Qes N):=⟨h0,hw0,hl0,hl1⟩
 have HNK:Hid (∀q,Chg (Sx1 b) w q->Yf B q v0 v1 v2 v3 N):=λq hq=>hN.keep (hq.keepsB hB)
 obtain⟨r0,t0,rfl,_,kn⟩:=hN.1
 obtain⟨r1,c1,rfl,_,kw⟩:=hN.2.1
 obtain⟨r2,t2,rfl,_,_⟩:=hN.2.2.1
 obtain⟨r3,t3,rfl,_,_⟩:=hN.2.2.2
 obtain⟨wb,wo,rfl,hwb,_,hwc⟩:=kw hw0
 obtain⟨nb,no,rfl,hnb,_,hnc⟩:=kn h0
 obtain⟨p0,d0,rfl,_,krn⟩:=hR.1
 obtain⟨p1,e1,rfl,_,kre⟩:=hR.2.1
 obtain⟨p2,d2,rfl,_,_⟩:=hR.2.2.1
 obtain⟨p3,d3,rfl,_,_⟩:=hR.2.2.2
 clear hwc hnc kn kw krn kre hN hR hS hok
 have HDR:Hid (drR N R S=Jq N (ns S 10)):=by unfold Hid drR;rw[if_pos (Or.inr hE)]
 have HDS:Hid (drS N R S=Xr N (ns S 10)):=by unfold Hid drS;rw[if_pos (Or.inr hE)]
 rw[hE] at *
 generalize N.nodes.length=m0 at *
 generalize N.ways.length=mw at *
 generalize N.rels.length=m2 at *
 generalize N.turns.length=m3 at *
 generalize R.nodes.length=s0 at *
 generalize R.first.length=s2 at *
 generalize R.out.length=s3 at *
 clear h0 hw0 hl0 hl1 hE
 go_enter Tryz.func66,Tryz.ntmps66
 go_upto_region 1 with fail
 generalize hWA:((w.alloc (.cells #[.slice (some ⟨nb,no,none⟩) m0 t0,.slice (some ⟨wb,wo,none⟩) mw c1,.slice r2 m2 t2,.slice r3 m3 t3,.int .i64 N.uturn] 28)).alloc (.cells #[.slice p0 s0 d0,.slice p1 0 e1,.slice p2 s2 d2,.slice p3 s3 d3] 113)).alloc (.cells #[.int .i64 0,.bool false,.int .i64 0,.int .i64 0,.bool false,.int .i64 0,.slice none 0 0] 48)=wA
 have HA0:Hid (FR D b w wA S (bl3 w.heap.size #[.slice (some ⟨nb,no,none⟩) m0 t0,.slice (some ⟨wb,wo,none⟩) mw c1,.slice r2 m2 t2,.slice r3 m3 t3,.int .i64 N.uturn] #[.slice p0 s0 d0,.slice p1 0 e1,.slice p2 s2 d2,.slice p3 s3 d3])):=by
  unfold Hid
  rw[<-hWA]
  have k0:FR D b w w S []:=⟨Chg.nx (Nx.refl _),HS0.out,λp hp=>absurd hp (by simp),λp hp=>absurd hp (by simp),List.nodup_nil⟩
  have k1:=((k0.alloc #[.slice (some ⟨nb,no,none⟩) m0 t0,.slice (some ⟨wb,wo,none⟩) mw c1,.slice r2 m2 t2,.slice r3 m3 t3,.int .i64 N.uturn] 28 (by decide)).alloc #[.slice p0 s0 d0,.slice p1 0 e1,.slice p2 s2 d2,.slice p3 s3 d3] 113 (by decide)).alloc #[.int .i64 0,.bool false,.int .i64 0,.int .i64 0,.bool false,.int .i64 0,.slice none 0 0] 48 (by decide)
  rw[Q7,Q7,Q7] at k1
  exact k1
 clear hWA
 go_wp2_with fail
 refine(Qe D b S 10 wA HA0.out.src HOK.out (by omega)).mono ?_
 rintro e w1 ⟨rfl,hs1,hc1⟩
 have H1:Hid (FR D b w w1 (ns S 10) (bl3 w.heap.size #[.slice (some ⟨nb,no,none⟩) m0 t0,.slice (some ⟨wb,wo,none⟩) mw c1,.slice r2 m2 t2,.slice r3 m3 t3,.int .i64 N.uturn] #[.slice p0 s0 d0,.slice p1 0 e1,.slice p2 s2 d2,.slice p3 s3 d3])):=HA0.out.drawn hs1 hc1
 have hv10:=Qt HOK.out 10
 clear hs1 hc1 HA0
 generalize nv S 10=d10 at *
 by_cases hd:d10=0
 ·subst hd
  have nc0:w1.cell? ⟨w.heap.size,0,none⟩=some (.slice (some ⟨nb,no,none⟩) m0 t0):=(H1.out.at 0 rfl).blk.cell (i:=0) rfl
  have nc1:w1.cell? ⟨w.heap.size,1,none⟩=some (.slice (some ⟨wb,wo,none⟩) mw c1):=(H1.out.at 0 rfl).blk.cell (i:=1) rfl
  have nc2:w1.cell? ⟨w.heap.size,2,none⟩=some (.slice r2 m2 t2):=(H1.out.at 0 rfl).blk.cell (i:=2) rfl
  have nc3:w1.cell? ⟨w.heap.size,3,none⟩=some (.slice r3 m3 t3):=(H1.out.at 0 rfl).blk.cell (i:=3) rfl
  have nc4:w1.cell? ⟨w.heap.size,4,none⟩=some (.int .i64 N.uturn):=(H1.out.at 0 rfl).blk.cell (i:=4) rfl
  go_wp2_with fail
  refine(Xl B D b (.slice (some ⟨nb,no,none⟩) m0 t0) (.slice (some ⟨wb,wo,none⟩) mw c1) (.slice r2 m2 t2) (.slice r3 m3 t3) N.uturn N (ns S 10) w1 (HNK.out _ H1.out.chg) hB HP.out.1 HP.out.2.1 HP.out.2.2.1 HP.out.2.2.2 H1.out.src HOK1.out).mono ?_
  rintro e wz ⟨va,rfl,ho,hs1,hc1⟩
  obtain⟨a7,c7,rfl⟩:=Q3 ho
  have HF:=Q0 (H1.out.drawn hs1 hc1)
  have HO:Hid (Qb w.heap.size wz (.slice a7 (Jq N (ns S 10)).ways.length c7) (Jq N (ns S 10)).ways):=ho.base H1.out.chg.size
  clear ho hs1 hc1 nc0 nc1 nc2 nc3 nc4
  generalize Jq N (ns S 10)=rr at *
  generalize Xr N (ns S 10)=rs at *
  obtain⟨q1,q2,q3,q4,q5,q6,q7⟩:=rr
  simp only at HO ⊢
  generalize q7.length=n7 at *
  have BR:BT wz (w.heap.size+2) #[.int .i64 0,.bool false,.int .i64 0,.int .i64 0,.bool false,.int .i64 0,.slice none 0 0] 48:=HF.out.at 2 rfl
  have x0:=BR.blk.cell (i:=0) rfl
  have fz0:=BR.blk.frozen 0
  have x1:=BR.blk.cell (i:=1) rfl
  have fz1:=BR.blk.frozen 1
  have x2:=BR.blk.cell (i:=2) rfl
  have fz2:=BR.blk.frozen 2
  have x3:=BR.blk.cell (i:=3) rfl
  have fz3:=BR.blk.frozen 3
  have x4:=BR.blk.cell (i:=4) rfl
  have fz4:=BR.blk.frozen 4
  have x5:=BR.blk.cell (i:=5) rfl
  have fz5:=BR.blk.frozen 5
  have x6:=BR.blk.cell (i:=6) rfl
  have fz6:=BR.blk.frozen 6
  have BS:=Pw (a0:=.int .i64 q1) (a1:=.bool q2) (a2:=.int .i64 q3) (a3:=.int .i64 q4) (a4:=.bool q5) (a5:=.int .i64 q6) (a6:=.slice a7 n7 c7) BR
  have P0:Hid (_=some (Value.int .i64 q1)):=BS.blk.cell (i:=0) rfl
  have P1:Hid (_=some (Value.bool q2)):=BS.blk.cell (i:=1) rfl
  have P2:Hid (_=some (Value.int .i64 q3)):=BS.blk.cell (i:=2) rfl
  have P3:Hid (_=some (Value.int .i64 q4)):=BS.blk.cell (i:=3) rfl
  have P4:Hid (_=some (Value.bool q5)):=BS.blk.cell (i:=4) rfl
  have P5:Hid (_=some (Value.int .i64 q6)):=BS.blk.cell (i:=5) rfl
  have P6:Hid (_=some (Value.slice a7 n7 c7)):=BS.blk.cell (i:=6) rfl
  have HCF:Hid (Chg (λx=>x=w.heap.size+2) wz (((((((wz.setCell ⟨w.heap.size+2,0,none⟩ (.int .i64 q1)).setCell ⟨w.heap.size+2,1,none⟩ (.bool q2)).setCell ⟨w.heap.size+2,2,none⟩ (.int .i64 q3)).setCell ⟨w.heap.size+2,3,none⟩ (.int .i64 q4)).setCell ⟨w.heap.size+2,4,none⟩ (.bool q5)).setCell ⟨w.heap.size+2,5,none⟩ (.int .i64 q6)).setCell ⟨w.heap.size+2,6,none⟩ (.slice a7 n7 c7))):=Kj
  have HBS:=Q0 BS
  clear BS BR
  go_wp2
  generalize hWF:(((((((wz.setCell ⟨w.heap.size+2,0,none⟩ (.int .i64 q1)).setCell ⟨w.heap.size+2,1,none⟩ (.bool q2)).setCell ⟨w.heap.size+2,2,none⟩ (.int .i64 q3)).setCell ⟨w.heap.size+2,3,none⟩ (.int .i64 q4)).setCell ⟨w.heap.size+2,4,none⟩ (.bool q5)).setCell ⟨w.heap.size+2,5,none⟩ (.int .i64 q6)).setCell ⟨w.heap.size+2,6,none⟩ (.slice a7 n7 c7))=wF at P0 P1 P2 P3 P4 P5 P6 HBS HCF ⊢
  have p0:=P0.out
  have p1:=P1.out
  have p2:=P2.out
  have p3:=P3.out
  have p4:=P4.out
  have p5:=P5.out
  have p6:=P6.out
  refine bodyPost_ret (v:=.agg #[.int .i64 q1,.bool q2,.int .i64 q3,.int .i64 q4,.bool q5,.int .i64 q6,.slice a7 n7 c7]) (by simp[results,Tryz.results66,go_sem,p0,p1,p2,p3,p4,p5,p6]) rfl ?_
  have hF:=HF.out.turn 2 rfl HCF.out HBS.out
  have hR:=HF.out.rowTurn 2 rfl HO.out HCF.out
  rw[HDR.out,HDS.out]
  exact⟨_,rfl,hR,hF.src,hF.chg⟩
 ·have hd':(d10==0)=false:=by simpa using hd
  have rr1:w1.cell? ⟨w.heap.size+1,1,none⟩=some (.slice p1 0 e1):=(H1.out.at 1 rfl).blk.cell (i:=1) rfl
  have nc0:w1.cell? ⟨w.heap.size,0,none⟩=some (.slice (some ⟨nb,no,none⟩) m0 t0):=(H1.out.at 0 rfl).blk.cell (i:=0) rfl
  have nc1:w1.cell? ⟨w.heap.size,1,none⟩=some (.slice (some ⟨wb,wo,none⟩) mw c1):=(H1.out.at 0 rfl).blk.cell (i:=1) rfl
  have nc2:w1.cell? ⟨w.heap.size,2,none⟩=some (.slice r2 m2 t2):=(H1.out.at 0 rfl).blk.cell (i:=2) rfl
  have nc3:w1.cell? ⟨w.heap.size,3,none⟩=some (.slice r3 m3 t3):=(H1.out.at 0 rfl).blk.cell (i:=3) rfl
  have nc4:w1.cell? ⟨w.heap.size,4,none⟩=some (.int .i64 N.uturn):=(H1.out.at 0 rfl).blk.cell (i:=4) rfl
  go_wp2_with fail
  refine(Xl B D b (.slice (some ⟨nb,no,none⟩) m0 t0) (.slice (some ⟨wb,wo,none⟩) mw c1) (.slice r2 m2 t2) (.slice r3 m3 t3) N.uturn N (ns S 10) w1 (HNK.out _ H1.out.chg) hB HP.out.1 HP.out.2.1 HP.out.2.2.1 HP.out.2.2.2 H1.out.src HOK1.out).mono ?_
  rintro e wz ⟨va,rfl,ho,hs1,hc1⟩
  obtain⟨a7,c7,rfl⟩:=Q3 ho
  have HF:=Q0 (H1.out.drawn hs1 hc1)
  have HO:Hid (Qb w.heap.size wz (.slice a7 (Jq N (ns S 10)).ways.length c7) (Jq N (ns S 10)).ways):=ho.base H1.out.chg.size
  clear ho hs1 hc1 nc0 nc1 nc2 nc3 nc4
  generalize Jq N (ns S 10)=rr at *
  generalize Xr N (ns S 10)=rs at *
  obtain⟨q1,q2,q3,q4,q5,q6,q7⟩:=rr
  simp only at HO ⊢
  generalize q7.length=n7 at *
  have BR:BT wz (w.heap.size+2) #[.int .i64 0,.bool false,.int .i64 0,.int .i64 0,.bool false,.int .i64 0,.slice none 0 0] 48:=HF.out.at 2 rfl
  have x0:=BR.blk.cell (i:=0) rfl
  have fz0:=BR.blk.frozen 0
  have x1:=BR.blk.cell (i:=1) rfl
  have fz1:=BR.blk.frozen 1
  have x2:=BR.blk.cell (i:=2) rfl
  have fz2:=BR.blk.frozen 2
  have x3:=BR.blk.cell (i:=3) rfl
  have fz3:=BR.blk.frozen 3
  have x4:=BR.blk.cell (i:=4) rfl
  have fz4:=BR.blk.frozen 4
  have x5:=BR.blk.cell (i:=5) rfl
  have fz5:=BR.blk.frozen 5
  have x6:=BR.blk.cell (i:=6) rfl
  have fz6:=BR.blk.frozen 6
  have BS:=Pw (a0:=.int .i64 q1) (a1:=.bool q2) (a2:=.int .i64 q3) (a3:=.int .i64 q4) (a4:=.bool q5) (a5:=.int .i64 q6) (a6:=.slice a7 n7 c7) BR
  have P0:Hid (_=some (Value.int .i64 q1)):=BS.blk.cell (i:=0) rfl
  have P1:Hid (_=some (Value.bool q2)):=BS.blk.cell (i:=1) rfl
  have P2:Hid (_=some (Value.int .i64 q3)):=BS.blk.cell (i:=2) rfl
  have P3:Hid (_=some (Value.int .i64 q4)):=BS.blk.cell (i:=3) rfl
  have P4:Hid (_=some (Value.bool q5)):=BS.blk.cell (i:=4) rfl
  have P5:Hid (_=some (Value.int .i64 q6)):=BS.blk.cell (i:=5) rfl
  have P6:Hid (_=some (Value.slice a7 n7 c7)):=BS.blk.cell (i:=6) rfl
  have HCF:Hid (Chg (λx=>x=w.heap.size+2) wz (((((((wz.setCell ⟨w.heap.size+2,0,none⟩ (.int .i64 q1)).setCell ⟨w.heap.size+2,1,none⟩ (.bool q2)).setCell ⟨w.heap.size+2,2,none⟩ (.int .i64 q3)).setCell ⟨w.heap.size+2,3,none⟩ (.int .i64 q4)).setCell ⟨w.heap.size+2,4,none⟩ (.bool q5)).setCell ⟨w.heap.size+2,5,none⟩ (.int .i64 q6)).setCell ⟨w.heap.size+2,6,none⟩ (.slice a7 n7 c7))):=Kj
  have HBS:=Q0 BS
  clear BS BR
  go_wp2
  generalize hWF:(((((((wz.setCell ⟨w.heap.size+2,0,none⟩ (.int .i64 q1)).setCell ⟨w.heap.size+2,1,none⟩ (.bool q2)).setCell ⟨w.heap.size+2,2,none⟩ (.int .i64 q3)).setCell ⟨w.heap.size+2,3,none⟩ (.int .i64 q4)).setCell ⟨w.heap.size+2,4,none⟩ (.bool q5)).setCell ⟨w.heap.size+2,5,none⟩ (.int .i64 q6)).setCell ⟨w.heap.size+2,6,none⟩ (.slice a7 n7 c7))=wF at P0 P1 P2 P3 P4 P5 P6 HBS HCF ⊢
  have p0:=P0.out
  have p1:=P1.out
  have p2:=P2.out
  have p3:=P3.out
  have p4:=P4.out
  have p5:=P5.out
  have p6:=P6.out
  refine bodyPost_ret (v:=.agg #[.int .i64 q1,.bool q2,.int .i64 q3,.int .i64 q4,.bool q5,.int .i64 q6,.slice a7 n7 c7]) (by simp[results,Tryz.results66,go_sem,p0,p1,p2,p3,p4,p5,p6]) rfl ?_
  have hF:=HF.out.turn 2 rfl HCF.out HBS.out
  have hR:=HF.out.rowTurn 2 rfl HO.out HCF.out
  rw[HDR.out,HDS.out]
  exact⟨_,rfl,hR,hF.src,hF.chg⟩
theorem Tp (B D b:Nat)(v0 v1 v2 v3 q0 q1 q2 q3:Value)(N:Nt)(R:Rd)(S:Src)(w:World)(hN:Yf B w v0 v1 v2 v3 N)(hR:Y8 B w q0 q1 q2 q3 R)(hB:b<B)(h0:0<N.nodes.length)(hw0:0<N.ways.length)(hl0:N.nodes.length<=1000000)(hl1:N.ways.length<=1000000)(hS:J8 D w b S)(hok:SOk S)(hE:0<R.edges.length)(hI:Eu N R)(h6:nv S 10<6) :
  Calls Tryz.prog 66 #[.agg #[v0,v1,v2,v3,.int .i64 N.uturn],.agg #[q0,q1,q2,q3],.pointer (some ⟨b,0,none⟩)] w λe w'=>∃va,e=.returned (.agg #[.int .i64 (drR N R S).id,.bool (drR N R S).only,.int .i64 (drR N R S).frm,.int .i64 (drR N R S).to,.bool (drR N R S).via,.int .i64 (drR N R S).node,va])/\Qb w.heap.size w' va (drR N R S).ways/\J8 D w' b (drS N R S)/\Chg (Sx1 b) w w':=by
 have HOK:Hid (SOk S):=hok
 have HOK1:Hid (SOk (ns S 10)):=Qj hok 10
 have HS0:Hid (J8 D w b S):=hS
 have HP:Hid (Qes N):=⟨h0,hw0,hl0,hl1⟩
 have HNK:Hid (∀q,Chg (Sx1 b) w q->Yf B q v0 v1 v2 v3 N):=λq hq=>hN.keep (hq.keepsB hB)
 have HRK:Hid (∀q,Chg (Sx1 b) w q->Y8 B q q0 q1 q2 q3 R):=λq hq=>hR.keep (hq.keepsB hB)
 obtain⟨r0,t0,rfl,_,kn⟩:=hN.1
 obtain⟨r1,c1,rfl,_,kw⟩:=hN.2.1
 obtain⟨r2,t2,rfl,_,_⟩:=hN.2.2.1
 obtain⟨r3,t3,rfl,_,_⟩:=hN.2.2.2
 obtain⟨wb,wo,rfl,hwb,_,hwc⟩:=kw hw0
 obtain⟨nb,no,rfl,hnb,_,hnc⟩:=kn h0
 obtain⟨p0,d0,rfl,_,krn⟩:=hR.1
 obtain⟨p1,e1,rfl,_,kre⟩:=hR.2.1
 obtain⟨p2,d2,rfl,_,_⟩:=hR.2.2.1
 obtain⟨p3,d3,rfl,_,_⟩:=hR.2.2.2
 obtain⟨eb,eo,rfl,heb,_,hec⟩:=kre hE
 obtain⟨i0,hi0,_⟩:=hI.head 0 hE
 obtain⟨rb,ro,rfl,hrb,_,hrc⟩:=krn (by omega)
 have HWC:Hid (∀q,Chg (Sx1 b) w q->∀i,i<N.ways.length->q.cell? ⟨wb,wo+i*4,none⟩=some (.int .i64 (wat N.ways i).id)):=λq hq i hi=>by
  obtain⟨_,_,hc,_⟩:=hwc i hi
  exact hq.cellB (by omega) hc
 have HEC:Hid (∀q,Chg (Sx1 b) w q->∀e,e<R.edges.length->It q eb (eo+e*7) (eat R.edges e)):=λq hq e he=>(hec e he).keep (hq.keepsB hB) heb (Zc (hec e he).1)
 have HNC:Hid (∀q,Chg (Sx1 b) w q->∀i,i<R.nodes.length->q.cell? ⟨rb,ro+i,none⟩=some (.int .i64 (iat R.nodes i))):=λq hq i hi=>hq.cellB (by omega) (hrc i hi)
 have HII:Hid (Eu N R):=hI
 have HLE:Hid (R.edges.length<=4000):=hI.len
 have hle:=hI.len
 have HMW:Hid (N.ways.length=N.ways.length):=rfl
 have HM1:Hid (R.edges.length=R.edges.length):=rfl
 have HM0:Hid (R.nodes.length=R.nodes.length):=rfl
 have HNE:Hid (¬R.edges.length=0):=by unfold Hid;omega
 clear hwc hnc kn kw krn kre hN hR hS hok hec hrc hI hi0
 generalize N.nodes.length=m0 at *
 generalize hmw:N.ways.length=mw at h0 hw0 hl0 hl1 HWC HMW HNK ⊢
 generalize N.rels.length=m2 at *
 generalize N.turns.length=m3 at *
 generalize hms:R.nodes.length=s0 at HNC HM0 HRK ⊢
 generalize hm1:R.edges.length=m1 at hE hle HEC HM1 HNE HRK ⊢
 generalize R.first.length=s2 at *
 generalize R.out.length=s3 at *
 have HW':Hid (N.ways.length=mw):=hmw
 have HE':Hid (R.edges.length=m1):=hm1
 have HS':Hid (R.nodes.length=s0):=hms
 clear HMW HM1 HM0 hmw hms hm1
 go_enter Tryz.func66,Tryz.ntmps66
 go_upto_region 1 with fail
 generalize hWA:((w.alloc (.cells #[.slice (some ⟨nb,no,none⟩) m0 t0,.slice (some ⟨wb,wo,none⟩) mw c1,.slice r2 m2 t2,.slice r3 m3 t3,.int .i64 N.uturn] 28)).alloc (.cells #[.slice (some ⟨rb,ro,none⟩) s0 d0,.slice (some ⟨eb,eo,none⟩) m1 e1,.slice p2 s2 d2,.slice p3 s3 d3] 113)).alloc (.cells #[.int .i64 0,.bool false,.int .i64 0,.int .i64 0,.bool false,.int .i64 0,.slice none 0 0] 48)=wA
 have HA0:Hid (FR D b w wA S (bl3 w.heap.size #[.slice (some ⟨nb,no,none⟩) m0 t0,.slice (some ⟨wb,wo,none⟩) mw c1,.slice r2 m2 t2,.slice r3 m3 t3,.int .i64 N.uturn] #[.slice (some ⟨rb,ro,none⟩) s0 d0,.slice (some ⟨eb,eo,none⟩) m1 e1,.slice p2 s2 d2,.slice p3 s3 d3])):=by
  unfold Hid
  rw[<-hWA]
  have k0:FR D b w w S []:=⟨Chg.nx (Nx.refl _),HS0.out,λp hp=>absurd hp (by simp),λp hp=>absurd hp (by simp),List.nodup_nil⟩
  have k1:=((k0.alloc #[.slice (some ⟨nb,no,none⟩) m0 t0,.slice (some ⟨wb,wo,none⟩) mw c1,.slice r2 m2 t2,.slice r3 m3 t3,.int .i64 N.uturn] 28 (by decide)).alloc #[.slice (some ⟨rb,ro,none⟩) s0 d0,.slice (some ⟨eb,eo,none⟩) m1 e1,.slice p2 s2 d2,.slice p3 s3 d3] 113 (by decide)).alloc #[.int .i64 0,.bool false,.int .i64 0,.int .i64 0,.bool false,.int .i64 0,.slice none 0 0] 48 (by decide)
  rw[Q7,Q7,Q7] at k1
  exact k1
 clear hWA
 go_wp2_with fail
 refine(Qe D b S 10 wA HA0.out.src HOK.out (by omega)).mono ?_
 rintro e w1 ⟨rfl,hs1,hc1⟩
 have H1:Hid (FR D b w w1 (ns S 10) (bl3 w.heap.size #[.slice (some ⟨nb,no,none⟩) m0 t0,.slice (some ⟨wb,wo,none⟩) mw c1,.slice r2 m2 t2,.slice r3 m3 t3,.int .i64 N.uturn] #[.slice (some ⟨rb,ro,none⟩) s0 d0,.slice (some ⟨eb,eo,none⟩) m1 e1,.slice p2 s2 d2,.slice p3 s3 d3])):=HA0.out.drawn hs1 hc1
 have hv10:=Qt HOK.out 10
 clear hs1 hc1 HA0
 have HD10:Hid (nv S 10=nv S 10):=rfl
 generalize hd10:nv S 10=d10 at hv10 HD10 ⊢
 replace HD10:Hid (nv S 10=d10):=hd10
 clear hd10
 by_cases hd:d10=0
 ·have HDR:Hid (drR N R S=Jq N (ns S 10)):=by unfold Hid drR;rw[HD10.out,if_pos (Or.inl hd)]
  have HDS:Hid (drS N R S=Xr N (ns S 10)):=by unfold Hid drS;rw[HD10.out,if_pos (Or.inl hd)]
  subst hd
  have nc0:w1.cell? ⟨w.heap.size,0,none⟩=some (.slice (some ⟨nb,no,none⟩) m0 t0):=(H1.out.at 0 rfl).blk.cell (i:=0) rfl
  have nc1:w1.cell? ⟨w.heap.size,1,none⟩=some (.slice (some ⟨wb,wo,none⟩) mw c1):=(H1.out.at 0 rfl).blk.cell (i:=1) rfl
  have nc2:w1.cell? ⟨w.heap.size,2,none⟩=some (.slice r2 m2 t2):=(H1.out.at 0 rfl).blk.cell (i:=2) rfl
  have nc3:w1.cell? ⟨w.heap.size,3,none⟩=some (.slice r3 m3 t3):=(H1.out.at 0 rfl).blk.cell (i:=3) rfl
  have nc4:w1.cell? ⟨w.heap.size,4,none⟩=some (.int .i64 N.uturn):=(H1.out.at 0 rfl).blk.cell (i:=4) rfl
  go_wp2_with fail
  refine(Xl B D b (.slice (some ⟨nb,no,none⟩) m0 t0) (.slice (some ⟨wb,wo,none⟩) mw c1) (.slice r2 m2 t2) (.slice r3 m3 t3) N.uturn N (ns S 10) w1 (HNK.out _ H1.out.chg) hB HP.out.1 HP.out.2.1 HP.out.2.2.1 HP.out.2.2.2 H1.out.src HOK1.out).mono ?_
  rintro e wz ⟨va,rfl,ho,hs1,hc1⟩
  obtain⟨a7,c7,rfl⟩:=Q3 ho
  have HF:=Q0 (H1.out.drawn hs1 hc1)
  have HO:Hid (Qb w.heap.size wz (.slice a7 (Jq N (ns S 10)).ways.length c7) (Jq N (ns S 10)).ways):=ho.base H1.out.chg.size
  clear ho hs1 hc1 nc0 nc1 nc2 nc3 nc4
  generalize Jq N (ns S 10)=rr at *
  generalize Xr N (ns S 10)=rs at *
  obtain⟨q1,q2,q3,q4,q5,q6,q7⟩:=rr
  simp only at HO ⊢
  generalize q7.length=n7 at *
  have BR:BT wz (w.heap.size+2) #[.int .i64 0,.bool false,.int .i64 0,.int .i64 0,.bool false,.int .i64 0,.slice none 0 0] 48:=HF.out.at 2 rfl
  have x0:=BR.blk.cell (i:=0) rfl
  have fz0:=BR.blk.frozen 0
  have x1:=BR.blk.cell (i:=1) rfl
  have fz1:=BR.blk.frozen 1
  have x2:=BR.blk.cell (i:=2) rfl
  have fz2:=BR.blk.frozen 2
  have x3:=BR.blk.cell (i:=3) rfl
  have fz3:=BR.blk.frozen 3
  have x4:=BR.blk.cell (i:=4) rfl
  have fz4:=BR.blk.frozen 4
  have x5:=BR.blk.cell (i:=5) rfl
  have fz5:=BR.blk.frozen 5
  have x6:=BR.blk.cell (i:=6) rfl
  have fz6:=BR.blk.frozen 6
  have BS:=Pw (a0:=.int .i64 q1) (a1:=.bool q2) (a2:=.int .i64 q3) (a3:=.int .i64 q4) (a4:=.bool q5) (a5:=.int .i64 q6) (a6:=.slice a7 n7 c7) BR
  have P0:Hid (_=some (Value.int .i64 q1)):=BS.blk.cell (i:=0) rfl
  have P1:Hid (_=some (Value.bool q2)):=BS.blk.cell (i:=1) rfl
  have P2:Hid (_=some (Value.int .i64 q3)):=BS.blk.cell (i:=2) rfl
  have P3:Hid (_=some (Value.int .i64 q4)):=BS.blk.cell (i:=3) rfl
  have P4:Hid (_=some (Value.bool q5)):=BS.blk.cell (i:=4) rfl
  have P5:Hid (_=some (Value.int .i64 q6)):=BS.blk.cell (i:=5) rfl
  have P6:Hid (_=some (Value.slice a7 n7 c7)):=BS.blk.cell (i:=6) rfl
  have HCF:Hid (Chg (λx=>x=w.heap.size+2) wz (((((((wz.setCell ⟨w.heap.size+2,0,none⟩ (.int .i64 q1)).setCell ⟨w.heap.size+2,1,none⟩ (.bool q2)).setCell ⟨w.heap.size+2,2,none⟩ (.int .i64 q3)).setCell ⟨w.heap.size+2,3,none⟩ (.int .i64 q4)).setCell ⟨w.heap.size+2,4,none⟩ (.bool q5)).setCell ⟨w.heap.size+2,5,none⟩ (.int .i64 q6)).setCell ⟨w.heap.size+2,6,none⟩ (.slice a7 n7 c7))):=Kj
  have HBS:=Q0 BS
  clear BS BR
  go_wp2
  generalize hWF:(((((((wz.setCell ⟨w.heap.size+2,0,none⟩ (.int .i64 q1)).setCell ⟨w.heap.size+2,1,none⟩ (.bool q2)).setCell ⟨w.heap.size+2,2,none⟩ (.int .i64 q3)).setCell ⟨w.heap.size+2,3,none⟩ (.int .i64 q4)).setCell ⟨w.heap.size+2,4,none⟩ (.bool q5)).setCell ⟨w.heap.size+2,5,none⟩ (.int .i64 q6)).setCell ⟨w.heap.size+2,6,none⟩ (.slice a7 n7 c7))=wF at P0 P1 P2 P3 P4 P5 P6 HBS HCF ⊢
  have p0:=P0.out
  have p1:=P1.out
  have p2:=P2.out
  have p3:=P3.out
  have p4:=P4.out
  have p5:=P5.out
  have p6:=P6.out
  refine bodyPost_ret (v:=.agg #[.int .i64 q1,.bool q2,.int .i64 q3,.int .i64 q4,.bool q5,.int .i64 q6,.slice a7 n7 c7]) (by simp[results,Tryz.results66,go_sem,p0,p1,p2,p3,p4,p5,p6]) rfl ?_
  have hF:=HF.out.turn 2 rfl HCF.out HBS.out
  have hR:=HF.out.rowTurn 2 rfl HO.out HCF.out
  rw[HDR.out,HDS.out]
  exact⟨_,rfl,hR,hF.src,hF.chg⟩
 have hd':(d10==0)=false:=by simpa using hd
 have HND:Hid (¬(d10=0\/R.edges.length=0)):=λh=>h.elim hd (λe=>by rw[HE'.out] at e;omega)
 have rr1:w1.cell? ⟨w.heap.size+1,1,none⟩=some (.slice (some ⟨eb,eo,none⟩) m1 e1):=(H1.out.at 1 rfl).blk.cell (i:=1) rfl
 have hmz:((m1:Int)==0)=false:=by simp;omega
 have hmy:¬(m1:Int)=0:=by omega
 have hmx:Tryz.prog.follows .mixedOrders=true:=by kernel_rfl
 have hd6:d10<6:=by rw[<-HD10.out];exact h6
 clear h6
 go_wp2_with fail
 refine(Qe D b (ns S 10) (m1:Int) w1 H1.out.src HOK1.out (by omega)).mono ?_
 rintro e w2 ⟨rfl,hs1,hc1⟩
 have H2:=Q0 (H1.out.drawn hs1 hc1)
 have HOK2:Hid (SOk (ns (ns S 10) m1)):=Qj HOK1.out _
 obtain⟨ia,hia⟩:∃i:Nat,nv (ns S 10) m1=i:=⟨(nv (ns S 10) m1).toNat,by have:=(Qt HOK1.out m1).1;omega⟩
 have hil:ia<m1:=by have:=(Qt HOK1.out m1).2 (by omega);omega
 have hil':(ia:Int)<m1:=by omega
 have HIA:Hid (dnA R.edges (ns S 10)=(ia:Int)):=by unfold Hid dnA;rw[HE'.out];exact hia
 rw[hia]
 obtain⟨nh,hnh,hea⟩:=HII.out.head ia (by rw[HE'.out];exact hil)
 rw[HS'.out] at hnh
 have HHD:Hid (Q44 R.edges (ns S 10)=(nh:Int)):=by unfold Hid Q44;rw[HIA.out,Int.toNat_natCast];exact hea
 have HDB:Hid (dnB R.edges (ns S 10)=pkV R.edges (nh:Int) true (ns (ns S 10) m1)):=by unfold Hid dnB;rw[HHD.out,HE'.out]
 have HDN:Hid (dnS R.edges (ns S 10)=pkS R.edges (nh:Int) true (ns (ns S 10) m1)):=by unfold Hid dnS;rw[HHD.out,HE'.out]
 have HSN:Hid (∀q S',FR D b w q S' (bl3 w.heap.size #[.slice (some ⟨nb,no,none⟩) m0 t0,.slice (some ⟨wb,wo,none⟩) mw c1,.slice r2 m2 t2,.slice r3 m3 t3,.int .i64 N.uturn] #[.slice (some ⟨rb,ro,none⟩) s0 d0,.slice (some ⟨eb,eo,none⟩) m1 e1,.slice p2 s2 d2,.slice p3 s3 d3])->(λq=>q.cell? ⟨w.heap.size+1,0,none⟩=some (.slice (some ⟨rb,ro,none⟩) s0 d0)/\q.cell? ⟨w.heap.size+1,1,none⟩=some (.slice (some ⟨eb,eo,none⟩) m1 e1)/\q.cell? ⟨w.heap.size+1,2,none⟩=some (.slice p2 s2 d2)/\q.cell? ⟨w.heap.size+1,3,none⟩=some (.slice p3 s3 d3)/\q.cell? ⟨eb,eo+ia*7+1,none⟩=some (.int .i64 (nh:Int))) q):=λq S' h=>⟨(h.at 1 rfl).blk.cell (i:=0) rfl,(h.at 1 rfl).blk.cell (i:=1) rfl,(h.at 1 rfl).blk.cell (i:=2) rfl,(h.at 1 rfl).blk.cell (i:=3) rfl,by have k:=(HEC.out q h.chg ia hil).2.1;rw[hea] at k;exact k⟩
 clear hia hs1 hc1 H1 rr1
 go_upto_region 6 with fail
 have H2D:=Q0 (H2.out.next (show Nx w2 w2.drew from(Below.refl _ _).drew))
 have HSS:Hid ((λq=>q.cell? ⟨w.heap.size+1,0,none⟩=some (.slice (some ⟨rb,ro,none⟩) s0 d0)/\q.cell? ⟨w.heap.size+1,1,none⟩=some (.slice (some ⟨eb,eo,none⟩) m1 e1)/\q.cell? ⟨w.heap.size+1,2,none⟩=some (.slice p2 s2 d2)/\q.cell? ⟨w.heap.size+1,3,none⟩=some (.slice p3 s3 d3)/\q.cell? ⟨eb,eo+ia*7+1,none⟩=some (.int .i64 (nh:Int))) w2.drew):=HSN.out _ _ H2D.out
 refine(wpIn_wide (n:=9)).1 ?_
 refine Q9 (c:=10) (S:=λq=>q.cell? ⟨w.heap.size+1,0,none⟩=some (.slice (some ⟨rb,ro,none⟩) s0 d0)/\q.cell? ⟨w.heap.size+1,1,none⟩=some (.slice (some ⟨eb,eo,none⟩) m1 e1)/\q.cell? ⟨w.heap.size+1,2,none⟩=some (.slice p2 s2 d2)/\q.cell? ⟨w.heap.size+1,3,none⟩=some (.slice p3 s3 d3)/\q.cell? ⟨eb,eo+ia*7+1,none⟩=some (.int .i64 (nh:Int))) hmx (by kernel_rfl) (λhw hcl=>?_)
 refine tq (i:=0) (v:=.agg #[.slice (some ⟨rb,ro,none⟩) s0 d0,.slice (some ⟨eb,eo,none⟩) m1 e1,.slice p2 s2 d2,.slice p3 s3 d3]) (λhcl=>?_)
 refine tq (i:=1) (v:=.pointer (some ⟨w.heap.size+1,1,none⟩)) (λhcl=>?_)
 refine tq (i:=2) (v:=.slice (some ⟨eb,eo,none⟩) m1 e1) (λhcl=>?_)
 refine tq (i:=3) (v:=.int .i64 (ia:Int)) (λhcl=>?_)
 refine tq (i:=4) (v:=.pointer (some ⟨eb,eo+ia*7,none⟩)) (λhcl=>?_)
 refine tq (i:=5) (v:=.pointer (some ⟨eb,eo+ia*7+1,none⟩)) (λhcl=>?_)
 refine tq (i:=6) (v:=.int .i64 (nh:Int)) (λhcl=>?_)
 refine tq (i:=7) (v:=.pointer (some ⟨b,0,none⟩)) (λhcl=>?_)
 refine Q5 (i:=8) (by kernel_rfl) hcl (λhcl=>wpOpIn_step rfl (λK hK=>?_))
 go_simp
 refine⟨trivial,(callsIn_wide.2 (Uy B D b (.slice (some ⟨rb,ro,none⟩) s0 d0) (.slice (some ⟨eb,eo,none⟩) m1 e1) (.slice p2 s2 d2) (.slice p3 s3 d3) R (nh:Int) true (ns (ns S 10) m1) _ (HRK.out _ H2D.out.chg) HLE.out H2D.out.src HOK2.out)).mono ?_⟩
 rintro e7 w3 ⟨rfl,hs1,hc1⟩
 have H3:=Q0 (H2D.out.drawn hs1 hc1)
 have HSS:Hid ((λq=>q.cell? ⟨w.heap.size+1,0,none⟩=some (.slice (some ⟨rb,ro,none⟩) s0 d0)/\q.cell? ⟨w.heap.size+1,1,none⟩=some (.slice (some ⟨eb,eo,none⟩) m1 e1)/\q.cell? ⟨w.heap.size+1,2,none⟩=some (.slice p2 s2 d2)/\q.cell? ⟨w.heap.size+1,3,none⟩=some (.slice p3 s3 d3)/\q.cell? ⟨eb,eo+ia*7+1,none⟩=some (.int .i64 (nh:Int))) w3):=HSN.out _ _ H3.out
 refine hK _ _ ⟨Or.inr HSS.out,?_⟩
 clear hK K hs1 hc1
 refine Q5 (i:=9) (by kernel_rfl) hcl (λhcl=>wpOpIn_step rfl (λK hK=>?_))
 go_simp
 refine hK _ _ ⟨Or.inr HSS.out,?_⟩
 clear hK K
 refine Qi (by kernel_rfl) ?_ _
 clear hw hcl HSS
 have HOK3:Hid (SOk (pkS R.edges (nh:Int) true (ns (ns S 10) m1))):=(Yp HOK2.out).1
 have HPV:=Q0 (Q0j (es:=R.edges) (nd:=(nh:Int)) (out:=true) HOK2.out)
 generalize pkS R.edges (nh:Int) true (ns (ns S 10) m1)=S3 at *
 generalize pkV R.edges (nh:Int) true (ns (ns S 10) m1)=bv at *
 clear H2 H2D HSN
 rcases HPV.out with rfl|⟨ib,rfl,hib⟩
 ·have HDR:Hid (drR N R S=Jq N S3):=by unfold Hid drR;rw[HD10.out,if_neg HND.out,if_pos hd6,HDB.out,if_pos (by decide),HDN.out]
  have HDS:Hid (drS N R S=Xr N S3):=by unfold Hid drS;rw[HD10.out,if_neg HND.out,if_pos hd6,HDB.out,if_pos (by decide),HDN.out]
  clear HPV
  have nc0:w3.cell? ⟨w.heap.size,0,none⟩=some (.slice (some ⟨nb,no,none⟩) m0 t0):=(H3.out.at 0 rfl).blk.cell (i:=0) rfl
  have nc1:w3.cell? ⟨w.heap.size,1,none⟩=some (.slice (some ⟨wb,wo,none⟩) mw c1):=(H3.out.at 0 rfl).blk.cell (i:=1) rfl
  have nc2:w3.cell? ⟨w.heap.size,2,none⟩=some (.slice r2 m2 t2):=(H3.out.at 0 rfl).blk.cell (i:=2) rfl
  have nc3:w3.cell? ⟨w.heap.size,3,none⟩=some (.slice r3 m3 t3):=(H3.out.at 0 rfl).blk.cell (i:=3) rfl
  have nc4:w3.cell? ⟨w.heap.size,4,none⟩=some (.int .i64 N.uturn):=(H3.out.at 0 rfl).blk.cell (i:=4) rfl
  go_wp2_with fail
  refine(Xl B D b (.slice (some ⟨nb,no,none⟩) m0 t0) (.slice (some ⟨wb,wo,none⟩) mw c1) (.slice r2 m2 t2) (.slice r3 m3 t3) N.uturn N S3 w3 (HNK.out _ H3.out.chg) hB HP.out.1 HP.out.2.1 HP.out.2.2.1 HP.out.2.2.2 H3.out.src HOK3.out).mono ?_
  rintro e wz ⟨va,rfl,ho,hs1,hc1⟩
  obtain⟨a7,c7,rfl⟩:=Q3 ho
  have HF:=Q0 (H3.out.drawn hs1 hc1)
  have HO:Hid (Qb w.heap.size wz (.slice a7 (Jq N S3).ways.length c7) (Jq N S3).ways):=ho.base H3.out.chg.size
  clear ho hs1 hc1 nc0 nc1 nc2 nc3 nc4
  generalize Jq N S3=rr at *
  generalize Xr N S3=rs at *
  obtain⟨q1,q2,q3,q4,q5,q6,q7⟩:=rr
  simp only at HO ⊢
  generalize q7.length=n7 at *
  have BR:BT wz (w.heap.size+2) #[.int .i64 0,.bool false,.int .i64 0,.int .i64 0,.bool false,.int .i64 0,.slice none 0 0] 48:=HF.out.at 2 rfl
  have x0:=BR.blk.cell (i:=0) rfl
  have fz0:=BR.blk.frozen 0
  have x1:=BR.blk.cell (i:=1) rfl
  have fz1:=BR.blk.frozen 1
  have x2:=BR.blk.cell (i:=2) rfl
  have fz2:=BR.blk.frozen 2
  have x3:=BR.blk.cell (i:=3) rfl
  have fz3:=BR.blk.frozen 3
  have x4:=BR.blk.cell (i:=4) rfl
  have fz4:=BR.blk.frozen 4
  have x5:=BR.blk.cell (i:=5) rfl
  have fz5:=BR.blk.frozen 5
  have x6:=BR.blk.cell (i:=6) rfl
  have fz6:=BR.blk.frozen 6
  have BS:=Pw (a0:=.int .i64 q1) (a1:=.bool q2) (a2:=.int .i64 q3) (a3:=.int .i64 q4) (a4:=.bool q5) (a5:=.int .i64 q6) (a6:=.slice a7 n7 c7) BR
  have P0:Hid (_=some (Value.int .i64 q1)):=BS.blk.cell (i:=0) rfl
  have P1:Hid (_=some (Value.bool q2)):=BS.blk.cell (i:=1) rfl
  have P2:Hid (_=some (Value.int .i64 q3)):=BS.blk.cell (i:=2) rfl
  have P3:Hid (_=some (Value.int .i64 q4)):=BS.blk.cell (i:=3) rfl
  have P4:Hid (_=some (Value.bool q5)):=BS.blk.cell (i:=4) rfl
  have P5:Hid (_=some (Value.int .i64 q6)):=BS.blk.cell (i:=5) rfl
  have P6:Hid (_=some (Value.slice a7 n7 c7)):=BS.blk.cell (i:=6) rfl
  have HCF:Hid (Chg (λx=>x=w.heap.size+2) wz (((((((wz.setCell ⟨w.heap.size+2,0,none⟩ (.int .i64 q1)).setCell ⟨w.heap.size+2,1,none⟩ (.bool q2)).setCell ⟨w.heap.size+2,2,none⟩ (.int .i64 q3)).setCell ⟨w.heap.size+2,3,none⟩ (.int .i64 q4)).setCell ⟨w.heap.size+2,4,none⟩ (.bool q5)).setCell ⟨w.heap.size+2,5,none⟩ (.int .i64 q6)).setCell ⟨w.heap.size+2,6,none⟩ (.slice a7 n7 c7))):=Kj
  have HBS:=Q0 BS
  clear BS BR
  go_wp2
  generalize hWF:(((((((wz.setCell ⟨w.heap.size+2,0,none⟩ (.int .i64 q1)).setCell ⟨w.heap.size+2,1,none⟩ (.bool q2)).setCell ⟨w.heap.size+2,2,none⟩ (.int .i64 q3)).setCell ⟨w.heap.size+2,3,none⟩ (.int .i64 q4)).setCell ⟨w.heap.size+2,4,none⟩ (.bool q5)).setCell ⟨w.heap.size+2,5,none⟩ (.int .i64 q6)).setCell ⟨w.heap.size+2,6,none⟩ (.slice a7 n7 c7))=wF at P0 P1 P2 P3 P4 P5 P6 HBS HCF ⊢
  have p0:=P0.out
  have p1:=P1.out
  have p2:=P2.out
  have p3:=P3.out
  have p4:=P4.out
  have p5:=P5.out
  have p6:=P6.out
  refine bodyPost_ret (v:=.agg #[.int .i64 q1,.bool q2,.int .i64 q3,.int .i64 q4,.bool q5,.int .i64 q6,.slice a7 n7 c7]) (by simp[results,Tryz.results66,go_sem,p0,p1,p2,p3,p4,p5,p6]) rfl ?_
  have hF:=HF.out.turn 2 rfl HCF.out HBS.out
  have hR:=HF.out.rowTurn 2 rfl HO.out HCF.out
  rw[HDR.out,HDS.out]
  exact⟨_,rfl,hR,hF.src,hF.chg⟩
 ·rw[HE'.out] at hib
  have hib':(ib:Int)<m1:=by omega
  have hibn:¬((ib:Int)<0):=by omega
  have hibd:decide ((ib:Int)<0)=false:=by simp
  obtain⟨ya,hya,eya⟩:=HII.out.way ia (by rw[HE'.out];exact hil)
  obtain⟨yb,hyb,eyb⟩:=HII.out.way ib (by rw[HE'.out];exact hib)
  rw[HW'.out] at hya hyb
  obtain⟨fa,hfa⟩:∃z,z=(wat N.ways ya).id:=⟨_,rfl⟩
  obtain⟨fb,hfb⟩:∃z,z=(wat N.ways yb).id:=⟨_,rfl⟩
  obtain⟨zn,hzn⟩:∃z,z=iat R.nodes nh:=⟨_,rfl⟩
  have HDR:Hid (drR N R S=⟨0,false,fa,fb,true,zn,[]⟩):=by
   unfold Hid drR
   rw[HD10.out,if_neg HND.out,if_pos hd6,HDB.out,if_neg hibn,HIA.out,HHD.out]
   unfold ewy Tq
   rw[Int.toNat_natCast,Int.toNat_natCast,Int.toNat_natCast,eya,eyb,Int.toNat_natCast,Int.toNat_natCast,hfa,hfb,hzn]
  have HDS:Hid (drS N R S=S3):=by unfold Hid drS;rw[HD10.out,if_neg HND.out,if_pos hd6,HDB.out,if_neg hibn,HDN.out]
  have hya':(ya:Int)<mw:=by omega
  have hyb':(yb:Int)<mw:=by omega
  have hnh':(nh:Int)<s0:=by omega
  have HSM:Hid (∀q S',FR D b w q S' (bl3 w.heap.size #[.slice (some ⟨nb,no,none⟩) m0 t0,.slice (some ⟨wb,wo,none⟩) mw c1,.slice r2 m2 t2,.slice r3 m3 t3,.int .i64 N.uturn] #[.slice (some ⟨rb,ro,none⟩) s0 d0,.slice (some ⟨eb,eo,none⟩) m1 e1,.slice p2 s2 d2,.slice p3 s3 d3])->(λq=>q.cell? ⟨w.heap.size,1,none⟩=some (.slice (some ⟨wb,wo,none⟩) mw c1)/\q.cell? ⟨w.heap.size+1,0,none⟩=some (.slice (some ⟨rb,ro,none⟩) s0 d0)/\q.cell? ⟨w.heap.size+1,1,none⟩=some (.slice (some ⟨eb,eo,none⟩) m1 e1)/\q.cell? ⟨eb,eo+ia*7+3,none⟩=some (.int .i64 (ya:Int))/\q.cell? ⟨eb,eo+ia*7+1,none⟩=some (.int .i64 (nh:Int))/\q.cell? ⟨eb,eo+ib*7+3,none⟩=some (.int .i64 (yb:Int))/\q.cell? ⟨wb,wo+ya*4,none⟩=some (.int .i64 fa)/\q.cell? ⟨wb,wo+yb*4,none⟩=some (.int .i64 fb)/\q.cell? ⟨rb,ro+nh,none⟩=some (.int .i64 zn)) q):=λq S' h=>by
   have k1:=HEC.out q h.chg ia hil
   have k2:=HEC.out q h.chg ib hib
   refine⟨(h.at 0 rfl).blk.cell (i:=1) rfl,(h.at 1 rfl).blk.cell (i:=0) rfl,(h.at 1 rfl).blk.cell (i:=1) rfl,?_,?_,?_,?_,?_,?_⟩
   ·rw[<-eya];exact k1.2.2.2.1
   ·rw[<-hea];exact k1.2.1
   ·rw[<-eyb];exact k2.2.2.2.1
   ·rw[hfa];exact HWC.out q h.chg ya hya
   ·rw[hfb];exact HWC.out q h.chg yb hyb
   ·rw[hzn];exact HNC.out q h.chg nh hnh
  clear hea eya eyb hfa hfb hzn HPV
  go_upto_region 9 with fail
  have H3D:=Q0 (H3.out.next (show Nx w3 w3.drew from(Below.refl _ _).drew))
  have HSS:Hid ((λq=>q.cell? ⟨w.heap.size,1,none⟩=some (.slice (some ⟨wb,wo,none⟩) mw c1)/\q.cell? ⟨w.heap.size+1,0,none⟩=some (.slice (some ⟨rb,ro,none⟩) s0 d0)/\q.cell? ⟨w.heap.size+1,1,none⟩=some (.slice (some ⟨eb,eo,none⟩) m1 e1)/\q.cell? ⟨eb,eo+ia*7+3,none⟩=some (.int .i64 (ya:Int))/\q.cell? ⟨eb,eo+ia*7+1,none⟩=some (.int .i64 (nh:Int))/\q.cell? ⟨eb,eo+ib*7+3,none⟩=some (.int .i64 (yb:Int))/\q.cell? ⟨wb,wo+ya*4,none⟩=some (.int .i64 fa)/\q.cell? ⟨wb,wo+yb*4,none⟩=some (.int .i64 fb)/\q.cell? ⟨rb,ro+nh,none⟩=some (.int .i64 zn)) w3.drew):=HSM.out _ _ H3D.out
  refine(wpIn_wide (n:=9)).1 ?_
  refine Q9 (c:=33) (S:=λq=>q.cell? ⟨w.heap.size,1,none⟩=some (.slice (some ⟨wb,wo,none⟩) mw c1)/\q.cell? ⟨w.heap.size+1,0,none⟩=some (.slice (some ⟨rb,ro,none⟩) s0 d0)/\q.cell? ⟨w.heap.size+1,1,none⟩=some (.slice (some ⟨eb,eo,none⟩) m1 e1)/\q.cell? ⟨eb,eo+ia*7+3,none⟩=some (.int .i64 (ya:Int))/\q.cell? ⟨eb,eo+ia*7+1,none⟩=some (.int .i64 (nh:Int))/\q.cell? ⟨eb,eo+ib*7+3,none⟩=some (.int .i64 (yb:Int))/\q.cell? ⟨wb,wo+ya*4,none⟩=some (.int .i64 fa)/\q.cell? ⟨wb,wo+yb*4,none⟩=some (.int .i64 fb)/\q.cell? ⟨rb,ro+nh,none⟩=some (.int .i64 zn)) hmx (by kernel_rfl) (λhw hcl=>?_)
  generalize w3.drew=wd at *
  refine tq (i:=0) (v:=.pointer (some ⟨w.heap.size,1,none⟩)) (λhcl=>?_)
  refine tq (i:=1) (v:=.slice (some ⟨wb,wo,none⟩) mw c1) (λhcl=>?_)
  refine tq (i:=2) (v:=.pointer (some ⟨w.heap.size+1,1,none⟩)) (λhcl=>?_)
  refine tq (i:=3) (v:=.slice (some ⟨eb,eo,none⟩) m1 e1) (λhcl=>?_)
  refine tq (i:=4) (v:=.int .i64 (ia:Int)) (λhcl=>?_)
  refine tq (i:=5) (v:=.pointer (some ⟨eb,eo+ia*7,none⟩)) (λhcl=>?_)
  refine tq (i:=6) (v:=.pointer (some ⟨eb,eo+ia*7+3,none⟩)) (λhcl=>?_)
  refine tq (i:=7) (v:=.int .i64 (ya:Int)) (λhcl=>?_)
  refine tq (i:=8) (v:=.pointer (some ⟨wb,wo+ya*4,none⟩)) (λhcl=>?_)
  refine tq (i:=9) (v:=.pointer (some ⟨wb,wo+ya*4,none⟩)) (λhcl=>?_)
  refine tq (i:=10) (v:=.int .i64 fa) (λhcl=>?_)
  refine tq (i:=11) (v:=.pointer (some ⟨w.heap.size,1,none⟩)) (λhcl=>?_)
  refine tq (i:=12) (v:=.slice (some ⟨wb,wo,none⟩) mw c1) (λhcl=>?_)
  refine tq (i:=13) (v:=.pointer (some ⟨w.heap.size+1,1,none⟩)) (λhcl=>?_)
  refine tq (i:=14) (v:=.slice (some ⟨eb,eo,none⟩) m1 e1) (λhcl=>?_)
  refine tq (i:=15) (v:=.int .i64 (ib:Int)) (λhcl=>?_)
  refine tq (i:=16) (v:=.pointer (some ⟨eb,eo+ib*7,none⟩)) (λhcl=>?_)
  refine tq (i:=17) (v:=.pointer (some ⟨eb,eo+ib*7+3,none⟩)) (λhcl=>?_)
  refine tq (i:=18) (v:=.int .i64 (yb:Int)) (λhcl=>?_)
  refine tq (i:=19) (v:=.pointer (some ⟨wb,wo+yb*4,none⟩)) (λhcl=>?_)
  refine tq (i:=20) (v:=.pointer (some ⟨wb,wo+yb*4,none⟩)) (λhcl=>?_)
  refine tq (i:=21) (v:=.int .i64 fb) (λhcl=>?_)
  refine tq (i:=22) (v:=.pointer (some ⟨w.heap.size+1,0,none⟩)) (λhcl=>?_)
  refine tq (i:=23) (v:=.slice (some ⟨rb,ro,none⟩) s0 d0) (λhcl=>?_)
  refine tq (i:=24) (v:=.pointer (some ⟨w.heap.size+1,1,none⟩)) (λhcl=>?_)
  refine tq (i:=25) (v:=.slice (some ⟨eb,eo,none⟩) m1 e1) (λhcl=>?_)
  refine tq (i:=26) (v:=.int .i64 (ia:Int)) (λhcl=>?_)
  refine tq (i:=27) (v:=.pointer (some ⟨eb,eo+ia*7,none⟩)) (λhcl=>?_)
  refine tq (i:=28) (v:=.pointer (some ⟨eb,eo+ia*7+1,none⟩)) (λhcl=>?_)
  refine tq (i:=29) (v:=.int .i64 (nh:Int)) (λhcl=>?_)
  refine tq (i:=30) (v:=.pointer (some ⟨rb,ro+nh,none⟩)) (λhcl=>?_)
  refine tq (i:=31) (v:=.int .i64 zn) (λhcl=>?_)
  refine tq (i:=32) (v:=.agg #[.int .i64 0,.bool false,.int .i64 fa,.int .i64 fb,.bool true,.int .i64 zn,.slice none 0 0]) (λhcl=>?_)
  have BR:BT wd (w.heap.size+2) #[.int .i64 0,.bool false,.int .i64 0,.int .i64 0,.bool false,.int .i64 0,.slice none 0 0] 48:=H3D.out.at 2 rfl
  have x0:=BR.blk.cell (i:=0) rfl
  have fz0:=BR.blk.frozen 0
  have x1:=BR.blk.cell (i:=1) rfl
  have fz1:=BR.blk.frozen 1
  have x2:=BR.blk.cell (i:=2) rfl
  have fz2:=BR.blk.frozen 2
  have x3:=BR.blk.cell (i:=3) rfl
  have fz3:=BR.blk.frozen 3
  have x4:=BR.blk.cell (i:=4) rfl
  have fz4:=BR.blk.frozen 4
  have x5:=BR.blk.cell (i:=5) rfl
  have fz5:=BR.blk.frozen 5
  have x6:=BR.blk.cell (i:=6) rfl
  have fz6:=BR.blk.frozen 6
  have BS:=Pw (a0:=.int .i64 0) (a1:=.bool false) (a2:=.int .i64 fa) (a3:=.int .i64 fb) (a4:=.bool true) (a5:=.int .i64 zn) (a6:=.slice none 0 0) BR
  have P0:Hid (_=some (Value.int .i64 0)):=BS.blk.cell (i:=0) rfl
  have P1:Hid (_=some (Value.bool false)):=BS.blk.cell (i:=1) rfl
  have P2:Hid (_=some (Value.int .i64 fa)):=BS.blk.cell (i:=2) rfl
  have P3:Hid (_=some (Value.int .i64 fb)):=BS.blk.cell (i:=3) rfl
  have P4:Hid (_=some (Value.bool true)):=BS.blk.cell (i:=4) rfl
  have P5:Hid (_=some (Value.int .i64 zn)):=BS.blk.cell (i:=5) rfl
  have P6:Hid (_=some (Value.slice none 0 0)):=BS.blk.cell (i:=6) rfl
  have HCF:Hid (Chg (λx=>x=w.heap.size+2) wd (((((((wd.setCell ⟨w.heap.size+2,0,none⟩ (.int .i64 0)).setCell ⟨w.heap.size+2,1,none⟩ (.bool false)).setCell ⟨w.heap.size+2,2,none⟩ (.int .i64 fa)).setCell ⟨w.heap.size+2,3,none⟩ (.int .i64 fb)).setCell ⟨w.heap.size+2,4,none⟩ (.bool true)).setCell ⟨w.heap.size+2,5,none⟩ (.int .i64 zn)).setCell ⟨w.heap.size+2,6,none⟩ (.slice none 0 0))):=Kj
  have HBS:=Q0 BS
  clear BS BR
  refine Qk (i:=33) (by kernel_rfl) (wpOpIn_step rfl (λK hK=>?_))
  go_simp
  refine hK _ _ ⟨Or.inl (by decide),?_⟩
  clear hK K
  refine Qi (by kernel_rfl) ?_ _
  clear hw hcl
  go_wp2
  generalize hWF:(((((((wd.setCell ⟨w.heap.size+2,0,none⟩ (.int .i64 0)).setCell ⟨w.heap.size+2,1,none⟩ (.bool false)).setCell ⟨w.heap.size+2,2,none⟩ (.int .i64 fa)).setCell ⟨w.heap.size+2,3,none⟩ (.int .i64 fb)).setCell ⟨w.heap.size+2,4,none⟩ (.bool true)).setCell ⟨w.heap.size+2,5,none⟩ (.int .i64 zn)).setCell ⟨w.heap.size+2,6,none⟩ (.slice none 0 0))=wF at P0 P1 P2 P3 P4 P5 P6 HBS HCF ⊢
  have p0:=P0.out
  have p1:=P1.out
  have p2:=P2.out
  have p3:=P3.out
  have p4:=P4.out
  have p5:=P5.out
  have p6:=P6.out
  refine bodyPost_ret (v:=.agg #[.int .i64 0,.bool false,.int .i64 fa,.int .i64 fb,.bool true,.int .i64 zn,.slice none 0 0]) (by simp[results,Tryz.results66,go_sem,p0,p1,p2,p3,p4,p5,p6]) rfl ?_
  have hF:=H3D.out.turn 2 rfl HCF.out HBS.out
  have hR:=H3D.out.rowTurn 2 rfl (show Qb w.heap.size wd (.slice none 0 0) [] from⟨rfl,Or.inl ⟨rfl,rfl⟩⟩) HCF.out
  rw[HDR.out,HDS.out]
  exact⟨_,rfl,hR,hF.src,hF.chg⟩
end Go.Proofs.YtmmolhlihhdkcaaGreatDoor
