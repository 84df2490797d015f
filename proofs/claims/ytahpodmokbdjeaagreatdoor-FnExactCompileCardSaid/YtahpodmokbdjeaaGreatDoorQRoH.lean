import Derived.Test.YtahpodmokbdjeaaGreatDoorQRoE
namespace Go.Proofs.YtahpodmokbdjeaaGreatDoor
open Go.RowKit Tryz
set_option linter.unusedVariables false
set_option maxRecDepth 1000000
set_option maxHeartbeats 16000000
theorem Q2d (B0:Nat)(v0 v1 v2 v3:Value)(N:Nt)(w:World)(h0:Ye B0 w v0 v1 v2 v3 N)(hs:wsum N.ways N.ways.length<=1048576)(hv:Qe N=true) :
  Calls prog 77 #[.agg #[v0,v1,v2,v3,iV N.uturn]] w λe w'=>(∃v',e=.returned v'/\Vc w.heap.size w' v' (E1 N))/\Nx w w':=by
 obtain⟨ii,hi,hz0,hz1,hz2⟩:=info_parts Q4t
 have HN:Z (Ua N):=Jz hv
 have HS:Z (wsum N.ways N.ways.length<=1048576):=hs
 clear hv hs
 obtain⟨i0,i1,i2,i3⟩:=h0
 have HI0:Z (Q8 B0 w v0 N.nodes):=i0
 have HI1:Z (Jy B0 w v1 N.ways):=i1
 obtain⟨a1,c1,rfl,hn1,hk1⟩:=i1
 unfold maxLen at hn1
 clear i0 i2 i3
 have hed:=HN.o.ed
 generalize hm1:N.ways.length=m1 at *
 have HM1:Z (N.ways.length=m1):=hm1
 clear hm1
 have hmk:∀(w:World) (n:Nat),n<=4000->(Instr.makeSlice 50 (iV 0) (iV (n:Int))).run prog w=.ok (sL (sA w.heap.size) 0 n) (w.alloc (.cells (madeCells (Value.agg #[iV 0,iV 0,iV 0,iV 0,iV 0,.bool false,iV 0]).cells (n*7)) 75)):=by
  intro w n hn
  have hr:=run_make (P:=prog) w 50 75 ii _ underlying50 hi hz0 .i64 .i64 0 n (by omega) (by omega) (by rw[hz2];omega) (by omega)
  simpa [hz1] using hr
 go_enter func77,ntmps77
 go_wp2_with fail
 refine(P5 B0 _ _ _ _ _ N.ways _ (by exact HI1.o.keep ((Q4 _ _).keeps B0)) (by rw[HM1.o];exact HS.o)).mono ?_
 rintro e w1 ⟨rfl,hx⟩
 have BA:Ux w1 w.heap.size #[v0,sL a1 m1 c1,v2,v3,iV N.uturn]:=(Ux.new w _ 38 _ (by decide) rfl).keep (B:=w.heap.size) (Ge.of_nx hx (by simp))
 have HX1:Z (Nx w w1):=(Q4 _ _).trans hx
 clear hx
 rw[HM1.o]
 have hmk1:=hmk w1 (edTo N.ways m1) hed
 have kk0:=BA.c 1 rfl
 have hsz1:=BA.blk.lt
 have HE:Z (edTo N.ways m1<=4000):=hed
 have HO0:Z (Vc w.heap.size (w1.alloc (.cells (madeCells (Value.agg #[iV 0,iV 0,iV 0,iV 0,iV 0,.bool false,iV 0]).cells (edTo N.ways m1*7)) 75)) (sL (sA w1.heap.size) 0 (edTo N.ways m1)) []):=
  Q0x _ _ _ _ HX1.o.size (by unfold maxLen;omega) (size_madeCells _ _)
 generalize hE:edTo N.ways m1=E at *
 clear hmk hE
 go_wp2
 clear kk0
 go_loopw [3,4,5,6,7,8,9,10,17] (λes p4 p5 p6 p7 p8 p9 p10 i wr=>∃k:Nat,k<=m1/\i=iV k/\Z (Vc w.heap.size wr es (lay (sg1 N) (nsN N) k))/\Z (Ge w.heap.size w1 wr)) (λ_ _ _ _ _ _ _ _ i _=>m1-(intOf i).toNat)
 case atStart=>exact⟨0,nZ,rfl,HO0,(Ge.refl _ _).alloc HX1.o.size _⟩
 clear HO0 hmk1
 obtain⟨k,hkn,rfl,HO,HG⟩:=hrel
 have HGA:Z (Ge w.heap.size w wr):=(Ge.of_nx HX1.o lR).trans HG.o
 have HB:Z (w.heap.size<=wr.heap.size):=HGA.o.1.size
 by_cases hlt:k<m1
 ·obtain⟨b,off,rfl,hB,hb,hc⟩:=hk1 (by omega)
  obtain⟨p1,p2,d0,d1,d2,d3,n1,n2⟩:=hc k hlt
  have HM2:Z (Q8 B0 w p1 (wat N.ways k).nodes):=n1
  have HM3:Z (Q8 B0 w p2 (wat N.ways k).weights):=n2
  have HWL:Z ((wat N.ways k).nodes.length=(wat N.ways k).weights.length+1):=HN.o.len k (by rw[HM1.o];exact hlt)
  have HWS:Z ((wat N.ways k).weights.length<=100):=HN.o.seg k (by rw[HM1.o];exact hlt)
  have HWH:Z (∀j,j<(wat N.ways k).nodes.length->Vs N.nodes (iat (wat N.ways k).nodes j)=true):=λj hj=>HN.o.has k j (by rw[HM1.o];exact hlt) hj
  have HLE:Z (∀q,q<=(wat N.ways k).weights.length->(Xi (sg1 N) k (lay (sg1 N) (nsN N) k) q).length<=4000):=λq hq=>Q7k HN.o (by rw[HM1.o];exact hlt) hq
  have HLS:Z (lay (sg1 N) (nsN N) (k+1)=Xi (sg1 N) k (lay (sg1 N) (nsN N) k) (wat N.ways k).weights.length):=rfl
  have HSG:Z (∀o j,sg1 N k o j=if (wat N.ways k).both then [fwd N k j ((o:Int)+1),bwd N k j o] else [fwd N k j (-1)]):=λo j=>rfl
  have HFW:Z (∀j t,fwd N k j t=⟨pos N.nodes (iat (wat N.ways k).nodes j),pos N.nodes (iat (wat N.ways k).nodes (j+1)),iat (wat N.ways k).weights j,k,j,false,t⟩):=λj t=>rfl
  have HBW:Z (∀j t,bwd N k j t=⟨pos N.nodes (iat (wat N.ways k).nodes (j+1)),pos N.nodes (iat (wat N.ways k).nodes j),iat (wat N.ways k).weights j,k,j,true,t⟩):=λj t=>rfl
  obtain⟨an,cn,rfl,_⟩:=n1.slice
  obtain⟨aw,cw,rfl,_⟩:=n2.slice
  have d0:=Q0 HGA.o.1 hb d0
  have d1:=Q0 HGA.o.1 hb d1
  have d2:=Q0 HGA.o.1 hb d2
  have d3:=Q0 HGA.o.1 hb d3
  have hlt':(k:Int)<m1:=by omega
  have hbr:b<wr.heap.size:=zK hb HB.o
  generalize hxx:wat N.ways k=x at *
  generalize hq1:x.nodes.length=q1 at *
  generalize hq2:x.weights.length=q2 at *
  clear hc hk1 n1 n2 hxx hq1 hq2
  have HBX:Z (Ux (wr.alloc (.cells #[iV x.id,.bool x.both,sL an q1 cn,sL aw q2 cw] 108)) wr.heap.size #[iV x.id,.bool x.both,sL an q1 cn,sL aw q2 cw]):=Ux.new _ _ _ _ (by decide) rfl
  have HBN:Z (Ux wr w.heap.size #[v0,sL (some (aD b off)) m1 c1,v2,v3,iV N.uturn]):=BA.keep HG.o
  go_wp2
  clear d0 d1 d2 d3
  rename World=>wo
  go_loopw [3,6,7,8,9,10,25] (λes p6 p7 p8 p9 p10 j wi=>∃q:Nat,q<=q2/\j=iV q/\Z (Vc w.heap.size wi es (Xi (sg1 N) k (lay (sg1 N) (nsN N) k) q))/\Z (Ge w.heap.size (wo.alloc (.cells #[iV x.id,.bool x.both,sL an q1 cn,sL aw q2 cw] 108)) wi)) (λ_ _ _ _ _ _ j _=>q2-(intOf j).toNat)
  case atStart=>exact⟨0,nZ,rfl,HO.o.alloc _,Ge.refl _ _⟩
  obtain⟨q,hqn,rfl,HOI,HGI⟩:=hrel
  have HGI2:Z (Ge w.heap.size w wr):=(HGA.o.alloc HB.o _).trans HGI.o
  have HBI:Z (w.heap.size<=wr.heap.size):=HGI2.o.1.size
  have BNI:=(HBN.o.keep (B:=w.heap.size) ((Ge.refl _ _).alloc HB.o _)).keep HGI.o
  have BXI:=HBX.o.keep HGI.o
  by_cases hjl:q<q2
  ·obtain⟨bw,ow,haw,hbw,cw0⟩:=Yu HM3.o HGI2.o.1 (i:=q) hjl
   subst haw
   obtain⟨bn,on,han,hbn,cn0⟩:=Yu HM2.o HGI2.o.1 (i:=q) (by have:=HWL.o;omega)
   subst han
   obtain⟨bn',on',han',_,cn1⟩:=Yu HM2.o HGI2.o.1 (i:=q+1) (by have:=HWL.o;omega)
   simp only[Option.some.injEq,Addr.mk.injEq] at han'
   obtain⟨e1,e2,_⟩:=han'
   rw[<-e1,<-e2] at cn1
   clear e1 e2
   obtain⟨ae,ce,hes,_⟩:=HOI.o.slice
   subst hes
   have hlen:=HLE.o q hqn
   have HH0:Z (Vs N.nodes (iat x.nodes q)=true):=HWH.o q (by have:=HWL.o;omega)
   have HH1:Z (Vs N.nodes (iat x.nodes (q+1))=true):=HWH.o (q+1) (by have:=HWL.o;omega)
   have HID:Z (Q8 B0 wr.drew v0 N.nodes):=HI0.o.next HGI2.o.1.drew
   have hx1:=BXI.c 1 rfl
   have hx2:=BXI.c 2 rfl
   have hx3:=BXI.c 3 rfl
   have N0:=BNI.c 0 rfl
   have N1:=BNI.c 1 rfl
   have N2:=BNI.c 2 rfl
   have N3:=BNI.c 3 rfl
   have N4:=BNI.c 4 rfl
   have HNB:Z (w.heap.size<wr.heap.size):=BNI.blk.lt
   have HXB:Z (wo.heap.size<wr.heap.size):=BXI.blk.lt
   have HNW:Z (bn<wr.heap.size):=zK hbn HBI.o
   have HX1':Z (wr.cell? (aD wo.heap.size 1)=some (.bool x.both)):=hx1
   have HC:Z ((wr.cell? (aD w.heap.size 0)=some v0/\wr.cell? (aD w.heap.size 1)=some (sL (some (aD b off)) m1 c1)/\wr.cell? (aD w.heap.size 2)=some v2/\wr.cell? (aD w.heap.size 3)=some v3/\wr.cell? (aD w.heap.size 4)=some (iV N.uturn))/\wr.cell? (aD wo.heap.size 2)=some (sL (some (aD bn on)) q1 cn)/\wr.cell? (aD bn (on+q))=some (iV (iat x.nodes q))/\wr.cell? (aD bn (on+(q+1)))=some (iV (iat x.nodes (q+1)))):=⟨⟨N0,N1,N2,N3,N4⟩,hx2,cn0,cn1⟩
   generalize hL:(Xi (sg1 N) k (lay (sg1 N) (nsN N) k) q).length=L at *
   have HL:Z ((Xi (sg1 N) k (lay (sg1 N) (nsN N) k) q).length=L):=hL
   have hjl':(q:Int)<q2:=by omega
   have hjl1:(q:Int)<q1:=by have:=HWL.o;omega
   have hjl2:(q:Int)+1<q1:=by have:=HWL.o;omega
   have hq100:q2<=100:=HWS.o
   have hwr:IntKind.i64.wrap ((q:Int)+1)=(q:Int)+1:=by rw[IntKind.wrap_i64];omega
   have hwn:((q:Int)+1).toNat=q+1:=by omega
   have hwm:¬(q:Int)+1<0:=by omega
   have hw0:(0:Int)<=(q:Int)+1:=by omega
   have hw9:(0:Int)<=(q:Int):=by omega
   have nr0:=World.new_ne wr _ N0
   have nr5:=World.new_ne wr _ hx2
   have nr6:=World.new_ne wr _ cn0
   clear hL HLE BNI BXI
   go_upto_region 9 with fail
   go_cut [9,25] from 25 to 76 (λs9 s25 wc=>∃gf,s9=pT gf/\s25=iV q/\Z (Nx wr wc)/\Z (wr.heap.size<=gf)/\Z (FB wc gf ⟨pos N.nodes (iat x.nodes q),pos N.nodes (iat x.nodes (q+1)),iat x.weights q,k,q,false,-1⟩))
   case first=>
    go_region_held3 (λw'=>w'.cell? (aD w.heap.size 0)=some v0/\w'.cell? (aD w.heap.size 1)=some (sL (some (aD b off)) m1 c1)/\w'.cell? (aD w.heap.size 2)=some v2/\w'.cell? (aD w.heap.size 3)=some v3/\w'.cell? (aD w.heap.size 4)=some (iV N.uturn)/\w'.cell? (aD wo.heap.size 2)=some (sL (some (aD bn on)) q1 cn)/\w'.cell? (aD bn (on+q))=some (iV (iat x.nodes q))/\w'.cell? (aD bn (on+(q+1)))=some (iV (iat x.nodes (q+1)))) (go_keep) (first
     |(go_at_call 119;refine(Yf B0 _ _ _ _ _ _ N.nodes _ (by with_reducible exact HID.o.next hxa) HN.o.asc (by first|exact HH0.o|exact HH1.o)).mono ?_;rintro e wb ⟨rfl,hxb⟩;have hxc:=hxa.trans hxb;have BF2:=BF1.next hxb;have g0:=BF2.c 0 rfl;have g1:=BF2.c 1 rfl;have g2:=BF2.c 2 rfl;have g3:=BF2.c 3 rfl;have g4:=BF2.c 4 rfl;have g5:=BF2.c 5 rfl;have g6:=BF2.c 6 rfl;have z0:=BF2.frozen 0;have z1:=BF2.frozen 1;have z2:=BF2.frozen 2;have z3:=BF2.frozen 3;have z4:=BF2.frozen 4;have z5:=BF2.frozen 5;have z6:=BF2.frozen 6;have t0:=Q0 hxc HNB.o HC.o.1.1;have t1:=Q0 hxc HNB.o HC.o.1.2.1;have t2:=Q0 hxc HNB.o HC.o.1.2.2.1;have t3:=Q0 hxc HNB.o HC.o.1.2.2.2.1;have t4:=Q0 hxc HNB.o HC.o.1.2.2.2.2;have t5:=Q0 hxc HXB.o HC.o.2.1;have t6:=Q0 hxc HNW.o HC.o.2.2.1;have t7:=Q0 hxc HNW.o HC.o.2.2.2;have nn0:=World.new_ne wb _ t0;have nn5:=World.new_ne wb _ t5;have nn6:=World.new_ne wb _ t6)
     |(go_at_call 119;refine(Yf B0 _ _ _ _ _ _ N.nodes _ (by with_reducible exact HID.o.next hxa) HN.o.asc (by first|exact HH0.o|exact HH1.o)).mono ?_;rintro e wb ⟨rfl,hxb⟩;have hxc:=hxa.trans hxb;have t0:=Q0 hxc HNB.o HC.o.1.1;have t1:=Q0 hxc HNB.o HC.o.1.2.1;have t2:=Q0 hxc HNB.o HC.o.1.2.2.1;have t3:=Q0 hxc HNB.o HC.o.1.2.2.2.1;have t4:=Q0 hxc HNB.o HC.o.1.2.2.2.2;have t5:=Q0 hxc HXB.o HC.o.2.1;have t6:=Q0 hxc HNW.o HC.o.2.2.1;have t7:=Q0 hxc HNW.o HC.o.2.2.2;have nn0:=World.new_ne wb _ t0;have nn5:=World.new_ne wb _ t5;have nn6:=World.new_ne wb _ t6)
     |(go_at_call 119;refine(Yf B0 _ _ _ _ _ _ N.nodes _ (by with_reducible exact HID.o.next (hxa.alloc _)) HN.o.asc (by first|exact HH0.o|exact HH1.o)).mono ?_;rintro e wb ⟨rfl,hxb⟩;have hxc:=(hxa.alloc _).trans hxb;have BF2:=(Blk.new wa _ 75 wa.heap.size rfl).next hxb;have g0:=BF2.c 0 rfl;have g1:=BF2.c 1 rfl;have g2:=BF2.c 2 rfl;have g3:=BF2.c 3 rfl;have g4:=BF2.c 4 rfl;have g5:=BF2.c 5 rfl;have g6:=BF2.c 6 rfl;have z0:=BF2.frozen 0;have z1:=BF2.frozen 1;have z2:=BF2.frozen 2;have z3:=BF2.frozen 3;have z4:=BF2.frozen 4;have z5:=BF2.frozen 5;have z6:=BF2.frozen 6;have t0:=Q0 hxc HNB.o HC.o.1.1;have t1:=Q0 hxc HNB.o HC.o.1.2.1;have t2:=Q0 hxc HNB.o HC.o.1.2.2.1;have t3:=Q0 hxc HNB.o HC.o.1.2.2.2.1;have t4:=Q0 hxc HNB.o HC.o.1.2.2.2.2;have t5:=Q0 hxc HXB.o HC.o.2.1;have t6:=Q0 hxc HNW.o HC.o.2.2.1;have t7:=Q0 hxc HNW.o HC.o.2.2.2;have nn0:=World.new_ne wb _ t0;have nn5:=World.new_ne wb _ t5;have nn6:=World.new_ne wb _ t6)
     |(go_at_call 119;refine(Yf B0 _ _ _ _ _ _ N.nodes _ (by with_reducible exact HID.o) HN.o.asc (by first|exact HH0.o|exact HH1.o)).mono ?_;rintro e wa ⟨rfl,hxa⟩;have s0:=Q0 hxa HNB.o HC.o.1.1;have s1:=Q0 hxa HNB.o HC.o.1.2.1;have s2:=Q0 hxa HNB.o HC.o.1.2.2.1;have s3:=Q0 hxa HNB.o HC.o.1.2.2.2.1;have s4:=Q0 hxa HNB.o HC.o.1.2.2.2.2;have s5:=Q0 hxa HXB.o HC.o.2.1;have s6:=Q0 hxa HNW.o HC.o.2.2.1;have s7:=Q0 hxa HNW.o HC.o.2.2.2;have na0:=World.new_ne wa _ s0;have na5:=World.new_ne wa _ s5;have na6:=World.new_ne wa _ s6)
     |(go_at_call 119;refine(Yf B0 _ _ _ _ _ _ N.nodes _ (by with_reducible exact HID.o.next (Q4 _ _)) HN.o.asc (by first|exact HH0.o|exact HH1.o)).mono ?_;rintro e wa ⟨rfl,hxa0⟩;have hxa:=(Q4 wr.drew _).trans hxa0;have BF1:=(Blk.new wr.drew _ 75 wr.heap.size rfl).next hxa0;have s0:=Q0 hxa HNB.o HC.o.1.1;have s1:=Q0 hxa HNB.o HC.o.1.2.1;have s2:=Q0 hxa HNB.o HC.o.1.2.2.1;have s3:=Q0 hxa HNB.o HC.o.1.2.2.2.1;have s4:=Q0 hxa HNB.o HC.o.1.2.2.2.2;have s5:=Q0 hxa HXB.o HC.o.2.1;have s6:=Q0 hxa HNW.o HC.o.2.2.1;have s7:=Q0 hxa HNW.o HC.o.2.2.2;have na0:=World.new_ne wa _ s0;have na5:=World.new_ne wa _ s5;have na6:=World.new_ne wa _ s6))
    all_goals go_wp2
    all_goals go_meet
    all_goals first
     |(have hb1:=BF1;exact⟨_,rfl,rfl,Q43 (g:=wr.heap.size) (Nx.trans (Nx.refl wr).drew hxc) lR _ _ _ _ _ _ _,lR,Q55 BF2 rfl ⟨pos N.nodes (iat x.nodes q),pos N.nodes (iat x.nodes (q+1)),iat x.weights q,k,q,false,-1⟩⟩)
     |(have hb2:=BF2;exact⟨_,rfl,rfl,Q43 (g:=wa.heap.size) (Nx.trans (Nx.refl wr).drew hxc) hxa.size _ _ _ _ _ _ _,hxa.size,Q55 BF2 rfl ⟨pos N.nodes (iat x.nodes q),pos N.nodes (iat x.nodes (q+1)),iat x.weights q,k,q,false,-1⟩⟩)
     |exact⟨_,rfl,rfl,Nx.alloc (Nx.trans (Nx.refl wr).drew hxc) _,hxc.size,⟨_,Blk.new _ _ 75 _ rfl,rfl⟩⟩
   case rest=>
    obtain⟨gf,rfl,rfl,HNX,HGF,HFB⟩:=hcut
    have HGC:Z (Ge w.heap.size w wc):=HGI2.o.trans (Ge.of_nx HNX.o HBI.o)
    have HGCI:Z (Ge w.heap.size (wo.alloc (.cells #[iV x.id,.bool x.both,sL (some (aD bn on)) q1 cn,sL (some (aD bw ow)) q2 cw] 108)) wc):=HGI.o.trans (Ge.of_nx HNX.o HBI.o)
    have HOC:Z (Vc w.heap.size wc (sL ae L ce) (Xi (sg1 N) k (lay (sg1 N) (nsN N) k) q)):=HOI.o.next HNX.o
    have HNY:Z (∀a b:Obj,Nx wr ((((wc.setCell (aD gf 6) (iV ((L:Int)+1))).alloc a).alloc b).drew)):=λa b=>Nx.drew (Nx.alloc (Nx.alloc (Below.setCell HNX.o HGF.o _) _) _)
    have HOX:Z (∀a b:Obj,Vc w.heap.size ((((wc.setCell (aD gf 6) (iV ((L:Int)+1))).alloc a).alloc b).drew) (sL ae L ce) (Xi (sg1 N) k (lay (sg1 N) (nsN N) k) q)):=λa b=>HOI.o.next (HNY.o a b)
    have HGX:Z (∀a b:Obj,Ge w.heap.size (wo.alloc (.cells #[iV x.id,.bool x.both,sL (some (aD bn on)) q1 cn,sL (some (aD bw ow)) q2 cw] 108)) ((((wc.setCell (aD gf 6) (iV ((L:Int)+1))).alloc a).alloc b).drew)):=λa b=>HGI.o.trans (Ge.of_nx (HNY.o a b) HBI.o)
    have HZX:Z (∀a b:Obj,w.heap.size<=((((wc.setCell (aD gf 6) (iV ((L:Int)+1))).alloc a).alloc b).drew).heap.size):=λa b=>zP HBI.o (HNY.o a b).size
    have HBC:Z (w.heap.size<=wc.heap.size):=HGC.o.1.size
    have bx:=Q0 HNX.o HXB.o HX1'.o
    have F0:=HFB.o.c 0 rfl
    have F1':=HFB.o.c 1 rfl
    have F2':=HFB.o.c 2 rfl
    have F3':=HFB.o.c 3 rfl
    have F4:=HFB.o.c 4 rfl
    have F5:=HFB.o.c 5 rfl
    have F6:=HFB.o.c 6 rfl
    have fz6:=HFB.o.frozen 6
    have hgl:=HFB.o.lt
    have HSQ:Z (Xi (sg1 N) k (lay (sg1 N) (nsN N) k) (q+1)=Xi (sg1 N) k (lay (sg1 N) (nsN N) k) q++sg1 N k L q):=by unfold Z;rw[Q0i,HL.o]
    clear cw0 cn0 cn1 hx1 hx2 hx3 N0 N1 N2 N3 N4 nr0 nr5 nr6 HC HX1' HH0 HH1 HID HNB HXB HNW HGI2 HBI HOI HGI
    generalize hA:(pos N.nodes (iat x.nodes q):Int)=A at *
    generalize hBB:(pos N.nodes (iat x.nodes (q+1)):Int)=BB at *
    generalize hWW:iat x.weights q=WW at *
    have HA:Z ((pos N.nodes (iat x.nodes q):Int)=A/\(pos N.nodes (iat x.nodes (q+1)):Int)=BB/\iat x.weights q=WW):=⟨hA,hBB,hWW⟩
    clear hA hBB hWW
    have HF1:Z (∀t,fwd N k q t=⟨A,BB,WW,k,q,false,t⟩):=λt=>by rw[HFW.o,HA.o.1,HA.o.2.1,HA.o.2.2]
    have HB1:Z (∀t,bwd N k q t=⟨BB,A,WW,k,q,true,t⟩):=λt=>by rw[HBW.o,HA.o.1,HA.o.2.1,HA.o.2.2]
    clear HFB HFW HBW HA
    by_cases hbo:x.both=true
    ·rw[hbo] at bx
     have HBO:Z (x.both=true):=hbo
     clear hbo
     have HSS:Z (sg1 N k L q=[⟨A,BB,WW,k,q,false,(L:Int)+1⟩,⟨BB,A,WW,k,q,true,L⟩]):=by unfold Z;rw[HSG.o,HBO.o,if_pos rfl,HF1.o,HB1.o]
     have hwL:IntKind.i64.wrap ((L:Int)+1)=(L:Int)+1:=by rw[IntKind.wrap_i64];omega
     have hng:=World.new_ne wc _ F0
     clear HSG HF1 HB1
     go_upto_region 13 with fail
     go_cut [9,10,25] from 25 to 76 (λs9 s10 s25 wx=>s9=pT gf/\s10=pT wc.heap.size/\s25=iV q/\wx=(wc.alloc (.cells #[iV BB,iV A,iV WW,iV k,iV q,.bool false,iV (-1)] 75)).drew)
     case first=>
      go_region_with (fail)
      all_goals go_wp2
      all_goals go_meet
      all_goals exact⟨rfl,rfl,rfl,rfl⟩
     case rest=>
      obtain⟨rfl,rfl,rfl,rfl⟩:=hcut
      go_wp2_with (at_builtin;refine wpList_append_own _ rfl _ _ 50 rfl w.heap.size 75 ii (.agg #[iV 0,iV 0,iV 0,iV 0,iV 0,.bool false,iV 0]) 7 56 underlying50 hi hz0 hz1 hz2 rfl (by decide) _ _ _ rfl (HOX.o _ _) (aD (wc.heap.size+1) 0) 2 2 (Vg ⟨A,BB,WW,k,q,false,(L:Int)+1⟩++Vg ⟨BB,A,WW,k,q,true,L⟩) rfl rfl ?e1 ?e2 ?e3 ?e4 ?e5 ?_)
      case e1=>exact λj u hj=>hj
      case e2=>
       intro u hu
       rcases hu with h|h
       ·exact Up _ u h
       ·exact Up _ u h
      case e3=>have:=HL.o;unfold maxLen;omega
      case e4=>have:=HL.o;omega
      case e5=>have:=HBC.o;omega
      intro v7 w7 hown' hgrow _
      have HV7:Z (Vc w.heap.size w7 v7 (Xi (sg1 N) k (lay (sg1 N) (nsN N) k) (q+1))):=by rw[HSQ.o,HSS.o];exact Vc.two hown'
      have HG7:Z (Ge w.heap.size (wo.alloc (.cells #[iV x.id,.bool x.both,sL (some (aD bn on)) q1 cn,sL (some (aD bw ow)) q2 cw] 108)) w7):=(HGX.o _ _).grown (HOX.o _ _) hgrow (HZX.o _ _)
      clear hown' hgrow
      go_wp2
      go_roundw
      case rel=>exact⟨q+1,by omega,by go_num,HV7,HG7⟩
      case measure=>simp[intOf];omega
    have hbf:x.both=false:=by simpa using hbo
    rw[hbf] at bx
    have HBO:Z (x.both=false):=hbf
    clear hbo hbf
    ·skip
     have HSS:Z (sg1 N k L q=[⟨A,BB,WW,k,q,false,-1⟩]):=by unfold Z;rw[HSG.o,HBO.o,if_neg (by decide),HF1.o]
     clear HSG HF1 HB1
     go_wp2_with (at_builtin;refine wpList_append_own _ rfl _ _ 50 rfl w.heap.size 75 ii (.agg #[iV 0,iV 0,iV 0,iV 0,iV 0,.bool false,iV 0]) 7 56 underlying50 hi hz0 hz1 hz2 rfl (by decide) _ _ _ rfl (HOC.o.alloc _) (aD wc.heap.size 0) 1 1 (Vg ⟨A,BB,WW,k,q,false,-1⟩) rfl rfl ?c1 ?c2 ?c3 ?c4 ?c5 ?_)
     case c1=>exact λj u hj=>hj
     case c2=>exact Up _
     case c3=>have:=HL.o;unfold maxLen;omega
     case c4=>have:=HL.o;omega
     case c5=>have:=HBC.o;simp;omega
     intro v7 w7 hown' hgrow _
     have HV7:Z (Vc w.heap.size w7 v7 (Xi (sg1 N) k (lay (sg1 N) (nsN N) k) (q+1))):=by rw[HSQ.o,HSS.o];exact Vc.one hown'
     have HG7:Z (Ge w.heap.size (wo.alloc (.cells #[iV x.id,.bool x.both,sL (some (aD bn on)) q1 cn,sL (some (aD bw ow)) q2 cw] 108)) w7):=(HGCI.o.alloc HBC.o _).grown (HOC.o.alloc _) hgrow (by have:=HBC.o;simp;omega)
     clear hown' hgrow
     go_wp2
     go_roundw
     case rel=>exact⟨q+1,by omega,by go_num,HV7,HG7⟩
     case measure=>simp[intOf];omega
  have eq:q2=q:=by omega
  subst eq
  have HO':Z (Vc w.heap.size wr u3 (lay (sg1 N) (nsN N) (k+1))):=by rw[HLS.o];exact HOI.o
  have HG':Z (Ge w.heap.size w1 wr):=(HG.o.alloc HB.o _).trans HGI.o
  go_wp2
  go_roundw
  case rel=>exact⟨k+1,by omega,by go_num,HO',HG'⟩
  case measure=>simp[intOf];omega
 have e:m1=k:=by omega
 subst e
 go_wp2
 go_ret
 exact⟨⟨_,rfl,by unfold E1;rw[HM1.o];exact HO.o⟩,HGA.o.1⟩
end Go.Proofs.YtahpodmokbdjeaaGreatDoor
