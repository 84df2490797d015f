import Derived.Test.YtmmolhlihhdkcaaGreatDoorBKJ
namespace Go.Proofs.YtmmolhlihhdkcaaGreatDoor
open Go.RowKit Go.Sort
set_option linter.unusedVariables false
set_option maxRecDepth 1000000
set_option maxHeartbeats 16000000
theorem Jb {p:Prop}(h:p):Hid p:=h
theorem Tg (B B':Nat)(v v':Value)(zs:List Int)(w:World)(h0:Qr B w v zs)(h1:Qr B' w v' zs) :
  Calls Tryz.prog 32 #[v,v'] w λe w'=>e=.returned (.bool true)/\Nx w w':=by
 obtain⟨a,cap,rfl,hn,hk⟩:=h0
 obtain⟨a',cap',rfl,hn',hk'⟩:=h1
 unfold maxLen at hn hn'
 generalize zs.length=n at *
 have hd:((n:Int) !=(n:Int))=false:=by simp
 go_enter Tryz.func32,Tryz.ntmps32
 go_wp2
 go_loopw [5] (λi wr=>∃k:Nat,k<=n/\i=.int .i64 k/\Hid (Nx w wr)) (λi _=>n-(intOf i).toNat)
 case atStart=>exact⟨0,Nat.zero_le _,rfl,Nx.refl _⟩
 obtain⟨k,hkn,rfl,HN⟩:=hrel
 by_cases hlt:k<n
 ·obtain⟨b,off,rfl,hB,hb,hc⟩:=hk (by omega)
  obtain⟨b',off',rfl,hB',hb',hc'⟩:=hk' (by omega)
  have c0:=Q1 HN.out hb (hc k hlt)
  have c1:=Q1 HN.out hb' (hc' k hlt)
  have hlt':(k:Int)<n:=by omega
  have he':(iat zs k !=iat zs k)=false:=by simp
  clear hc hk hc' hk'
  generalize iat zs k=zk at *
  go_wp2
  go_quiet (fail)
  go_wp2
  go_roundw
  case rel=>exact⟨k+1,by omega,by go_num,HN.out.trans ⟨rfl,rfl,rfl,Nat.le_refl _,λ_ _=>rfl⟩⟩
  case measure=>simp[intOf];omega
 ·go_wp2
  go_ret
  exact⟨rfl,HN.out⟩
theorem Q0m (C D:Nat)(v0 v1 v2 v3 u0 u1 u2 u3:Value)(N:Nt)(w:World)(h0:Yf C w v0 v1 v2 v3 N)(h1:Yf D w u0 u1 u2 u3 N) :
  Calls Tryz.prog 10 #[.agg #[v0,v1,v2,v3,.int .i64 N.uturn],.agg #[u0,u1,u2,u3,.int .i64 N.uturn]] w λe w'=>e=.returned (.bool true)/\Nx w w':=by
 obtain⟨i0,i1,i2,i3⟩:=h0
 obtain⟨j0,j1,j2,j3⟩:=h1
 have HI0:=Jb i0
 have HJ0:=Jb j0
 obtain⟨x0,y0,rfl,m0,-⟩:=i0
 obtain⟨z0,t0,rfl,-,-⟩:=j0
 obtain⟨x1,y1,rfl,m1,hk1⟩:=i1
 obtain⟨z1,t1,rfl,-,hl1⟩:=j1
 obtain⟨x2,y2,rfl,m2,hk2⟩:=i2
 obtain⟨z2,t2,rfl,-,hl2⟩:=j2
 obtain⟨x3,y3,rfl,m3,hk3⟩:=i3
 obtain⟨z3,t3,rfl,-,hl3⟩:=j3
 unfold maxLen at m0 m1 m2 m3
 generalize hn0:N.nodes.length=n0 at *
 generalize hn1:N.ways.length=n1 at *
 generalize hn2:N.rels.length=n2 at *
 generalize hn3:N.turns.length=n3 at *
 generalize N.uturn=u at *
 have HK1:=Jb hk1
 have HL1:=Jb hl1
 have HK2:=Jb hk2
 have HL2:=Jb hl2
 have HK3:=Jb hk3
 have HL3:=Jb hl3
 have q1:((n1:Int) !=(n1:Int))=false:=by simp
 have q2:((n2:Int) !=(n2:Int))=false:=by simp
 have q3:((n3:Int) !=(n3:Int))=false:=by simp
 have q4:(u !=u)=false:=by simp
 have HBA:Hid (BT ((w.alloc (.cells #[.slice x0 n0 y0,.slice x1 n1 y1,.slice x2 n2 y2,.slice x3 n3 y3,.int .i64 u] 28)).alloc (.cells #[.slice z0 n0 t0,.slice z1 n1 t1,.slice z2 n2 t2,.slice z3 n3 t3,.int .i64 u] 28)) w.heap.size #[.slice x0 n0 y0,.slice x1 n1 y1,.slice x2 n2 y2,.slice x3 n3 y3,.int .i64 u] 28):=(BT.new _ _ _ _ rfl).alloc _
 have HBB:Hid (BT ((w.alloc (.cells #[.slice x0 n0 y0,.slice x1 n1 y1,.slice x2 n2 y2,.slice x3 n3 y3,.int .i64 u] 28)).alloc (.cells #[.slice z0 n0 t0,.slice z1 n1 t1,.slice z2 n2 t2,.slice z3 n3 t3,.int .i64 u] 28)) (w.heap.size+1) #[.slice z0 n0 t0,.slice z1 n1 t1,.slice z2 n2 t2,.slice z3 n3 t3,.int .i64 u] 28):=BT.new _ _ _ _ (by rw[Q7])
 have HX0:Hid (Nx w ((w.alloc (.cells #[.slice x0 n0 y0,.slice x1 n1 y1,.slice x2 n2 y2,.slice x3 n3 y3,.int .i64 u] 28)).alloc (.cells #[.slice z0 n0 t0,.slice z1 n1 t1,.slice z2 n2 t2,.slice z3 n3 t3,.int .i64 u] 28))):=(Qd _ _).trans (Qd _ _)
 clear hk1 hl1 hk2 hl2 hk3 hl3 hn0 hn1 hn2 hn3
 go_enter Tryz.func10,Tryz.ntmps10
 go_wp2_with fail
 refine(Tg C D _ _ N.nodes _ (HI0.out.next HX0.out) (HJ0.out.next HX0.out)).mono ?_
 rintro e w1 ⟨rfl,hx⟩
 have HX1:=Jb (HX0.out.trans hx)
 have HA1:=Jb (HBA.out.next hx)
 have HB1:=Jb (HBB.out.next hx)
 clear hx HBA HBB HX0 HI0 HJ0
 have a0:=HA1.out.blk.cell (i:=0) rfl
 have b0:=HB1.out.blk.cell (i:=0) rfl
 have a1:=HA1.out.blk.cell (i:=1) rfl
 have b1:=HB1.out.blk.cell (i:=1) rfl
 have a2:=HA1.out.blk.cell (i:=2) rfl
 have b2:=HB1.out.blk.cell (i:=2) rfl
 have a3:=HA1.out.blk.cell (i:=3) rfl
 have b3:=HB1.out.blk.cell (i:=3) rfl
 have a4:=HA1.out.blk.cell (i:=4) rfl
 have b4:=HB1.out.blk.cell (i:=4) rfl
 go_wp2
 go_loopw [5,6,7] (λi p6 p7 wr=>∃k:Nat,k<=n1/\i=.int .i64 k/\Hid (Nx w1 wr)) (λi _ _ _=>n1-(intOf i).toNat)
 case atStart=>exact⟨0,Nat.zero_le _,rfl,Nx.refl _⟩
 clear a0 a1 a2 a3 a4 b0 b1 b2 b3 b4
 obtain⟨k,hkn,rfl,HN⟩:=hrel
 have HA:=Jb (HA1.out.next HN.out)
 have HB:=Jb (HB1.out.next HN.out)
 have a1:=HA.out.blk.cell (i:=1) rfl
 have b1:=HB.out.blk.cell (i:=1) rfl
 have a2:=HA.out.blk.cell (i:=2) rfl
 have a3:=HA.out.blk.cell (i:=3) rfl
 by_cases hlt:k<n1
 ·have HXr:=Jb (HX1.out.trans HN.out)
  obtain⟨b,off,rfl,hB,hb,hc⟩:=HK1.out (by omega)
  obtain⟨b',off',rfl,hB',hb',hc'⟩:=HL1.out (by omega)
  obtain⟨p1,p2,e0,e1,e2,e3,g1,g2⟩:=hc k hlt
  obtain⟨r1,r2,f0,f1,f2,f3,g3,g4⟩:=hc' k hlt
  have HG1:=Jb (g1.next HXr.out)
  have HG2:=Jb (g2.next HXr.out)
  have HG3:=Jb (g3.next HXr.out)
  have HG4:=Jb (g4.next HXr.out)
  obtain⟨ga,gb,rfl,-⟩:=g1.slice
  obtain⟨gc,gd,rfl,-⟩:=g2.slice
  obtain⟨ha,hb2,rfl,-⟩:=g3.slice
  obtain⟨hc2,hd2,rfl,-⟩:=g4.slice
  have e0:=Q1 HXr.out hb e0
  have e1:=Q1 HXr.out hb e1
  have e2:=Q1 HXr.out hb e2
  have e3:=Q1 HXr.out hb e3
  have f0:=Q1 HXr.out hb' f0
  have f1:=Q1 HXr.out hb' f1
  have f2:=Q1 HXr.out hb' f2
  have f3:=Q1 HXr.out hb' f3
  generalize wat N.ways k=x at *
  obtain⟨id,both,nodes,weights⟩:=x
  dsimp only at *
  have hlt':(k:Int)<n1:=by omega
  have s1:(id !=id)=false:=by simp
  have s2:(both !=both)=false:=by simp
  have hz1:=HB.out.lt
  have hz2:b<wr.heap.size:=Nat.lt_of_lt_of_le hb HXr.out.size
  have hz3:b'<wr.heap.size:=Nat.lt_of_lt_of_le hb' HXr.out.size
  generalize hV:wr.alloc (.cells #[.int .i64 id,.bool both,.slice ga nodes.length gb,.slice gc weights.length gd] 45)=wv
  have HNv:Hid (Nx wr wv):=by unfold Hid;rw[<-hV];exact Qd _ _
  have HBv:Hid (BT wv wr.heap.size #[.int .i64 id,.bool both,.slice ga nodes.length gb,.slice gc weights.length gd] 45):=by unfold Hid;rw[<-hV];exact BT.new _ _ _ _ rfl
  clear hc hc' g1 g2 g3 g4
  subst hV
  have HNw:Hid (Nx wr ((wr.alloc (.cells #[.int .i64 id,.bool both,.slice ga nodes.length gb,.slice gc weights.length gd] 45)).alloc (.cells #[.int .i64 id,.bool both,.slice ha nodes.length hb2,.slice hc2 weights.length hd2] 45))):=HNv.out.trans (Qd _ _)
  have HBv2:Hid (BT ((wr.alloc (.cells #[.int .i64 id,.bool both,.slice ga nodes.length gb,.slice gc weights.length gd] 45)).alloc (.cells #[.int .i64 id,.bool both,.slice ha nodes.length hb2,.slice hc2 weights.length hd2] 45)) wr.heap.size #[.int .i64 id,.bool both,.slice ga nodes.length gb,.slice gc weights.length gd] 45):=HBv.out.alloc _
  have HBw2:Hid (BT ((wr.alloc (.cells #[.int .i64 id,.bool both,.slice ga nodes.length gb,.slice gc weights.length gd] 45)).alloc (.cells #[.int .i64 id,.bool both,.slice ha nodes.length hb2,.slice hc2 weights.length hd2] 45)) (wr.heap.size+1) #[.int .i64 id,.bool both,.slice ha nodes.length hb2,.slice hc2 weights.length hd2] 45):=BT.new _ _ _ _ (by rw[Q7])
  go_wp2_with fail
  refine(Tg C D _ _ nodes _ (HG1.out.next HNw.out) (HG3.out.next HNw.out)).mono ?_
  rintro e w3 ⟨rfl,hx⟩
  have HN3:=Jb (HNw.out.trans hx)
  have HV3:=Jb (HBv2.out.next hx)
  have HW3:=Jb (HBw2.out.next hx)
  have v3:=HV3.out.blk.cell (i:=3) rfl
  have c3:=HW3.out.blk.cell (i:=3) rfl
  clear hx HBv HBv2 HBw2 HNv HNw e0 e1 e2 e3 f0 f1 f2 f3
  go_wp2_with fail
  refine(Tg C D _ _ weights _ (HG2.out.next HN3.out) (HG4.out.next HN3.out)).mono ?_
  rintro e w4 ⟨rfl,hx⟩
  have HN4:=Jb ((HN.out.trans HN3.out).trans hx)
  clear hx
  go_wp2
  go_roundw
  case rel=>exact⟨k+1,by omega,by go_num,HN4.out⟩
  case measure=>simp[intOf];omega
 clear b1
 have HNA:=HN
 clear HN
 go_wp2
 go_loopw [8,9,10] (λi p6 p7 ws=>∃k:Nat,k<=n2/\i=.int .i64 k/\Hid (Nx w1 ws)) (λi _ _ _=>n2-(intOf i).toNat)
 case atStart=>exact⟨0,Nat.zero_le _,rfl,HNA.out⟩
 obtain⟨k2,hkn2,rfl,HN⟩:=hrel
 clear a1 a2 a3 HA HB
 have HA:=Jb (HA1.out.next HN.out)
 have HB:=Jb (HB1.out.next HN.out)
 have a2:=HA.out.blk.cell (i:=2) rfl
 have b2:=HB.out.blk.cell (i:=2) rfl
 have a3:=HA.out.blk.cell (i:=3) rfl
 by_cases hlt2:k2<n2
 ·have HXr:=Jb (HX1.out.trans HN.out)
  obtain⟨b,off,rfl,hB,hb,hc⟩:=HK2.out (by omega)
  obtain⟨b',off',rfl,hB',hb',hc'⟩:=HL2.out (by omega)
  obtain⟨p1,e0,e1,e2,e3,e4,e5,e6,g1⟩:=hc k2 hlt2
  obtain⟨r1,f0,f1,f2,f3,f4,f5,f6,g3⟩:=hc' k2 hlt2
  have HG1:=Jb (g1.next HXr.out)
  have HG3:=Jb (g3.next HXr.out)
  obtain⟨ga,gb,rfl,-⟩:=g1.slice
  obtain⟨ha,hb2,rfl,-⟩:=g3.slice
  have e0:=Q1 HXr.out hb e0
  have f0:=Q1 HXr.out hb' f0
  have e1:=Q1 HXr.out hb e1
  have f1:=Q1 HXr.out hb' f1
  have e2:=Q1 HXr.out hb e2
  have f2:=Q1 HXr.out hb' f2
  have e3:=Q1 HXr.out hb e3
  have f3:=Q1 HXr.out hb' f3
  have e4:=Q1 HXr.out hb e4
  have f4:=Q1 HXr.out hb' f4
  have e5:=Q1 HXr.out hb e5
  have f5:=Q1 HXr.out hb' f5
  have e6:=Q1 HXr.out hb e6
  have f6:=Q1 HXr.out hb' f6
  generalize rat N.rels k2=x at *
  obtain⟨id,only,frm,tt,via,node,ways⟩:=x
  dsimp only at *
  have hlt':(k2:Int)<n2:=by omega
  have s1:(id !=id)=false:=by simp
  have s2:(only !=only)=false:=by simp
  have s3:(frm !=frm)=false:=by simp
  have s4:(tt !=tt)=false:=by simp
  have s5:(via !=via)=false:=by simp
  have s6:(node !=node)=false:=by simp
  have hz1:=HB.out.lt
  have hz2:b<wr.heap.size:=Nat.lt_of_lt_of_le hb HXr.out.size
  have hz3:b'<wr.heap.size:=Nat.lt_of_lt_of_le hb' HXr.out.size
  have HNw:Hid (Nx wr ((wr.alloc (.cells #[.int .i64 id,.bool only,.int .i64 frm,.int .i64 tt,.bool via,.int .i64 node,.slice ga ways.length gb] 48)).alloc (.cells #[.int .i64 id,.bool only,.int .i64 frm,.int .i64 tt,.bool via,.int .i64 node,.slice ha ways.length hb2] 48))):=(Qd _ _).trans (Qd _ _)
  clear hc hc' g1 g3
  go_wp2_with fail
  refine(Tg C D _ _ ways _ (HG1.out.next HNw.out) (HG3.out.next HNw.out)).mono ?_
  rintro e w4 ⟨rfl,hx⟩
  have HN4:=Jb ((HN.out.trans HNw.out).trans hx)
  clear hx e0 e1 e2 e3 e4 e5 e6 f0 f1 f2 f3 f4 f5 f6
  go_wp2
  go_roundw
  case rel=>exact⟨k2+1,by omega,by go_num,HN4.out⟩
  case measure=>simp[intOf];omega
 clear b2
 have HNB:=HN
 clear HN
 go_wp2
 go_loopw [11] (λi wq=>∃k:Nat,k<=n3/\i=.int .i64 k/\Hid (Nx w1 wq)) (λi _=>n3-(intOf i).toNat)
 case atStart=>exact⟨0,Nat.zero_le _,rfl,HNB.out⟩
 obtain⟨k3,hkn3,rfl,HN⟩:=hrel
 clear a2 a3 HA HB
 have HA:=Jb (HA1.out.next HN.out)
 have HB:=Jb (HB1.out.next HN.out)
 have a3:=HA.out.blk.cell (i:=3) rfl
 have b3:=HB.out.blk.cell (i:=3) rfl
 by_cases hlt3:k3<n3
 ·have HXr:=Jb (HX1.out.trans HN.out)
  obtain⟨b,off,rfl,hB,hb,hc⟩:=HK3.out (by omega)
  obtain⟨b',off',rfl,hB',hb',hc'⟩:=HL3.out (by omega)
  obtain⟨e0,e1,e2⟩:=hc k3 hlt3
  obtain⟨f0,f1,f2⟩:=hc' k3 hlt3
  have e0:=Q1 HXr.out hb e0
  have e1:=Q1 HXr.out hb e1
  have e2:=Q1 HXr.out hb e2
  have f0:=Q1 HXr.out hb' f0
  have f1:=Q1 HXr.out hb' f1
  have f2:=Q1 HXr.out hb' f2
  generalize tat N.turns k3=x at *
  obtain⟨frm,tt,cost⟩:=x
  dsimp only at *
  have hlt':(k3:Int)<n3:=by omega
  clear hc hc'
  go_wp2
  go_quiet (fail)
  go_wp2
  go_roundw
  case rel=>exact⟨k3+1,by omega,by go_num,HN.out.trans ⟨rfl,rfl,rfl,Nat.le_refl _,λ_ _=>rfl⟩⟩
  case measure=>simp[intOf];omega
 go_wp2
 go_ret
 exact⟨rfl,HX1.out.trans HN.out⟩
end Go.Proofs.YtmmolhlihhdkcaaGreatDoor
