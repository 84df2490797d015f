import Derived.Test.YtmmolhlihhdkcaaGreatDoorBDO
import Derived.Deep.CutBlock
namespace Go.Proofs.YtmmolhlihhdkcaaGreatDoor
open Go.RowKit Go.Sort
set_option linter.unusedVariables false
set_option maxRecDepth 1000000
set_option maxHeartbeats 16000000
theorem Q6f (N:Nt)(es:List Eg)(i:Nat):1<=(Vg N es i).length:=by
 unfold Vg
 split<;>simp
theorem Q5h {ts:List (List Nat)}{i:Nat}(h:i<ts.length):ltd ts i∈ts:=by
 unfold ltd
 rw[List.getD_eq_getElem?_getD,List.getElem?_eq_getElem h]
 exact List.getElem_mem h
theorem Q5j {l:List Nat}(h:l≠[]):laL l∈l:=by
 unfold laL
 rw[List.getLastD_eq_getLast?,List.getLast?_eq_some_getLast h]
 exact List.getLast_mem h
theorem Qc1 {l:List Nat}(h:l≠[]):hdN l∈l:=by
 cases l with
 |nil=>exact absurd rfl h
 |cons a l=>simp[hdN]
theorem Yt.slice' {C:Nat}{w:World}{v:Value}{ws:List (List Int)}(h:Yt C w v ws):∃a c,v=.slice a ws.length c:=by
 obtain⟨a,c,e,_⟩:=h
 exact⟨a,c,e⟩
theorem Chg.cellU {C:Nat}{w w':World}(h:Chg (λx=>x<C) w w'){g o:Nat}(hn:C<=g){v:Value}(hc:w.cell? ⟨g,o,none⟩=some v):w'.cell? ⟨g,o,none⟩=some v:=by
 have hb:=h.block g (Zc hc) (by omega)
 unfold World.cell? at hc ⊢
 simp only[hb]
 exact hc
theorem Qbq {l:List Nat}(h:l≠[]):iat (Jt l) 0=(hdN l:Int):=by
 cases l with
 |nil=>exact absurd rfl h
 |cons a l=>simp[iat,Jt,hdN]
theorem Qbp {l:List Nat}{n:Nat}(h:l.length=n+1):iat (Jt l) n=(laL l:Int):=by
 have hl:n<l.length:=by omega
 have hn:n<(Jt l).length:=by unfold Jt;rw[List.length_map];exact hl
 unfold iat Jt laL
 rw[List.getLastD_eq_getLast?,List.getLast?_eq_getElem?,h,List.getD_eq_getElem?_getD,List.getElem?_map]
 simp[hl]
theorem Q4n {C:Nat}{w:World}{u:Value}{ts:List (List Nat)}(h:Yt C w u (ts.map Jt)){i:Nat}(hi:i<ts.length)(hne:ltd ts i≠[]) :
  ∃tb to_ c lb lo n c',u=.slice (some ⟨tb,to_,none⟩) ts.length c/\(ltd ts i).length=n+1/\C<=tb/\tb<w.heap.size/\C<=lb/\lb<w.heap.size/\n+1<=maxLen/\w.cell? ⟨tb,to_+i,none⟩=some (.slice (some ⟨lb,lo,none⟩) (n+1) c')/\w.cell? ⟨lb,lo,none⟩=some (.int .i64 (hdN (ltd ts i):Int))/\w.cell? ⟨lb,lo+n,none⟩=some (.int .i64 (laL (ltd ts i):Int)):=by
 obtain⟨a,c,e,_,k⟩:=h
 rw[List.length_map] at e k
 obtain⟨tb,to_,rfl,h1,h2,k1⟩:=k (by omega)
 obtain⟨vi,c1,⟨a2,c2,e2,hm,k2⟩,_⟩:=k1 i hi
 have ew:wd (ts.map Jt) i=Jt (ltd ts i):=by
  unfold wd ltd
  rw[List.getD_eq_getElem?_getD,List.getD_eq_getElem?_getD,List.getElem?_map,List.getElem?_eq_getElem hi]
  rfl
 rw[ew] at e2 hm k2
 have hl:(Jt (ltd ts i)).length=(ltd ts i).length:=by unfold Jt;rw[List.length_map]
 have hp:0<(ltd ts i).length:=List.length_pos_iff.2 hne
 obtain⟨n,hn⟩:∃n,(ltd ts i).length=n+1:=⟨(ltd ts i).length-1,by omega⟩
 obtain⟨lb,lo,rfl,h3,h4,k3⟩:=k2 (by omega)
 have c0:w.cell? ⟨lb,lo+0,none⟩=some (.int .i64 (iat (Jt (ltd ts i)) 0)):=k3 0 (by omega)
 have cn:w.cell? ⟨lb,lo+n,none⟩=some (.int .i64 (iat (Jt (ltd ts i)) n)):=k3 n (by omega)
 rw[Qbq hne] at c0
 rw[Qbp hn] at cn
 rw[hl,hn] at e2 hm
 subst e2
 exact⟨tb,to_,c,lb,lo,n,c2,e,hn,h1,h2,h3,h4,hm,c1,c0,cn⟩
theorem Tm (B D b:Nat)(v0 v1 v2 v3 q0 q1 q2 q3:Value)(N:Nt)(R:Rd)(S:Src)(w:World)(hN:Yf B w v0 v1 v2 v3 N)(hR:Y8 B w q0 q1 q2 q3 R)(hB:b<B)(h0:0<N.nodes.length)(hw0:0<N.ways.length)(hl0:N.nodes.length<=1000000)(hl1:N.ways.length<=1000000)(hS:J8 D w b S)(hok:SOk S)(hE:0<R.edges.length)(hI:Eu N R)(h6:¬nv S 10<6) :
  Calls Tryz.prog 66 #[.agg #[v0,v1,v2,v3,.int .i64 N.uturn],.agg #[q0,q1,q2,q3],.pointer (some ⟨b,0,none⟩)] w λe w'=>∃va,e=.returned (.agg #[.int .i64 (drR N R S).id,.bool (drR N R S).only,.int .i64 (drR N R S).frm,.int .i64 (drR N R S).to,.bool (drR N R S).via,.int .i64 (drR N R S).node,va])/\Qb w.heap.size w' va (drR N R S).ways/\J8 D w' b (drS N R S)/\Chg (Sx1 b) w w':=by
 have HOK:Hid (SOk S):=hok
 have HOK1:Hid (SOk (ns S 10)):=Qj hok 10
 have HS0:Hid (J8 D w b S):=hS
 have HP:Hid (Qes N):=⟨h0,hw0,hl0,hl1⟩
 have HNK:Hid (∀q,Chg (Sx1 b) w q->Yf B q v0 v1 v2 v3 N):=λq hq=>hN.keep (hq.keepsB hB)
 have HRK:Hid (∀q,Chg (Sx1 b) w q->Y8 B q q0 q1 q2 q3 R):=λq hq=>hR.keep (hq.keepsB hB)
 obtain⟨r0,t0,rfl,_,kn⟩:=hN.1
 obtain⟨r1,c1,rfl,_,kw⟩:=hN.2.1
 obtain⟨r2,t2,rfl,_,_⟩:=hN.2.2.1
 obtain⟨r3,t3,rfl,_,_⟩:=hN.2.2.2
 obtain⟨wb,wo,rfl,hwb,_,hwc⟩:=kw hw0
 obtain⟨nb,no,rfl,hnb,_,hnc⟩:=kn h0
 obtain⟨p0,d0,rfl,_,krn⟩:=hR.1
 obtain⟨p1,e1,rfl,_,kre⟩:=hR.2.1
 obtain⟨p2,d2,rfl,_,_⟩:=hR.2.2.1
 obtain⟨p3,d3,rfl,_,_⟩:=hR.2.2.2
 obtain⟨eb,eo,rfl,heb,_,hec⟩:=kre hE
 obtain⟨i0,hi0,_⟩:=hI.head 0 hE
 obtain⟨rb,ro,rfl,hrb,_,hrc⟩:=krn (by omega)
 have HWC:Hid (∀q,Chg (Sx1 b) w q->∀i,i<N.ways.length->q.cell? ⟨wb,wo+i*4,none⟩=some (.int .i64 (wat N.ways i).id)):=λq hq i hi=>by
  obtain⟨_,_,hc,_⟩:=hwc i hi
  exact hq.cellB (by omega) hc
 have HEC:Hid (∀q,Chg (Sx1 b) w q->∀e,e<R.edges.length->It q eb (eo+e*7) (eat R.edges e)):=λq hq e he=>(hec e he).keep (hq.keepsB hB) heb (Zc (hec e he).1)
 have HNC:Hid (∀q,Chg (Sx1 b) w q->∀i,i<R.nodes.length->q.cell? ⟨rb,ro+i,none⟩=some (.int .i64 (iat R.nodes i))):=λq hq i hi=>hq.cellB (by omega) (hrc i hi)
 have HII:Hid (Eu N R):=hI
 have HLE:Hid (R.edges.length<=4000):=hI.len
 have hle:=hI.len
 have HMW:Hid (N.ways.length=N.ways.length):=rfl
 have HM1:Hid (R.edges.length=R.edges.length):=rfl
 have HM0:Hid (R.nodes.length=R.nodes.length):=rfl
 have HNE:Hid (¬R.edges.length=0):=by unfold Hid;omega
 clear hwc hnc kn kw krn kre hN hR hS hok hec hrc hI hi0
 generalize N.nodes.length=m0 at *
 generalize hmw:N.ways.length=mw at h0 hw0 hl0 hl1 HWC HMW HNK ⊢
 generalize N.rels.length=m2 at *
 generalize N.turns.length=m3 at *
 generalize hms:R.nodes.length=s0 at HNC HM0 HRK ⊢
 generalize hm1:R.edges.length=m1 at hE hle HEC HM1 HNE HRK ⊢
 generalize R.first.length=s2 at *
 generalize R.out.length=s3 at *
 have HW':Hid (N.ways.length=mw):=hmw
 have HE':Hid (R.edges.length=m1):=hm1
 clear HMW HM1 HM0 hmw hms hm1
 go_enter Tryz.func66,Tryz.ntmps66
 go_upto_region 1 with fail
 generalize hWA:((w.alloc (.cells #[.slice (some ⟨nb,no,none⟩) m0 t0,.slice (some ⟨wb,wo,none⟩) mw c1,.slice r2 m2 t2,.slice r3 m3 t3,.int .i64 N.uturn] 28)).alloc (.cells #[.slice (some ⟨rb,ro,none⟩) s0 d0,.slice (some ⟨eb,eo,none⟩) m1 e1,.slice p2 s2 d2,.slice p3 s3 d3] 113)).alloc (.cells #[.int .i64 0,.bool false,.int .i64 0,.int .i64 0,.bool false,.int .i64 0,.slice none 0 0] 48)=wA
 have HA0:Hid (FR D b w wA S (bl3 w.heap.size #[.slice (some ⟨nb,no,none⟩) m0 t0,.slice (some ⟨wb,wo,none⟩) mw c1,.slice r2 m2 t2,.slice r3 m3 t3,.int .i64 N.uturn] #[.slice (some ⟨rb,ro,none⟩) s0 d0,.slice (some ⟨eb,eo,none⟩) m1 e1,.slice p2 s2 d2,.slice p3 s3 d3])):=by
  unfold Hid
  rw[<-hWA]
  have k0:FR D b w w S []:=⟨Chg.nx (Nx.refl _),HS0.out,λp hp=>absurd hp (by simp),λp hp=>absurd hp (by simp),List.nodup_nil⟩
  have k1:=((k0.alloc #[.slice (some ⟨nb,no,none⟩) m0 t0,.slice (some ⟨wb,wo,none⟩) mw c1,.slice r2 m2 t2,.slice r3 m3 t3,.int .i64 N.uturn] 28 (by decide)).alloc #[.slice (some ⟨rb,ro,none⟩) s0 d0,.slice (some ⟨eb,eo,none⟩) m1 e1,.slice p2 s2 d2,.slice p3 s3 d3] 113 (by decide)).alloc #[.int .i64 0,.bool false,.int .i64 0,.int .i64 0,.bool false,.int .i64 0,.slice none 0 0] 48 (by decide)
  rw[Q7,Q7,Q7] at k1
  exact k1
 clear hWA
 go_wp2_with fail
 refine(Qe D b S 10 wA HA0.out.src HOK.out (by omega)).mono ?_
 rintro e w1 ⟨rfl,hs1,hc1⟩
 have H1:Hid (FR D b w w1 (ns S 10) (bl3 w.heap.size #[.slice (some ⟨nb,no,none⟩) m0 t0,.slice (some ⟨wb,wo,none⟩) mw c1,.slice r2 m2 t2,.slice r3 m3 t3,.int .i64 N.uturn] #[.slice (some ⟨rb,ro,none⟩) s0 d0,.slice (some ⟨eb,eo,none⟩) m1 e1,.slice p2 s2 d2,.slice p3 s3 d3])):=HA0.out.drawn hs1 hc1
 have hv10:=Qt HOK.out 10
 clear hs1 hc1 HA0
 have HD10:Hid (nv S 10=nv S 10):=rfl
 generalize hd10:nv S 10=d10 at hv10 HD10 h6 ⊢
 replace HD10:Hid (nv S 10=d10):=hd10
 clear hd10
 have hd:¬d10=0:=by omega
 have hd':(d10==0)=false:=by simpa using hd
 have HND:Hid (¬(d10=0\/R.edges.length=0)):=λh=>h.elim hd (λe=>by rw[HE'.out] at e;omega)
 have HD6:Hid (¬d10<6):=by unfold Hid;omega
 have rr1:w1.cell? ⟨w.heap.size+1,1,none⟩=some (.slice (some ⟨eb,eo,none⟩) m1 e1):=(H1.out.at 1 rfl).blk.cell (i:=1) rfl
 have nn1:w1.cell? ⟨w.heap.size,1,none⟩=some (.slice (some ⟨wb,wo,none⟩) mw c1):=(H1.out.at 0 rfl).blk.cell (i:=1) rfl
 have hmz:((m1:Int)==0)=false:=by simp;omega
 have hmy:¬(m1:Int)=0:=by omega
 have hmx:Tryz.prog.follows .mixedOrders=true:=by kernel_rfl
 go_wp2_with fail
 refine(Qe D b (ns S 10) (mw:Int) w1 H1.out.src HOK1.out (by omega)).mono ?_
 rintro e w2 ⟨rfl,hs1,hc1⟩
 have H2:=Q0 (H1.out.drawn hs1 hc1)
 have HOK2:Hid (SOk (ns (ns S 10) mw)):=Qj HOK1.out _
 obtain⟨iw,hiw⟩:∃i:Nat,nv (ns S 10) mw=i:=⟨(nv (ns S 10) mw).toNat,by have:=(Qt HOK1.out mw).1;omega⟩
 have hil:iw<mw:=by have:=(Qt HOK1.out mw).2 (by omega);omega
 have hil':(iw:Int)<mw:=by omega
 have HDW:Hid (dwW N (ns S 10)=iw):=by unfold Hid dwW;rw[HW'.out,hiw,Int.toNat_natCast]
 rw[hiw]
 clear hs1 hc1 rr1 nn1 hiw H1 h6 hd hd' hmz hmy hv10
 go_upto_region 12 with fail
 generalize hW3:w2.alloc (.cells #[.int .i64 0,.bool false,.int .i64 0,.int .i64 0,.bool false,.int .i64 0,.slice none 0 0] 48)=w3
 have H3:Hid (FR D b w w3 (ns (ns S 10) mw) (bl4 w.heap.size #[.slice (some ⟨nb,no,none⟩) m0 t0,.slice (some ⟨wb,wo,none⟩) mw c1,.slice r2 m2 t2,.slice r3 m3 t3,.int .i64 N.uturn] #[.slice (some ⟨rb,ro,none⟩) s0 d0,.slice (some ⟨eb,eo,none⟩) m1 e1,.slice p2 s2 d2,.slice p3 s3 d3] w2.heap.size #[.int .i64 0,.bool false,.int .i64 0,.int .i64 0,.bool false,.int .i64 0,.slice none 0 0])):=by unfold Hid;rw[<-hW3];exact H2.out.alloc #[.int .i64 0,.bool false,.int .i64 0,.int .i64 0,.bool false,.int .i64 0,.slice none 0 0] 48 (by decide)
 clear hW3 H2
 generalize w2.heap.size=g at *
 have HGL:Hid (g<w3.heap.size):=(show BT w3 g _ 48 from H3.out.at 3 rfl).lt
 have HBL:Hid (b<w3.heap.size):=by
  obtain⟨v,hb,_⟩:=H3.out.src
  exact hb.lt
 have nc0:w3.cell? ⟨w.heap.size,0,none⟩=some (.slice (some ⟨nb,no,none⟩) m0 t0):=(H3.out.at 0 rfl).blk.cell (i:=0) rfl
 have nc1:w3.cell? ⟨w.heap.size,1,none⟩=some (.slice (some ⟨wb,wo,none⟩) mw c1):=(H3.out.at 0 rfl).blk.cell (i:=1) rfl
 have nc2:w3.cell? ⟨w.heap.size,2,none⟩=some (.slice r2 m2 t2):=(H3.out.at 0 rfl).blk.cell (i:=2) rfl
 have nc3:w3.cell? ⟨w.heap.size,3,none⟩=some (.slice r3 m3 t3):=(H3.out.at 0 rfl).blk.cell (i:=3) rfl
 have nc4:w3.cell? ⟨w.heap.size,4,none⟩=some (.int .i64 N.uturn):=(H3.out.at 0 rfl).blk.cell (i:=4) rfl
 have rc0:w3.cell? ⟨w.heap.size+1,0,none⟩=some (.slice (some ⟨rb,ro,none⟩) s0 d0):=(H3.out.at 1 rfl).blk.cell (i:=0) rfl
 have rc1:w3.cell? ⟨w.heap.size+1,1,none⟩=some (.slice (some ⟨eb,eo,none⟩) m1 e1):=(H3.out.at 1 rfl).blk.cell (i:=1) rfl
 have rc2:w3.cell? ⟨w.heap.size+1,2,none⟩=some (.slice p2 s2 d2):=(H3.out.at 1 rfl).blk.cell (i:=2) rfl
 have rc3:w3.cell? ⟨w.heap.size+1,3,none⟩=some (.slice p3 s3 d3):=(H3.out.at 1 rfl).blk.cell (i:=3) rfl
 go_wp2_with fail
 refine(Uj B B (.slice (some ⟨nb,no,none⟩) m0 t0) (.slice (some ⟨wb,wo,none⟩) mw c1) (.slice r2 m2 t2) (.slice r3 m3 t3) N (.slice (some ⟨rb,ro,none⟩) s0 d0) (.slice (some ⟨eb,eo,none⟩) m1 e1) (.slice p2 s2 d2) (.slice p3 s3 d3) R iw w3 (HNK.out _ H3.out.chg) (HRK.out _ H3.out.chg) HLE.out (by rw[HW'.out];exact hil)).mono ?_
 rintro e w4 ⟨⟨ut,rfl,how⟩,hx4⟩
 have H4:=Q0 (H3.out.next hx4)
 have HWT:=Q0 how.held
 have HTV:Hid (∀t∈Vg N R.edges iw,t≠[]/\∀e∈t,e<R.edges.length):=HII.out.trav iw (by rw[HW'.out];exact hil) (by rw[HE'.out];exact hE)
 have HDT:Hid (dwT N R.edges (ns S 10)=Vg N R.edges iw):=by unfold Hid dwT;rw[HDW.out]
 obtain⟨ta,tc,rfl⟩:=HWT.out.slice'
 generalize hTL:((Vg N R.edges iw).map Jt).length=T0
 have HTL:Hid ((Vg N R.edges iw).length=T0):=by unfold Hid;rw[<-hTL,List.length_map]
 rw[hTL] at HWT
 have hT2:T0<=2:=by rw[<-HTL.out];exact A0 _ _ _
 have hT1:1<=T0:=by rw[<-HTL.out];exact Q6f _ _ _
 generalize htt:Vg N R.edges iw=tt at *
 clear hTL htt how hx4 nc0 nc1 nc2 nc3 nc4 rc0 rc1 rc2 rc3 H3
 go_wp2_with fail
 refine(Qe D b (ns (ns S 10) mw) (T0:Int) w4 H4.out.src HOK2.out (by omega)).mono ?_
 rintro e w5 ⟨rfl,hs1,hc1⟩
 have H5:=Q0 (H4.out.drawn hs1 hc1)
 have HK5:Hid (Chg (λx=>x<w3.heap.size) w4 w5):=hc1.mono (λx hx=>by have hx':x=b:=hx;have:=HBL.out;omega)
 obtain⟨li,hli⟩:∃i:Nat,nv (ns (ns S 10) mw) T0=i:=⟨(nv (ns (ns S 10) mw) T0).toNat,by have:=(Qt HOK2.out T0).1;omega⟩
 have hll':li<T0:=by have:=(Qt HOK2.out T0).2 (by omega);omega
 have hlli:(li:Int)<T0:=by omega
 rw[hli]
 have HOK3:Hid (SOk (ns (ns (ns S 10) mw) T0)):=Qj HOK2.out _
 have HDLI:Hid (Qab N R.edges (ns S 10)=ltd tt li):=by unfold Hid Qab;rw[HDT.out,HW'.out,HTL.out,hli,Int.toNat_natCast]
 have HDS3:Hid (Q42 N R.edges (ns S 10)=ns (ns (ns S 10) mw) T0):=by unfold Hid Q42;rw[HDT.out,HW'.out,HTL.out]
 generalize ns (ns (ns S 10) mw) T0=S3 at *
 obtain⟨hne,hall⟩:=HTV.out (ltd tt li) (Q5h (by rw[HTL.out];exact hll'))
 obtain⟨tb,to_,tc',lb,lo,ln,lc,eu,hlen,hct,htl,hcl,hll,hlm,k0,k1,k2⟩:=Q4n HWT.out (by rw[HTL.out];exact hll') hne
 rw[HTL.out] at eu
 simp only[Value.slice.injEq] at eu
 obtain⟨rfl,_,rfl⟩:=eu
 have hhn:hdN (ltd tt li)<m1:=by rw[<-HE'.out];exact hall _ (Qc1 hne)
 have hla:laL (ltd tt li)<m1:=by rw[<-HE'.out];exact hall _ (Q5j hne)
 obtain⟨nh,hnh,eh⟩:=HII.out.head (laL (ltd tt li)) (by rw[HE'.out];exact hla)
 obtain⟨tl,htl2⟩:∃z,z=(eat R.edges (hdN (ltd tt li))).tail:=⟨_,rfl⟩
 obtain⟨idw,hidw⟩:∃z,z=(wat N.ways iw).id:=⟨_,rfl⟩
 have HIDW:Hid (idw=(wat N.ways iw).id):=hidw
 clear hidw
 have HDTL:Hid (Q7j N R.edges (ns S 10)=tl):=by unfold Hid Q7j;rw[HDLI.out,htl2]
 have HKC:Hid (∀q,Chg (λx=>x<w3.heap.size) w4 q->q.cell? ⟨tb,to_+li,none⟩=some (.slice (some ⟨lb,lo,none⟩) (ln+1) lc)/\q.cell? ⟨lb,lo,none⟩=some (.int .i64 (hdN (ltd tt li):Int))/\q.cell? ⟨lb,lo+ln,none⟩=some (.int .i64 (laL (ltd tt li):Int))):=λq hq=>⟨hq.cellU (by omega) k0,hq.cellU (by omega) k1,hq.cellU (by omega) k2⟩
 have HEH:Hid (∀q,Chg (Sx1 b) w q->q.cell? ⟨eb,eo+laL (ltd tt li)*7+1,none⟩=some (.int .i64 (nh:Int))):=λq hq=>by have k:=(HEC.out q hq (laL (ltd tt li)) hla).2.1;rw[eh] at k;exact k
 have HET:Hid (∀q,Chg (Sx1 b) w q->q.cell? ⟨eb,eo+hdN (ltd tt li)*7,none⟩=some (.int .i64 tl)):=λq hq=>by rw[htl2];exact(HEC.out q hq (hdN (ltd tt li)) hhn).1
 have HXH:Hid ((eat R.edges (laL (Qab N R.edges (ns S 10)))).head=(nh:Int)):=by unfold Hid;rw[HDLI.out];exact eh
 have HLM:Hid (ln+1<=maxLen):=hlm
 generalize hdN (ltd tt li)=hn at *
 generalize laL (ltd tt li)=la at *
 have HHN:Hid (hn<m1):=hhn
 have HLA:Hid (la<m1):=hla
 obtain⟨y0,_⟩:=HKC.out w5 HK5.out
 clear hs1 hc1 hli k0 k1 k2 htl2 hne hall hlen hct htl hcl hll hlm hnh eh hhn hla HWT H4
 go_upto_region 14 with fail
 clear y0
 have HSA:Hid (∀q S',FR D b w q S' (bl4 w.heap.size #[.slice (some ⟨nb,no,none⟩) m0 t0,.slice (some ⟨wb,wo,none⟩) mw c1,.slice r2 m2 t2,.slice r3 m3 t3,.int .i64 N.uturn] #[.slice (some ⟨rb,ro,none⟩) s0 d0,.slice (some ⟨eb,eo,none⟩) m1 e1,.slice p2 s2 d2,.slice p3 s3 d3] g #[.int .i64 0,.bool false,.int .i64 0,.int .i64 0,.bool false,.int .i64 0,.slice none 0 0])->∀{q'},Nx q q'->(λq=>q.cell? ⟨g,6,none⟩=some (.slice none 0 0)/\q.cell? ⟨w.heap.size,1,none⟩=some (.slice (some ⟨wb,wo,none⟩) mw c1)/\q.cell? ⟨wb,wo+iw*4,none⟩=some (.int .i64 idw)) q'):=λq S' h q' hq=>⟨Qf hq ((h.at 3 rfl).blk.cell (i:=6) rfl),Qf hq ((h.at 0 rfl).blk.cell (i:=1) rfl),Qf hq (by rw[HIDW.out];exact HWC.out q h.chg iw hil)⟩
 have H5D:=Q0 (H5.out.next (show Nx w5 w5.drew from(Below.refl _ _).drew))
 have HSS:Hid ((λq=>q.cell? ⟨g,6,none⟩=some (.slice none 0 0)/\q.cell? ⟨w.heap.size,1,none⟩=some (.slice (some ⟨wb,wo,none⟩) mw c1)/\q.cell? ⟨wb,wo+iw*4,none⟩=some (.int .i64 idw)) w5.drew):=HSA.out _ _ H5D.out (Nx.refl _)
 refine(wpIn_wide (n:=9)).1 ?_
 refine Q9 (c:=11) (S:=λq=>q.cell? ⟨g,6,none⟩=some (.slice none 0 0)/\q.cell? ⟨w.heap.size,1,none⟩=some (.slice (some ⟨wb,wo,none⟩) mw c1)/\q.cell? ⟨wb,wo+iw*4,none⟩=some (.int .i64 idw)) hmx (by kernel_rfl) (λhw hcl=>?_)
 have HX5:Hid (Nx w5 w5.drew):=(show Nx w5 w5.drew from(Below.refl _ _).drew)
 generalize w5.drew=wd5 at *
 refine tq (i:=0) (v:=.pointer (some ⟨g,6,none⟩)) (λhcl=>?_)
 refine tq (i:=1) (v:=.slice none 0 0) (λhcl=>?_)
 refine tq (i:=2) (v:=.pointer (some ⟨w.heap.size,1,none⟩)) (λhcl=>?_)
 refine tq (i:=3) (v:=.slice (some ⟨wb,wo,none⟩) mw c1) (λhcl=>?_)
 refine tq (i:=4) (v:=.int .i64 (iw:Int)) (λhcl=>?_)
 refine tq (i:=5) (v:=.pointer (some ⟨wb,wo+iw*4,none⟩)) (λhcl=>?_)
 refine tq (i:=6) (v:=.pointer (some ⟨wb,wo+iw*4,none⟩)) (λhcl=>?_)
 refine tq (i:=7) (v:=.int .i64 idw) (λhcl=>?_)
 refine Q5 (i:=8) (by kernel_rfl) hcl (λhcl=>wpOpIn_step rfl (λK hK=>?_))
 go_simp
 refine hK _ _ ⟨Or.inr (HSA.out _ _ H5D.out (Qd _ _)),?_⟩
 clear hK K
 refine Q5 (i:=9) (by kernel_rfl) hcl (λhcl=>wpOpIn_step rfl (λK hK=>?_))
 have hz5:w.heap.size<=wd5.heap.size:=H5D.out.chg.size
 refine Xz rfl (.tmp 107) (.tmp 114) rfl w.heap.size 0 (.slice none 0 0) [] idw wd5 _ rfl (by simp[Act.eval]) ⟨rfl,Or.inl ⟨rfl,rfl⟩⟩ (by simp[Act.eval]) rfl (by omega) hz5 ?_
 intro a6 c6 w6 r1 r2 r3
 have hC6:Chg (λx=>some x=(Value.slice none 0 0).ownBlock) wd5 w6:=r2
 have HX6:Hid (Nx wd5 w6):=hC6.below (Nat.le_refl _) (λx hx=>by cases hx)
 have H6a:=Q0 (H5D.out.next HX6.out)
 have HO6a:Hid (Qb w.heap.size w6 (.slice a6 (0+1) c6) [idw]):=r1
 have HS6:Hid ((λq=>q.cell? ⟨g,6,none⟩=some (.slice none 0 0)/\q.cell? ⟨w.heap.size,1,none⟩=some (.slice (some ⟨wb,wo,none⟩) mw c1)/\q.cell? ⟨wb,wo+iw*4,none⟩=some (.int .i64 idw)) w6):=HSA.out _ _ H6a.out (Nx.refl _)
 refine hK _ _ ⟨Or.inr HS6.out,?_⟩
 clear hK K r1 r2 r3 hC6
 refine Q5 (i:=10) (by kernel_rfl) hcl (λhcl=>wpOpIn_step rfl (λK hK=>?_))
 go_simp
 refine hK _ _ ⟨Or.inr HS6.out,?_⟩
 clear hK K
 have BG:BT w6 g #[.int .i64 0,.bool false,.int .i64 0,.int .i64 0,.bool false,.int .i64 0,.slice none 0 0] 48:=H6a.out.at 3 rfl
 have x6:=BG.blk.cell (i:=6) rfl
 have fz6:=BG.blk.frozen 6
 refine Qk (i:=11) (by kernel_rfl) (wpOpIn_step rfl (λK hK=>?_))
 go_simp
 refine hK _ _ ⟨Or.inl (by decide),?_⟩
 clear hK K
 refine Qi (by kernel_rfl) ?_ _
 clear x6 fz6 hw hcl HSS HS6
 have H6:Hid (FR D b w (w6.setCell ⟨g,6,none⟩ (.slice a6 (0+1) c6)) S3 (bl4 w.heap.size #[.slice (some ⟨nb,no,none⟩) m0 t0,.slice (some ⟨wb,wo,none⟩) mw c1,.slice r2 m2 t2,.slice r3 m3 t3,.int .i64 N.uturn] #[.slice (some ⟨rb,ro,none⟩) s0 d0,.slice (some ⟨eb,eo,none⟩) m1 e1,.slice p2 s2 d2,.slice p3 s3 d3] g #[.int .i64 0,.bool false,.int .i64 0,.int .i64 0,.bool false,.int .i64 0,(.slice a6 (0+1) c6)])):=H6a.out.set 3 rfl 6 _
 have HO6:Hid (Qb w.heap.size (w6.setCell ⟨g,6,none⟩ (.slice a6 (0+1) c6)) (.slice a6 (0+1) c6) [idw]):=H6a.out.rowTurn 3 rfl HO6a.out (Chg.set _ _ _ rfl)
 have HK6:Hid (Chg (λx=>x<w3.heap.size) w4 (w6.setCell ⟨g,6,none⟩ (.slice a6 (0+1) c6))):=((HK5.out.trans (Chg.nx HX5.out)).trans (Chg.nx HX6.out)).trans (Chg.set _ _ _ HGL.out)
 generalize w6.setCell ⟨g,6,none⟩ (.slice a6 (0+1) c6)=w7 at *
 clear BG H6a HO6a HX6 H5D
 have HSB:Hid (∀q S',FR D b w q S' (bl4 w.heap.size #[.slice (some ⟨nb,no,none⟩) m0 t0,.slice (some ⟨wb,wo,none⟩) mw c1,.slice r2 m2 t2,.slice r3 m3 t3,.int .i64 N.uturn] #[.slice (some ⟨rb,ro,none⟩) s0 d0,.slice (some ⟨eb,eo,none⟩) m1 e1,.slice p2 s2 d2,.slice p3 s3 d3] g #[.int .i64 0,.bool false,.int .i64 0,.int .i64 0,.bool false,.int .i64 0,(.slice a6 (0+1) c6)])->Chg (λx=>x<w3.heap.size) w4 q->(λq=>q.cell? ⟨w.heap.size+1,0,none⟩=some (.slice (some ⟨rb,ro,none⟩) s0 d0)/\q.cell? ⟨w.heap.size+1,1,none⟩=some (.slice (some ⟨eb,eo,none⟩) m1 e1)/\q.cell? ⟨w.heap.size+1,2,none⟩=some (.slice p2 s2 d2)/\q.cell? ⟨w.heap.size+1,3,none⟩=some (.slice p3 s3 d3)/\q.cell? ⟨lb,lo,none⟩=some (.int .i64 (hn:Int))/\q.cell? ⟨eb,eo+hn*7,none⟩=some (.int .i64 tl)) q):=λq S' h hk=>⟨(h.at 1 rfl).blk.cell (i:=0) rfl,(h.at 1 rfl).blk.cell (i:=1) rfl,(h.at 1 rfl).blk.cell (i:=2) rfl,(h.at 1 rfl).blk.cell (i:=3) rfl,(HKC.out q hk).2.1,HET.out q h.chg⟩
 have hhn:=HHN.out
 have hhn':(hn:Int)<m1:=by omega
 clear HSA H5
 go_upto_region 15 with fail
 have H7D:=Q0 (H6.out.next (show Nx w7 w7.drew from(Below.refl _ _).drew))
 have HSS:Hid ((λq=>q.cell? ⟨w.heap.size+1,0,none⟩=some (.slice (some ⟨rb,ro,none⟩) s0 d0)/\q.cell? ⟨w.heap.size+1,1,none⟩=some (.slice (some ⟨eb,eo,none⟩) m1 e1)/\q.cell? ⟨w.heap.size+1,2,none⟩=some (.slice p2 s2 d2)/\q.cell? ⟨w.heap.size+1,3,none⟩=some (.slice p3 s3 d3)/\q.cell? ⟨lb,lo,none⟩=some (.int .i64 (hn:Int))/\q.cell? ⟨eb,eo+hn*7,none⟩=some (.int .i64 tl)) w7.drew):=HSB.out _ _ H7D.out (HK6.out.trans (Chg.nx (show Nx w7 w7.drew from(Below.refl _ _).drew)))
 refine(wpIn_wide (n:=9)).1 ?_
 refine Q9 (c:=12) (S:=λq=>q.cell? ⟨w.heap.size+1,0,none⟩=some (.slice (some ⟨rb,ro,none⟩) s0 d0)/\q.cell? ⟨w.heap.size+1,1,none⟩=some (.slice (some ⟨eb,eo,none⟩) m1 e1)/\q.cell? ⟨w.heap.size+1,2,none⟩=some (.slice p2 s2 d2)/\q.cell? ⟨w.heap.size+1,3,none⟩=some (.slice p3 s3 d3)/\q.cell? ⟨lb,lo,none⟩=some (.int .i64 (hn:Int))/\q.cell? ⟨eb,eo+hn*7,none⟩=some (.int .i64 tl)) hmx (by kernel_rfl) (λhw hcl=>?_)
 refine tq (i:=0) (v:=.agg #[.slice (some ⟨rb,ro,none⟩) s0 d0,.slice (some ⟨eb,eo,none⟩) m1 e1,.slice p2 s2 d2,.slice p3 s3 d3]) (λhcl=>?_)
 refine tq (i:=1) (v:=.pointer (some ⟨w.heap.size+1,1,none⟩)) (λhcl=>?_)
 refine tq (i:=2) (v:=.slice (some ⟨eb,eo,none⟩) m1 e1) (λhcl=>?_)
 refine tq (i:=3) (v:=.slice (some ⟨lb,lo,none⟩) (ln+1) lc) (λhcl=>?_)
 refine tq (i:=4) (v:=.pointer (some ⟨lb,lo,none⟩)) (λhcl=>?_)
 refine tq (i:=5) (v:=.int .i64 (hn:Int)) (λhcl=>?_)
 refine tq (i:=6) (v:=.pointer (some ⟨eb,eo+hn*7,none⟩)) (λhcl=>?_)
 refine tq (i:=7) (v:=.pointer (some ⟨eb,eo+hn*7,none⟩)) (λhcl=>?_)
 refine tq (i:=8) (v:=.int .i64 tl) (λhcl=>?_)
 refine tq (i:=9) (v:=.pointer (some ⟨b,0,none⟩)) (λhcl=>?_)
 refine Q5 (i:=10) (by kernel_rfl) hcl (λhcl=>wpOpIn_step rfl (λK hK=>?_))
 go_simp
 refine⟨trivial,(callsIn_wide.2 (Uy B D b (.slice (some ⟨rb,ro,none⟩) s0 d0) (.slice (some ⟨eb,eo,none⟩) m1 e1) (.slice p2 s2 d2) (.slice p3 s3 d3) R tl false S3 _ (HRK.out _ H7D.out.chg) HLE.out H7D.out.src HOK3.out)).mono ?_⟩
 rintro e7 w8 ⟨rfl,hs1,hc1⟩
 have H8:=Q0 (H7D.out.drawn hs1 hc1)
 have HO8:=Q0 (H7D.out.rowDrawn (HO6.out.next (show Nx w7 w7.drew from(Below.refl _ _).drew)) hc1)
 have HK8:Hid (Chg (λx=>x<w3.heap.size) w4 w8):=(HK6.out.trans (Chg.nx (show Nx w7 w7.drew from(Below.refl _ _).drew))).trans (hc1.mono (λx hx=>by have hx':x=b:=hx;have:=HBL.out;omega))
 have HSS:Hid ((λq=>q.cell? ⟨w.heap.size+1,0,none⟩=some (.slice (some ⟨rb,ro,none⟩) s0 d0)/\q.cell? ⟨w.heap.size+1,1,none⟩=some (.slice (some ⟨eb,eo,none⟩) m1 e1)/\q.cell? ⟨w.heap.size+1,2,none⟩=some (.slice p2 s2 d2)/\q.cell? ⟨w.heap.size+1,3,none⟩=some (.slice p3 s3 d3)/\q.cell? ⟨lb,lo,none⟩=some (.int .i64 (hn:Int))/\q.cell? ⟨eb,eo+hn*7,none⟩=some (.int .i64 tl)) w8):=HSB.out _ _ H8.out HK8.out
 refine hK _ _ ⟨Or.inr HSS.out,?_⟩
 clear hK K hs1 hc1
 refine Q5 (i:=11) (by kernel_rfl) hcl (λhcl=>wpOpIn_step rfl (λK hK=>?_))
 go_simp
 refine hK _ _ ⟨Or.inr HSS.out,?_⟩
 clear hK K
 refine Qi (by kernel_rfl) ?_ _
 clear hw hcl HSS H7D
 have HOK4:Hid (SOk (pkS R.edges tl false S3)):=(Yp HOK3.out).1
 have HPA:=Q0 (Q0j (es:=R.edges) (nd:=tl) (out:=false) HOK3.out)
 have HDA:Hid (dwA N R.edges (ns S 10)=pkV R.edges tl false S3):=by unfold Hid dwA;rw[HDTL.out,HDS3.out]
 have HDS4:Hid (Fu N R.edges (ns S 10)=pkS R.edges tl false S3):=by unfold Hid Fu;rw[HDTL.out,HDS3.out]
 generalize pkS R.edges tl false S3=S4 at *
 generalize pkV R.edges tl false S3=aV at *
 clear hhn hhn' HSB H6 HO6 HK6
 obtain⟨_,_,y2⟩:=HKC.out w8 HK8.out
 have y3:w8.cell? ⟨w.heap.size+1,1,none⟩=some (.slice (some ⟨eb,eo,none⟩) m1 e1):=(H8.out.at 1 rfl).blk.cell (i:=1) rfl
 have y4:=HEH.out w8 H8.out.chg
 have hla:=HLA.out
 have hla':(la:Int)<m1:=by omega
 have hwl:IntKind.i64.wrap (ln:Int)=ln:=W8 _ (by have:=HLM.out;unfold maxLen at this;omega)
 have hln1:(ln:Int)<(ln:Int)+1:=by omega
 go_upto_region 16 with fail
 go_cut [15] from 128 to 138 (λs15 wc=>s15=.int .i64 (nh:Int)/\Hid (Nx w8 wc))
 case first=>
  go_quiet (fail)
  go_wp2
  go_meet
  exact⟨rfl,Vd _ _⟩
 case rest=>
 obtain⟨rfl,HX9⟩:=hcut
 generalize wc=w9 at *
 clear y2 y3 y4 hwl hln1 hla hla'
 have H9:=Q0 (H8.out.next HX9.out)
 have HO9:=Q0 (HO8.out.next HX9.out)
 clear H8 HO8 HX9 HK8 HKC HEH HET
 obtain⟨mF,hmF⟩:∃x,x=dwM N R.edges (ns S 10):=⟨_,rfl⟩
 have HDM:Hid (dwM N R.edges (ns S 10)=mF):=hmF.symm
 have HOKm:Hid (SOk mF.S):=by unfold Hid;rw[<-HDM.out];exact(Kb (show SOk (ns (Fu N R.edges (ns S 10)) 3) from Qj (by rw[HDS4.out];exact HOK4.out) _) _).1
 clear hmF
 go_wp2_with fail
 refine(Qe D b S4 3 w9 H9.out.src HOK4.out (by omega)).mono ?_
 rintro e w10 ⟨rfl,hs1,hc1⟩
 have H10:=Q0 (H9.out.drawn hs1 hc1)
 have HO10:=Q0 (H9.out.rowDrawn HO9.out hc1)
 obtain⟨M,hM⟩:∃i:Nat,nv S4 3=i:=⟨(nv S4 3).toNat,by have:=(Qt HOK4.out 3).1;omega⟩
 have hM3:M<=3:=by have:=(Qt HOK4.out 3).2 (by omega);omega
 rw[hM]
 obtain⟨x0,hx0⟩:∃x,x=dwX N R.edges (ns S 10):=⟨_,rfl⟩
 have hx0':x0=⟨ns S4 3,(nh:Int),[idw],false⟩:=by rw[hx0];unfold dwX;rw[HDS4.out,HXH.out,HDW.out,<-HIDW.out]
 have HF0:Hid (mF=Vz N R.edges x0 M):=by unfold Hid;rw[<-HDM.out];unfold dwM;rw[<-hx0,HDS4.out,hM,Int.toNat_natCast]
 have HX0f:Hid ((Vz N R.edges x0 0).fin=(nh:Int)):=by unfold Hid;rw[hx0'];rfl
 have HX0p:Hid ((Vz N R.edges x0 0).stop=false):=by unfold Hid;rw[hx0'];rfl
 have HX0l:Hid ((Vz N R.edges x0 0).ways.length=1):=by unfold Hid;rw[hx0'];rfl
 have HL0:Hid (FR D b w w10 (Vz N R.edges x0 0).S (bl4 w.heap.size #[.slice (some ⟨nb,no,none⟩) m0 t0,.slice (some ⟨wb,wo,none⟩) mw c1,.slice r2 m2 t2,.slice r3 m3 t3,.int .i64 N.uturn] #[.slice (some ⟨rb,ro,none⟩) s0 d0,.slice (some ⟨eb,eo,none⟩) m1 e1,.slice p2 s2 d2,.slice p3 s3 d3] g #[.int .i64 0,.bool false,.int .i64 0,.int .i64 0,.bool false,.int .i64 0,(.slice a6 1 c6)])):=by unfold Hid;rw[hx0'];exact H10.out
 have HLo0:Hid (Qb w.heap.size w10 (.slice a6 1 c6) (Vz N R.edges x0 0).ways):=by unfold Hid;rw[hx0'];exact HO10.out
 have HX0k:Hid (SOk x0.S):=by unfold Hid;rw[hx0'];show SOk (ns S4 3);exact Qj HOK4.out _
 have HX04:Hid (x0.ways.length<=4):=by unfold Hid;rw[hx0'];show([_]:List Int).length<=4;simp
 clear hs1 hc1 hM hx0 hx0' H9 HO9 H10 HO10 HXH HIDW
 go_upto_block 0 with fail
 go_cut [15,16,17,18,19] from 141 to 215 (λs15 s16 s17 s18 s19 wc=>∃(n cv:Nat) (av:Option Addr),s15=.int .i64 mF.fin/\Hid (mF.ways.length=n)/\Hid (FR D b w wc mF.S (bl4 w.heap.size #[.slice (some ⟨nb,no,none⟩) m0 t0,.slice (some ⟨wb,wo,none⟩) mw c1,.slice r2 m2 t2,.slice r3 m3 t3,.int .i64 N.uturn] #[.slice (some ⟨rb,ro,none⟩) s0 d0,.slice (some ⟨eb,eo,none⟩) m1 e1,.slice p2 s2 d2,.slice p3 s3 d3] g #[.int .i64 0,.bool false,.int .i64 0,.int .i64 0,.bool false,.int .i64 0,(.slice av n cv)]))/\Hid (Qb w.heap.size wc (.slice av n cv) mF.ways))
 case first=>
  go_wp2_with fail
  go_loopw [15,16] (λs15 s16 wr=>∃(l j n cv:Nat) (av:Option Addr),l+j=M/\s16=.int .i64 (l:Int)/\s15=.int .i64 (Vz N R.edges x0 j).fin/\Hid ((Vz N R.edges x0 j).stop=false)/\Hid ((Vz N R.edges x0 j).ways.length=n)/\Hid (FR D b w wr (Vz N R.edges x0 j).S (bl4 w.heap.size #[.slice (some ⟨nb,no,none⟩) m0 t0,.slice (some ⟨wb,wo,none⟩) mw c1,.slice r2 m2 t2,.slice r3 m3 t3,.int .i64 N.uturn] #[.slice (some ⟨rb,ro,none⟩) s0 d0,.slice (some ⟨eb,eo,none⟩) m1 e1,.slice p2 s2 d2,.slice p3 s3 d3] g #[.int .i64 0,.bool false,.int .i64 0,.int .i64 0,.bool false,.int .i64 0,(.slice av n cv)]))/\Hid (Qb w.heap.size wr (.slice av n cv) (Vz N R.edges x0 j).ways)) (λ_ i _=>(intOf i).toNat)
  case atStart=>exact⟨M,0,1,c6,a6,rfl,rfl,by rw[HX0f.out],HX0p,HX0l,HL0,HLo0⟩
  obtain⟨l,j,n,cv,av,hlj,rfl,rfl,HSTP,HLn,Hj,HOj⟩:=hrel
  by_cases hl:0<l
  ·have hl':(0:Int)<l:=by omega
   have HOKj:Hid (SOk (Vz N R.edges x0 j).S):=(Kb HX0k.out j).1
   have HW4:Hid ((Vz N R.edges x0 j).ways.length<=4):=Fb HX04.out j
   have HST:Hid (Vz N R.edges x0 (j+1)=Uw N R.edges (Vz N R.edges x0 j)):=rfl
   have HFI:Hid (∀x,x=Vz N R.edges x0 j->Uw N R.edges x=if x.stop then x else if pkV R.edges x.fin true x.S<0 then ⟨pkS R.edges x.fin true x.S,x.fin,x.ways,true⟩ else ⟨pkS R.edges x.fin true x.S,(Q1z N R.edges (pkV R.edges x.fin true x.S).toNat (x.fin,x.ways)).1,(Q1z N R.edges (pkV R.edges x.fin true x.S).toNat (x.fin,x.ways)).2,false⟩):=λx _=>rfl
   replace HFI:=Q0 (HFI.out _ rfl)
   rw[HSTP.out] at HFI
   obtain⟨l',rfl⟩:∃l',l=l'+1:=⟨l-1,by omega⟩
   have hwr:IntKind.i64.wrap (l':Int)=l':=W8 _ (by omega)
   generalize hxj:Vz N R.edges x0 j=xj at *
   clear hxj HSTP hl hl'
   obtain⟨sj,fj,yj,bj⟩:=xj
   simp only at HLn Hj HOj HOKj HW4 HFI ⊢
   have rc0:wr.cell? ⟨w.heap.size+1,0,none⟩=some (.slice (some ⟨rb,ro,none⟩) s0 d0):=(Hj.out.at 1 rfl).blk.cell (i:=0) rfl
   have rc1:wr.cell? ⟨w.heap.size+1,1,none⟩=some (.slice (some ⟨eb,eo,none⟩) m1 e1):=(Hj.out.at 1 rfl).blk.cell (i:=1) rfl
   have rc2:wr.cell? ⟨w.heap.size+1,2,none⟩=some (.slice p2 s2 d2):=(Hj.out.at 1 rfl).blk.cell (i:=2) rfl
   have rc3:wr.cell? ⟨w.heap.size+1,3,none⟩=some (.slice p3 s3 d3):=(Hj.out.at 1 rfl).blk.cell (i:=3) rfl
   go_wp2_with fail
   refine(Uy B D b (.slice (some ⟨rb,ro,none⟩) s0 d0) (.slice (some ⟨eb,eo,none⟩) m1 e1) (.slice p2 s2 d2) (.slice p3 s3 d3) R fj true sj wr (HRK.out _ Hj.out.chg) HLE.out Hj.out.src HOKj.out).mono ?_
   rintro e wq ⟨rfl,hs1,hc1⟩
   have Hq:=Q0 (Hj.out.drawn hs1 hc1)
   have HOq:=Q0 (Hj.out.rowDrawn HOj.out hc1)
   have HPV:=Q0 (Q0j (es:=R.edges) (nd:=fj) (out:=true) HOKj.out)
   generalize pkS R.edges fj true sj=S' at *
   generalize pkV R.edges fj true sj=ev at *
   clear hs1 hc1 rc0 rc1 rc2 rc3 Hj HOj
   rcases HPV.out with rfl|⟨ie,rfl,hie⟩
   ·have HJ1:Hid (Vz N R.edges x0 (j+1)=⟨S',fj,yj,true⟩):=by unfold Hid;rw[HST.out,HFI.out,if_neg (by decide),if_pos (by decide)]
    have HMF:Hid (mF=⟨S',fj,yj,true⟩):=by
     unfold Hid
     rw[HF0.out,<-HJ1.out]
     exact Ab (by rw[HJ1.out]) M (by omega)
    go_wp2
    go_meet
    rw[HMF.out]
    exact⟨n,cv,av,rfl,HLn,Hq,HOq⟩
   ·rw[HE'.out] at hie
    have hie':(ie:Int)<m1:=by omega
    have hien:¬((ie:Int)<0):=by omega
    have hied:decide ((ie:Int)<0)=false:=by simp
    obtain⟨ye,hye,eye⟩:=HII.out.way ie (by rw[HE'.out];exact hie)
    have EYE:Hid ((eat R.edges ie).way=(ye:Int)):=eye
    clear eye
    rw[HW'.out] at hye
    have hye':(ye:Int)<mw:=by omega
    have HSD:Hid (∀q S',FR D b w q S' (bl4 w.heap.size #[.slice (some ⟨nb,no,none⟩) m0 t0,.slice (some ⟨wb,wo,none⟩) mw c1,.slice r2 m2 t2,.slice r3 m3 t3,.int .i64 N.uturn] #[.slice (some ⟨rb,ro,none⟩) s0 d0,.slice (some ⟨eb,eo,none⟩) m1 e1,.slice p2 s2 d2,.slice p3 s3 d3] g #[.int .i64 0,.bool false,.int .i64 0,.int .i64 0,.bool false,.int .i64 0,(.slice av n cv)])->(λq=>q.cell? ⟨w.heap.size,0,none⟩=some (.slice (some ⟨nb,no,none⟩) m0 t0)/\q.cell? ⟨w.heap.size,1,none⟩=some (.slice (some ⟨wb,wo,none⟩) mw c1)/\q.cell? ⟨w.heap.size,2,none⟩=some (.slice r2 m2 t2)/\q.cell? ⟨w.heap.size,3,none⟩=some (.slice r3 m3 t3)/\q.cell? ⟨w.heap.size,4,none⟩=some (.int .i64 N.uturn)/\q.cell? ⟨w.heap.size+1,0,none⟩=some (.slice (some ⟨rb,ro,none⟩) s0 d0)/\q.cell? ⟨w.heap.size+1,1,none⟩=some (.slice (some ⟨eb,eo,none⟩) m1 e1)/\q.cell? ⟨w.heap.size+1,2,none⟩=some (.slice p2 s2 d2)/\q.cell? ⟨w.heap.size+1,3,none⟩=some (.slice p3 s3 d3)/\q.cell? ⟨eb,eo+ie*7+3,none⟩=some (.int .i64 (ye:Int))) q):=λq S' h=>⟨(h.at 0 rfl).blk.cell (i:=0) rfl,(h.at 0 rfl).blk.cell (i:=1) rfl,(h.at 0 rfl).blk.cell (i:=2) rfl,(h.at 0 rfl).blk.cell (i:=3) rfl,(h.at 0 rfl).blk.cell (i:=4) rfl,(h.at 1 rfl).blk.cell (i:=0) rfl,(h.at 1 rfl).blk.cell (i:=1) rfl,(h.at 1 rfl).blk.cell (i:=2) rfl,(h.at 1 rfl).blk.cell (i:=3) rfl,by have k:=(HEC.out q h.chg ie hie).2.2.2.1;rw[EYE.out] at k;exact k⟩
    go_upto_region 22 with fail
    have HqD:=Q0 (Hq.out.next (show Nx wq wq.drew from(Below.refl _ _).drew))
    have HSS:Hid ((λq=>q.cell? ⟨w.heap.size,0,none⟩=some (.slice (some ⟨nb,no,none⟩) m0 t0)/\q.cell? ⟨w.heap.size,1,none⟩=some (.slice (some ⟨wb,wo,none⟩) mw c1)/\q.cell? ⟨w.heap.size,2,none⟩=some (.slice r2 m2 t2)/\q.cell? ⟨w.heap.size,3,none⟩=some (.slice r3 m3 t3)/\q.cell? ⟨w.heap.size,4,none⟩=some (.int .i64 N.uturn)/\q.cell? ⟨w.heap.size+1,0,none⟩=some (.slice (some ⟨rb,ro,none⟩) s0 d0)/\q.cell? ⟨w.heap.size+1,1,none⟩=some (.slice (some ⟨eb,eo,none⟩) m1 e1)/\q.cell? ⟨w.heap.size+1,2,none⟩=some (.slice p2 s2 d2)/\q.cell? ⟨w.heap.size+1,3,none⟩=some (.slice p3 s3 d3)/\q.cell? ⟨eb,eo+ie*7+3,none⟩=some (.int .i64 (ye:Int))) wq.drew):=HSD.out _ _ HqD.out
    refine(wpIn_wide (n:=9)).1 ?_
    refine Q9 (c:=10) (S:=λq=>q.cell? ⟨w.heap.size,0,none⟩=some (.slice (some ⟨nb,no,none⟩) m0 t0)/\q.cell? ⟨w.heap.size,1,none⟩=some (.slice (some ⟨wb,wo,none⟩) mw c1)/\q.cell? ⟨w.heap.size,2,none⟩=some (.slice r2 m2 t2)/\q.cell? ⟨w.heap.size,3,none⟩=some (.slice r3 m3 t3)/\q.cell? ⟨w.heap.size,4,none⟩=some (.int .i64 N.uturn)/\q.cell? ⟨w.heap.size+1,0,none⟩=some (.slice (some ⟨rb,ro,none⟩) s0 d0)/\q.cell? ⟨w.heap.size+1,1,none⟩=some (.slice (some ⟨eb,eo,none⟩) m1 e1)/\q.cell? ⟨w.heap.size+1,2,none⟩=some (.slice p2 s2 d2)/\q.cell? ⟨w.heap.size+1,3,none⟩=some (.slice p3 s3 d3)/\q.cell? ⟨eb,eo+ie*7+3,none⟩=some (.int .i64 (ye:Int))) hmx (by kernel_rfl) (λhw hcl=>?_)
    refine tq (i:=0) (v:=.agg #[.slice (some ⟨nb,no,none⟩) m0 t0,.slice (some ⟨wb,wo,none⟩) mw c1,.slice r2 m2 t2,.slice r3 m3 t3,.int .i64 N.uturn]) (λhcl=>?_)
    refine tq (i:=1) (v:=.agg #[.slice (some ⟨rb,ro,none⟩) s0 d0,.slice (some ⟨eb,eo,none⟩) m1 e1,.slice p2 s2 d2,.slice p3 s3 d3]) (λhcl=>?_)
    refine tq (i:=2) (v:=.pointer (some ⟨w.heap.size+1,1,none⟩)) (λhcl=>?_)
    refine tq (i:=3) (v:=.slice (some ⟨eb,eo,none⟩) m1 e1) (λhcl=>?_)
    refine tq (i:=4) (v:=.int .i64 (ie:Int)) (λhcl=>?_)
    refine tq (i:=5) (v:=.pointer (some ⟨eb,eo+ie*7,none⟩)) (λhcl=>?_)
    refine tq (i:=6) (v:=.pointer (some ⟨eb,eo+ie*7+3,none⟩)) (λhcl=>?_)
    refine tq (i:=7) (v:=.int .i64 (ye:Int)) (λhcl=>?_)
    refine Q5 (i:=8) (by kernel_rfl) hcl (λhcl=>wpOpIn_step rfl (λK hK=>?_))
    go_simp
    refine⟨trivial,(callsIn_wide.2 (Uj B B (.slice (some ⟨nb,no,none⟩) m0 t0) (.slice (some ⟨wb,wo,none⟩) mw c1) (.slice r2 m2 t2) (.slice r3 m3 t3) N (.slice (some ⟨rb,ro,none⟩) s0 d0) (.slice (some ⟨eb,eo,none⟩) m1 e1) (.slice p2 s2 d2) (.slice p3 s3 d3) R ye _ (HNK.out _ HqD.out.chg) (HRK.out _ HqD.out.chg) HLE.out (by rw[HW'.out];exact hye))).mono ?_⟩
    rintro e7 wt ⟨⟨ut,rfl,how⟩,hxt⟩
    have Ht:=Q0 (HqD.out.next hxt)
    have HOt:=Q0 ((HOq.out.next (show Nx wq wq.drew from(Below.refl _ _).drew)).next hxt)
    have HSS:Hid ((λq=>q.cell? ⟨w.heap.size,0,none⟩=some (.slice (some ⟨nb,no,none⟩) m0 t0)/\q.cell? ⟨w.heap.size,1,none⟩=some (.slice (some ⟨wb,wo,none⟩) mw c1)/\q.cell? ⟨w.heap.size,2,none⟩=some (.slice r2 m2 t2)/\q.cell? ⟨w.heap.size,3,none⟩=some (.slice r3 m3 t3)/\q.cell? ⟨w.heap.size,4,none⟩=some (.int .i64 N.uturn)/\q.cell? ⟨w.heap.size+1,0,none⟩=some (.slice (some ⟨rb,ro,none⟩) s0 d0)/\q.cell? ⟨w.heap.size+1,1,none⟩=some (.slice (some ⟨eb,eo,none⟩) m1 e1)/\q.cell? ⟨w.heap.size+1,2,none⟩=some (.slice p2 s2 d2)/\q.cell? ⟨w.heap.size+1,3,none⟩=some (.slice p3 s3 d3)/\q.cell? ⟨eb,eo+ie*7+3,none⟩=some (.int .i64 (ye:Int))) wt):=HSD.out _ _ Ht.out
    refine hK _ _ ⟨Or.inr HSS.out,?_⟩
    clear hK K
    refine Q5 (i:=9) (by kernel_rfl) hcl (λhcl=>wpOpIn_step rfl (λK hK=>?_))
    go_simp
    refine hK _ _ ⟨Or.inr HSS.out,?_⟩
    clear hK K
    refine Qi (by kernel_rfl) ?_ _
    clear hw hcl HSS
    have HWT:=Q0 how.held
    have HGC:Hid (g<wq.drew.heap.size):=(show BT wq.drew g _ 48 from HqD.out.at 3 rfl).lt
    have HV0:Hid (∀y,(Value.slice av n cv).ownBlock=some y->y<wq.drew.heap.size\/wt.heap.size<=y):=λy hy=>Or.inl (Ql (HOq.out.next (show Nx wq wq.drew from(Below.refl _ _).drew)) y hy).2
    have HTV:Hid (∀t∈Vg N R.edges ye,t≠[]/\∀e∈t,e<R.edges.length):=HII.out.trav ye (by rw[HW'.out];exact hye) (by rw[HE'.out];exact hE)
    have HEY:Hid (ewy R.edges (ie:Int)=(ye:Int)):=by unfold Hid ewy;rw[Int.toNat_natCast];exact EYE.out
    obtain⟨ide,hide⟩:∃z,z=(wat N.ways ye).id:=⟨_,rfl⟩
    have HIDE:Hid (ide=(wat N.ways ye).id):=hide
    have HIE:Hid (Tq N.ways (ewy R.edges (ie:Int))=ide):=by unfold Hid;rw[HEY.out,hide];unfold Tq;rw[Int.toNat_natCast]
    have HMI:Hid (Q1z N R.edges ie (fj,yj)=U2 N.ways R.edges (Vg N R.edges ye) ie (fj,yj) (Vg N R.edges ye).length):=by unfold Hid Q1z;rw[HEY.out,Int.toNat_natCast]
    have HJ1:Hid (Vz N R.edges x0 (j+1)=⟨S',(Q1z N R.edges ie (fj,yj)).1,(Q1z N R.edges ie (fj,yj)).2,false⟩):=by unfold Hid;rw[HST.out,HFI.out,if_neg (by decide),if_neg (show ¬((ie:Int)<0) by omega),Int.toNat_natCast]
    rw[HMI.out] at HJ1
    clear hide
    generalize hC1:wq.drew.heap.size=C1 at *
    clear HqD HSD hxt how hC1 HMI HPV HFI HST
    obtain⟨ta,tc,rfl⟩:=HWT.out.slice'
    generalize hTL:((Vg N R.edges ye).map Jt).length=TL0
    have HTL:Hid ((Vg N R.edges ye).length=TL0):=by unfold Hid;rw[<-hTL,List.length_map]
    rw[hTL] at HWT
    clear hTL
    rw[HTL.out] at HJ1
    have hT4:TL0<=2:=by rw[<-HTL.out];exact A0 _ _ _
    generalize htt:Vg N R.edges ye=tt at *
    clear htt
    go_wp2
    go_loopw [15,19] (λs15 s19 wr=>∃(i n cv:Nat) (av:Option Addr),i<=TL0/\s19=.int .i64 (i:Int)/\s15=.int .i64 (U2 N.ways R.edges tt ie (fj,yj) i).1/\Hid ((U2 N.ways R.edges tt ie (fj,yj) i).2.length=n)/\Hid (FR D b w wr S' (bl4 w.heap.size #[.slice (some ⟨nb,no,none⟩) m0 t0,.slice (some ⟨wb,wo,none⟩) mw c1,.slice r2 m2 t2,.slice r3 m3 t3,.int .i64 N.uturn] #[.slice (some ⟨rb,ro,none⟩) s0 d0,.slice (some ⟨eb,eo,none⟩) m1 e1,.slice p2 s2 d2,.slice p3 s3 d3] g #[.int .i64 0,.bool false,.int .i64 0,.int .i64 0,.bool false,.int .i64 0,(.slice av n cv)]))/\Hid (Qb w.heap.size wr (.slice av n cv) (U2 N.ways R.edges tt ie (fj,yj) i).2)/\Hid (Chg (λx=>x<C1) wt wr)/\Hid (∀y,(Value.slice av n cv).ownBlock=some y->y<C1\/wt.heap.size<=y)) (λ_ i _=>TL0-(intOf i).toNat)
    case atStart=>exact⟨0,n,cv,av,Nat.zero_le _,rfl,rfl,HLn,Ht,HOt,Chg.nx (Nx.refl _),HV0⟩
    clear HLn Ht HOt HV0 Hq HOq
    obtain⟨i,n,cv,av,hi,rfl,rfl,HLn,Hi,HOi,HKi,HVi⟩:=hrel
    by_cases hlt:i<TL0
    ·have hlt':(i:Int)<TL0:=by omega
     obtain⟨hne,hall⟩:=HTV.out (ltd tt i) (Q5h (by rw[HTL.out];exact hlt))
     obtain⟨tb,to_,tc',lb,lo,ln,lc,eu,hlen,hct,htl,hcl,hll,hlm,k0,k1,k2⟩:=Q4n HWT.out (by rw[HTL.out];exact hlt) hne
     rw[HTL.out] at eu
     simp only[Value.slice.injEq] at eu
     obtain⟨rfl,_,rfl⟩:=eu
     have HI1:Hid (U2 N.ways R.edges tt ie (fj,yj) (i+1)=if hdN (ltd tt i)=ie/\(U2 N.ways R.edges tt ie (fj,yj) i).2.length<4 then ((eat R.edges (laL (ltd tt i))).head,(U2 N.ways R.edges tt ie (fj,yj) i).2++[Tq N.ways (ewy R.edges ie)]) else U2 N.ways R.edges tt ie (fj,yj) i):=rfl
     rw[HIE.out,HLn.out] at HI1
     have HL4:Hid ((U2 N.ways R.edges tt ie (fj,yj) i).2.length<=4):=Fl _ _ _ _ HW4.out i
     rw[HLn.out] at HL4
     have hn4:=HL4.out
     have hla:laL (ltd tt i)<m1:=by rw[<-HE'.out];exact hall _ (Q5j hne)
     obtain⟨nh,hnh,eh⟩:=HII.out.head (laL (ltd tt i)) (by rw[HE'.out];exact hla)
     rw[eh] at HI1
     have HKC:Hid (∀q,Chg (λx=>x<C1) wt q->q.cell? ⟨tb,to_+i,none⟩=some (.slice (some ⟨lb,lo,none⟩) (ln+1) lc)/\q.cell? ⟨lb,lo,none⟩=some (.int .i64 (hdN (ltd tt i):Int))/\q.cell? ⟨lb,lo+ln,none⟩=some (.int .i64 (laL (ltd tt i):Int))):=λq hq=>⟨hq.cellU (by omega) k0,hq.cellU (by omega) k1,hq.cellU (by omega) k2⟩
     have HEH:Hid (∀q,Chg (Sx1 b) w q->q.cell? ⟨eb,eo+laL (ltd tt i)*7+1,none⟩=some (.int .i64 (nh:Int))):=λq hq=>by have k:=(HEC.out q hq (laL (ltd tt i)) hla).2.1;rw[eh] at k;exact k
     have HHE:Hid (laL (ltd tt i)<m1):=hla
     have HLM:Hid (ln+1<=maxLen):=hlm
     clear hlm
     generalize hhd:hdN (ltd tt i)=hd0 at *
     generalize hlL:laL (ltd tt i)=la at *
     obtain⟨y0,y1,y2⟩:=HKC.out wr HKi.out
     have y3:wr.cell? ⟨g,6,none⟩=some (.slice av n cv):=(Hi.out.at 3 rfl).blk.cell (i:=6) rfl
     clear k0 k1 k2 hhd hlL hne hall hlen hct htl hcl hll hla eh hnh
     generalize hx:U2 N.ways R.edges tt ie (fj,yj) i=xi at *
     clear hx
     obtain⟨xf,xl⟩:=xi
     simp only at HLn HOi HI1 ⊢
     by_cases c1':hd0=ie
     ·have c3:=c1'.symm
      clear c1'
      subst c3
      by_cases c2':n<4
      ·have c2i:(n:Int)<4:=by omega
       rw[if_pos ⟨rfl,c2'⟩] at HI1
       have HSE:Hid (∀q S',FR D b w q S' (bl4 w.heap.size #[.slice (some ⟨nb,no,none⟩) m0 t0,.slice (some ⟨wb,wo,none⟩) mw c1,.slice r2 m2 t2,.slice r3 m3 t3,.int .i64 N.uturn] #[.slice (some ⟨rb,ro,none⟩) s0 d0,.slice (some ⟨eb,eo,none⟩) m1 e1,.slice p2 s2 d2,.slice p3 s3 d3] g #[.int .i64 0,.bool false,.int .i64 0,.int .i64 0,.bool false,.int .i64 0,(.slice av n cv)])->∀{q'},Nx q q'->(λq=>q.cell? ⟨g,6,none⟩=some (.slice av n cv)/\q.cell? ⟨w.heap.size,1,none⟩=some (.slice (some ⟨wb,wo,none⟩) mw c1)/\q.cell? ⟨w.heap.size+1,1,none⟩=some (.slice (some ⟨eb,eo,none⟩) m1 e1)/\q.cell? ⟨eb,eo+ie*7+3,none⟩=some (.int .i64 (ye:Int))/\q.cell? ⟨wb,wo+ye*4,none⟩=some (.int .i64 ide)) q'):=λq S' h q' hq=>⟨Qf hq ((h.at 3 rfl).blk.cell (i:=6) rfl),Qf hq ((h.at 0 rfl).blk.cell (i:=1) rfl),Qf hq ((h.at 1 rfl).blk.cell (i:=1) rfl),Qf hq (by have k:=(HEC.out q h.chg ie hie).2.2.2.1;rw[EYE.out] at k;exact k),Qf hq (by rw[HIDE.out];exact HWC.out q h.chg ye hye)⟩
       go_upto_region 27 with fail
       have HiD:=Q0 (Hi.out.next (show Nx wr wr.drew from(Below.refl _ _).drew))
       have HOiD:=Q0 (HOi.out.next (show Nx wr wr.drew from(Below.refl _ _).drew))
       have HSS:Hid ((λq=>q.cell? ⟨g,6,none⟩=some (.slice av n cv)/\q.cell? ⟨w.heap.size,1,none⟩=some (.slice (some ⟨wb,wo,none⟩) mw c1)/\q.cell? ⟨w.heap.size+1,1,none⟩=some (.slice (some ⟨eb,eo,none⟩) m1 e1)/\q.cell? ⟨eb,eo+ie*7+3,none⟩=some (.int .i64 (ye:Int))/\q.cell? ⟨wb,wo+ye*4,none⟩=some (.int .i64 ide)) wr.drew):=HSE.out _ _ HiD.out (Nx.refl _)
       clear y0 y1 y2 y3
       refine(wpIn_wide (n:=9)).1 ?_
       refine Q9 (c:=16) (S:=λq=>q.cell? ⟨g,6,none⟩=some (.slice av n cv)/\q.cell? ⟨w.heap.size,1,none⟩=some (.slice (some ⟨wb,wo,none⟩) mw c1)/\q.cell? ⟨w.heap.size+1,1,none⟩=some (.slice (some ⟨eb,eo,none⟩) m1 e1)/\q.cell? ⟨eb,eo+ie*7+3,none⟩=some (.int .i64 (ye:Int))/\q.cell? ⟨wb,wo+ye*4,none⟩=some (.int .i64 ide)) hmx (by kernel_rfl) (λhw hcl=>?_)
       have HXi:Hid (Nx wr wr.drew):=(Below.refl _ _).drew
       generalize wr.drew=wdi at *
       refine tq (i:=0) (v:=.pointer (some ⟨g,6,none⟩)) (λhcl=>?_)
       refine tq (i:=1) (v:=.slice av n cv) (λhcl=>?_)
       refine tq (i:=2) (v:=.pointer (some ⟨w.heap.size,1,none⟩)) (λhcl=>?_)
       refine tq (i:=3) (v:=.slice (some ⟨wb,wo,none⟩) mw c1) (λhcl=>?_)
       refine tq (i:=4) (v:=.pointer (some ⟨w.heap.size+1,1,none⟩)) (λhcl=>?_)
       refine tq (i:=5) (v:=.slice (some ⟨eb,eo,none⟩) m1 e1) (λhcl=>?_)
       refine tq (i:=6) (v:=.int .i64 (ie:Int)) (λhcl=>?_)
       refine tq (i:=7) (v:=.pointer (some ⟨eb,eo+ie*7,none⟩)) (λhcl=>?_)
       refine tq (i:=8) (v:=.pointer (some ⟨eb,eo+ie*7+3,none⟩)) (λhcl=>?_)
       refine tq (i:=9) (v:=.int .i64 (ye:Int)) (λhcl=>?_)
       refine tq (i:=10) (v:=.pointer (some ⟨wb,wo+ye*4,none⟩)) (λhcl=>?_)
       refine tq (i:=11) (v:=.pointer (some ⟨wb,wo+ye*4,none⟩)) (λhcl=>?_)
       refine tq (i:=12) (v:=.int .i64 ide) (λhcl=>?_)
       refine Q5 (i:=13) (by kernel_rfl) hcl (λhcl=>wpOpIn_step rfl (λK hK=>?_))
       go_simp
       refine hK _ _ ⟨Or.inr (HSE.out _ _ HiD.out (Qd _ _)),?_⟩
       clear hK K
       refine Q5 (i:=14) (by kernel_rfl) hcl (λhcl=>wpOpIn_step rfl (λK hK=>?_))
       have hzi:w.heap.size<=wdi.heap.size:=HiD.out.chg.size
       refine Xz rfl (.tmp 182) (.tmp 194) rfl w.heap.size n (.slice av n cv) xl ide wdi _ rfl (by simp[Act.eval]) HOiD.out (by simp[Act.eval]) HLn.out (by omega) hzi ?_
       intro a9 c9 w9 r1 r2 r3
       have H9a:=Q0 (HiD.out.grow HOiD.out (Nat.le_refl _) r2)
       have HO9a:Hid (Qb w.heap.size w9 (.slice a9 (n+1) c9) (xl++[ide])):=r1
       have HK9a:Hid (Chg (λx=>x<C1) wt w9):=(HKi.out.trans (Chg.nx HXi.out)).young r2 (λx hx hl=>(HVi.out x hx.symm).resolve_right (by omega))
       have HV9:Hid (∀y,(Value.slice a9 (n+1) c9).ownBlock=some y->y<C1\/wt.heap.size<=y):=λy hy=>(r3 y hy).elim (HVi.out y) (λh=>Or.inr (Nat.le_trans HKi.out.size (Nat.le_trans HXi.out.size h)))
       have HS9:Hid ((λq=>q.cell? ⟨g,6,none⟩=some (.slice av n cv)/\q.cell? ⟨w.heap.size,1,none⟩=some (.slice (some ⟨wb,wo,none⟩) mw c1)/\q.cell? ⟨w.heap.size+1,1,none⟩=some (.slice (some ⟨eb,eo,none⟩) m1 e1)/\q.cell? ⟨eb,eo+ie*7+3,none⟩=some (.int .i64 (ye:Int))/\q.cell? ⟨wb,wo+ye*4,none⟩=some (.int .i64 ide)) w9):=HSE.out _ _ H9a.out (Nx.refl _)
       refine hK _ _ ⟨Or.inr HS9.out,?_⟩
       clear hK K r1 r2 r3
       refine Q5 (i:=15) (by kernel_rfl) hcl (λhcl=>wpOpIn_step rfl (λK hK=>?_))
       go_simp
       refine hK _ _ ⟨Or.inr HS9.out,?_⟩
       clear hK K
       have BG:BT w9 g #[.int .i64 0,.bool false,.int .i64 0,.int .i64 0,.bool false,.int .i64 0,(.slice av n cv)] 48:=H9a.out.at 3 rfl
       have x6:=BG.blk.cell (i:=6) rfl
       have fz6:=BG.blk.frozen 6
       refine Qk (i:=16) (by kernel_rfl) (wpOpIn_step rfl (λK hK=>?_))
       go_simp
       refine hK _ _ ⟨Or.inl (by decide),?_⟩
       clear hK K
       refine Qi (by kernel_rfl) ?_ _
       clear x6 fz6 hw hcl HSS HS9
       have H9:Hid (FR D b w (w9.setCell ⟨g,6,none⟩ (.slice a9 (n+1) c9)) S' (bl4 w.heap.size #[.slice (some ⟨nb,no,none⟩) m0 t0,.slice (some ⟨wb,wo,none⟩) mw c1,.slice r2 m2 t2,.slice r3 m3 t3,.int .i64 N.uturn] #[.slice (some ⟨rb,ro,none⟩) s0 d0,.slice (some ⟨eb,eo,none⟩) m1 e1,.slice p2 s2 d2,.slice p3 s3 d3] g #[.int .i64 0,.bool false,.int .i64 0,.int .i64 0,.bool false,.int .i64 0,(.slice a9 (n+1) c9)])):=H9a.out.set 3 rfl 6 _
       have HO9:Hid (Qb w.heap.size (w9.setCell ⟨g,6,none⟩ (.slice a9 (n+1) c9)) (.slice a9 (n+1) c9) (xl++[ide])):=H9a.out.rowTurn 3 rfl HO9a.out (Chg.set _ _ _ rfl)
       have HK9:Hid (Chg (λx=>x<C1) wt (w9.setCell ⟨g,6,none⟩ (.slice a9 (n+1) c9))):=HK9a.out.trans (Chg.set _ _ _ HGC.out)
       generalize w9.setCell ⟨g,6,none⟩ (.slice a9 (n+1) c9)=w10 at *
       clear BG H9a HO9a HK9a HiD HOiD
       obtain⟨y0,y1,y2⟩:=HKC.out w10 HK9.out
       have y3:w10.cell? ⟨w.heap.size+1,1,none⟩=some (.slice (some ⟨eb,eo,none⟩) m1 e1):=(H9.out.at 1 rfl).blk.cell (i:=1) rfl
       have y4:=HEH.out w10 H9.out.chg
       have hla:=HHE.out
       have hla':(la:Int)<m1:=by omega
       have hwl:IntKind.i64.wrap (ln:Int)=ln:=W8 _ (by have:=HLM.out;unfold maxLen at this;omega)
       go_upto_region 28 with fail
       go_quiet (fail)
       generalize wdq:w10.drewN nq=w11 at *
       have HX11:Hid (Nx w10 w11):=by unfold Hid;rw[<-wdq];exact Vd _ _
       clear wdq y0 y1 y2 y3 y4
       have H11:=Q0 (H9.out.next HX11.out)
       have HO11:Hid (Qb w.heap.size w11 (.slice a9 (n+1) c9) (U2 N.ways R.edges tt ie (fj,yj) (i+1)).2):=by unfold Hid;rw[HI1.out];exact HO9.out.next HX11.out
       have HK11:Hid (Chg (λx=>x<C1) wt w11):=HK9.out.trans (Chg.nx HX11.out)
       have HL11:Hid ((U2 N.ways R.edges tt ie (fj,yj) (i+1)).2.length=n+1):=by unfold Hid;rw[HI1.out];show(xl++[ide]).length=_;rw[List.length_append,HLn.out];rfl
       have HF11:Hid ((U2 N.ways R.edges tt ie (fj,yj) (i+1)).1=(nh:Int)):=by unfold Hid;rw[HI1.out]
       go_wp2
       go_roundw
       case rel=>exact⟨i+1,n+1,c9,a9,by omega,by go_num,by rw[HF11.out],HL11,H11,HO11,HK11,HV9⟩
       case measure=>simp[intOf];omega
      ·have c2i:¬(n:Int)<4:=by omega
       have c2d:decide ((n:Int)<4)=false:=by simp;omega
       rw[if_neg (λh=>c2' h.2)] at HI1
       go_wp2
       go_roundw
       case rel=>exact⟨i+1,n,cv,av,by omega,by go_num,by rw[HI1.out],by rw[HI1.out];exact HLn,Hi,by rw[HI1.out];exact HOi,HKi,HVi⟩
       case measure=>simp[intOf];omega
     ·have c1d:((hd0:Int)==(ie:Int))=false:=by simp;omega
      rw[if_neg (λh=>c1' h.1)] at HI1
      go_wp2
      go_roundw
      case rel=>exact⟨i+1,n,cv,av,by omega,by go_num,by rw[HI1.out],by rw[HI1.out];exact HLn,Hi,by rw[HI1.out];exact HOi,HKi,HVi⟩
      case measure=>simp[intOf];omega
    ·have hit:i=TL0:=by omega
     subst hit
     have HJ2:Hid ((Vz N R.edges x0 (j+1)).ways=(U2 N.ways R.edges tt ie (fj,yj) i).2/\(Vz N R.edges x0 (j+1)).fin=(U2 N.ways R.edges tt ie (fj,yj) i).1/\(Vz N R.edges x0 (j+1)).S=S'/\(Vz N R.edges x0 (j+1)).stop=false):=by unfold Hid;rw[HJ1.out];exact⟨rfl,rfl,rfl,rfl⟩
     clear HJ1
     go_wp2
     go_roundw
     case rel=>exact⟨l',j+1,n,cv,av,by omega,by go_num,by rw[HJ2.out.2.1],HJ2.out.2.2.2,by rw[HJ2.out.1];exact HLn,by rw[HJ2.out.2.2.1];exact Hi,by rw[HJ2.out.1];exact HOi⟩
     case measure=>simp[intOf]
  ·have hl0':l=0:=by omega
   subst hl0'
   have hjM:j=M:=by omega
   subst hjM
   rw[<-HF0.out] at HLn Hj HOj ⊢
   clear hl hlj
   go_wp2
   go_meet
   exact⟨n,cv,av,rfl,HLn,Hj,HOj⟩
 case rest=>
 obtain⟨n,cv,av,rfl,HLn,Hz0,HOz⟩:=hcut
 have rc0:wc.cell? ⟨w.heap.size+1,0,none⟩=some (.slice (some ⟨rb,ro,none⟩) s0 d0):=(Hz0.out.at 1 rfl).blk.cell (i:=0) rfl
 have rc1:wc.cell? ⟨w.heap.size+1,1,none⟩=some (.slice (some ⟨eb,eo,none⟩) m1 e1):=(Hz0.out.at 1 rfl).blk.cell (i:=1) rfl
 have rc2:wc.cell? ⟨w.heap.size+1,2,none⟩=some (.slice p2 s2 d2):=(Hz0.out.at 1 rfl).blk.cell (i:=2) rfl
 have rc3:wc.cell? ⟨w.heap.size+1,3,none⟩=some (.slice p3 s3 d3):=(Hz0.out.at 1 rfl).blk.cell (i:=3) rfl
 have HDB:Hid (dwB N R.edges (ns S 10)=pkV R.edges mF.fin true mF.S):=by unfold Hid dwB;rw[HDM.out]
 have HDS7:Hid (Q2g N R.edges (ns S 10)=pkS R.edges mF.fin true mF.S):=by unfold Hid Q2g;rw[HDM.out]
 go_wp2_with fail
 refine(Uy B D b (.slice (some ⟨rb,ro,none⟩) s0 d0) (.slice (some ⟨eb,eo,none⟩) m1 e1) (.slice p2 s2 d2) (.slice p3 s3 d3) R mF.fin true mF.S wc (HRK.out _ Hz0.out.chg) HLE.out Hz0.out.src HOKm.out).mono ?_
 rintro e wz0 ⟨rfl,hs1,hc1⟩
 have Hz:=Q0 (Hz0.out.drawn hs1 hc1)
 replace HOz:=Q0 (Hz0.out.rowDrawn HOz.out hc1)
 have HPB:=Q0 (Q0j (es:=R.edges) (nd:=mF.fin) (out:=true) HOKm.out)
 have HOK7:Hid (SOk (pkS R.edges mF.fin true mF.S)):=(Yp HOKm.out).1
 generalize pkS R.edges mF.fin true mF.S=S7 at *
 generalize pkV R.edges mF.fin true mF.S=bV at *
 clear hs1 hc1 rc0 rc1 rc2 rc3 Hz0 HOKm
 rcases HPA.out with rfl|⟨ia,rfl,hia⟩
 ·have HDR:Hid (drR N R S=Jq N S7):=by unfold Hid drR;rw[HD10.out,if_neg HND.out,if_neg (show ¬d10<6 by have:=HD6.out;omega),if_pos (Or.inl (by rw[HDA.out];decide)),HDS7.out]
  have HDS:Hid (drS N R S=Xr N S7):=by unfold Hid drS;rw[HD10.out,if_neg HND.out,if_neg (show ¬d10<6 by have:=HD6.out;omega),if_pos (Or.inl (by rw[HDA.out];decide)),HDS7.out]
  clear HPA HPB
  have nc0:wz0.cell? ⟨w.heap.size,0,none⟩=some (.slice (some ⟨nb,no,none⟩) m0 t0):=(Hz.out.at 0 rfl).blk.cell (i:=0) rfl
  have nc1:wz0.cell? ⟨w.heap.size,1,none⟩=some (.slice (some ⟨wb,wo,none⟩) mw c1):=(Hz.out.at 0 rfl).blk.cell (i:=1) rfl
  have nc2:wz0.cell? ⟨w.heap.size,2,none⟩=some (.slice r2 m2 t2):=(Hz.out.at 0 rfl).blk.cell (i:=2) rfl
  have nc3:wz0.cell? ⟨w.heap.size,3,none⟩=some (.slice r3 m3 t3):=(Hz.out.at 0 rfl).blk.cell (i:=3) rfl
  have nc4:wz0.cell? ⟨w.heap.size,4,none⟩=some (.int .i64 N.uturn):=(Hz.out.at 0 rfl).blk.cell (i:=4) rfl
  go_wp2_with fail
  refine(Xl B D b (.slice (some ⟨nb,no,none⟩) m0 t0) (.slice (some ⟨wb,wo,none⟩) mw c1) (.slice r2 m2 t2) (.slice r3 m3 t3) N.uturn N S7 wz0 (HNK.out _ Hz.out.chg) hB HP.out.1 HP.out.2.1 HP.out.2.2.1 HP.out.2.2.2 Hz.out.src HOK7.out).mono ?_
  rintro e wz ⟨va,rfl,ho,hs1,hc1⟩
  obtain⟨a7,c7,rfl⟩:=Q3 ho
  have HF:=Q0 (Hz.out.drawn hs1 hc1)
  have HO:Hid (Qb w.heap.size wz (.slice a7 (Jq N S7).ways.length c7) (Jq N S7).ways):=ho.base Hz.out.chg.size
  clear ho hs1 hc1 nc0 nc1 nc2 nc3 nc4
  generalize Jq N S7=rr at *
  generalize Xr N S7=rs at *
  obtain⟨q1,q2,q3,q4,q5,q6,q7⟩:=rr
  simp only at HO ⊢
  generalize q7.length=n7 at *
  have BR:BT wz (w.heap.size+2) #[.int .i64 0,.bool false,.int .i64 0,.int .i64 0,.bool false,.int .i64 0,.slice none 0 0] 48:=HF.out.at 2 rfl
  have x0:=BR.blk.cell (i:=0) rfl
  have fz0:=BR.blk.frozen 0
  have x1:=BR.blk.cell (i:=1) rfl
  have fz1:=BR.blk.frozen 1
  have x2:=BR.blk.cell (i:=2) rfl
  have fz2:=BR.blk.frozen 2
  have x3:=BR.blk.cell (i:=3) rfl
  have fz3:=BR.blk.frozen 3
  have x4:=BR.blk.cell (i:=4) rfl
  have fz4:=BR.blk.frozen 4
  have x5:=BR.blk.cell (i:=5) rfl
  have fz5:=BR.blk.frozen 5
  have x6:=BR.blk.cell (i:=6) rfl
  have fz6:=BR.blk.frozen 6
  have BS:=Pw (a0:=.int .i64 q1) (a1:=.bool q2) (a2:=.int .i64 q3) (a3:=.int .i64 q4) (a4:=.bool q5) (a5:=.int .i64 q6) (a6:=.slice a7 n7 c7) BR
  have P0:Hid (_=some (Value.int .i64 q1)):=BS.blk.cell (i:=0) rfl
  have P1:Hid (_=some (Value.bool q2)):=BS.blk.cell (i:=1) rfl
  have P2:Hid (_=some (Value.int .i64 q3)):=BS.blk.cell (i:=2) rfl
  have P3:Hid (_=some (Value.int .i64 q4)):=BS.blk.cell (i:=3) rfl
  have P4:Hid (_=some (Value.bool q5)):=BS.blk.cell (i:=4) rfl
  have P5:Hid (_=some (Value.int .i64 q6)):=BS.blk.cell (i:=5) rfl
  have P6:Hid (_=some (Value.slice a7 n7 c7)):=BS.blk.cell (i:=6) rfl
  have HCF:Hid (Chg (λx=>x=w.heap.size+2) wz (((((((wz.setCell ⟨w.heap.size+2,0,none⟩ (.int .i64 q1)).setCell ⟨w.heap.size+2,1,none⟩ (.bool q2)).setCell ⟨w.heap.size+2,2,none⟩ (.int .i64 q3)).setCell ⟨w.heap.size+2,3,none⟩ (.int .i64 q4)).setCell ⟨w.heap.size+2,4,none⟩ (.bool q5)).setCell ⟨w.heap.size+2,5,none⟩ (.int .i64 q6)).setCell ⟨w.heap.size+2,6,none⟩ (.slice a7 n7 c7))):=Kj
  have HBS:=Q0 BS
  clear BS BR
  go_wp2
  generalize hWF:(((((((wz.setCell ⟨w.heap.size+2,0,none⟩ (.int .i64 q1)).setCell ⟨w.heap.size+2,1,none⟩ (.bool q2)).setCell ⟨w.heap.size+2,2,none⟩ (.int .i64 q3)).setCell ⟨w.heap.size+2,3,none⟩ (.int .i64 q4)).setCell ⟨w.heap.size+2,4,none⟩ (.bool q5)).setCell ⟨w.heap.size+2,5,none⟩ (.int .i64 q6)).setCell ⟨w.heap.size+2,6,none⟩ (.slice a7 n7 c7))=wF at P0 P1 P2 P3 P4 P5 P6 HBS HCF ⊢
  have p0:=P0.out
  have p1:=P1.out
  have p2:=P2.out
  have p3:=P3.out
  have p4:=P4.out
  have p5:=P5.out
  have p6:=P6.out
  refine bodyPost_ret (v:=.agg #[.int .i64 q1,.bool q2,.int .i64 q3,.int .i64 q4,.bool q5,.int .i64 q6,.slice a7 n7 c7]) (by simp[results,Tryz.results66,go_sem,p0,p1,p2,p3,p4,p5,p6]) rfl ?_
  have hF:=HF.out.turn 2 rfl HCF.out HBS.out
  have hR:=HF.out.rowTurn 2 rfl HO.out HCF.out
  rw[HDR.out,HDS.out]
  exact⟨_,rfl,hR,hF.src,hF.chg⟩
 have hian:¬((ia:Int)<0):=by omega
 have hiad:decide ((ia:Int)<0)=false:=by simp
 rcases HPB.out with rfl|⟨ib,rfl,hib⟩
 ·have HDR:Hid (drR N R S=Jq N S7):=by unfold Hid drR;rw[HD10.out,if_neg HND.out,if_neg (show ¬d10<6 by have:=HD6.out;omega),if_pos (Or.inr (by rw[HDB.out];decide)),HDS7.out]
  have HDS:Hid (drS N R S=Xr N S7):=by unfold Hid drS;rw[HD10.out,if_neg HND.out,if_neg (show ¬d10<6 by have:=HD6.out;omega),if_pos (Or.inr (by rw[HDB.out];decide)),HDS7.out]
  clear HPA HPB
  have nc0:wz0.cell? ⟨w.heap.size,0,none⟩=some (.slice (some ⟨nb,no,none⟩) m0 t0):=(Hz.out.at 0 rfl).blk.cell (i:=0) rfl
  have nc1:wz0.cell? ⟨w.heap.size,1,none⟩=some (.slice (some ⟨wb,wo,none⟩) mw c1):=(Hz.out.at 0 rfl).blk.cell (i:=1) rfl
  have nc2:wz0.cell? ⟨w.heap.size,2,none⟩=some (.slice r2 m2 t2):=(Hz.out.at 0 rfl).blk.cell (i:=2) rfl
  have nc3:wz0.cell? ⟨w.heap.size,3,none⟩=some (.slice r3 m3 t3):=(Hz.out.at 0 rfl).blk.cell (i:=3) rfl
  have nc4:wz0.cell? ⟨w.heap.size,4,none⟩=some (.int .i64 N.uturn):=(Hz.out.at 0 rfl).blk.cell (i:=4) rfl
  go_wp2_with fail
  refine(Xl B D b (.slice (some ⟨nb,no,none⟩) m0 t0) (.slice (some ⟨wb,wo,none⟩) mw c1) (.slice r2 m2 t2) (.slice r3 m3 t3) N.uturn N S7 wz0 (HNK.out _ Hz.out.chg) hB HP.out.1 HP.out.2.1 HP.out.2.2.1 HP.out.2.2.2 Hz.out.src HOK7.out).mono ?_
  rintro e wz ⟨va,rfl,ho,hs1,hc1⟩
  obtain⟨a7,c7,rfl⟩:=Q3 ho
  have HF:=Q0 (Hz.out.drawn hs1 hc1)
  have HO:Hid (Qb w.heap.size wz (.slice a7 (Jq N S7).ways.length c7) (Jq N S7).ways):=ho.base Hz.out.chg.size
  clear ho hs1 hc1 nc0 nc1 nc2 nc3 nc4
  generalize Jq N S7=rr at *
  generalize Xr N S7=rs at *
  obtain⟨q1,q2,q3,q4,q5,q6,q7⟩:=rr
  simp only at HO ⊢
  generalize q7.length=n7 at *
  have BR:BT wz (w.heap.size+2) #[.int .i64 0,.bool false,.int .i64 0,.int .i64 0,.bool false,.int .i64 0,.slice none 0 0] 48:=HF.out.at 2 rfl
  have x0:=BR.blk.cell (i:=0) rfl
  have fz0:=BR.blk.frozen 0
  have x1:=BR.blk.cell (i:=1) rfl
  have fz1:=BR.blk.frozen 1
  have x2:=BR.blk.cell (i:=2) rfl
  have fz2:=BR.blk.frozen 2
  have x3:=BR.blk.cell (i:=3) rfl
  have fz3:=BR.blk.frozen 3
  have x4:=BR.blk.cell (i:=4) rfl
  have fz4:=BR.blk.frozen 4
  have x5:=BR.blk.cell (i:=5) rfl
  have fz5:=BR.blk.frozen 5
  have x6:=BR.blk.cell (i:=6) rfl
  have fz6:=BR.blk.frozen 6
  have BS:=Pw (a0:=.int .i64 q1) (a1:=.bool q2) (a2:=.int .i64 q3) (a3:=.int .i64 q4) (a4:=.bool q5) (a5:=.int .i64 q6) (a6:=.slice a7 n7 c7) BR
  have P0:Hid (_=some (Value.int .i64 q1)):=BS.blk.cell (i:=0) rfl
  have P1:Hid (_=some (Value.bool q2)):=BS.blk.cell (i:=1) rfl
  have P2:Hid (_=some (Value.int .i64 q3)):=BS.blk.cell (i:=2) rfl
  have P3:Hid (_=some (Value.int .i64 q4)):=BS.blk.cell (i:=3) rfl
  have P4:Hid (_=some (Value.bool q5)):=BS.blk.cell (i:=4) rfl
  have P5:Hid (_=some (Value.int .i64 q6)):=BS.blk.cell (i:=5) rfl
  have P6:Hid (_=some (Value.slice a7 n7 c7)):=BS.blk.cell (i:=6) rfl
  have HCF:Hid (Chg (λx=>x=w.heap.size+2) wz (((((((wz.setCell ⟨w.heap.size+2,0,none⟩ (.int .i64 q1)).setCell ⟨w.heap.size+2,1,none⟩ (.bool q2)).setCell ⟨w.heap.size+2,2,none⟩ (.int .i64 q3)).setCell ⟨w.heap.size+2,3,none⟩ (.int .i64 q4)).setCell ⟨w.heap.size+2,4,none⟩ (.bool q5)).setCell ⟨w.heap.size+2,5,none⟩ (.int .i64 q6)).setCell ⟨w.heap.size+2,6,none⟩ (.slice a7 n7 c7))):=Kj
  have HBS:=Q0 BS
  clear BS BR
  go_wp2
  generalize hWF:(((((((wz.setCell ⟨w.heap.size+2,0,none⟩ (.int .i64 q1)).setCell ⟨w.heap.size+2,1,none⟩ (.bool q2)).setCell ⟨w.heap.size+2,2,none⟩ (.int .i64 q3)).setCell ⟨w.heap.size+2,3,none⟩ (.int .i64 q4)).setCell ⟨w.heap.size+2,4,none⟩ (.bool q5)).setCell ⟨w.heap.size+2,5,none⟩ (.int .i64 q6)).setCell ⟨w.heap.size+2,6,none⟩ (.slice a7 n7 c7))=wF at P0 P1 P2 P3 P4 P5 P6 HBS HCF ⊢
  have p0:=P0.out
  have p1:=P1.out
  have p2:=P2.out
  have p3:=P3.out
  have p4:=P4.out
  have p5:=P5.out
  have p6:=P6.out
  refine bodyPost_ret (v:=.agg #[.int .i64 q1,.bool q2,.int .i64 q3,.int .i64 q4,.bool q5,.int .i64 q6,.slice a7 n7 c7]) (by simp[results,Tryz.results66,go_sem,p0,p1,p2,p3,p4,p5,p6]) rfl ?_
  have hF:=HF.out.turn 2 rfl HCF.out HBS.out
  have hR:=HF.out.rowTurn 2 rfl HO.out HCF.out
  rw[HDR.out,HDS.out]
  exact⟨_,rfl,hR,hF.src,hF.chg⟩
 have hibn:¬((ib:Int)<0):=by omega
 have hibd:decide ((ib:Int)<0)=false:=by simp
 obtain⟨ya,hya,eya⟩:=HII.out.way ia hia
 obtain⟨yb,hyb,eyb⟩:=HII.out.way ib hib
 rw[HE'.out] at hia hib
 rw[HW'.out] at hya hyb
 have hia':(ia:Int)<m1:=by omega
 have hib':(ib:Int)<m1:=by omega
 have hya':(ya:Int)<mw:=by omega
 have hyb':(yb:Int)<mw:=by omega
 obtain⟨fa,hfa⟩:∃z,z=(wat N.ways ya).id:=⟨_,rfl⟩
 obtain⟨fb,hfb⟩:∃z,z=(wat N.ways yb).id:=⟨_,rfl⟩
 have Hfa:Hid (fa=(wat N.ways ya).id):=hfa
 have Hfb:Hid (fb=(wat N.ways yb).id):=hfb
 have Eya:Hid ((eat R.edges ia).way=(ya:Int)):=eya
 have Eyb:Hid ((eat R.edges ib).way=(yb:Int)):=eyb
 have HNA:Hid (¬(dwA N R.edges (ns S 10)<0\/dwB N R.edges (ns S 10)<0)):=λh=>h.elim (λe=>by rw[HDA.out] at e;omega) (λe=>by rw[HDB.out] at e;omega)
 have HDR:Hid (drR N R S=⟨0,false,fa,fb,false,0,mF.ways⟩):=by
  unfold Hid drR
  rw[HD10.out,if_neg HND.out,if_neg (show ¬d10<6 by have:=HD6.out;omega),if_neg HNA.out,HDA.out,HDB.out,HDM.out]
  unfold ewy Tq
  rw[Int.toNat_natCast,Int.toNat_natCast,eya,eyb,Int.toNat_natCast,Int.toNat_natCast,hfa,hfb]
 have HDS:Hid (drS N R S=S7):=by unfold Hid drS;rw[HD10.out,if_neg HND.out,if_neg (show ¬d10<6 by have:=HD6.out;omega),if_neg HNA.out,HDS7.out]
 clear HPA HPB HNA hfa hfb eya eyb
 have HSX:Hid (∀q S' ra,FR D b w q S' (bl4 w.heap.size #[.slice (some ⟨nb,no,none⟩) m0 t0,.slice (some ⟨wb,wo,none⟩) mw c1,.slice r2 m2 t2,.slice r3 m3 t3,.int .i64 N.uturn] #[.slice (some ⟨rb,ro,none⟩) s0 d0,.slice (some ⟨eb,eo,none⟩) m1 e1,.slice p2 s2 d2,.slice p3 s3 d3] g ra)->(λq=>q.cell? ⟨w.heap.size,1,none⟩=some (.slice (some ⟨wb,wo,none⟩) mw c1)/\q.cell? ⟨w.heap.size+1,1,none⟩=some (.slice (some ⟨eb,eo,none⟩) m1 e1)/\q.cell? ⟨eb,eo+ia*7+3,none⟩=some (.int .i64 (ya:Int))/\q.cell? ⟨wb,wo+ya*4,none⟩=some (.int .i64 fa)) q):=λq S' ra h=>⟨(h.at 0 rfl).blk.cell (i:=1) rfl,(h.at 1 rfl).blk.cell (i:=1) rfl,by have k:=(HEC.out q h.chg ia hia).2.2.2.1;rw[Eya.out] at k;exact k,by rw[Hfa.out];exact HWC.out q h.chg ya hya⟩
 go_upto_region 32 with fail
 have HxD:=Q0 (Hz.out.next (show Nx wz0 wz0.drew from(Below.refl _ _).drew))
 have HOxD:=Q0 (HOz.out.next (show Nx wz0 wz0.drew from(Below.refl _ _).drew))
 have HSS:Hid ((λq=>q.cell? ⟨w.heap.size,1,none⟩=some (.slice (some ⟨wb,wo,none⟩) mw c1)/\q.cell? ⟨w.heap.size+1,1,none⟩=some (.slice (some ⟨eb,eo,none⟩) m1 e1)/\q.cell? ⟨eb,eo+ia*7+3,none⟩=some (.int .i64 (ya:Int))/\q.cell? ⟨wb,wo+ya*4,none⟩=some (.int .i64 fa)) wz0.drew):=HSX.out _ _ _ HxD.out
 refine(wpIn_wide (n:=9)).1 ?_
 refine Q9 (c:=12) (S:=λq=>q.cell? ⟨w.heap.size,1,none⟩=some (.slice (some ⟨wb,wo,none⟩) mw c1)/\q.cell? ⟨w.heap.size+1,1,none⟩=some (.slice (some ⟨eb,eo,none⟩) m1 e1)/\q.cell? ⟨eb,eo+ia*7+3,none⟩=some (.int .i64 (ya:Int))/\q.cell? ⟨wb,wo+ya*4,none⟩=some (.int .i64 fa)) hmx (by kernel_rfl) (λhw hcl=>?_)
 generalize wz0.drew=wd at *
 refine tq (i:=0) (v:=.pointer (some ⟨w.heap.size,1,none⟩)) (λhcl=>?_)
 refine tq (i:=1) (v:=.slice (some ⟨wb,wo,none⟩) mw c1) (λhcl=>?_)
 refine tq (i:=2) (v:=.pointer (some ⟨w.heap.size+1,1,none⟩)) (λhcl=>?_)
 refine tq (i:=3) (v:=.slice (some ⟨eb,eo,none⟩) m1 e1) (λhcl=>?_)
 refine tq (i:=4) (v:=.int .i64 (ia:Int)) (λhcl=>?_)
 refine tq (i:=5) (v:=.pointer (some ⟨eb,eo+ia*7,none⟩)) (λhcl=>?_)
 refine tq (i:=6) (v:=.pointer (some ⟨eb,eo+ia*7+3,none⟩)) (λhcl=>?_)
 refine tq (i:=7) (v:=.int .i64 (ya:Int)) (λhcl=>?_)
 refine tq (i:=8) (v:=.pointer (some ⟨wb,wo+ya*4,none⟩)) (λhcl=>?_)
 refine tq (i:=9) (v:=.pointer (some ⟨wb,wo+ya*4,none⟩)) (λhcl=>?_)
 refine tq (i:=10) (v:=.int .i64 fa) (λhcl=>?_)
 refine tq (i:=11) (v:=.pointer (some ⟨g,2,none⟩)) (λhcl=>?_)
 have BG:BT wd g #[.int .i64 0,.bool false,.int .i64 0,.int .i64 0,.bool false,.int .i64 0,.slice av n cv] 48:=HxD.out.at 3 rfl
 have x6:=BG.blk.cell (i:=2) rfl
 have fz6:=BG.blk.frozen 2
 refine Qk (i:=12) (by kernel_rfl) (wpOpIn_step rfl (λK hK=>?_))
 go_simp
 refine hK _ _ ⟨Or.inl (by decide),?_⟩
 clear hK K
 refine Qi (by kernel_rfl) ?_ _
 clear x6 fz6 hw hcl HSS HSX
 have Hz1:Hid (FR D b w (wd.setCell ⟨g,2,none⟩ (.int .i64 fa)) S7 (bl4 w.heap.size #[.slice (some ⟨nb,no,none⟩) m0 t0,.slice (some ⟨wb,wo,none⟩) mw c1,.slice r2 m2 t2,.slice r3 m3 t3,.int .i64 N.uturn] #[.slice (some ⟨rb,ro,none⟩) s0 d0,.slice (some ⟨eb,eo,none⟩) m1 e1,.slice p2 s2 d2,.slice p3 s3 d3] g #[.int .i64 0,.bool false,.int .i64 fa,.int .i64 0,.bool false,.int .i64 0,.slice av n cv])):=HxD.out.set 3 rfl 2 _
 replace HOz:=Q0 (HxD.out.rowTurn 3 rfl HOxD.out (Chg.set g 2 (.int .i64 fa) rfl))
 generalize wd.setCell ⟨g,2,none⟩ (.int .i64 fa)=wz1 at *
 clear BG HxD HOxD
 have HSX:Hid (∀q S' ra,FR D b w q S' (bl4 w.heap.size #[.slice (some ⟨nb,no,none⟩) m0 t0,.slice (some ⟨wb,wo,none⟩) mw c1,.slice r2 m2 t2,.slice r3 m3 t3,.int .i64 N.uturn] #[.slice (some ⟨rb,ro,none⟩) s0 d0,.slice (some ⟨eb,eo,none⟩) m1 e1,.slice p2 s2 d2,.slice p3 s3 d3] g ra)->(λq=>q.cell? ⟨w.heap.size,1,none⟩=some (.slice (some ⟨wb,wo,none⟩) mw c1)/\q.cell? ⟨w.heap.size+1,1,none⟩=some (.slice (some ⟨eb,eo,none⟩) m1 e1)/\q.cell? ⟨eb,eo+ib*7+3,none⟩=some (.int .i64 (yb:Int))/\q.cell? ⟨wb,wo+yb*4,none⟩=some (.int .i64 fb)) q):=λq S' ra h=>⟨(h.at 0 rfl).blk.cell (i:=1) rfl,(h.at 1 rfl).blk.cell (i:=1) rfl,by have k:=(HEC.out q h.chg ib hib).2.2.2.1;rw[Eyb.out] at k;exact k,by rw[Hfb.out];exact HWC.out q h.chg yb hyb⟩
 go_upto_region 33 with fail
 have HxD:=Q0 (Hz1.out.next (show Nx wz1 wz1.drew from(Below.refl _ _).drew))
 have HOxD:=Q0 (HOz.out.next (show Nx wz1 wz1.drew from(Below.refl _ _).drew))
 have HSS:Hid ((λq=>q.cell? ⟨w.heap.size,1,none⟩=some (.slice (some ⟨wb,wo,none⟩) mw c1)/\q.cell? ⟨w.heap.size+1,1,none⟩=some (.slice (some ⟨eb,eo,none⟩) m1 e1)/\q.cell? ⟨eb,eo+ib*7+3,none⟩=some (.int .i64 (yb:Int))/\q.cell? ⟨wb,wo+yb*4,none⟩=some (.int .i64 fb)) wz1.drew):=HSX.out _ _ _ HxD.out
 refine(wpIn_wide (n:=9)).1 ?_
 refine Q9 (c:=12) (S:=λq=>q.cell? ⟨w.heap.size,1,none⟩=some (.slice (some ⟨wb,wo,none⟩) mw c1)/\q.cell? ⟨w.heap.size+1,1,none⟩=some (.slice (some ⟨eb,eo,none⟩) m1 e1)/\q.cell? ⟨eb,eo+ib*7+3,none⟩=some (.int .i64 (yb:Int))/\q.cell? ⟨wb,wo+yb*4,none⟩=some (.int .i64 fb)) hmx (by kernel_rfl) (λhw hcl=>?_)
 generalize wz1.drew=wd at *
 refine tq (i:=0) (v:=.pointer (some ⟨w.heap.size,1,none⟩)) (λhcl=>?_)
 refine tq (i:=1) (v:=.slice (some ⟨wb,wo,none⟩) mw c1) (λhcl=>?_)
 refine tq (i:=2) (v:=.pointer (some ⟨w.heap.size+1,1,none⟩)) (λhcl=>?_)
 refine tq (i:=3) (v:=.slice (some ⟨eb,eo,none⟩) m1 e1) (λhcl=>?_)
 refine tq (i:=4) (v:=.int .i64 (ib:Int)) (λhcl=>?_)
 refine tq (i:=5) (v:=.pointer (some ⟨eb,eo+ib*7,none⟩)) (λhcl=>?_)
 refine tq (i:=6) (v:=.pointer (some ⟨eb,eo+ib*7+3,none⟩)) (λhcl=>?_)
 refine tq (i:=7) (v:=.int .i64 (yb:Int)) (λhcl=>?_)
 refine tq (i:=8) (v:=.pointer (some ⟨wb,wo+yb*4,none⟩)) (λhcl=>?_)
 refine tq (i:=9) (v:=.pointer (some ⟨wb,wo+yb*4,none⟩)) (λhcl=>?_)
 refine tq (i:=10) (v:=.int .i64 fb) (λhcl=>?_)
 refine tq (i:=11) (v:=.pointer (some ⟨g,3,none⟩)) (λhcl=>?_)
 have BG:BT wd g #[.int .i64 0,.bool false,.int .i64 fa,.int .i64 0,.bool false,.int .i64 0,.slice av n cv] 48:=HxD.out.at 3 rfl
 have x6:=BG.blk.cell (i:=3) rfl
 have fz6:=BG.blk.frozen 3
 refine Qk (i:=12) (by kernel_rfl) (wpOpIn_step rfl (λK hK=>?_))
 go_simp
 refine hK _ _ ⟨Or.inl (by decide),?_⟩
 clear hK K
 refine Qi (by kernel_rfl) ?_ _
 clear x6 fz6 hw hcl HSS HSX
 have Hz2:Hid (FR D b w (wd.setCell ⟨g,3,none⟩ (.int .i64 fb)) S7 (bl4 w.heap.size #[.slice (some ⟨nb,no,none⟩) m0 t0,.slice (some ⟨wb,wo,none⟩) mw c1,.slice r2 m2 t2,.slice r3 m3 t3,.int .i64 N.uturn] #[.slice (some ⟨rb,ro,none⟩) s0 d0,.slice (some ⟨eb,eo,none⟩) m1 e1,.slice p2 s2 d2,.slice p3 s3 d3] g #[.int .i64 0,.bool false,.int .i64 fa,.int .i64 fb,.bool false,.int .i64 0,.slice av n cv])):=HxD.out.set 3 rfl 3 _
 replace HOz:=Q0 (HxD.out.rowTurn 3 rfl HOxD.out (Chg.set g 3 (.int .i64 fb) rfl))
 generalize wd.setCell ⟨g,3,none⟩ (.int .i64 fb)=wz2 at *
 clear BG HxD HOxD
 have BG:BT wz2 g #[.int .i64 0,.bool false,.int .i64 fa,.int .i64 fb,.bool false,.int .i64 0,.slice av n cv] 48:=Hz2.out.at 3 rfl
 have yy0:=BG.blk.cell (i:=0) rfl
 have yy1:=BG.blk.cell (i:=1) rfl
 have yy2:=BG.blk.cell (i:=2) rfl
 have yy3:=BG.blk.cell (i:=3) rfl
 have yy4:=BG.blk.cell (i:=4) rfl
 have yy5:=BG.blk.cell (i:=5) rfl
 have yy6:=BG.blk.cell (i:=6) rfl
 clear BG
 have BR:BT wz2 (w.heap.size+2) #[.int .i64 0,.bool false,.int .i64 0,.int .i64 0,.bool false,.int .i64 0,.slice none 0 0] 48:=Hz2.out.at 2 rfl
 have x0:=BR.blk.cell (i:=0) rfl
 have fz0:=BR.blk.frozen 0
 have x1:=BR.blk.cell (i:=1) rfl
 have fz1:=BR.blk.frozen 1
 have x2:=BR.blk.cell (i:=2) rfl
 have fz2:=BR.blk.frozen 2
 have x3:=BR.blk.cell (i:=3) rfl
 have fz3:=BR.blk.frozen 3
 have x4:=BR.blk.cell (i:=4) rfl
 have fz4:=BR.blk.frozen 4
 have x5:=BR.blk.cell (i:=5) rfl
 have fz5:=BR.blk.frozen 5
 have x6:=BR.blk.cell (i:=6) rfl
 have fz6:=BR.blk.frozen 6
 have BS:=Pw (a0:=.int .i64 0) (a1:=.bool false) (a2:=.int .i64 fa) (a3:=.int .i64 fb) (a4:=.bool false) (a5:=.int .i64 0) (a6:=.slice av n cv) BR
 have P0:Hid (_=some (Value.int .i64 0)):=BS.blk.cell (i:=0) rfl
 have P1:Hid (_=some (Value.bool false)):=BS.blk.cell (i:=1) rfl
 have P2:Hid (_=some (Value.int .i64 fa)):=BS.blk.cell (i:=2) rfl
 have P3:Hid (_=some (Value.int .i64 fb)):=BS.blk.cell (i:=3) rfl
 have P4:Hid (_=some (Value.bool false)):=BS.blk.cell (i:=4) rfl
 have P5:Hid (_=some (Value.int .i64 0)):=BS.blk.cell (i:=5) rfl
 have P6:Hid (_=some (Value.slice av n cv)):=BS.blk.cell (i:=6) rfl
 have HCF:Hid (Chg (λx=>x=w.heap.size+2) wz2 (((((((wz2.setCell ⟨w.heap.size+2,0,none⟩ (.int .i64 0)).setCell ⟨w.heap.size+2,1,none⟩ (.bool false)).setCell ⟨w.heap.size+2,2,none⟩ (.int .i64 fa)).setCell ⟨w.heap.size+2,3,none⟩ (.int .i64 fb)).setCell ⟨w.heap.size+2,4,none⟩ (.bool false)).setCell ⟨w.heap.size+2,5,none⟩ (.int .i64 0)).setCell ⟨w.heap.size+2,6,none⟩ (.slice av n cv))):=Kj
 have HBS:=Q0 BS
 clear BS BR
 go_wp2
 generalize hWF:(((((((wz2.setCell ⟨w.heap.size+2,0,none⟩ (.int .i64 0)).setCell ⟨w.heap.size+2,1,none⟩ (.bool false)).setCell ⟨w.heap.size+2,2,none⟩ (.int .i64 fa)).setCell ⟨w.heap.size+2,3,none⟩ (.int .i64 fb)).setCell ⟨w.heap.size+2,4,none⟩ (.bool false)).setCell ⟨w.heap.size+2,5,none⟩ (.int .i64 0)).setCell ⟨w.heap.size+2,6,none⟩ (.slice av n cv))=wF at P0 P1 P2 P3 P4 P5 P6 HBS HCF ⊢
 have p0:=P0.out
 have p1:=P1.out
 have p2:=P2.out
 have p3:=P3.out
 have p4:=P4.out
 have p5:=P5.out
 have p6:=P6.out
 refine bodyPost_ret (v:=.agg #[.int .i64 0,.bool false,.int .i64 fa,.int .i64 fb,.bool false,.int .i64 0,.slice av n cv]) (by simp[results,Tryz.results66,go_sem,p0,p1,p2,p3,p4,p5,p6]) rfl ?_
 have hF:=Hz2.out.turn 2 rfl HCF.out HBS.out
 have hR:=Hz2.out.rowTurn 2 rfl HOz.out HCF.out
 rw[HDR.out,HDS.out]
 exact⟨_,rfl,hR,hF.src,hF.chg⟩
theorem Pi (B D b:Nat)(v0 v1 v2 v3 q0 q1 q2 q3:Value)(N:Nt)(R:Rd)(S:Src)(w:World)(hN:Yf B w v0 v1 v2 v3 N)(hR:Y8 B w q0 q1 q2 q3 R)(hB:b<B)(h0:0<N.nodes.length)(hw0:0<N.ways.length)(hl0:N.nodes.length<=1000000)(hl1:N.ways.length<=1000000)(hS:J8 D w b S)(hok:SOk S)(hI:Eu N R) :
  Calls Tryz.prog 66 #[.agg #[v0,v1,v2,v3,.int .i64 N.uturn],.agg #[q0,q1,q2,q3],.pointer (some ⟨b,0,none⟩)] w λe w'=>∃va,e=.returned (.agg #[.int .i64 (drR N R S).id,.bool (drR N R S).only,.int .i64 (drR N R S).frm,.int .i64 (drR N R S).to,.bool (drR N R S).via,.int .i64 (drR N R S).node,va])/\Qb w.heap.size w' va (drR N R S).ways/\J8 D w' b (drS N R S)/\Chg (Sx1 b) w w':=by
 by_cases hE:0<R.edges.length
 ·by_cases h6:nv S 10<6
  ·exact Tp B D b v0 v1 v2 v3 q0 q1 q2 q3 N R S w hN hR hB h0 hw0 hl0 hl1 hS hok hE hI h6
  ·exact Tm B D b v0 v1 v2 v3 q0 q1 q2 q3 N R S w hN hR hB h0 hw0 hl0 hl1 hS hok hE hI h6
 ·exact To B D b v0 v1 v2 v3 q0 q1 q2 q3 N R S w hN hR hB h0 hw0 hl0 hl1 hS hok (by omega)
def nW (N:Nt)(rs:List Rl):Nt:=⟨N.nodes,N.ways,rs,N.turns,N.uturn⟩
structure Tt where
 S:Src
 id:Int
 rels:List Rl
def Gz (N:Nt)(R:Rd)(x:Tt):Src:=ns (drS (nW N x.rels) R x.S) 4
def rcY (N:Nt)(R:Rd)(x:Tt):Rl:=⟨0,decide (nv (drS (nW N x.rels) R x.S) 4=0),(drR (nW N x.rels) R x.S).frm,(drR (nW N x.rels) R x.S).to,(drR (nW N x.rels) R x.S).via,(drR (nW N x.rels) R x.S).node,(drR (nW N x.rels) R x.S).ways⟩
def rcP (x:Tt)(S3:Src):Rl:=rat x.rels (nv S3 x.rels.length).toNat
def rcC (x:Tt)(S3:Src):Rl:=⟨0,if nv (ns S3 x.rels.length) 3=0 then !(rcP x S3).only else (rcP x S3).only,(rcP x S3).frm,(rcP x S3).to,(rcP x S3).via,(rcP x S3).node,(rcP x S3).ways⟩
def rcB (N:Nt)(R:Rd)(x:Tt):Bool:=decide (0<x.rels.length)&&decide (nv (Gz N R x) 10=0)
def Q0i (N:Nt)(R:Rd)(x:Tt):Src:=if rcB N R x then ns (ns (ns (Gz N R x) 10) x.rels.length) 3 else if 0<x.rels.length then ns (Gz N R x) 10 else Gz N R x
def rcZ (N:Nt)(R:Rd)(x:Tt):Rl:=if rcB N R x then rcC x (ns (Gz N R x) 10) else rcY N R x
def Q3p (N:Nt)(R:Rd)(x:Tt):Tt:=⟨ns (Q0i N R x) 2,x.id+(1+nv (Q0i N R x) 2),x.rels++[⟨x.id,(rcZ N R x).only,(rcZ N R x).frm,(rcZ N R x).to,(rcZ N R x).via,(rcZ N R x).node,(rcZ N R x).ways⟩]⟩
def Vy (N:Nt)(R:Rd)(x:Tt):Nat->Tt
 |0=>x
 |k+1=>Q3p N R (Vy N R x k)
def riN (S:Src):Nt:=Q8 S
def riR (S:Src):Rd:=Vb (Q8 S)
def Ec (S:Src):Src:=ns (ns (dbS S) (2+(dbS S).size)) 16
def Z9 (S:Src):Int:=if nv (ns (dbS S) (2+(dbS S).size)) 16=0 then 0 else 1+nv (dbS S) (2+(dbS S).size)
def riX (S:Src):Tt:=Vy (riN S) (riR S) ⟨ns (Ec S) 3,nv (Ec S) 3,[]⟩ (Z9 S).toNat
def Xq (S:Src):Nt:=if (Q8 S).ways.length=0 then Q8 S else nW (Q8 S) (riX S).rels
def riS (S:Src):Src:=if (Q8 S).ways.length=0 then dbS S else (riX S).S
theorem Q58 {N:Nt}{R:Rd}{x:Tt}(h:SOk x.S):SOk (Q0i N R x)/\(Q0i N R x).size=x.S.size:=by
 have h1:=Q43 (N:=nW N x.rels) (R:=R) h
 have h2:SOk (Gz N R x)/\(Gz N R x).size=x.S.size:=⟨Qj h1.1 _,(Qs _ _).trans h1.2⟩
 unfold Q0i
 split
 ·exact⟨Qj (Qj (Qj h2.1 _) _) _,by rw[Qs,Qs,Qs,h2.2]⟩
 ·split
  ·exact⟨Qj h2.1 _,by rw[Qs,h2.2]⟩
  ·exact h2
structure Q7u (k:Nat)(s:Int)(x:Tt):Prop where
 ok:SOk x.S
 size:x.S.size=s
 id:0<=x.id/\x.id<=3+2*k
 len:x.rels.length=k
 wl:∀r∈x.rels,r.ways.length<=4
theorem Q0h {N:Nt}{R:Rd}{x:Tt}{s:Int}(h:Q7u 0 s x):∀k,Q7u k s (Vy N R x k)
 |0=>h
 |k+1=>by
  have q:=Q0h (N:=N) (R:=R) h k
  have h5:=Q58 (N:=N) (R:=R) q.ok
  have v:=Qt h5.1 2
  have e:Vy N R x (k+1)=Q3p N R (Vy N R x k):=rfl
  rw[e]
  refine⟨(show SOk (ns (Q0i N R (Vy N R x k)) 2) from Qj h5.1 _),(show(ns (Q0i N R (Vy N R x k)) 2).size=s from(Qs _ _).trans (h5.2.trans q.size)),?_,?_,λr hr=>?_⟩
  ·show 0<=(Vy N R x k).id+(1+_)/\(Vy N R x k).id+(1+_)<=_
   have:=q.id
   have:=v.2 (by omega)
   omega
  ·show((Vy N R x k).rels++[_]).length=_
   rw[List.length_append,q.len];rfl
  ·rcases List.mem_append.1 hr with g|g
   ·exact q.wl r g
   ·have e1:=List.mem_singleton.1 g
    rw[e1]
    show(rcZ N R (Vy N R x k)).ways.length<=4
    unfold rcZ
    split
    ·rename_i hb
     have hb1:0<(Vy N R x k).rels.length:=by
      unfold rcB at hb
      rw[Bool.and_eq_true,decide_eq_true_eq] at hb
      exact hb.1
     have hi:(nv (ns (Gz N R (Vy N R x k)) 10) (Vy N R x k).rels.length).toNat<(Vy N R x k).rels.length:=by
      have h2:SOk (Gz N R (Vy N R x k)):=Qj (Q43 q.ok).1 _
      have v2:=Qt (Qj h2 10) (Vy N R x k).rels.length
      have:=v2.2 (by omega)
      omega
     show(rcP (Vy N R x k) (ns (Gz N R (Vy N R x k)) 10)).ways.length<=4
     unfold rcP
     rw[Pe hi]
     exact q.wl _ (List.getElem_mem hi)
    ·exact Q2i q.ok
theorem Y1.base {B B':Nat}{w:World}{v:Value}{es:List Eg}(h:Y1 B w v es)(hB:B'<=B):Y1 B' w v es:=Jl.mono h hB (Nat.le_refl _) λb off hb hs i hi hc=>hc
theorem Y8.base {B B':Nat}{w:World}{v0 v1 v2 v3:Value}{R:Rd}(h:Y8 B w v0 v1 v2 v3 R)(hB:B'<=B):Y8 B' w v0 v1 v2 v3 R:=⟨h.1.base hB,h.2.1.base hB,h.2.2.1.base hB,h.2.2.2.base hB⟩
theorem Chg.keepsU {C:Nat}{w w':World}(h:Chg (λx=>x<C) w w'):Xs C w w':=
 ⟨h.size,λg hg hs o=>by
  have hb:=h.block g hs (show ¬g<C by omega)
  unfold World.cell?
  simp only[hb]⟩
theorem FR.less {D b:Nat}{w0 w:World}{S:Src}{bl:List (Nat×Array Value×Nat)}(h:FR D b w0 w S bl)(n:Nat):FR D b w0 w S (bl.take n):=
 ⟨h.chg,h.src,λp hp=>h.bx p (List.mem_of_mem_take hp),λp hp=>h.ty p (List.mem_of_mem_take hp),by rw[List.map_take];exact h.nd.sublist (List.take_sublist _ _)⟩
theorem FR.growX {D b:Nat}{w0 w w':World}{S:Src}{bl:List (Nat×Array Value×Nat)}{T:Nat->Prop}(h:FR D b w0 w S bl)(hc:Chg T w w')(hn:∀p∈bl,¬T p.1)(hs:∀x,T x->∃cs t,BT w x cs t/\t≠73/\t≠5)(hy:∀x,T x->w0.heap.size<=x):FR D b w0 w' S bl:=
 ⟨h.chg.young hc (λx hx hl=>by have:=hy x hx;omega),h.src.chg hc hs,λp hp=>⟨(h.bx p hp).1.chg hc (hn p hp),(h.bx p hp).2⟩,h.ty,h.nd⟩
section
variable {C:Nat}{w w':World}{v0 v1 v2 v3:Value}{N:Nt}{vn vw vr:Nat->Value}
theorem ONt.turnBox {g t:Nat}{cs:Array Value}(h:ONt C w v0 v1 v2 v3 N vn vw vr)(hb:BT w g cs t)(ht:t≠2/\t≠45/\t≠51)(hn:t=48->v2.ownBlock≠some g)(hc:Chg (λx=>x=g) w w'):ONt C w' v0 v1 v2 v3 N vn vw vr:=by
 have key:∀{u sz n:Nat}{v:Value}{xs:List Value},w.ownsRow C u sz v n xs->t≠u->w'.ownsRow C u sz v n xs:=λhr hu=>Jm hr hc (λx hx e=>by
  have e':x=g:=e
  subst e'
  exact hb.neRow hr hu hx.symm)
 refine⟨key h.nodes ht.1,key h.ways ht.2.1,λi hi=>key (h.wn i hi) ht.1,λi hi=>key (h.ww i hi) ht.1,?_,λi hi=>key (h.rw_ i hi) ht.1,key h.turns ht.2.2,h.apart⟩
 by_cases e:t=48
 ·exact Jm h.rels hc (λx hx e'=>by
   have e2:x=g:=e'
   subst e2
   exact hn e hx)
 ·exact key h.rels e
theorem Vk (h:ONt C w v0 v1 v2 v3 N vn vw vr):∀u∈Ja N v0 vn vw vr,∀g,u.ownBlock=some g->g<w.heap.size:=λu hu g hg=>by
 unfold Ja at hu
 rcases List.mem_append.1 hu with q|q
 ·rcases List.mem_cons.1 q with rfl|q
  ·exact(Ql h.nodes g hg).2
  ·obtain⟨i,hi,rfl|rfl⟩:=K6 q
   ·exact(Ql (h.wn i hi) g hg).2
   ·exact(Ql (h.ww i hi) g hg).2
 ·obtain⟨i,hi,rfl⟩:=List.mem_map.1 q
  exact(Ql (h.rw_ i (List.mem_range.1 hi)) g hg).2
theorem Q3x (a:Value)(x:Rl):Ja (nW N (N.rels++[x])) v0 vn vw (upd vr N.rels.length a)=Ja N v0 vn vw vr++[a]:=by
 unfold Ja nW
 simp only[List.length_append,List.length_singleton]
 rw[List.range_succ,List.map_append,List.append_assoc]
 congr 1
 congr 1
 ·refine List.map_congr_left λi hi=>?_
  have:=List.mem_range.1 hi
  rw[J4 _ _ (by omega)]
 ·simp[Jf]
theorem ONt.addRel (h:ONt C w v0 v1 v2 v3 N vn vw vr){z:Nat}(hz:∀u∈Ja N v0 vn vw vr,∀g,u.ownBlock=some g->g<z){v va:Value}{x:Rl}(hr:w'.ownsRow C 48 7 v (N.rels.length+1) (Zz N.rels vr++Q0c x va))(hc:Chg (λy=>some y=v2.ownBlock) w w')(ha:Qb z w va x.ways)(hCz:C<=z) :
  ONt C w' v0 v1 v v3 (nW N (N.rels++[x])) vn vw (upd vr N.rels.length va):=by
 have far:∀{u:Value}{zs:List Int},Qb C w u zs->Qb C w' u zs:=λho=>Q4 ho h.rels (by decide) hc
 have hl:(N.rels++[x]).length=N.rels.length+1:=by simp
 refine⟨far h.nodes,Q4 h.ways h.rels (by decide) hc,λi hi=>far (h.wn i hi),λi hi=>far (h.ww i hi),?_,λi hi=>?_,Q4 h.turns h.rels (by decide) hc,?_⟩
 ·show w'.ownsRow C _ 7 v (N.rels++[x]).length (Zz (N.rels++[x]) (upd vr N.rels.length va))
  rw[hl,Q6s]
  exact hr
 ·replace hi:i<(N.rels++[x]).length:=hi
  show Qb C w' (upd vr N.rels.length va i) (rat (N.rels++[x]) i).ways
  by_cases e:i=N.rels.length
  ·subst e
   rw[Jf,Q1k]
   exact far (ha.base hCz)
  ·rw[J4 _ _ e,Q1j (by omega)]
   exact far (h.rw_ i (by omega))
 ·rw[Q3x]
  refine List.pairwise_append.2 ⟨h.apart,List.pairwise_singleton _ _,λu hu t ht g hg e=>?_⟩
  have e1:t=va:=by simpa using ht
  subst e1
  have h1:=hz u hu g hg
  have h2:=(Ql ha g e).1
  omega
end
theorem Q4m (ws:List Wy):∀k,(∀i,i<k->(wat ws i).weights.length<=3)->wsum ws k<=3*k
 |0,_=>Nat.le_refl _
 |k+1,h=>by
  have h1:=Q4m ws k (λi hi=>h i (by omega))
  have h2:=h k (by omega)
  show wsum ws k+(wat ws k).weights.length<=_
  omega
theorem Q2k {S:Src}(h:SOk S):SOk (dbS S)/\(2<=(Q8 S).nodes.length/\(Q8 S).nodes.length<=8)/\(Q8 S).ways.length<=12/\∀i,i<(Q8 S).ways.length->(wat (Q8 S).ways i).weights.length<=3:=by
 have hz:=h.size
 have h1:=Qj h (1+S.size/2)
 have v1:=Qt h (1+S.size/2)
 have v2:=Qt h1 3
 have hc:2<=V0 S/\V0 S<=6:=by
  unfold V0
  have:=v1.2 (by omega)
  omega
 have hn:=Gi (x:=⟨ns (ns S (1+S.size/2)) 3,nv (ns S (1+S.size/2)) 3,[]⟩) (show SOk (ns (ns S (1+S.size/2)) 3) from Qj h1 3) (show 0<=nv (ns S (1+S.size/2)) 3/\nv (ns S (1+S.size/2)) 3<=3 by have:=v2.2 (by omega);omega) rfl (V0 S).toNat
 have hnd:SOk (Zq S).S/\(Zq S).l.length=(V0 S).toNat:=⟨hn.1,hn.2.2.1⟩
 have hl:2<=(Qc S).length/\(Qc S).length<=8:=by
  unfold Qc
  split
  ·rw[List.length_append,hnd.2]
   simp only[List.length_singleton]
   omega
  ·rw[hnd.2]
   omega
 have hN:1<=dbN S:=by
  unfold dbN
  split<;>omega
 have h2:SOk (Vu S):=Qj hnd.1 _
 have v3:=Qt h2 (2+S.size)
 have hw:0<=Vc S/\Vc S<=12:=by
  unfold Vc
  have:=v3.2 (by omega)
  split<;>omega
 have h3:SOk (ns (ns (ns (Vu S) (2+S.size)) 24) 4):=Qj (Qj (Qj h2 _) _) _
 have v4:=Qt (Qj (Qj h2 (2+S.size)) 24) 4
 have hy:=Pq (count:=dbN S) (ways:=Vc S) (ids:=Qc S) hN (x:=⟨ns (ns (ns (Vu S) (2+S.size)) 24) 4,nv (ns (ns (Vu S) (2+S.size)) 24) 4,[]⟩) (s:=(ns (ns (ns (Vu S) (2+S.size)) 24) 4).size) ⟨h3,(show 0<=nv (ns (ns (Vu S) (2+S.size)) 24) 4/\nv (ns (ns (Vu S) (2+S.size)) 24) 4<=4+2*((0:Nat):Int) by have:=v4.2 (by omega);omega),rfl,rfl,λi hi=>absurd hi (Nat.not_lt_zero _)⟩ (Vc S).toNat
 have hwl:(Q8 S).ways.length=(Vc S).toNat:=hy.len
 have hwy:SOk (Z6 S).S:=hy.ok
 refine⟨?_,hl,by omega,λi hi=>(hy.seg i (by rw[<-hwl];exact hi)).1⟩
 refine Q41 ?_
 unfold Za
 split
 ·exact hwy
 ·exact(G6 (ws:=(Z6 S).ways) (x:=⟨ns (Z6 S).S (3+S.size),[]⟩) (show SOk (ns (Z6 S).S (3+S.size)) from Qj hwy _) rfl _).1
theorem Eu.nW {N:Nt}{R:Rd}(h:Eu N R)(rs:List Rl):Eu (nW N rs) R:=⟨h.len,h.way,h.head,h.trav⟩
end Go.Proofs.YtmmolhlihhdkcaaGreatDoor
