import Derived.Test.YtphiaobccollhaaGreatQRoE
namespace Go.Proofs.YtphiaobccollhaaGreat
open Go.RowKit Tryz
set_option linter.unusedVariables false
set_option maxRecDepth 1000000
set_option maxHeartbeats 16000000
theorem Q9y {N:Nt}(h:Pi N){k q:Nat}(hk:k<N.ways.length)(hq:q<=(wat N.ways k).weights.length):(Za (sg0 N) k (lay (sg0 N) (nsN N) k) q).length<=4000:=by
 have:=Qcw h hk hq
 rw[Ts (Pm N),Ps (Pm N)] at this
 rw[Ts (Fv N),Ps (Fv N)]
 exact this
theorem Q41 (B0:Nat)(v0 v1 v2 v3:Value)(N:Nt)(w:World)(h0:U0 B0 w v0 v1 v2 v3 N)(hv:J1 N=true) :
  Calls prog 80 #[.agg #[v0,v1,v2,v3,iV N.uturn]] w λe w'=>(∃v',e=.returned v'/\Yz w.heap.size w' v' (E0 N))/\Nx w w':=by
 obtain⟨ii,hi,hz0,hz1,hz2⟩:=info_parts Qbk
 have HN:=mh (Uw hv)
 clear hv
 obtain⟨i0,i1,i2,i3⟩:=h0
 have HI0:=mh i0
 obtain⟨a1,c1,rfl,hn1,hk1⟩:=i1
 unfold maxLen at hn1
 clear i0 i2 i3
 generalize hm1:N.ways.length=m1 at *
 have HM1:=mh hm1
 clear hm1
 have BA:G7 ((w.alloc (.cells #[v0,sL a1 m1 c1,v2,v3,iV N.uturn] 60)).alloc (.cells #[] 117)) w.heap.size #[v0,sL a1 m1 c1,v2,v3,iV N.uturn]:=(G7.new w _ 60 _ (by decide) rfl).keep (B:=w.heap.size) ((Ge.refl _ _).alloc (by simp) _)
 have HO0:Z (Yz w.heap.size ((w.alloc (.cells #[v0,sL a1 m1 c1,v2,v3,iV N.uturn] 60)).alloc (.cells #[] 117)) (sL (sA (w.heap.size+1)) 0 0) []):=by
  have:=Q93 w.heap.size (w.alloc (.cells #[v0,sL a1 m1 c1,v2,v3,iV N.uturn] 60)) #[] 0 (by simp) (by simp[maxLen]) rfl
  unfold Z
  simpa using this
 have HG0:Z (Ge w.heap.size w ((w.alloc (.cells #[v0,sL a1 m1 c1,v2,v3,iV N.uturn] 60)).alloc (.cells #[] 117))):=((Ge.refl _ _).alloc lR _).alloc (by simp) _
 go_enter func80,ntmps80
 go_wp2
 go_loopw [3,4,5,6,7,8] (λes i p5 p6 p7 p8 wr=>∃k:Nat,k<=m1/\i=iV k/\Z (Yz w.heap.size wr es (lay (sg0 N) (nsN N) k))/\Z (Ge w.heap.size w wr)/\Z (G7 wr w.heap.size #[v0,sL a1 m1 c1,v2,v3,iV N.uturn])) (λ_ i _ _ _ _ _=>m1-(intOf i).toNat)
 case atStart=>exact⟨0,nZ,rfl,HO0,HG0,BA⟩
 clear HO0 HG0 BA
 obtain⟨k,hkn,rfl,HO,HGA,HBN⟩:=hrel
 have HB:=mh HGA.o.1.size
 have kk0:=HBN.o.c 1 rfl
 by_cases hlt:k<m1
 ·obtain⟨b,off,rfl,hB,hb,hc⟩:=hk1 (by omega)
  obtain⟨p1,p2,d0,d1,d2,d3,n1,n2⟩:=hc k hlt
  have HM2:=mh n1
  have HM3:=mh n2
  have HWL:=mh (HN.o.len k (by rw[HM1.o];exact hlt))
  have HWS:=mh (HN.o.seg k (by rw[HM1.o];exact hlt))
  have HWH:Z (∀j,j<(wat N.ways k).nodes.length->Ta N.nodes (iat (wat N.ways k).nodes j)=true):=λj hj=>HN.o.has k j (by rw[HM1.o];exact hlt) hj
  have HLE:Z (∀q,q<=(wat N.ways k).weights.length->(Za (sg0 N) k (lay (sg0 N) (nsN N) k) q).length<=4000):=λq hq=>Q9y HN.o (by rw[HM1.o];exact hlt) hq
  have HLS:Z (lay (sg0 N) (nsN N) (k+1)=Za (sg0 N) k (lay (sg0 N) (nsN N) k) (wat N.ways k).weights.length):=rfl
  have HSG:Z (∀o j,sg0 N k o j=if (wat N.ways k).both then [fwd N k j (-1),bwd N k j (-1)] else [fwd N k j (-1)]):=λo j=>rfl
  have HFW:Z (∀j t,fwd N k j t=⟨pos N.nodes (iat (wat N.ways k).nodes j),pos N.nodes (iat (wat N.ways k).nodes (j+1)),iat (wat N.ways k).weights j,k,j,false,t⟩):=λj t=>rfl
  have HBW:Z (∀j t,bwd N k j t=⟨pos N.nodes (iat (wat N.ways k).nodes (j+1)),pos N.nodes (iat (wat N.ways k).nodes j),iat (wat N.ways k).weights j,k,j,true,t⟩):=λj t=>rfl
  obtain⟨an,cn,rfl,_⟩:=n1.slice
  obtain⟨aw,cw,rfl,_⟩:=n2.slice
  have d0:=Q2 HGA.o.1 hb d0
  have d1:=Q2 HGA.o.1 hb d1
  have d2:=Q2 HGA.o.1 hb d2
  have d3:=Q2 HGA.o.1 hb d3
  have hlt':(k:Int)<m1:=by omega
  have hbr:=zJ hb HB.o
  generalize hxx:wat N.ways k=x at *
  generalize hq1:x.nodes.length=q1 at *
  generalize hq2:x.weights.length=q2 at *
  clear hc hk1 n1 n2 hxx hq1 hq2
  have HBX:Z (G7 (wr.alloc (.cells #[iV x.id,.bool x.both,sL an q1 cn,sL aw q2 cw] 93)) wr.heap.size #[iV x.id,.bool x.both,sL an q1 cn,sL aw q2 cw]):=G7.new _ _ _ _ (by decide) rfl
  have hsz:=HBN.o.blk.lt
  go_wp2
  clear d0 d1 d2 d3 kk0
  rename World=>wo
  go_loopw [3,6,7,8] (λes j p7 p8 wi=>∃q:Nat,q<=q2/\j=iV q/\Z (Yz w.heap.size wi es (Za (sg0 N) k (lay (sg0 N) (nsN N) k) q))/\Z (Ge w.heap.size (wo.alloc (.cells #[iV x.id,.bool x.both,sL an q1 cn,sL aw q2 cw] 93)) wi)) (λ_ j _ _ _=>q2-(intOf j).toNat)
  case atStart=>exact⟨0,nZ,rfl,HO.o.alloc _,Ge.refl _ _⟩
  obtain⟨q,hqn,rfl,HOI,HGI⟩:=hrel
  have HGXwr:=mh ((HGA.o.alloc HB.o _).trans HGI.o)
  have HBI:=mh HGXwr.o.1.size
  have BNwr:=(HBN.o.keep (B:=w.heap.size) ((Ge.refl _ _).alloc HB.o _)).keep HGI.o
  have BXwr:=HBX.o.keep HGI.o
  have hx3:=BXwr.c 3 rfl
  by_cases hjl:q<q2
  ·obtain⟨bw,ow,haw,hbw,cw0⟩:=Uj HM3.o HGXwr.o.1 (i:=q) hjl
   subst haw
   obtain⟨bn,on,han,hbn,cn0⟩:=Uj HM2.o HGXwr.o.1 (i:=q) (by have:=HWL.o;omega)
   subst han
   have HBNL:Z (bn<w.heap.size/\bw<w.heap.size):=⟨hbn,hbw⟩
   obtain⟨ae,ce,hes,_⟩:=HOI.o.slice
   subst hes
   have hlen:=HLE.o q hqn
   have HH0:=mh (HWH.o q (by have:=HWL.o;omega))
   have HH1:=mh (HWH.o (q+1) (by have:=HWL.o;omega))
   have HSQ:Z (Za (sg0 N) k (lay (sg0 N) (nsN N) k) (q+1)=Za (sg0 N) k (lay (sg0 N) (nsN N) k) q++if x.both then [fwd N k q (-1),bwd N k q (-1)] else [fwd N k q (-1)]):=by unfold Z;rw[Q8b,HSG.o]
   have hjl':(q:Int)<q2:=by omega
   have hjl1:(q:Int)<q1:=by have:=HWL.o;omega
   have hjl2:(q:Int)+1<q1:=by have:=HWL.o;omega
   have hq100:=HWS.o
   have hwr:IntKind.i64.wrap ((q:Int)+1)=(q:Int)+1:=by rw[IntKind.wrap_i64];omega
   have hwn:((q:Int)+1).toNat=q+1:=by omega
   have hwm:¬(q:Int)+1<0:=by omega
   generalize hW:Za (sg0 N) k (lay (sg0 N) (nsN N) k) q=W at *
   generalize hL:W.length=L at *
   have HL:=mh hL
   clear hL hW HLE HSG
   have HIDwa:=mh (HI0.o.next HGXwr.o.1.drew)
   have hx2:=BXwr.c 2 rfl
   have N0:=BNwr.c 0 rfl
   have N1:=BNwr.c 1 rfl
   have N2:=BNwr.c 2 rfl
   have N3:=BNwr.c 3 rfl
   have N4:=BNwr.c 4 rfl
   have HNB:=mh BNwr.blk.lt
   have HXB:=mh BXwr.blk.lt
   have HNW:=mh (zJ HBNL.o.1 HGXwr.o.1.size)
   have HCwa:Z ((wr.cell? (aD w.heap.size 0)=some v0/\wr.cell? (aD w.heap.size 1)=some (sL (some (aD b off)) m1 c1)/\wr.cell? (aD w.heap.size 2)=some v2/\wr.cell? (aD w.heap.size 3)=some v3/\wr.cell? (aD w.heap.size 4)=some (iV N.uturn))/\wr.cell? (aD wo.heap.size 2)=some (sL (some (aD bn on)) q1 cn)/\wr.cell? (aD bn (on+q))=some (iV (iat x.nodes q))):=⟨⟨N0,N1,N2,N3,N4⟩,hx2,cn0⟩
   go_wp2
   go_region_held3 (λw'=>w'.cell? (aD w.heap.size 0)=some v0/\w'.cell? (aD w.heap.size 1)=some (sL (some (aD b off)) m1 c1)/\w'.cell? (aD w.heap.size 2)=some v2/\w'.cell? (aD w.heap.size 3)=some v3/\w'.cell? (aD w.heap.size 4)=some (iV N.uturn)/\w'.cell? (aD wo.heap.size 2)=some (sL (some (aD bn on)) q1 cn)/\w'.cell? (aD bn (on+q))=some (iV (iat x.nodes q))) (go_keep) (first
    |(go_at_call 102;refine(Pd B0 _ _ _ _ _ _ N.nodes _ (by exact HIDwa.o) HH0.o).mono ?_;rintro e wa ⟨rfl,hxa⟩;have s0:=Q2 hxa HNB.o HCwa.o.1.1;have s1:=Q2 hxa HNB.o HCwa.o.1.2.1;have s2:=Q2 hxa HNB.o HCwa.o.1.2.2.1;have s3:=Q2 hxa HNB.o HCwa.o.1.2.2.2.1;have s4:=Q2 hxa HNB.o HCwa.o.1.2.2.2.2;have s5:=Q2 hxa HXB.o HCwa.o.2.1;have s6:=Q2 hxa HNW.o HCwa.o.2.2))
   clear s0 s1 s2 s3 s4 s5 s6 hx2 N0 N1 N2 N3 N4 HNB HXB HNW HCwa HIDwa
   have HXa:=mh (Nx.trans (Nx.refl wr).drew hxa)
   clear hxa
   have HGXwa:=mh (HGXwr.o.trans (Ge.of_nx HXa.o HBI.o))
   have HBa:=mh HGXwa.o.1.size
   have BNwa:=BNwr.keep (B:=w.heap.size) (Ge.of_nx HXa.o HBI.o)
   have BXwa:=BXwr.keep (B:=w.heap.size) (Ge.of_nx HXa.o HBI.o)
   obtain⟨bn',on',han',_,cn1⟩:=Uj HM2.o HGXwa.o.1 (i:=q+1) (by have:=HWL.o;omega)
   simp only[Option.some.injEq,Addr.mk.injEq] at han'
   obtain⟨e1,e2,_⟩:=han'
   rw[<-e1,<-e2] at cn1
   clear e1 e2 cn0 cw0 hx3 BNwr BXwr
   have HIDwb:=mh (HI0.o.next HGXwa.o.1.drew)
   have hx2:=BXwa.c 2 rfl
   have N0:=BNwa.c 0 rfl
   have N1:=BNwa.c 1 rfl
   have N2:=BNwa.c 2 rfl
   have N3:=BNwa.c 3 rfl
   have N4:=BNwa.c 4 rfl
   have HNB:=mh BNwa.blk.lt
   have HXB:=mh BXwa.blk.lt
   have HNW:=mh (zJ HBNL.o.1 HGXwa.o.1.size)
   have HCwb:Z ((wa.cell? (aD w.heap.size 0)=some v0/\wa.cell? (aD w.heap.size 1)=some (sL (some (aD b off)) m1 c1)/\wa.cell? (aD w.heap.size 2)=some v2/\wa.cell? (aD w.heap.size 3)=some v3/\wa.cell? (aD w.heap.size 4)=some (iV N.uturn))/\wa.cell? (aD wo.heap.size 2)=some (sL (some (aD bn on)) q1 cn)/\wa.cell? (aD bn (on+(q+1)))=some (iV (iat x.nodes (q+1)))):=⟨⟨N0,N1,N2,N3,N4⟩,hx2,cn1⟩
   go_wp2
   go_region_held3 (λw'=>w'.cell? (aD w.heap.size 0)=some v0/\w'.cell? (aD w.heap.size 1)=some (sL (some (aD b off)) m1 c1)/\w'.cell? (aD w.heap.size 2)=some v2/\w'.cell? (aD w.heap.size 3)=some v3/\w'.cell? (aD w.heap.size 4)=some (iV N.uturn)/\w'.cell? (aD wo.heap.size 2)=some (sL (some (aD bn on)) q1 cn)/\w'.cell? (aD bn (on+(q+1)))=some (iV (iat x.nodes (q+1)))) (go_keep) (first
    |(go_at_call 102;refine(Pd B0 _ _ _ _ _ _ N.nodes _ (by exact HIDwb.o) HH1.o).mono ?_;rintro e wb ⟨rfl,hxb⟩;have s0:=Q2 hxb HNB.o HCwb.o.1.1;have s1:=Q2 hxb HNB.o HCwb.o.1.2.1;have s2:=Q2 hxb HNB.o HCwb.o.1.2.2.1;have s3:=Q2 hxb HNB.o HCwb.o.1.2.2.2.1;have s4:=Q2 hxb HNB.o HCwb.o.1.2.2.2.2;have s5:=Q2 hxb HXB.o HCwb.o.2.1;have s6:=Q2 hxb HNW.o HCwb.o.2.2))
   clear s0 s1 s2 s3 s4 s5 s6 hx2 N0 N1 N2 N3 N4 HNB HXB HNW HCwb HIDwb
   have HXb:=mh (HXa.o.trans (Nx.trans (Nx.refl wa).drew hxb))
   clear hxb cn1
   have HGXwb:=mh (HGXwr.o.trans (Ge.of_nx HXb.o HBI.o))
   have HGIb:=mh (HGI.o.trans (Ge.of_nx HXb.o HBI.o))
   have HBb:=mh HGXwb.o.1.size
   have HOb:=mh (HOI.o.next HXb.o)
   have HBXb:=mh (HBX.o.keep HGIb.o)
   obtain⟨bw',ow',haw',_,cw0⟩:=Uj HM3.o HGXwb.o.1 (i:=q) hjl
   simp only[Option.some.injEq,Addr.mk.injEq] at haw'
   obtain⟨e1,e2,_⟩:=haw'
   rw[<-e1,<-e2] at cw0
   clear e1 e2 BNwa BXwa HXa HGXwa HBa HOI
   have hx3:=HBXb.o.c 3 rfl
   generalize hA:(pos N.nodes (iat x.nodes q):Int)=A at *
   generalize hBB:(pos N.nodes (iat x.nodes (q+1)):Int)=BB at *
   have HA:Z ((pos N.nodes (iat x.nodes q):Int)=A/\(pos N.nodes (iat x.nodes (q+1)):Int)=BB):=⟨hA,hBB⟩
   clear hA hBB
   have HF1:Z (fwd N k q (-1)=⟨A,BB,iat x.weights q,k,q,false,-1⟩):=by unfold Z;rw[HFW.o,HA.o.1,HA.o.2]
   have HB1:Z (bwd N k q (-1)=⟨BB,A,iat x.weights q,k,q,true,-1⟩):=by unfold Z;rw[HBW.o,HA.o.1,HA.o.2]
   rw[HF1.o,HB1.o] at HSQ
   clear HF1 HB1 HFW HBW HA HH0 HH1
   go_wp2_with (at_builtin;refine wpList_append_own _ rfl _ _ 84 rfl w.heap.size 117 ii (.agg #[iV 0,iV 0,iV 0,iV 0,iV 0,.bool false,iV 0]) 7 56 underlying84 hi hz0 hz1 hz2 rfl (by decide) _ _ _ rfl (HOb.o.alloc _) (aD wb.heap.size 0) 1 1 (Ya ⟨A,BB,iat x.weights q,k,q,false,-1⟩) rfl rfl ?c1 ?c2 ?c3 ?c4 ?c5 ?_)
   case c1=>first|exact λj u hj=>Qn _ _ _ _ rfl j u hj|exact λj u hj=>hj
   case c2=>exact Af _
   case c3=>have:=HL.o;unfold maxLen;omega
   case c4=>have:=HL.o;omega
   case c5=>have:=HBb.o;simp;omega
   intro v7 w7 hown' hgrow _
   have HV7:=mh (Yz.one hown')
   have HG7:=mh ((HGIb.o.alloc HBb.o _).grown (HOb.o.alloc _) hgrow (by have:=HBb.o;simp;omega))
   clear hown' hgrow cw0 hx3 HOb HGIb
   have HGX7:=mh ((HGA.o.alloc HB.o _).trans HG7.o)
   have HB7:=mh HGX7.o.1.size
   have HBX7:=mh (HBX.o.keep HG7.o)
   have hx1:=HBX7.o.c 1 rfl
   by_cases hbo:x.both=true
   ·rw[hbo] at hx1
    have HSS:Z (Za (sg0 N) k (lay (sg0 N) (nsN N) k) (q+1)=(W++[⟨A,BB,iat x.weights q,k,q,false,-1⟩])++[⟨BB,A,iat x.weights q,k,q,true,-1⟩]):=by unfold Z;rw[HSQ.o,hbo,if_pos rfl];simp
    clear hbo HSQ
    obtain⟨a7,c7,hv7,_⟩:=HV7.o.slice
    subst hv7
    have hl7:(W++([⟨A,BB,iat x.weights q,k,q,false,-1⟩]:List Eg)).length=L+1:=by rw[zA,HL.o];rfl
    generalize (W++([⟨A,BB,iat x.weights q,k,q,false,-1⟩]:List Eg))=W7 at *
    have HL7:=mh hl7
    clear hl7
    have hx3:=HBX7.o.c 3 rfl
    obtain⟨bw',ow',haw',_,cw0⟩:=Uj HM3.o HGX7.o.1 (i:=q) hjl
    simp only[Option.some.injEq,Addr.mk.injEq] at haw'
    obtain⟨e1,e2,_⟩:=haw'
    rw[<-e1,<-e2] at cw0
    clear e1 e2
    go_wp2_with (at_builtin;refine wpList_append_own _ rfl _ _ 84 rfl w.heap.size 117 ii (.agg #[iV 0,iV 0,iV 0,iV 0,iV 0,.bool false,iV 0]) 7 56 underlying84 hi hz0 hz1 hz2 rfl (by decide) _ _ _ rfl (HV7.o.alloc _) (aD w7.heap.size 0) 1 1 (Ya ⟨BB,A,iat x.weights q,k,q,true,-1⟩) rfl rfl ?e1 ?e2 ?e3 ?e4 ?e5 ?_)
    case e1=>first|exact λj u hj=>Qn _ _ _ _ rfl j u hj|exact λj u hj=>hj
    case e2=>exact Af _
    case e3=>have:=HL7.o;unfold maxLen;omega
    case e4=>have:=HL7.o;omega
    case e5=>have:=HB7.o;simp;omega
    intro v8 w8 hown' hgrow _
    have HV8:Z (Yz w.heap.size w8 v8 (Za (sg0 N) k (lay (sg0 N) (nsN N) k) (q+1))):=by rw[HSS.o];exact Yz.one hown'
    have HG8:=mh ((HG7.o.alloc HB7.o _).grown (HV7.o.alloc _) hgrow (by have:=HB7.o;simp;omega))
    clear hown' hgrow
    go_wp2
    go_roundw
    case rel=>exact⟨q+1,by omega,by go_num,HV8,HG8⟩
    case measure=>simp[intOf];omega
   have hbf:x.both=false:=by simpa using hbo
   rw[hbf] at hx1
   have HV8:Z (Yz w.heap.size w7 v7 (Za (sg0 N) k (lay (sg0 N) (nsN N) k) (q+1))):=by rw[HSQ.o,hbf,if_neg (by decide)];exact HV7.o
   clear hbo hbf HV7 HSQ
   go_wp2
   go_roundw
   case rel=>exact⟨q+1,by omega,by go_num,HV8,HG7⟩
   case measure=>simp[intOf];omega
  have eq:q2=q:=by omega
  subst eq
  have HO':Z (Yz w.heap.size wr u3 (lay (sg0 N) (nsN N) (k+1))):=by rw[HLS.o];exact HOI.o
  have HB':=mh BNwr
  go_wp2
  go_roundw
  case rel=>exact⟨k+1,by omega,by go_num,HO',HGXwr,HB'⟩
  case measure=>simp[intOf];omega
 have e:m1=k:=by omega
 subst e
 go_wp2
 go_ret
 exact⟨⟨_,rfl,by unfold E0;rw[HM1.o];exact HO.o⟩,HGA.o.1⟩
end Go.Proofs.YtphiaobccollhaaGreat
