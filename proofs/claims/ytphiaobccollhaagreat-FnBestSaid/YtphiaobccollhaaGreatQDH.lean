import Derived.Test.YtphiaobccollhaaGreatQDG
namespace Go.Proofs.YtphiaobccollhaaGreat
open Go.RowKit Go.Sort Tryz
set_option linter.unusedVariables false
set_option maxRecDepth 1000000
set_option maxHeartbeats 16000000
theorem Qi.at_ {B:Nat}{w:World}{b o n c:Nat}{zs:List Int}(h:Qi B w (sL (some (aD b o)) n c) zs)(i:Nat)(hi:i<zs.length):w.cell? (aD b (o+i))=some (iV (iat zs i)):=by
 obtain⟨a,c',e,_,k⟩:=h
 simp only[zC] at e
 obtain⟨rfl,_,_⟩:=e
 obtain⟨b',o',e2,_,_,hc⟩:=k (by omega)
 simp only[Option.some.injEq,Addr.mk.injEq] at e2
 obtain⟨rfl,rfl,_⟩:=e2
 exact hc i hi
theorem Q1l {ws:List Wy}{x:Q6l}(h:SOk x.S)(hl:x.ts=[]):∀k,SOk (Zq ws x k).S/\(Zq ws x k).ts.length<=k
 |0=>⟨h,by simp[Zq,hl]⟩
 |k+1=>by
  obtain⟨h1,h2⟩:=Q1l (ws:=ws) h hl k
  refine⟨show SOk (dwS (ns (ns (Zq ws x k).S ws.length) ws.length)) from Q67 (Qf (Qf h1 _) _),?_⟩
  show(Fa (Zq ws x k).ts _).length<=_
  have:=Qcn (Zq ws x k).ts ⟨(wat ws (nv (Zq ws x k).S ws.length).toNat).id,(wat ws (nv (ns (Zq ws x k).S ws.length) ws.length).toNat).id,dwV (ns (ns (Zq ws x k).S ws.length) ws.length)⟩
  omega
structure Q6n (C D b:Nat)(w0 w:World)(S:Src)(v0 v1 v3:Value)(N:Nt)(vn vw vr:Nat->Value):Prop where
 net:ONt C w v0 v1 sN v3 N vn vw vr
 src:Jj D w b S
 chg:Chg (Sx1 b) w0 w
 b0:∃cs,BT w C cs 60
 b1:∃cs,BT w (C+1) cs 60
theorem Q6n.set {C D b:Nat}{w0 w:World}{S:Src}{v0 v1 v3:Value}{N:Nt}{vn vw vr:Nat->Value}(h:Q6n C D b w0 w S v0 v1 v3 N vn vw vr)(hC:w0.heap.size<=C){g:Nat}(hg:g=C\/g=C+1)(i:Nat)(v:Value):Q6n C D b w0 (w.setCell (aD g i) v) S v0 v1 v3 N vn vw vr:=by
 obtain⟨cs0,h0⟩:=h.b0
 obtain⟨cs1,h1⟩:=h.b1
 obtain⟨cs,hb⟩:∃cs,BT w g cs 60:=by
  rcases hg with rfl|rfl
  ·exact⟨_,h0⟩
  ·exact⟨_,h1⟩
 have n:=h.net
 refine⟨⟨Qk n.nodes hb (by decide) _ _,Qk n.ways hb (by decide) _ _,λi hi=>Qk (n.wn i hi) hb (by decide) _ _,λi hi=>Qk (n.ww i hi) hb (by decide) _ _,Qk n.rels hb (by decide) _ _,λi hi=>Qk (n.rw_ i hi) hb (by decide) _ _,Qk n.turns hb (by decide) _ _,n.apart⟩,h.src.set hb (by decide) (by decide) _ _,h.chg.young (Chg.set (S:=λx=>x=g) _ _ _ rfl) (λx hx hl=>by have hx':x=g:=hx;omega),?_,?_⟩
 ·by_cases e:C=g
  ·subst e;exact⟨_,h0.set i v⟩
  ·exact⟨_,h0.setOther e i v⟩
 ·by_cases e:C+1=g
  ·subst e;exact⟨_,h1.set i v⟩
  ·exact⟨_,h1.setOther e i v⟩
theorem DBs.outS {C D b:Nat}{w0 w:World}{S:Src}{v0 v1 v3:Value}{nodes:List Int}{ws:List Wy}{vn vw:Nat->Value}{ts:List Tn}(h:DBs C D b w S v0 v1 v3 nodes ws vn vw ts)(k:Chg (Sx1 b) w0 w)(u:Int)(vr:Nat->Value):Q6n C D b w0 w S v0 v1 v3 ⟨nodes,ws,[],ts,u⟩ vn vw vr:=
 ⟨⟨h.nd,h.wys,h.wn,h.ww,⟨rfl,oL ⟨rfl,rfl⟩⟩,λi hi=>absurd hi (zK _),h.tn,by
  have e:W1 ⟨nodes,ws,[],ts,u⟩ v0 vn vw vr=v0::prs ws.length vn vw:=by simp[W1,prs]
  rw[e]
  exact h.ap⟩,h.src,k,⟨_,h.res⟩,⟨_,h.box⟩⟩
theorem Jj.size {D b:Nat}{w:World}{S:Src}(h:Jj D w b S):w.cell? (aD b 3)=some (iV S.size):=by
 obtain⟨v,hb,_⟩:=h
 exact hb.c 3 rfl
theorem A1 (D b:Nat)(S:Src)(w:World)(h:Jj D w b S)(hok:SOk S) :
  Calls prog 52 #[pT b] w λe w'=>∃v0 v1 v3 vn vw vr,e=.returned (.agg #[v0,v1,sN,v3,iV (Qa S).uturn])/\Q6n w.heap.size D b w w' (dbS S) v0 v1 v3 (Qa S) vn vw vr:=by
 have HOK:Z (SOk S):=hok
 have hsz:=hok.size
 have hsz2:0<=S.size/2/\S.size/2<=4:=by omega
 have HS0:=mh h
 clear h
 go_enter func52,ntmps52
 go_upto_region 2 with fail
 generalize hWA:(w.alloc (.cells #[sN,sN,sN,sN,iV 0] 60)).alloc (.cells #[sN,sN,sN,sN,iV 0] 60)=wA
 have HXA:Z (Nx w wA):=by rw[<-hWA];exact(Qe _ _).trans (Qe _ _)
 have HDA:Z (DBs w.heap.size D b wA S sN sN sN [] [] (λ_=>sN) (λ_=>sN) []):=by
  unfold Z
  refine⟨HS0.o.next HXA.o,?_,?_,⟨rfl,oL ⟨rfl,rfl⟩⟩,⟨rfl,oL ⟨rfl,rfl⟩⟩,λi hi=>absurd hi (zK _),λi hi=>absurd hi (zK _),⟨rfl,oL ⟨rfl,rfl⟩⟩,?_⟩
  ·rw[<-hWA];exact(BT.new w _ _ _ rfl).alloc _
  ·rw[<-hWA];exact BT.new _ _ _ _ (by rw[Q1])
  ·exact List.pairwise_singleton _ _
 have b3:=HDA.o.src.size
 clear hWA
 go_wp2_with fail
 refine(Q6 D b S (1+S.size/2) wA HDA.o.src HOK.o (by omega)).mono ?_
 rintro e w1 ⟨rfl,hs1,hc1⟩
 have HD1:=mh (HDA.o.drawn hs1 hc1)
 have HC1:=mh ((Chg.nx HXA.o).trans hc1)
 have HK1:Z (SOk (ns S (1+S.size/2))):=Qf HOK.o _
 have hv1:=Qv HOK.o (1+S.size/2)
 obtain⟨c0,hc0⟩:∃c0:Nat,Xb S=c0:=⟨(Xb S).toNat,by have:0<=Xb S:=(by unfold Xb;omega);omega⟩
 have HCN:=mh hc0
 have hcd:2+nv S (1+S.size/2)=(c0:Int):=hc0
 have hcb:2<=c0/\c0<=6:=by omega
 clear hs1 hc1 b3 hc0
 go_wp2_with fail
 refine(Q6 D b (ns S (1+S.size/2)) 3 w1 HD1.o.src HK1.o (by omega)).mono ?_
 rintro e w2 ⟨rfl,hs1,hc1⟩
 have HD2:=mh (HD1.o.drawn hs1 hc1)
 have HC2:=mh (HC1.o.trans hc1)
 have hv2:=Qv HK1.o 3
 have HX0:Z ((⟨ns (ns S (1+S.size/2)) 3,nv (ns S (1+S.size/2)) 3,[]⟩:Q4u)=⟨ns (ns S (1+S.size/2)) 3,nv (ns S (1+S.size/2)) 3,[]⟩):=rfl
 generalize hx0:(⟨ns (ns S (1+S.size/2)) 3,nv (ns S (1+S.size/2)) 3,[]⟩:Q4u)=x0 at HX0
 have HNO:Z (∀k,SOk (Vk x0 k).S/\(0<=(Vk x0 k).id/\(Vk x0 k).id<=3+1003*k)/\(Vk x0 k).l.length=k/\(Vk x0 k).S.size=x0.S.size):=by
  rw[<-hx0]
  exact Q20 (Qf HK1.o 3) (by show 0<=nv _ 3/\nv _ 3<=3;omega) rfl
 have HD2':Z (DBs w.heap.size D b w2 (Vk x0 0).S sN sN sN (Vk x0 0).l [] (λ_=>sN) (λ_=>sN) []):=by rw[<-hx0];exact HD2.o
 have HI0:Z (nv (ns S (1+S.size/2)) 3=(Vk x0 0).id):=by rw[<-hx0];rfl
 have HXS:Z (x0.S.size=S.size):=by rw[<-hx0];show(ns (ns S _) _).size=_;rw[Qs,Qs]
 have HND:Z (Tr S=Vk x0 c0):=by unfold Z Tr;rw[HCN.o,<-hx0];rfl
 clear hs1 hc1 HD2 HX0 HD1 HK1 hx0
 rw[HI0.o]
 clear hcd
 go_wp2
 go_loopw [5,6] (λs5 s6 wr=>∃(k c:Nat) (a:Option Addr),k<=c0/\s6=iV k/\s5=iV (Vk x0 k).id/\Z (DBs w.heap.size D b wr (Vk x0 k).S (sL a k c) sN sN (Vk x0 k).l [] (λ_=>sN) (λ_=>sN) [])/\Z (Chg (Sx1 b) w wr)) (λ_ i _=>c0-(intOf i).toNat)
 case atStart=>exact⟨0,0,none,nZ,rfl,rfl,HD2',HC2⟩
 obtain⟨k,c,a,hk,rfl,rfl,HD,HC⟩:=hrel
 by_cases hlt:k<c0
 ·have hlt':(k:Int)<c0:=by omega
  obtain⟨no1,no2,no3,no4⟩:=HNO.o k
  have HNL:=mh no3
  have HOKk:=mh no1
  have n0:=HD.o.box.c 0 rfl
  have hz:=HC.o.size
  generalize hid:(Vk x0 k).id=id at *
  have HID:=mh hid
  clear hid no1 no3 no4
  go_wp2_with (at_builtin;refine Yy rfl _ _ rfl w.heap.size k (sL a k c) (Vk x0 k).l id wr rfl HD.o.nd rfl HNL.o (by omega) hz ?_)
  intro a1 c1 w3 r1 r2 r3
  have HB3:=mh (HD.o.box.row HD.o.nd (by decide) r2)
  have HD4:=HD.o.addNode r1 r2 r3
  have HC4:Z (Chg (Sx1 b) w (w3.setCell (aD (w.heap.size+1) 0) (sL a1 (k+1) c1))):=(HC.o.young r2 (λx hx hl=>by have:=(Q7 HD.o.nd x hx.symm).1;omega)).young (Chg.set (S:=λx=>x=w.heap.size+1) _ _ _ rfl) (λx hx hl=>by have hx':x=w.heap.size+1:=hx;omega)
  have n0:=HB3.o.c 0 rfl
  have f0:=HB3.o.blk.frozen 0
  clear r1 r2 r3
  go_wp2_with fail
  generalize w3.setCell (aD (w.heap.size+1) 0) (sL a1 (k+1) c1)=w4 at *
  clear n0 f0 HB3
  refine(Q6 D b (Vk x0 k).S 3 w4 HD4.src HOKk.o (by omega)).mono ?_
  rintro e w5 ⟨rfl,hs1,hc1⟩
  have HD5:=mh (HD4.drawn hs1 hc1)
  have HC5:=mh (HC4.o.trans hc1)
  have hv3:=Qv HOKk.o 3
  clear hs1 hc1 HD4 HC4
  have HOK5:=mh (Qf HOKk.o 3)
  have HSTEP:Z (Vk x0 (k+1)=⟨ns (ns (Vk x0 k).S 3) 12,if nv (ns (Vk x0 k).S 3) 12=0 then id+(1+nv (Vk x0 k).S 3)+1000 else id+(1+nv (Vk x0 k).S 3),(Vk x0 k).l++[id]⟩):=by unfold Z;show Gn (Vk x0 k)=_;unfold Gn;rw[HID.o]
  generalize nv (Vk x0 k).S 3=d3 at *
  go_wp2_with fail
  refine(Q6 D b (ns (Vk x0 k).S 3) 12 w5 HD5.o.src HOK5.o (by omega)).mono ?_
  rintro e w6 ⟨rfl,hs1,hc1⟩
  have HD6:=HD5.o.drawn hs1 hc1
  have HC6:=mh (HC5.o.trans hc1)
  clear hs1 hc1 HD5
  generalize nv (ns (Vk x0 k).S 3) 12=d12 at *
  by_cases hd:d12=0
  ·subst hd
   have HD7:Z (DBs w.heap.size D b w6 (Vk x0 (k+1)).S (sL a1 (k+1) c1) sN sN (Vk x0 (k+1)).l [] (λ_=>sN) (λ_=>sN) []):=by rw[HSTEP.o];exact HD6
   have HI7:Z (id+(1+d3)+1000=(Vk x0 (k+1)).id):=by unfold Z;rw[HSTEP.o];rfl
   clear HD6
   go_wp2
   go_roundw
   case rel=>exact⟨k+1,c1,a1,by omega,by go_num,by rw[HI7.o],HD7,HC6⟩
   case measure=>simp[intOf];omega
  ·have hd':(d12==0)=false:=by simpa using hd
   have HD7:Z (DBs w.heap.size D b w6 (Vk x0 (k+1)).S (sL a1 (k+1) c1) sN sN (Vk x0 (k+1)).l [] (λ_=>sN) (λ_=>sN) []):=by rw[HSTEP.o];exact HD6
   have HI7:Z (id+(1+d3)=(Vk x0 (k+1)).id):=by unfold Z;rw[HSTEP.o];show _=if _ then _ else _;rw[if_neg hd]
   clear HD6 hd
   go_wp2
   go_roundw
   case rel=>exact⟨k+1,c1,a1,by omega,by go_num,by rw[HI7.o],HD7,HC6⟩
   case measure=>simp[intOf];omega
 have hkc:k=c0:=by omega
 subst hkc
 clear hlt hk HD2' HC2
 obtain⟨no1,no2,no3,no4⟩:=HNO.o k
 rw[<-HND.o] at no1 no2 no3 no4 HD
 have HNL:=mh no3
 have HOKd:=mh no1
 have HSZd:=mh (no4.trans HXS.o)
 have hz:=HC.o.size
 clear no1 no3 no4 HNO HI0 HXS HND
 go_wp2_with fail
 refine(Q6 D b (Tr S).S 16 wr HD.o.src HOKd.o (by omega)).mono ?_
 rintro e w3 ⟨rfl,hs1,hc1⟩
 have HD3:Z (DBs w.heap.size D b w3 (Yi S) (sL a k c) sN sN (Tr S).l [] (λ_=>sN) (λ_=>sN) []):=HD.o.drawn hs1 hc1
 have HC3:=mh (HC.o.trans hc1)
 have HDN:Z (Qg S=if nv (Tr S).S 16=0 then (Tr S).l++[1048576] else (Tr S).l):=rfl
 have HDC:Z (dbN S=if nv (Tr S).S 16=0 then Xb S+1 else Xb S):=rfl
 clear hs1 hc1
 generalize nv (Tr S).S 16=d at *
 go_upto_if 53 with fail
 generalize hbd:(d==0)=bd
 have HBD:=mh hbd
 clear hbd
 go_cut [4] from 54 to 60 (λs4 wc=>s4=iV (dbN S)/\Z (∃a c,DBs w.heap.size D b wc (Yi S) (.slice a (Qg S).length c) sN sN (Qg S) [] (λ_=>sN) (λ_=>sN) [])/\Z (Chg (Sx1 b) w wc))
 case first=>
  cases bd with
  |true=>
   have hd:d=0:=by simpa using HBD.o
   have HDN0:Z (Qg S=(Tr S).l++[1048576]):=by unfold Z;rw[HDN.o,if_pos hd]
   have HDC0:Z (dbN S=Xb S+1):=by unfold Z;rw[HDC.o,if_pos hd]
   clear HDN HDC hd HBD
   have n0:=HD3.o.box.c 0 rfl
   have hz3:=HC3.o.size
   go_wp2_with (at_builtin;refine Yy rfl _ _ rfl w.heap.size k (sL a k c) (Tr S).l 1048576 w3 rfl HD3.o.nd rfl HNL.o (by omega) hz3 ?_)
   intro a1 c1 w4 r1 r2 r3
   have HB4:=mh (HD3.o.box.row HD3.o.nd (by decide) r2)
   have HD4:Z (∃a c,DBs w.heap.size D b (w4.setCell (aD (w.heap.size+1) 0) (sL a1 (k+1) c1)) (Yi S) (.slice a (Qg S).length c) sN sN (Qg S) [] (λ_=>sN) (λ_=>sN) []):=by
    unfold Z
    rw[HDN0.o,zA,HNL.o]
    exact⟨a1,c1,HD3.o.addNode r1 r2 r3⟩
   have HC4:Z (Chg (Sx1 b) w (w4.setCell (aD (w.heap.size+1) 0) (sL a1 (k+1) c1))):=(HC3.o.young r2 (λx hx hl=>by have:=(Q7 HD3.o.nd x hx.symm).1;omega)).young (Chg.set (S:=λx=>x=w.heap.size+1) _ _ _ rfl) (λx hx hl=>by have hx':x=w.heap.size+1:=hx;omega)
   have HN4:Z ((k:Int)+1=dbN S):=by unfold Z;rw[HDC0.o,HCN.o]
   clear n0 r1 r2 r3
   have n0:=HB4.o.c 0 rfl
   have f0:=HB4.o.blk.frozen 0
   go_wp2
   go_meet
   exact⟨by rw[<-HN4.o],HD4,HC4⟩
  |false=>
   have hd:¬d=0:=by simpa using HBD.o
   have HD4:Z (∃a c,DBs w.heap.size D b w3 (Yi S) (.slice a (Qg S).length c) sN sN (Qg S) [] (λ_=>sN) (λ_=>sN) []):=by
    unfold Z
    rw[HDN.o,if_neg hd,HNL.o]
    exact⟨a,c,HD3.o⟩
   have HN4:Z ((k:Int)=dbN S):=by unfold Z;rw[HDC.o,if_neg hd,HCN.o]
   clear hd HDN HDC HBD
   go_wp2
   go_meet
   exact⟨by rw[<-HN4.o],HD4,HC3⟩
 case rest=>
 clear HD3 HC3
 obtain⟨rfl,HD3,HC3⟩:=hcut
 obtain⟨a0,c0',hd3⟩:=HD3.o
 have HLN:Z (((Qg S).length:Int)=dbN S):=by
  unfold Z
  rw[HDN.o,HDC.o]
  split
  ·rw[zA,HNL.o,HCN.o];rfl
  ·rw[HNL.o,HCN.o]
 have HNB:Z (2<=dbN S/\dbN S<=7):=by unfold Z;rw[HDC.o,HCN.o];split<;>omega
 have hnb:=HNB.o
 generalize hl0:(Qg S).length=l0 at *
 have HL0:=mh hl0
 have HD4:=mh hd3
 have HOK2:Z (SOk (Yi S)):=Qf HOKd.o 16
 have HSZ2:Z ((Yi S).size=S.size):=by unfold Z Yi;rw[Qs,HSZd.o]
 obtain⟨a9,c9,e9,_,k9⟩:=HD4.o.nd.held
 rw[HL0.o] at e9 k9
 simp only[zC] at e9
 obtain⟨rfl,_,rfl⟩:=e9
 obtain⟨nb,no,rfl,_,_,_⟩:=k9 (by have:=HLN.o;omega)
 clear k9
 generalize hcn:dbN S=cN at *
 have HcN:=mh hcn
 clear HD HC HD3 hd3 hl0 HCN HOKd HSZd HDN HDC hcn
 have b3:wc.cell? (aD b 3)=some (iV S.size):=by rw[<-HSZ2.o];exact HD4.o.src.size
 generalize hwc:wc=w5 at *
 clear hwc
 go_wp2_with fail
 refine(Q6 D b (Yi S) (2+S.size) w5 HD4.o.src HOK2.o (by omega)).mono ?_
 rintro e w6 ⟨rfl,hs1,hc1⟩
 have HD6:=mh (HD4.o.drawn hs1 hc1)
 have HC6:=mh (HC3.o.trans hc1)
 have HOK6:Z (SOk (ns (Yi S) (2+S.size))):=Qf HOK2.o _
 have hv6:=Qv HOK2.o (2+S.size)
 clear hs1 hc1 b3 HD4 HC3
 go_wp2_with fail
 refine(Q6 D b (ns (Yi S) (2+S.size)) 24 w6 HD6.o.src HOK6.o (by omega)).mono ?_
 rintro e w7 ⟨rfl,hs1,hc1⟩
 have HD7:=mh (HD6.o.drawn hs1 hc1)
 have HC7:=mh (HC6.o.trans hc1)
 have HOK7:Z (SOk (ns (ns (Yi S) (2+S.size)) 24)):=Qf HOK6.o _
 have HDW:Z (Y8 S=if nv (ns (Yi S) (2+S.size)) 24=0 then 0 else 2+nv (Yi S) (2+S.size)):=rfl
 clear hs1 hc1 HD6 HC6
 generalize nv (ns (Yi S) (2+S.size)) 24=d at *
 generalize nv (Yi S) (2+S.size)=d2 at *
 go_upto_if 71 with fail
 generalize hbd:(d==0)=bd
 have HBD:=mh hbd
 clear hbd
 go_cut [7] from 72 to 73 (λs7 wc=>s7=iV (Y8 S)/\wc=w7)
 case first=>
  cases bd with
  |true=>
   have hd:d=0:=by simpa using HBD.o
   have HW0:Z (Y8 S=0):=by unfold Z;rw[HDW.o,if_pos hd]
   clear hd HBD HDW
   go_wp2
   go_meet
   exact⟨by rw[HW0.o],rfl⟩
  |false=>
   have hd:¬d=0:=by simpa using HBD.o
   have HW0:Z (Y8 S=2+d2):=by unfold Z;rw[HDW.o,if_neg hd]
   clear hd HBD HDW
   go_wp2
   go_meet
   exact⟨by rw[HW0.o],rfl⟩
 case rest=>
 obtain⟨rfl,rfl⟩:=hcut
 have HWB:Z (0<=Y8 S/\Y8 S<=12):=by unfold Z;rw[HDW.o];split<;>omega
 clear HDW
 have hwb:=HWB.o
 obtain⟨nW,hnW⟩:∃nW:Nat,Y8 S=nW:=⟨(Y8 S).toNat,by omega⟩
 have HNW:=mh hnW
 rw[hnW]
 have hnWb:nW<=12:=by omega
 clear hwb hnW
 go_wp2_with fail
 refine(Q6 D b (ns (ns (Yi S) (2+S.size)) 24) 4 _ HD7.o.src HOK7.o (by omega)).mono ?_
 rintro e w8 ⟨rfl,hs1,hc1⟩
 have HD8:=mh (HD7.o.drawn hs1 hc1)
 have HC8:=mh (HC7.o.trans hc1)
 have hv8:=Qv HOK7.o 4
 generalize hy0:(⟨ns (ns (ns (Yi S) (2+S.size)) 24) 4,nv (ns (ns (Yi S) (2+S.size)) 24) 4,[]⟩:Q4r)=y0
 have HWO:Z (∀k,Qgn k S.size (Zb cN nW (Qg S) y0 k)):=by
  refine Q1d (by omega) ?_
  rw[<-hy0]
  exact⟨Qf HOK7.o 4,by show 0<=nv _ 4/\nv _ 4<=_;omega,rfl,by show(ns (ns (ns (Yi S) _) _) _).size=_;rw[Qs,Qs,Qs,HSZ2.o],λi hi=>absurd hi (zK _)⟩
 have HD9:Z (∃vn vw,DBs w.heap.size D b w8 (Zb cN nW (Qg S) y0 0).S (sL (some (aD nb no)) l0 c0') sN sN (Qg S) (Zb cN nW (Qg S) y0 0).ways vn vw []):=by rw[<-hy0];exact⟨_,_,HD8.o⟩
 have HI0:Z (nv (ns (ns (Yi S) (2+S.size)) 24) 4=(Zb cN nW (Qg S) y0 0).id):=by rw[<-hy0];rfl
 have HWY:Z (Tq S=Zb cN nW (Qg S) y0 nW):=by unfold Z Tq;rw[HcN.o,HNW.o,<-hy0];rfl
 rw[HI0.o]
 clear hs1 hc1 HD8 HD7 HC7 HOK7 HOK6 HI0 hy0 HOK2 hv8 hv6 hv1 hv2
 go_wp2
 go_loopw [5,8,9,10,11,12,13] (λs5 s8 s9 s10 s11 s12 s13 wr=>∃(k c1:Nat) (a1:Option Addr),k<=nW/\s8=iV k/\s5=iV (Zb cN nW (Qg S) y0 k).id/\Z (∃vn vw,DBs w.heap.size D b wr (Zb cN nW (Qg S) y0 k).S (sL (some (aD nb no)) l0 c0') (sL a1 k c1) sN (Qg S) (Zb cN nW (Qg S) y0 k).ways vn vw [])/\Z (Chg (Sx1 b) w wr)) (λ_ i _ _ _ _ _ _=>nW-(intOf i).toNat)
 case atStart=>exact⟨0,0,none,nZ,rfl,rfl,HD9,HC8⟩
 clear HD9 HC8
 obtain⟨k,c1,a1,hk,rfl,rfl,HDE,HC⟩:=hrel
 by_cases hlt:k<nW
 ·have hlt':(k:Int)<nW:=by omega
  obtain⟨vn,vw,hd⟩:=HDE.o
  have hwo:=HWO.o k
  have HWk:=mh hwo
  have HSTEP:Z (Zb cN nW (Qg S) y0 (k+1)=Q4x cN nW (Qg S) k (Zb cN nW (Qg S) y0 k)):=rfl
  have hid:=hwo.id
  generalize hyk:Zb cN nW (Qg S) y0 k=yk at *
  have HD:=mh hd
  have HOKk:=mh hwo.ok
  generalize hik:yk.id=idk at *
  have HIK:=mh hik
  clear hd hwo hyk hik HDE
  have hz:=HC.o.size
  go_upto_region 22 with fail
  generalize hWB:wr.alloc (.cells #[iV idk,.bool false,sN,sN] 93)=wB
  have HWB:Z (WBs D b wr wB yk.S idk false sN sN [] []):=by
   unfold Z
   refine WBs.start (v:=S) HD.o.src ?_ ?_
   ·rw[<-hWB];exact BT.new _ _ _ _ rfl
   ·rw[<-hWB];exact Qe _ _
  clear hWB
  go_cut [89] from 81 to 88 (λs wc=>s=.bool (decide ((k:Int)+1=nW/\nv yk.S 16=0))/\Z (WBs D b wr wc (Z9 nW k yk.S) idk false sN sN [] []))
  case first=>
   by_cases he:(k:Int)+1=nW
   ·have he':((k:Int)+1==(nW:Int))=true:=by simpa using he
    have HS0:Z (Z9 nW k yk.S=ns yk.S 16):=by unfold Z Z9;rw[if_pos he]
    have HDD:Z (decide ((k:Int)+1=nW/\nv yk.S 16=0)=(nv yk.S 16==0)):=by
     unfold Z
     rw[Bool.eq_iff_iff]
     simp[he]
    clear he
    go_wp2_with fail
    refine(Q6 D b yk.S 16 wB HWB.o.src HOKk.o (by omega)).mono ?_
    rintro e w3 ⟨rfl,hs1,hc1⟩
    have HW3:Z (WBs D b wr w3 (Z9 nW k yk.S) idk false sN sN [] []):=by rw[HS0.o];exact HWB.o.drawn hs1 hc1
    go_wp2
    go_meet
    exact⟨by rw[HDD.o],HW3⟩
   ·have he':((k:Int)+1==(nW:Int))=false:=by simpa using he
    have HW3:Z (WBs D b wr wB (Z9 nW k yk.S) idk false sN sN [] []):=by unfold Z Z9;rw[if_neg he];exact HWB.o
    have HDD:Z (decide ((k:Int)+1=nW/\nv yk.S 16=0)=false):=by unfold Z;simp[he]
    clear he
    go_wp2
    go_meet
    exact⟨by rw[HDD.o],HW3⟩
  case rest=>
  obtain⟨rfl,HW1⟩:=hcut
  have HIDW:Z (Ar nW k yk.S idk=if (k:Int)+1=nW/\nv yk.S 16=0 then 1048576 else idk):=rfl
  go_upto_if 89 with fail
  generalize hbd:decide ((k:Int)+1=nW/\nv yk.S 16=0)=bd
  have HBD:=mh hbd
  clear hbd
  go_cut [10] from 90 to 90 (λs10 wc=>Z (WBs D b wr wc (Z9 nW k yk.S) (Ar nW k yk.S idk) false sN sN [] []))
  case first=>
   cases bd with
   |true=>
    have HI1:Z (Ar nW k yk.S idk=1048576):=by unfold Z;rw[HIDW.o,if_pos (by simpa using HBD.o)]
    have i0:=HW1.o.box.c 0 rfl
    have f0:=HW1.o.box.blk.frozen 0
    have HW2:Z (WBs D b wr (wc.setCell (aD wr.heap.size 0) (iV 1048576)) (Z9 nW k yk.S) (Ar nW k yk.S idk) false sN sN [] []):=by rw[HI1.o];exact HW1.o.set 0 _ rfl
    clear HBD HIDW
    go_wp2
    go_meet
    exact HW2
   |false=>
    have HI1:Z (Ar nW k yk.S idk=idk):=by unfold Z;rw[HIDW.o,if_neg (by simpa using HBD.o)]
    have HW2:Z (WBs D b wr wc (Z9 nW k yk.S) (Ar nW k yk.S idk) false sN sN [] []):=by rw[HI1.o];exact HW1.o
    clear HBD HIDW
    go_wp2
    go_meet
    exact HW2
  case rest=>
  have HW2:Z (WBs D b wr wc (Z9 nW k yk.S) (Ar nW k yk.S idk) false sN sN [] []):=hcut
  clear hcut HIDW HBD HW1 HWB
  generalize hwc:wc=w3 at *
  clear hwc
  have HOK0:Z (SOk (Z9 nW k yk.S)):=Q6r HOKk.o
  have HSG:Z (Zb cN nW (Qg S) y0 (k+1)=⟨(Tp cN (Qg S) (ns (ns (Z9 nW k yk.S) 2) 3)).S,idk+(1+nv (Z9 nW k yk.S) 2),yk.ways++[⟨Ar nW k yk.S idk,nv (ns (Z9 nW k yk.S) 2) 3 !=0,(Tp cN (Qg S) (ns (ns (Z9 nW k yk.S) 2) 3)).nodes,(Tp cN (Qg S) (ns (ns (Z9 nW k yk.S) 2) 3)).weights⟩]⟩):=by unfold Z;rw[HSTEP.o];unfold Q4x;rw[HIK.o]
  generalize Ar nW k yk.S idk=wid at *
  generalize Z9 nW k yk.S=S0 at *
  clear HSTEP
  go_wp2_with fail
  refine(Q6 D b S0 2 _ HW2.o.src HOK0.o (by omega)).mono ?_
  rintro e w4 ⟨rfl,hs1,hc1⟩
  have HW4:=mh (HW2.o.drawn hs1 hc1)
  have hv4:=Qv HOK0.o 2
  have HOK4:=mh (Qf HOK0.o 2)
  clear hs1 hc1 HW2
  generalize nv S0 2=d2 at *
  go_wp2_with fail
  refine(Q6 D b (ns S0 2) 3 _ HW4.o.src HOK4.o (by omega)).mono ?_
  rintro e w5 ⟨rfl,hs1,hc1⟩
  have HW5:=mh (HW4.o.drawn hs1 hc1)
  have HOK5:=mh (Qf HOK4.o 3)
  generalize nv (ns S0 2) 3=d3 at *
  generalize ns (ns S0 2) 3=S5 at *
  have HW6:Z (WBs D b wr (w5.setCell (aD wr.heap.size 1) (.bool (d3 !=0))) S5 wid (d3 !=0) sN sN [] []):=HW5.o.set 1 _ rfl
  have i1:=HW5.o.box.c 1 rfl
  have f1:=HW5.o.box.blk.frozen 1
  clear hs1 hc1 HW4
  go_wp2_with fail
  generalize w5.setCell (aD wr.heap.size 1) (.bool (d3 !=0))=w6 at *
  generalize (d3 !=0)=bo at *
  clear i1 f1 HW5
  refine(Q6 D b S5 4 _ HW6.o.src HOK5.o (by omega)).mono ?_
  rintro e w7' ⟨rfl,hs1,hc1⟩
  have HW7:=mh (HW6.o.drawn hs1 hc1)
  have HOK7:=mh (Qf HOK5.o 4)
  have HSEG:Z (Zc S5=if nv S5 4=0 then 2+nv (ns S5 4) 2 else 1):=rfl
  have HS3:Z (Ur S5=if nv S5 4=0 then ns (ns S5 4) 2 else ns S5 4):=rfl
  clear hs1 hc1 HW6
  generalize nv S5 4=d4 at *
  go_upto_if 102 with fail
  generalize hbd:(d4==0)=bd
  have HBD:=mh hbd
  clear hbd
  go_cut [10] from 103 to 105 (λs10 wc=>s10=iV (Zc S5)/\Z (WBs D b wr wc (Ur S5) wid bo sN sN [] []))
  case first=>
   cases bd with
   |true=>
    have hd:d4=0:=by simpa using HBD.o
    have HA1:Z (Zc S5=2+nv (ns S5 4) 2):=by unfold Z;rw[HSEG.o,if_pos hd]
    have HA2:Z (Ur S5=ns (ns S5 4) 2):=by unfold Z;rw[HS3.o,if_pos hd]
    clear HSEG HS3 HBD hd
    go_wp2_with fail
    refine(Q6 D b (ns S5 4) 2 _ HW7.o.src HOK7.o (by omega)).mono ?_
    rintro e w8' ⟨rfl,hs1,hc1⟩
    have HW8:Z (WBs D b wr w8' (Ur S5) wid bo sN sN [] []):=by rw[HA2.o];exact HW7.o.drawn hs1 hc1
    have hv9:=Qv HOK7.o 2
    clear hs1 hc1
    go_wp2
    go_meet
    exact⟨by rw[HA1.o],HW8⟩
   |false=>
    have hd:¬d4=0:=by simpa using HBD.o
    have HA1:Z (Zc S5=1):=by unfold Z;rw[HSEG.o,if_neg hd]
    have HW8:Z (WBs D b wr w7' (Ur S5) wid bo sN sN [] []):=by rw[HS3.o,if_neg hd];exact HW7.o
    clear HSEG HS3 HBD hd
    go_wp2
    go_meet
    exact⟨by rw[HA1.o],HW8⟩
  case rest=>
  obtain⟨rfl,HW8⟩:=hcut
  have hsg:=Q0a HOK5.o
  have HOK8:=mh (Q6q HOK5.o)
  obtain⟨ng,hng⟩:∃ng:Nat,Zc S5=ng:=⟨(Zc S5).toNat,by omega⟩
  have HNG:=mh hng
  have hngb:1<=ng/\ng<=3:=by omega
  rw[hng]
  clear hng hsg HSEG HS3 HBD HW7 HOK7
  go_wp2_with fail
  refine(Q6 D b (Ur S5) cN _ HW8.o.src HOK8.o (by omega)).mono ?_
  rintro e w9 ⟨rfl,hs1,hc1⟩
  have HW9:=mh (HW8.o.drawn hs1 hc1)
  have hv9:=Qv HOK8.o cN
  clear hs1 hc1 HW8
  obtain⟨p0,hp0⟩:∃p0:Nat,nv (Ur S5) cN=p0:=⟨(nv (Ur S5) cN).toNat,by omega⟩
  have HP0:=mh hp0
  rw[hp0]
  have hpl:p0<l0:=by have:=HLN.o;omega
  have HPL:Z (p0<(Qg S).length):=by rw[HL0.o];exact hpl
  have hpl':(p0:Int)<l0:=by omega
  clear hp0 hv9
  go_upto_region 30 with fail
  generalize hzv:iat (Qg S) p0=z0 at *
  have HZV:=mh hzv
  clear hzv
  have HWD:=mh (HW9.o.next (show Nx w9 w9.drew from(Below.refl _ _).drew))
  have hdd:=mh (HD.o.drawn HWD.o.src HWD.o.chg)
  have HSN:Z (∀q,Nx w9.drew q->(λq=>q.cell? (aD wr.heap.size 2)=some sN/\q.cell? (aD (w.heap.size+1) 0)=some (sL (some (aD nb no)) l0 c0')/\q.cell? (aD nb (no+p0))=some (iV z0)) q):=λq hq=>⟨Q0 hq (HWD.o.box.c 2 rfl),Q0 hq (hdd.o.box.c 0 rfl),Q0 hq (by rw[<-HZV.o];exact hdd.o.nd.held.at_ p0 HPL.o)⟩
  have HSS:=mh (HSN.o _ (Nx.refl _))
  have hmx:prog.follows .mixedOrders=true:=by kernel_rfl
  have hzz:wr.heap.size+1<=w9.heap.size:=HWD.o.box.lt
  refine(wpIn_wide (n:=9)).1 ?_
  refine Qb (c:=10) (S:=λq=>q.cell? (aD wr.heap.size 2)=some sN/\q.cell? (aD (w.heap.size+1) 0)=some (sL (some (aD nb no)) l0 c0')/\q.cell? (aD nb (no+p0))=some (iV z0)) hmx (by kernel_rfl) (λhw hcl=>?_)
  refine tq (i:=0) (v:=.pointer (some (aD wr.heap.size 2))) (λhcl=>?_)
  refine tq (i:=1) (v:=sN) (λhcl=>?_)
  refine tq (i:=2) (v:=pT (w.heap.size+1)) (λhcl=>?_)
  refine tq (i:=3) (v:=sL (some (aD nb no)) l0 c0') (λhcl=>?_)
  refine tq (i:=4) (v:=iV (p0:Int)) (λhcl=>?_)
  refine tq (i:=5) (v:=.pointer (some (aD nb (no+p0)))) (λhcl=>?_)
  refine tq (i:=6) (v:=iV z0) (λhcl=>?_)
  refine Qh (i:=7) (by kernel_rfl) (wpOpIn_step rfl (λK hK=>?_))
  go_simp
  refine hK _ _ ⟨oR (HSN.o _ (Qe _ _)),?_⟩
  clear hK K
  refine Qh (i:=8) (by kernel_rfl) (wpOpIn_step rfl (λK hK=>?_))
  refine Jl rfl (.tmp 110) (.tmp 116) rfl (wr.heap.size+1) 0 sN [] z0 w9.drew _ rfl (by simp[Act.eval]) HWD.o.nds (by simp[Act.eval]) rfl (by omega) hzz ?_
  intro a8 c8 w8 r1 r2 r3
  have HW100:=mh (HWD.o.addNd r1 r2 r3)
  have HB8:=mh (HWD.o.box.row HWD.o.nds (by decide) r2)
  have HS8:Z ((λq=>q.cell? (aD wr.heap.size 2)=some sN/\q.cell? (aD (w.heap.size+1) 0)=some (sL (some (aD nb no)) l0 c0')/\q.cell? (aD nb (no+p0))=some (iV z0)) w8):=⟨HB8.o.c 2 rfl,(hdd.o.box.row HWD.o.nds (by decide) r2).c 0 rfl,by
   rw[<-HZV.o]
   exact(Q5.held (Uv hdd.o.nd (λg hg hg2=>by have h1:=(Q7 HWD.o.nds g hg).1;have h2:=(Q7 HD.o.nd g hg2).2;omega) r2)).at_ p0 HPL.o⟩
  refine hK _ _ ⟨oR HS8.o,?_⟩
  clear hK K r1 r2 r3
  refine Qh (i:=9) (by kernel_rfl) (wpOpIn_step rfl (λK hK=>?_))
  go_simp
  refine hK _ _ ⟨oR HS8.o,?_⟩
  clear hK K
  have g2:=HB8.o.c 2 rfl
  have f2:=HB8.o.blk.frozen 2
  refine Qh (i:=10) (by kernel_rfl) (wpOpIn_step rfl (λK hK=>?_))
  go_simp
  refine hK _ _ ⟨oL (by decide),?_⟩
  clear hK K
  refine Ql (by kernel_rfl) ?_ _
  clear hw hcl HSS HS8 g2 f2 HB8 HSN hdd HWD
  have HW10:Z (WBs D b wr (w8.setCell (aD wr.heap.size 2) (sL a8 (0+1) c8)) (ns (Ur S5) cN) wid bo (sL a8 (0+1) c8) sN ([]++[z0]) []):=HW100
  clear HW100
  generalize w8.setCell (aD wr.heap.size 2) (sL a8 (0+1) c8)=w10 at *
  have HQ0:Z (Tp cN (Qg S) S5=Xc cN (Qg S) ⟨ns (Ur S5) cN,(p0:Int),[z0],[]⟩ ng):=by unfold Z Tp;rw[HP0.o,HNG.o,zU,zU,HZV.o]
  have HOK9:=mh (Qf HOK8.o cN)
  generalize hq0:(⟨ns (Ur S5) cN,(p0:Int),[z0],[]⟩:Q4s)=q0 at *
  have HQO:Z (∀j,SOk (Xc cN (Qg S) q0 j).S/\(0<=(Xc cN (Qg S) q0 j).pos/\(Xc cN (Qg S) q0 j).pos<cN)/\(Xc cN (Qg S) q0 j).nodes.length=1+j/\(Xc cN (Qg S) q0 j).weights.length=j):=by
   intro j
   have h:=Q1o (ids:=Qg S) (count:=cN) (by omega) (x:=q0) (by rw[<-hq0];exact HOK9.o) (by rw[<-hq0];show(0:Int)<=p0/\(p0:Int)<cN;have:=HLN.o;omega) j
   refine⟨h.1,h.2.1,?_,?_⟩
   ·rw[h.2.2.1,<-hq0];rfl
   ·rw[h.2.2.2.1,<-hq0];simp
  have HW11:Z (WBs D b wr w10 (Xc cN (Qg S) q0 0).S wid bo (sL a8 (0+1) c8) sN (Xc cN (Qg S) q0 0).nodes (Xc cN (Qg S) q0 0).weights):=by rw[<-hq0];exact HW10.o
  have HPP:Z ((p0:Int)=(Xc cN (Qg S) q0 0).pos):=by rw[<-hq0];rfl
  rw[HPP.o]
  clear HW10 HOK9 hq0 HP0 HZV HPL hpl hpl' HPP HOK8
  generalize hwr:wr=wR at *
  clear hwr
  go_wp2
  go_loopw [11,12,13] (λs11 s12 s13 wx=>∃(j cv cw:Nat) (av aw:Option Addr),j<=ng/\s12=iV j/\s11=iV (Xc cN (Qg S) q0 j).pos/\Z (WBs D b wR wx (Xc cN (Qg S) q0 j).S wid bo (sL av (j+1) cv) (sL aw j cw) (Xc cN (Qg S) q0 j).nodes (Xc cN (Qg S) q0 j).weights)) (λ_ i _ _=>ng-(intOf i).toNat)
  case atStart=>exact⟨0,_,_,_,_,nZ,rfl,rfl,HW11⟩
  clear HW11
  obtain⟨j,cv,cw,av,aw,hj,rfl,rfl,HWJ⟩:=hrel
  by_cases hjl:j<ng
  ·have hjl':(j:Int)<ng:=by omega
   obtain⟨qo1,qo2,qo3,qo4⟩:=HQO.o j
   have HQK:=mh qo1
   have HQN:Z ((Xc cN (Qg S) q0 j).nodes.length=j+1):=by unfold Z;omega
   have HQW:=mh qo4
   have HQS:Z (Xc cN (Qg S) q0 (j+1)=Q57 cN (Qg S) (Xc cN (Qg S) q0 j)):=rfl
   generalize hqj:Xc cN (Qg S) q0 j=qj at *
   clear hqj qo1 qo3 qo4
   go_wp2_with fail
   refine(Q6 D b qj.S (cN-1) _ HWJ.o.src HQK.o (by omega)).mono ?_
   rintro e w3' ⟨rfl,hs1,hc1⟩
   have HWJ1:=mh (HWJ.o.drawn hs1 hc1)
   have hv1':=Qv HQK.o (cN-1)
   have HQK1:Z (SOk (ns qj.S (cN-1))):=Qf HQK.o _
   clear hs1 hc1 HWJ
   go_wp2_with fail
   refine(Q6 D b (ns qj.S (cN-1)) 20 _ HWJ1.o.src HQK1.o (by omega)).mono ?_
   rintro e w4' ⟨rfl,hs1,hc1⟩
   have HWJ2:=mh (HWJ1.o.drawn hs1 hc1)
   have HQK2:Z (SOk (ns (ns qj.S (cN-1)) 20)):=Qf HQK1.o _
   have HAT:Z (Q58 cN qj=(qj.pos+if nv (ns qj.S (cN-1)) 20=0 then 0 else 1+nv qj.S (cN-1))%cN):=rfl
   clear hs1 hc1 HWJ1 HQK1
   generalize nv (ns qj.S (cN-1)) 20=d20 at *
   generalize nv qj.S (cN-1)=dc at *
   generalize hst:(if d20=0 then 0 else 1+dc:Int)=st at *
   have HST:=mh hst
   clear hst
   go_upto_if 131 with fail
   generalize hbd:(d20==0)=bd
   have HBD:=mh hbd
   clear hbd
   go_cut [13] from 132 to 132 (λs13 wc=>s13=iV st/\wc=w4')
   case first=>
    cases bd with
    |true=>
     have HS1:Z (st=0):=by unfold Z;rw[<-HST.o,if_pos (by simpa using HBD.o)]
     clear HBD HST
     go_wp2
     go_meet
     exact⟨by rw[HS1.o],rfl⟩
    |false=>
     have HS1:Z (st=1+dc):=by unfold Z;rw[<-HST.o,if_neg (by simpa using HBD.o)]
     clear HBD HST
     go_wp2
     go_meet
     exact⟨by rw[HS1.o],rfl⟩
   case rest=>
   obtain⟨rfl,rfl⟩:=hcut
   have hstb:0<=st/\st<=1+dc:=by rw[<-HST.o];split<;>omega
   have hc0:cN≠0:=by omega
   have hc1:(cN==0)=false:=by simpa using hc0
   have hps:0<=qj.pos+st:=by omega
   have hpb:0<=(qj.pos+st)%cN/\(qj.pos+st)%cN<cN:=⟨Int.emod_nonneg _ hc0,Int.emod_lt_of_pos _ (by omega)⟩
   obtain⟨p,hp⟩:∃p:Nat,(qj.pos+st)%cN=p:=⟨((qj.pos+st)%cN).toNat,by omega⟩
   have HPV:Z (Q58 cN qj=p):=by rw[HAT.o];exact hp
   have hpl:p<l0:=by have:=HLN.o;omega
   have HPL:Z (p<(Qg S).length):=by rw[HL0.o];exact hpl
   have hpl':(p:Int)<l0:=by omega
   clear HBD HST HAT
   go_upto_region 38 with fail
   rw[hp]
   clear hp
   generalize hzv:iat (Qg S) p=z0' at *
   have HZV:=mh hzv
   clear hzv
   have HWD:=mh (HWJ2.o.next (show Nx wc wc.drew from(Below.refl _ _).drew))
   have hdd:=mh (HD.o.drawn HWD.o.src HWD.o.chg)
   have HSN:Z (∀q,Nx wc.drew q->(λq=>q.cell? (aD wR.heap.size 2)=some (sL av (j+1) cv)/\q.cell? (aD (w.heap.size+1) 0)=some (sL (some (aD nb no)) l0 c0')/\q.cell? (aD nb (no+p))=some (iV z0')) q):=λq hq=>⟨Q0 hq (HWD.o.box.c 2 rfl),Q0 hq (hdd.o.box.c 0 rfl),Q0 hq (by rw[<-HZV.o];exact hdd.o.nd.held.at_ p HPL.o)⟩
   have HSS:=mh (HSN.o _ (Nx.refl _))
   have hmx:prog.follows .mixedOrders=true:=by kernel_rfl
   have hzz:wR.heap.size+1<=wc.heap.size:=HWD.o.box.lt
   refine(wpIn_wide (n:=9)).1 ?_
   refine Qb (c:=10) (S:=λq=>q.cell? (aD wR.heap.size 2)=some (sL av (j+1) cv)/\q.cell? (aD (w.heap.size+1) 0)=some (sL (some (aD nb no)) l0 c0')/\q.cell? (aD nb (no+p))=some (iV z0')) hmx (by kernel_rfl) (λhw hcl=>?_)
   refine tq (i:=0) (v:=.pointer (some (aD wR.heap.size 2))) (λhcl=>?_)
   refine tq (i:=1) (v:=sL av (j+1) cv) (λhcl=>?_)
   refine tq (i:=2) (v:=pT (w.heap.size+1)) (λhcl=>?_)
   refine tq (i:=3) (v:=sL (some (aD nb no)) l0 c0') (λhcl=>?_)
   refine tq (i:=4) (v:=iV (p:Int)) (λhcl=>?_)
   refine tq (i:=5) (v:=.pointer (some (aD nb (no+p)))) (λhcl=>?_)
   refine tq (i:=6) (v:=iV z0') (λhcl=>?_)
   refine Qh (i:=7) (by kernel_rfl) (wpOpIn_step rfl (λK hK=>?_))
   go_simp
   refine hK _ _ ⟨oR (HSN.o _ (Qe _ _)),?_⟩
   clear hK K
   refine Qh (i:=8) (by kernel_rfl) (wpOpIn_step rfl (λK hK=>?_))
   refine Jl rfl (.tmp 138) (.tmp 144) rfl (wR.heap.size+1) (j+1) (sL av (j+1) cv) qj.nodes z0' wc.drew _ rfl (by simp[Act.eval]) HWD.o.nds (by simp[Act.eval]) HQN.o (by omega) hzz ?_
   intro a8 c8 w8 r1 r2 r3
   have HW100:=mh (HWD.o.addNd r1 r2 r3)
   have HB8:=mh (HWD.o.box.row HWD.o.nds (by decide) r2)
   have HS8:Z ((λq=>q.cell? (aD wR.heap.size 2)=some (sL av (j+1) cv)/\q.cell? (aD (w.heap.size+1) 0)=some (sL (some (aD nb no)) l0 c0')/\q.cell? (aD nb (no+p))=some (iV z0')) w8):=⟨HB8.o.c 2 rfl,(hdd.o.box.row HWD.o.nds (by decide) r2).c 0 rfl,by
    rw[<-HZV.o]
    exact(Q5.held (Uv hdd.o.nd (λg hg hg2=>by have h1:=(Q7 HWD.o.nds g hg).1;have h2:=(Q7 HD.o.nd g hg2).2;omega) r2)).at_ p HPL.o⟩
   refine hK _ _ ⟨oR HS8.o,?_⟩
   clear hK K r1 r2 r3
   refine Qh (i:=9) (by kernel_rfl) (wpOpIn_step rfl (λK hK=>?_))
   go_simp
   refine hK _ _ ⟨oR HS8.o,?_⟩
   clear hK K
   have g2:=HB8.o.c 2 rfl
   have f2:=HB8.o.blk.frozen 2
   refine Qh (i:=10) (by kernel_rfl) (wpOpIn_step rfl (λK hK=>?_))
   go_simp
   refine hK _ _ ⟨oL (by decide),?_⟩
   clear hK K
   refine Ql (by kernel_rfl) ?_ _
   clear hw hcl HSS HS8 g2 f2 HB8 HSN hdd HWD
   have HW10:Z (WBs D b wR (w8.setCell (aD wR.heap.size 2) (sL a8 ((j+1)+1) c8)) (ns (ns qj.S (cN-1)) 20) wid bo (sL a8 ((j+1)+1) c8) (sL aw j cw) (qj.nodes++[z0']) qj.weights):=HW100
   clear HW100
   generalize w8.setCell (aD wR.heap.size 2) (sL a8 ((j+1)+1) c8)=w10 at *
   go_upto_region 39 with fail
   have HWD:=mh (HW10.o.next (show Nx w10 w10.drew from(Below.refl _ _).drew))
   have HSS:Z ((λq=>q.cell? (aD wR.heap.size 3)=some (sL aw j cw)) w10.drew):=HWD.o.box.c 3 rfl
   have hmx:prog.follows .mixedOrders=true:=by kernel_rfl
   refine(wpIn_wide (n:=9)).1 ?_
   refine Qb (c:=7) (S:=λq=>q.cell? (aD wR.heap.size 3)=some (sL aw j cw)) hmx (by kernel_rfl) (λhw hcl=>?_)
   refine tq (i:=0) (v:=.pointer (some (aD wR.heap.size 3))) (λhcl=>?_)
   refine tq (i:=1) (v:=sL aw j cw) (λhcl=>?_)
   refine tq (i:=2) (v:=pT b) (λhcl=>?_)
   refine Q8 (i:=3) (by kernel_rfl) hcl (λhcl=>wpOpIn_step rfl (λK hK=>?_))
   go_simp
   refine⟨trivial,(callsIn_wide.2 (Zj D b (ns (ns qj.S (cN-1)) 20) _ HWD.o.src HQK2.o)).mono ?_⟩
   rintro e7 w7 ⟨rfl,hs1,hc1⟩
   have HWC:=mh (HWD.o.drawn hs1 hc1)
   have HSC:Z (∀q,Nx w7 q->(λq=>q.cell? (aD wR.heap.size 3)=some (sL aw j cw)) q):=λq hq=>Q0 hq (HWC.o.box.c 3 rfl)
   have hzz:wR.heap.size+1<=w7.heap.size:=HWC.o.box.lt
   refine hK _ _ ⟨oR (HSC.o _ (Nx.refl _)),?_⟩
   clear hK K hs1 hc1 HSS HWD
   generalize hdw:dwV (ns (ns qj.S (cN-1)) 20)=dw at *
   have HDW:=mh hdw
   clear hdw
   refine Qh (i:=4) (by kernel_rfl) (wpOpIn_step rfl (λK hK=>?_))
   go_simp
   refine hK _ _ ⟨oR (HSC.o _ (Qe _ _)),?_⟩
   clear hK K
   refine Qh (i:=5) (by kernel_rfl) (wpOpIn_step rfl (λK hK=>?_))
   refine Jl rfl (.tmp 148) (.tmp 151) rfl (wR.heap.size+1) j (sL aw j cw) qj.weights dw w7 _ rfl (by simp[Act.eval]) HWC.o.wts (by simp[Act.eval]) HQW.o (by omega) hzz ?_
   intro a9 c9 w9' r1 r2 r3
   have HW110:=mh (HWC.o.addWt r1 r2 r3)
   have HB8:=mh (HWC.o.box.row HWC.o.wts (by decide) r2)
   have g2:=HB8.o.c 3 rfl
   have f2:=HB8.o.blk.frozen 3
   refine hK _ _ ⟨oR g2,?_⟩
   clear hK K r1 r2 r3
   refine Qh (i:=6) (by kernel_rfl) (wpOpIn_step rfl (λK hK=>?_))
   go_simp
   refine hK _ _ ⟨oR g2,?_⟩
   clear hK K
   refine Qh (i:=7) (by kernel_rfl) (wpOpIn_step rfl (λK hK=>?_))
   go_simp
   refine hK _ _ ⟨oL (by decide),?_⟩
   clear hK K
   refine Ql (by kernel_rfl) ?_ _
   clear hw hcl g2 f2 HB8 HSC HWC
   have HW11:Z (WBs D b wR (w9'.setCell (aD wR.heap.size 3) (sL a9 (j+1) c9)) (dwS (ns (ns qj.S (cN-1)) 20)) wid bo (sL a8 (j+1+1) c8) (sL a9 (j+1) c9) (qj.nodes++[z0']) (qj.weights++[dw])):=HW110
   clear HW110
   generalize w9'.setCell (aD wR.heap.size 3) (sL a9 (j+1) c9)=w11 at *
   have HQF:Z (Xc cN (Qg S) q0 (j+1)=⟨dwS (ns (ns qj.S (cN-1)) 20),(p:Int),qj.nodes++[z0'],qj.weights++[dw]⟩):=by unfold Z;rw[HQS.o];unfold Q57;rw[HPV.o,zU,HZV.o,HDW.o]
   have HW12:Z (WBs D b wR w11 (Xc cN (Qg S) q0 (j+1)).S wid bo (sL a8 (j+1+1) c8) (sL a9 (j+1) c9) (Xc cN (Qg S) q0 (j+1)).nodes (Xc cN (Qg S) q0 (j+1)).weights):=by rw[HQF.o];exact HW11.o
   have HPF:Z ((p:Int)=(Xc cN (Qg S) q0 (j+1)).pos):=by unfold Z;rw[HQF.o]
   clear HW11 HW10 HWJ2
   go_wp2
   go_roundw
   case rel=>exact⟨j+1,_,_,_,_,by omega,by go_num,by rw[HPF.o],HW12⟩
   case measure=>simp[intOf];omega
  have hjn:j=ng:=by omega
  subst hjn
  have HDW:=mh (HD.o.drawn HWJ.o.src HWJ.o.chg)
  have HWSG:Z (Zb cN nW (Qg S) y0 (k+1)=⟨(Xc cN (Qg S) q0 j).S,idk+(1+d2),yk.ways++[⟨wid,bo,(Xc cN (Qg S) q0 j).nodes,(Xc cN (Qg S) q0 j).weights⟩]⟩):=by unfold Z;rw[HSG.o,HQ0.o]
  generalize Xc cN (Qg S) q0 j=qj at *
  have m1:=HDW.o.box.c 1 rfl
  have i0:=HWJ.o.box.c 0 rfl
  have i1:=HWJ.o.box.c 1 rfl
  have i2:=HWJ.o.box.c 2 rfl
  have i3:=HWJ.o.box.c 3 rfl
  have HKL:=mh HWk.o.len
  have HROW:Z (wr.ownsRow w.heap.size 93 4 (sL a1 k c1) k (G8 yk.ways vn vw)):=by
   have h:=HDW.o.wys
   unfold Fj at h
   rw[HKL.o] at h
   exact h
  have hzr:=zM hz HWJ.o.chg.size
  go_wp2_with (at_builtin;refine U7 Iq underlying56 rfl (by decide) (by decide) rfl _ _ rfl w.heap.size k (sL a1 k c1) (G8 yk.ways vn vw) [iV wid,.bool bo,sL av (j+1) cv,sL aw j cw] wr rfl HROW.o rfl rfl (by intro u hu;simp at hu;rcases hu with rfl|rfl|rfl|rfl<;>rfl) (by omega) hzr ?_)
  intro a2 c2 w2' r1 r2 r3
  have HB2:=mh (HDW.o.box.row HROW.o (by decide) r2)
  have HD2:Z (∃vn vw,DBs w.heap.size D b (w2'.setCell (aD (w.heap.size+1) 1) (sL a2 (k+1) c2)) (Zb cN nW (Qg S) y0 (k+1)).S (sL (some (aD nb no)) l0 c0') (sL a2 (k+1) c2) sN (Qg S) (Zb cN nW (Qg S) y0 (k+1)).ways vn vw []):=by
   unfold Z
   rw[HWSG.o]
   refine⟨_,_,HDW.o.addWay (z:=wR.heap.size+1) ?_ (va:=sL av (j+1) cv) (vb:=sL aw j cw) (x:=⟨wid,bo,qj.nodes,qj.weights⟩) ?_ r2 HWJ.o.nds HWJ.o.wts (by omega) HWJ.o.ap⟩
   ·intro u hu g hg
    rcases List.mem_cons.1 hu with rfl|hu
    ·have:=(Q7 HD.o.nd g hg).2;omega
    ·obtain⟨i,hi,rfl|rfl⟩:=Q1v hu
     ·have:=(Q7 (HD.o.wn i hi) g hg).2;omega
     ·have:=(Q7 (HD.o.ww i hi) g hg).2;omega
   ·rw[HKL.o]
    exact r1
  have HC2':Z (Chg (Sx1 b) w (w2'.setCell (aD (w.heap.size+1) 1) (sL a2 (k+1) c2))):=((HC.o.trans HWJ.o.chg).young r2 (λx hx hl=>by have:=(Q7 HROW.o x hx.symm).1;omega)).young (Chg.set (S:=λx=>x=w.heap.size+1) _ _ _ rfl) (λx hx hl=>by have hx':x=w.heap.size+1:=hx;omega)
  have HIF:Z (idk+(1+d2)=(Zb cN nW (Qg S) y0 (k+1)).id):=by unfold Z;rw[HWSG.o]
  clear m1 i0 i1 i2 i3 r1 r2 r3
  have m1:=HB2.o.c 1 rfl
  have f1:=HB2.o.blk.frozen 1
  go_wp2
  go_roundw
  case rel=>exact⟨k+1,c2,a2,by omega,by go_num,by rw[HIF.o],HD2,HC2'⟩
  case measure=>simp[intOf];omega
 have hkn:k=nW:=by omega
 subst hkn
 clear hlt hk
 rw[<-HWY.o] at HDE
 have hwo:=HWO.o k
 rw[<-HWY.o] at hwo
 have HTN:Z (Wu S=if (Tq S).ways.length=0 then ⟨(Tq S).S,[]⟩ else Zq (Tq S).ways ⟨ns (Tq S).S (3+S.size),[]⟩ (nv (Tq S).S (3+S.size)).toNat):=rfl
 have HWk:=mh hwo
 obtain⟨vn,vw,hd⟩:=HDE.o
 have HNETW:Z ((Qa S).uturn=dwV (Wu S).S/\dbS S=dwS (Wu S).S):=⟨rfl,rfl⟩
 clear hwo HDE HWO HWY HNW
 generalize hyd:Tq S=yD at *
 have HYD:=mh hyd
 clear hyd
 have HKL:=mh HWk.o.len
 have HD:=mh hd
 have m1:=HD.o.box.c 1 rfl
 clear hd
 go_upto_if 163 with fail
 clear m1
 generalize hbd:decide (0<k)=bd
 have HBD:=mh hbd
 clear hbd
 go_cut [14,15,16,17] from 164 to 204 (λs14 s15 s16 s17 wc=>Z (∃a3 n3 c3,DBs w.heap.size D b wc (Wu S).S (sL (some (aD nb no)) l0 c0') (sL a1 k c1) (sL a3 n3 c3) (Qg S) yD.ways vn vw (Wu S).ts)/\Z (Chg (Sx1 b) w wc)/\Z (SOk (Wu S).S))
 case first=>
  cases bd with
  |false=>
   have hk0:k=0:=by have:=HBD.o;simp at this;omega
   have HT0:Z (Wu S=⟨yD.S,[]⟩):=by unfold Z;rw[HTN.o,if_pos (by rw[HKL.o];exact hk0)]
   have HF1:Z (∃a3 n3 c3,DBs w.heap.size D b wr (Wu S).S (sL (some (aD nb no)) l0 c0') (sL a1 k c1) (sL a3 n3 c3) (Qg S) yD.ways vn vw (Wu S).ts):=by rw[HT0.o];exact⟨_,_,_,HD.o⟩
   have HF2:Z (SOk (Wu S).S):=by rw[HT0.o];exact HWk.o.ok
   clear HTN HBD hk0
   go_wp2
   go_meet
   exact⟨HF1,HC,HF2⟩
  |true=>
   have hk0:0<k:=by have:=HBD.o;simp at this;omega
   obtain⟨wb,c1',e1,_⟩:=HD.o.wys.at (i:=0) (by rw[HKL.o];exact hk0)
   simp only[zC] at e1
   obtain⟨rfl,ek,ec⟩:=e1
   clear HBD ek ec
   have HTN1:Z (Wu S=Zq yD.ways ⟨ns yD.S (3+S.size),[]⟩ (nv yD.S (3+S.size)).toNat):=by unfold Z;rw[HTN.o,if_neg (by rw[HKL.o];omega)]
   have hs3:wr.cell? (aD b 3)=some (iV S.size):=by rw[<-HWk.o.size];exact HD.o.src.size
   have HYK:=mh HWk.o.ok
   clear HTN
   go_wp2_with fail
   refine(Q6 D b yD.S (3+S.size) _ HD.o.src HYK.o (by omega)).mono ?_
   rintro e w3 ⟨rfl,hs1,hc1⟩
   have HD3:=mh (HD.o.drawn hs1 hc1)
   have HC3:=mh (HC.o.trans hc1)
   have hvt:=Qv HYK.o (3+S.size)
   obtain⟨nt,hnt⟩:∃nt:Nat,nv yD.S (3+S.size)=nt:=⟨(nv yD.S (3+S.size)).toNat,by omega⟩
   have hntb:nt<=12:=by omega
   have HTN2:Z (Wu S=Zq yD.ways ⟨ns yD.S (3+S.size),[]⟩ nt):=by unfold Z;rw[HTN1.o,hnt,zU]
   rw[hnt]
   have HTO:Z (∀i,SOk (Zq yD.ways ⟨ns yD.S (3+S.size),[]⟩ i).S/\(Zq yD.ways ⟨ns yD.S (3+S.size),[]⟩ i).ts.length<=i):=λi=>Q1l (x:=⟨ns yD.S (3+S.size),[]⟩) (Qf HYK.o _) rfl i
   have HD4':Z (DBs w.heap.size D b w3 (Zq yD.ways ⟨ns yD.S (3+S.size),[]⟩ 0).S (sL (some (aD nb no)) l0 c0') (sL (sA wb) k c1) sN (Qg S) yD.ways vn vw (Zq yD.ways ⟨ns yD.S (3+S.size),[]⟩ 0).ts):=HD3.o
   generalize (⟨ns yD.S (3+S.size),[]⟩:Q6l)=t0 at *
   clear hs1 hc1 HD3 hnt hvt HTN1 hs3
   go_wp2
   go_loopw [15,16,17] (λs15 s16 s17 wx=>∃(i n3 c3:Nat) (a3:Option Addr),i<=nt/\s15=iV i/\Z (DBs w.heap.size D b wx (Zq yD.ways t0 i).S (sL (some (aD nb no)) l0 c0') (sL (sA wb) k c1) (sL a3 n3 c3) (Qg S) yD.ways vn vw (Zq yD.ways t0 i).ts)/\Z (Chg (Sx1 b) w wx)) (λi _ _ _=>nt-(intOf i).toNat)
   case atStart=>exact⟨0,_,_,_,nZ,rfl,HD4',HC3⟩
   clear HD4' HC3
   obtain⟨i,n3,c3,a3,hi,rfl,HDT,HCT⟩:=hrel
   by_cases hilt:i<nt
   ·have hilt':(i:Int)<nt:=by omega
    obtain⟨to1,to2⟩:=HTO.o i
    have HTS:Z (Zq yD.ways t0 (i+1)=Q52 yD.ways (Zq yD.ways t0 i)):=rfl
    have HTK:=mh to1
    generalize Zq yD.ways t0 i=ti at *
    clear to1
    go_upto_region 46 with fail
    have HWD1:=mh (HDT.o.next (show Nx wr wr.drew from(Below.refl _ _).drew))
    have hvp:=Qv HTK.o (k:Int)
    obtain⟨i1,hi1⟩:∃i:Nat,nv ti.S (k:Int)=i:=⟨(nv ti.S (k:Int)).toNat,by omega⟩
    have HI1:=mh hi1
    have hil:i1<k:=by omega
    have hil':(i1:Int)<k:=by omega
    have HSN:Z (∀q S' v3 ts,DBs w.heap.size D b q S' (sL (some (aD nb no)) l0 c0') (sL (sA wb) k c1) v3 (Qg S) yD.ways vn vw ts->q.cell? (aD (w.heap.size+1) 1)=some (sL (sA wb) k c1)/\q.cell? (aD wb (i1*4))=some (iV (wat yD.ways i1).id)):=λq S' v3 ts h=>⟨h.box.c 1 rfl,by
     obtain⟨b',c',e,_,_,k0,_⟩:=h.wys.at (i:=i1) (by rw[HKL.o];exact hil)
     simp only[zC,Option.some.injEq,Addr.mk.injEq] at e
     obtain⟨⟨rfl,_⟩,_⟩:=e
     exact k0⟩
    generalize hid1:(wat yD.ways i1).id=id1 at *
    have HID1:=mh hid1
    have HSS:Z ((λq=>q.cell? (aD (w.heap.size+1) 1)=some (sL (sA wb) k c1)/\q.cell? (aD wb (i1*4))=some (iV id1)) wr.drew):=HSN.o _ _ _ _ HWD1.o
    have hmx:prog.follows .mixedOrders=true:=by kernel_rfl
    clear hi1 hid1
    refine(wpIn_wide (n:=9)).1 ?_
    refine Qb (c:=11) (S:=λq=>q.cell? (aD (w.heap.size+1) 1)=some (sL (sA wb) k c1)/\q.cell? (aD wb (i1*4))=some (iV id1)) hmx (by kernel_rfl) (λhw hcl=>?_)
    refine tq (i:=0) (v:=.pointer (some (aD (w.heap.size+1) 1))) (λhcl=>?_)
    refine tq (i:=1) (v:=sL (sA wb) k c1) (λhcl=>?_)
    refine tq (i:=2) (v:=pT b) (λhcl=>?_)
    refine tq (i:=3) (v:=.pointer (some (aD (w.heap.size+1) 1))) (λhcl=>?_)
    refine tq (i:=4) (v:=sL (sA wb) k c1) (λhcl=>?_)
    refine tq (i:=5) (v:=iV (k:Int)) (λhcl=>?_)
    refine Q8 (i:=6) (by kernel_rfl) hcl (λhcl=>wpOpIn_step rfl (λK hK=>?_))
    go_simp
    refine⟨trivial,(callsIn_wide.2 (Q6 D b ti.S (k:Int) _ HWD1.o.src HTK.o (by omega))).mono ?_⟩
    rintro e7 w4 ⟨rfl,hs1,hc1⟩
    rw[HI1.o]
    have HDT1:=mh (HWD1.o.drawn hs1 hc1)
    have HCH1:=mh ((Chg.nx (show Nx wr wr.drew from(Below.refl _ _).drew)).trans hc1)
    have HSC:Z ((λq=>q.cell? (aD (w.heap.size+1) 1)=some (sL (sA wb) k c1)/\q.cell? (aD wb (i1*4))=some (iV id1)) w4):=HSN.o _ _ _ _ HDT1.o
    refine hK _ _ ⟨oR HSC.o,?_⟩
    clear hK K hs1 hc1 HSS HWD1
    refine Qj (i:=7) (v:=.pointer (some (aD wb (i1*4)))) hw (by decide) hcl (Q9 rfl) rfl (by kernel_rfl) (by kernel_rfl) (by kernel_rfl) (λ_ _ _ h=>h) ⟨oL ⟨by kernel_rfl,?y7⟩,λ_=>rfl⟩ HSC.o (λhcl=>?_)
    case y7=>
     rintro q ⟨c1,c2⟩
     go_simp
    refine Qj (i:=8) (v:=.pointer (some (aD wb (i1*4)))) hw (by decide) hcl (Q9 rfl) rfl (by kernel_rfl) (by kernel_rfl) (by kernel_rfl) (λ_ _ _ h=>h) ⟨oL ⟨by kernel_rfl,?y8⟩,λ_=>rfl⟩ HSC.o (λhcl=>?_)
    case y8=>
     rintro q ⟨c1,c2⟩
     go_simp
    refine Qj (i:=9) (v:=iV id1) hw (by decide) hcl (Q9 rfl) rfl (by kernel_rfl) (by kernel_rfl) (by kernel_rfl) (λ_ _ _ h=>h) ⟨oL ⟨by kernel_rfl,?y9⟩,λ_=>rfl⟩ HSC.o (λhcl=>?_)
    case y9=>
     rintro q ⟨c1,c2⟩
     go_simp
    refine Qj (i:=10) (v:=iV id1) hw (by decide) hcl (Q9 rfl) rfl (by kernel_rfl) (by kernel_rfl) (by kernel_rfl) (λ_ _ _ h=>h) ⟨oL ⟨by kernel_rfl,?y10⟩,λ_=>rfl⟩ HSC.o (λhcl=>?_)
    case y10=>
     rintro q ⟨c1,c2⟩
     go_simp
    refine Ql (by kernel_rfl) ?_ _
    clear hw hcl HSC HSN
    have HTK1:Z (SOk (ns ti.S k)):=Qf HTK.o _
    go_upto_region 47 with fail
    have HWD2:=mh (HDT1.o.next (show Nx w4 w4.drew from(Below.refl _ _).drew))
    have hvp:=Qv HTK1.o (k:Int)
    obtain⟨i2,hi2⟩:∃i:Nat,nv (ns ti.S k) (k:Int)=i:=⟨(nv (ns ti.S k) (k:Int)).toNat,by omega⟩
    have HI2:=mh hi2
    have hil:i2<k:=by omega
    have hil':(i2:Int)<k:=by omega
    have HSN:Z (∀q S' v3 ts,DBs w.heap.size D b q S' (sL (some (aD nb no)) l0 c0') (sL (sA wb) k c1) v3 (Qg S) yD.ways vn vw ts->q.cell? (aD (w.heap.size+1) 1)=some (sL (sA wb) k c1)/\q.cell? (aD wb (i2*4))=some (iV (wat yD.ways i2).id)):=λq S' v3 ts h=>⟨h.box.c 1 rfl,by
     obtain⟨b',c',e,_,_,k0,_⟩:=h.wys.at (i:=i2) (by rw[HKL.o];exact hil)
     simp only[zC,Option.some.injEq,Addr.mk.injEq] at e
     obtain⟨⟨rfl,_⟩,_⟩:=e
     exact k0⟩
    generalize hid2:(wat yD.ways i2).id=id2 at *
    have HID2:=mh hid2
    have HSS:Z ((λq=>q.cell? (aD (w.heap.size+1) 1)=some (sL (sA wb) k c1)/\q.cell? (aD wb (i2*4))=some (iV id2)) w4.drew):=HSN.o _ _ _ _ HWD2.o
    have hmx:prog.follows .mixedOrders=true:=by kernel_rfl
    clear hi2 hid2
    refine(wpIn_wide (n:=9)).1 ?_
    refine Qb (c:=11) (S:=λq=>q.cell? (aD (w.heap.size+1) 1)=some (sL (sA wb) k c1)/\q.cell? (aD wb (i2*4))=some (iV id2)) hmx (by kernel_rfl) (λhw hcl=>?_)
    refine tq (i:=0) (v:=.pointer (some (aD (w.heap.size+1) 1))) (λhcl=>?_)
    refine tq (i:=1) (v:=sL (sA wb) k c1) (λhcl=>?_)
    refine tq (i:=2) (v:=pT b) (λhcl=>?_)
    refine tq (i:=3) (v:=.pointer (some (aD (w.heap.size+1) 1))) (λhcl=>?_)
    refine tq (i:=4) (v:=sL (sA wb) k c1) (λhcl=>?_)
    refine tq (i:=5) (v:=iV (k:Int)) (λhcl=>?_)
    refine Q8 (i:=6) (by kernel_rfl) hcl (λhcl=>wpOpIn_step rfl (λK hK=>?_))
    go_simp
    refine⟨trivial,(callsIn_wide.2 (Q6 D b (ns ti.S k) (k:Int) _ HWD2.o.src HTK1.o (by omega))).mono ?_⟩
    rintro e7 w5 ⟨rfl,hs1,hc1⟩
    rw[HI2.o]
    have HDT2:=mh (HWD2.o.drawn hs1 hc1)
    have HCH2:=mh ((Chg.nx (show Nx w4 w4.drew from(Below.refl _ _).drew)).trans hc1)
    have HSC:Z ((λq=>q.cell? (aD (w.heap.size+1) 1)=some (sL (sA wb) k c1)/\q.cell? (aD wb (i2*4))=some (iV id2)) w5):=HSN.o _ _ _ _ HDT2.o
    refine hK _ _ ⟨oR HSC.o,?_⟩
    clear hK K hs1 hc1 HSS HWD2
    refine Qj (i:=7) (v:=.pointer (some (aD wb (i2*4)))) hw (by decide) hcl (Q9 rfl) rfl (by kernel_rfl) (by kernel_rfl) (by kernel_rfl) (λ_ _ _ h=>h) ⟨oL ⟨by kernel_rfl,?y7⟩,λ_=>rfl⟩ HSC.o (λhcl=>?_)
    case y7=>
     rintro q ⟨c1,c2⟩
     go_simp
    refine Qj (i:=8) (v:=.pointer (some (aD wb (i2*4)))) hw (by decide) hcl (Q9 rfl) rfl (by kernel_rfl) (by kernel_rfl) (by kernel_rfl) (λ_ _ _ h=>h) ⟨oL ⟨by kernel_rfl,?y8⟩,λ_=>rfl⟩ HSC.o (λhcl=>?_)
    case y8=>
     rintro q ⟨c1,c2⟩
     go_simp
    refine Qj (i:=9) (v:=iV id2) hw (by decide) hcl (Q9 rfl) rfl (by kernel_rfl) (by kernel_rfl) (by kernel_rfl) (λ_ _ _ h=>h) ⟨oL ⟨by kernel_rfl,?y9⟩,λ_=>rfl⟩ HSC.o (λhcl=>?_)
    case y9=>
     rintro q ⟨c1,c2⟩
     go_simp
    refine Qj (i:=10) (v:=iV id2) hw (by decide) hcl (Q9 rfl) rfl (by kernel_rfl) (by kernel_rfl) (by kernel_rfl) (λ_ _ _ h=>h) ⟨oL ⟨by kernel_rfl,?y10⟩,λ_=>rfl⟩ HSC.o (λhcl=>?_)
    case y10=>
     rintro q ⟨c1,c2⟩
     go_simp
    refine Ql (by kernel_rfl) ?_ _
    clear hw hcl HSC HSN
    go_upto_region 48 with fail
    have HWD:=mh (HDT2.o.next (show Nx w5 w5.drew from(Below.refl _ _).drew))
    have HTK2:Z (SOk (ns (ns ti.S k) k)):=Qf HTK1.o _
    have HSS:Z ((λq=>q.cell? (aD (w.heap.size+1) 3)=some (sL a3 n3 c3)) w5.drew):=HWD.o.box.c 3 rfl
    have hmx:prog.follows .mixedOrders=true:=by kernel_rfl
    refine(wpIn_wide (n:=9)).1 ?_
    refine Qb (c:=9) (S:=λq=>q.cell? (aD (w.heap.size+1) 3)=some (sL a3 n3 c3)) hmx (by kernel_rfl) (λhw hcl=>?_)
    refine tq (i:=0) (v:=.pointer (some (aD (w.heap.size+1) 3))) (λhcl=>?_)
    refine tq (i:=1) (v:=sL a3 n3 c3) (λhcl=>?_)
    refine tq (i:=2) (v:=iV id1) (λhcl=>?_)
    refine tq (i:=3) (v:=iV id2) (λhcl=>?_)
    refine tq (i:=4) (v:=pT b) (λhcl=>?_)
    refine Q8 (i:=5) (by kernel_rfl) hcl (λhcl=>wpOpIn_step rfl (λK hK=>?_))
    go_simp
    refine⟨trivial,(callsIn_wide.2 (Zj D b (ns (ns ti.S k) k) _ HWD.o.src HTK2.o)).mono ?_⟩
    rintro e7 w6 ⟨rfl,hs1,hc1⟩
    have HDT3:=mh (HWD.o.drawn hs1 hc1)
    have HCH3:=mh ((Chg.nx (show Nx w5 w5.drew from(Below.refl _ _).drew)).trans hc1)
    have HSC:Z ((λq=>q.cell? (aD (w.heap.size+1) 3)=some (sL a3 n3 c3)) w6):=HDT3.o.box.c 3 rfl
    refine hK _ _ ⟨oR HSC.o,?_⟩
    clear hK K hs1 hc1 HSS HWD
    generalize hdw:dwV (ns (ns ti.S k) k)=dw at *
    have HDWV:=mh hdw
    clear hdw
    refine Qj (i:=6) (v:=.agg #[iV id1,iV id2,iV dw]) hw (by decide) hcl (Q9 rfl) rfl (by kernel_rfl) (by kernel_rfl) (by kernel_rfl) (λ_ _ _ h=>h) ⟨oL ⟨by kernel_rfl,?y6⟩,λ_=>rfl⟩ HSC.o (λhcl=>?_)
    case y6=>
     rintro q c1
     go_simp
    have HCW6:=mh (((HCT.o.trans HCH1.o).trans HCH2.o).trans HCH3.o)
    have hz6:=HCW6.o.size
    refine Q8 (i:=7) (by kernel_rfl) hcl (λhcl=>wpOpIn_step rfl (λK hK=>?_))
    go_simp
    refine⟨trivial,(callsIn_wide.2 (Q01 w.heap.size (sL a3 n3 c3) ti.ts ⟨id1,id2,dw⟩ _ HDT3.o.tn hz6 (by omega))).mono ?_⟩
    rintro e8 w7 ⟨⟨v7,rfl,ho⟩,hx⟩
    obtain⟨a4,c4,rfl⟩:=Qd ho
    have HDT4:=mh (HDT3.o.next hx)
    have HOT:=mh ho
    have HCW7:=mh (HCW6.o.trans (Chg.nx hx))
    have g3:=HDT4.o.box.c 3 rfl
    have f3:=HDT4.o.box.blk.frozen 3
    refine hK _ _ ⟨oR g3,?_⟩
    clear hK K hx ho HSC
    generalize hn4:(Fa ti.ts ⟨id1,id2,dw⟩).length=n4 at *
    clear hn4
    refine Qh (i:=8) (by kernel_rfl) (wpOpIn_step rfl (λK hK=>?_))
    go_simp
    refine hK _ _ ⟨oR g3,?_⟩
    clear hK K
    refine Qh (i:=9) (by kernel_rfl) (wpOpIn_step rfl (λK hK=>?_))
    go_simp
    refine hK _ _ ⟨oL (by decide),?_⟩
    clear hK K
    refine Ql (by kernel_rfl) ?_ _
    clear hw hcl g3 f3
    have HTF:Z (Zq yD.ways t0 (i+1)=⟨dwS (ns (ns ti.S k) k),Fa ti.ts ⟨id1,id2,dw⟩⟩):=by unfold Z;rw[HTS.o];unfold Q52;rw[HKL.o,HI1.o,HI2.o,zU,zU,HID1.o,HID2.o,HDWV.o]
    have HDT5:Z (DBs w.heap.size D b (w7.setCell (aD (w.heap.size+1) 3) (sL a4 n4 c4)) (Zq yD.ways t0 (i+1)).S (sL (some (aD nb no)) l0 c0') (sL (sA wb) k c1) (sL a4 n4 c4) (Qg S) yD.ways vn vw (Zq yD.ways t0 (i+1)).ts):=by rw[HTF.o];exact HDT4.o.setTurns HOT.o
    have HC5:Z (Chg (Sx1 b) w (w7.setCell (aD (w.heap.size+1) 3) (sL a4 n4 c4))):=HCW7.o.young (Chg.set (S:=λx=>x=w.heap.size+1) _ _ _ rfl) (λx hx hl=>by have hx':x=w.heap.size+1:=hx;omega)
    go_wp2
    go_roundw
    case rel=>exact⟨i+1,n4,c4,a4,by omega,by go_num,HDT5,HC5⟩
    case measure=>simp[intOf];omega
   have hin:i=nt:=by omega
   subst hin
   have HF1:Z (∃a3 n3 c3,DBs w.heap.size D b wr (Wu S).S (sL (some (aD nb no)) l0 c0') (sL (sA wb) k c1) (sL a3 n3 c3) (Qg S) yD.ways vn vw (Wu S).ts):=by rw[HTN2.o];exact⟨_,_,_,HDT.o⟩
   have HF2:Z (SOk (Wu S).S):=by rw[HTN2.o];exact(HTO.o i).1
   clear HTN2 HDT
   go_wp2
   go_meet
   exact⟨HF1,HCT,HF2⟩
 case rest=>
 obtain⟨HF1,HF2,HF3⟩:=hcut
 obtain⟨a3,n3,c3,hd3⟩:=HF1.o
 have HDF:=mh hd3
 clear hd3 HF1 HBD HTN HD HC
 go_wp2_with fail
 refine(Zj D b (Wu S).S _ HDF.o.src HF3.o).mono ?_
 rintro e w9 ⟨rfl,hs1,hc1⟩
 have HD9:=mh (HDF.o.drawn hs1 hc1)
 have HC9:=mh (HF2.o.trans hc1)
 rw[<-HNETW.o.1]
 rw[<-HNETW.o.2] at HD9
 have HO9:Z (Q6n w.heap.size D b w w9 (dbS S) (sL (some (aD nb no)) l0 c0') (sL a1 k c1) (sL a3 n3 c3) (Qa S) vn vw (λ_=>sN)):=by
  unfold Z
  have h:=HD9.o.outS HC9.o (Qa S).uturn (λ_=>sN)
  rw[<-HYD.o] at h
  exact h
 generalize hut:(Qa S).uturn=ut at *
 have HUT:=mh hut
 clear hut hs1 hc1
 have g4:=HD9.o.box.c 4 rfl
 have f4:=HD9.o.box.blk.frozen 4
 go_upto_region 50 with fail
 generalize hWF:w9.setCell (aD (w.heap.size+1) 4) (iV ut)=wF
 have HBF:Z (BT wF (w.heap.size+1) #[sL (some (aD nb no)) l0 c0',sL a1 k c1,sN,sL a3 n3 c3,iV ut] 60):=by rw[<-hWF];exact HD9.o.box.set 4 _
 have HRF:Z (BT wF w.heap.size E7 60):=by rw[<-hWF];exact HD9.o.res.setOther (by omega) _ _
 have HOF:Z (Q6n w.heap.size D b w wF (dbS S) (sL (some (aD nb no)) l0 c0') (sL a1 k c1) (sL a3 n3 c3) (Qa S) vn vw (λ_=>sN)):=by rw[<-hWF];exact HO9.o.set lR (oR rfl) _ _
 clear hWF g4 f4 HD9 HO9
 have y0':=HBF.o.c 0 rfl
 have y1':=HBF.o.c 1 rfl
 have y2':=HBF.o.c 2 rfl
 have y3':=HBF.o.c 3 rfl
 have y4':=HBF.o.c 4 rfl
 have x0':=HRF.o.c 0 rfl
 have x1':=HRF.o.c 1 rfl
 have x2':=HRF.o.c 2 rfl
 have x3':=HRF.o.c 3 rfl
 have x4':=HRF.o.c 4 rfl
 have z0':=HRF.o.blk.frozen 0
 have z1':=HRF.o.blk.frozen 1
 have z2':=HRF.o.blk.frozen 2
 have z3':=HRF.o.blk.frozen 3
 have z4':=HRF.o.blk.frozen 4
 have BR':=((((HRF.o.blk.set 0 (sL (some (aD nb no)) l0 c0')).set 1 (sL a1 k c1)).set 2 sN).set 3 (sL a3 n3 c3)).set 4 (iV ut)
 have P0:Z (_=some (sL (some (aD nb no)) l0 c0')):=BR'.c 0 rfl
 have P1:Z (_=some (sL a1 k c1)):=BR'.c 1 rfl
 have P2:Z (_=some sN):=BR'.c 2 rfl
 have P3:Z (_=some (sL a3 n3 c3)):=BR'.c 3 rfl
 have P4:Z (_=some (iV ut)):=BR'.c 4 rfl
 clear BR'
 go_wp2
 have p0:=P0.o
 have p1:=P1.o
 have p2:=P2.o
 have p3:=P3.o
 have p4:=P4.o
 refine bodyPost_ret (v:=.agg #[sL (some (aD nb no)) l0 c0',sL a1 k c1,sN,sL a3 n3 c3,iV ut]) (by simp[results,results52,go_sem,p0,p1,p2,p3,p4]) rfl ?_
 rw[HUT.o]
 exact⟨_,_,_,_,_,_,rfl,((((HOF.o.set lR (oL rfl) _ _).set lR (oL rfl) _ _).set lR (oL rfl) _ _).set lR (oL rfl) _ _).set lR (oL rfl) _ _⟩
def HBy (B:Nat)(w:World)(v:Value)(bs:List UInt8):Prop:=Jn B w v bs.length λb off i=>w.cell? (aD b (off+i))=some (.int .u8 (V7 bs i))
def P7 (c:List UInt8)(m:Int):Nat->Int
 |0=>m
 |k+1=>(P7 c m k*257+V7 c k+1)%1000003
def Kd (code:List UInt8):Src:=⟨code.take 4000,0,P7 (code.take 4000) ((code.length:Int)%1000+17) (code.take 4000).length,if 8<1+((code.take 4000).length:Int)/40 then 8 else 1+((code.take 4000).length:Int)/40⟩
theorem Q3s (c:List UInt8){m:Int}(h:0<=m/\m<1000003):∀k,0<=P7 c m k/\P7 c m k<1000003
 |0=>h
 |k+1=>⟨Int.emod_nonneg _ (by omega),Int.emod_lt_of_pos _ (by omega)⟩
theorem Qaf (code:List UInt8):SOk (Kd code):=by
 refine⟨?_,?_,?_⟩
 ·show(code.take 4000).length<=4000
  simp;omega
 ·exact Q3s _ (by omega) _
 ·unfold Kd
  simp only
  split<;>omega
theorem Chg.cellAt {T:Nat->Prop}{w w':World}{b o:Nat}(h:Chg T w w')(hb:b<w.heap.size)(hn:¬T b):w'.cell? (aD b o)=w.cell? (aD b o):=by
 have:=h.block b hb hn
 unfold World.cell?
 simp only[this]
theorem Q23 (B:Nat)(v:Value)(code:List UInt8)(w:World)(h:HBy B w v code)(hl:code.length<=1048576) :
  Calls prog 11 #[v] w λe w'=>(∃b,e=.returned (pT b)/\Jj w.heap.size w' b (Kd code)/\w.heap.size<=b)/\Nx w w':=by
 obtain⟨ca,cc,rfl,_,hk⟩:=h
 generalize hn:code.length=n at *
 have HN:=mh hn
 have HK:Z (0<n->∃b off,ca=some (aD b off)/\B<=b/\b<w.heap.size/\∀i,i<n->w.cell? (aD b (off+i))=some (.int .u8 (V7 code i))):=hk
 clear hk hn
 go_enter func11,ntmps11
 go_wp2
 generalize hWA:w.alloc (.cells #[sN,iV 0,iV 0,iV 0] 44)=wA
 have HXA:Z (Nx w wA):=by rw[<-hWA];exact Qe _ _
 have HBA:Z (BT wA w.heap.size #[sN,iV 0,iV 0,iV 0] 44):=by rw[<-hWA];exact BT.new _ _ _ _ rfl
 clear hWA
 go_loopw [4] (λi wr=>∃(k c:Nat) (a:Option Addr),k<=n/\k<=4000/\i=iV k/\Z (BT wr w.heap.size #[sL a k c,iV 0,iV 0,iV 0] 44)/\Z (Wa w.heap.size wr (sL a k c) (code.take k))/\Z (Nx w wr)) (λi _=>n-(intOf i).toNat)
 case atStart=>exact⟨0,0,none,nZ,nZ,rfl,HBA,⟨rfl,oL ⟨rfl,rfl⟩⟩,HXA⟩
 obtain⟨k,c,a,hkn,hk4,rfl,HB,HO,HX⟩:=hrel
 by_cases hlt:k<n/\k<4000
 ·obtain⟨h1,h2⟩:=hlt
  have h1':(k:Int)<n:=by omega
  have h2':(k:Int)<4000:=by omega
  obtain⟨cb,co,rfl,_,hcb,hc⟩:=HK.o (by omega)
  have cy:=Q2 HX.o hcb (hc k h1)
  have HTL:Z ((code.take k).length=k):=by unfold Z;rw[zX,HN.o];omega
  have HOR:Z (wr.ownsRow w.heap.size 5 1 (sL a k c) k ((code.take k).map λx:UInt8=>Value.int .u8 (x.toNat:Int))):=by
   have h:=HO.o
   unfold Wa at h
   rw[HTL.o] at h
   exact h
  generalize hy:V7 code k=y at *
  have HY:=mh hy
  clear hc hy
  go_upto_region 5 with fail
  have HSN:Z (∀q,Nx wr.drew q->(λq=>q.cell? (aD w.heap.size 0)=some (sL a k c)/\q.cell? (aD cb (co+k))=some (.int .u8 y)) q):=λq hq=>⟨Q0 hq (show wr.drew.cell? _=_ from HB.o.c 0 rfl),Q0 hq (show wr.drew.cell? _=_ from cy)⟩
  have HSS:=mh (HSN.o _ (Nx.refl _))
  have hmx:prog.follows .mixedOrders=true:=by kernel_rfl
  have hzz:=HX.o.size
  refine(wpIn_wide (n:=9)).1 ?_
  refine Qb (c:=9) (S:=λq=>q.cell? (aD w.heap.size 0)=some (sL a k c)/\q.cell? (aD cb (co+k))=some (.int .u8 y)) hmx (by kernel_rfl) (λhw hcl=>?_)
  refine tq (i:=0) (v:=pT w.heap.size) (λhcl=>?_)
  refine tq (i:=1) (v:=sL a k c) (λhcl=>?_)
  refine tq (i:=2) (v:=sL (some (aD cb co)) n cc) (λhcl=>?_)
  refine tq (i:=3) (v:=iV (k:Int)) (λhcl=>?_)
  refine tq (i:=4) (v:=.pointer (some (aD cb (co+k)))) (λhcl=>?_)
  refine tq (i:=5) (v:=.int .u8 y) (λhcl=>?_)
  refine Qh (i:=6) (by kernel_rfl) (wpOpIn_step rfl (λK hK=>?_))
  go_simp
  refine hK _ _ ⟨oR (HSN.o _ (Qe _ _)),?_⟩
  clear hK K
  refine Qh (i:=7) (by kernel_rfl) (wpOpIn_step rfl (λK hK=>?_))
  refine Un Q9h underlying22 rfl (by decide) (by decide) rfl (.tmp 18) (.tmp 23) rfl w.heap.size k (sL a k c) ((code.take k).map λx:UInt8=>Value.int .u8 (x.toNat:Int)) [.int .u8 y] wr.drew _ rfl (by simp[Act.eval]) (show wr.drew.ownsRow _ _ _ _ _ _ from HOR.o) (by simp[Act.eval]) rfl (by intro u hu;simp at hu;subst hu;rfl) (by omega) hzz ?_
  intro a1 c1 w1 r1 r2 r3
  have HB1:=mh (BT.row (show BT wr.drew _ _ _ from HB.o) (show wr.drew.ownsRow _ _ _ _ _ _ from HOR.o) (by decide) r2)
  have HS1:Z ((λq=>q.cell? (aD w.heap.size 0)=some (sL a k c)/\q.cell? (aD cb (co+k))=some (.int .u8 y)) w1):=⟨HB1.o.c 0 rfl,by
   refine(r2.cellAt ?_ ?_).trans cy
   ·exact zJ hcb HX.o.size
   ·intro e
    have:=(Q7 HOR.o cb e.symm).1
    omega⟩
  refine hK _ _ ⟨oR HS1.o,?_⟩
  clear hK K
  refine Qh (i:=8) (by kernel_rfl) (wpOpIn_step rfl (λK hK=>?_))
  go_simp
  refine hK _ _ ⟨oR HS1.o,?_⟩
  clear hK K
  have g0:=HB1.o.c 0 rfl
  have f0:=HB1.o.blk.frozen 0
  refine Qh (i:=9) (by kernel_rfl) (wpOpIn_step rfl (λK hK=>?_))
  go_simp
  refine hK _ _ ⟨oL (by decide),?_⟩
  clear hK K
  refine Ql (by kernel_rfl) ?_ _
  clear hw hcl g0 f0 HSS HSN HS1
  have HB2:Z (BT (w1.setCell (aD w.heap.size 0) (sL a1 (k+1) c1)) w.heap.size #[sL a1 (k+1) c1,iV 0,iV 0,iV 0] 44):=HB1.o.set 0 _
  have HO2:Z (Wa w.heap.size (w1.setCell (aD w.heap.size 0) (sL a1 (k+1) c1)) (sL a1 (k+1) c1) (code.take (k+1))):=by
   unfold Z Wa
   have e1:code.take (k+1)=code.take k++[code.getD k 0]:=by
    rw[zP (by rw[HN.o];exact h1)]
    simp[List.getD_eq_getElem?_getD,HN.o,h1]
   rw[e1,zA,HTL.o,yF]
   have e2:(Value.int .u8 y)=.int .u8 ((code.getD k 0).toNat:Int):=by rw[<-HY.o];rfl
   rw[e2] at r1
   exact Qk r1 HB1.o (by decide) _ _
  have HX2:Z (Nx w (w1.setCell (aD w.heap.size 0) (sL a1 (k+1) c1))):=Below.setCell (Below.trans (HX.o.trans (show Nx wr wr.drew from(Below.refl _ _).drew)) (r2.below HX.o.size (λx hx=>(Q7 HOR.o x hx.symm).1))) lR _
  clear r1 r2 r3
  go_wp2
  go_roundw
  case rel=>exact⟨k+1,c1,a1,by omega,by omega,by go_num,HB2,HO2,HX2⟩
  case measure=>simp[intOf];omega
 have HTL:Z ((code.take 4000).length=k/\code.take k=code.take 4000):=by
  have hk':k=min 4000 n:=by omega
  refine⟨by rw[zX,HN.o];omega,?_⟩
  rw[hk',<-HN.o]
  simp[List.take_eq_take_iff]
 go_upto_region 3 with fail
 go_cut [14] from 7 to 13 (λs wc=>s=.bool false/\wc=wr)
 case first=>
  by_cases h1:k<n
  ·have d1:decide ((k:Int)<n)=true:=by simp;omega
   have d2:decide ((k:Int)<4000)=false:=by simp;omega
   have d3:¬(k:Int)<4000:=by omega
   have d4:(k:Int)<n:=by omega
   go_wp2
   go_meet
   exact⟨by first|rfl|simp;omega,rfl⟩
  ·have d1:decide ((k:Int)<n)=false:=by simp;omega
   have d4:¬(k:Int)<n:=by omega
   go_wp2
   go_meet
   exact⟨by first|rfl|simp;omega,rfl⟩
 case rest=>
 obtain⟨rfl,rfl⟩:=hcut
 have m2:=HB.o.c 2 rfl
 have f2:=HB.o.blk.frozen 2
 go_upto_region 7 with fail
 generalize hW2:wc.setCell (aD w.heap.size 2) (iV ((n:Int)%1000+17))=w2
 have HO0:Z (Wa w.heap.size wc (sL a k c) (code.take 4000)):=by rw[<-HTL.o.2];exact HO.o
 have hnm:0<=(n:Int)%1000+17/\(n:Int)%1000+17<1000003:=by omega
 generalize hm0:(n:Int)%1000+17=m0 at *
 have HM0:=mh hm0
 have HB2:Z (BT w2 w.heap.size #[sL a k c,iV 0,iV m0,iV 0] 44):=by rw[<-hW2];exact HB.o.set 2 _
 have HO2:Z (Wa w.heap.size w2 (sL a k c) (code.take 4000)):=by rw[<-hW2];exact Qk HO0.o HB.o (by decide) _ _
 have HX2:Z (Nx w w2):=by rw[<-hW2];exact Below.setCell HX.o lR _
 generalize hct:code.take 4000=cT at *
 have HCT:=mh hct
 have HML:=mh HTL.o.1
 clear hW2 hm0 m2 f2 HO HB HX HO0 HTL hct
 have HMI:=mh (Q3s cT hnm)
 go_wp2
 go_loopw [5] (λi wr=>∃j:Nat,j<=k/\i=iV j/\Z (BT wr w.heap.size #[sL a k c,iV 0,iV (P7 cT m0 j),iV 0] 44)/\Z (Wa w.heap.size wr (sL a k c) cT)/\Z (Nx w wr)) (λi _=>k-(intOf i).toNat)
 case atStart=>exact⟨0,nZ,rfl,HB2,HO2,HX2⟩
 clear HB2 HO2 HX2
 obtain⟨j,hj,rfl,HBJ,HOJ,HXJ⟩:=hrel
 have g0:=HBJ.o.c 0 rfl
 by_cases hjl:j<k
 ·have hjl':(j:Int)<k:=by omega
  obtain⟨a9,c9,e9,_,hk9⟩:=HOJ.o.held
  rw[HML.o] at e9 hk9
  simp only[zC] at e9
  obtain⟨ea,ek,ec⟩:=e9
  subst ea ec
  clear ek
  obtain⟨gb,go,rfl,_,_,hc9⟩:=hk9 (by omega)
  have cy:wr.cell? (aD gb (go+j))=some (.int .u8 (V7 cT j)):=hc9 j hjl
  have hyb:=Q15 cT j
  have hmi:=HMI.o j
  have HSTP:Z (P7 cT m0 (j+1)=(P7 cT m0 j*257+V7 cT j+1)%1000003):=rfl
  generalize V7 cT j=y at *
  generalize P7 cT m0 j=mm at *
  clear hk9 hc9
  go_upto_region 10 with fail
  clear g0
  have HSS:Z ((λq=>q.cell? (aD w.heap.size 2)=some (iV mm)/\q.cell? (aD w.heap.size 0)=some (sL (some (aD gb go)) k c)/\q.cell? (aD gb (go+j))=some (.int .u8 y)) wr.drew):=⟨show wr.drew.cell? _=_ from HBJ.o.c 2 rfl,show wr.drew.cell? _=_ from HBJ.o.c 0 rfl,show wr.drew.cell? _=_ from cy⟩
  have hmx:prog.follows .mixedOrders=true:=by kernel_rfl
  have g2:=HSS.o.1
  have f2:=HBJ.o.blk.drew.frozen 2
  refine(wpIn_wide (n:=9)).1 ?_
  refine Qb (c:=13) (S:=λq=>q.cell? (aD w.heap.size 2)=some (iV mm)/\q.cell? (aD w.heap.size 0)=some (sL (some (aD gb go)) k c)/\q.cell? (aD gb (go+j))=some (.int .u8 y)) hmx (by kernel_rfl) (λhw hcl=>?_)
  refine tq (i:=0) (v:=.pointer (some (aD w.heap.size 2))) (λhcl=>?_)
  refine tq (i:=1) (v:=iV mm) (λhcl=>?_)
  refine Qj (i:=2) (v:=iV (mm*257)) hw (by decide) hcl (Q9 rfl) rfl (by kernel_rfl) (by kernel_rfl) (by kernel_rfl) (λ_ _ _ h=>h) ⟨oL ⟨by kernel_rfl,?y2⟩,λ_=>rfl⟩ HSS.o (λhcl=>?_)
  case y2=>
   rintro q ⟨c1,c2,c3⟩
   go_simp
   exact Go.IntWalk.i64_in _ ⟨by omega,by omega⟩
  refine tq (i:=3) (v:=pT w.heap.size) (λhcl=>?_)
  refine tq (i:=4) (v:=sL (some (aD gb go)) k c) (λhcl=>?_)
  refine tq (i:=5) (v:=iV (j:Int)) (λhcl=>?_)
  refine tq (i:=6) (v:=.pointer (some (aD gb (go+j)))) (λhcl=>?_)
  refine tq (i:=7) (v:=.int .u8 y) (λhcl=>?_)
  refine Qj (i:=8) (v:=iV y) hw (by decide) hcl (Q9 rfl) rfl (by kernel_rfl) (by kernel_rfl) (by kernel_rfl) (λ_ _ _ h=>h) ⟨oL ⟨by kernel_rfl,?y8⟩,λ_=>rfl⟩ HSS.o (λhcl=>?_)
  case y8=>
   rintro q ⟨c1,c2,c3⟩
   go_simp
   exact Go.IntWalk.i64_in _ ⟨by omega,by omega⟩
  refine Qj (i:=9) (v:=iV (mm*257+y)) hw (by decide) hcl (Q9 rfl) rfl (by kernel_rfl) (by kernel_rfl) (by kernel_rfl) (λ_ _ _ h=>h) ⟨oL ⟨by kernel_rfl,?y9⟩,λ_=>rfl⟩ HSS.o (λhcl=>?_)
  case y9=>
   rintro q ⟨c1,c2,c3⟩
   go_simp
   exact Go.IntWalk.i64_in _ ⟨by omega,by omega⟩
  refine Qj (i:=10) (v:=iV (mm*257+y+1)) hw (by decide) hcl (Q9 rfl) rfl (by kernel_rfl) (by kernel_rfl) (by kernel_rfl) (λ_ _ _ h=>h) ⟨oL ⟨by kernel_rfl,?y10⟩,λ_=>rfl⟩ HSS.o (λhcl=>?_)
  case y10=>
   rintro q ⟨c1,c2,c3⟩
   go_simp
   exact Go.IntWalk.i64_in _ ⟨by omega,by omega⟩
  refine Qj (i:=11) (v:=iV ((mm*257+y+1)%1000003)) hw (by decide) hcl (Q9 rfl) rfl (by kernel_rfl) (by kernel_rfl) (by kernel_rfl) (λ_ _ _ h=>h) ⟨oL ⟨by kernel_rfl,?y11⟩,λ_=>rfl⟩ HSS.o (λhcl=>?_)
  case y11=>
   rintro q ⟨c1,c2,c3⟩
   go_simp
   exact Int.tmod_eq_emod_of_nonneg (by omega)
  refine tq (i:=12) (v:=.pointer (some (aD w.heap.size 2))) (λhcl=>?_)
  refine Qh (i:=13) (by kernel_rfl) (wpOpIn_step rfl (λK hK=>?_))
  go_simp
  refine hK _ _ ⟨oL (by decide),?_⟩
  clear hK K
  refine Ql (by kernel_rfl) ?_ _
  clear hw hcl g2 f2 HSS
  have HB3:Z (BT (wr.setCell (aD w.heap.size 2) (iV ((mm*257+y+1)%1000003))) w.heap.size #[sL (some (aD gb go)) k c,iV 0,iV (P7 cT m0 (j+1)),iV 0] 44):=by rw[HSTP.o];exact HBJ.o.set 2 _
  have HO3:Z (Wa w.heap.size (wr.setCell (aD w.heap.size 2) (iV ((mm*257+y+1)%1000003))) (sL (some (aD gb go)) k c) cT):=Qk HOJ.o HBJ.o (by decide) _ _
  have HX3:Z (Nx w (wr.setCell (aD w.heap.size 2) (iV ((mm*257+y+1)%1000003)))):=Below.setCell HXJ.o lR _
  go_wp2
  go_roundw
  case rel=>exact⟨j+1,by omega,by go_num,HB3,HO3,Nx.drew HX3.o⟩
  case measure=>simp[intOf];omega
 have hjk:j=k:=by omega
 subst hjk
 have HSO:Z (Kd code=⟨cT,0,P7 cT m0 j,if 8<1+(j:Int)/40 then 8 else 1+(j:Int)/40⟩):=by unfold Z Kd;rw[HCT.o,HN.o,HM0.o,HML.o]
 have m3:=HBJ.o.c 3 rfl
 have f3:=HBJ.o.blk.frozen 3
 generalize P7 cT m0 j=mm at *
 go_upto_region 12 with fail
 generalize hW3:wr.setCell (aD w.heap.size 3) (iV (1+(j:Int)/40))=w3
 have HB3:Z (BT w3 w.heap.size #[sL a j c,iV 0,iV mm,iV (1+(j:Int)/40)] 44):=by rw[<-hW3];exact HBJ.o.set 3 _
 have HO3:Z (Wa w.heap.size w3 (sL a j c) cT):=by rw[<-hW3];exact Qk HOJ.o HBJ.o (by decide) _ _
 have HX3:Z (Nx w w3):=by rw[<-hW3];exact Below.setCell HXJ.o lR _
 clear hW3 m3 f3 g0
 have m3:=HB3.o.c 3 rfl
 have f3:=HB3.o.blk.frozen 3
 by_cases h8:8<1+(j:Int)/40
 ·rw[if_pos h8] at HSO
  go_wp2
  go_ret
  rw[HSO.o]
  exact⟨⟨_,rfl,⟨_,HB3.o.set 3 (iV 8),Qk HO3.o HB3.o (by decide) _ _⟩,lR⟩,Below.setCell HX3.o lR _⟩
 ·rw[if_neg h8] at HSO
  go_wp2
  go_ret
  rw[HSO.o]
  exact⟨⟨_,rfl,⟨_,HB3.o,HO3.o⟩,lR⟩,HX3.o⟩
def Q3k (es:List Eg)(node:Int)(out:Bool)(e:Nat):Bool:=if out then (eat es e).tail==node else (eat es e).head==node
def Jc (es:List Eg)(node:Int)(out:Bool):Nat->List Int
 |0=>[]
 |k+1=>if Q3k es node out k then Jc es node out k++[(k:Int)] else Jc es node out k
def pkV (es:List Eg)(node:Int)(out:Bool)(S:Src):Int:=if (Jc es node out es.length).length=0 then -1 else iat (Jc es node out es.length) (nv S (Jc es node out es.length).length).toNat
def pkS (es:List Eg)(node:Int)(out:Bool)(S:Src):Src:=if (Jc es node out es.length).length=0 then S else ns S (Jc es node out es.length).length
theorem T8 (B D b:Nat)(v0 v1 v2 v3:Value)(R:Rd)(node:Int)(out:Bool)(S:Src)(w:World)(hR:Vy B w v0 v1 v2 v3 R)(hle:R.edges.length<=4000)(hS:Jj D w b S)(hok:SOk S) :
  Calls prog 82 #[.agg #[v0,v1,v2,v3],iV node,.bool out,pT b] w λe w'=>e=.returned (iV (pkV R.edges node out S))/\Jj D w' b (pkS R.edges node out S)/\Chg (Sx1 b) w w':=by
 have HE:=mh hR.2.1
 have HS:=mh hS
 have HOK:Z (SOk S):=hok
 obtain⟨r0,t0,rfl,_,_⟩:=hR.1
 obtain⟨r1,t1,e1,_,ke⟩:=hR.2.1
 obtain⟨r2,t2,rfl,_,_⟩:=hR.2.2.1
 obtain⟨r3,t3,rfl,_,_⟩:=hR.2.2.2
 generalize R.nodes.length=m0 at *
 generalize R.first.length=m2 at *
 generalize R.o.length=m3 at *
 generalize R.edges=es at *
 generalize hm:es.length=m at *
 have HM:=mh hm
 subst e1
 have HPV:Z (pkV es node out S=if (Jc es node out m).length=0 then -1 else iat (Jc es node out m) (nv S (Jc es node out m).length).toNat):=by unfold Z pkV;rw[HM.o]
 have HPS:Z (pkS es node out S=if (Jc es node out m).length=0 then S else ns S (Jc es node out m).length):=by unfold Z pkS;rw[HM.o]
 clear hR hS hm
 go_enter func82,ntmps82
 go_wp2
 generalize hWA:(w.alloc (.cells #[sL r0 m0 t0,sL r1 m t1,sL r2 m2 t2,sL r3 m3 t3] 86)).alloc (.cells #[] 2)=wA
 have HXA:Z (Nx w wA):=by rw[<-hWA];exact(Qe _ _).trans (Qe _ _)
 have HBA:Z (BT wA w.heap.size #[sL r0 m0 t0,sL r1 m t1,sL r2 m2 t2,sL r3 m3 t3] 86):=by rw[<-hWA];exact(BT.new w _ _ _ rfl).alloc _
 have HOA:Z (Q5 w.heap.size wA (sL (sA (w.heap.size+1)) 0 0) []):=by
  unfold Z
  rw[<-hWA]
  have h:=Vq w.heap.size (w.alloc (.cells #[sL r0 m0 t0,sL r1 m t1,sL r2 m2 t2,sL r3 m3 t3] 86)) (by rw[Q1];omega)
  rw[Q1] at h
  exact h
 clear hWA
 go_loopw [9,10] (λs9 s10 wr=>∃(k n c:Nat) (a:Option Addr),k<=m/\n<=k/\s10=iV k/\s9=sL a n c/\Z ((Jc es node out k).length=n)/\Z (Q5 w.heap.size wr (sL a n c) (Jc es node out k))/\Z (BT wr w.heap.size #[sL r0 m0 t0,sL r1 m t1,sL r2 m2 t2,sL r3 m3 t3] 86)/\Z (Nx w wr)) (λ_ i _=>m-(intOf i).toNat)
 case atStart=>exact⟨0,0,0,_,nZ,lR,rfl,rfl,rfl,HOA,HBA,HXA⟩
 obtain⟨k,n,c,a,hk,hnk,rfl,rfl,HL,HO,HB,HX⟩:=hrel
 have g1:=HB.o.c 1 rfl
 by_cases hlt:k<m
 ·have hlt':(k:Int)<m:=by omega
  obtain⟨eb,eo,rfl,_,heb,he⟩:=ke (by omega)
  obtain⟨x0,x1,_⟩:=he k hlt
  have y0:=Q2 HX.o heb x0
  have y1:=Q2 HX.o heb x1
  have HPK:Z (Jc es node out (k+1)=if Q3k es node out k then Jc es node out k++[(k:Int)] else Jc es node out k):=rfl
  have HPB:Z (Q3k es node out k=if out then (eat es k).tail==node else (eat es k).head==node):=rfl
  generalize (eat es k).tail=tl at *
  generalize (eat es k).head=hd at *
  have hz:=HX.o.size
  clear he x0 x1
  go_upto_region 5 with fail
  go_cut [43] from 19 to 42 (λs wc=>s=.bool (Q3k es node out k)/\wc=wr)
  case first=>
   cases out with
   |true=>
    generalize hbd:(tl==node)=bd at *
    cases bd
    ·go_wp2
     go_meet
     exact⟨by rw[HPB.o];rfl,rfl⟩
    ·go_wp2
     go_meet
     exact⟨by rw[HPB.o];rfl,rfl⟩
   |false=>
    generalize hbd:(hd==node)=bd at *
    cases bd
    ·go_wp2
     go_meet
     exact⟨by rw[HPB.o];rfl,rfl⟩
    ·go_wp2
     go_meet
     exact⟨by rw[HPB.o];rfl,rfl⟩
  case rest=>
  obtain⟨rfl,rfl⟩:=hcut
  generalize Q3k es node out k=pb at *
  cases pb with
  |true=>
   have HPK1:Z (Jc es node out (k+1)=Jc es node out k++[(k:Int)]):=by unfold Z;rw[HPK.o];rfl
   clear HPK HPB
   go_wp2_with (at_builtin;refine Yy rfl _ _ rfl w.heap.size n (sL a n c) (Jc es node out k) (k:Int) wc rfl HO.o rfl HL.o (by omega) hz ?_)
   intro a1 c1 w1 r1 r2 r3
   have HO1:Z (Q5 w.heap.size w1 (sL a1 (n+1) c1) (Jc es node out (k+1))):=by rw[HPK1.o];exact r1
   have HL1:Z ((Jc es node out (k+1)).length=n+1):=by unfold Z;rw[HPK1.o,zA,HL.o];rfl
   have HB1:=mh (HB.o.row HO.o (by decide) r2)
   have HX1:Z (Nx w w1):=Below.trans HX.o (r2.below HX.o.size (λx hx=>(Q7 HO.o x hx.symm).1))
   clear r1 r2 r3 g1 y0 y1
   go_wp2
   go_roundw
   case rel=>exact⟨k+1,n+1,c1,a1,by omega,by omega,by go_num,rfl,HL1,HO1,HB1,HX1⟩
   case measure=>simp[intOf];omega
  |false=>
   have HO1:Z (Q5 w.heap.size wc (sL a n c) (Jc es node out (k+1))):=by rw[HPK.o];exact HO.o
   have HL1:Z ((Jc es node out (k+1)).length=n):=by rw[HPK.o];exact HL.o
   clear HPK HPB g1 y0 y1
   go_wp2
   go_roundw
   case rel=>exact⟨k+1,n,c,a,by omega,by omega,by go_num,rfl,HL1,HO1,HB,HX⟩
   case measure=>simp[intOf];omega
 have hkm:k=m:=by omega
 subst hkm
 rw[HL.o] at HPV HPS
 by_cases hn0:n=0
 ·have HV1:Z (pkV es node out S=-1):=by unfold Z;rw[HPV.o,if_pos hn0]
  have HV2:Z (pkS es node out S=S):=by unfold Z;rw[HPS.o,if_pos hn0]
  subst hn0
  clear HPV HPS
  go_wp2
  go_ret
  rw[HV1.o,HV2.o]
  exact⟨rfl,HS.o.next HX.o,Chg.nx HX.o⟩
 have HV1:Z (pkV es node out S=iat (Jc es node out k) (nv S n).toNat):=by unfold Z;rw[HPV.o,if_neg hn0]
 have HV2:Z (pkS es node out S=ns S n):=by unfold Z;rw[HPS.o,if_neg hn0]
 have n1:((n:Int)==0)=false:=by simp;omega
 have n2:¬(n:Int)=0:=by omega
 clear HPV HPS
 go_wp2_with fail
 refine(Q6 D b S n _ (HS.o.next HX.o) HOK.o (by omega)).mono ?_
 rintro e w1 ⟨rfl,hs1,hc1⟩
 have hv:=Qv HOK.o n
 obtain⟨i,hi⟩:∃i:Nat,nv S n=i:=⟨(nv S n).toNat,by omega⟩
 rw[hi] at HV1 ⊢
 have hil:i<n:=by omega
 have hil':(i:Int)<n:=by omega
 have HO1:Z (Q5 w.heap.size w1 (sL a n c) (Jc es node out k)):=by
  obtain⟨v,hb,_⟩:=(HS.o.next HX.o)
  exact J5 HO.o hc1 (λg hg e=>by
   have e':g=b:=e
   subst e'
   exact hb.neRow HO.o (by decide) hg.symm)
 obtain⟨a9,c9,e9,_,k9⟩:=HO1.o.held
 rw[HL.o] at e9 k9
 simp only[zC] at e9
 obtain⟨ea,en,ec⟩:=e9
 subst ea ec
 clear en
 obtain⟨gb,go,rfl,_,_,hc9⟩:=k9 (by omega)
 have cy:w1.cell? (aD gb (go+i))=some (iV (iat (Jc es node out k) i)):=hc9 i hil
 have HF:=mh hs1
 have HCF:=mh ((Chg.nx HX.o).trans hc1)
 rw[zU] at HV1
 clear k9 hc9 hs1 hc1 hi hv g1
 generalize iat (Jc es node out k) i=z at *
 go_wp2
 go_ret
 rw[HV1.o,HV2.o]
 exact⟨rfl,HF.o,HCF.o⟩
def lwN (a b:Int):Nat->List Int
 |0=>[a]
 |k+1=>lwN a b k++[if (k:Int)%2=0 then b else a]
def lwW (wt:Int):Nat->List Int
 |0=>[]
 |k+1=>lwW wt k++[wt]
theorem Q7h (a b:Int):∀k,(lwN a b k).length=k+1
 |0=>rfl
 |k+1=>by show(lwN a b k++[_]).length=_;rw[zA,Q7h a b k];rfl
theorem Ij (wt:Int):∀k,(lwW wt k).length=k
 |0=>rfl
 |k+1=>by show(lwW wt k++[_]).length=_;rw[zA,Ij wt k];rfl
structure LWs (w wr:World)(id:Int)(bo:Bool)(va vb:Value)(nd wt:List Int):Prop where
 nx:Nx w wr
 res:BT wr w.heap.size #[iV 0,.bool false,sN,sN] 93
 box:BT wr (w.heap.size+2) #[iV id,.bool bo,va,vb] 93
 nds:Q5 w.heap.size wr va nd
 wts:Q5 w.heap.size wr vb wt
 ap:∀g,va.ownBlock=some g->vb.ownBlock≠some g
section
variable {w wr w':World}{id:Int}{bo:Bool}{va vb:Value}{nd wt:List Int}
theorem LWs.addNd (h:LWs w wr id bo va vb nd wt){v:Value}{z:Int}(hr:Q5 w.heap.size w' v (nd++[z]))(hc:Chg (λx=>some x=va.ownBlock) wr w')(ha:∀g,v.ownBlock=some g->va.ownBlock=some g\/wr.heap.size<=g):LWs w (w'.setCell (aD (w.heap.size+2) 2) v) id bo v vb (nd++[z]) wt:=by
 have hbox:=h.box.row h.nds (by decide) hc
 refine⟨Below.setCell (Below.trans h.nx (hc.below h.nx.size (λx hx=>(Q7 h.nds x hx.symm).1))) (show w.heap.size<=w.heap.size+2 by omega) _,(h.res.row h.nds (by decide) hc).setOther (by omega) _ _,hbox.set 2 v,Qk hr hbox (by decide) _ _,Qk (Uv h.wts (λg hg=>h.ap g hg) hc) hbox (by decide) _ _,λg hg=>?_⟩
 rcases ha g hg with e|e
 ·exact h.ap g e
 ·intro e2
  have:=(Q7 h.wts g e2).2
  omega
theorem LWs.addWt (h:LWs w wr id bo va vb nd wt){v:Value}{z:Int}(hr:Q5 w.heap.size w' v (wt++[z]))(hc:Chg (λx=>some x=vb.ownBlock) wr w')(ha:∀g,v.ownBlock=some g->vb.ownBlock=some g\/wr.heap.size<=g):LWs w (w'.setCell (aD (w.heap.size+2) 3) v) id bo va v nd (wt++[z]):=by
 have hbox:=h.box.row h.wts (by decide) hc
 refine⟨Below.setCell (Below.trans h.nx (hc.below h.nx.size (λx hx=>(Q7 h.wts x hx.symm).1))) (show w.heap.size<=w.heap.size+2 by omega) _,(h.res.row h.wts (by decide) hc).setOther (by omega) _ _,hbox.set 3 v,Qk (Uv h.nds (λg hg hg2=>h.ap g hg2 hg) hc) hbox (by decide) _ _,Qk hr hbox (by decide) _ _,λg hg hg2=>?_⟩
 rcases ha g hg2 with e|e
 ·exact h.ap g hg e
 ·have:=(Q7 h.nds g hg).2
  omega
end
theorem Wg (id a b wt:Int)(bo:Bool)(segs:Nat)(w:World)(hs:segs<=100000) :
  Calls prog 56 #[iV id,.bool bo,iV a,iV b,iV (segs:Int),iV wt] w λe w'=>∃va vb,e=.returned (.agg #[iV id,.bool bo,va,vb])/\Q5 w.heap.size w' va (lwN a b segs)/\Q5 w.heap.size w' vb (lwW wt segs)/\(∀g,va.ownBlock=some g->vb.ownBlock≠some g)/\Nx w w':=by
 go_enter func56,ntmps56
 go_upto_region 2 with fail
 generalize hWA:((w.alloc (.cells #[iV 0,.bool false,sN,sN] 93)).alloc (.cells #[iV a] 2)).alloc (.cells #[iV id,.bool bo,sL (sA (w.heap.size+1)) 1 1,sN] 93)=wA
 have HLA:Z (LWs w wA id bo (sL (sA (w.heap.size+1)) (0+1) 1) sN (lwN a b 0) (lwW wt 0)):=by
  unfold Z
  rw[<-hWA]
  refine⟨(Qe _ _).trans ((Qe _ _).trans (Qe _ _)),((BT.new w _ _ _ rfl).alloc _).alloc _,BT.new _ _ _ _ (by rw[Q1,Q1]),?_,⟨rfl,oL ⟨rfl,rfl⟩⟩,λg hg h=>by cases h⟩
  refine⟨rfl,oR ⟨w.heap.size+1,1,#[iV a],rfl,by omega,?_,lR,by simp[maxLen],rfl,rfl⟩⟩
  exact(BT.new _ _ _ _ (by rw[Q1])).alloc _
 clear hWA
 go_wp2
 go_loopw [14] (λi wr=>∃(k cv cw:Nat) (av aw:Option Addr),k<=segs/\i=iV k/\Z (LWs w wr id bo (sL av (k+1) cv) (sL aw k cw) (lwN a b k) (lwW wt k))) (λi _=>segs-(intOf i).toNat)
 case atStart=>exact⟨0,_,_,_,_,nZ,rfl,HLA⟩
 obtain⟨k,cv,cw,av,aw,hk,rfl,HL⟩:=hrel
 by_cases hlt:k<segs
 ·have hlt':(k:Int)<segs:=by omega
  have HLN:=mh (Q7h a b k)
  have HLW:=mh (Ij wt k)
  by_cases h2:(k:Int)%2=0
  ·have d2:((k:Int)%2==0)=true:=by simpa using h2
   have HSN:Z (lwN a b (k+1)=lwN a b k++[b]):=by unfold Z;show lwN a b k++[_]=_;rw[if_pos h2]
   have g2:=HL.o.box.c 2 rfl
   have hz:=HL.o.nx.size
   go_wp2_with (at_builtin;refine Yy rfl _ _ rfl w.heap.size (k+1) (sL av (k+1) cv) (lwN a b k) b wr rfl HL.o.nds rfl HLN.o (by omega) hz ?_)
   intro a1 c1 w1 r1 r2 r3
   have HL1:=mh (HL.o.addNd r1 r2 r3)
   have HB1:=mh (HL.o.box.row HL.o.nds (by decide) r2)
   clear g2 r1 r2 r3
   have g2:=HB1.o.c 2 rfl
   have f2:=HB1.o.blk.frozen 2
   go_upto_region 8 with fail
   generalize w1.setCell (aD (w.heap.size+2) 2) (sL a1 (k+1+1) c1)=w1' at *
   clear g2 f2 HB1
   rw[<-HSN.o] at HL1
   have g3:=HL1.o.box.c 3 rfl
   have hz3:=HL1.o.nx.size
   go_wp2_with (at_builtin;refine Yy rfl _ _ rfl w.heap.size k (sL aw k cw) (lwW wt k) wt w1' rfl HL1.o.wts rfl HLW.o (by omega) hz3 ?_)
   intro a2 c2 w2 r1 r2 r3
   have HL2:=mh (HL1.o.addWt r1 r2 r3)
   have HB2:=mh (HL1.o.box.row HL1.o.wts (by decide) r2)
   clear g3 r1 r2 r3
   have g3:=HB2.o.c 3 rfl
   have f3:=HB2.o.blk.frozen 3
   go_wp2
   go_roundw
   case rel=>exact⟨k+1,c1,c2,a1,a2,by omega,by go_num,HL2⟩
   case measure=>simp[intOf];omega
  ·have d2:((k:Int)%2==0)=false:=by simpa using h2
   have HSN:Z (lwN a b (k+1)=lwN a b k++[a]):=by unfold Z;show lwN a b k++[_]=_;rw[if_neg h2]
   have g2:=HL.o.box.c 2 rfl
   have hz:=HL.o.nx.size
   go_wp2_with (at_builtin;refine Yy rfl _ _ rfl w.heap.size (k+1) (sL av (k+1) cv) (lwN a b k) a wr rfl HL.o.nds rfl HLN.o (by omega) hz ?_)
   intro a1 c1 w1 r1 r2 r3
   have HL1:=mh (HL.o.addNd r1 r2 r3)
   have HB1:=mh (HL.o.box.row HL.o.nds (by decide) r2)
   clear g2 r1 r2 r3
   have g2:=HB1.o.c 2 rfl
   have f2:=HB1.o.blk.frozen 2
   go_upto_region 8 with fail
   generalize w1.setCell (aD (w.heap.size+2) 2) (sL a1 (k+1+1) c1)=w1' at *
   clear g2 f2 HB1
   rw[<-HSN.o] at HL1
   have g3:=HL1.o.box.c 3 rfl
   have hz3:=HL1.o.nx.size
   go_wp2_with (at_builtin;refine Yy rfl _ _ rfl w.heap.size k (sL aw k cw) (lwW wt k) wt w1' rfl HL1.o.wts rfl HLW.o (by omega) hz3 ?_)
   intro a2 c2 w2 r1 r2 r3
   have HL2:=mh (HL1.o.addWt r1 r2 r3)
   have HB2:=mh (HL1.o.box.row HL1.o.wts (by decide) r2)
   clear g3 r1 r2 r3
   have g3:=HB2.o.c 3 rfl
   have f3:=HB2.o.blk.frozen 3
   go_wp2
   go_roundw
   case rel=>exact⟨k+1,c1,c2,a1,a2,by omega,by go_num,HL2⟩
   case measure=>simp[intOf];omega
 have hkn:k=segs:=by omega
 subst hkn
 have y0:=HL.o.box.c 0 rfl
 have y1:=HL.o.box.c 1 rfl
 have y2:=HL.o.box.c 2 rfl
 have y3:=HL.o.box.c 3 rfl
 have x0:=HL.o.res.c 0 rfl
 have x1:=HL.o.res.c 1 rfl
 have x2:=HL.o.res.c 2 rfl
 have x3:=HL.o.res.c 3 rfl
 have z0:=HL.o.res.blk.frozen 0
 have z1:=HL.o.res.blk.frozen 1
 have z2:=HL.o.res.blk.frozen 2
 have z3:=HL.o.res.blk.frozen 3
 have BR':=(((HL.o.res.blk.set 0 (iV id)).set 1 (.bool bo)).set 2 (sL av (k+1) cv)).set 3 (sL aw k cw)
 have P0:Z (_=some (iV id)):=BR'.c 0 rfl
 have P1:Z (_=some (Value.bool bo)):=BR'.c 1 rfl
 have P2:Z (_=some (sL av (k+1) cv)):=BR'.c 2 rfl
 have P3:Z (_=some (sL aw k cw)):=BR'.c 3 rfl
 clear BR'
 go_wp2
 have p0:=P0.o
 have p1:=P1.o
 have p2:=P2.o
 have p3:=P3.o
 refine bodyPost_ret (v:=.agg #[iV id,.bool bo,sL av (k+1) cv,sL aw k cw]) (by simp[results,results56,go_sem,p0,p1,p2,p3]) rfl ?_
 have r0:=HL.o.res
 have s0:=r0.set 0 (iV id)
 have s1:=s0.set 1 (.bool bo)
 have s2:=s1.set 2 (sL av (k+1) cv)
 exact⟨_,_,rfl,Qk (Qk (Qk (Qk HL.o.nds r0 (by decide) _ _) s0 (by decide) _ _) s1 (by decide) _ _) s2 (by decide) _ _,Qk (Qk (Qk (Qk HL.o.wts r0 (by decide) _ _) s0 (by decide) _ _) s1 (by decide) _ _) s2 (by decide) _ _,HL.o.ap,Below.setCell (Below.setCell (Below.setCell (Below.setCell HL.o.nx lR _) lR _) lR _) lR _⟩
end Go.Proofs.YtphiaobccollhaaGreat
