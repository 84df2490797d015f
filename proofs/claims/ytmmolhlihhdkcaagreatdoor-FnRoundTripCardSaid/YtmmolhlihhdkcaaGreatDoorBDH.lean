import Derived.Test.YtmmolhlihhdkcaaGreatDoorBKJ
namespace Go.Proofs.YtmmolhlihhdkcaaGreatDoor
open Go.RowKit Go.Sort
set_option linter.unusedVariables false
set_option maxRecDepth 1000000
set_option maxHeartbeats 16000000
theorem Qr.at_ {B:Nat}{w:World}{b o n c:Nat}{zs:List Int}(h:Qr B w (.slice (some ⟨b,o,none⟩) n c) zs)(i:Nat)(hi:i<zs.length):w.cell? ⟨b,o+i,none⟩=some (.int .i64 (iat zs i)):=by
 obtain⟨a,c',e,_,k⟩:=h
 simp only[Value.slice.injEq] at e
 obtain⟨rfl,_,_⟩:=e
 obtain⟨b',o',e2,_,_,hc⟩:=k (by omega)
 simp only[Option.some.injEq,Addr.mk.injEq] at e2
 obtain⟨rfl,rfl,_⟩:=e2
 exact hc i hi
theorem Q5 {F:Fence}{n:Nat}{P:Program}{ops:Array Oper}{Q:Exit->Act->World->Prop}{md:Region.Mode}{S:World->Prop}{c i fuel:Nat}{listed:Array Bool}{a:Act}{w:World}(hr:Region.ready md ops listed=[i])(hcl:Cl md ops listed)(h:Cl md ops (listed.setIfInBounds i true)->wpOpIn F n P ops Q i (λa' w'=>(c<=i\/S w')/\Vr F n P md ops Q S c fuel (listed.setIfInBounds i true) a' w') a w):Vr F n P md ops Q S c (fuel+1) listed a w:=
 Qk hr (h (hcl.step (by rw[hr];simp)))
theorem G6 {ws:List Wy}{x:Q4e}(h:SOk x.S)(hl:x.ts=[]):∀k,SOk (Yl ws x k).S/\(Yl ws x k).ts.length<=k
 |0=>⟨h,by simp[Yl,hl]⟩
 |k+1=>by
  obtain⟨h1,h2⟩:=G6 (ws:=ws) h hl k
  refine⟨show SOk (dwS (ns (ns (Yl ws x k).S ws.length) ws.length)) from Q41 (Qj (Qj h1 _) _),?_⟩
  show(Pn (Yl ws x k).ts _).length<=_
  have:=Qav (Yl ws x k).ts ⟨(wat ws (nv (Yl ws x k).S ws.length).toNat).id,(wat ws (nv (ns (Yl ws x k).S ws.length) ws.length).toNat).id,dwV (ns (ns (Yl ws x k).S ws.length) ws.length)⟩
  omega
structure Q4i (C D b:Nat)(w0 w:World)(S:Src)(v0 v1 v3:Value)(N:Nt)(vn vw vr:Nat->Value):Prop where
 net:ONt C w v0 v1 (.slice none 0 0) v3 N vn vw vr
 src:J8 D w b S
 chg:Chg (Sx1 b) w0 w
 b0:∃cs,BT w C cs 28
 b1:∃cs,BT w (C+1) cs 28
theorem Q4i.set {C D b:Nat}{w0 w:World}{S:Src}{v0 v1 v3:Value}{N:Nt}{vn vw vr:Nat->Value}(h:Q4i C D b w0 w S v0 v1 v3 N vn vw vr)(hC:w0.heap.size<=C){g:Nat}(hg:g=C\/g=C+1)(i:Nat)(v:Value):Q4i C D b w0 (w.setCell ⟨g,i,none⟩ v) S v0 v1 v3 N vn vw vr:=by
 obtain⟨cs0,h0⟩:=h.b0
 obtain⟨cs1,h1⟩:=h.b1
 obtain⟨cs,hb⟩:∃cs,BT w g cs 28:=by
  rcases hg with rfl|rfl
  ·exact⟨_,h0⟩
  ·exact⟨_,h1⟩
 have n:=h.net
 refine⟨⟨Q2 n.nodes hb (by decide) _ _,Q2 n.ways hb (by decide) _ _,λi hi=>Q2 (n.wn i hi) hb (by decide) _ _,λi hi=>Q2 (n.ww i hi) hb (by decide) _ _,Q2 n.rels hb (by decide) _ _,λi hi=>Q2 (n.rw_ i hi) hb (by decide) _ _,Q2 n.turns hb (by decide) _ _,n.apart⟩,h.src.set hb (by decide) (by decide) _ _,h.chg.young (Chg.set (S:=λx=>x=g) _ _ _ rfl) (λx hx hl=>by have hx':x=g:=hx;omega),?_,?_⟩
 ·by_cases e:C=g
  ·subst e;exact⟨_,h0.set i v⟩
  ·exact⟨_,h0.setOther e i v⟩
 ·by_cases e:C+1=g
  ·subst e;exact⟨_,h1.set i v⟩
  ·exact⟨_,h1.setOther e i v⟩
theorem DBs.outS {C D b:Nat}{w0 w:World}{S:Src}{v0 v1 v3:Value}{nodes:List Int}{ws:List Wy}{vn vw:Nat->Value}{ts:List Tn}(h:DBs C D b w S v0 v1 v3 nodes ws vn vw ts)(k:Chg (Sx1 b) w0 w)(u:Int)(vr:Nat->Value):Q4i C D b w0 w S v0 v1 v3 ⟨nodes,ws,[],ts,u⟩ vn vw vr:=
 ⟨⟨h.nd,h.wys,h.wn,h.ww,⟨rfl,Or.inl ⟨rfl,rfl⟩⟩,λi hi=>absurd hi (Nat.not_lt_zero _),h.tn,by
  have e:Ja ⟨nodes,ws,[],ts,u⟩ v0 vn vw vr=v0::prs ws.length vn vw:=by simp[Ja,prs]
  rw[e]
  exact h.ap⟩,h.src,k,⟨_,h.res⟩,⟨_,h.box⟩⟩
theorem Q0 {p:Prop}(h:p):Hid p:=h
theorem J8.size {D b:Nat}{w:World}{S:Src}(h:J8 D w b S):w.cell? ⟨b,3,none⟩=some (.int .i64 S.size):=by
 obtain⟨v,hb,_⟩:=h
 exact hb.blk.cell (i:=3) rfl
theorem Fi (D b:Nat)(S:Src)(w:World)(h:J8 D w b S)(hok:SOk S) :
  Calls Tryz.prog 64 #[.pointer (some ⟨b,0,none⟩)] w λe w'=>∃v0 v1 v3 vn vw vr,e=.returned (.agg #[v0,v1,.slice none 0 0,v3,.int .i64 (Q8 S).uturn])/\Q4i w.heap.size D b w w' (dbS S) v0 v1 v3 (Q8 S) vn vw vr:=by
 have HOK:Hid (SOk S):=hok
 have hsz:=hok.size
 have hsz2:0<=S.size/2/\S.size/2<=4:=by omega
 have HS0:Hid (J8 D w b S):=h
 clear h
 go_enter Tryz.func64,Tryz.ntmps64
 go_upto_region 2 with fail
 generalize hWA:(w.alloc (.cells #[.slice none 0 0,.slice none 0 0,.slice none 0 0,.slice none 0 0,.int .i64 0] 28)).alloc (.cells #[.slice none 0 0,.slice none 0 0,.slice none 0 0,.slice none 0 0,.int .i64 0] 28)=wA
 have HXA:Hid (Nx w wA):=by unfold Hid;rw[<-hWA];exact(Qd _ _).trans (Qd _ _)
 have HDA:Hid (DBs w.heap.size D b wA S (.slice none 0 0) (.slice none 0 0) (.slice none 0 0) [] [] (λ_=>.slice none 0 0) (λ_=>.slice none 0 0) []):=by
  unfold Hid
  refine⟨HS0.out.next HXA.out,?_,?_,⟨rfl,Or.inl ⟨rfl,rfl⟩⟩,⟨rfl,Or.inl ⟨rfl,rfl⟩⟩,λi hi=>absurd hi (Nat.not_lt_zero _),λi hi=>absurd hi (Nat.not_lt_zero _),⟨rfl,Or.inl ⟨rfl,rfl⟩⟩,?_⟩
  ·rw[<-hWA];exact(BT.new w _ _ _ rfl).alloc _
  ·rw[<-hWA];exact BT.new _ _ _ _ (by rw[Q7])
  ·exact List.pairwise_singleton _ _
 have b3:=HDA.out.src.size
 clear hWA
 go_wp2_with fail
 refine(Qe D b S (1+S.size/2) wA HDA.out.src HOK.out (by omega)).mono ?_
 rintro e w1 ⟨rfl,hs1,hc1⟩
 have HD1:Hid (DBs w.heap.size D b w1 (ns S (1+S.size/2)) (.slice none 0 0) (.slice none 0 0) (.slice none 0 0) [] [] (λ_=>.slice none 0 0) (λ_=>.slice none 0 0) []):=HDA.out.drawn hs1 hc1
 have HC1:Hid (Chg (Sx1 b) w w1):=(Chg.nx HXA.out).trans hc1
 have HK1:Hid (SOk (ns S (1+S.size/2))):=Qj HOK.out _
 have hv1:=Qt HOK.out (1+S.size/2)
 obtain⟨c0,hc0⟩:∃c0:Nat,V0 S=c0:=⟨(V0 S).toNat,by have:0<=V0 S:=(by unfold V0;omega);omega⟩
 have HCN:Hid (V0 S=c0):=hc0
 have hcd:2+nv S (1+S.size/2)=(c0:Int):=hc0
 have hcb:2<=c0/\c0<=6:=by omega
 clear hs1 hc1 b3 hc0
 go_wp2_with fail
 refine(Qe D b (ns S (1+S.size/2)) 3 w1 HD1.out.src HK1.out (by omega)).mono ?_
 rintro e w2 ⟨rfl,hs1,hc1⟩
 have HD2:Hid (DBs w.heap.size D b w2 (ns (ns S (1+S.size/2)) 3) (.slice none 0 0) (.slice none 0 0) (.slice none 0 0) [] [] (λ_=>.slice none 0 0) (λ_=>.slice none 0 0) []):=HD1.out.drawn hs1 hc1
 have HC2:Hid (Chg (Sx1 b) w w2):=HC1.out.trans hc1
 have hv2:=Qt HK1.out 3
 have HX0:Hid ((⟨ns (ns S (1+S.size/2)) 3,nv (ns S (1+S.size/2)) 3,[]⟩:Q34)=⟨ns (ns S (1+S.size/2)) 3,nv (ns S (1+S.size/2)) 3,[]⟩):=rfl
 generalize hx0:(⟨ns (ns S (1+S.size/2)) 3,nv (ns S (1+S.size/2)) 3,[]⟩:Q34)=x0 at HX0
 have HNO:Hid (∀k,SOk (V2 x0 k).S/\(0<=(V2 x0 k).id/\(V2 x0 k).id<=3+1003*k)/\(V2 x0 k).l.length=k/\(V2 x0 k).S.size=x0.S.size):=by
  rw[<-hx0]
  exact Gi (Qj HK1.out 3) (by show 0<=nv _ 3/\nv _ 3<=3;omega) rfl
 have HD2':Hid (DBs w.heap.size D b w2 (V2 x0 0).S (.slice none 0 0) (.slice none 0 0) (.slice none 0 0) (V2 x0 0).l [] (λ_=>.slice none 0 0) (λ_=>.slice none 0 0) []):=by rw[<-hx0];exact HD2.out
 have HI0:Hid (nv (ns S (1+S.size/2)) 3=(V2 x0 0).id):=by rw[<-hx0];rfl
 have HXS:Hid (x0.S.size=S.size):=by rw[<-hx0];show(ns (ns S _) _).size=_;rw[Qs,Qs]
 have HND:Hid (Zq S=V2 x0 c0):=by unfold Hid Zq;rw[HCN.out,<-hx0];rfl
 clear hs1 hc1 HD2 HX0 HD1 HK1 hx0
 rw[HI0.out]
 clear hcd
 go_wp2
 go_loopw [5,6] (λs5 s6 wr=>∃(k c:Nat) (a:Option Addr),k<=c0/\s6=.int .i64 k/\s5=.int .i64 (V2 x0 k).id/\Hid (DBs w.heap.size D b wr (V2 x0 k).S (.slice a k c) (.slice none 0 0) (.slice none 0 0) (V2 x0 k).l [] (λ_=>.slice none 0 0) (λ_=>.slice none 0 0) [])/\Hid (Chg (Sx1 b) w wr)) (λ_ i _=>c0-(intOf i).toNat)
 case atStart=>exact⟨0,0,none,Nat.zero_le _,rfl,rfl,HD2',HC2⟩
 obtain⟨k,c,a,hk,rfl,rfl,HD,HC⟩:=hrel
 by_cases hlt:k<c0
 ·have hlt':(k:Int)<c0:=by omega
  obtain⟨no1,no2,no3,no4⟩:=HNO.out k
  have HNL:Hid ((V2 x0 k).l.length=k):=no3
  have HOKk:Hid (SOk (V2 x0 k).S):=no1
  have n0:=HD.out.box.blk.cell (i:=0) rfl
  have hz:w.heap.size<=wr.heap.size:=HC.out.size
  generalize hid:(V2 x0 k).id=id at *
  have HID:Hid ((V2 x0 k).id=id):=hid
  clear hid no1 no3 no4
  go_wp2_with (at_builtin;refine Xb rfl _ _ rfl w.heap.size k (.slice a k c) (V2 x0 k).l id wr rfl HD.out.nd rfl HNL.out (by omega) hz ?_)
  intro a1 c1 w3 r1 r2 r3
  have HB3:Hid (BT w3 (w.heap.size+1) #[.slice a k c,.slice none 0 0,.slice none 0 0,.slice none 0 0,.int .i64 0] 28):=HD.out.box.row HD.out.nd (by decide) r2
  have HD4:=HD.out.addNode r1 r2 r3
  have HC4:Hid (Chg (Sx1 b) w (w3.setCell ⟨w.heap.size+1,0,none⟩ (.slice a1 (k+1) c1))):=(HC.out.young r2 (λx hx hl=>by have:=(Ql HD.out.nd x hx.symm).1;omega)).young (Chg.set (S:=λx=>x=w.heap.size+1) _ _ _ rfl) (λx hx hl=>by have hx':x=w.heap.size+1:=hx;omega)
  have n0:=HB3.out.blk.cell (i:=0) rfl
  have f0:=HB3.out.blk.frozen 0
  clear r1 r2 r3
  go_wp2_with fail
  generalize w3.setCell ⟨w.heap.size+1,0,none⟩ (.slice a1 (k+1) c1)=w4 at *
  clear n0 f0 HB3
  refine(Qe D b (V2 x0 k).S 3 w4 HD4.src HOKk.out (by omega)).mono ?_
  rintro e w5 ⟨rfl,hs1,hc1⟩
  have HD5:Hid (DBs w.heap.size D b w5 (ns (V2 x0 k).S 3) (.slice a1 (k+1) c1) (.slice none 0 0) (.slice none 0 0) ((V2 x0 k).l++[id]) [] (λ_=>.slice none 0 0) (λ_=>.slice none 0 0) []):=HD4.drawn hs1 hc1
  have HC5:Hid (Chg (Sx1 b) w w5):=HC4.out.trans hc1
  have hv3:=Qt HOKk.out 3
  clear hs1 hc1 HD4 HC4
  have HOK5:Hid (SOk (ns (V2 x0 k).S 3)):=Qj HOKk.out 3
  have HSTEP:Hid (V2 x0 (k+1)=⟨ns (ns (V2 x0 k).S 3) 12,if nv (ns (V2 x0 k).S 3) 12=0 then id+(1+nv (V2 x0 k).S 3)+1000 else id+(1+nv (V2 x0 k).S 3),(V2 x0 k).l++[id]⟩):=by unfold Hid;show Ia (V2 x0 k)=_;unfold Ia;rw[HID.out]
  generalize nv (V2 x0 k).S 3=d3 at *
  go_wp2_with fail
  refine(Qe D b (ns (V2 x0 k).S 3) 12 w5 HD5.out.src HOK5.out (by omega)).mono ?_
  rintro e w6 ⟨rfl,hs1,hc1⟩
  have HD6:=HD5.out.drawn hs1 hc1
  have HC6:Hid (Chg (Sx1 b) w w6):=HC5.out.trans hc1
  clear hs1 hc1 HD5
  generalize nv (ns (V2 x0 k).S 3) 12=d12 at *
  by_cases hd:d12=0
  ·subst hd
   have HD7:Hid (DBs w.heap.size D b w6 (V2 x0 (k+1)).S (.slice a1 (k+1) c1) (.slice none 0 0) (.slice none 0 0) (V2 x0 (k+1)).l [] (λ_=>.slice none 0 0) (λ_=>.slice none 0 0) []):=by unfold Hid;rw[HSTEP.out];exact HD6
   have HI7:Hid (id+(1+d3)+1000=(V2 x0 (k+1)).id):=by unfold Hid;rw[HSTEP.out];rfl
   clear HD6
   go_wp2
   go_roundw
   case rel=>exact⟨k+1,c1,a1,by omega,by go_num,by rw[HI7.out],HD7,HC6⟩
   case measure=>simp[intOf];omega
  ·have hd':(d12==0)=false:=by simpa using hd
   have HD7:Hid (DBs w.heap.size D b w6 (V2 x0 (k+1)).S (.slice a1 (k+1) c1) (.slice none 0 0) (.slice none 0 0) (V2 x0 (k+1)).l [] (λ_=>.slice none 0 0) (λ_=>.slice none 0 0) []):=by unfold Hid;rw[HSTEP.out];exact HD6
   have HI7:Hid (id+(1+d3)=(V2 x0 (k+1)).id):=by unfold Hid;rw[HSTEP.out];show _=if _ then _ else _;rw[if_neg hd]
   clear HD6 hd
   go_wp2
   go_roundw
   case rel=>exact⟨k+1,c1,a1,by omega,by go_num,by rw[HI7.out],HD7,HC6⟩
   case measure=>simp[intOf];omega
 have hkc:k=c0:=by omega
 subst hkc
 clear hlt hk HD2' HC2
 obtain⟨no1,no2,no3,no4⟩:=HNO.out k
 rw[<-HND.out] at no1 no2 no3 no4 HD
 have HNL:Hid ((Zq S).l.length=k):=no3
 have HOKd:Hid (SOk (Zq S).S):=no1
 have HSZd:Hid ((Zq S).S.size=S.size):=no4.trans HXS.out
 have hz:w.heap.size<=wr.heap.size:=HC.out.size
 clear no1 no3 no4 HNO HI0 HXS HND
 go_wp2_with fail
 refine(Qe D b (Zq S).S 16 wr HD.out.src HOKd.out (by omega)).mono ?_
 rintro e w3 ⟨rfl,hs1,hc1⟩
 have HD3:Hid (DBs w.heap.size D b w3 (Vu S) (.slice a k c) (.slice none 0 0) (.slice none 0 0) (Zq S).l [] (λ_=>.slice none 0 0) (λ_=>.slice none 0 0) []):=HD.out.drawn hs1 hc1
 have HC3:Hid (Chg (Sx1 b) w w3):=HC.out.trans hc1
 have HDN:Hid (Qc S=if nv (Zq S).S 16=0 then (Zq S).l++[1048576] else (Zq S).l):=rfl
 have HDC:Hid (dbN S=if nv (Zq S).S 16=0 then V0 S+1 else V0 S):=rfl
 clear hs1 hc1
 generalize nv (Zq S).S 16=d at *
 go_upto_if 53 with fail
 generalize hbd:(d==0)=bd
 have HBD:Hid ((d==0)=bd):=hbd
 clear hbd
 go_cut [4] from 54 to 60 (λs4 wc=>s4=.int .i64 (dbN S)/\Hid (∃a c,DBs w.heap.size D b wc (Vu S) (.slice a (Qc S).length c) (.slice none 0 0) (.slice none 0 0) (Qc S) [] (λ_=>.slice none 0 0) (λ_=>.slice none 0 0) [])/\Hid (Chg (Sx1 b) w wc))
 case first=>
  cases bd with
  |true=>
   have hd:d=0:=by simpa using HBD.out
   have HDN0:Hid (Qc S=(Zq S).l++[1048576]):=by unfold Hid;rw[HDN.out,if_pos hd]
   have HDC0:Hid (dbN S=V0 S+1):=by unfold Hid;rw[HDC.out,if_pos hd]
   clear HDN HDC hd HBD
   have n0:=HD3.out.box.blk.cell (i:=0) rfl
   have hz3:w.heap.size<=w3.heap.size:=HC3.out.size
   go_wp2_with (at_builtin;refine Xb rfl _ _ rfl w.heap.size k (.slice a k c) (Zq S).l 1048576 w3 rfl HD3.out.nd rfl HNL.out (by omega) hz3 ?_)
   intro a1 c1 w4 r1 r2 r3
   have HB4:Hid (BT w4 (w.heap.size+1) #[.slice a k c,.slice none 0 0,.slice none 0 0,.slice none 0 0,.int .i64 0] 28):=HD3.out.box.row HD3.out.nd (by decide) r2
   have HD4:Hid (∃a c,DBs w.heap.size D b (w4.setCell ⟨w.heap.size+1,0,none⟩ (.slice a1 (k+1) c1)) (Vu S) (.slice a (Qc S).length c) (.slice none 0 0) (.slice none 0 0) (Qc S) [] (λ_=>.slice none 0 0) (λ_=>.slice none 0 0) []):=by
    unfold Hid
    rw[HDN0.out,List.length_append,HNL.out]
    exact⟨a1,c1,HD3.out.addNode r1 r2 r3⟩
   have HC4:Hid (Chg (Sx1 b) w (w4.setCell ⟨w.heap.size+1,0,none⟩ (.slice a1 (k+1) c1))):=(HC3.out.young r2 (λx hx hl=>by have:=(Ql HD3.out.nd x hx.symm).1;omega)).young (Chg.set (S:=λx=>x=w.heap.size+1) _ _ _ rfl) (λx hx hl=>by have hx':x=w.heap.size+1:=hx;omega)
   have HN4:Hid ((k:Int)+1=dbN S):=by unfold Hid;rw[HDC0.out,HCN.out]
   clear n0 r1 r2 r3
   have n0:=HB4.out.blk.cell (i:=0) rfl
   have f0:=HB4.out.blk.frozen 0
   go_wp2
   go_meet
   exact⟨by rw[<-HN4.out],HD4,HC4⟩
  |false=>
   have hd:¬d=0:=by simpa using HBD.out
   have HD4:Hid (∃a c,DBs w.heap.size D b w3 (Vu S) (.slice a (Qc S).length c) (.slice none 0 0) (.slice none 0 0) (Qc S) [] (λ_=>.slice none 0 0) (λ_=>.slice none 0 0) []):=by
    unfold Hid
    rw[HDN.out,if_neg hd,HNL.out]
    exact⟨a,c,HD3.out⟩
   have HN4:Hid ((k:Int)=dbN S):=by unfold Hid;rw[HDC.out,if_neg hd,HCN.out]
   clear hd HDN HDC HBD
   go_wp2
   go_meet
   exact⟨by rw[<-HN4.out],HD4,HC3⟩
 case rest=>
 clear HD3 HC3
 obtain⟨rfl,HD3,HC3⟩:=hcut
 obtain⟨a0,c0',hd3⟩:=HD3.out
 have HLN:Hid (((Qc S).length:Int)=dbN S):=by
  unfold Hid
  rw[HDN.out,HDC.out]
  split
  ·rw[List.length_append,HNL.out,HCN.out];rfl
  ·rw[HNL.out,HCN.out]
 have HNB:Hid (2<=dbN S/\dbN S<=7):=by unfold Hid;rw[HDC.out,HCN.out];split<;>omega
 have hnb:=HNB.out
 generalize hl0:(Qc S).length=l0 at *
 have HL0:Hid ((Qc S).length=l0):=hl0
 have HD4:Hid (DBs w.heap.size D b wc (Vu S) (.slice a0 l0 c0') (.slice none 0 0) (.slice none 0 0) (Qc S) [] (λ_=>.slice none 0 0) (λ_=>.slice none 0 0) []):=hd3
 have HOK2:Hid (SOk (Vu S)):=Qj HOKd.out 16
 have HSZ2:Hid ((Vu S).size=S.size):=by unfold Hid Vu;rw[Qs,HSZd.out]
 obtain⟨a9,c9,e9,_,k9⟩:=HD4.out.nd.held
 rw[HL0.out] at e9 k9
 simp only[Value.slice.injEq] at e9
 obtain⟨rfl,_,rfl⟩:=e9
 obtain⟨nb,no,rfl,_,_,_⟩:=k9 (by have:=HLN.out;omega)
 clear k9
 generalize hcn:dbN S=cN at *
 have HcN:Hid (dbN S=cN):=hcn
 clear HD HC HD3 hd3 hl0 HCN HOKd HSZd HDN HDC hcn
 have b3:wc.cell? ⟨b,3,none⟩=some (.int .i64 S.size):=by rw[<-HSZ2.out];exact HD4.out.src.size
 generalize hwc:wc=w5 at *
 clear hwc
 go_wp2_with fail
 refine(Qe D b (Vu S) (2+S.size) w5 HD4.out.src HOK2.out (by omega)).mono ?_
 rintro e w6 ⟨rfl,hs1,hc1⟩
 have HD6:=Q0 (HD4.out.drawn hs1 hc1)
 have HC6:Hid (Chg (Sx1 b) w w6):=HC3.out.trans hc1
 have HOK6:Hid (SOk (ns (Vu S) (2+S.size))):=Qj HOK2.out _
 have hv6:=Qt HOK2.out (2+S.size)
 clear hs1 hc1 b3 HD4 HC3
 go_wp2_with fail
 refine(Qe D b (ns (Vu S) (2+S.size)) 24 w6 HD6.out.src HOK6.out (by omega)).mono ?_
 rintro e w7 ⟨rfl,hs1,hc1⟩
 have HD7:=Q0 (HD6.out.drawn hs1 hc1)
 have HC7:Hid (Chg (Sx1 b) w w7):=HC6.out.trans hc1
 have HOK7:Hid (SOk (ns (ns (Vu S) (2+S.size)) 24)):=Qj HOK6.out _
 have HDW:Hid (Vc S=if nv (ns (Vu S) (2+S.size)) 24=0 then 0 else 2+nv (Vu S) (2+S.size)):=rfl
 clear hs1 hc1 HD6 HC6
 generalize nv (ns (Vu S) (2+S.size)) 24=d at *
 generalize nv (Vu S) (2+S.size)=d2 at *
 go_upto_if 71 with fail
 generalize hbd:(d==0)=bd
 have HBD:Hid ((d==0)=bd):=hbd
 clear hbd
 go_cut [7] from 72 to 73 (λs7 wc=>s7=.int .i64 (Vc S)/\wc=w7)
 case first=>
  cases bd with
  |true=>
   have hd:d=0:=by simpa using HBD.out
   have HW0:Hid (Vc S=0):=by unfold Hid;rw[HDW.out,if_pos hd]
   clear hd HBD HDW
   go_wp2
   go_meet
   exact⟨by rw[HW0.out],rfl⟩
  |false=>
   have hd:¬d=0:=by simpa using HBD.out
   have HW0:Hid (Vc S=2+d2):=by unfold Hid;rw[HDW.out,if_neg hd]
   clear hd HBD HDW
   go_wp2
   go_meet
   exact⟨by rw[HW0.out],rfl⟩
 case rest=>
 obtain⟨rfl,rfl⟩:=hcut
 have HWB:Hid (0<=Vc S/\Vc S<=12):=by unfold Hid;rw[HDW.out];split<;>omega
 clear HDW
 have hwb:=HWB.out
 obtain⟨nW,hnW⟩:∃nW:Nat,Vc S=nW:=⟨(Vc S).toNat,by omega⟩
 have HNW:Hid (Vc S=nW):=hnW
 rw[hnW]
 have hnWb:nW<=12:=by omega
 clear hwb hnW
 go_wp2_with fail
 refine(Qe D b (ns (ns (Vu S) (2+S.size)) 24) 4 _ HD7.out.src HOK7.out (by omega)).mono ?_
 rintro e w8 ⟨rfl,hs1,hc1⟩
 have HD8:=Q0 (HD7.out.drawn hs1 hc1)
 have HC8:Hid (Chg (Sx1 b) w w8):=HC7.out.trans hc1
 have hv8:=Qt HOK7.out 4
 generalize hy0:(⟨ns (ns (ns (Vu S) (2+S.size)) 24) 4,nv (ns (ns (Vu S) (2+S.size)) 24) 4,[]⟩:Q0x)=y0
 have HWO:Hid (∀k,Q4d k S.size (Xw cN nW (Qc S) y0 k)):=by
  refine Pq (by omega) ?_
  rw[<-hy0]
  exact⟨Qj HOK7.out 4,by show 0<=nv _ 4/\nv _ 4<=_;omega,rfl,by show(ns (ns (ns (Vu S) _) _) _).size=_;rw[Qs,Qs,Qs,HSZ2.out],λi hi=>absurd hi (Nat.not_lt_zero _)⟩
 have HD9:Hid (∃vn vw,DBs w.heap.size D b w8 (Xw cN nW (Qc S) y0 0).S (.slice (some ⟨nb,no,none⟩) l0 c0') (.slice none 0 0) (.slice none 0 0) (Qc S) (Xw cN nW (Qc S) y0 0).ways vn vw []):=by rw[<-hy0];exact⟨_,_,HD8.out⟩
 have HI0:Hid (nv (ns (ns (Vu S) (2+S.size)) 24) 4=(Xw cN nW (Qc S) y0 0).id):=by rw[<-hy0];rfl
 have HWY:Hid (Z6 S=Xw cN nW (Qc S) y0 nW):=by unfold Hid Z6;rw[HcN.out,HNW.out,<-hy0];rfl
 rw[HI0.out]
 clear hs1 hc1 HD8 HD7 HC7 HOK7 HOK6 HI0 hy0 HOK2 hv8 hv6 hv1 hv2
 go_wp2
 go_loopw [5,8,9,10,11,12,13] (λs5 s8 s9 s10 s11 s12 s13 wr=>∃(k c1:Nat) (a1:Option Addr),k<=nW/\s8=.int .i64 k/\s5=.int .i64 (Xw cN nW (Qc S) y0 k).id/\Hid (∃vn vw,DBs w.heap.size D b wr (Xw cN nW (Qc S) y0 k).S (.slice (some ⟨nb,no,none⟩) l0 c0') (.slice a1 k c1) (.slice none 0 0) (Qc S) (Xw cN nW (Qc S) y0 k).ways vn vw [])/\Hid (Chg (Sx1 b) w wr)) (λ_ i _ _ _ _ _ _=>nW-(intOf i).toNat)
 case atStart=>exact⟨0,0,none,Nat.zero_le _,rfl,rfl,HD9,HC8⟩
 clear HD9 HC8
 obtain⟨k,c1,a1,hk,rfl,rfl,HDE,HC⟩:=hrel
 by_cases hlt:k<nW
 ·have hlt':(k:Int)<nW:=by omega
  obtain⟨vn,vw,hd⟩:=HDE.out
  have hwo:=HWO.out k
  have HWk:Hid (Q4d k S.size (Xw cN nW (Qc S) y0 k)):=hwo
  have HSTEP:Hid (Xw cN nW (Qc S) y0 (k+1)=Q35 cN nW (Qc S) k (Xw cN nW (Qc S) y0 k)):=rfl
  have hid:=hwo.id
  generalize hyk:Xw cN nW (Qc S) y0 k=yk at *
  have HD:Hid (DBs w.heap.size D b wr yk.S (.slice (some ⟨nb,no,none⟩) l0 c0') (.slice a1 k c1) (.slice none 0 0) (Qc S) yk.ways vn vw []):=hd
  have HOKk:Hid (SOk yk.S):=hwo.ok
  generalize hik:yk.id=idk at *
  have HIK:Hid (yk.id=idk):=hik
  clear hd hwo hyk hik HDE
  have hz:w.heap.size<=wr.heap.size:=HC.out.size
  go_upto_region 22 with fail
  generalize hWB:wr.alloc (.cells #[.int .i64 idk,.bool false,.slice none 0 0,.slice none 0 0] 45)=wB
  have HWB:Hid (WBs D b wr wB yk.S idk false (.slice none 0 0) (.slice none 0 0) [] []):=by
   unfold Hid
   refine WBs.start (v:=S) HD.out.src ?_ ?_
   ·rw[<-hWB];exact BT.new _ _ _ _ rfl
   ·rw[<-hWB];exact Qd _ _
  clear hWB
  go_cut [89] from 81 to 88 (λs wc=>s=.bool (decide ((k:Int)+1=nW/\nv yk.S 16=0))/\Hid (WBs D b wr wc (Yg nW k yk.S) idk false (.slice none 0 0) (.slice none 0 0) [] []))
  case first=>
   by_cases he:(k:Int)+1=nW
   ·have he':((k:Int)+1==(nW:Int))=true:=by simpa using he
    have HS0:Hid (Yg nW k yk.S=ns yk.S 16):=by unfold Hid Yg;rw[if_pos he]
    have HDD:Hid (decide ((k:Int)+1=nW/\nv yk.S 16=0)=(nv yk.S 16==0)):=by
     unfold Hid
     rw[Bool.eq_iff_iff]
     simp[he]
    clear he
    go_wp2_with fail
    refine(Qe D b yk.S 16 wB HWB.out.src HOKk.out (by omega)).mono ?_
    rintro e w3 ⟨rfl,hs1,hc1⟩
    have HW3:Hid (WBs D b wr w3 (Yg nW k yk.S) idk false (.slice none 0 0) (.slice none 0 0) [] []):=by unfold Hid;rw[HS0.out];exact HWB.out.drawn hs1 hc1
    go_wp2
    go_meet
    exact⟨by rw[HDD.out],HW3⟩
   ·have he':((k:Int)+1==(nW:Int))=false:=by simpa using he
    have HW3:Hid (WBs D b wr wB (Yg nW k yk.S) idk false (.slice none 0 0) (.slice none 0 0) [] []):=by unfold Hid Yg;rw[if_neg he];exact HWB.out
    have HDD:Hid (decide ((k:Int)+1=nW/\nv yk.S 16=0)=false):=by unfold Hid;simp[he]
    clear he
    go_wp2
    go_meet
    exact⟨by rw[HDD.out],HW3⟩
  case rest=>
  obtain⟨rfl,HW1⟩:=hcut
  have HIDW:Hid (E6 nW k yk.S idk=if (k:Int)+1=nW/\nv yk.S 16=0 then 1048576 else idk):=rfl
  go_upto_if 89 with fail
  generalize hbd:decide ((k:Int)+1=nW/\nv yk.S 16=0)=bd
  have HBD:Hid (decide ((k:Int)+1=nW/\nv yk.S 16=0)=bd):=hbd
  clear hbd
  go_cut [10] from 90 to 90 (λs10 wc=>Hid (WBs D b wr wc (Yg nW k yk.S) (E6 nW k yk.S idk) false (.slice none 0 0) (.slice none 0 0) [] []))
  case first=>
   cases bd with
   |true=>
    have HI1:Hid (E6 nW k yk.S idk=1048576):=by unfold Hid;rw[HIDW.out,if_pos (by simpa using HBD.out)]
    have i0:=HW1.out.box.blk.cell (i:=0) rfl
    have f0:=HW1.out.box.blk.frozen 0
    have HW2:Hid (WBs D b wr (wc.setCell ⟨wr.heap.size,0,none⟩ (.int .i64 1048576)) (Yg nW k yk.S) (E6 nW k yk.S idk) false (.slice none 0 0) (.slice none 0 0) [] []):=by unfold Hid;rw[HI1.out];exact HW1.out.set 0 _ rfl
    clear HBD HIDW
    go_wp2
    go_meet
    exact HW2
   |false=>
    have HI1:Hid (E6 nW k yk.S idk=idk):=by unfold Hid;rw[HIDW.out,if_neg (by simpa using HBD.out)]
    have HW2:Hid (WBs D b wr wc (Yg nW k yk.S) (E6 nW k yk.S idk) false (.slice none 0 0) (.slice none 0 0) [] []):=by unfold Hid;rw[HI1.out];exact HW1.out
    clear HBD HIDW
    go_wp2
    go_meet
    exact HW2
  case rest=>
  have HW2:Hid (WBs D b wr wc (Yg nW k yk.S) (E6 nW k yk.S idk) false (.slice none 0 0) (.slice none 0 0) [] []):=hcut
  clear hcut HIDW HBD HW1 HWB
  generalize hwc:wc=w3 at *
  clear hwc
  have HOK0:Hid (SOk (Yg nW k yk.S)):=Av HOKk.out
  have HSG:Hid (Xw cN nW (Qc S) y0 (k+1)=⟨(Ur cN (Qc S) (ns (ns (Yg nW k yk.S) 2) 3)).S,idk+(1+nv (Yg nW k yk.S) 2),yk.ways++[⟨E6 nW k yk.S idk,nv (ns (Yg nW k yk.S) 2) 3 !=0,(Ur cN (Qc S) (ns (ns (Yg nW k yk.S) 2) 3)).nodes,(Ur cN (Qc S) (ns (ns (Yg nW k yk.S) 2) 3)).weights⟩]⟩):=by unfold Hid;rw[HSTEP.out];unfold Q35;rw[HIK.out]
  generalize E6 nW k yk.S idk=wid at *
  generalize Yg nW k yk.S=S0 at *
  clear HSTEP
  go_wp2_with fail
  refine(Qe D b S0 2 _ HW2.out.src HOK0.out (by omega)).mono ?_
  rintro e w4 ⟨rfl,hs1,hc1⟩
  have HW4:=Q0 (HW2.out.drawn hs1 hc1)
  have hv4:=Qt HOK0.out 2
  have HOK4:Hid (SOk (ns S0 2)):=Qj HOK0.out 2
  clear hs1 hc1 HW2
  generalize nv S0 2=d2 at *
  go_wp2_with fail
  refine(Qe D b (ns S0 2) 3 _ HW4.out.src HOK4.out (by omega)).mono ?_
  rintro e w5 ⟨rfl,hs1,hc1⟩
  have HW5:=Q0 (HW4.out.drawn hs1 hc1)
  have HOK5:Hid (SOk (ns (ns S0 2) 3)):=Qj HOK4.out 3
  generalize nv (ns S0 2) 3=d3 at *
  generalize ns (ns S0 2) 3=S5 at *
  have HW6:Hid (WBs D b wr (w5.setCell ⟨wr.heap.size,1,none⟩ (.bool (d3 !=0))) S5 wid (d3 !=0) (.slice none 0 0) (.slice none 0 0) [] []):=HW5.out.set 1 _ rfl
  have i1:=HW5.out.box.blk.cell (i:=1) rfl
  have f1:=HW5.out.box.blk.frozen 1
  clear hs1 hc1 HW4
  go_wp2_with fail
  generalize w5.setCell ⟨wr.heap.size,1,none⟩ (.bool (d3 !=0))=w6 at *
  generalize (d3 !=0)=bo at *
  clear i1 f1 HW5
  refine(Qe D b S5 4 _ HW6.out.src HOK5.out (by omega)).mono ?_
  rintro e w7' ⟨rfl,hs1,hc1⟩
  have HW7:=Q0 (HW6.out.drawn hs1 hc1)
  have HOK7:Hid (SOk (ns S5 4)):=Qj HOK5.out 4
  have HSEG:Hid (Ya S5=if nv S5 4=0 then 2+nv (ns S5 4) 2 else 1):=rfl
  have HS3:Hid (Yx S5=if nv S5 4=0 then ns (ns S5 4) 2 else ns S5 4):=rfl
  clear hs1 hc1 HW6
  generalize nv S5 4=d4 at *
  go_upto_if 102 with fail
  generalize hbd:(d4==0)=bd
  have HBD:Hid ((d4==0)=bd):=hbd
  clear hbd
  go_cut [10] from 103 to 105 (λs10 wc=>s10=.int .i64 (Ya S5)/\Hid (WBs D b wr wc (Yx S5) wid bo (.slice none 0 0) (.slice none 0 0) [] []))
  case first=>
   cases bd with
   |true=>
    have hd:d4=0:=by simpa using HBD.out
    have HA1:Hid (Ya S5=2+nv (ns S5 4) 2):=by unfold Hid;rw[HSEG.out,if_pos hd]
    have HA2:Hid (Yx S5=ns (ns S5 4) 2):=by unfold Hid;rw[HS3.out,if_pos hd]
    clear HSEG HS3 HBD hd
    go_wp2_with fail
    refine(Qe D b (ns S5 4) 2 _ HW7.out.src HOK7.out (by omega)).mono ?_
    rintro e w8' ⟨rfl,hs1,hc1⟩
    have HW8:Hid (WBs D b wr w8' (Yx S5) wid bo (.slice none 0 0) (.slice none 0 0) [] []):=by unfold Hid;rw[HA2.out];exact HW7.out.drawn hs1 hc1
    have hv9:=Qt HOK7.out 2
    clear hs1 hc1
    go_wp2
    go_meet
    exact⟨by rw[HA1.out],HW8⟩
   |false=>
    have hd:¬d4=0:=by simpa using HBD.out
    have HA1:Hid (Ya S5=1):=by unfold Hid;rw[HSEG.out,if_neg hd]
    have HW8:Hid (WBs D b wr w7' (Yx S5) wid bo (.slice none 0 0) (.slice none 0 0) [] []):=by unfold Hid;rw[HS3.out,if_neg hd];exact HW7.out
    clear HSEG HS3 HBD hd
    go_wp2
    go_meet
    exact⟨by rw[HA1.out],HW8⟩
  case rest=>
  obtain⟨rfl,HW8⟩:=hcut
  have hsg:=Ks HOK5.out
  have HOK8:Hid (SOk (Yx S5)):=Q4l HOK5.out
  obtain⟨ng,hng⟩:∃ng:Nat,Ya S5=ng:=⟨(Ya S5).toNat,by omega⟩
  have HNG:Hid (Ya S5=ng):=hng
  have hngb:1<=ng/\ng<=3:=by omega
  rw[hng]
  clear hng hsg HSEG HS3 HBD HW7 HOK7
  go_wp2_with fail
  refine(Qe D b (Yx S5) cN _ HW8.out.src HOK8.out (by omega)).mono ?_
  rintro e w9 ⟨rfl,hs1,hc1⟩
  have HW9:=Q0 (HW8.out.drawn hs1 hc1)
  have hv9:=Qt HOK8.out cN
  clear hs1 hc1 HW8
  obtain⟨p0,hp0⟩:∃p0:Nat,nv (Yx S5) cN=p0:=⟨(nv (Yx S5) cN).toNat,by omega⟩
  have HP0:Hid (nv (Yx S5) cN=p0):=hp0
  rw[hp0]
  have hpl:p0<l0:=by have:=HLN.out;omega
  have HPL:Hid (p0<(Qc S).length):=by unfold Hid;rw[HL0.out];exact hpl
  have hpl':(p0:Int)<l0:=by omega
  clear hp0 hv9
  go_upto_region 30 with fail
  generalize hzv:iat (Qc S) p0=z0 at *
  have HZV:Hid (iat (Qc S) p0=z0):=hzv
  clear hzv
  have HWD:Hid (WBs D b wr w9.drew (ns (Yx S5) cN) wid bo (.slice none 0 0) (.slice none 0 0) [] []):=HW9.out.next (show Nx w9 w9.drew from(Below.refl _ _).drew)
  have hdd:=Q0 (HD.out.drawn HWD.out.src HWD.out.chg)
  have HSN:Hid (∀q,Nx w9.drew q->(λq=>q.cell? ⟨wr.heap.size,2,none⟩=some (.slice none 0 0)/\q.cell? ⟨w.heap.size+1,0,none⟩=some (.slice (some ⟨nb,no,none⟩) l0 c0')/\q.cell? ⟨nb,no+p0,none⟩=some (.int .i64 z0)) q):=λq hq=>⟨Qf hq (HWD.out.box.blk.cell (i:=2) rfl),Qf hq (hdd.out.box.blk.cell (i:=0) rfl),Qf hq (by rw[<-HZV.out];exact hdd.out.nd.held.at_ p0 HPL.out)⟩
  have HSS:Hid ((λq=>q.cell? ⟨wr.heap.size,2,none⟩=some (.slice none 0 0)/\q.cell? ⟨w.heap.size+1,0,none⟩=some (.slice (some ⟨nb,no,none⟩) l0 c0')/\q.cell? ⟨nb,no+p0,none⟩=some (.int .i64 z0)) w9.drew):=HSN.out _ (Nx.refl _)
  have hmx:Tryz.prog.follows .mixedOrders=true:=by kernel_rfl
  have hzz:wr.heap.size+1<=w9.heap.size:=HWD.out.box.lt
  refine(wpIn_wide (n:=9)).1 ?_
  refine Q9 (c:=10) (S:=λq=>q.cell? ⟨wr.heap.size,2,none⟩=some (.slice none 0 0)/\q.cell? ⟨w.heap.size+1,0,none⟩=some (.slice (some ⟨nb,no,none⟩) l0 c0')/\q.cell? ⟨nb,no+p0,none⟩=some (.int .i64 z0)) hmx (by kernel_rfl) (λhw hcl=>?_)
  refine tq (i:=0) (v:=.pointer (some ⟨wr.heap.size,2,none⟩)) (λhcl=>?_)
  refine tq (i:=1) (v:=.slice none 0 0) (λhcl=>?_)
  refine tq (i:=2) (v:=.pointer (some ⟨w.heap.size+1,0,none⟩)) (λhcl=>?_)
  refine tq (i:=3) (v:=.slice (some ⟨nb,no,none⟩) l0 c0') (λhcl=>?_)
  refine tq (i:=4) (v:=.int .i64 (p0:Int)) (λhcl=>?_)
  refine tq (i:=5) (v:=.pointer (some ⟨nb,no+p0,none⟩)) (λhcl=>?_)
  refine tq (i:=6) (v:=.int .i64 z0) (λhcl=>?_)
  refine Qk (i:=7) (by kernel_rfl) (wpOpIn_step rfl (λK hK=>?_))
  go_simp
  refine hK _ _ ⟨Or.inr (HSN.out _ (Qd _ _)),?_⟩
  clear hK K
  refine Qk (i:=8) (by kernel_rfl) (wpOpIn_step rfl (λK hK=>?_))
  refine Xz rfl (.tmp 110) (.tmp 116) rfl (wr.heap.size+1) 0 (.slice none 0 0) [] z0 w9.drew _ rfl (by simp[Act.eval]) HWD.out.nds (by simp[Act.eval]) rfl (by omega) hzz ?_
  intro a8 c8 w8 r1 r2 r3
  have HW100:=Q0 (HWD.out.addNd r1 r2 r3)
  have HB8:=Q0 (HWD.out.box.row HWD.out.nds (by decide) r2)
  have HS8:Hid ((λq=>q.cell? ⟨wr.heap.size,2,none⟩=some (.slice none 0 0)/\q.cell? ⟨w.heap.size+1,0,none⟩=some (.slice (some ⟨nb,no,none⟩) l0 c0')/\q.cell? ⟨nb,no+p0,none⟩=some (.int .i64 z0)) w8):=⟨HB8.out.blk.cell (i:=2) rfl,(hdd.out.box.row HWD.out.nds (by decide) r2).blk.cell (i:=0) rfl,by
   rw[<-HZV.out]
   exact(Qb.held (Yw hdd.out.nd (λg hg hg2=>by have h1:=(Ql HWD.out.nds g hg).1;have h2:=(Ql HD.out.nd g hg2).2;omega) r2)).at_ p0 HPL.out⟩
  refine hK _ _ ⟨Or.inr HS8.out,?_⟩
  clear hK K r1 r2 r3
  refine Qk (i:=9) (by kernel_rfl) (wpOpIn_step rfl (λK hK=>?_))
  go_simp
  refine hK _ _ ⟨Or.inr HS8.out,?_⟩
  clear hK K
  have g2:=HB8.out.blk.cell (i:=2) rfl
  have f2:=HB8.out.blk.frozen 2
  refine Qk (i:=10) (by kernel_rfl) (wpOpIn_step rfl (λK hK=>?_))
  go_simp
  refine hK _ _ ⟨Or.inl (by decide),?_⟩
  clear hK K
  refine Qi (by kernel_rfl) ?_ _
  clear hw hcl HSS HS8 g2 f2 HB8 HSN hdd HWD
  have HW10:Hid (WBs D b wr (w8.setCell ⟨wr.heap.size,2,none⟩ (.slice a8 (0+1) c8)) (ns (Yx S5) cN) wid bo (.slice a8 (0+1) c8) (.slice none 0 0) ([]++[z0]) []):=HW100
  clear HW100
  generalize w8.setCell ⟨wr.heap.size,2,none⟩ (.slice a8 (0+1) c8)=w10 at *
  have HQ0:Hid (Ur cN (Qc S) S5=Vo cN (Qc S) ⟨ns (Yx S5) cN,(p0:Int),[z0],[]⟩ ng):=by unfold Hid Ur;rw[HP0.out,HNG.out,Int.toNat_natCast,Int.toNat_natCast,HZV.out]
  have HOK9:Hid (SOk (ns (Yx S5) cN)):=Qj HOK8.out cN
  generalize hq0:(⟨ns (Yx S5) cN,(p0:Int),[z0],[]⟩:Q32)=q0 at *
  have HQO:Hid (∀j,SOk (Vo cN (Qc S) q0 j).S/\(0<=(Vo cN (Qc S) q0 j).pos/\(Vo cN (Qc S) q0 j).pos<cN)/\(Vo cN (Qc S) q0 j).nodes.length=1+j/\(Vo cN (Qc S) q0 j).weights.length=j):=by
   intro j
   have h:=Q07 (ids:=Qc S) (count:=cN) (by omega) (x:=q0) (by rw[<-hq0];exact HOK9.out) (by rw[<-hq0];show(0:Int)<=p0/\(p0:Int)<cN;have:=HLN.out;omega) j
   refine⟨h.1,h.2.1,?_,?_⟩
   ·rw[h.2.2.1,<-hq0];rfl
   ·rw[h.2.2.2.1,<-hq0];simp
  have HW11:Hid (WBs D b wr w10 (Vo cN (Qc S) q0 0).S wid bo (.slice a8 (0+1) c8) (.slice none 0 0) (Vo cN (Qc S) q0 0).nodes (Vo cN (Qc S) q0 0).weights):=by rw[<-hq0];exact HW10.out
  have HPP:Hid ((p0:Int)=(Vo cN (Qc S) q0 0).pos):=by rw[<-hq0];rfl
  rw[HPP.out]
  clear HW10 HOK9 hq0 HP0 HZV HPL hpl hpl' HPP HOK8
  generalize hwr:wr=wR at *
  clear hwr
  go_wp2
  go_loopw [11,12,13] (λs11 s12 s13 wx=>∃(j cv cw:Nat) (av aw:Option Addr),j<=ng/\s12=.int .i64 j/\s11=.int .i64 (Vo cN (Qc S) q0 j).pos/\Hid (WBs D b wR wx (Vo cN (Qc S) q0 j).S wid bo (.slice av (j+1) cv) (.slice aw j cw) (Vo cN (Qc S) q0 j).nodes (Vo cN (Qc S) q0 j).weights)) (λ_ i _ _=>ng-(intOf i).toNat)
  case atStart=>exact⟨0,_,_,_,_,Nat.zero_le _,rfl,rfl,HW11⟩
  clear HW11
  obtain⟨j,cv,cw,av,aw,hj,rfl,rfl,HWJ⟩:=hrel
  by_cases hjl:j<ng
  ·have hjl':(j:Int)<ng:=by omega
   obtain⟨qo1,qo2,qo3,qo4⟩:=HQO.out j
   have HQK:Hid (SOk (Vo cN (Qc S) q0 j).S):=qo1
   have HQN:Hid ((Vo cN (Qc S) q0 j).nodes.length=j+1):=by unfold Hid;omega
   have HQW:Hid ((Vo cN (Qc S) q0 j).weights.length=j):=qo4
   have HQS:Hid (Vo cN (Qc S) q0 (j+1)=Q3c cN (Qc S) (Vo cN (Qc S) q0 j)):=rfl
   generalize hqj:Vo cN (Qc S) q0 j=qj at *
   clear hqj qo1 qo3 qo4
   go_wp2_with fail
   refine(Qe D b qj.S (cN-1) _ HWJ.out.src HQK.out (by omega)).mono ?_
   rintro e w3' ⟨rfl,hs1,hc1⟩
   have HWJ1:=Q0 (HWJ.out.drawn hs1 hc1)
   have hv1':=Qt HQK.out (cN-1)
   have HQK1:Hid (SOk (ns qj.S (cN-1))):=Qj HQK.out _
   clear hs1 hc1 HWJ
   go_wp2_with fail
   refine(Qe D b (ns qj.S (cN-1)) 20 _ HWJ1.out.src HQK1.out (by omega)).mono ?_
   rintro e w4' ⟨rfl,hs1,hc1⟩
   have HWJ2:=Q0 (HWJ1.out.drawn hs1 hc1)
   have HQK2:Hid (SOk (ns (ns qj.S (cN-1)) 20)):=Qj HQK1.out _
   have HAT:Hid (Q3d cN qj=(qj.pos+if nv (ns qj.S (cN-1)) 20=0 then 0 else 1+nv qj.S (cN-1))%cN):=rfl
   clear hs1 hc1 HWJ1 HQK1
   generalize nv (ns qj.S (cN-1)) 20=d20 at *
   generalize nv qj.S (cN-1)=dc at *
   generalize hst:(if d20=0 then 0 else 1+dc:Int)=st at *
   have HST:Hid ((if d20=0 then 0 else 1+dc:Int)=st):=hst
   clear hst
   go_upto_if 131 with fail
   generalize hbd:(d20==0)=bd
   have HBD:Hid ((d20==0)=bd):=hbd
   clear hbd
   go_cut [13] from 132 to 132 (λs13 wc=>s13=.int .i64 st/\wc=w4')
   case first=>
    cases bd with
    |true=>
     have HS1:Hid (st=0):=by unfold Hid;rw[<-HST.out,if_pos (by simpa using HBD.out)]
     clear HBD HST
     go_wp2
     go_meet
     exact⟨by rw[HS1.out],rfl⟩
    |false=>
     have HS1:Hid (st=1+dc):=by unfold Hid;rw[<-HST.out,if_neg (by simpa using HBD.out)]
     clear HBD HST
     go_wp2
     go_meet
     exact⟨by rw[HS1.out],rfl⟩
   case rest=>
   obtain⟨rfl,rfl⟩:=hcut
   have hstb:0<=st/\st<=1+dc:=by rw[<-HST.out];split<;>omega
   have hc0:cN≠0:=by omega
   have hc1:(cN==0)=false:=by simpa using hc0
   have hps:0<=qj.pos+st:=by omega
   have hpb:0<=(qj.pos+st)%cN/\(qj.pos+st)%cN<cN:=⟨Int.emod_nonneg _ hc0,Int.emod_lt_of_pos _ (by omega)⟩
   obtain⟨p,hp⟩:∃p:Nat,(qj.pos+st)%cN=p:=⟨((qj.pos+st)%cN).toNat,by omega⟩
   have HPV:Hid (Q3d cN qj=p):=by unfold Hid;rw[HAT.out];exact hp
   have hpl:p<l0:=by have:=HLN.out;omega
   have HPL:Hid (p<(Qc S).length):=by unfold Hid;rw[HL0.out];exact hpl
   have hpl':(p:Int)<l0:=by omega
   clear HBD HST HAT
   go_upto_region 38 with fail
   rw[hp]
   clear hp
   generalize hzv:iat (Qc S) p=z0' at *
   have HZV:Hid (iat (Qc S) p=z0'):=hzv
   clear hzv
   have HWD:Hid (WBs D b wR wc.drew (ns (ns qj.S (cN-1)) 20) wid bo (.slice av (j+1) cv) (.slice aw j cw) qj.nodes qj.weights):=HWJ2.out.next (show Nx wc wc.drew from(Below.refl _ _).drew)
   have hdd:=Q0 (HD.out.drawn HWD.out.src HWD.out.chg)
   have HSN:Hid (∀q,Nx wc.drew q->(λq=>q.cell? ⟨wR.heap.size,2,none⟩=some (.slice av (j+1) cv)/\q.cell? ⟨w.heap.size+1,0,none⟩=some (.slice (some ⟨nb,no,none⟩) l0 c0')/\q.cell? ⟨nb,no+p,none⟩=some (.int .i64 z0')) q):=λq hq=>⟨Qf hq (HWD.out.box.blk.cell (i:=2) rfl),Qf hq (hdd.out.box.blk.cell (i:=0) rfl),Qf hq (by rw[<-HZV.out];exact hdd.out.nd.held.at_ p HPL.out)⟩
   have HSS:Hid ((λq=>q.cell? ⟨wR.heap.size,2,none⟩=some (.slice av (j+1) cv)/\q.cell? ⟨w.heap.size+1,0,none⟩=some (.slice (some ⟨nb,no,none⟩) l0 c0')/\q.cell? ⟨nb,no+p,none⟩=some (.int .i64 z0')) wc.drew):=HSN.out _ (Nx.refl _)
   have hmx:Tryz.prog.follows .mixedOrders=true:=by kernel_rfl
   have hzz:wR.heap.size+1<=wc.heap.size:=HWD.out.box.lt
   refine(wpIn_wide (n:=9)).1 ?_
   refine Q9 (c:=10) (S:=λq=>q.cell? ⟨wR.heap.size,2,none⟩=some (.slice av (j+1) cv)/\q.cell? ⟨w.heap.size+1,0,none⟩=some (.slice (some ⟨nb,no,none⟩) l0 c0')/\q.cell? ⟨nb,no+p,none⟩=some (.int .i64 z0')) hmx (by kernel_rfl) (λhw hcl=>?_)
   refine tq (i:=0) (v:=.pointer (some ⟨wR.heap.size,2,none⟩)) (λhcl=>?_)
   refine tq (i:=1) (v:=.slice av (j+1) cv) (λhcl=>?_)
   refine tq (i:=2) (v:=.pointer (some ⟨w.heap.size+1,0,none⟩)) (λhcl=>?_)
   refine tq (i:=3) (v:=.slice (some ⟨nb,no,none⟩) l0 c0') (λhcl=>?_)
   refine tq (i:=4) (v:=.int .i64 (p:Int)) (λhcl=>?_)
   refine tq (i:=5) (v:=.pointer (some ⟨nb,no+p,none⟩)) (λhcl=>?_)
   refine tq (i:=6) (v:=.int .i64 z0') (λhcl=>?_)
   refine Qk (i:=7) (by kernel_rfl) (wpOpIn_step rfl (λK hK=>?_))
   go_simp
   refine hK _ _ ⟨Or.inr (HSN.out _ (Qd _ _)),?_⟩
   clear hK K
   refine Qk (i:=8) (by kernel_rfl) (wpOpIn_step rfl (λK hK=>?_))
   refine Xz rfl (.tmp 138) (.tmp 144) rfl (wR.heap.size+1) (j+1) (.slice av (j+1) cv) qj.nodes z0' wc.drew _ rfl (by simp[Act.eval]) HWD.out.nds (by simp[Act.eval]) HQN.out (by omega) hzz ?_
   intro a8 c8 w8 r1 r2 r3
   have HW100:=Q0 (HWD.out.addNd r1 r2 r3)
   have HB8:=Q0 (HWD.out.box.row HWD.out.nds (by decide) r2)
   have HS8:Hid ((λq=>q.cell? ⟨wR.heap.size,2,none⟩=some (.slice av (j+1) cv)/\q.cell? ⟨w.heap.size+1,0,none⟩=some (.slice (some ⟨nb,no,none⟩) l0 c0')/\q.cell? ⟨nb,no+p,none⟩=some (.int .i64 z0')) w8):=⟨HB8.out.blk.cell (i:=2) rfl,(hdd.out.box.row HWD.out.nds (by decide) r2).blk.cell (i:=0) rfl,by
    rw[<-HZV.out]
    exact(Qb.held (Yw hdd.out.nd (λg hg hg2=>by have h1:=(Ql HWD.out.nds g hg).1;have h2:=(Ql HD.out.nd g hg2).2;omega) r2)).at_ p HPL.out⟩
   refine hK _ _ ⟨Or.inr HS8.out,?_⟩
   clear hK K r1 r2 r3
   refine Qk (i:=9) (by kernel_rfl) (wpOpIn_step rfl (λK hK=>?_))
   go_simp
   refine hK _ _ ⟨Or.inr HS8.out,?_⟩
   clear hK K
   have g2:=HB8.out.blk.cell (i:=2) rfl
   have f2:=HB8.out.blk.frozen 2
   refine Qk (i:=10) (by kernel_rfl) (wpOpIn_step rfl (λK hK=>?_))
   go_simp
   refine hK _ _ ⟨Or.inl (by decide),?_⟩
   clear hK K
   refine Qi (by kernel_rfl) ?_ _
   clear hw hcl HSS HS8 g2 f2 HB8 HSN hdd HWD
   have HW10:Hid (WBs D b wR (w8.setCell ⟨wR.heap.size,2,none⟩ (.slice a8 ((j+1)+1) c8)) (ns (ns qj.S (cN-1)) 20) wid bo (.slice a8 ((j+1)+1) c8) (.slice aw j cw) (qj.nodes++[z0']) qj.weights):=HW100
   clear HW100
   generalize w8.setCell ⟨wR.heap.size,2,none⟩ (.slice a8 ((j+1)+1) c8)=w10 at *
   go_upto_region 39 with fail
   have HWD:Hid (WBs D b wR w10.drew (ns (ns qj.S (cN-1)) 20) wid bo (.slice a8 (j+1+1) c8) (.slice aw j cw) (qj.nodes++[z0']) qj.weights):=HW10.out.next (show Nx w10 w10.drew from(Below.refl _ _).drew)
   have HSS:Hid ((λq=>q.cell? ⟨wR.heap.size,3,none⟩=some (.slice aw j cw)) w10.drew):=HWD.out.box.blk.cell (i:=3) rfl
   have hmx:Tryz.prog.follows .mixedOrders=true:=by kernel_rfl
   refine(wpIn_wide (n:=9)).1 ?_
   refine Q9 (c:=7) (S:=λq=>q.cell? ⟨wR.heap.size,3,none⟩=some (.slice aw j cw)) hmx (by kernel_rfl) (λhw hcl=>?_)
   refine tq (i:=0) (v:=.pointer (some ⟨wR.heap.size,3,none⟩)) (λhcl=>?_)
   refine tq (i:=1) (v:=.slice aw j cw) (λhcl=>?_)
   refine tq (i:=2) (v:=.pointer (some ⟨b,0,none⟩)) (λhcl=>?_)
   refine Q5 (i:=3) (by kernel_rfl) hcl (λhcl=>wpOpIn_step rfl (λK hK=>?_))
   go_simp
   refine⟨trivial,(callsIn_wide.2 (Yq D b (ns (ns qj.S (cN-1)) 20) _ HWD.out.src HQK2.out)).mono ?_⟩
   rintro e7 w7 ⟨rfl,hs1,hc1⟩
   have HWC:=Q0 (HWD.out.drawn hs1 hc1)
   have HSC:Hid (∀q,Nx w7 q->(λq=>q.cell? ⟨wR.heap.size,3,none⟩=some (.slice aw j cw)) q):=λq hq=>Qf hq (HWC.out.box.blk.cell (i:=3) rfl)
   have hzz:wR.heap.size+1<=w7.heap.size:=HWC.out.box.lt
   refine hK _ _ ⟨Or.inr (HSC.out _ (Nx.refl _)),?_⟩
   clear hK K hs1 hc1 HSS HWD
   generalize hdw:dwV (ns (ns qj.S (cN-1)) 20)=dw at *
   have HDW:Hid (dwV (ns (ns qj.S (cN-1)) 20)=dw):=hdw
   clear hdw
   refine Qk (i:=4) (by kernel_rfl) (wpOpIn_step rfl (λK hK=>?_))
   go_simp
   refine hK _ _ ⟨Or.inr (HSC.out _ (Qd _ _)),?_⟩
   clear hK K
   refine Qk (i:=5) (by kernel_rfl) (wpOpIn_step rfl (λK hK=>?_))
   refine Xz rfl (.tmp 148) (.tmp 151) rfl (wR.heap.size+1) j (.slice aw j cw) qj.weights dw w7 _ rfl (by simp[Act.eval]) HWC.out.wts (by simp[Act.eval]) HQW.out (by omega) hzz ?_
   intro a9 c9 w9' r1 r2 r3
   have HW110:=Q0 (HWC.out.addWt r1 r2 r3)
   have HB8:=Q0 (HWC.out.box.row HWC.out.wts (by decide) r2)
   have g2:=HB8.out.blk.cell (i:=3) rfl
   have f2:=HB8.out.blk.frozen 3
   refine hK _ _ ⟨Or.inr g2,?_⟩
   clear hK K r1 r2 r3
   refine Qk (i:=6) (by kernel_rfl) (wpOpIn_step rfl (λK hK=>?_))
   go_simp
   refine hK _ _ ⟨Or.inr g2,?_⟩
   clear hK K
   refine Qk (i:=7) (by kernel_rfl) (wpOpIn_step rfl (λK hK=>?_))
   go_simp
   refine hK _ _ ⟨Or.inl (by decide),?_⟩
   clear hK K
   refine Qi (by kernel_rfl) ?_ _
   clear hw hcl g2 f2 HB8 HSC HWC
   have HW11:Hid (WBs D b wR (w9'.setCell ⟨wR.heap.size,3,none⟩ (.slice a9 (j+1) c9)) (dwS (ns (ns qj.S (cN-1)) 20)) wid bo (.slice a8 (j+1+1) c8) (.slice a9 (j+1) c9) (qj.nodes++[z0']) (qj.weights++[dw])):=HW110
   clear HW110
   generalize w9'.setCell ⟨wR.heap.size,3,none⟩ (.slice a9 (j+1) c9)=w11 at *
   have HQF:Hid (Vo cN (Qc S) q0 (j+1)=⟨dwS (ns (ns qj.S (cN-1)) 20),(p:Int),qj.nodes++[z0'],qj.weights++[dw]⟩):=by unfold Hid;rw[HQS.out];unfold Q3c;rw[HPV.out,Int.toNat_natCast,HZV.out,HDW.out]
   have HW12:Hid (WBs D b wR w11 (Vo cN (Qc S) q0 (j+1)).S wid bo (.slice a8 (j+1+1) c8) (.slice a9 (j+1) c9) (Vo cN (Qc S) q0 (j+1)).nodes (Vo cN (Qc S) q0 (j+1)).weights):=by unfold Hid;rw[HQF.out];exact HW11.out
   have HPF:Hid ((p:Int)=(Vo cN (Qc S) q0 (j+1)).pos):=by unfold Hid;rw[HQF.out]
   clear HW11 HW10 HWJ2
   go_wp2
   go_roundw
   case rel=>exact⟨j+1,_,_,_,_,by omega,by go_num,by rw[HPF.out],HW12⟩
   case measure=>simp[intOf];omega
  have hjn:j=ng:=by omega
  subst hjn
  have HDW:=Q0 (HD.out.drawn HWJ.out.src HWJ.out.chg)
  have HWSG:Hid (Xw cN nW (Qc S) y0 (k+1)=⟨(Vo cN (Qc S) q0 j).S,idk+(1+d2),yk.ways++[⟨wid,bo,(Vo cN (Qc S) q0 j).nodes,(Vo cN (Qc S) q0 j).weights⟩]⟩):=by unfold Hid;rw[HSG.out,HQ0.out]
  generalize Vo cN (Qc S) q0 j=qj at *
  have m1:=HDW.out.box.blk.cell (i:=1) rfl
  have i0:=HWJ.out.box.blk.cell (i:=0) rfl
  have i1:=HWJ.out.box.blk.cell (i:=1) rfl
  have i2:=HWJ.out.box.blk.cell (i:=2) rfl
  have i3:=HWJ.out.box.blk.cell (i:=3) rfl
  have HKL:Hid (yk.ways.length=k):=HWk.out.len
  have HROW:Hid (wr.ownsRow w.heap.size 45 4 (.slice a1 k c1) k (V4 yk.ways vn vw)):=by
   have h:=HDW.out.wys
   unfold Yk at h
   rw[HKL.out] at h
   exact h
  have hzr:w.heap.size<=wr.heap.size:=Nat.le_trans hz HWJ.out.chg.size
  go_wp2_with (at_builtin;refine Xu Yc Tryz.underlying24 rfl (by decide) (by decide) rfl _ _ rfl w.heap.size k (.slice a1 k c1) (V4 yk.ways vn vw) [.int .i64 wid,.bool bo,.slice av (j+1) cv,.slice aw j cw] wr rfl HROW.out rfl rfl (by intro u hu;simp at hu;rcases hu with rfl|rfl|rfl|rfl<;>rfl) (by omega) hzr ?_)
  intro a2 c2 w2' r1 r2 r3
  have HB2:=Q0 (HDW.out.box.row HROW.out (by decide) r2)
  have HD2:Hid (∃vn vw,DBs w.heap.size D b (w2'.setCell ⟨w.heap.size+1,1,none⟩ (.slice a2 (k+1) c2)) (Xw cN nW (Qc S) y0 (k+1)).S (.slice (some ⟨nb,no,none⟩) l0 c0') (.slice a2 (k+1) c2) (.slice none 0 0) (Qc S) (Xw cN nW (Qc S) y0 (k+1)).ways vn vw []):=by
   unfold Hid
   rw[HWSG.out]
   refine⟨_,_,HDW.out.addWay (z:=wR.heap.size+1) ?_ (va:=.slice av (j+1) cv) (vb:=.slice aw j cw) (x:=⟨wid,bo,qj.nodes,qj.weights⟩) ?_ r2 HWJ.out.nds HWJ.out.wts (by omega) HWJ.out.ap⟩
   ·intro u hu g hg
    rcases List.mem_cons.1 hu with rfl|hu
    ·have:=(Ql HD.out.nd g hg).2;omega
    ·obtain⟨i,hi,rfl|rfl⟩:=K6 hu
     ·have:=(Ql (HD.out.wn i hi) g hg).2;omega
     ·have:=(Ql (HD.out.ww i hi) g hg).2;omega
   ·rw[HKL.out]
    exact r1
  have HC2':Hid (Chg (Sx1 b) w (w2'.setCell ⟨w.heap.size+1,1,none⟩ (.slice a2 (k+1) c2))):=((HC.out.trans HWJ.out.chg).young r2 (λx hx hl=>by have:=(Ql HROW.out x hx.symm).1;omega)).young (Chg.set (S:=λx=>x=w.heap.size+1) _ _ _ rfl) (λx hx hl=>by have hx':x=w.heap.size+1:=hx;omega)
  have HIF:Hid (idk+(1+d2)=(Xw cN nW (Qc S) y0 (k+1)).id):=by unfold Hid;rw[HWSG.out]
  clear m1 i0 i1 i2 i3 r1 r2 r3
  have m1:=HB2.out.blk.cell (i:=1) rfl
  have f1:=HB2.out.blk.frozen 1
  go_wp2
  go_roundw
  case rel=>exact⟨k+1,c2,a2,by omega,by go_num,by rw[HIF.out],HD2,HC2'⟩
  case measure=>simp[intOf];omega
 have hkn:k=nW:=by omega
 subst hkn
 clear hlt hk
 rw[<-HWY.out] at HDE
 have hwo:=HWO.out k
 rw[<-HWY.out] at hwo
 have HTN:Hid (Za S=if (Z6 S).ways.length=0 then ⟨(Z6 S).S,[]⟩ else Yl (Z6 S).ways ⟨ns (Z6 S).S (3+S.size),[]⟩ (nv (Z6 S).S (3+S.size)).toNat):=rfl
 have HWk:Hid (Q4d k S.size (Z6 S)):=hwo
 obtain⟨vn,vw,hd⟩:=HDE.out
 have HNETW:Hid ((Q8 S).uturn=dwV (Za S).S/\dbS S=dwS (Za S).S):=⟨rfl,rfl⟩
 clear hwo HDE HWO HWY HNW
 generalize hyd:Z6 S=yD at *
 have HYD:Hid (Z6 S=yD):=hyd
 clear hyd
 have HKL:Hid (yD.ways.length=k):=HWk.out.len
 have HD:Hid (DBs w.heap.size D b wr yD.S (.slice (some ⟨nb,no,none⟩) l0 c0') (.slice a1 k c1) (.slice none 0 0) (Qc S) yD.ways vn vw []):=hd
 have m1:=HD.out.box.blk.cell (i:=1) rfl
 clear hd
 go_upto_if 163 with fail
 clear m1
 generalize hbd:decide (0<k)=bd
 have HBD:Hid (decide (0<k)=bd):=hbd
 clear hbd
 go_cut [14,15,16,17] from 164 to 204 (λs14 s15 s16 s17 wc=>Hid (∃a3 n3 c3,DBs w.heap.size D b wc (Za S).S (.slice (some ⟨nb,no,none⟩) l0 c0') (.slice a1 k c1) (.slice a3 n3 c3) (Qc S) yD.ways vn vw (Za S).ts)/\Hid (Chg (Sx1 b) w wc)/\Hid (SOk (Za S).S))
 case first=>
  cases bd with
  |false=>
   have hk0:k=0:=by have:=HBD.out;simp at this;omega
   have HT0:Hid (Za S=⟨yD.S,[]⟩):=by unfold Hid;rw[HTN.out,if_pos (by rw[HKL.out];exact hk0)]
   have HF1:Hid (∃a3 n3 c3,DBs w.heap.size D b wr (Za S).S (.slice (some ⟨nb,no,none⟩) l0 c0') (.slice a1 k c1) (.slice a3 n3 c3) (Qc S) yD.ways vn vw (Za S).ts):=by unfold Hid;rw[HT0.out];exact⟨_,_,_,HD.out⟩
   have HF2:Hid (SOk (Za S).S):=by unfold Hid;rw[HT0.out];exact HWk.out.ok
   clear HTN HBD hk0
   go_wp2
   go_meet
   exact⟨HF1,HC,HF2⟩
  |true=>
   have hk0:0<k:=by have:=HBD.out;simp at this;omega
   obtain⟨wb,c1',e1,_⟩:=HD.out.wys.at (i:=0) (by rw[HKL.out];exact hk0)
   simp only[Value.slice.injEq] at e1
   obtain⟨rfl,ek,ec⟩:=e1
   clear HBD ek ec
   have HTN1:Hid (Za S=Yl yD.ways ⟨ns yD.S (3+S.size),[]⟩ (nv yD.S (3+S.size)).toNat):=by unfold Hid;rw[HTN.out,if_neg (by rw[HKL.out];omega)]
   have hs3:wr.cell? ⟨b,3,none⟩=some (.int .i64 S.size):=by rw[<-HWk.out.size];exact HD.out.src.size
   have HYK:Hid (SOk yD.S):=HWk.out.ok
   clear HTN
   go_wp2_with fail
   refine(Qe D b yD.S (3+S.size) _ HD.out.src HYK.out (by omega)).mono ?_
   rintro e w3 ⟨rfl,hs1,hc1⟩
   have HD3:=Q0 (HD.out.drawn hs1 hc1)
   have HC3:Hid (Chg (Sx1 b) w w3):=HC.out.trans hc1
   have hvt:=Qt HYK.out (3+S.size)
   obtain⟨nt,hnt⟩:∃nt:Nat,nv yD.S (3+S.size)=nt:=⟨(nv yD.S (3+S.size)).toNat,by omega⟩
   have hntb:nt<=12:=by omega
   have HTN2:Hid (Za S=Yl yD.ways ⟨ns yD.S (3+S.size),[]⟩ nt):=by unfold Hid;rw[HTN1.out,hnt,Int.toNat_natCast]
   rw[hnt]
   have HTO:Hid (∀i,SOk (Yl yD.ways ⟨ns yD.S (3+S.size),[]⟩ i).S/\(Yl yD.ways ⟨ns yD.S (3+S.size),[]⟩ i).ts.length<=i):=λi=>G6 (x:=⟨ns yD.S (3+S.size),[]⟩) (Qj HYK.out _) rfl i
   have HD4':Hid (DBs w.heap.size D b w3 (Yl yD.ways ⟨ns yD.S (3+S.size),[]⟩ 0).S (.slice (some ⟨nb,no,none⟩) l0 c0') (.slice (some ⟨wb,0,none⟩) k c1) (.slice none 0 0) (Qc S) yD.ways vn vw (Yl yD.ways ⟨ns yD.S (3+S.size),[]⟩ 0).ts):=HD3.out
   generalize (⟨ns yD.S (3+S.size),[]⟩:Q4e)=t0 at *
   clear hs1 hc1 HD3 hnt hvt HTN1 hs3
   go_wp2
   go_loopw [15,16,17] (λs15 s16 s17 wx=>∃(i n3 c3:Nat) (a3:Option Addr),i<=nt/\s15=.int .i64 i/\Hid (DBs w.heap.size D b wx (Yl yD.ways t0 i).S (.slice (some ⟨nb,no,none⟩) l0 c0') (.slice (some ⟨wb,0,none⟩) k c1) (.slice a3 n3 c3) (Qc S) yD.ways vn vw (Yl yD.ways t0 i).ts)/\Hid (Chg (Sx1 b) w wx)) (λi _ _ _=>nt-(intOf i).toNat)
   case atStart=>exact⟨0,_,_,_,Nat.zero_le _,rfl,HD4',HC3⟩
   clear HD4' HC3
   obtain⟨i,n3,c3,a3,hi,rfl,HDT,HCT⟩:=hrel
   by_cases hilt:i<nt
   ·have hilt':(i:Int)<nt:=by omega
    obtain⟨to1,to2⟩:=HTO.out i
    have HTS:Hid (Yl yD.ways t0 (i+1)=Q3a yD.ways (Yl yD.ways t0 i)):=rfl
    have HTK:Hid (SOk (Yl yD.ways t0 i).S):=to1
    generalize Yl yD.ways t0 i=ti at *
    clear to1
    go_upto_region 46 with fail
    have HWD1:Hid (DBs w.heap.size D b wr.drew ti.S (.slice (some ⟨nb,no,none⟩) l0 c0') (.slice (some ⟨wb,0,none⟩) k c1) (.slice a3 n3 c3) (Qc S) yD.ways vn vw ti.ts):=HDT.out.next (show Nx wr wr.drew from(Below.refl _ _).drew)
    have hvp:=Qt HTK.out (k:Int)
    obtain⟨i1,hi1⟩:∃i:Nat,nv ti.S (k:Int)=i:=⟨(nv ti.S (k:Int)).toNat,by omega⟩
    have HI1:Hid (nv ti.S (k:Int)=i1):=hi1
    have hil:i1<k:=by omega
    have hil':(i1:Int)<k:=by omega
    have HSN:Hid (∀q S' v3 ts,DBs w.heap.size D b q S' (.slice (some ⟨nb,no,none⟩) l0 c0') (.slice (some ⟨wb,0,none⟩) k c1) v3 (Qc S) yD.ways vn vw ts->q.cell? ⟨w.heap.size+1,1,none⟩=some (.slice (some ⟨wb,0,none⟩) k c1)/\q.cell? ⟨wb,i1*4,none⟩=some (.int .i64 (wat yD.ways i1).id)):=λq S' v3 ts h=>⟨h.box.blk.cell (i:=1) rfl,by
     obtain⟨b',c',e,_,_,k0,_⟩:=h.wys.at (i:=i1) (by rw[HKL.out];exact hil)
     simp only[Value.slice.injEq,Option.some.injEq,Addr.mk.injEq] at e
     obtain⟨⟨rfl,_⟩,_⟩:=e
     exact k0⟩
    generalize hid1:(wat yD.ways i1).id=id1 at *
    have HID1:Hid ((wat yD.ways i1).id=id1):=hid1
    have HSS:Hid ((λq=>q.cell? ⟨w.heap.size+1,1,none⟩=some (.slice (some ⟨wb,0,none⟩) k c1)/\q.cell? ⟨wb,i1*4,none⟩=some (.int .i64 id1)) wr.drew):=HSN.out _ _ _ _ HWD1.out
    have hmx:Tryz.prog.follows .mixedOrders=true:=by kernel_rfl
    clear hi1 hid1
    refine(wpIn_wide (n:=9)).1 ?_
    refine Q9 (c:=11) (S:=λq=>q.cell? ⟨w.heap.size+1,1,none⟩=some (.slice (some ⟨wb,0,none⟩) k c1)/\q.cell? ⟨wb,i1*4,none⟩=some (.int .i64 id1)) hmx (by kernel_rfl) (λhw hcl=>?_)
    refine tq (i:=0) (v:=.pointer (some ⟨w.heap.size+1,1,none⟩)) (λhcl=>?_)
    refine tq (i:=1) (v:=.slice (some ⟨wb,0,none⟩) k c1) (λhcl=>?_)
    refine tq (i:=2) (v:=.pointer (some ⟨b,0,none⟩)) (λhcl=>?_)
    refine tq (i:=3) (v:=.pointer (some ⟨w.heap.size+1,1,none⟩)) (λhcl=>?_)
    refine tq (i:=4) (v:=.slice (some ⟨wb,0,none⟩) k c1) (λhcl=>?_)
    refine tq (i:=5) (v:=.int .i64 (k:Int)) (λhcl=>?_)
    refine Q5 (i:=6) (by kernel_rfl) hcl (λhcl=>wpOpIn_step rfl (λK hK=>?_))
    go_simp
    refine⟨trivial,(callsIn_wide.2 (Qe D b ti.S (k:Int) _ HWD1.out.src HTK.out (by omega))).mono ?_⟩
    rintro e7 w4 ⟨rfl,hs1,hc1⟩
    rw[HI1.out]
    have HDT1:Hid (DBs w.heap.size D b w4 (ns ti.S k) (.slice (some ⟨nb,no,none⟩) l0 c0') (.slice (some ⟨wb,0,none⟩) k c1) (.slice a3 n3 c3) (Qc S) yD.ways vn vw ti.ts):=HWD1.out.drawn hs1 hc1
    have HCH1:Hid (Chg (Sx1 b) wr w4):=(Chg.nx (show Nx wr wr.drew from(Below.refl _ _).drew)).trans hc1
    have HSC:Hid ((λq=>q.cell? ⟨w.heap.size+1,1,none⟩=some (.slice (some ⟨wb,0,none⟩) k c1)/\q.cell? ⟨wb,i1*4,none⟩=some (.int .i64 id1)) w4):=HSN.out _ _ _ _ HDT1.out
    refine hK _ _ ⟨Or.inr HSC.out,?_⟩
    clear hK K hs1 hc1 HSS HWD1
    refine Qo (i:=7) (v:=.pointer (some ⟨wb,i1*4,none⟩)) hw (by decide) hcl (Qh rfl) rfl (by kernel_rfl) (by kernel_rfl) (by kernel_rfl) (λ_ _ _ h=>h) ⟨Or.inl ⟨by kernel_rfl,?y7⟩,λ_=>rfl⟩ HSC.out (λhcl=>?_)
    case y7=>
     rintro q ⟨c1,c2⟩
     go_simp
    refine Qo (i:=8) (v:=.pointer (some ⟨wb,i1*4,none⟩)) hw (by decide) hcl (Qh rfl) rfl (by kernel_rfl) (by kernel_rfl) (by kernel_rfl) (λ_ _ _ h=>h) ⟨Or.inl ⟨by kernel_rfl,?y8⟩,λ_=>rfl⟩ HSC.out (λhcl=>?_)
    case y8=>
     rintro q ⟨c1,c2⟩
     go_simp
    refine Qo (i:=9) (v:=.int .i64 id1) hw (by decide) hcl (Qh rfl) rfl (by kernel_rfl) (by kernel_rfl) (by kernel_rfl) (λ_ _ _ h=>h) ⟨Or.inl ⟨by kernel_rfl,?y9⟩,λ_=>rfl⟩ HSC.out (λhcl=>?_)
    case y9=>
     rintro q ⟨c1,c2⟩
     go_simp
    refine Qo (i:=10) (v:=.int .i64 id1) hw (by decide) hcl (Qh rfl) rfl (by kernel_rfl) (by kernel_rfl) (by kernel_rfl) (λ_ _ _ h=>h) ⟨Or.inl ⟨by kernel_rfl,?y10⟩,λ_=>rfl⟩ HSC.out (λhcl=>?_)
    case y10=>
     rintro q ⟨c1,c2⟩
     go_simp
    refine Qi (by kernel_rfl) ?_ _
    clear hw hcl HSC HSN
    have HTK1:Hid (SOk (ns ti.S k)):=Qj HTK.out _
    go_upto_region 47 with fail
    have HWD2:Hid (DBs w.heap.size D b w4.drew (ns ti.S k) (.slice (some ⟨nb,no,none⟩) l0 c0') (.slice (some ⟨wb,0,none⟩) k c1) (.slice a3 n3 c3) (Qc S) yD.ways vn vw ti.ts):=HDT1.out.next (show Nx w4 w4.drew from(Below.refl _ _).drew)
    have hvp:=Qt HTK1.out (k:Int)
    obtain⟨i2,hi2⟩:∃i:Nat,nv (ns ti.S k) (k:Int)=i:=⟨(nv (ns ti.S k) (k:Int)).toNat,by omega⟩
    have HI2:Hid (nv (ns ti.S k) (k:Int)=i2):=hi2
    have hil:i2<k:=by omega
    have hil':(i2:Int)<k:=by omega
    have HSN:Hid (∀q S' v3 ts,DBs w.heap.size D b q S' (.slice (some ⟨nb,no,none⟩) l0 c0') (.slice (some ⟨wb,0,none⟩) k c1) v3 (Qc S) yD.ways vn vw ts->q.cell? ⟨w.heap.size+1,1,none⟩=some (.slice (some ⟨wb,0,none⟩) k c1)/\q.cell? ⟨wb,i2*4,none⟩=some (.int .i64 (wat yD.ways i2).id)):=λq S' v3 ts h=>⟨h.box.blk.cell (i:=1) rfl,by
     obtain⟨b',c',e,_,_,k0,_⟩:=h.wys.at (i:=i2) (by rw[HKL.out];exact hil)
     simp only[Value.slice.injEq,Option.some.injEq,Addr.mk.injEq] at e
     obtain⟨⟨rfl,_⟩,_⟩:=e
     exact k0⟩
    generalize hid2:(wat yD.ways i2).id=id2 at *
    have HID2:Hid ((wat yD.ways i2).id=id2):=hid2
    have HSS:Hid ((λq=>q.cell? ⟨w.heap.size+1,1,none⟩=some (.slice (some ⟨wb,0,none⟩) k c1)/\q.cell? ⟨wb,i2*4,none⟩=some (.int .i64 id2)) w4.drew):=HSN.out _ _ _ _ HWD2.out
    have hmx:Tryz.prog.follows .mixedOrders=true:=by kernel_rfl
    clear hi2 hid2
    refine(wpIn_wide (n:=9)).1 ?_
    refine Q9 (c:=11) (S:=λq=>q.cell? ⟨w.heap.size+1,1,none⟩=some (.slice (some ⟨wb,0,none⟩) k c1)/\q.cell? ⟨wb,i2*4,none⟩=some (.int .i64 id2)) hmx (by kernel_rfl) (λhw hcl=>?_)
    refine tq (i:=0) (v:=.pointer (some ⟨w.heap.size+1,1,none⟩)) (λhcl=>?_)
    refine tq (i:=1) (v:=.slice (some ⟨wb,0,none⟩) k c1) (λhcl=>?_)
    refine tq (i:=2) (v:=.pointer (some ⟨b,0,none⟩)) (λhcl=>?_)
    refine tq (i:=3) (v:=.pointer (some ⟨w.heap.size+1,1,none⟩)) (λhcl=>?_)
    refine tq (i:=4) (v:=.slice (some ⟨wb,0,none⟩) k c1) (λhcl=>?_)
    refine tq (i:=5) (v:=.int .i64 (k:Int)) (λhcl=>?_)
    refine Q5 (i:=6) (by kernel_rfl) hcl (λhcl=>wpOpIn_step rfl (λK hK=>?_))
    go_simp
    refine⟨trivial,(callsIn_wide.2 (Qe D b (ns ti.S k) (k:Int) _ HWD2.out.src HTK1.out (by omega))).mono ?_⟩
    rintro e7 w5 ⟨rfl,hs1,hc1⟩
    rw[HI2.out]
    have HDT2:Hid (DBs w.heap.size D b w5 (ns (ns ti.S k) k) (.slice (some ⟨nb,no,none⟩) l0 c0') (.slice (some ⟨wb,0,none⟩) k c1) (.slice a3 n3 c3) (Qc S) yD.ways vn vw ti.ts):=HWD2.out.drawn hs1 hc1
    have HCH2:Hid (Chg (Sx1 b) w4 w5):=(Chg.nx (show Nx w4 w4.drew from(Below.refl _ _).drew)).trans hc1
    have HSC:Hid ((λq=>q.cell? ⟨w.heap.size+1,1,none⟩=some (.slice (some ⟨wb,0,none⟩) k c1)/\q.cell? ⟨wb,i2*4,none⟩=some (.int .i64 id2)) w5):=HSN.out _ _ _ _ HDT2.out
    refine hK _ _ ⟨Or.inr HSC.out,?_⟩
    clear hK K hs1 hc1 HSS HWD2
    refine Qo (i:=7) (v:=.pointer (some ⟨wb,i2*4,none⟩)) hw (by decide) hcl (Qh rfl) rfl (by kernel_rfl) (by kernel_rfl) (by kernel_rfl) (λ_ _ _ h=>h) ⟨Or.inl ⟨by kernel_rfl,?y7⟩,λ_=>rfl⟩ HSC.out (λhcl=>?_)
    case y7=>
     rintro q ⟨c1,c2⟩
     go_simp
    refine Qo (i:=8) (v:=.pointer (some ⟨wb,i2*4,none⟩)) hw (by decide) hcl (Qh rfl) rfl (by kernel_rfl) (by kernel_rfl) (by kernel_rfl) (λ_ _ _ h=>h) ⟨Or.inl ⟨by kernel_rfl,?y8⟩,λ_=>rfl⟩ HSC.out (λhcl=>?_)
    case y8=>
     rintro q ⟨c1,c2⟩
     go_simp
    refine Qo (i:=9) (v:=.int .i64 id2) hw (by decide) hcl (Qh rfl) rfl (by kernel_rfl) (by kernel_rfl) (by kernel_rfl) (λ_ _ _ h=>h) ⟨Or.inl ⟨by kernel_rfl,?y9⟩,λ_=>rfl⟩ HSC.out (λhcl=>?_)
    case y9=>
     rintro q ⟨c1,c2⟩
     go_simp
    refine Qo (i:=10) (v:=.int .i64 id2) hw (by decide) hcl (Qh rfl) rfl (by kernel_rfl) (by kernel_rfl) (by kernel_rfl) (λ_ _ _ h=>h) ⟨Or.inl ⟨by kernel_rfl,?y10⟩,λ_=>rfl⟩ HSC.out (λhcl=>?_)
    case y10=>
     rintro q ⟨c1,c2⟩
     go_simp
    refine Qi (by kernel_rfl) ?_ _
    clear hw hcl HSC HSN
    go_upto_region 48 with fail
    have HWD:Hid (DBs w.heap.size D b w5.drew (ns (ns ti.S k) k) (.slice (some ⟨nb,no,none⟩) l0 c0') (.slice (some ⟨wb,0,none⟩) k c1) (.slice a3 n3 c3) (Qc S) yD.ways vn vw ti.ts):=HDT2.out.next (show Nx w5 w5.drew from(Below.refl _ _).drew)
    have HTK2:Hid (SOk (ns (ns ti.S k) k)):=Qj HTK1.out _
    have HSS:Hid ((λq=>q.cell? ⟨w.heap.size+1,3,none⟩=some (.slice a3 n3 c3)) w5.drew):=HWD.out.box.blk.cell (i:=3) rfl
    have hmx:Tryz.prog.follows .mixedOrders=true:=by kernel_rfl
    refine(wpIn_wide (n:=9)).1 ?_
    refine Q9 (c:=9) (S:=λq=>q.cell? ⟨w.heap.size+1,3,none⟩=some (.slice a3 n3 c3)) hmx (by kernel_rfl) (λhw hcl=>?_)
    refine tq (i:=0) (v:=.pointer (some ⟨w.heap.size+1,3,none⟩)) (λhcl=>?_)
    refine tq (i:=1) (v:=.slice a3 n3 c3) (λhcl=>?_)
    refine tq (i:=2) (v:=.int .i64 id1) (λhcl=>?_)
    refine tq (i:=3) (v:=.int .i64 id2) (λhcl=>?_)
    refine tq (i:=4) (v:=.pointer (some ⟨b,0,none⟩)) (λhcl=>?_)
    refine Q5 (i:=5) (by kernel_rfl) hcl (λhcl=>wpOpIn_step rfl (λK hK=>?_))
    go_simp
    refine⟨trivial,(callsIn_wide.2 (Yq D b (ns (ns ti.S k) k) _ HWD.out.src HTK2.out)).mono ?_⟩
    rintro e7 w6 ⟨rfl,hs1,hc1⟩
    have HDT3:Hid (DBs w.heap.size D b w6 (dwS (ns (ns ti.S k) k)) (.slice (some ⟨nb,no,none⟩) l0 c0') (.slice (some ⟨wb,0,none⟩) k c1) (.slice a3 n3 c3) (Qc S) yD.ways vn vw ti.ts):=HWD.out.drawn hs1 hc1
    have HCH3:Hid (Chg (Sx1 b) w5 w6):=(Chg.nx (show Nx w5 w5.drew from(Below.refl _ _).drew)).trans hc1
    have HSC:Hid ((λq=>q.cell? ⟨w.heap.size+1,3,none⟩=some (.slice a3 n3 c3)) w6):=HDT3.out.box.blk.cell (i:=3) rfl
    refine hK _ _ ⟨Or.inr HSC.out,?_⟩
    clear hK K hs1 hc1 HSS HWD
    generalize hdw:dwV (ns (ns ti.S k) k)=dw at *
    have HDWV:Hid (dwV (ns (ns ti.S k) k)=dw):=hdw
    clear hdw
    refine Qo (i:=6) (v:=.agg #[.int .i64 id1,.int .i64 id2,.int .i64 dw]) hw (by decide) hcl (Qh rfl) rfl (by kernel_rfl) (by kernel_rfl) (by kernel_rfl) (λ_ _ _ h=>h) ⟨Or.inl ⟨by kernel_rfl,?y6⟩,λ_=>rfl⟩ HSC.out (λhcl=>?_)
    case y6=>
     rintro q c1
     go_simp
    have HCW6:Hid (Chg (Sx1 b) w w6):=((HCT.out.trans HCH1.out).trans HCH2.out).trans HCH3.out
    have hz6:w.heap.size<=w6.heap.size:=HCW6.out.size
    refine Q5 (i:=7) (by kernel_rfl) hcl (λhcl=>wpOpIn_step rfl (λK hK=>?_))
    go_simp
    refine⟨trivial,(callsIn_wide.2 (El w.heap.size (.slice a3 n3 c3) ti.ts ⟨id1,id2,dw⟩ _ HDT3.out.tn hz6 (by omega))).mono ?_⟩
    rintro e8 w7 ⟨⟨v7,rfl,ho⟩,hx⟩
    obtain⟨a4,c4,rfl⟩:=Q3 ho
    have HDT4:=Q0 (HDT3.out.next hx)
    have HOT:Hid (Uq w.heap.size w7 (.slice a4 (Pn ti.ts ⟨id1,id2,dw⟩).length c4) (Pn ti.ts ⟨id1,id2,dw⟩)):=ho
    have HCW7:Hid (Chg (Sx1 b) w w7):=HCW6.out.trans (Chg.nx hx)
    have g3:=HDT4.out.box.blk.cell (i:=3) rfl
    have f3:=HDT4.out.box.blk.frozen 3
    refine hK _ _ ⟨Or.inr g3,?_⟩
    clear hK K hx ho HSC
    generalize hn4:(Pn ti.ts ⟨id1,id2,dw⟩).length=n4 at *
    clear hn4
    refine Qk (i:=8) (by kernel_rfl) (wpOpIn_step rfl (λK hK=>?_))
    go_simp
    refine hK _ _ ⟨Or.inr g3,?_⟩
    clear hK K
    refine Qk (i:=9) (by kernel_rfl) (wpOpIn_step rfl (λK hK=>?_))
    go_simp
    refine hK _ _ ⟨Or.inl (by decide),?_⟩
    clear hK K
    refine Qi (by kernel_rfl) ?_ _
    clear hw hcl g3 f3
    have HTF:Hid (Yl yD.ways t0 (i+1)=⟨dwS (ns (ns ti.S k) k),Pn ti.ts ⟨id1,id2,dw⟩⟩):=by unfold Hid;rw[HTS.out];unfold Q3a;rw[HKL.out,HI1.out,HI2.out,Int.toNat_natCast,Int.toNat_natCast,HID1.out,HID2.out,HDWV.out]
    have HDT5:Hid (DBs w.heap.size D b (w7.setCell ⟨w.heap.size+1,3,none⟩ (.slice a4 n4 c4)) (Yl yD.ways t0 (i+1)).S (.slice (some ⟨nb,no,none⟩) l0 c0') (.slice (some ⟨wb,0,none⟩) k c1) (.slice a4 n4 c4) (Qc S) yD.ways vn vw (Yl yD.ways t0 (i+1)).ts):=by unfold Hid;rw[HTF.out];exact HDT4.out.setTurns HOT.out
    have HC5:Hid (Chg (Sx1 b) w (w7.setCell ⟨w.heap.size+1,3,none⟩ (.slice a4 n4 c4))):=HCW7.out.young (Chg.set (S:=λx=>x=w.heap.size+1) _ _ _ rfl) (λx hx hl=>by have hx':x=w.heap.size+1:=hx;omega)
    go_wp2
    go_roundw
    case rel=>exact⟨i+1,n4,c4,a4,by omega,by go_num,HDT5,HC5⟩
    case measure=>simp[intOf];omega
   have hin:i=nt:=by omega
   subst hin
   have HF1:Hid (∃a3 n3 c3,DBs w.heap.size D b wr (Za S).S (.slice (some ⟨nb,no,none⟩) l0 c0') (.slice (some ⟨wb,0,none⟩) k c1) (.slice a3 n3 c3) (Qc S) yD.ways vn vw (Za S).ts):=by unfold Hid;rw[HTN2.out];exact⟨_,_,_,HDT.out⟩
   have HF2:Hid (SOk (Za S).S):=by unfold Hid;rw[HTN2.out];exact(HTO.out i).1
   clear HTN2 HDT
   go_wp2
   go_meet
   exact⟨HF1,HCT,HF2⟩
 case rest=>
 obtain⟨HF1,HF2,HF3⟩:=hcut
 obtain⟨a3,n3,c3,hd3⟩:=HF1.out
 have HDF:Hid (DBs w.heap.size D b wc (Za S).S (.slice (some ⟨nb,no,none⟩) l0 c0') (.slice a1 k c1) (.slice a3 n3 c3) (Qc S) yD.ways vn vw (Za S).ts):=hd3
 clear hd3 HF1 HBD HTN HD HC
 go_wp2_with fail
 refine(Yq D b (Za S).S _ HDF.out.src HF3.out).mono ?_
 rintro e w9 ⟨rfl,hs1,hc1⟩
 have HD9:=Q0 (HDF.out.drawn hs1 hc1)
 have HC9:Hid (Chg (Sx1 b) w w9):=HF2.out.trans hc1
 rw[<-HNETW.out.1]
 rw[<-HNETW.out.2] at HD9
 have HO9:Hid (Q4i w.heap.size D b w w9 (dbS S) (.slice (some ⟨nb,no,none⟩) l0 c0') (.slice a1 k c1) (.slice a3 n3 c3) (Q8 S) vn vw (λ_=>.slice none 0 0)):=by
  unfold Hid
  have h:=HD9.out.outS HC9.out (Q8 S).uturn (λ_=>.slice none 0 0)
  rw[<-HYD.out] at h
  exact h
 generalize hut:(Q8 S).uturn=ut at *
 have HUT:Hid ((Q8 S).uturn=ut):=hut
 clear hut hs1 hc1
 have g4:=HD9.out.box.blk.cell (i:=4) rfl
 have f4:=HD9.out.box.blk.frozen 4
 go_upto_region 50 with fail
 generalize hWF:w9.setCell ⟨w.heap.size+1,4,none⟩ (.int .i64 ut)=wF
 have HBF:Hid (BT wF (w.heap.size+1) #[.slice (some ⟨nb,no,none⟩) l0 c0',.slice a1 k c1,.slice none 0 0,.slice a3 n3 c3,.int .i64 ut] 28):=by unfold Hid;rw[<-hWF];exact HD9.out.box.set 4 _
 have HRF:Hid (BT wF w.heap.size Pa 28):=by unfold Hid;rw[<-hWF];exact HD9.out.res.setOther (by omega) _ _
 have HOF:Hid (Q4i w.heap.size D b w wF (dbS S) (.slice (some ⟨nb,no,none⟩) l0 c0') (.slice a1 k c1) (.slice a3 n3 c3) (Q8 S) vn vw (λ_=>.slice none 0 0)):=by unfold Hid;rw[<-hWF];exact HO9.out.set (Nat.le_refl _) (Or.inr rfl) _ _
 clear hWF g4 f4 HD9 HO9
 have y0':=HBF.out.blk.cell (i:=0) rfl
 have y1':=HBF.out.blk.cell (i:=1) rfl
 have y2':=HBF.out.blk.cell (i:=2) rfl
 have y3':=HBF.out.blk.cell (i:=3) rfl
 have y4':=HBF.out.blk.cell (i:=4) rfl
 have x0':=HRF.out.blk.cell (i:=0) rfl
 have x1':=HRF.out.blk.cell (i:=1) rfl
 have x2':=HRF.out.blk.cell (i:=2) rfl
 have x3':=HRF.out.blk.cell (i:=3) rfl
 have x4':=HRF.out.blk.cell (i:=4) rfl
 have z0':=HRF.out.blk.frozen 0
 have z1':=HRF.out.blk.frozen 1
 have z2':=HRF.out.blk.frozen 2
 have z3':=HRF.out.blk.frozen 3
 have z4':=HRF.out.blk.frozen 4
 have BR':=((((HRF.out.blk.set 0 (.slice (some ⟨nb,no,none⟩) l0 c0')).set 1 (.slice a1 k c1)).set 2 (.slice none 0 0)).set 3 (.slice a3 n3 c3)).set 4 (.int .i64 ut)
 have P0:Hid (_=some (Value.slice (some ⟨nb,no,none⟩) l0 c0')):=BR'.cell (i:=0) rfl
 have P1:Hid (_=some (Value.slice a1 k c1)):=BR'.cell (i:=1) rfl
 have P2:Hid (_=some (Value.slice none 0 0)):=BR'.cell (i:=2) rfl
 have P3:Hid (_=some (Value.slice a3 n3 c3)):=BR'.cell (i:=3) rfl
 have P4:Hid (_=some (Value.int .i64 ut)):=BR'.cell (i:=4) rfl
 clear BR'
 go_wp2
 have p0:=P0.out
 have p1:=P1.out
 have p2:=P2.out
 have p3:=P3.out
 have p4:=P4.out
 refine bodyPost_ret (v:=.agg #[.slice (some ⟨nb,no,none⟩) l0 c0',.slice a1 k c1,.slice none 0 0,.slice a3 n3 c3,.int .i64 ut]) (by simp[results,Tryz.results64,go_sem,p0,p1,p2,p3,p4]) rfl ?_
 rw[HUT.out]
 exact⟨_,_,_,_,_,_,rfl,((((HOF.out.set (Nat.le_refl _) (Or.inl rfl) _ _).set (Nat.le_refl _) (Or.inl rfl) _ _).set (Nat.le_refl _) (Or.inl rfl) _ _).set (Nat.le_refl _) (Or.inl rfl) _ _).set (Nat.le_refl _) (Or.inl rfl) _ _⟩
def HBy (B:Nat)(w:World)(v:Value)(bs:List UInt8):Prop:=Jl B w v bs.length λb off i=>w.cell? ⟨b,off+i,none⟩=some (.int .u8 (Qw bs i))
def Uh (c:List UInt8)(m:Int):Nat->Int
 |0=>m
 |k+1=>(Uh c m k*257+Qw c k+1)%1000003
def Wb (code:List UInt8):Src:=⟨code.take 4000,0,Uh (code.take 4000) ((code.length:Int)%1000+17) (code.take 4000).length,if 8<1+((code.take 4000).length:Int)/40 then 8 else 1+((code.take 4000).length:Int)/40⟩
theorem Q20 (c:List UInt8){m:Int}(h:0<=m/\m<1000003):∀k,0<=Uh c m k/\Uh c m k<1000003
 |0=>h
 |k+1=>⟨Int.emod_nonneg _ (by omega),Int.emod_lt_of_pos _ (by omega)⟩
theorem Q1b (code:List UInt8):SOk (Wb code):=by
 refine⟨?_,?_,?_⟩
 ·show(code.take 4000).length<=4000
  simp;omega
 ·exact Q20 _ (by omega) _
 ·unfold Wb
  simp only
  split<;>omega
theorem Chg.cellAt {T:Nat->Prop}{w w':World}{b o:Nat}(h:Chg T w w')(hb:b<w.heap.size)(hn:¬T b):w'.cell? ⟨b,o,none⟩=w.cell? ⟨b,o,none⟩:=by
 have:=h.block b hb hn
 unfold World.cell?
 simp only[this]
def Q1p (es:List Eg)(node:Int)(out:Bool)(e:Nat):Bool:=if out then (eat es e).tail==node else (eat es e).head==node
def J5 (es:List Eg)(node:Int)(out:Bool):Nat->List Int
 |0=>[]
 |k+1=>if Q1p es node out k then J5 es node out k++[(k:Int)] else J5 es node out k
def pkV (es:List Eg)(node:Int)(out:Bool)(S:Src):Int:=if (J5 es node out es.length).length=0 then -1 else iat (J5 es node out es.length) (nv S (J5 es node out es.length).length).toNat
def pkS (es:List Eg)(node:Int)(out:Bool)(S:Src):Src:=if (J5 es node out es.length).length=0 then S else ns S (J5 es node out es.length).length
theorem Uy (B D b:Nat)(v0 v1 v2 v3:Value)(R:Rd)(node:Int)(out:Bool)(S:Src)(w:World)(hR:Y8 B w v0 v1 v2 v3 R)(hle:R.edges.length<=4000)(hS:J8 D w b S)(hok:SOk S) :
  Calls Tryz.prog 95 #[.agg #[v0,v1,v2,v3],.int .i64 node,.bool out,.pointer (some ⟨b,0,none⟩)] w λe w'=>e=.returned (.int .i64 (pkV R.edges node out S))/\J8 D w' b (pkS R.edges node out S)/\Chg (Sx1 b) w w':=by
 have HS:Hid (J8 D w b S):=hS
 have HOK:Hid (SOk S):=hok
 obtain⟨r0,t0,rfl,_,_⟩:=hR.1
 obtain⟨r1,t1,e1,_,ke⟩:=hR.2.1
 obtain⟨r2,t2,rfl,_,_⟩:=hR.2.2.1
 obtain⟨r3,t3,rfl,_,_⟩:=hR.2.2.2
 generalize R.nodes.length=m0 at *
 generalize R.first.length=m2 at *
 generalize R.out.length=m3 at *
 generalize R.edges=es at *
 generalize hm:es.length=m at *
 have HM:Hid (es.length=m):=hm
 subst e1
 have HPV:Hid (pkV es node out S=if (J5 es node out m).length=0 then -1 else iat (J5 es node out m) (nv S (J5 es node out m).length).toNat):=by unfold Hid pkV;rw[HM.out]
 have HPS:Hid (pkS es node out S=if (J5 es node out m).length=0 then S else ns S (J5 es node out m).length):=by unfold Hid pkS;rw[HM.out]
 clear hR hS hm
 go_enter Tryz.func95,Tryz.ntmps95
 go_wp2
 generalize hWA:(w.alloc (.cells #[.slice r0 m0 t0,.slice r1 m t1,.slice r2 m2 t2,.slice r3 m3 t3] 113)).alloc (.cells #[] 2)=wA
 have HXA:Hid (Nx w wA):=by unfold Hid;rw[<-hWA];exact(Qd _ _).trans (Qd _ _)
 have HBA:Hid (BT wA w.heap.size #[.slice r0 m0 t0,.slice r1 m t1,.slice r2 m2 t2,.slice r3 m3 t3] 113):=by unfold Hid;rw[<-hWA];exact(BT.new w _ _ _ rfl).alloc _
 have HOA:Hid (Qb w.heap.size wA (.slice (some ⟨w.heap.size+1,0,none⟩) 0 0) []):=by
  unfold Hid
  rw[<-hWA]
  have h:=I7 w.heap.size (w.alloc (.cells #[.slice r0 m0 t0,.slice r1 m t1,.slice r2 m2 t2,.slice r3 m3 t3] 113)) (by rw[Q7];omega)
  rw[Q7] at h
  exact h
 clear hWA
 go_loopw [9,10] (λs9 s10 wr=>∃(k n c:Nat) (a:Option Addr),k<=m/\n<=k/\s10=.int .i64 k/\s9=.slice a n c/\Hid ((J5 es node out k).length=n)/\Hid (Qb w.heap.size wr (.slice a n c) (J5 es node out k))/\Hid (BT wr w.heap.size #[.slice r0 m0 t0,.slice r1 m t1,.slice r2 m2 t2,.slice r3 m3 t3] 113)/\Hid (Nx w wr)) (λ_ i _=>m-(intOf i).toNat)
 case atStart=>exact⟨0,0,0,_,Nat.zero_le _,Nat.le_refl _,rfl,rfl,rfl,HOA,HBA,HXA⟩
 obtain⟨k,n,c,a,hk,hnk,rfl,rfl,HL,HO,HB,HX⟩:=hrel
 have g1:=HB.out.blk.cell (i:=1) rfl
 by_cases hlt:k<m
 ·have hlt':(k:Int)<m:=by omega
  obtain⟨eb,eo,rfl,_,heb,he⟩:=ke (by omega)
  obtain⟨x0,x1,_⟩:=he k hlt
  have y0:=Q1 HX.out heb x0
  have y1:=Q1 HX.out heb x1
  have HPK:Hid (J5 es node out (k+1)=if Q1p es node out k then J5 es node out k++[(k:Int)] else J5 es node out k):=rfl
  have HPB:Hid (Q1p es node out k=if out then (eat es k).tail==node else (eat es k).head==node):=rfl
  generalize (eat es k).tail=tl at *
  generalize (eat es k).head=hd at *
  have hz:w.heap.size<=wr.heap.size:=HX.out.size
  clear he x0 x1
  go_upto_region 5 with fail
  go_cut [43] from 19 to 42 (λs wc=>s=.bool (Q1p es node out k)/\wc=wr)
  case first=>
   cases out with
   |true=>
    generalize hbd:(tl==node)=bd at *
    cases bd
    ·go_wp2
     go_meet
     exact⟨by rw[HPB.out];rfl,rfl⟩
    ·go_wp2
     go_meet
     exact⟨by rw[HPB.out];rfl,rfl⟩
   |false=>
    generalize hbd:(hd==node)=bd at *
    cases bd
    ·go_wp2
     go_meet
     exact⟨by rw[HPB.out];rfl,rfl⟩
    ·go_wp2
     go_meet
     exact⟨by rw[HPB.out];rfl,rfl⟩
  case rest=>
  obtain⟨rfl,rfl⟩:=hcut
  generalize Q1p es node out k=pb at *
  cases pb with
  |true=>
   have HPK1:Hid (J5 es node out (k+1)=J5 es node out k++[(k:Int)]):=by unfold Hid;rw[HPK.out];rfl
   clear HPK HPB
   go_wp2_with (at_builtin;refine Xb rfl _ _ rfl w.heap.size n (.slice a n c) (J5 es node out k) (k:Int) wc rfl HO.out rfl HL.out (by omega) hz ?_)
   intro a1 c1 w1 r1 r2 r3
   have HO1:Hid (Qb w.heap.size w1 (.slice a1 (n+1) c1) (J5 es node out (k+1))):=by unfold Hid;rw[HPK1.out];exact r1
   have HL1:Hid ((J5 es node out (k+1)).length=n+1):=by unfold Hid;rw[HPK1.out,List.length_append,HL.out];rfl
   have HB1:=Q0 (HB.out.row HO.out (by decide) r2)
   have HX1:Hid (Nx w w1):=Below.trans HX.out (r2.below HX.out.size (λx hx=>(Ql HO.out x hx.symm).1))
   clear r1 r2 r3 g1 y0 y1
   go_wp2
   go_roundw
   case rel=>exact⟨k+1,n+1,c1,a1,by omega,by omega,by go_num,rfl,HL1,HO1,HB1,HX1⟩
   case measure=>simp[intOf];omega
  |false=>
   have HO1:Hid (Qb w.heap.size wc (.slice a n c) (J5 es node out (k+1))):=by unfold Hid;rw[HPK.out];exact HO.out
   have HL1:Hid ((J5 es node out (k+1)).length=n):=by unfold Hid;rw[HPK.out];exact HL.out
   clear HPK HPB g1 y0 y1
   go_wp2
   go_roundw
   case rel=>exact⟨k+1,n,c,a,by omega,by omega,by go_num,rfl,HL1,HO1,HB,HX⟩
   case measure=>simp[intOf];omega
 have hkm:k=m:=by omega
 subst hkm
 rw[HL.out] at HPV HPS
 by_cases hn0:n=0
 ·have HV1:Hid (pkV es node out S=-1):=by unfold Hid;rw[HPV.out,if_pos hn0]
  have HV2:Hid (pkS es node out S=S):=by unfold Hid;rw[HPS.out,if_pos hn0]
  subst hn0
  clear HPV HPS
  go_wp2
  go_ret
  rw[HV1.out,HV2.out]
  exact⟨rfl,HS.out.next HX.out,Chg.nx HX.out⟩
 have HV1:Hid (pkV es node out S=iat (J5 es node out k) (nv S n).toNat):=by unfold Hid;rw[HPV.out,if_neg hn0]
 have HV2:Hid (pkS es node out S=ns S n):=by unfold Hid;rw[HPS.out,if_neg hn0]
 have n1:((n:Int)==0)=false:=by simp;omega
 have n2:¬(n:Int)=0:=by omega
 clear HPV HPS
 go_wp2_with fail
 refine(Qe D b S n _ (HS.out.next HX.out) HOK.out (by omega)).mono ?_
 rintro e w1 ⟨rfl,hs1,hc1⟩
 have hv:=Qt HOK.out n
 obtain⟨i,hi⟩:∃i:Nat,nv S n=i:=⟨(nv S n).toNat,by omega⟩
 rw[hi] at HV1 ⊢
 have hil:i<n:=by omega
 have hil':(i:Int)<n:=by omega
 have HO1:Hid (Qb w.heap.size w1 (.slice a n c) (J5 es node out k)):=by
  obtain⟨v,hb,_⟩:=(HS.out.next HX.out)
  exact Jm HO.out hc1 (λg hg e=>by
   have e':g=b:=e
   subst e'
   exact hb.neRow HO.out (by decide) hg.symm)
 obtain⟨a9,c9,e9,_,k9⟩:=HO1.out.held
 rw[HL.out] at e9 k9
 simp only[Value.slice.injEq] at e9
 obtain⟨ea,en,ec⟩:=e9
 subst ea ec
 clear en
 obtain⟨gb,go,rfl,_,_,hc9⟩:=k9 (by omega)
 have cy:w1.cell? ⟨gb,go+i,none⟩=some (.int .i64 (iat (J5 es node out k) i)):=hc9 i hil
 have HF:Hid (J8 D w1 b (ns S n)):=hs1
 have HCF:Hid (Chg (Sx1 b) w w1):=(Chg.nx HX.out).trans hc1
 rw[Int.toNat_natCast] at HV1
 clear k9 hc9 hs1 hc1 hi hv g1
 generalize iat (J5 es node out k) i=z at *
 go_wp2
 go_ret
 rw[HV1.out,HV2.out]
 exact⟨rfl,HF.out,HCF.out⟩
def lwN (a b:Int):Nat->List Int
 |0=>[a]
 |k+1=>lwN a b k++[if (k:Int)%2=0 then b else a]
def lwW (wt:Int):Nat->List Int
 |0=>[]
 |k+1=>lwW wt k++[wt]
theorem Q5g (a b:Int):∀k,(lwN a b k).length=k+1
 |0=>rfl
 |k+1=>by show(lwN a b k++[_]).length=_;rw[List.length_append,Q5g a b k];rfl
theorem Q0l (wt:Int):∀k,(lwW wt k).length=k
 |0=>rfl
 |k+1=>by show(lwW wt k++[_]).length=_;rw[List.length_append,Q0l wt k];rfl
structure LWs (w wr:World)(id:Int)(bo:Bool)(va vb:Value)(nd wt:List Int):Prop where
 nx:Nx w wr
 res:BT wr w.heap.size #[.int .i64 0,.bool false,.slice none 0 0,.slice none 0 0] 45
 box:BT wr (w.heap.size+2) #[.int .i64 id,.bool bo,va,vb] 45
 nds:Qb w.heap.size wr va nd
 wts:Qb w.heap.size wr vb wt
 ap:∀g,va.ownBlock=some g->vb.ownBlock≠some g
section
variable {w wr w':World}{id:Int}{bo:Bool}{va vb:Value}{nd wt:List Int}
theorem LWs.addNd (h:LWs w wr id bo va vb nd wt){v:Value}{z:Int}(hr:Qb w.heap.size w' v (nd++[z]))(hc:Chg (λx=>some x=va.ownBlock) wr w')(ha:∀g,v.ownBlock=some g->va.ownBlock=some g\/wr.heap.size<=g):LWs w (w'.setCell ⟨w.heap.size+2,2,none⟩ v) id bo v vb (nd++[z]) wt:=by
 have hbox:=h.box.row h.nds (by decide) hc
 refine⟨Below.setCell (Below.trans h.nx (hc.below h.nx.size (λx hx=>(Ql h.nds x hx.symm).1))) (show w.heap.size<=w.heap.size+2 by omega) _,(h.res.row h.nds (by decide) hc).setOther (by omega) _ _,hbox.set 2 v,Q2 hr hbox (by decide) _ _,Q2 (Yw h.wts (λg hg=>h.ap g hg) hc) hbox (by decide) _ _,λg hg=>?_⟩
 rcases ha g hg with e|e
 ·exact h.ap g e
 ·intro e2
  have:=(Ql h.wts g e2).2
  omega
theorem LWs.addWt (h:LWs w wr id bo va vb nd wt){v:Value}{z:Int}(hr:Qb w.heap.size w' v (wt++[z]))(hc:Chg (λx=>some x=vb.ownBlock) wr w')(ha:∀g,v.ownBlock=some g->vb.ownBlock=some g\/wr.heap.size<=g):LWs w (w'.setCell ⟨w.heap.size+2,3,none⟩ v) id bo va v nd (wt++[z]):=by
 have hbox:=h.box.row h.wts (by decide) hc
 refine⟨Below.setCell (Below.trans h.nx (hc.below h.nx.size (λx hx=>(Ql h.wts x hx.symm).1))) (show w.heap.size<=w.heap.size+2 by omega) _,(h.res.row h.wts (by decide) hc).setOther (by omega) _ _,hbox.set 3 v,Q2 (Yw h.nds (λg hg hg2=>h.ap g hg2 hg) hc) hbox (by decide) _ _,Q2 hr hbox (by decide) _ _,λg hg hg2=>?_⟩
 rcases ha g hg2 with e|e
 ·exact h.ap g hg e
 ·have:=(Ql h.nds g hg).2
  omega
end
theorem Vf (id a b wt:Int)(bo:Bool)(segs:Nat)(w:World)(hs:segs<=100000) :
  Calls Tryz.prog 97 #[.int .i64 id,.bool bo,.int .i64 a,.int .i64 b,.int .i64 (segs:Int),.int .i64 wt] w λe w'=>∃va vb,e=.returned (.agg #[.int .i64 id,.bool bo,va,vb])/\Qb w.heap.size w' va (lwN a b segs)/\Qb w.heap.size w' vb (lwW wt segs)/\(∀g,va.ownBlock=some g->vb.ownBlock≠some g)/\Nx w w':=by
 go_enter Tryz.func97,Tryz.ntmps97
 go_upto_region 2 with fail
 generalize hWA:((w.alloc (.cells #[.int .i64 0,.bool false,.slice none 0 0,.slice none 0 0] 45)).alloc (.cells #[.int .i64 a] 2)).alloc (.cells #[.int .i64 id,.bool bo,.slice (some ⟨w.heap.size+1,0,none⟩) 1 1,.slice none 0 0] 45)=wA
 have HLA:Hid (LWs w wA id bo (.slice (some ⟨w.heap.size+1,0,none⟩) (0+1) 1) (.slice none 0 0) (lwN a b 0) (lwW wt 0)):=by
  unfold Hid
  rw[<-hWA]
  refine⟨(Qd _ _).trans ((Qd _ _).trans (Qd _ _)),((BT.new w _ _ _ rfl).alloc _).alloc _,BT.new _ _ _ _ (by rw[Q7,Q7]),?_,⟨rfl,Or.inl ⟨rfl,rfl⟩⟩,λg hg h=>by cases h⟩
  refine⟨rfl,Or.inr ⟨w.heap.size+1,1,#[.int .i64 a],rfl,by omega,?_,Nat.le_refl _,by simp[maxLen],rfl,rfl⟩⟩
  exact(BT.new _ _ _ _ (by rw[Q7])).alloc _
 clear hWA
 go_wp2
 go_loopw [14] (λi wr=>∃(k cv cw:Nat) (av aw:Option Addr),k<=segs/\i=.int .i64 k/\Hid (LWs w wr id bo (.slice av (k+1) cv) (.slice aw k cw) (lwN a b k) (lwW wt k))) (λi _=>segs-(intOf i).toNat)
 case atStart=>exact⟨0,_,_,_,_,Nat.zero_le _,rfl,HLA⟩
 obtain⟨k,cv,cw,av,aw,hk,rfl,HL⟩:=hrel
 by_cases hlt:k<segs
 ·have hlt':(k:Int)<segs:=by omega
  have HLN:Hid ((lwN a b k).length=k+1):=Q5g a b k
  have HLW:Hid ((lwW wt k).length=k):=Q0l wt k
  by_cases h2:(k:Int)%2=0
  ·have d2:((k:Int)%2==0)=true:=by simpa using h2
   have HSN:Hid (lwN a b (k+1)=lwN a b k++[b]):=by unfold Hid;show lwN a b k++[_]=_;rw[if_pos h2]
   have g2:=HL.out.box.blk.cell (i:=2) rfl
   have hz:w.heap.size<=wr.heap.size:=HL.out.nx.size
   go_wp2_with (at_builtin;refine Xb rfl _ _ rfl w.heap.size (k+1) (.slice av (k+1) cv) (lwN a b k) b wr rfl HL.out.nds rfl HLN.out (by omega) hz ?_)
   intro a1 c1 w1 r1 r2 r3
   have HL1:=Q0 (HL.out.addNd r1 r2 r3)
   have HB1:=Q0 (HL.out.box.row HL.out.nds (by decide) r2)
   clear g2 r1 r2 r3
   have g2:=HB1.out.blk.cell (i:=2) rfl
   have f2:=HB1.out.blk.frozen 2
   go_upto_region 8 with fail
   generalize w1.setCell ⟨w.heap.size+2,2,none⟩ (.slice a1 (k+1+1) c1)=w1' at *
   clear g2 f2 HB1
   rw[<-HSN.out] at HL1
   have g3:=HL1.out.box.blk.cell (i:=3) rfl
   have hz3:w.heap.size<=w1'.heap.size:=HL1.out.nx.size
   go_wp2_with (at_builtin;refine Xb rfl _ _ rfl w.heap.size k (.slice aw k cw) (lwW wt k) wt w1' rfl HL1.out.wts rfl HLW.out (by omega) hz3 ?_)
   intro a2 c2 w2 r1 r2 r3
   have HL2:=Q0 (HL1.out.addWt r1 r2 r3)
   have HB2:=Q0 (HL1.out.box.row HL1.out.wts (by decide) r2)
   clear g3 r1 r2 r3
   have g3:=HB2.out.blk.cell (i:=3) rfl
   have f3:=HB2.out.blk.frozen 3
   go_wp2
   go_roundw
   case rel=>exact⟨k+1,c1,c2,a1,a2,by omega,by go_num,HL2⟩
   case measure=>simp[intOf];omega
  ·have d2:((k:Int)%2==0)=false:=by simpa using h2
   have HSN:Hid (lwN a b (k+1)=lwN a b k++[a]):=by unfold Hid;show lwN a b k++[_]=_;rw[if_neg h2]
   have g2:=HL.out.box.blk.cell (i:=2) rfl
   have hz:w.heap.size<=wr.heap.size:=HL.out.nx.size
   go_wp2_with (at_builtin;refine Xb rfl _ _ rfl w.heap.size (k+1) (.slice av (k+1) cv) (lwN a b k) a wr rfl HL.out.nds rfl HLN.out (by omega) hz ?_)
   intro a1 c1 w1 r1 r2 r3
   have HL1:=Q0 (HL.out.addNd r1 r2 r3)
   have HB1:=Q0 (HL.out.box.row HL.out.nds (by decide) r2)
   clear g2 r1 r2 r3
   have g2:=HB1.out.blk.cell (i:=2) rfl
   have f2:=HB1.out.blk.frozen 2
   go_upto_region 8 with fail
   generalize w1.setCell ⟨w.heap.size+2,2,none⟩ (.slice a1 (k+1+1) c1)=w1' at *
   clear g2 f2 HB1
   rw[<-HSN.out] at HL1
   have g3:=HL1.out.box.blk.cell (i:=3) rfl
   have hz3:w.heap.size<=w1'.heap.size:=HL1.out.nx.size
   go_wp2_with (at_builtin;refine Xb rfl _ _ rfl w.heap.size k (.slice aw k cw) (lwW wt k) wt w1' rfl HL1.out.wts rfl HLW.out (by omega) hz3 ?_)
   intro a2 c2 w2 r1 r2 r3
   have HL2:=Q0 (HL1.out.addWt r1 r2 r3)
   have HB2:=Q0 (HL1.out.box.row HL1.out.wts (by decide) r2)
   clear g3 r1 r2 r3
   have g3:=HB2.out.blk.cell (i:=3) rfl
   have f3:=HB2.out.blk.frozen 3
   go_wp2
   go_roundw
   case rel=>exact⟨k+1,c1,c2,a1,a2,by omega,by go_num,HL2⟩
   case measure=>simp[intOf];omega
 have hkn:k=segs:=by omega
 subst hkn
 have y0:=HL.out.box.blk.cell (i:=0) rfl
 have y1:=HL.out.box.blk.cell (i:=1) rfl
 have y2:=HL.out.box.blk.cell (i:=2) rfl
 have y3:=HL.out.box.blk.cell (i:=3) rfl
 have x0:=HL.out.res.blk.cell (i:=0) rfl
 have x1:=HL.out.res.blk.cell (i:=1) rfl
 have x2:=HL.out.res.blk.cell (i:=2) rfl
 have x3:=HL.out.res.blk.cell (i:=3) rfl
 have z0:=HL.out.res.blk.frozen 0
 have z1:=HL.out.res.blk.frozen 1
 have z2:=HL.out.res.blk.frozen 2
 have z3:=HL.out.res.blk.frozen 3
 have BR':=(((HL.out.res.blk.set 0 (.int .i64 id)).set 1 (.bool bo)).set 2 (.slice av (k+1) cv)).set 3 (.slice aw k cw)
 have P0:Hid (_=some (Value.int .i64 id)):=BR'.cell (i:=0) rfl
 have P1:Hid (_=some (Value.bool bo)):=BR'.cell (i:=1) rfl
 have P2:Hid (_=some (Value.slice av (k+1) cv)):=BR'.cell (i:=2) rfl
 have P3:Hid (_=some (Value.slice aw k cw)):=BR'.cell (i:=3) rfl
 clear BR'
 go_wp2
 have p0:=P0.out
 have p1:=P1.out
 have p2:=P2.out
 have p3:=P3.out
 refine bodyPost_ret (v:=.agg #[.int .i64 id,.bool bo,.slice av (k+1) cv,.slice aw k cw]) (by simp[results,Tryz.results97,go_sem,p0,p1,p2,p3]) rfl ?_
 have r0:=HL.out.res
 have s0:=r0.set 0 (.int .i64 id)
 have s1:=s0.set 1 (.bool bo)
 have s2:=s1.set 2 (.slice av (k+1) cv)
 exact⟨_,_,rfl,Q2 (Q2 (Q2 (Q2 HL.out.nds r0 (by decide) _ _) s0 (by decide) _ _) s1 (by decide) _ _) s2 (by decide) _ _,Q2 (Q2 (Q2 (Q2 HL.out.wts r0 (by decide) _ _) s0 (by decide) _ _) s1 (by decide) _ _) s2 (by decide) _ _,HL.out.ap,Below.setCell (Below.setCell (Below.setCell (Below.setCell HL.out.nx (Nat.le_refl _) _) (Nat.le_refl _) _) (Nat.le_refl _) _) (Nat.le_refl _) _⟩
end Go.Proofs.YtmmolhlihhdkcaaGreatDoor
