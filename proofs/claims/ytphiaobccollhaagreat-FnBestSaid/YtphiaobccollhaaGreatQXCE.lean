import Derived.Test.YtphiaobccollhaaGreatQXDA
namespace Go.Proofs.YtphiaobccollhaaGreat
open Go.RowKit Go.Sort Tryz
set_option linter.unusedVariables false
set_option maxRecDepth 1000000
set_option maxHeartbeats 16000000
variable {C g:Nat}{w:World}{p0 p1 p2 p3 p4:Value}{A:Au}{z:Int}
def auZ:Au:=⟨[],[],[],[],[]⟩
def Z8 (rs:List Ru)(code:Int)(A:Au):Prop:=
 (rgB rs=false/\code=12/\A=auZ)\/(rgB rs=true/\∃ws,WI rs rs.length 1 ws/\((2000<ws.length/\code=13/\A=auZ)\/(ws.length<=2000/\code=0/\A=J6 ws (Jd rs) (V3 rs))))
structure O5 (C:Nat)(w:World)(p0 p1 p2 p3 p4:Value)(A:Au):Prop where
 o0:Q5 C w p0 A.pa
 o1:Q5 C w p1 A.la
 o2:Q5 C w p2 A.fa
 o3:Q5 C w p3 A.mu
 o4:An C w p4 A.bd
 a01:∀b,p0.ownBlock=some b->p1.ownBlock≠some b
 a02:∀b,p0.ownBlock=some b->p2.ownBlock≠some b
 a03:∀b,p0.ownBlock=some b->p3.ownBlock≠some b
 a12:∀b,p1.ownBlock=some b->p2.ownBlock≠some b
 a13:∀b,p1.ownBlock=some b->p3.ownBlock≠some b
 a23:∀b,p2.ownBlock=some b->p3.ownBlock≠some b
theorem Ty {C' ty sz:Nat}{v:Value}{n:Nat}{xs:List Value}(h:w.ownsRow C ty sz v n xs)(hB:C'<=C):w.ownsRow C' ty sz v n xs:=by
 obtain⟨h1,h2⟩:=h
 refine⟨h1,?_⟩
 rcases h2 with h2|⟨g,cap,cur,hv,hg,r⟩
 ·exact oL h2
 ·exact oR ⟨g,cap,cur,hv,by omega,r⟩
theorem Xg {ty sz:Nat}{v:Value}{n:Nat}{xs:List Value}(h:w.ownsRow C ty sz v n xs):∃a m c,v=sL a m c:=by
 rcases h.2 with⟨h2,_⟩|⟨g,cap,cur,hv,_⟩
 ·exact⟨_,_,_,h2⟩
 ·exact⟨_,_,_,hv⟩
theorem O5.base {C':Nat}(h:O5 C w p0 p1 p2 p3 p4 A)(hC:C'<=C):O5 C' w p0 p1 p2 p3 p4 A:=
 ⟨Ty h.o0 hC,Ty h.o1 hC,Ty h.o2 hC,Ty h.o3 hC,Ty h.o4 hC,h.a01,h.a02,h.a03,h.a12,h.a13,h.a23⟩
theorem O5.next {w':World}(h:O5 C w p0 p1 p2 p3 p4 A)(k:Nx w w'):O5 C w' p0 p1 p2 p3 p4 A:=
 ⟨Xp h.o0 k,Xp h.o1 k,Xp h.o2 k,Xp h.o3 k,Xp h.o4 k,h.a01,h.a02,h.a03,h.a12,h.a13,h.a23⟩
theorem O5.nil (C:Nat)(w:World):O5 C w sN sN sN sN sN auZ:=
 ⟨⟨rfl,oL ⟨rfl,rfl⟩⟩,⟨rfl,oL ⟨rfl,rfl⟩⟩,⟨rfl,oL ⟨rfl,rfl⟩⟩,⟨rfl,oL ⟨rfl,rfl⟩⟩,⟨rfl,oL ⟨rfl,rfl⟩⟩,λb e=>by simp[Value.ownBlock] at e,λb e=>by simp[Value.ownBlock] at e,λb e=>by simp[Value.ownBlock] at e,λb e=>by simp[Value.ownBlock] at e,λb e=>by simp[Value.ownBlock] at e,λb e=>by simp[Value.ownBlock] at e⟩
theorem R5.five (h:R5 C g w p0 p1 p2 p3 p4 A):O5 C w p0 p1 p2 p3 p4 A:=
 ⟨h.o0,h.o1,h.o2,h.o3,h.o4,h.a01,h.a02,h.a03,h.a12,h.a13,h.a23⟩
def RS (g:Nat)(w:World)(A:Au):Prop:=∃a0 n0 c0 a1 n1 c1 a2 n2 c2 a3 n3 c3 a4 n4 c4,R5 (g+1) g w (sL a0 n0 c0) (sL a1 n1 c1) (sL a2 n2 c2) (sL a3 n3 c3) (sL a4 n4 c4) A
theorem RS.of (h:R5 (g+1) g w p0 p1 p2 p3 p4 A):RS g w A:=by
 obtain⟨a0,c0,e0⟩:=h.o0.slice
 obtain⟨a1,c1,e1⟩:=h.o1.slice
 obtain⟨a2,c2,e2⟩:=h.o2.slice
 obtain⟨a3,c3,e3⟩:=h.o3.slice
 obtain⟨a4,c4,e4⟩:=h.o4.slice
 subst e0 e1 e2 e3 e4
 exact⟨_,_,_,_,_,_,_,_,_,_,_,_,_,_,_,h⟩
def auK (ws:List (List Int))(f0 f1 f2 f3:List Int->Int)(f4:List Int->Bool)(j0 j1 j2 j3 j4:Nat):Au:=⟨(ws.take j0).map f0,(ws.take j1).map f1,(ws.take j2).map f2,(ws.take j3).map f3,(ws.take j4).map f4⟩
theorem Wp {α:Type}{ws:List (List Int)}(f:List Int->α){k:Nat}{z:α}(hk:k<ws.length)(hz:z=f (wd ws k)):(ws.take (k+1)).map f=(ws.take k).map f++[z]:=by
 rw[zP hk,yF,hz]
 simp[wd,List.getD,hk]
section
variable {ws:List (List Int)}{f0 f1 f2 f3:List Int->Int}{f4:List Int->Bool}{k j0 j1 j2 j3 j4:Nat}
theorem auK0 (hk:k<ws.length)(hz:z=f0 (wd ws k)):{ auK ws f0 f1 f2 f3 f4 k j1 j2 j3 j4 with pa:=(auK ws f0 f1 f2 f3 f4 k j1 j2 j3 j4).pa++[z] }=auK ws f0 f1 f2 f3 f4 (k+1) j1 j2 j3 j4:=by
 simp only[auK]
 rw[Wp f0 hk hz]
theorem RS.of0 (h:R5 (g+1) g w p0 p1 p2 p3 p4 { auK ws f0 f1 f2 f3 f4 k j1 j2 j3 j4 with pa:=(auK ws f0 f1 f2 f3 f4 k j1 j2 j3 j4).pa++[z] })(hk:k<ws.length)(hz:z=f0 (wd ws k)):RS g w (auK ws f0 f1 f2 f3 f4 (k+1) j1 j2 j3 j4):=by
 rw[auK0 hk hz] at h
 exact RS.of h
theorem auK1 (hk:k<ws.length)(hz:z=f1 (wd ws k)):{ auK ws f0 f1 f2 f3 f4 j0 k j2 j3 j4 with la:=(auK ws f0 f1 f2 f3 f4 j0 k j2 j3 j4).la++[z] }=auK ws f0 f1 f2 f3 f4 j0 (k+1) j2 j3 j4:=by
 simp only[auK]
 rw[Wp f1 hk hz]
theorem RS.of1 (h:R5 (g+1) g w p0 p1 p2 p3 p4 { auK ws f0 f1 f2 f3 f4 j0 k j2 j3 j4 with la:=(auK ws f0 f1 f2 f3 f4 j0 k j2 j3 j4).la++[z] })(hk:k<ws.length)(hz:z=f1 (wd ws k)):RS g w (auK ws f0 f1 f2 f3 f4 j0 (k+1) j2 j3 j4):=by
 rw[auK1 hk hz] at h
 exact RS.of h
theorem auK2 (hk:k<ws.length)(hz:z=f2 (wd ws k)):{ auK ws f0 f1 f2 f3 f4 j0 j1 k j3 j4 with fa:=(auK ws f0 f1 f2 f3 f4 j0 j1 k j3 j4).fa++[z] }=auK ws f0 f1 f2 f3 f4 j0 j1 (k+1) j3 j4:=by
 simp only[auK]
 rw[Wp f2 hk hz]
theorem RS.of2 (h:R5 (g+1) g w p0 p1 p2 p3 p4 { auK ws f0 f1 f2 f3 f4 j0 j1 k j3 j4 with fa:=(auK ws f0 f1 f2 f3 f4 j0 j1 k j3 j4).fa++[z] })(hk:k<ws.length)(hz:z=f2 (wd ws k)):RS g w (auK ws f0 f1 f2 f3 f4 j0 j1 (k+1) j3 j4):=by
 rw[auK2 hk hz] at h
 exact RS.of h
theorem auK3 (hk:k<ws.length)(hz:z=f3 (wd ws k)):{ auK ws f0 f1 f2 f3 f4 j0 j1 j2 k j4 with mu:=(auK ws f0 f1 f2 f3 f4 j0 j1 j2 k j4).mu++[z] }=auK ws f0 f1 f2 f3 f4 j0 j1 j2 (k+1) j4:=by
 simp only[auK]
 rw[Wp f3 hk hz]
theorem RS.of3 (h:R5 (g+1) g w p0 p1 p2 p3 p4 { auK ws f0 f1 f2 f3 f4 j0 j1 j2 k j4 with mu:=(auK ws f0 f1 f2 f3 f4 j0 j1 j2 k j4).mu++[z] })(hk:k<ws.length)(hz:z=f3 (wd ws k)):RS g w (auK ws f0 f1 f2 f3 f4 j0 j1 j2 (k+1) j4):=by
 rw[auK3 hk hz] at h
 exact RS.of h
theorem auK4 {z:Bool}(hk:k<ws.length)(hz:z=f4 (wd ws k)):{ auK ws f0 f1 f2 f3 f4 j0 j1 j2 j3 k with bd:=(auK ws f0 f1 f2 f3 f4 j0 j1 j2 j3 k).bd++[z] }=auK ws f0 f1 f2 f3 f4 j0 j1 j2 j3 (k+1):=by
 simp only[auK]
 rw[Wp f4 hk hz]
theorem RS.of4 {z:Bool}(h:R5 (g+1) g w p0 p1 p2 p3 p4 { auK ws f0 f1 f2 f3 f4 j0 j1 j2 j3 k with bd:=(auK ws f0 f1 f2 f3 f4 j0 j1 j2 j3 k).bd++[z] })(hk:k<ws.length)(hz:z=f4 (wd ws k)):RS g w (auK ws f0 f1 f2 f3 f4 j0 j1 j2 j3 (k+1)):=by
 rw[auK4 hk hz] at h
 exact RS.of h
theorem Vn (hk:k<=2000)(f:List Int->Int):((ws.take k).map f).length<=2000:=by rw[zF,zX];omega
theorem Iw (hk:k<=2000)(f:List Int->Bool):((ws.take k).map f).length<=2000:=by rw[zF,zX];omega
end
def fPa (ws:List (List Int))(x:List Int):Int:=if x=[] then -1 else stW ws x.dropLast
def fFa (ws:List (List Int))(x:List Int):Int:=if x=[] then -1 else LW ws x 1
theorem Qer (ws:List (List Int))(mu:List Int->Int)(bd:List Int->Bool):auK ws (fPa ws) Vs (fFa ws) mu bd ws.length ws.length ws.length ws.length ws.length=J6 ws mu bd:=by
 simp[auK,J6,fPa,fFa]
theorem R5.start (w:World)(t:TypeId):R5 (w.heap.size+1) w.heap.size (w.alloc (.cells #[sN,sN,sN,sN,sN] t)) sN sN sN sN sN auZ:=by
 have h:=O5.nil (w.heap.size+1) (w.alloc (.cells #[sN,sN,sN,sN,sN] t))
 exact⟨Nat.lt_succ_self _,Blk.new w _ _ _ rfl,h.o0,h.o1,h.o2,h.o3,h.o4,h.a01,h.a02,h.a03,h.a12,h.a13,h.a23⟩
def SpE (rs:List Ru)(w w':World)(e:Ending):Prop:=∃(code:Int) (a0:Option Addr) (n0 c0:Nat) (a1:Option Addr) (n1 c1:Nat) (a2:Option Addr) (n2 c2:Nat) (a3:Option Addr) (n3 c3:Nat) (a4:Option Addr) (n4 c4:Nat) (A:Au),e=.returned (.agg #[iV code,sL a0 n0 c0,sL a1 n1 c1,sL a2 n2 c2,sL a3 n3 c3,sL a4 n4 c4])/\Z8 rs code A/\O5 w.heap.size w' (sL a0 n0 c0) (sL a1 n1 c1) (sL a2 n2 c2) (sL a3 n3 c3) (sL a4 n4 c4) A
theorem O5.spe {rs:List Ru}{w':World}{code:Int}{a0:Option Addr}{n0 c0:Nat}{a1:Option Addr}{n1 c1:Nat}{a2:Option Addr}{n2 c2:Nat}{a3:Option Addr}{n3 c3:Nat}{a4:Option Addr}{n4 c4:Nat}(h:O5 w.heap.size w' (sL a0 n0 c0) (sL a1 n1 c1) (sL a2 n2 c2) (sL a3 n3 c3) (sL a4 n4 c4) A)(hb:Z8 rs code A):SpE rs w w' (.returned (.agg #[iV code,sL a0 n0 c0,sL a1 n1 c1,sL a2 n2 c2,sL a3 n3 c3,sL a4 n4 c4])):=⟨_,_,_,_,_,_,_,_,_,_,_,_,_,_,_,_,_,rfl,hb,h⟩
theorem Q9d {x:List Int}{m:Nat}(h:x.length=m+1):Vs x=iat x m:=by
 unfold Vs iat
 rw[List.getLast?_eq_getElem?,h,Nat.add_sub_cancel,zD,zH (by omega)]
 rfl
theorem Av (B:Nat)(v:Value)(rs:List Ru)(w:World)(h0:Zl B w v rs) :
  Calls prog 58 #[v] w λe w'=>SpE rs w w' e/\Nx w w':=by
 obtain⟨ii,hi,hz0,hz1,hz2⟩:=info_parts Zp
 obtain⟨jj,hj0,hj1,hj2,hj3⟩:=info_parts Qbm
 have HH:=mh h0
 have HX0:Z (Nx w (w.alloc (.cells #[iV 0,sN,sN,sN,sN,sN] 100))):=Qe _ _
 obtain⟨va,vc,rfl,_,_⟩:=h0
 go_enter func58,ntmps58
 go_wp2_with fail
 refine(Fs B _ rs _ (HH.o.next HX0.o)).mono ?_
 rintro e w1 ⟨rfl,rfl⟩
 have BX:=Blk.new w #[iV 0,sN,sN,sN,sN,sN] 100 _ rfl
 cases hg:rgB rs
 case false=>
  have k0:_=some (iV 0):=BX.c 0 rfl
  have k1:_=some sN:=BX.c 1 rfl
  have k2:_=some sN:=BX.c 2 rfl
  have k3:_=some sN:=BX.c 3 rfl
  have k4:_=some sN:=BX.c 4 rfl
  have k5:_=some sN:=BX.c 5 rfl
  have HB:Z (Z8 rs 12 auZ):=oL ⟨hg,rfl,rfl⟩
  clear BX hg
  go_wp2
  refine bodyPost_ret (v:=.agg #[iV 12,sN,sN,sN,sN,sN]) (by simp[results,results58,go_sem]) rfl ?_
  refine⟨O5.spe (O5.nil _ _) HB.o,?_⟩
  exact Qe _ _
 have HG:=mh hg
 clear hg
 go_wp2_with fail
 refine(Q3y B _ rs _ (HH.o.next HX0.o) (λi hi=>⟨(Uy HG.o hi).1,(Uy HG.o hi).2.1⟩)).mono ?_
 rintro e w2 ⟨⟨v2,ws,rfl,hW,hI⟩,hx⟩
 have HX2:=mh (HX0.o.trans hx)
 have BX2:=BX.next hx
 have HWO:=mh (hW.held hx)
 obtain⟨wa,wc,hvs⟩:=hW.slice
 subst hvs
 have HI:=mh hI
 clear hW hI hx BX
 generalize hzn:ws.length=n at *
 have HZ:=mh hzn
 clear hzn
 by_cases hbig:n<=2000
 case neg=>
  have d1:decide (2000<(n:Int))=true:=by simp;omega
  have k0:_=some (iV 0):=BX2.c 0 rfl
  have k1:_=some sN:=BX2.c 1 rfl
  have k2:_=some sN:=BX2.c 2 rfl
  have k3:_=some sN:=BX2.c 3 rfl
  have k4:_=some sN:=BX2.c 4 rfl
  have k5:_=some sN:=BX2.c 5 rfl
  have z0:=BX2.frozen 0
  have z1:=BX2.frozen 1
  have z2:=BX2.frozen 2
  have z3:=BX2.frozen 3
  have z4:=BX2.frozen 4
  have z5:=BX2.frozen 5
  have HB:Z (Z8 rs 13 auZ):=oR ⟨HG.o,ws,HI.o,oL ⟨by rw[HZ.o];omega,rfl,rfl⟩⟩
  clear hbig
  go_wp2
  have BR':=((((((BX2).set 0 (iV 13)).set 1 sN).set 2 sN).set 3 sN).set 4 sN).set 5 sN
  have q0:_=some (iV 13):=BR'.c 0 rfl
  have q1:_=some sN:=BR'.c 1 rfl
  have q2:_=some sN:=BR'.c 2 rfl
  have q3:_=some sN:=BR'.c 3 rfl
  have q4:_=some sN:=BR'.c 4 rfl
  have q5:_=some sN:=BR'.c 5 rfl
  clear k0 k1 k2 k3 k4 k5 BR'
  refine bodyPost_ret (v:=.agg #[iV 13,sN,sN,sN,sN,sN]) (by simp[results,results58,go_sem,q0,q1,q2,q3,q4,q5]) rfl ?_
  refine⟨O5.spe (O5.nil _ _) HB.o,?_⟩
  exact(Below.setCell (Below.setCell (Below.setCell (Below.setCell (Below.setCell (Below.setCell HX2.o lR _) lR _) lR _) lR _) lR _) lR _)
 have d1:decide (2000<(n:Int))=false:=by simp;omega
 have HB:Z (Z8 rs 0 (J6 ws (Jd rs) (V3 rs))):=oR ⟨HG.o,ws,HI.o,oR ⟨by rw[HZ.o];exact hbig,rfl,rfl⟩⟩
 have HRS0:Z (RS w2.heap.size (w2.alloc (.cells #[sN,sN,sN,sN,sN] 98)) (auK ws (fPa ws) Vs (fFa ws) (Jd rs) (V3 rs) 0 0 0 0 0)):=RS.of (by simpa [auK,auZ] using R5.start w2 98)
 have HN0:Z (Nx w2 (w2.alloc (.cells #[sN,sN,sN,sN,sN] 98))):=Qe _ _
 have HBX:=mh BX2
 have HASC:=mh HI.o.asc
 have HROOT:=mh ((Q2u HG.o HI.o (by rw[HZ.o];exact hbig)).root)
 have HNE:Z (∀s,1<=s->s<n->wd ws s≠[]/\(wd ws s).length<=402):=λs h1 hs=>⟨(Q2u HG.o HI.o (by rw[HZ.o];exact hbig)).ne h1 (by rw[HZ.o];exact hs),Qfg HG.o HI.o (by rw[HZ.o];exact hs)⟩
 have HRN:=mh (HH.o.next HX2.o)
 have hnp:0<n:=by have:=HI.o.l0;rw[HZ.o] at this;exact this
 have HZB:=mh BX2.lt
 clear BX2 HH HI HX0
 go_wp2
 clear d1
 go_loopw [5,6] (λi _ wr=>∃k:Nat,k<=n/\i=iV k/\Z (RS w2.heap.size wr (auK ws (fPa ws) Vs (fFa ws) (Jd rs) (V3 rs) k k k k k))/\Z (Nx w2 wr)) (λi _ _=>n-(intOf i).toNat)
 case atStart=>exact⟨0,nZ,rfl,HRS0,HN0⟩
 clear HRS0 HN0
 obtain⟨k,hkn,rfl,HRS,HN⟩:=hrel
 by_cases hlt:k<n
 case neg=>
  have ek:n=k:=by omega
  obtain⟨a0,n0,c0,a1,n1,c1,a2,n2,c2,a3,n3,c3,a4,n4,c4,hR⟩:=HRS.o
  have HR:Z (R5 (w2.heap.size+1) w2.heap.size wr (sL a0 n0 c0) (sL a1 n1 c1) (sL a2 n2 c2) (sL a3 n3 c3) (sL a4 n4 c4) (J6 ws (Jd rs) (V3 rs))):=by
   unfold Z
   rw[<-Qer,HZ.o,ek]
   exact hR
  have BB:=HBX.o.next HN.o
  have k0:_=some (iV 0):=BB.c 0 rfl
  have k1:_=some sN:=BB.c 1 rfl
  have k2:_=some sN:=BB.c 2 rfl
  have k3:_=some sN:=BB.c 3 rfl
  have k4:_=some sN:=BB.c 4 rfl
  have k5:_=some sN:=BB.c 5 rfl
  have z0:=BB.frozen 0
  have z1:=BB.frozen 1
  have z2:=BB.frozen 2
  have z3:=BB.frozen 3
  have z4:=BB.frozen 4
  have z5:=BB.frozen 5
  have y0:_=some (sL a0 n0 c0):=hR.bx.c 0 rfl
  have y1:_=some (sL a1 n1 c1):=hR.bx.c 1 rfl
  have y2:_=some (sL a2 n2 c2):=hR.bx.c 2 rfl
  have y3:_=some (sL a3 n3 c3):=hR.bx.c 3 rfl
  have y4:_=some (sL a4 n4 c4):=hR.bx.c 4 rfl
  have HW:=mh (HX2.o.trans HN.o)
  have HO:=mh (HR.o.five.base (Nat.le_succ _))
  clear hR ek HRS HR
  go_wp2
  have BR':=((((((BB).set 0 (iV 0)).set 1 (sL a0 n0 c0)).set 2 (sL a1 n1 c1)).set 3 (sL a2 n2 c2)).set 4 (sL a3 n3 c3)).set 5 (sL a4 n4 c4)
  have q0:_=some (iV 0):=BR'.c 0 rfl
  have q1:_=some (sL a0 n0 c0):=BR'.c 1 rfl
  have q2:_=some (sL a1 n1 c1):=BR'.c 2 rfl
  have q3:_=some (sL a2 n2 c2):=BR'.c 3 rfl
  have q4:_=some (sL a3 n3 c3):=BR'.c 4 rfl
  have q5:_=some (sL a4 n4 c4):=BR'.c 5 rfl
  clear k0 k1 k2 k3 k4 k5 BR'
  refine bodyPost_ret (v:=.agg #[iV 0,sL a0 n0 c0,sL a1 n1 c1,sL a2 n2 c2,sL a3 n3 c3,sL a4 n4 c4]) (by simp[results,results58,go_sem,q0,q1,q2,q3,q4,q5]) rfl ?_
  have hk5:∀(wq:World) (i:Nat) (u:Value),O5 w2.heap.size wq (sL a0 n0 c0) (sL a1 n1 c1) (sL a2 n2 c2) (sL a3 n3 c3) (sL a4 n4 c4) (J6 ws (Jd rs) (V3 rs))->O5 w2.heap.size (wq.setCell (aD w.heap.size i) u) (sL a0 n0 c0) (sL a1 n1 c1) (sL a2 n2 c2) (sL a3 n3 c3) (sL a4 n4 c4) (J6 ws (Jd rs) (V3 rs)):=λwq i u h=>⟨Qc h.o0 HZB.o _ _,Qc h.o1 HZB.o _ _,Qc h.o2 HZB.o _ _,Qc h.o3 HZB.o _ _,Qc h.o4 HZB.o _ _,h.a01,h.a02,h.a03,h.a12,h.a13,h.a23⟩
  refine⟨O5.spe (O5.base (?_:O5 w2.heap.size _ _ _ _ _ _ _) (Nat.le_of_lt HZB.o)) HB.o,?_⟩
  ·exact(hk5 _ _ _ (hk5 _ _ _ (hk5 _ _ _ (hk5 _ _ _ (hk5 _ _ _ (hk5 _ _ _ HO.o))))))
  ·exact(Below.setCell (Below.setCell (Below.setCell (Below.setCell (Below.setCell (Below.setCell HW.o lR _) lR _) lR _) lR _) lR _) lR _)
 obtain⟨wa',wc',e',hwn,hwk⟩:=HWO.o
 simp only[zC] at e'
 obtain⟨rfl,hqq,rfl⟩:=e'
 rw[HZ.o] at hwk
 clear hqq
 obtain⟨b,off,rfl,_,hb,hc⟩:=hwk hnp
 obtain⟨vk,ck,hvk,cpk⟩:=hc k hlt
 obtain⟨xa,xn,xc,rfl,hxc⟩:=cpk
 have hck:=Q0 HN.o ck
 have hlt':(k:Int)<n:=by omega
 have HKN:Z (k<ws.length):=by rw[HZ.o];exact hlt
 have hk2:k<=2000:=by omega
 have HXX:=mh hvk
 have HCAP:=mh hxc
 obtain⟨xa',xc',e',hxm,hxk⟩:=hvk
 simp only[zC] at e'
 obtain⟨rfl,hxl,rfl⟩:=e'
 have HXL:=mh hxl.symm
 rw[<-hxl] at hxk hxm
 unfold maxLen at hxm
 clear hwk hc ck hxl
 by_cases hk0:k=0
 ·have hx0:xn=0:=by rw[<-HXL.o,hk0,HROOT.o];rfl
  have HWK:Z (wd ws k=[]):=by rw[hk0];exact HROOT.o
  subst hx0
  clear hxk hk0
  go_upto_region 12 with fail
  go_cut [5,6] from 18 to 93 (λs5 s6 wc=>s5=iV k/\s6=sL xa 0 xc/\Z (RS w2.heap.size wc (auK ws (fPa ws) Vs (fFa ws) (Jd rs) (V3 rs) (k+1) k k k k))/\Z (Nx w2 wc))
  case first=>
   obtain⟨a0,n0,c0,a1,n1,c1,a2,n2,c2,a3,n3,c3,a4,n4,c4,hR0⟩:=HRS.o
   have hR:Z _:=hR0
   clear hR0
   have R4:Z _:=hR.o
   have hlow4:Z _:=HN.o
   have y4:_=some (sL a0 n0 c0):=hR.o.bx.c 0 rfl
   have z4:=hR.o.bx.frozen 0
   go_wp2_with (at_builtin;refine wpList_append_own_at _ rfl _ _ 23 rfl (w2.heap.size+1) 2 ii (iV 0) 1 8 underlying23 hi hz0 hz1 hz2 rfl (by decide) _ _ _ rfl (zB R4.o.o0 _) (aD _ 0) 1 1 [iV (-1)] rfl rfl (λj u hj=>Qn _ _ _ _ rfl j u hj) (by intro u hu;simp at hu;subst hu;rfl) (by have:=Vn (ws:=ws) (k:=k) hk2 (fPa ws);unfold maxLen;simp only[auK];omega) (by have:=Vn (ws:=ws) (k:=k) hk2 (fPa ws);simp only[auK];omega) (by have:=R4.o.bx.lt;rw[Q1];omega) ?_)
   intro v' w' hown hgrow _ hat
   obtain⟨ra,rn,rc,hrs⟩:=Xg hown
   subst hrs
   have hbx:=(R4.o.box0 _ hgrow).1
   have hfz:=(R4.o.box0 _ hgrow).2
   have R':Z _:=R4.o.app0 _ hown hgrow (by rw[Q1];exact hat)
   have HGR:Z _:=hgrow
   clear hown hgrow hat
   go_wp2
   go_meet
   exact⟨rfl,rfl,RS.of0 R'.o HKN.o (by rw[HWK.o];rfl),R4.o.low0 _ HGR.o hlow4.o⟩
  case rest=>
  clear HRS HN
  obtain⟨hs5,hs6,HRS,HN⟩:=hcut
  subst hs5 hs6
  go_upto_region 13 with fail
  go_cut [5,6] from 18 to 93 (λs5 s6 wc=>s5=iV k/\s6=sL xa 0 xc/\Z (RS w2.heap.size wc (auK ws (fPa ws) Vs (fFa ws) (Jd rs) (V3 rs) (k+1) (k+1) k k k))/\Z (Nx w2 wc))
  case first=>
   obtain⟨a0,n0,c0,a1,n1,c1,a2,n2,c2,a3,n3,c3,a4,n4,c4,hR0⟩:=HRS.o
   have hR:Z _:=hR0
   clear hR0
   have R4:Z _:=hR.o
   have hlow4:Z _:=HN.o
   have y4:_=some (sL a1 n1 c1):=hR.o.bx.c 1 rfl
   have z4:=hR.o.bx.frozen 1
   go_wp2_with (at_builtin;refine wpList_append_own_at _ rfl _ _ 23 rfl (w2.heap.size+1) 2 ii (iV 0) 1 8 underlying23 hi hz0 hz1 hz2 rfl (by decide) _ _ _ rfl (zB R4.o.o1 _) (aD _ 0) 1 1 [iV (-1)] rfl rfl (λj u hj=>Qn _ _ _ _ rfl j u hj) (by intro u hu;simp at hu;subst hu;rfl) (by have:=Vn (ws:=ws) (k:=k) hk2 Vs;unfold maxLen;simp only[auK];omega) (by have:=Vn (ws:=ws) (k:=k) hk2 Vs;simp only[auK];omega) (by have:=R4.o.bx.lt;rw[Q1];omega) ?_)
   intro v' w' hown hgrow _ hat
   obtain⟨ra,rn,rc,hrs⟩:=Xg hown
   subst hrs
   have hbx:=(R4.o.box1 _ hgrow).1
   have hfz:=(R4.o.box1 _ hgrow).2
   have R':Z _:=R4.o.app1 _ hown hgrow (by rw[Q1];exact hat)
   have HGR:Z _:=hgrow
   clear hown hgrow hat
   go_wp2
   go_meet
   exact⟨rfl,rfl,RS.of1 R'.o HKN.o (by rw[HWK.o];rfl),R4.o.low1 _ HGR.o hlow4.o⟩
  case rest=>
  clear HRS HN
  obtain⟨hs5,hs6,HRS,HN⟩:=hcut
  subst hs5 hs6
  go_upto_region 14 with fail
  go_cut [5,6] from 18 to 93 (λs5 s6 wc=>s5=iV k/\s6=sL xa 0 xc/\Z (RS w2.heap.size wc (auK ws (fPa ws) Vs (fFa ws) (Jd rs) (V3 rs) (k+1) (k+1) (k+1) k k))/\Z (Nx w2 wc))
  case first=>
   obtain⟨a0,n0,c0,a1,n1,c1,a2,n2,c2,a3,n3,c3,a4,n4,c4,hR0⟩:=HRS.o
   have hR:Z _:=hR0
   clear hR0
   have R4:Z _:=hR.o
   have hlow4:Z _:=HN.o
   have y4:_=some (sL a2 n2 c2):=hR.o.bx.c 2 rfl
   have z4:=hR.o.bx.frozen 2
   go_wp2_with (at_builtin;refine wpList_append_own_at _ rfl _ _ 23 rfl (w2.heap.size+1) 2 ii (iV 0) 1 8 underlying23 hi hz0 hz1 hz2 rfl (by decide) _ _ _ rfl (zB R4.o.o2 _) (aD _ 0) 1 1 [iV (-1)] rfl rfl (λj u hj=>Qn _ _ _ _ rfl j u hj) (by intro u hu;simp at hu;subst hu;rfl) (by have:=Vn (ws:=ws) (k:=k) hk2 (fFa ws);unfold maxLen;simp only[auK];omega) (by have:=Vn (ws:=ws) (k:=k) hk2 (fFa ws);simp only[auK];omega) (by have:=R4.o.bx.lt;rw[Q1];omega) ?_)
   intro v' w' hown hgrow _ hat
   obtain⟨ra,rn,rc,hrs⟩:=Xg hown
   subst hrs
   have hbx:=(R4.o.box2 _ hgrow).1
   have hfz:=(R4.o.box2 _ hgrow).2
   have R':Z _:=R4.o.app2 _ hown hgrow (by rw[Q1];exact hat)
   have HGR:Z _:=hgrow
   clear hown hgrow hat
   go_wp2
   go_meet
   exact⟨rfl,rfl,RS.of2 R'.o HKN.o (by rw[HWK.o];rfl),R4.o.low2 _ HGR.o hlow4.o⟩
  case rest=>
  clear HRS HN
  obtain⟨hs5,hs6,HRS,HN⟩:=hcut
  subst hs5 hs6
  go_upto_region 18 with fail
  go_cut [5,6] from 18 to 93 (λs5 s6 wc=>s5=iV k/\s6=sL xa 0 xc/\Z (RS w2.heap.size wc (auK ws (fPa ws) Vs (fFa ws) (Jd rs) (V3 rs) (k+1) (k+1) (k+1) (k+1) k))/\Z (Nx w2 wc))
  case first=>
   obtain⟨a0,n0,c0,a1,n1,c1,a2,n2,c2,a3,n3,c3,a4,n4,c4,hR0⟩:=HRS.o
   have hR:Z _:=hR0
   clear hR0
   have y4:_=some (sL a3 n3 c3):=hR.o.bx.c 3 rfl
   have z4:=hR.o.bx.frozen 3
   go_region_law (first|(go_simp;go_at_call 92;refine(Ex B 0 _ _ rs (wd ws k) _ (by exact HRN.o.next HN.o.drew) (by exact HXX.o.next HN.o.drew) (λi hi=>(Uy HG.o hi).1)).mono ?_;rintro e w4 ⟨rfl,hx⟩;have hN4:=(Nx.refl _).drew.trans hx;have R4:Z _:=hR.o.next hN4;have hlow4:Z _:=HN.o.trans hN4;have y5:=Q0 hN4 y4;have y6:(w4.alloc (.cells #[iV (Jd rs (wd ws k))] 2)).cell? (aD w2.heap.size 3)=some (sL a3 n3 c3):=Q0 (Qe _ _) y5)|(refine Jh rfl (.tmp 79) (.tmp 83) 23 rfl 2 ii (iV 0) 1 8 underlying23 hi hz0 hz1 hz2 rfl (by decide) (w2.heap.size+1) (sL a3 n3 c3) _ _ (by simp[Act.eval]) (zB R4.o.o3 _) (aD _ 0) 1 1 [iV (Jd rs (wd ws k))] (by simp[Act.eval]) rfl (λj u hj=>Qn _ _ _ _ rfl j u hj) (by intro u hu;simp at hu;subst hu;rfl) (by have:=Vn (ws:=ws) (k:=k) hk2;unfold maxLen;simp only[auK];have:=this (Jd rs);omega) (by have:=Vn (ws:=ws) (k:=k) hk2 (Jd rs);simp only[auK];omega) (by have:=R4.o.bx.lt;rw[Q1];omega) ?_;intro v' w' hown hgrow hat;obtain⟨ra,rn,rc,hrs⟩:=Xg hown;subst hrs;have hbx:=(R4.o.box3 _ hgrow).1;have hfz:=(R4.o.box3 _ hgrow).2;have R':Z _:=R4.o.app3 _ hown hgrow (by first|exact hat|(rw[Q1];exact hat));have HGR:Z _:=hgrow;clear hown hgrow hat))
   all_goals go_wp2
   all_goals go_meet
   all_goals exact⟨rfl,rfl,RS.of3 R'.o HKN.o rfl,R4.o.low3 _ HGR.o hlow4.o⟩
  case rest=>
  clear HRS HN
  obtain⟨hs5,hs6,HRS,HN⟩:=hcut
  subst hs5 hs6
  go_upto_region 19 with fail
  obtain⟨a0,n0,c0,a1,n1,c1,a2,n2,c2,a3,n3,c3,a4,n4,c4,hR0⟩:=HRS.o
  have hR:Z _:=hR0
  clear hR0
  have y4:_=some (sL a4 n4 c4):=hR.o.bx.c 4 rfl
  have z4:=hR.o.bx.frozen 4
  go_region_law (first|(go_simp;go_at_call 93;refine(Q0v B 0 _ _ rs (wd ws k) _ (by exact HRN.o.next HN.o.drew) (by exact HXX.o.next HN.o.drew)).mono ?_;rintro e w4 ⟨rfl,hx⟩;have hN4:=(Nx.refl _).drew.trans hx;have R4:Z _:=hR.o.next hN4;have hlow4:Z _:=HN.o.trans hN4;have y5:=Q0 hN4 y4;have y6:(w4.alloc (.cells #[.bool (V3 rs (wd ws k))] 4)).cell? (aD w2.heap.size 4)=some (sL a4 n4 c4):=Q0 (Qe _ _) y5)|(refine Jh rfl (.tmp 87) (.tmp 91) 96 rfl 4 jj (.bool false) 1 1 underlying96 hj0 hj1 hj2 hj3 rfl (by decide) (w2.heap.size+1) (sL a4 n4 c4) _ _ (by simp[Act.eval]) (zB R4.o.o4 _) (aD _ 0) 1 1 [.bool (V3 rs (wd ws k))] (by simp[Act.eval]) rfl (λj u hj=>Qn _ _ _ _ rfl j u hj) (by intro u hu;simp at hu;subst hu;rfl) (by have:=Iw (ws:=ws) (k:=k) hk2;unfold maxLen;simp only[auK];have:=this (V3 rs);omega) (by have:=Iw (ws:=ws) (k:=k) hk2 (V3 rs);simp only[auK];omega) (by have:=R4.o.bx.lt;rw[Q1];omega) ?_;intro v' w' hown hgrow hat;obtain⟨ra,rn,rc,hrs⟩:=Xg hown;subst hrs;have hbx:=(R4.o.box4 _ hgrow).1;have hfz:=(R4.o.box4 _ hgrow).2;have R':Z _:=R4.o.app4 _ hown hgrow (by first|exact hat|(rw[Q1];exact hat));have HGR:Z _:=hgrow;clear hown hgrow hat))
  all_goals go_wp2
  all_goals
   go_roundw
   case rel=>exact⟨k+1,by omega,by go_num,RS.of4 R'.o HKN.o rfl,R4.o.low4 _ HGR.o hlow4.o⟩
   case measure=>simp[intOf];omega
 ·have hne:=HNE.o k (by omega) hlt
  have HWK:=mh hne.1
  have hx1:1<=xn:=by rw[<-HXL.o];exact List.length_pos_iff.2 hne.1
  have hx4:xn<=402:=by rw[<-HXL.o];exact hne.2
  obtain⟨m,rfl⟩:∃m,xn=m+1:=⟨xn-1,by omega⟩
  obtain⟨xb,xo,rfl,_,hxb,hxcell⟩:=hxk (by omega)
  have x0:w2.cell? (aD xb (xo+m))=some (iV (iat (wd ws k) m)):=hxcell m (by omega)
  have HLE:=mh ((Q9d HXL.o).symm)
  have HDL:Z ((wd ws k).take m=(wd ws k).dropLast):=by unfold Z;rw[List.dropLast_eq_take,HXL.o];rfl
  have w1:IntKind.i64.wrap ((m:Int)+1-1)=(m:Int):=by rw[IntKind.wrap_i64];omega
  have w2':((m:Int)+1-1)=(m:Int):=by omega
  have hm1:(m:Int)<(m:Int)+1:=by omega
  have hm2:(m:Int)<=xc:=by omega
  have wm:=Va m (by omega)
  clear hxk hne hxcell hk0
  go_upto_region 15 with fail
  go_cut [5,6] from 18 to 93 (λs5 s6 wc=>s5=iV k/\s6=sL (some (aD xb xo)) (m+1) xc/\Z (RS w2.heap.size wc (auK ws (fPa ws) Vs (fFa ws) (Jd rs) (V3 rs) (k+1) k k k k))/\Z (Nx w2 wc))
  case first=>
   obtain⟨a0,n0,c0,a1,n1,c1,a2,n2,c2,a3,n3,c3,a4,n4,c4,hR0⟩:=HRS.o
   have hR:Z _:=hR0
   clear hR0
   have y4:_=some (sL a0 n0 c0):=hR.o.bx.c 0 rfl
   have z4:=hR.o.bx.frozen 0
   go_region_law (first|(go_simp;go_at_call 90;refine(Pc 0 0 _ _ ws ((wd ws k).take m) _ (by exact HWO.o.next HN.o.drew) (by exact(HXX.o.take (Nat.le_succ _) _).next HN.o.drew) HASC.o (by rw[HZ.o];omega)).mono ?_;rintro e w4 ⟨rfl,hx⟩;have hN4:=(Nx.refl _).drew.trans hx;have R4:Z _:=hR.o.next hN4;have hlow4:Z _:=HN.o.trans hN4;have y5:=Q0 hN4 y4;have y6:(w4.alloc (.cells #[iV (stW ws ((wd ws k).take m))] 2)).cell? (aD w2.heap.size 0)=some (sL a0 n0 c0):=Q0 (Qe _ _) y5)|(refine Jh rfl (.tmp 48) (.tmp 56) 23 rfl 2 ii (iV 0) 1 8 underlying23 hi hz0 hz1 hz2 rfl (by decide) (w2.heap.size+1) (sL a0 n0 c0) _ _ (by simp[Act.eval]) (zB R4.o.o0 _) (aD _ 0) 1 1 [iV (stW ws ((wd ws k).take m))] (by simp[Act.eval]) rfl (λj u hj=>Qn _ _ _ _ rfl j u hj) (by intro u hu;simp at hu;subst hu;rfl) (by have:=Vn (ws:=ws) (k:=k) hk2;unfold maxLen;simp only[auK];have:=this (fPa ws);omega) (by have:=Vn (ws:=ws) (k:=k) hk2 (fPa ws);simp only[auK];omega) (by have:=R4.o.bx.lt;rw[Q1];omega) ?_;intro v' w' hown hgrow hat;obtain⟨ra,rn,rc,hrs⟩:=Xg hown;subst hrs;have hbx:=(R4.o.box0 _ hgrow).1;have hfz:=(R4.o.box0 _ hgrow).2;have R':Z _:=R4.o.app0 _ hown hgrow (by first|exact hat|(rw[Q1];exact hat));have HGR:Z _:=hgrow;clear hown hgrow hat))
   all_goals go_wp2
   all_goals go_meet
   all_goals exact⟨rfl,rfl,RS.of0 R'.o HKN.o (by unfold fPa;rw[if_neg HWK.o,HDL.o]),R4.o.low0 _ HGR.o hlow4.o⟩
  case rest=>
  clear HRS HN
  obtain⟨hs5,hs6,HRS,HN⟩:=hcut
  subst hs5 hs6
  have x1:=Q0 HN.o x0
  go_upto_region 16 with fail
  go_cut [5,6] from 18 to 93 (λs5 s6 wc=>s5=iV k/\s6=sL (some (aD xb xo)) (m+1) xc/\Z (RS w2.heap.size wc (auK ws (fPa ws) Vs (fFa ws) (Jd rs) (V3 rs) (k+1) (k+1) k k k))/\Z (Nx w2 wc))
  case first=>
   obtain⟨a0,n0,c0,a1,n1,c1,a2,n2,c2,a3,n3,c3,a4,n4,c4,hR0⟩:=HRS.o
   have hR:Z _:=hR0
   clear hR0
   have R4:Z _:=hR.o
   have hlow4:Z _:=HN.o
   have y4:_=some (sL a1 n1 c1):=hR.o.bx.c 1 rfl
   have z4:=hR.o.bx.frozen 1
   have y6:((wc.alloc (.cells #[iV (iat (wd ws k) m)] 2)).drew).cell? (aD w2.heap.size 1)=some (sL a1 n1 c1):=Q0 (Qe _ _) y4
   go_region_law (refine Jh rfl (.tmp 60) (.tmp 67) 23 rfl 2 ii (iV 0) 1 8 underlying23 hi hz0 hz1 hz2 rfl (by decide) (w2.heap.size+1) (sL a1 n1 c1) _ _ (by simp[Act.eval]) (show((wc.alloc (.cells #[iV (iat (wd ws k) m)] 2)).drew).ownsRow _ _ _ _ _ _ from zB R4.o.o1 _) (aD wc.heap.size 0) 1 1 [iV (iat (wd ws k) m)] (by simp[Act.eval]) rfl (λj u hj=>show((wc.alloc (.cells #[iV (iat (wd ws k) m)] 2)).drew).cell? _=_ from Qn wc _ _ _ rfl j u hj) (by intro u hu;simp at hu;subst hu;rfl) (by have:=Vn (ws:=ws) (k:=k) hk2 Vs;unfold maxLen;simp only[auK];omega) (by have:=Vn (ws:=ws) (k:=k) hk2 Vs;simp only[auK];omega) (by have:=R4.o.bx.lt;show _<=(wc.alloc (.cells #[iV (iat (wd ws k) m)] 2)).heap.size;rw[Q1];omega) ?_;intro v' w' hown hgrow0 hat;have hgrow:(wc.alloc (.cells #[iV (iat (wd ws k) m)] 2)).grownBy w' (sL a1 n1 c1).ownBlock:=⟨hgrow0.os,hgrow0.tape,hgrow0.output,hgrow0.size,hgrow0.block⟩;obtain⟨ra,rn,rc,hrs⟩:=Xg hown;subst hrs;have hbx:=(R4.o.box1 _ hgrow).1;have hfz:=(R4.o.box1 _ hgrow).2;have R':Z _:=R4.o.app1 _ hown hgrow hat;have HGR:Z _:=hgrow;clear hown hgrow hgrow0 hat)
   all_goals go_wp2
   all_goals go_meet
   all_goals exact⟨rfl,rfl,RS.of1 R'.o HKN.o HLE.o,R4.o.low1 _ HGR.o hlow4.o⟩
  case rest=>
  clear HRS HN
  obtain⟨hs5,hs6,HRS,HN⟩:=hcut
  subst hs5 hs6
  go_upto_region 17 with fail
  go_cut [5,6] from 18 to 93 (λs5 s6 wc=>s5=iV k/\s6=sL (some (aD xb xo)) (m+1) xc/\Z (RS w2.heap.size wc (auK ws (fPa ws) Vs (fFa ws) (Jd rs) (V3 rs) (k+1) (k+1) (k+1) k k))/\Z (Nx w2 wc))
  case first=>
   obtain⟨a0,n0,c0,a1,n1,c1,a2,n2,c2,a3,n3,c3,a4,n4,c4,hR0⟩:=HRS.o
   have hR:Z _:=hR0
   clear hR0
   have y4:_=some (sL a2 n2 c2):=hR.o.bx.c 2 rfl
   have z4:=hR.o.bx.frozen 2
   go_region_law (first|(go_simp;go_at_call 91;refine(Wf 0 0 _ _ ws (wd ws k) 1 _ (by exact HWO.o.next HN.o.drew) (by exact HXX.o.next HN.o.drew) HASC.o (by rw[HZ.o];omega) (by rw[HXL.o];omega) (by rw[HXL.o];omega) ⟨_,_,_,rfl,HCAP.o⟩).mono ?_;rintro e w4 ⟨rfl,hx⟩;have hN4:=(Nx.refl _).drew.trans hx;have R4:Z _:=hR.o.next hN4;have hlow4:Z _:=HN.o.trans hN4;have y5:=Q0 hN4 y4;have y6:(w4.alloc (.cells #[iV (Zh ws (wd ws k) 1 (wd ws k).length)] 2)).cell? (aD w2.heap.size 2)=some (sL a2 n2 c2):=Q0 (Qe _ _) y5)|(refine Jh rfl (.tmp 71) (.tmp 75) 23 rfl 2 ii (iV 0) 1 8 underlying23 hi hz0 hz1 hz2 rfl (by decide) (w2.heap.size+1) (sL a2 n2 c2) _ _ (by simp[Act.eval]) (zB R4.o.o2 _) (aD _ 0) 1 1 [iV (Zh ws (wd ws k) 1 (wd ws k).length)] (by simp[Act.eval]) rfl (λj u hj=>Qn _ _ _ _ rfl j u hj) (by intro u hu;simp at hu;subst hu;rfl) (by have:=Vn (ws:=ws) (k:=k) hk2;unfold maxLen;simp only[auK];have:=this (fFa ws);omega) (by have:=Vn (ws:=ws) (k:=k) hk2 (fFa ws);simp only[auK];omega) (by have:=R4.o.bx.lt;rw[Q1];omega) ?_;intro v' w' hown hgrow hat;obtain⟨ra,rn,rc,hrs⟩:=Xg hown;subst hrs;have hbx:=(R4.o.box2 _ hgrow).1;have hfz:=(R4.o.box2 _ hgrow).2;have R':Z _:=R4.o.app2 _ hown hgrow (by first|exact hat|(rw[Q1];exact hat));have HGR:Z _:=hgrow;clear hown hgrow hat))
   all_goals go_wp2
   all_goals go_meet
   all_goals exact⟨rfl,rfl,RS.of2 R'.o HKN.o (by unfold fFa;rw[if_neg HWK.o];unfold LW;simp),R4.o.low2 _ HGR.o hlow4.o⟩
  case rest=>
  clear HRS HN
  obtain⟨hs5,hs6,HRS,HN⟩:=hcut
  subst hs5 hs6
  go_upto_region 18 with fail
  go_cut [5,6] from 18 to 93 (λs5 s6 wc=>s5=iV k/\s6=sL (some (aD xb xo)) (m+1) xc/\Z (RS w2.heap.size wc (auK ws (fPa ws) Vs (fFa ws) (Jd rs) (V3 rs) (k+1) (k+1) (k+1) (k+1) k))/\Z (Nx w2 wc))
  case first=>
   obtain⟨a0,n0,c0,a1,n1,c1,a2,n2,c2,a3,n3,c3,a4,n4,c4,hR0⟩:=HRS.o
   have hR:Z _:=hR0
   clear hR0
   have y4:_=some (sL a3 n3 c3):=hR.o.bx.c 3 rfl
   have z4:=hR.o.bx.frozen 3
   go_region_law (first|(go_simp;go_at_call 92;refine(Ex B 0 _ _ rs (wd ws k) _ (by exact HRN.o.next HN.o.drew) (by exact HXX.o.next HN.o.drew) (λi hi=>(Uy HG.o hi).1)).mono ?_;rintro e w4 ⟨rfl,hx⟩;have hN4:=(Nx.refl _).drew.trans hx;have R4:Z _:=hR.o.next hN4;have hlow4:Z _:=HN.o.trans hN4;have y5:=Q0 hN4 y4;have y6:(w4.alloc (.cells #[iV (Jd rs (wd ws k))] 2)).cell? (aD w2.heap.size 3)=some (sL a3 n3 c3):=Q0 (Qe _ _) y5)|(refine Jh rfl (.tmp 79) (.tmp 83) 23 rfl 2 ii (iV 0) 1 8 underlying23 hi hz0 hz1 hz2 rfl (by decide) (w2.heap.size+1) (sL a3 n3 c3) _ _ (by simp[Act.eval]) (zB R4.o.o3 _) (aD _ 0) 1 1 [iV (Jd rs (wd ws k))] (by simp[Act.eval]) rfl (λj u hj=>Qn _ _ _ _ rfl j u hj) (by intro u hu;simp at hu;subst hu;rfl) (by have:=Vn (ws:=ws) (k:=k) hk2;unfold maxLen;simp only[auK];have:=this (Jd rs);omega) (by have:=Vn (ws:=ws) (k:=k) hk2 (Jd rs);simp only[auK];omega) (by have:=R4.o.bx.lt;rw[Q1];omega) ?_;intro v' w' hown hgrow hat;obtain⟨ra,rn,rc,hrs⟩:=Xg hown;subst hrs;have hbx:=(R4.o.box3 _ hgrow).1;have hfz:=(R4.o.box3 _ hgrow).2;have R':Z _:=R4.o.app3 _ hown hgrow (by first|exact hat|(rw[Q1];exact hat));have HGR:Z _:=hgrow;clear hown hgrow hat))
   all_goals go_wp2
   all_goals go_meet
   all_goals exact⟨rfl,rfl,RS.of3 R'.o HKN.o rfl,R4.o.low3 _ HGR.o hlow4.o⟩
  case rest=>
  clear HRS HN
  obtain⟨hs5,hs6,HRS,HN⟩:=hcut
  subst hs5 hs6
  go_upto_region 19 with fail
  obtain⟨a0,n0,c0,a1,n1,c1,a2,n2,c2,a3,n3,c3,a4,n4,c4,hR0⟩:=HRS.o
  have hR:Z _:=hR0
  clear hR0
  have y4:_=some (sL a4 n4 c4):=hR.o.bx.c 4 rfl
  have z4:=hR.o.bx.frozen 4
  go_region_law (first|(go_simp;go_at_call 93;refine(Q0v B 0 _ _ rs (wd ws k) _ (by exact HRN.o.next HN.o.drew) (by exact HXX.o.next HN.o.drew)).mono ?_;rintro e w4 ⟨rfl,hx⟩;have hN4:=(Nx.refl _).drew.trans hx;have R4:Z _:=hR.o.next hN4;have hlow4:Z _:=HN.o.trans hN4;have y5:=Q0 hN4 y4;have y6:(w4.alloc (.cells #[.bool (V3 rs (wd ws k))] 4)).cell? (aD w2.heap.size 4)=some (sL a4 n4 c4):=Q0 (Qe _ _) y5)|(refine Jh rfl (.tmp 87) (.tmp 91) 96 rfl 4 jj (.bool false) 1 1 underlying96 hj0 hj1 hj2 hj3 rfl (by decide) (w2.heap.size+1) (sL a4 n4 c4) _ _ (by simp[Act.eval]) (zB R4.o.o4 _) (aD _ 0) 1 1 [.bool (V3 rs (wd ws k))] (by simp[Act.eval]) rfl (λj u hj=>Qn _ _ _ _ rfl j u hj) (by intro u hu;simp at hu;subst hu;rfl) (by have:=Iw (ws:=ws) (k:=k) hk2;unfold maxLen;simp only[auK];have:=this (V3 rs);omega) (by have:=Iw (ws:=ws) (k:=k) hk2 (V3 rs);simp only[auK];omega) (by have:=R4.o.bx.lt;rw[Q1];omega) ?_;intro v' w' hown hgrow hat;obtain⟨ra,rn,rc,hrs⟩:=Xg hown;subst hrs;have hbx:=(R4.o.box4 _ hgrow).1;have hfz:=(R4.o.box4 _ hgrow).2;have R':Z _:=R4.o.app4 _ hown hgrow (by first|exact hat|(rw[Q1];exact hat));have HGR:Z _:=hgrow;clear hown hgrow hat))
  all_goals go_wp2
  all_goals
   go_roundw
   case rel=>exact⟨k+1,by omega,by go_num,RS.of4 R'.o HKN.o rfl,R4.o.low4 _ HGR.o hlow4.o⟩
   case measure=>simp[intOf];omega
open Go.Maps
end Go.Proofs.YtphiaobccollhaaGreat
