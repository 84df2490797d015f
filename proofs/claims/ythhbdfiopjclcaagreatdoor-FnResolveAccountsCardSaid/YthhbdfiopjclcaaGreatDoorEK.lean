import Derived.Test.YthhbdfiopjclcaaGreatDoorME
import Derived.Test.YthhbdfiopjclcaaGreatDoorDY
namespace Go.Proofs.YthhbdfiopjclcaaGreatDoor
open Go.RowKit Go.Sort
set_option linter.unusedVariables false
set_option maxRecDepth 1000000
set_option maxHeartbeats 16000000
theorem Xp.r {C:Nat}{w:World}{v:Value}{xs:List Ru}(h:Xp C w v xs):Yz C C w v xs:=by
 obtain⟨vs,h1,h2,h3,_⟩:=h
 exact⟨vs,h1,h2,h3⟩
theorem Xk.at {C:Nat}{w:World}{a:Option Addr}{n c:Nat}{xs:List Dp}(h:Xk C w (.slice a n c) xs){i:Nat}(hi:i<xs.length):∃g,a=some ⟨g,0,none⟩/\w.cell? ⟨g,i*2,none⟩=some (.int .i64 (dpat xs i).rel)/\w.cell? ⟨g,i*2+1,none⟩=some (.int .i64 (dpat xs i).reason):=by
 obtain⟨b,c',e,-,-,-,-,k⟩:=Z5 (l:=xs) (f:=λx:Dp=>[.int .i64 x.rel,.int .i64 x.reason]) h rfl (by decide) (λ_=>rfl) (i:=i) (x:=dpat xs i) (by rw[dpat_eq hi];exact List.getElem?_eq_getElem hi)
 simp only[Value.slice.injEq] at e
 exact⟨b,e.1,k 0 (by omega),k 1 (by omega)⟩
theorem row_cap {C t sz n:Nat}{w:World}{v:Value}{xs:List Value}(h:w.ownsRow C t sz v n xs):Yx v:=by
 rcases h.2 with⟨e,h0⟩|⟨g,cap,cur,e,_,_,hc,_⟩
 ·exact⟨_,_,_,e,Nat.le_refl _⟩
 ·exact⟨_,_,_,e,hc⟩
theorem ONt.caps {C:Nat}{w:World}{v0 v1 v2 v3:Value}{N:Nt}{vn vw vr:Nat->Value}(h:ONt C w v0 v1 v2 v3 N vn vw vr):HRelsC w v2 N.rels:=by
 obtain⟨a,c,rfl⟩:=Q2 h.rels
 refine⟨a,c,rfl,row_max h.rels,λhp=>?_⟩
 obtain⟨b,c',e,hC,hb,_⟩:=h.rels.at hp
 simp only[Value.slice.injEq] at e
 obtain⟨rfl,_,rfl⟩:=e
 refine⟨b,0,rfl,Nat.zero_le _,hb,λi hi=>?_⟩
 obtain⟨_,_,k0,k1,k2,k3,k4,k5,k6⟩:=h.rel hi
 rw[Nat.zero_add]
 exact⟨_,k0,k1,k2,k3,k4,k5,k6,(h.rw_ i hi).held.base (Nat.zero_le _),row_cap (h.rw_ i hi)⟩
theorem ONt.at1 {C:Nat}{w:World}{a:Option Addr}{n c:Nat}{v0 v2 v3:Value}{N:Nt}{vn vw vr:Nat->Value}(h:ONt C w v0 (.slice a n c) v2 v3 N vn vw vr)(hp:0<N.ways.length):∃g,a=some ⟨g,0,none⟩:=by
 obtain⟨b,c',e,_⟩:=h.ways.at hp
 simp only[Value.slice.injEq] at e
 exact⟨b,e.1⟩
theorem ONt.at2 {C:Nat}{w:World}{a:Option Addr}{n c:Nat}{v0 v1 v3:Value}{N:Nt}{vn vw vr:Nat->Value}(h:ONt C w v0 v1 (.slice a n c) v3 N vn vw vr)(hp:0<N.rels.length):∃g,a=some ⟨g,0,none⟩:=by
 obtain⟨b,c',e,_⟩:=h.rels.at hp
 simp only[Value.slice.injEq] at e
 exact⟨b,e.1⟩
theorem szIn_up (ws:List Wy)(id:Int)(a:Nat):∀v m,szIn ws id a v<=szIn ws id a (v+m)
 |v,0=>Nat.le_refl _
 |v,m+1=>by
  have h:=szIn_up ws id a v m
  show _<=if (wat ws (v+m)).id=id then szIn ws id a (v+m)+(wat ws (v+m)).weights.length else szIn ws id a (v+m)
  split<;>omega
theorem szTo_up (ws:List Wy)(ways:List Int):∀u m,Zg ws ways u<=Zg ws ways (u+m)
 |u,0=>Nat.le_refl _
 |u,m+1=>by
  have h:=szTo_up ws ways u m
  have k:=szIn_up ws (iat ways (u+m)) (Zg ws ways (u+m)) 0 ws.length
  rw[Nat.zero_add] at k
  exact Nat.le_trans h k
theorem sz_le {ws:List Wy}{ways:List Int}{u v:Nat}(hu:u<ways.length)(hv:v<=ws.length):szIn ws (iat ways u) (Zg ws ways u) v<=Zg ws ways ways.length:=by
 have h1:=szIn_up ws (iat ways u) (Zg ws ways u) v (ws.length-v)
 rw[show v+(ws.length-v)=ws.length by omega] at h1
 have h2:=szTo_up ws ways (u+1) (ways.length-(u+1))
 rw[show u+1+(ways.length-(u+1))=ways.length by omega] at h2
 exact Nat.le_trans h1 h2
theorem field_first (a0 a1 a a3:Option Addr)(b0 b1 b b3 c0 c1 c c3:Nat)(w:World):(Instr.field 38 (.agg #[.slice a0 b0 c0,.slice a1 b1 c1,.slice a b c,.slice a3 b3 c3]) 2).run Tryz.prog w=.ok (.slice a b c) w:=by kernel_rfl
theorem field_drops (a d:Option Addr)(b c e f:Nat)(w:World):(Instr.field 33 (.agg #[.slice a b c,.slice d e f]) 1).run Tryz.prog w=.ok (.slice d e f) w:=by kernel_rfl
theorem Zo.sl {B:Nat}{w:World}{v0 v1 v2 v3:Value}{R:Rd}(h:Zo B w v0 v1 v2 v3 R):∃a0 b0 c0 a1 b1 c1 a c a3 b3 c3,v0=.slice a0 b0 c0/\v1=.slice a1 b1 c1/\v2=.slice a R.first.length c/\v3=.slice a3 b3 c3:=by
 rcases h with⟨rfl,rfl,rfl,rfl,rfl⟩|⟨gF,gO,cF,cO,rfl,rfl,_,hE,_,_,_,hN,_⟩
 ·exact⟨_,_,_,_,_,_,_,_,_,_,_,rfl,rfl,rfl,rfl⟩
 ·obtain⟨a,c,e⟩:=Q2 hN
  obtain⟨a1,c1,e1⟩:=Q2 hE
  exact⟨_,_,_,_,_,_,_,_,_,_,_,e,e1,rfl,rfl⟩
def U7:Code->List Code
 |.loop c=>c::U7 c
 |.seq a b=>U7 a++U7 b
 |.block _ c=>U7 c
 |.scope c=>U7 c
 |.cond _ a b=>U7 a++U7 b
 |_=>[]
theorem law_l3 {C:Nat}{v0 v2 v3:Value}{N:Nt}{vn vw vr:Nat->Value}{x:Rl}{p3 p10 nw mr c1 cr ga:Nat}{a1:Option Addr}{w1:World}(HO:Hid (ONt C w1 v0 (.slice a1 nw c1) v2 v3 N vn vw vr))(HNW:Hid (N.ways.length=nw))(hnw:nw<=2000)(HB3:Hid (∀q,Nx w1 q->q.cell? ⟨p3,1,none⟩=some (.slice a1 nw c1)))(HB6:Hid (∀q,Nx w1 q->q.cell? ⟨p10,6,none⟩=some (.slice (some ⟨ga,0,none⟩) mr cr)))(HRW:Hid (Q6 C w1 (.slice (some ⟨ga,0,none⟩) mr cr) x.ways))(HMR:Hid (x.ways.length=mr))(HSZ:Hid (∀u v,u<mr->v<=nw->szIn N.ways (iat x.ways u) (Zg N.ways x.ways u) v<=100000)){u:Nat}(hu:u<mr)(aA aB aC aE aF aG aH aI aJ aL aP aQ aR aS aT aU aV aW aX aY aZ bA bB bC bD bE bF bG bH bI bJ bK bL bM bN bO bP bQ bR bS bT bU bV bW bX bY bZ cA cB cC cD cE cF cG cH cI cJ cK cL cM cN cO cP cQ cR cS cT cU cV cW cX cY cZ dA dB dC dD dE dF dG dH dI dJ dK dL dM dN dO dP dQ dR dS dT dU dV dW dX dY dZ eA eB eC eD eE eF eG eH eI eJ eK eL eM eN eO eP eQ eR eS eT eU eV eW eX eY eZ fA fB fC fD fE fF fG fH fI fJ fK fL fM fN fO fP fQ fR fS fT fU fV fW fX fY fZ gB gC gD gE gF gG gH gI gJ gK gL gM gN gO gP gQ gS gT gU gV gW gX gY gZ hA hB hC hD hE hF hG hH hI hJ hK hL hM hN hO hP hQ hR hS hT hU hV hW hX hY hZ iA iB iC iD iE iF iG iH iI iJ iK iL iM iN iO iP iQ iR iS iT iU iV iW iX iY iZ jA jB jC jD jE jF jG jH jI jJ jK jL jM jN jO jP jQ jR jS jT jU jV jW jX jY jZ kA kB kC kD kE kF kG kH kI kJ kK kL kM kN kO kP kQ kR kS kT kU kV kW kX kY kZ lA lB lC lD lE lF lG lH lI lJ lK lL lM lN lO lP lQ lR lS lT lU lV lW lX lY lZ mA mB mC mD mE mF mG mH mI mJ mK mL mM mN mO mP mQ mR mS mT mU mV mW mX mY mZ:Value)(Q:Exit->Act->World->Prop)(hexit:∀(nJ nK nL nM nN nO nP nQ nR nS nT nU nV nW nX nY nZ oA oB oC oD oE oF oG oH oI oJ oK:Value) (wx:World),Hid (Nx w1 wx)->Q (.exit 4) ⟨#[aA,aB,aC,.pointer (some ⟨p3,0,none⟩),aE,aF,aG,aH,aI,aJ,.pointer (some ⟨p10,0,none⟩),aL,.int .i64 ((Zg N.ways x.ways (u+1):Nat):Int),.int .i64 (u:Int),.int .i64 (nw:Int),aP,aQ,aR,aS,aT,aU,aV,aW,aX,aY,aZ,bA,bB,bC,bD,bE,bF,bG,bH,bI,bJ,bK,bL,bM,bN,bO,bP,bQ,bR,bS,bT,bU,bV,bW,bX,bY,bZ,cA,cB,cC,cD,cE,cF,cG,cH,cI,cJ,cK,cL,cM,cN,cO,cP,cQ,cR,cS,cT,cU,cV,cW,cX,cY,cZ,dA,dB,dC,dD,dE,dF,dG,dH,dI,dJ,dK,dL,dM,dN,dO,dP,dQ,dR,dS,dT,dU,dV,dW,dX,dY,dZ,eA,eB,eC,eD,eE,eF,eG,eH,eI,eJ,eK,eL,eM,eN,eO,eP,eQ,eR,eS,eT,eU,eV,eW,eX,eY,eZ,fA,fB,fC,fD,fE,fF,fG,fH,fI,fJ,fK,fL,fM,fN,fO,fP,fQ,fR,fS,fT,fU,fV,fW,fX,fY,fZ,gB,gC,nJ,nK,nL,nM,nN,nO,nP,nQ,nR,nS,nT,nU,nV,nW,nX,nY,nZ,oA,oB,oC,oD,oE,oF,oG,oH,oI,oJ,oK,hG,hH,hI,hJ,hK,hL,hM,hN,hO,hP,hQ,hR,hS,hT,hU,hV,hW,hX,hY,hZ,iA,iB,iC,iD,iE,iF,iG,iH,iI,iJ,iK,iL,iM,iN,iO,iP,iQ,iR,iS,iT,iU,iV,iW,iX,iY,iZ,jA,jB,jC,jD,jE,jF,jG,jH,jI,jJ,jK,jL,jM,jN,jO,jP,jQ,jR,jS,jT,jU,jV,jW,jX,jY,jZ,kA,kB,kC,kD,kE,kF,kG,kH,kI,kJ,kK,kL,kM,kN,kO,kP,kQ,kR,kS,kT,kU,kV,kW,kX,kY,kZ,lA,lB,lC,lD,lE,lF,lG,lH,lI,lJ,lK,lL,lM,lN,lO,lP,lQ,lR,lS,lT,lU,lV,lW,lX,lY,lZ,mA,mB,mC,mD,mE,mF,mG,mH,mI,mJ,mK,mL,mM,mN,mO,mP,mQ,mR,mS,mT,mU,mV,mW,mX,mY,mZ],[]⟩ wx)(wz:World)(hz:Hid (Nx w1 wz)) :
  Code.wp Tryz.prog (Code.loop ((((Tryz.f3.body.map U7).getD [])[2]?).getD .skip)) Q ⟨#[aA,aB,aC,.pointer (some ⟨p3,0,none⟩),aE,aF,aG,aH,aI,aJ,.pointer (some ⟨p10,0,none⟩),aL,.int .i64 ((Zg N.ways x.ways u:Nat):Int),.int .i64 (u:Int),.int .i64 0,aP,aQ,aR,aS,aT,aU,aV,aW,aX,aY,aZ,bA,bB,bC,bD,bE,bF,bG,bH,bI,bJ,bK,bL,bM,bN,bO,bP,bQ,bR,bS,bT,bU,bV,bW,bX,bY,bZ,cA,cB,cC,cD,cE,cF,cG,cH,cI,cJ,cK,cL,cM,cN,cO,cP,cQ,cR,cS,cT,cU,cV,cW,cX,cY,cZ,dA,dB,dC,dD,dE,dF,dG,dH,dI,dJ,dK,dL,dM,dN,dO,dP,dQ,dR,dS,dT,dU,dV,dW,dX,dY,dZ,eA,eB,eC,eD,eE,eF,eG,eH,eI,eJ,eK,eL,eM,eN,eO,eP,eQ,eR,eS,eT,eU,eV,eW,eX,eY,eZ,fA,fB,fC,fD,fE,fF,fG,fH,fI,fJ,fK,fL,fM,fN,fO,fP,fQ,fR,fS,fT,fU,fV,fW,fX,fY,fZ,gB,gC,gD,gE,gF,gG,gH,gI,gJ,gK,gL,gM,gN,gO,gP,gQ,gS,gT,gU,gV,gW,gX,gY,gZ,hA,hB,hC,hD,hE,hF,hG,hH,hI,hJ,hK,hL,hM,hN,hO,hP,hQ,hR,hS,hT,hU,hV,hW,hX,hY,hZ,iA,iB,iC,iD,iE,iF,iG,iH,iI,iJ,iK,iL,iM,iN,iO,iP,iQ,iR,iS,iT,iU,iV,iW,iX,iY,iZ,jA,jB,jC,jD,jE,jF,jG,jH,jI,jJ,jK,jL,jM,jN,jO,jP,jQ,jR,jS,jT,jU,jV,jW,jX,jY,jZ,kA,kB,kC,kD,kE,kF,kG,kH,kI,kJ,kK,kL,kM,kN,kO,kP,kQ,kR,kS,kT,kU,kV,kW,kX,kY,kZ,lA,lB,lC,lD,lE,lF,lG,lH,lI,lJ,lK,lL,lM,lN,lO,lP,lQ,lR,lS,lT,lU,lV,lW,lX,lY,lZ,mA,mB,mC,mD,mE,mF,mG,mH,mI,mJ,mK,mL,mM,mN,mO,mP,mQ,mR,mS,mT,mU,mV,mW,mX,mY,mZ],[]⟩ wz:=by
 have HEX:=mh hexit
 clear hexit
 dsimp only
 conv=>arg 2;arg 1;whnf
 go_loopw [12,14] (λs12 s14 wr=>∃v:Nat,v<=nw/\s12=.int .i64 ((szIn N.ways (iat x.ways u) (Zg N.ways x.ways u) v:Nat):Int)/\s14=.int .i64 (v:Int)/\Hid (Nx w1 wr)) (λ_ s14 _=>nw-(intOf s14).toNat)
 case atStart=>exact⟨0,Nat.zero_le _,rfl,rfl,hz⟩
 clear hz
 obtain⟨v,hv,rfl,rfl,HX⟩:=hrel
 by_cases hlt:v<nw
 ·have hlt':(v:Int)<nw:=by omega
  have hvN:v<N.ways.length:=by rw[HNW.out];exact hlt
  have huI:(u:Int)<mr:=by omega
  have HOr:=mh (HO.out.next HX.out)
  obtain⟨gw,ew⟩:=HOr.out.at1 (by omega)
  subst ew
  obtain⟨-,-,t0,-,t3⟩:=HOr.out.way hvN
  obtain⟨aw,cw,eaw⟩:=Q2 (HOr.out.ww v hvN)
  rw[eaw] at t3
  have b1:=HB3.out _ HX.out
  have x6:=HB6.out _ HX.out
  obtain⟨-,-,r0⟩:=(HRW.out.next HX.out).in (j:=u) (by rw[HMR.out];exact hu)
  have hs1:=HSZ.out u (v+1) hu (by omega)
  have HS1:Hid ((szIn N.ways (iat x.ways u) (Zg N.ways x.ways u) (v+1):Nat)=if (wat N.ways v).id=iat x.ways u then (szIn N.ways (iat x.ways u) (Zg N.ways x.ways u) v:Nat)+(wat N.ways v).weights.length else (szIn N.ways (iat x.ways u) (Zg N.ways x.ways u) v:Nat)):=rfl
  clear HOr eaw
  generalize (wat N.ways v).weights.length=lw at *
  generalize (szIn N.ways (iat x.ways u) (Zg N.ways x.ways u) v:Nat)=sz at *
  generalize (wat N.ways v).id=wid at *
  generalize iat x.ways u=zid at *
  by_cases he:wid=zid
  ·rw[if_pos he] at HS1
   rw[HS1.out] at hs1
   have gA:(wid==zid)=true:=by simp[he]
   clear he
   go_wp2
   go_quiet (fail)
   have HDQ:Hid (Nx wr (wr.drewN nq)):=Qt _ _
   generalize wr.drewN nq=wq at *
   replace b1:=Q3 HDQ.out b1
   replace t3:=Q3 HDQ.out t3
   clear t0 x6 r0
   go_wp2
   go_roundw
   case rel=>exact⟨v+1,by omega,by rw[HS1.out];go_num,by go_num,HX.out.trans HDQ.out⟩
   case measure=>simp[intOf];omega
  ·rw[if_neg he] at HS1
   have gA:(wid==zid)=false:=by simp[he]
   clear he hs1
   go_wp2
   go_quiet (fail)
   have HDQ:Hid (Nx wr (wr.drewN nq)):=Qt _ _
   generalize wr.drewN nq=wq at *
   clear t0 x6 r0 b1 t3
   go_wp2
   go_roundw
   case rel=>exact⟨v+1,by omega,by rw[HS1.out],by go_num,HX.out.trans HDQ.out⟩
   case measure=>simp[intOf];omega
 have hvv:v=nw:=by omega
 subst hvv
 have HSE:Hid ((szIn N.ways (iat x.ways u) (Zg N.ways x.ways u) v:Nat)=Zg N.ways x.ways (u+1)):=by unfold Hid;rw[<-HNW.out];rfl
 have b1:=HB3.out _ HX.out
 rw[HSE.out]
 clear HSE hlt hv
 go_wp2
 exact HEX.out _ _ _ _ _ _ _ _ _ _ _ _ _ _ _ _ _ _ _ _ _ _ _ _ _ _ _ _ _ HX
theorem law_l2 {C:Nat}{v0 v2 v3:Value}{N:Nt}{vn vw vr:Nat->Value}{x:Rl}{p3 p10 nw mr c1 cr:Nat}{a1 ar:Option Addr}{w1:World}(HO:Hid (ONt C w1 v0 (.slice a1 nw c1) v2 v3 N vn vw vr))(HNW:Hid (N.ways.length=nw))(hnw:nw<=2000)(HB3:Hid (∀q,Nx w1 q->q.cell? ⟨p3,1,none⟩=some (.slice a1 nw c1)))(HB6:Hid (∀q,Nx w1 q->q.cell? ⟨p10,6,none⟩=some (.slice ar mr cr)))(HRW:Hid (Q6 C w1 (.slice ar mr cr) x.ways))(HMR:Hid (x.ways.length=mr))(HSZ:Hid (∀u v,u<mr->v<=nw->szIn N.ways (iat x.ways u) (Zg N.ways x.ways u) v<=100000))(hmr:mr<=100000)(aA aB aC aE aF aG aH aI aJ aL aO aP aQ aR aS aT aU aV aW aX aY aZ bA bB bC bD bE bF bG bH bI bJ bK bL bM bN bO bP bQ bR bS bT bU bV bW bX bY bZ cA cB cC cD cE cF cG cH cI cJ cK cL cM cN cO cP cQ cR cS cT cU cV cW cX cY cZ dA dB dC dD dE dF dG dH dI dJ dK dL dM dN dO dP dQ dR dS dT dU dV dW dX dY dZ eA eB eC eD eE eF eG eH eI eJ eK eL eM eN eO eP eQ eR eS eT eU eV eW eX eY eZ fA fB fC fD fE fF fG fH fI fJ fK fL fM fN fO fP fQ fR fS fT fU fV fW fX fY fZ gB gC gD gE gF gG gH gI gJ gK gL gM gN gO gP gQ gS gT gU gV gW gX gY gZ hA hB hC hD hE hF hG hH hI hJ hK hL hM hN hO hP hQ hR hS hT hU hV hW hX hY hZ iA iB iC iD iE iF iG iH iI iJ iK iL iM iN iO iP iQ iR iS iT iU iV iW iX iY iZ jA jB jC jD jE jF jG jH jI jJ jK jL jM jN jO jP jQ jR jS jT jU jV jW jX jY jZ kA kB kC kD kE kF kG kH kI kJ kK kL kM kN kO kP kQ kR kS kT kU kV kW kX kY kZ lA lB lC lD lE lF lG lH lI lJ lK lL lM lN lO lP lQ lR lS lT lU lV lW lX lY lZ mA mB mC mD mE mF mG mH mI mJ mK mL mM mN mO mP mQ mR mS mT mU mV mW mX mY mZ:Value)(Q:Exit->Act->World->Prop)(hexit:∀(nB nC nD nE nF nG nH nI nJ nK nL nM nN nO nP nQ nR nS nT nU nV nW nX nY nZ oA oB oC oD oE oF oG oH oI oJ oK:Value) (wx:World),Hid (Nx w1 wx)->Q (.exit 2) ⟨#[aA,aB,aC,.pointer (some ⟨p3,0,none⟩),aE,aF,aG,aH,aI,aJ,.pointer (some ⟨p10,0,none⟩),aL,.int .i64 ((Zg N.ways x.ways x.ways.length:Nat):Int),.int .i64 (mr:Int),nB,aP,aQ,aR,aS,aT,aU,aV,aW,aX,aY,aZ,bA,bB,bC,bD,bE,bF,bG,bH,bI,bJ,bK,bL,bM,bN,bO,bP,bQ,bR,bS,bT,bU,bV,bW,bX,bY,bZ,cA,cB,cC,cD,cE,cF,cG,cH,cI,cJ,cK,cL,cM,cN,cO,cP,cQ,cR,cS,cT,cU,cV,cW,cX,cY,cZ,dA,dB,dC,dD,dE,dF,dG,dH,dI,dJ,dK,dL,dM,dN,dO,dP,dQ,dR,dS,dT,dU,dV,dW,dX,dY,dZ,eA,eB,eC,eD,eE,eF,eG,eH,eI,eJ,eK,eL,eM,eN,eO,eP,eQ,eR,eS,eT,eU,eV,eW,eX,eY,eZ,fA,fB,fC,fD,fE,fF,fG,fH,fI,fJ,fK,fL,fM,fN,fO,fP,fQ,fR,fS,fT,fU,nC,nD,nE,nF,nG,nH,nI,nJ,nK,nL,nM,nN,nO,nP,nQ,nR,nS,nT,nU,nV,nW,nX,nY,nZ,oA,oB,oC,oD,oE,oF,oG,oH,oI,oJ,oK,hG,hH,hI,hJ,hK,hL,hM,hN,hO,hP,hQ,hR,hS,hT,hU,hV,hW,hX,hY,hZ,iA,iB,iC,iD,iE,iF,iG,iH,iI,iJ,iK,iL,iM,iN,iO,iP,iQ,iR,iS,iT,iU,iV,iW,iX,iY,iZ,jA,jB,jC,jD,jE,jF,jG,jH,jI,jJ,jK,jL,jM,jN,jO,jP,jQ,jR,jS,jT,jU,jV,jW,jX,jY,jZ,kA,kB,kC,kD,kE,kF,kG,kH,kI,kJ,kK,kL,kM,kN,kO,kP,kQ,kR,kS,kT,kU,kV,kW,kX,kY,kZ,lA,lB,lC,lD,lE,lF,lG,lH,lI,lJ,lK,lL,lM,lN,lO,lP,lQ,lR,lS,lT,lU,lV,lW,lX,lY,lZ,mA,mB,mC,mD,mE,mF,mG,mH,mI,mJ,mK,mL,mM,mN,mO,mP,mQ,mR,mS,mT,mU,mV,mW,mX,mY,mZ],[]⟩ wx)(wz:World)(hz:Hid (Nx w1 wz)) :
  Code.wp Tryz.prog (Code.loop ((((Tryz.f3.body.map U7).getD [])[1]?).getD .skip)) Q ⟨#[aA,aB,aC,.pointer (some ⟨p3,0,none⟩),aE,aF,aG,aH,aI,aJ,.pointer (some ⟨p10,0,none⟩),aL,.int .i64 2,.int .i64 0,aO,aP,aQ,aR,aS,aT,aU,aV,aW,aX,aY,aZ,bA,bB,bC,bD,bE,bF,bG,bH,bI,bJ,bK,bL,bM,bN,bO,bP,bQ,bR,bS,bT,bU,bV,bW,bX,bY,bZ,cA,cB,cC,cD,cE,cF,cG,cH,cI,cJ,cK,cL,cM,cN,cO,cP,cQ,cR,cS,cT,cU,cV,cW,cX,cY,cZ,dA,dB,dC,dD,dE,dF,dG,dH,dI,dJ,dK,dL,dM,dN,dO,dP,dQ,dR,dS,dT,dU,dV,dW,dX,dY,dZ,eA,eB,eC,eD,eE,eF,eG,eH,eI,eJ,eK,eL,eM,eN,eO,eP,eQ,eR,eS,eT,eU,eV,eW,eX,eY,eZ,fA,fB,fC,fD,fE,fF,fG,fH,fI,fJ,fK,fL,fM,fN,fO,fP,fQ,fR,fS,fT,fU,fV,fW,fX,fY,fZ,gB,gC,gD,gE,gF,gG,gH,gI,gJ,gK,gL,gM,gN,gO,gP,gQ,gS,gT,gU,gV,gW,gX,gY,gZ,hA,hB,hC,hD,hE,hF,hG,hH,hI,hJ,hK,hL,hM,hN,hO,hP,hQ,hR,hS,hT,hU,hV,hW,hX,hY,hZ,iA,iB,iC,iD,iE,iF,iG,iH,iI,iJ,iK,iL,iM,iN,iO,iP,iQ,iR,iS,iT,iU,iV,iW,iX,iY,iZ,jA,jB,jC,jD,jE,jF,jG,jH,jI,jJ,jK,jL,jM,jN,jO,jP,jQ,jR,jS,jT,jU,jV,jW,jX,jY,jZ,kA,kB,kC,kD,kE,kF,kG,kH,kI,kJ,kK,kL,kM,kN,kO,kP,kQ,kR,kS,kT,kU,kV,kW,kX,kY,kZ,lA,lB,lC,lD,lE,lF,lG,lH,lI,lJ,lK,lL,lM,lN,lO,lP,lQ,lR,lS,lT,lU,lV,lW,lX,lY,lZ,mA,mB,mC,mD,mE,mF,mG,mH,mI,mJ,mK,mL,mM,mN,mO,mP,mQ,mR,mS,mT,mU,mV,mW,mX,mY,mZ],[]⟩ wz:=by
 have HEX:=mh hexit
 clear hexit
 dsimp only
 conv=>arg 2;arg 1;whnf
 go_loopw [12,13] (λs12 s13 wr=>∃u:Nat,u<=mr/\s12=.int .i64 ((Zg N.ways x.ways u:Nat):Int)/\s13=.int .i64 (u:Int)/\Hid (Nx w1 wr)) (λ_ s13 _=>mr-(intOf s13).toNat)
 case atStart=>exact⟨0,Nat.zero_le _,rfl,rfl,hz⟩
 clear hz
 obtain⟨u,hu,rfl,rfl,HX⟩:=hrel
 by_cases hlt:u<mr
 ·have hlt':(u:Int)<mr:=by omega
  have hga:∃ga,ar=some ⟨ga,0,none⟩:=by
   obtain⟨g,c,cs,e,-⟩:=HRW.out.open (by rw[HMR.out];omega)
   simp only[Value.slice.injEq] at e
   exact⟨g,e.1⟩
  obtain⟨ga,ea⟩:=hga
  subst ea
  have x6:=HB6.out _ HX.out
  go_wp2
  refine law_l3 HO HNW hnw HB3 HB6 HRW HMR HSZ hlt _ _ _ _ _ _ _ _ _ _ _ _ _ _ _ _ _ _ _ _ _ _ _ _ _ _ _ _ _ _ _ _ _ _ _ _ _ _ _ _ _ _ _ _ _ _ _ _ _ _ _ _ _ _ _ _ _ _ _ _ _ _ _ _ _ _ _ _ _ _ _ _ _ _ _ _ _ _ _ _ _ _ _ _ _ _ _ _ _ _ _ _ _ _ _ _ _ _ _ _ _ _ _ _ _ _ _ _ _ _ _ _ _ _ _ _ _ _ _ _ _ _ _ _ _ _ _ _ _ _ _ _ _ _ _ _ _ _ _ _ _ _ _ _ _ _ _ _ _ _ _ _ _ _ _ _ _ _ _ _ _ _ _ _ _ _ _ _ _ _ _ _ _ _ _ _ _ _ _ _ _ _ _ _ _ _ _ _ _ _ _ _ _ _ _ _ _ _ _ _ _ _ _ _ _ _ _ _ _ _ _ _ _ _ _ _ _ _ _ _ _ _ _ _ _ _ _ _ _ _ _ _ _ _ _ _ _ _ _ _ _ _ _ _ _ _ _ _ _ _ _ _ _ _ _ _ _ _ _ _ _ _ _ _ _ _ _ _ _ _ _ _ _ _ _ _ _ _ _ _ _ _ _ _ _ _ _ _ _ _ _ _ _ _ _ _ _ _ _ _ _ _ _ _ _ _ _ _ _ _ _ _ _ _ _ _ _ _ _ _ _ _ _ _ _ _ _ _ _ _ _ _ ?_ _ HX
  intro nJ nK nL nM nN nO nP nQ nR nS nT nU nV nW nX nY nZ oA oB oC oD oE oF oG oH oI oJ oK wx HXx
  clear x6
  go_wp2
  go_roundw
  case rel=>exact⟨u+1,by omega,rfl,by go_num,HXx⟩
  case measure=>simp[intOf];omega
 have huu:u=mr:=by omega
 subst huu
 have x6:=HB6.out _ HX.out
 rw[<-HMR.out] at *
 go_wp2
 exact HEX.out _ _ _ _ _ _ _ _ _ _ _ _ _ _ _ _ _ _ _ _ _ _ _ _ _ _ _ _ _ _ _ _ _ _ _ _ _ HX
theorem law_l4 {Cq B:Nat}{N:Nt}{x:Rl}{q:List Int}{p5 gq mq cq ne f1:Nat}{e1:Option Addr}{w1:World}(HQ:Hid (Q6 Cq w1 (.slice (some ⟨gq,0,none⟩) mq cq) q))(HMQ:Hid (q.length=mq))(HA:Hid (Acc N x q))(HB5:Hid (∀q,Nx w1 q->q.cell? ⟨p5,1,none⟩=some (.slice e1 ne f1)))(HE:Hid (V4 B w1 (.slice e1 ne f1) (E1 N)))(HNE:Hid ((E1 N).length=ne))(hne:ne<=4000)(aA aB aC aD aE aG aH aI aJ aK aM aN aO aQ aR aS aT aU aV aW aX aY aZ bA bB bC bD bE bF bG bH bI bJ bK bL bM bN bO bP bQ bR bS bT bU bV bW bX bY bZ cA cB cC cD cE cF cG cH cI cJ cK cL cM cN cO cP cQ cR cS cT cU cV cW cX cY cZ dA dB dC dD dE dF dG dH dI dJ dK dL dM dN dO dP dQ dR dS dT dU dV dW dX dY dZ eA eB eC eD eE eF eG eH eI eJ eK eL eM eN eO eP eQ eR eS eT eU eV eW eX eY eZ fA fB fC fD fE fF fG fH fI fJ fK fL fM fN fO fP fQ fR fS fT fU fV fW fX fY fZ gB gC gD gE gF gG gH gI gJ gK gL gM gN gO gP gQ gS gT gU gV gW gX gY gZ hA hB hC hD hE hF hG hH hI hJ hK hL hM hN hO hP hQ hR hS hT hU hV hW hX hY hZ iA iB iC iD iE iF iG iH iI iJ iK iL iM iN iO iP iQ iR iS iT iU iV iW iX iY iZ jA jB jC jD jE jF jG jH jI jJ jK jL jM jN jO jP jQ jR jS jT jU jV jW jX jY jZ kA kB kC kD kE kF kG kH kI kJ kK kL kM kN kO kP kQ kR kS kT kU kV kW kX kY kZ lA lB lC lD lE lF lG lH lI lJ lK lL lM lN lO lP lQ lR lS lT lU lV lW lX lY lZ mA mB mC mD mE mF mG mH mI mJ mK mL mM mN mO mP mQ mR mS mT mU mV mW mX mY mZ:Value)(Q:Exit->Act->World->Prop)(hexit:∀(nA oL oM oN oO oP oQ oR oS oT oU oV oW oX oY oZ pA pB pC pD pE pF pG pH pI pJ pK pL pM pN pO pP pQ pR pS pT pU pV pW pX pY pZ qA qB qC qD qE qF:Value) (wx:World),Hid (Nx w1 wx)->Q (.exit 6) ⟨#[aA,aB,nA,aD,aE,.pointer (some ⟨p5,0,none⟩),aG,aH,aI,aJ,aK,.slice (some ⟨gq,0,none⟩) mq cq,aM,aN,aO,.int .i64 (mq:Int),aQ,aR,aS,aT,aU,aV,aW,aX,aY,aZ,bA,bB,bC,bD,bE,bF,bG,bH,bI,bJ,bK,bL,bM,bN,bO,bP,bQ,bR,bS,bT,bU,bV,bW,bX,bY,bZ,cA,cB,cC,cD,cE,cF,cG,cH,cI,cJ,cK,cL,cM,cN,cO,cP,cQ,cR,cS,cT,cU,cV,cW,cX,cY,cZ,dA,dB,dC,dD,dE,dF,dG,dH,dI,dJ,dK,dL,dM,dN,dO,dP,dQ,dR,dS,dT,dU,dV,dW,dX,dY,dZ,eA,eB,eC,eD,eE,eF,eG,eH,eI,eJ,eK,eL,eM,eN,eO,eP,eQ,eR,eS,eT,eU,eV,eW,eX,eY,eZ,fA,fB,fC,fD,fE,fF,fG,fH,fI,fJ,fK,fL,fM,fN,fO,fP,fQ,fR,fS,fT,fU,fV,fW,fX,fY,fZ,gB,gC,gD,gE,gF,gG,gH,gI,gJ,gK,gL,gM,gN,gO,gP,gQ,gS,gT,gU,gV,gW,gX,gY,gZ,hA,hB,hC,hD,hE,hF,hG,hH,hI,hJ,oL,oM,oN,oO,oP,oQ,oR,oS,oT,oU,oV,oW,oX,oY,oZ,pA,pB,pC,pD,pE,pF,pG,pH,pI,pJ,pK,pL,pM,pN,pO,pP,pQ,pR,pS,pT,pU,pV,pW,pX,pY,pZ,qA,qB,qC,qD,qE,qF,jF,jG,jH,jI,jJ,jK,jL,jM,jN,jO,jP,jQ,jR,jS,jT,jU,jV,jW,jX,jY,jZ,kA,kB,kC,kD,kE,kF,kG,kH,kI,kJ,kK,kL,kM,kN,kO,kP,kQ,kR,kS,kT,kU,kV,kW,kX,kY,kZ,lA,lB,lC,lD,lE,lF,lG,lH,lI,lJ,lK,lL,lM,lN,lO,lP,lQ,lR,lS,lT,lU,lV,lW,lX,lY,lZ,mA,mB,mC,mD,mE,mF,mG,mH,mI,mJ,mK,mL,mM,mN,mO,mP,mQ,mR,mS,mT,mU,mV,mW,mX,mY,mZ],[]⟩ wx)(wz:World)(hz:Hid (Nx w1 wz)) :
  Code.wp Tryz.prog (Code.loop ((((Tryz.f3.body.map U7).getD [])[3]?).getD .skip)) Q ⟨#[aA,aB,aC,aD,aE,.pointer (some ⟨p5,0,none⟩),aG,aH,aI,aJ,aK,.slice (some ⟨gq,0,none⟩) mq cq,aM,aN,aO,.int .i64 0,aQ,aR,aS,aT,aU,aV,aW,aX,aY,aZ,bA,bB,bC,bD,bE,bF,bG,bH,bI,bJ,bK,bL,bM,bN,bO,bP,bQ,bR,bS,bT,bU,bV,bW,bX,bY,bZ,cA,cB,cC,cD,cE,cF,cG,cH,cI,cJ,cK,cL,cM,cN,cO,cP,cQ,cR,cS,cT,cU,cV,cW,cX,cY,cZ,dA,dB,dC,dD,dE,dF,dG,dH,dI,dJ,dK,dL,dM,dN,dO,dP,dQ,dR,dS,dT,dU,dV,dW,dX,dY,dZ,eA,eB,eC,eD,eE,eF,eG,eH,eI,eJ,eK,eL,eM,eN,eO,eP,eQ,eR,eS,eT,eU,eV,eW,eX,eY,eZ,fA,fB,fC,fD,fE,fF,fG,fH,fI,fJ,fK,fL,fM,fN,fO,fP,fQ,fR,fS,fT,fU,fV,fW,fX,fY,fZ,gB,gC,gD,gE,gF,gG,gH,gI,gJ,gK,gL,gM,gN,gO,gP,gQ,gS,gT,gU,gV,gW,gX,gY,gZ,hA,hB,hC,hD,hE,hF,hG,hH,hI,hJ,hK,hL,hM,hN,hO,hP,hQ,hR,hS,hT,hU,hV,hW,hX,hY,hZ,iA,iB,iC,iD,iE,iF,iG,iH,iI,iJ,iK,iL,iM,iN,iO,iP,iQ,iR,iS,iT,iU,iV,iW,iX,iY,iZ,jA,jB,jC,jD,jE,jF,jG,jH,jI,jJ,jK,jL,jM,jN,jO,jP,jQ,jR,jS,jT,jU,jV,jW,jX,jY,jZ,kA,kB,kC,kD,kE,kF,kG,kH,kI,kJ,kK,kL,kM,kN,kO,kP,kQ,kR,kS,kT,kU,kV,kW,kX,kY,kZ,lA,lB,lC,lD,lE,lF,lG,lH,lI,lJ,lK,lL,lM,lN,lO,lP,lQ,lR,lS,lT,lU,lV,lW,lX,lY,lZ,mA,mB,mC,mD,mE,mF,mG,mH,mI,mJ,mK,mL,mM,mN,mO,mP,mQ,mR,mS,mT,mU,mV,mW,mX,mY,mZ],[]⟩ wz:=by
 have HEX:=mh hexit
 clear hexit
 have HMQ9:Hid (mq<=100000):=by unfold Hid;rw[<-HMQ.out];exact HA.out.big
 have hmq9:=HMQ9.out
 dsimp only
 conv=>arg 2;arg 1;whnf
 go_loopw [15] (λs15 wr=>∃u:Nat,u<=mq/\s15=.int .i64 (u:Int)/\Hid (Nx w1 wr)) (λs15 _=>mq-(intOf s15).toNat)
 case atStart=>exact⟨0,Nat.zero_le _,rfl,hz⟩
 clear hz
 obtain⟨u,hu,rfl,HX⟩:=hrel
 by_cases hlt:u<mq
 ·have hlt':(u:Int)<mq:=by omega
  have hq1:=HA.out.inn u (by rw[HMQ.out];exact hlt)
  rw[HNE.out] at hq1
  obtain⟨e,he⟩:∃e:Nat,iat q u=(e:Int):=⟨(iat q u).toNat,by omega⟩
  have hen:e<ne:=by omega
  have HEr:Hid (V4 B wr (.slice e1 ne f1) (E1 N)):=HE.out.keep (HX.out.keeps _)
  obtain⟨a',c',ee,-,hk⟩:=HEr.out
  simp only[Value.slice.injEq] at ee
  obtain⟨rfl,-,rfl⟩:=ee
  obtain⟨be,oe,rfl,-,-,hc⟩:=hk (by rw[HNE.out];omega)
  obtain⟨t0,-⟩:=hc e (by rw[HNE.out];exact hen)
  have d1:=HB5.out _ HX.out
  obtain⟨-,-,z0⟩:=(HQ.out.next HX.out).in (j:=u) (by rw[HMQ.out];exact hlt)
  rw[he] at z0
  have g0:decide ((e:Int)<0)=false:=decide_eq_false (by omega)
  have g0':¬(e:Int)<0:=by omega
  have g1:decide ((ne:Int)<=(e:Int))=false:=decide_eq_false (by omega)
  have g1':¬(ne:Int)<=(e:Int):=by omega
  have hein:(e:Int)<ne:=by omega
  cases u with
  |zero=>
   clear hk hc hq1 he
   go_upto_region 38 with fail
   go_quiet (fail)
   clear d1 t0 z0
   have HDQ:Hid (Nx wr (wr.drewN nq)):=Qt _ _
   generalize wr.drewN nq=wq at *
   go_wp2
   go_roundw
   case rel=>exact⟨1,by omega,by first|rfl|go_num,HX.out.trans HDQ.out⟩
   case measure=>simp[intOf];omega
  |succ u=>
   have hq2:=HA.out.inn u (by rw[HMQ.out];omega)
   rw[HNE.out] at hq2
   obtain⟨e',he'⟩:∃e:Nat,iat q u=(e:Int):=⟨(iat q u).toNat,by omega⟩
   have hen':e'<ne:=by omega
   have hein':(e':Int)<ne:=by omega
   obtain⟨-,s1,-⟩:=hc e' (by rw[HNE.out];exact hen')
   obtain⟨-,-,z1⟩:=(HQ.out.next HX.out).in (j:=u) (by rw[HMQ.out];omega)
   rw[he'] at z1
   have J:=HA.out.join u (by rw[HMQ.out];exact hlt)
   rw[he,he',Int.toNat_natCast,Int.toNat_natCast] at J
   rw[<-J] at t0
   have hu1:(u:Int)<mq:=by omega
   have hp1:decide ((0:Int)<((u+1:Nat):Int))=true:=decide_eq_true (by omega)
   have hp2:(0:Int)<((u+1:Nat):Int):=by omega
   have hmq9:=HMQ9.out
   clear hk hc hq1 hq2 he he' J
   generalize (eat (E1 N) e').head=hh at *
   go_upto_region 38 with fail
   go_quiet (fail)
   clear d1 t0 z0 s1 z1
   have HDQ:Hid (Nx wr (wr.drewN nq)):=Qt _ _
   generalize wr.drewN nq=wq at *
   go_wp2
   go_roundw
   case rel=>exact⟨u+1+1,by omega,by first|rfl|go_num,HX.out.trans HDQ.out⟩
   case measure=>simp[intOf];omega
 have huu:u=mq:=by omega
 subst huu
 clear hlt hu
 go_wp2
 exact HEX.out _ _ _ _ _ _ _ _ _ _ _ _ _ _ _ _ _ _ _ _ _ _ _ _ _ _ _ _ _ _ _ _ _ _ _ _ _ _ _ _ _ _ _ _ _ _ _ _ _ HX
theorem law_l5 {Cq C D:Nat}{x:Rl}{q:List Int}{rules:List Ru}{p4 p10 gq mq cq ni rc ii:Nat}{ra:Option Addr}{w1:World}(HQ:Hid (Q6 Cq w1 (.slice (some ⟨gq,0,none⟩) mq cq) q))(HMQ:Hid (q.length=mq))(HB4:Hid (∀q,Nx w1 q->q.cell? ⟨p4,0,none⟩=some (.slice ra ni rc)))(HBO:Hid (∀q,Nx w1 q->q.cell? ⟨p10,1,none⟩=some (.bool x.only)))(HRX:Hid (Yz C D w1 (.slice ra ni rc) rules))(HNI:Hid (rules.length=ni))(hii:ii<ni)(hi9:ii<=100000)(HNEW:Hid (∀u,u<ii->(V0 rules u).only=x.only->(V0 rules u).seq≠q))(aA aB aC aD aF aG aI aJ aM aN aO aP aR aS aT aU aV aW aX aY aZ bA bB bC bD bE bF bG bH bI bJ bK bL bM bN bO bP bQ bR bS bT bU bV bW bX bY bZ cA cB cC cD cE cF cG cH cI cJ cK cL cM cN cO cP cQ cR cS cT cU cV cW cX cY cZ dA dB dC dD dE dF dG dH dI dJ dK dL dM dN dO dP dQ dR dS dT dU dV dW dX dY dZ eA eB eC eD eE eF eG eH eI eJ eK eL eM eN eO eP eQ eR eS eT eU eV eW eX eY eZ fA fB fC fD fE fF fG fH fI fJ fK fL fM fN fO fP fQ fR fS fT fU fV fW fX fY fZ gB gC gD gE gF gG gH gI gJ gK gL gM gN gO gP gQ gS gT gU gV gW gX gY gZ hA hB hC hD hE hF hG hH hI hJ hK hL hM hN hO hP hQ hR hS hT hU hV hW hX hY hZ iA iB iC iD iE iF iG iH iI iJ iK iL iM iN iO iP iQ iR iS iT iU iV iW iX iY iZ jA jB jC jD jE jF jG jH jI jJ jK jL jM jN jO jP jQ jR jS jT jU jV jW jX jY jZ kA kB kC kD kE kF kG kH kI kJ kK kL kM kN kO kP kQ kR kS kT kU kV kW kX kY kZ lA lB lC lD lE lF lG lH lI lJ lK lL lM lN lO lP lQ lR lS lT lU lV lW lX lY lZ mA mB mC mD mE mF mG mH mI mJ mK mL mM mN mO mP mQ mR mS mT mU mV mW mX mY mZ:Value)(Q:Exit->Act->World->Prop)(hexit:∀(nA qG qH qI qJ qK qL qM qN qO qP qQ qR qS qT qU qV qW qX qY qZ rA rB rC rD:Value) (wx:World),Hid (Nx w1 wx)->Q (.exit 8) ⟨#[aA,aB,nA,aD,.pointer (some ⟨p4,0,none⟩),aF,aG,.int .i64 (ii:Int),aI,aJ,.pointer (some ⟨p10,0,none⟩),.slice (some ⟨gq,0,none⟩) mq cq,aM,aN,aO,aP,.int .i64 (ii:Int),aR,aS,aT,aU,aV,aW,aX,aY,aZ,bA,bB,bC,bD,bE,bF,bG,bH,bI,bJ,bK,bL,bM,bN,bO,bP,bQ,bR,bS,bT,bU,bV,bW,bX,bY,bZ,cA,cB,cC,cD,cE,cF,cG,cH,cI,cJ,cK,cL,cM,cN,cO,cP,cQ,cR,cS,cT,cU,cV,cW,cX,cY,cZ,dA,dB,dC,dD,dE,dF,dG,dH,dI,dJ,dK,dL,dM,dN,dO,dP,dQ,dR,dS,dT,dU,dV,dW,dX,dY,dZ,eA,eB,eC,eD,eE,eF,eG,eH,eI,eJ,eK,eL,eM,eN,eO,eP,eQ,eR,eS,eT,eU,eV,eW,eX,eY,eZ,fA,fB,fC,fD,fE,fF,fG,fH,fI,fJ,fK,fL,fM,fN,fO,fP,fQ,fR,fS,fT,fU,fV,fW,fX,fY,fZ,gB,gC,gD,gE,gF,gG,gH,gI,gJ,gK,gL,gM,gN,gO,gP,gQ,gS,gT,gU,gV,gW,gX,gY,gZ,hA,hB,hC,hD,hE,hF,hG,hH,hI,hJ,hK,hL,hM,hN,hO,hP,hQ,hR,hS,hT,hU,hV,hW,hX,hY,hZ,iA,iB,iC,iD,iE,iF,iG,iH,iI,iJ,iK,iL,iM,iN,iO,iP,iQ,iR,iS,iT,iU,iV,iW,iX,iY,iZ,jA,jB,jC,jD,jE,jF,jG,jH,jI,jJ,jK,jL,jM,jN,jO,jP,jQ,jR,jS,jT,jU,jV,jW,jX,jY,jZ,kA,kB,kC,kD,kE,kF,kG,kH,kI,kJ,kK,kL,kM,kN,kO,kP,kQ,kR,kS,kT,kU,kV,kW,kX,kY,kZ,lA,lB,lC,lD,lE,lF,lG,lH,qG,qH,qI,qJ,qK,qL,qM,qN,qO,qP,qQ,qR,qS,qT,qU,qV,qW,qX,qY,qZ,rA,rB,rC,rD,mG,mH,mI,mJ,mK,mL,mM,mN,mO,mP,mQ,mR,mS,mT,mU,mV,mW,mX,mY,mZ],[]⟩ wx)(wz:World)(hz:Hid (Nx w1 wz)) :
  Code.wp Tryz.prog (Code.loop ((((Tryz.f3.body.map U7).getD [])[4]?).getD .skip)) Q ⟨#[aA,aB,aC,aD,.pointer (some ⟨p4,0,none⟩),aF,aG,.int .i64 (ii:Int),aI,aJ,.pointer (some ⟨p10,0,none⟩),.slice (some ⟨gq,0,none⟩) mq cq,aM,aN,aO,aP,.int .i64 0,aR,aS,aT,aU,aV,aW,aX,aY,aZ,bA,bB,bC,bD,bE,bF,bG,bH,bI,bJ,bK,bL,bM,bN,bO,bP,bQ,bR,bS,bT,bU,bV,bW,bX,bY,bZ,cA,cB,cC,cD,cE,cF,cG,cH,cI,cJ,cK,cL,cM,cN,cO,cP,cQ,cR,cS,cT,cU,cV,cW,cX,cY,cZ,dA,dB,dC,dD,dE,dF,dG,dH,dI,dJ,dK,dL,dM,dN,dO,dP,dQ,dR,dS,dT,dU,dV,dW,dX,dY,dZ,eA,eB,eC,eD,eE,eF,eG,eH,eI,eJ,eK,eL,eM,eN,eO,eP,eQ,eR,eS,eT,eU,eV,eW,eX,eY,eZ,fA,fB,fC,fD,fE,fF,fG,fH,fI,fJ,fK,fL,fM,fN,fO,fP,fQ,fR,fS,fT,fU,fV,fW,fX,fY,fZ,gB,gC,gD,gE,gF,gG,gH,gI,gJ,gK,gL,gM,gN,gO,gP,gQ,gS,gT,gU,gV,gW,gX,gY,gZ,hA,hB,hC,hD,hE,hF,hG,hH,hI,hJ,hK,hL,hM,hN,hO,hP,hQ,hR,hS,hT,hU,hV,hW,hX,hY,hZ,iA,iB,iC,iD,iE,iF,iG,iH,iI,iJ,iK,iL,iM,iN,iO,iP,iQ,iR,iS,iT,iU,iV,iW,iX,iY,iZ,jA,jB,jC,jD,jE,jF,jG,jH,jI,jJ,jK,jL,jM,jN,jO,jP,jQ,jR,jS,jT,jU,jV,jW,jX,jY,jZ,kA,kB,kC,kD,kE,kF,kG,kH,kI,kJ,kK,kL,kM,kN,kO,kP,kQ,kR,kS,kT,kU,kV,kW,kX,kY,kZ,lA,lB,lC,lD,lE,lF,lG,lH,lI,lJ,lK,lL,lM,lN,lO,lP,lQ,lR,lS,lT,lU,lV,lW,lX,lY,lZ,mA,mB,mC,mD,mE,mF,mG,mH,mI,mJ,mK,mL,mM,mN,mO,mP,mQ,mR,mS,mT,mU,mV,mW,mX,mY,mZ],[]⟩ wz:=by
 have HEX:=mh hexit
 clear hexit
 dsimp only
 conv=>arg 2;arg 1;whnf
 go_loopw [16] (λs16 wr=>∃u:Nat,u<=ii/\s16=.int .i64 (u:Int)/\Hid (Nx w1 wr)) (λs16 _=>ii-(intOf s16).toNat)
 case atStart=>exact⟨0,Nat.zero_le _,rfl,hz⟩
 clear hz
 obtain⟨u,hu,rfl,HX⟩:=hrel
 by_cases hlt:u<ii
 ·have hlt':(u:Int)<ii:=by omega
  have hui:(u:Int)<ni:=by omega
  obtain⟨gR,va,ea,-,c1,c2,hv⟩:=(HRX.out.next HX.out).at (i:=u) (by rw[HNI.out];omega)
  subst ea
  obtain⟨av,cv,rfl⟩:=Q2 hv
  have HS:=mh hv.held
  have HQr:=mh ((HQ.out.next HX.out).held)
  have a0_:=HB4.out _ HX.out
  have x1:=HBO.out _ HX.out
  have hnew:=HNEW.out u hlt
  clear hv
  generalize hlv:(V0 rules u).seq.length=lv at *
  by_cases ho:(V0 rules u).only=x.only
  ·have gA:((V0 rules u).only==x.only)=true:=by simp[ho]
   have hne:=hnew ho
   rw[ho] at c1 gA
   have CG:Hid (∀d os,Calls Tryz.prog 10 #[.slice av lv cv,.slice (some ⟨gq,0,none⟩) mq cq] (Sort.grow (redrawn wr d) os) λe w''=>e=.returned (.bool false)/\∃p:Regrown,w''=Sort.grow (redrawn wr p.d) p.os):=λd os=>by
    have h:=lwSame_any D Cq _ _ _ _ _ (HS.out.next (below_regrown wr d os)) (HQr.out.next (below_regrown wr d os))
    rw[decide_eq_false hne] at h
    exact Calls.regrown_of h
   clear ho hnew hne hlv
   generalize x.only=xo at *
   have c1':=cell_regrown c1
   have c2':=cell_regrown c2
   have a0':=cell_regrown a0_
   have x1':=cell_regrown x1
   go_upto_region 47 with fail
   refine wp_region_quiet_below (by kernel_rfl) (by kernel_rfl) ?_
   repeat (go_big_quiet_step (exact CG.out _ _))
   refine wpQuiet_nil ?_
   intro _ hw'
   obtain⟨⟨dq,osq⟩,hw''⟩:=hw'
   subst hw''
   have HDQ:=mh (below_regrown wr dq osq)
   clear c1 c2 a0_ x1 c1' c2' a0' x1' CG
   generalize Sort.grow (redrawn wr dq) osq=wq at *
   go_wp2
   go_roundw
   case rel=>exact⟨u+1,by omega,by go_num,HX.out.trans HDQ.out⟩
   case measure=>simp[intOf];omega
  ·have gA:((V0 rules u).only==x.only)=false:=by simpa using ho
   clear ho hnew hlv
   generalize (V0 rules u).only=yo at *
   generalize x.only=xo at *
   go_upto_region 47 with fail
   go_quiet (fail)
   have HDQ:Hid (Nx wr (wr.drewN nq)):=Qt _ _
   clear c1 c2 a0_ x1
   generalize wr.drewN nq=wq at *
   go_wp2
   go_roundw
   case rel=>exact⟨u+1,by omega,by go_num,HX.out.trans HDQ.out⟩
   case measure=>simp[intOf];omega
 have huu:u=ii:=by omega
 subst huu
 clear hlt hu
 go_wp2
 exact HEX.out _ _ _ _ _ _ _ _ _ _ _ _ _ _ _ _ _ _ _ _ _ _ _ _ _ _ HX
end Go.Proofs.YthhbdfiopjclcaaGreatDoor
