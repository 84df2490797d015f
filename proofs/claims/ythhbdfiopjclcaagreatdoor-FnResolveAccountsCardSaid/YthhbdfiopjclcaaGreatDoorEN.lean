import Derived.Test.YthhbdfiopjclcaaGreatDoorEK
namespace Go.Proofs.YthhbdfiopjclcaaGreatDoor
open Go.RowKit Go.Sort
set_option linter.unusedVariables false
set_option maxRecDepth 1000000
set_option maxHeartbeats 16000000
theorem law_rD {B6 B9 C CX:Nat}{N:Nt}{vn vw vr:Nat->Value}{a0 a1 a2 a3 ra da xa e0 e1 e2 e3:Option Addr}{nn nw nr nt c0 c1 c2 c3 ni rc nd dc xc ne n2 n3 f0 f1 f2 f3 p3 p4 p5 k ii jj:Nat}{wS wr:World}{x:Rl}(HV:Hid (Qh N=true))(HNN0:Hid (N.nodes.length=nn))(HNW:Hid (N.ways.length=nw))(HNR:Hid (N.rels.length=nr))(HNI:Hid ((J5 N).rules.length=ni))(HND:Hid ((J5 N).drops.length=nd))(HNE:Hid ((E1 N).length=ne))(HOS:Hid (ONt C wS (.slice a0 nn c0) (.slice a1 nw c1) (.slice a2 nr c2) (.slice a3 nt c3) N vn vw vr))(HBXS:Hid (BT wS p3 #[.slice a0 nn c0,.slice a1 nw c1,.slice a2 nr c2,.slice a3 nt c3,.int .i64 N.uturn] 28))(HBYS:Hid (BT wS p4 #[.slice ra ni rc,.slice da nd dc] 33))(HBZS:Hid (BT wS p5 #[.slice e0 nn f0,.slice e1 ne f1,.slice e2 n2 f2,.slice e3 n3 f3] 38))(HRXS:Hid (Yz CX CX wS (.slice ra ni rc) (J5 N).rules))(HRDS:Hid (Xk CX wS (.slice da nd dc) (J5 N).drops))(HRES:Hid (Xk B9 wS (.slice xa nd xc) (J5 N).drops))(HR0S:Hid (Qo B6 wS (.slice e0 nn f0) N.nodes))(HR1S:Hid (V4 B6 wS (.slice e1 ne f1) (E1 N)))(HXR:Hid (Nx wS wr))(HK:Hid (k<nr))(HIJ:Hid (ii<=1000/\jj<=1000/\nr<=1000))(HXE:Hid (rat N.rels k=x))(d1:jj<nd)(d2:(dpat (J5 N).drops jj).rel=x.id)(aA aB aC aD aE aF aG aH aI aJ aK aL aM aN aO aP aQ aR aS aT aU aV aW aX aY aZ bA bB bC bD bE bF bG bH bI bJ bK bL bM bN bO bP bQ bR bS bT bU bV bW bX bY bZ cA cB cC cD cE cF cG cH cI cJ cK cL cM cN cO cP cQ cR cS cT cU cV cW cX cY cZ dA dB dC dD dE dF dG dH dI dJ dK dL dM dN dO dP dQ dR dS dT dU dV dW dX dY dZ eA eB eC eG eH eI eJ eK eL eM eN eO eP eQ eS eU eV eW eX eY eZ fA fB fC fD fE fF fG fH fI fJ fK fL fM fN fO fP fQ fR fS fT fU fV fW fX fY fZ gA gC gF gG gH gI gJ gK gL gM gN gO gP gQ gS gT gU gV gW gX gY gZ hA hB hC hD hE hF hG hH hI hJ hK hL hM hN hO hP hQ hR hS hT hU hV hW hX hY hZ iA iB iC iD iE iG iH iI iJ iK iL iM iN iO iP iQ iR iS iU iV iW iX iY iZ jA jB jC jD jE jF jG jH jI jJ jK jL jM jN jO jP jQ jR jS jT jU jV jW jX jY jZ kA kB kC kD kE kF kG kH kI kJ kK kL kM kN kO kP kQ kR kS kT kU kV kW kX kY kZ lA lB lC lD lE lF lG lH lI lJ lK lL lM lN lO lP lQ lR lS lT lU lV lW lX lY lZ mA mB mC mD mE mF mG mH mI mJ mK mL mM mN mO mP mQ mR mS mT mU mV mW mX mY mZ nA nB:Value)(Q:Exit->Act->World->Prop)(hexit:∀(s7 s8 s9 nE nF nG nH nI nJ nK nL nM nN nO nP nQ nR nS nT nU nV nW nX nY nZ oA oB oC oD oE oF oG oH oI oJ oK oL oM oN oO oP oQ oR oS oT oU oV oW oX oY oZ pA pB pC pD pE pF pG pH pI pJ pK pL pM pN pO pP pQ pR pS pT pU pV pW pX pY pZ qA qB qC qD qE qF qG qH qI qJ qK qL qM qN qO qP qQ qR qS qT qU qV qW qX qY qZ rA rB rC rD rE rF rG rH rI rJ rK rL rM rN rO rP rQ rR rS rT rU rV rW rX rY rZ sA sB sC sD sE sF sG sH sI sJ sK sL sM sN sO sP sQ sR sS sT sU sV sW sX sY sZ tA tB tC tD tE tF tG tH tI tJ tK tL tM tN tO tP tQ tR tS tT tU tV tW tX tY tZ uA uB uC uD uE uF uG uH uI uJ uK uL uM uN uO uP uQ uR uS uT uU uV uW uX uY uZ vA vB vC vD vE vF vG vH vI vJ vK vL vM vN vO vP vQ vR vS vT vU vV vW vX vY vZ wA wB wC wD wE wF wG wH wI wJ wK wL wM wN wO wP wQ wR wT wU wV wW wX wY:Value) (wx:World),s7=.int .i64 ((ii:Nat):Int)->s8=.int .i64 ((jj+1:Nat):Int)->s9=.int .i64 ((k+1:Nat):Int)->Hid (Nx wS wx)->Q .normal ⟨#[aA,aB,nE,.pointer (some ⟨p3,0,none⟩),.pointer (some ⟨p4,0,none⟩),.pointer (some ⟨p5,0,none⟩),.slice xa nd xc,s7,s8,s9,nF,nG,nH,nI,nJ,nK,nL,aK,aL,aM,aN,aO,aP,aQ,aR,aS,aT,aU,aV,aW,aX,aY,aZ,bA,bB,bC,bD,bE,bF,bG,bH,bI,bJ,bK,bL,bM,bN,bO,bP,bQ,bR,bS,bT,bU,bV,bW,bX,bY,bZ,cA,cB,cC,cD,cE,cF,cG,cH,cI,cJ,cK,cL,cM,nM,nN,nO,nP,nQ,nR,nS,nT,nU,nV,nW,nX,nY,nZ,oA,oB,oC,oD,oE,oF,oG,oH,oI,oJ,oK,oL,oM,oN,oO,oP,oQ,oR,oS,oT,oU,oV,oW,oX,oY,oZ,pA,pB,pC,pD,pE,pF,pG,pH,pI,pJ,pK,pL,pM,pN,pO,pP,pQ,pR,pS,pT,pU,pV,pW,pX,pY,pZ,qA,qB,qC,qD,qE,qF,qG,qH,qI,qJ,qK,qL,qM,qN,qO,qP,qQ,qR,qS,qT,qU,qV,qW,qX,qY,qZ,rA,rB,rC,rD,rE,rF,rG,rH,rI,rJ,rK,rL,rM,rN,rO,rP,rQ,rR,rS,rT,rU,rV,rW,rX,rY,rZ,sA,sB,sC,sD,sE,sF,sG,sH,sI,sJ,sK,sL,sM,sN,sO,sP,sQ,sR,sS,sT,sU,sV,sW,sX,sY,sZ,tA,tB,tC,tD,tE,tF,tG,tH,tI,tJ,tK,tL,tM,tN,tO,tP,tQ,tR,tS,tT,tU,tV,tW,tX,tY,tZ,uA,uB,uC,uD,uE,uF,uG,uH,uI,uJ,uK,uL,uM,uN,uO,uP,uQ,uR,uS,uT,uU,uV,uW,uX,uY,uZ,vA,vB,vC,vD,vE,vF,vG,vH,vI,vJ,vK,vL,vM,vN,vO,vP,vQ,vR,vS,vT,vU,vV,vW,vX,vY,vZ,wA,wB,wC,wD,wE,wF,wG,wH,wI,wJ,wK,wL,wM,wN,wO,wP,wQ,wR,wT,wU,wV,wW,wX,wY,mK,mL,mM,mN,mO,mP,mQ,mR,mS,mT,mU,mV,mW,mX,mY,mZ,nA,nB],[]⟩ wx) :
  Code.wp Tryz.prog ((((Tryz.f3.body.map U7).getD [])[0]?).getD .skip) Q ⟨#[aA,aB,aC,.pointer (some ⟨p3,0,none⟩),.pointer (some ⟨p4,0,none⟩),.pointer (some ⟨p5,0,none⟩),.slice xa nd xc,.int .i64 (ii:Int),.int .i64 (jj:Int),.int .i64 (k:Int),aD,aE,aF,aG,aH,aI,aJ,aK,aL,aM,aN,aO,aP,aQ,aR,aS,aT,aU,aV,aW,aX,aY,aZ,bA,bB,bC,bD,bE,bF,bG,bH,bI,bJ,bK,bL,bM,bN,bO,bP,bQ,bR,bS,bT,bU,bV,bW,bX,bY,bZ,cA,cB,cC,cD,cE,cF,cG,cH,cI,cJ,cK,cL,cM,cN,cO,cP,cQ,cR,cS,cT,cU,cV,cW,cX,cY,cZ,dA,dB,dC,dD,dE,dF,dG,dH,dI,dJ,dK,dL,dM,dN,dO,dP,dQ,dR,dS,dT,dU,dV,dW,dX,dY,dZ,eA,eB,eC,eG,eH,eI,eJ,eK,eL,eM,eN,eO,eP,eQ,eS,eU,eV,eW,eX,eY,eZ,fA,fB,fC,fD,fE,fF,fG,fH,fI,fJ,fK,fL,fM,fN,fO,fP,fQ,fR,fS,fT,fU,fV,fW,fX,fY,fZ,gA,gC,gF,gG,gH,gI,gJ,gK,gL,gM,gN,gO,gP,gQ,gS,gT,gU,gV,gW,gX,gY,gZ,hA,hB,hC,hD,hE,hF,hG,hH,hI,hJ,hK,hL,hM,hN,hO,hP,hQ,hR,hS,hT,hU,hV,hW,hX,hY,hZ,iA,iB,iC,iD,iE,iG,iH,iI,iJ,iK,iL,iM,iN,iO,iP,iQ,iR,iS,iU,iV,iW,iX,iY,iZ,jA,jB,jC,jD,jE,jF,jG,jH,jI,jJ,jK,jL,jM,jN,jO,jP,jQ,jR,jS,jT,jU,jV,jW,jX,jY,jZ,kA,kB,kC,kD,kE,kF,kG,kH,kI,kJ,kK,kL,kM,kN,kO,kP,kQ,kR,kS,kT,kU,kV,kW,kX,kY,kZ,lA,lB,lC,lD,lE,lF,lG,lH,lI,lJ,lK,lL,lM,lN,lO,lP,lQ,lR,lS,lT,lU,lV,lW,lX,lY,lZ,mA,mB,mC,mD,mE,mF,mG,mH,mI,mJ,mK,mL,mM,mN,mO,mP,mQ,mR,mS,mT,mU,mV,mW,mX,mY,mZ,nA,nB],[]⟩ wr:=by
 have HEX:=mh hexit
 clear hexit
 dsimp only
 conv=>arg 2;whnf
 have hmx:Tryz.prog.follows .mixedOrders=true:=by kernel_rfl
 have hlt:=HK.out
 have hkN:k<N.rels.length:=by rw[HNR.out];exact hlt
 have hlt':(k:Int)<nr:=by omega
 have hij:=HIJ.out
 have HOr:=mh (HOS.out.next HXR.out)
 obtain⟨gr,e2_⟩:=HOr.out.at2 (by omega)
 subst e2_
 obtain⟨-,-,k0,k1,k2,k3,k4,k5,k6⟩:=HOr.out.rel hkN
 obtain⟨ar,cr,er⟩:=Q2 (HOr.out.rw_ k hkN)
 rw[er] at k6
 have b2:wr.cell? ⟨p3,2,none⟩=some (.slice (some ⟨gr,0,none⟩) nr c2):=(HBXS.out.next HXR.out).blk.cell (i:=2) rfl
 have HRW:Hid (Q6 C wr (.slice ar (rat N.rels k).ways.length cr) (rat N.rels k).ways):=by have h:=HOr.out.rw_ k hkN;rw[er] at h;exact h
 rw[HXE.out] at k0 k1 k2 k3 k4 k5 k6 HRW
 generalize hmr:x.ways.length=mr at k6 HRW
 have HMR:=mh hmr
 clear hmr er HOr hkN
 have HBP:Hid (BT (wr.alloc (.cells #[.int .i64 x.id,.bool x.only,.int .i64 x.frm,.int .i64 x.to,.bool x.via,.int .i64 x.node,.slice ar mr cr] 41)) wr.heap.size #[.int .i64 x.id,.bool x.only,.int .i64 x.frm,.int .i64 x.to,.bool x.via,.int .i64 x.node,.slice ar mr cr] 41):=BT.new _ _ _ _ rfl
 have HXA:Hid (Nx wr (wr.alloc (.cells #[.int .i64 x.id,.bool x.only,.int .i64 x.frm,.int .i64 x.to,.bool x.via,.int .i64 x.node,.slice ar mr cr] 41))):=Qc _ _
 go_upto_region 17 with fail
 clear k0 k1 k2 k3 k4 k5 k6 b2
 generalize wr.alloc (.cells #[.int .i64 x.id,.bool x.only,.int .i64 x.frm,.int .i64 x.to,.bool x.via,.int .i64 x.node,.slice ar mr cr] 41)=w1 at *
 generalize wr.heap.size=p10 at *
 have HX1:Hid (Nx wS w1):=HXR.out.trans HXA.out
 have HRW1:=mh (HRW.out.next HXA.out)
 clear HRW HXR HXA
 obtain⟨gD,eD,nC,nD⟩:=(HRDS.out.next HX1.out).at (i:=jj) (by rw[HND.out];exact d1)
 subst eD
 obtain⟨gE,eE,z0,z1⟩:=(HRES.out.next HX1.out).at (i:=jj) (by rw[HND.out];exact d1)
 subst eE
 rw[d2] at nC z0
 have a1_:w1.cell? ⟨p4,1,none⟩=some (.slice (some ⟨gD,0,none⟩) nd dc):=(HBYS.out.next HX1.out).blk.cell (i:=1) rfl
 have x0:w1.cell? ⟨p10,0,none⟩=some (.int .i64 x.id):=HBP.out.blk.cell (i:=0) rfl
 generalize (dpat (J5 N).drops jj).reason=rs at *
 have hj:(jj:Int)<nd:=by omega
 have hjd:decide ((jj:Int)<nd)=true:=by simp;omega
 clear d1 d2
 go_quiet (fail)
 have HDQ:Hid (Nx w1 (w1.drewN nq)):=Qt _ _
 generalize w1.drewN nq=w2 at *
 have HX2:Hid (Nx wS w2):=HX1.out.trans HDQ.out
 replace a1_:=Q3 HDQ.out a1_
 replace nC:=Q3 HDQ.out nC
 replace nD:=Q3 HDQ.out nD
 replace z0:=Q3 HDQ.out z0
 replace z1:=Q3 HDQ.out z1
 clear HDQ x0
 have hjg:¬(nd:Int)<=jj:=by omega
 have hjn:decide ((nd:Int)<=jj)=false:=by simp;omega
 go_upto_region 18 with fail
 go_quiet (fail)
 have HDQ:Hid (Nx w2 (w2.drewN nq)):=Qt _ _
 generalize w2.drewN nq=w3 at *
 have HX3:Hid (Nx wS w3):=HX2.out.trans HDQ.out
 clear HDQ a1_ nC nD z0 z1
 go_wp2
 refine HEX.out _ _ _ _ _ _ _ _ _ _ _ _ _ _ _ _ _ _ _ _ _ _ _ _ _ _ _ _ _ _ _ _ _ _ _ _ _ _ _ _ _ _ _ _ _ _ _ _ _ _ _ _ _ _ _ _ _ _ _ _ _ _ _ _ _ _ _ _ _ _ _ _ _ _ _ _ _ _ _ _ _ _ _ _ _ _ _ _ _ _ _ _ _ _ _ _ _ _ _ _ _ _ _ _ _ _ _ _ _ _ _ _ _ _ _ _ _ _ _ _ _ _ _ _ _ _ _ _ _ _ _ _ _ _ _ _ _ _ _ _ _ _ _ _ _ _ _ _ _ _ _ _ _ _ _ _ _ _ _ _ _ _ _ _ _ _ _ _ _ _ _ _ _ _ _ _ _ _ _ _ _ _ _ _ _ _ _ _ _ _ _ _ _ _ _ _ _ _ _ _ _ _ _ _ _ _ _ _ _ _ _ _ _ _ _ _ _ _ _ _ _ _ _ _ _ _ _ _ _ _ _ _ _ _ _ _ _ _ _ _ _ _ _ _ _ _ _ _ _ _ _ _ _ _ _ _ _ _ ?_ ?_ ?_ HX3
 ·go_num
 ·go_num
 ·go_num
theorem law_rR {B6 B9 C CX:Nat}{N:Nt}{vn vw vr:Nat->Value}{a0 a1 a2 a3 ra da xa e0 e1 e2 e3:Option Addr}{nn nw nr nt c0 c1 c2 c3 ni rc nd dc xc ne n2 n3 f0 f1 f2 f3 p3 p4 p5 k ii jj:Nat}{wS wr:World}{x:Rl}(HV:Hid (Qh N=true))(HNN0:Hid (N.nodes.length=nn))(HNW:Hid (N.ways.length=nw))(HNR:Hid (N.rels.length=nr))(HNI:Hid ((J5 N).rules.length=ni))(HND:Hid ((J5 N).drops.length=nd))(HNE:Hid ((E1 N).length=ne))(HOS:Hid (ONt C wS (.slice a0 nn c0) (.slice a1 nw c1) (.slice a2 nr c2) (.slice a3 nt c3) N vn vw vr))(HBXS:Hid (BT wS p3 #[.slice a0 nn c0,.slice a1 nw c1,.slice a2 nr c2,.slice a3 nt c3,.int .i64 N.uturn] 28))(HBYS:Hid (BT wS p4 #[.slice ra ni rc,.slice da nd dc] 33))(HBZS:Hid (BT wS p5 #[.slice e0 nn f0,.slice e1 ne f1,.slice e2 n2 f2,.slice e3 n3 f3] 38))(HRXS:Hid (Yz CX CX wS (.slice ra ni rc) (J5 N).rules))(HRDS:Hid (Xk CX wS (.slice da nd dc) (J5 N).drops))(HRES:Hid (Xk B9 wS (.slice xa nd xc) (J5 N).drops))(HR0S:Hid (Qo B6 wS (.slice e0 nn f0) N.nodes))(HR1S:Hid (V4 B6 wS (.slice e1 ne f1) (E1 N)))(HXR:Hid (Nx wS wr))(HK:Hid (k<nr))(HIJ:Hid (ii<=1000/\jj<=1000/\nr<=1000))(HXE:Hid (rat N.rels k=x))(r1:jj<nd->(dpat (J5 N).drops jj).rel≠x.id)(r2:ii<ni)(r3:(V0 (J5 N).rules ii).rel=x.id)(r4:(V0 (J5 N).rules ii).only=x.only)(r5:Acc N x (V0 (J5 N).rules ii).seq)(r6:∀u,u<ii->(V0 (J5 N).rules u).only=x.only->(V0 (J5 N).rules u).seq≠(V0 (J5 N).rules ii).seq)(aA aB aC aD aE aF aG aH aI aJ aK aL aM aN aO aP aQ aR aS aT aU aV aW aX aY aZ bA bB bC bD bE bF bG bH bI bJ bK bL bM bN bO bP bQ bR bS bT bU bV bW bX bY bZ cA cB cC cD cE cF cG cH cI cJ cK cL cM cN cO cP cQ cR cS cT cU cV cW cX cY cZ dA dB dC dD dE dF dG dH dI dJ dK dL dM dN dO dP dQ dR dS dT dU dV dW dX dY dZ eA eB eC eG eH eI eJ eK eL eM eN eO eP eQ eS eU eV eW eX eY eZ fA fB fC fD fE fF fG fH fI fJ fK fL fM fN fO fP fQ fR fS fT fU fV fW fX fY fZ gA gC gF gG gH gI gJ gK gL gM gN gO gP gQ gS gT gU gV gW gX gY gZ hA hB hC hD hE hF hG hH hI hJ hK hL hM hN hO hP hQ hR hS hT hU hV hW hX hY hZ iA iB iC iD iE iG iH iI iJ iK iL iM iN iO iP iQ iR iS iU iV iW iX iY iZ jA jB jC jD jE jF jG jH jI jJ jK jL jM jN jO jP jQ jR jS jT jU jV jW jX jY jZ kA kB kC kD kE kF kG kH kI kJ kK kL kM kN kO kP kQ kR kS kT kU kV kW kX kY kZ lA lB lC lD lE lF lG lH lI lJ lK lL lM lN lO lP lQ lR lS lT lU lV lW lX lY lZ mA mB mC mD mE mF mG mH mI mJ mK mL mM mN mO mP mQ mR mS mT mU mV mW mX mY mZ nA nB:Value)(Q:Exit->Act->World->Prop)(hexit:∀(s7 s8 s9 nE nF nG nH nI nJ nK nL nM nN nO nP nQ nR nS nT nU nV nW nX nY nZ oA oB oC oD oE oF oG oH oI oJ oK oL oM oN oO oP oQ oR oS oT oU oV oW oX oY oZ pA pB pC pD pE pF pG pH pI pJ pK pL pM pN pO pP pQ pR pS pT pU pV pW pX pY pZ qA qB qC qD qE qF qG qH qI qJ qK qL qM qN qO qP qQ qR qS qT qU qV qW qX qY qZ rA rB rC rD rE rF rG rH rI rJ rK rL rM rN rO rP rQ rR rS rT rU rV rW rX rY rZ sA sB sC sD sE sF sG sH sI sJ sK sL sM sN sO sP sQ sR sS sT sU sV sW sX sY sZ tA tB tC tD tE tF tG tH tI tJ tK tL tM tN tO tP tQ tR tS tT tU tV tW tX tY tZ uA uB uC uD uE uF uG uH uI uJ uK uL uM uN uO uP uQ uR uS uT uU uV uW uX uY uZ vA vB vC vD vE vF vG vH vI vJ vK vL vM vN vO vP vQ vR vS vT vU vV vW vX vY vZ wA wB wC wD wE wF wG wH wI wJ wK wL wM wN wO wP wQ wR wT wU wV wW wX wY:Value) (wx:World),s7=.int .i64 ((ii+1:Nat):Int)->s8=.int .i64 ((jj:Nat):Int)->s9=.int .i64 ((k+1:Nat):Int)->Hid (Nx wS wx)->Q .normal ⟨#[aA,aB,nE,.pointer (some ⟨p3,0,none⟩),.pointer (some ⟨p4,0,none⟩),.pointer (some ⟨p5,0,none⟩),.slice xa nd xc,s7,s8,s9,nF,nG,nH,nI,nJ,nK,nL,aK,aL,aM,aN,aO,aP,aQ,aR,aS,aT,aU,aV,aW,aX,aY,aZ,bA,bB,bC,bD,bE,bF,bG,bH,bI,bJ,bK,bL,bM,bN,bO,bP,bQ,bR,bS,bT,bU,bV,bW,bX,bY,bZ,cA,cB,cC,cD,cE,cF,cG,cH,cI,cJ,cK,cL,cM,nM,nN,nO,nP,nQ,nR,nS,nT,nU,nV,nW,nX,nY,nZ,oA,oB,oC,oD,oE,oF,oG,oH,oI,oJ,oK,oL,oM,oN,oO,oP,oQ,oR,oS,oT,oU,oV,oW,oX,oY,oZ,pA,pB,pC,pD,pE,pF,pG,pH,pI,pJ,pK,pL,pM,pN,pO,pP,pQ,pR,pS,pT,pU,pV,pW,pX,pY,pZ,qA,qB,qC,qD,qE,qF,qG,qH,qI,qJ,qK,qL,qM,qN,qO,qP,qQ,qR,qS,qT,qU,qV,qW,qX,qY,qZ,rA,rB,rC,rD,rE,rF,rG,rH,rI,rJ,rK,rL,rM,rN,rO,rP,rQ,rR,rS,rT,rU,rV,rW,rX,rY,rZ,sA,sB,sC,sD,sE,sF,sG,sH,sI,sJ,sK,sL,sM,sN,sO,sP,sQ,sR,sS,sT,sU,sV,sW,sX,sY,sZ,tA,tB,tC,tD,tE,tF,tG,tH,tI,tJ,tK,tL,tM,tN,tO,tP,tQ,tR,tS,tT,tU,tV,tW,tX,tY,tZ,uA,uB,uC,uD,uE,uF,uG,uH,uI,uJ,uK,uL,uM,uN,uO,uP,uQ,uR,uS,uT,uU,uV,uW,uX,uY,uZ,vA,vB,vC,vD,vE,vF,vG,vH,vI,vJ,vK,vL,vM,vN,vO,vP,vQ,vR,vS,vT,vU,vV,vW,vX,vY,vZ,wA,wB,wC,wD,wE,wF,wG,wH,wI,wJ,wK,wL,wM,wN,wO,wP,wQ,wR,wT,wU,wV,wW,wX,wY,mK,mL,mM,mN,mO,mP,mQ,mR,mS,mT,mU,mV,mW,mX,mY,mZ,nA,nB],[]⟩ wx) :
  Code.wp Tryz.prog ((((Tryz.f3.body.map U7).getD [])[0]?).getD .skip) Q ⟨#[aA,aB,aC,.pointer (some ⟨p3,0,none⟩),.pointer (some ⟨p4,0,none⟩),.pointer (some ⟨p5,0,none⟩),.slice xa nd xc,.int .i64 (ii:Int),.int .i64 (jj:Int),.int .i64 (k:Int),aD,aE,aF,aG,aH,aI,aJ,aK,aL,aM,aN,aO,aP,aQ,aR,aS,aT,aU,aV,aW,aX,aY,aZ,bA,bB,bC,bD,bE,bF,bG,bH,bI,bJ,bK,bL,bM,bN,bO,bP,bQ,bR,bS,bT,bU,bV,bW,bX,bY,bZ,cA,cB,cC,cD,cE,cF,cG,cH,cI,cJ,cK,cL,cM,cN,cO,cP,cQ,cR,cS,cT,cU,cV,cW,cX,cY,cZ,dA,dB,dC,dD,dE,dF,dG,dH,dI,dJ,dK,dL,dM,dN,dO,dP,dQ,dR,dS,dT,dU,dV,dW,dX,dY,dZ,eA,eB,eC,eG,eH,eI,eJ,eK,eL,eM,eN,eO,eP,eQ,eS,eU,eV,eW,eX,eY,eZ,fA,fB,fC,fD,fE,fF,fG,fH,fI,fJ,fK,fL,fM,fN,fO,fP,fQ,fR,fS,fT,fU,fV,fW,fX,fY,fZ,gA,gC,gF,gG,gH,gI,gJ,gK,gL,gM,gN,gO,gP,gQ,gS,gT,gU,gV,gW,gX,gY,gZ,hA,hB,hC,hD,hE,hF,hG,hH,hI,hJ,hK,hL,hM,hN,hO,hP,hQ,hR,hS,hT,hU,hV,hW,hX,hY,hZ,iA,iB,iC,iD,iE,iG,iH,iI,iJ,iK,iL,iM,iN,iO,iP,iQ,iR,iS,iU,iV,iW,iX,iY,iZ,jA,jB,jC,jD,jE,jF,jG,jH,jI,jJ,jK,jL,jM,jN,jO,jP,jQ,jR,jS,jT,jU,jV,jW,jX,jY,jZ,kA,kB,kC,kD,kE,kF,kG,kH,kI,kJ,kK,kL,kM,kN,kO,kP,kQ,kR,kS,kT,kU,kV,kW,kX,kY,kZ,lA,lB,lC,lD,lE,lF,lG,lH,lI,lJ,lK,lL,lM,lN,lO,lP,lQ,lR,lS,lT,lU,lV,lW,lX,lY,lZ,mA,mB,mC,mD,mE,mF,mG,mH,mI,mJ,mK,mL,mM,mN,mO,mP,mQ,mR,mS,mT,mU,mV,mW,mX,mY,mZ,nA,nB],[]⟩ wr:=by
 have HEX:=mh hexit
 clear hexit
 dsimp only
 conv=>arg 2;whnf
 have hmx:Tryz.prog.follows .mixedOrders=true:=by kernel_rfl
 have hlt:=HK.out
 have hkN:k<N.rels.length:=by rw[HNR.out];exact hlt
 have hlt':(k:Int)<nr:=by omega
 have hij:=HIJ.out
 have HOr:=mh (HOS.out.next HXR.out)
 obtain⟨gr,e2_⟩:=HOr.out.at2 (by omega)
 subst e2_
 obtain⟨-,-,k0,k1,k2,k3,k4,k5,k6⟩:=HOr.out.rel hkN
 obtain⟨ar,cr,er⟩:=Q2 (HOr.out.rw_ k hkN)
 rw[er] at k6
 have b2:wr.cell? ⟨p3,2,none⟩=some (.slice (some ⟨gr,0,none⟩) nr c2):=(HBXS.out.next HXR.out).blk.cell (i:=2) rfl
 have HRW:Hid (Q6 C wr (.slice ar (rat N.rels k).ways.length cr) (rat N.rels k).ways):=by have h:=HOr.out.rw_ k hkN;rw[er] at h;exact h
 rw[HXE.out] at k0 k1 k2 k3 k4 k5 k6 HRW
 generalize hmr:x.ways.length=mr at k6 HRW
 have HMR:=mh hmr
 clear hmr er HOr hkN
 have HBP:Hid (BT (wr.alloc (.cells #[.int .i64 x.id,.bool x.only,.int .i64 x.frm,.int .i64 x.to,.bool x.via,.int .i64 x.node,.slice ar mr cr] 41)) wr.heap.size #[.int .i64 x.id,.bool x.only,.int .i64 x.frm,.int .i64 x.to,.bool x.via,.int .i64 x.node,.slice ar mr cr] 41):=BT.new _ _ _ _ rfl
 have HXA:Hid (Nx wr (wr.alloc (.cells #[.int .i64 x.id,.bool x.only,.int .i64 x.frm,.int .i64 x.to,.bool x.via,.int .i64 x.node,.slice ar mr cr] 41))):=Qc _ _
 go_upto_region 17 with fail
 clear k0 k1 k2 k3 k4 k5 k6 b2
 generalize wr.alloc (.cells #[.int .i64 x.id,.bool x.only,.int .i64 x.frm,.int .i64 x.to,.bool x.via,.int .i64 x.node,.slice ar mr cr] 41)=w1 at *
 generalize wr.heap.size=p10 at *
 have HX1:Hid (Nx wS w1):=HXR.out.trans HXA.out
 have HRW1:=mh (HRW.out.next HXA.out)
 clear HRW HXR HXA
 have HQA:=mh r5
 have HNEW:=mh r6
 have x0:w1.cell? ⟨p10,0,none⟩=some (.int .i64 x.id):=HBP.out.blk.cell (i:=0) rfl
 clear r5 r6
 go_cut [99] from 84 to 99 (λs99 wq=>s99=.bool false/\Hid (Nx w1 wq))
 case first=>
  by_cases hj:jj<nd
  ·have hne:=r1 hj
   obtain⟨gD,eD,nC,-⟩:=(HRDS.out.next HX1.out).at (i:=jj) (by rw[HND.out];exact hj)
   subst eD
   have a1_:w1.cell? ⟨p4,1,none⟩=some (.slice (some ⟨gD,0,none⟩) nd dc):=(HBYS.out.next HX1.out).blk.cell (i:=1) rfl
   generalize (dpat (J5 N).drops jj).rel=dr at *
   generalize x.id=xid at *
   have gB:(dr==xid)=false:=by simpa using hne
   have hji:(jj:Int)<nd:=by omega
   have hjd:decide ((jj:Int)<nd)=true:=decide_eq_true hji
   clear hne r1
   go_quiet (fail)
   go_wp2
   go_meet
   exact⟨rfl,Qt _ _⟩
  ·have a1_:w1.cell? ⟨p4,1,none⟩=some (.slice da nd dc):=(HBYS.out.next HX1.out).blk.cell (i:=1) rfl
   have hji:¬(jj:Int)<nd:=by omega
   have hjd:decide ((jj:Int)<nd)=false:=decide_eq_false hji
   clear r1
   go_quiet (fail)
   go_wp2
   go_meet
   exact⟨rfl,Qt _ _⟩
 case rest=>
 obtain⟨rfl,HXc⟩:=hcut
 have HX2:Hid (Nx wS wc):=HX1.out.trans HXc.out
 have HBPc:=mh (HBP.out.next HXc.out)
 obtain⟨gR,va,eR,c0_,c1_,c2_,hv⟩:=(HRXS.out.next HX2.out).at (i:=ii) (by rw[HNI.out];exact r2)
 subst eR
 rw[r3] at c0_
 rw[r4] at c1_
 clear r1 r3 r4 x0
 generalize hq:(V0 (J5 N).rules ii).seq=q at *
 obtain⟨gq,cq,-,eq_,-,-,-,-⟩:=hv.open (by have:=HQA.out.two;omega)
 obtain⟨m2,hm2⟩:∃m,q.length=m+1:=⟨q.length-1,by have:=HQA.out.two;omega⟩
 rw[hm2] at eq_
 subst eq_
 have HMQ:Hid (q.length=m2+1):=hm2
 have HQ:=mh hv
 have hm9:m2+1<=100000:=by rw[<-hm2];exact HQA.out.big
 have hiN:(ii:Int)<ni:=by omega
 have hgi:¬(ni:Int)<=ii:=by omega
 have hgd:decide ((ni:Int)<=ii)=false:=decide_eq_false hgi
 have a0_:wc.cell? ⟨p4,0,none⟩=some (.slice (some ⟨gR,0,none⟩) ni rc):=(HBYS.out.next HX2.out).blk.cell (i:=0) rfl
 have x0:wc.cell? ⟨p10,0,none⟩=some (.int .i64 x.id):=HBPc.out.blk.cell (i:=0) rfl
 have x1:wc.cell? ⟨p10,1,none⟩=some (.bool x.only):=HBPc.out.blk.cell (i:=1) rfl
 have HM1:Hid (1<=m2):=by have:=HQA.out.two;unfold Hid;omega
 clear hv hm2 hq
 go_upto_region 21 with fail
 go_quiet (fail)
 have HDQ:Hid (Nx wc (wc.drewN nq)):=Qt _ _
 generalize wc.drewN nq=w3 at *
 have HX3:Hid (Nx wS w3):=HX2.out.trans HDQ.out
 replace a0_:=Q3 HDQ.out a0_
 replace c2_:=Q3 HDQ.out c2_
 have HXq:Hid (Nx w1 w3):=HXc.out.trans HDQ.out
 have HXcq:Hid (Nx wc w3):=HDQ.out
 clear HDQ x0 x1 c0_ c1_ hgi hgd
 go_wp2
 have HO3:=mh (HOS.out.next HX3.out)
 have HBP3:=mh (HBP.out.next HXq.out)
 have HRW3:=mh (HRW1.out.next HXq.out)
 have HQ3:=mh (HQ.out.next HXcq.out)
 have hnw:nw<=2000:=by rw[<-HNW.out];exact(Jq HV.out).c1
 have HI:=mh (all_in HV.out k (by rw[HNR.out];exact HK.out))
 have hmr:mr<=100000:=by rw[<-HMR.out,<-HXE.out];have:=HI.out.len;omega
 have HSZ:Hid (∀u v,u<mr->v<=nw->szIn N.ways (iat x.ways u) (Zg N.ways x.ways u) v<=100000):=λu v hu hv=>by
  have h1:=sz_le (ws:=N.ways) (ways:=x.ways) (u:=u) (v:=v) (by rw[HMR.out];exact hu) (by rw[HNW.out];exact hv)
  rw[<-HQA.out.len] at h1
  have:=HQA.out.big
  omega
 refine law_l2 (w1:=w3) (N:=N) (x:=x) (nw:=nw) (mr:=mr) HO3 HNW hnw (λq hq=>(HBXS.out.next (HX3.out.trans hq)).blk.cell (i:=1) rfl) (λq hq=>(HBP3.out.next hq).blk.cell (i:=6) rfl) HRW3 HMR HSZ hmr _ _ _ _ _ _ _ _ _ _ _ _ _ _ _ _ _ _ _ _ _ _ _ _ _ _ _ _ _ _ _ _ _ _ _ _ _ _ _ _ _ _ _ _ _ _ _ _ _ _ _ _ _ _ _ _ _ _ _ _ _ _ _ _ _ _ _ _ _ _ _ _ _ _ _ _ _ _ _ _ _ _ _ _ _ _ _ _ _ _ _ _ _ _ _ _ _ _ _ _ _ _ _ _ _ _ _ _ _ _ _ _ _ _ _ _ _ _ _ _ _ _ _ _ _ _ _ _ _ _ _ _ _ _ _ _ _ _ _ _ _ _ _ _ _ _ _ _ _ _ _ _ _ _ _ _ _ _ _ _ _ _ _ _ _ _ _ _ _ _ _ _ _ _ _ _ _ _ _ _ _ _ _ _ _ _ _ _ _ _ _ _ _ _ _ _ _ _ _ _ _ _ _ _ _ _ _ _ _ _ _ _ _ _ _ _ _ _ _ _ _ _ _ _ _ _ _ _ _ _ _ _ _ _ _ _ _ _ _ _ _ _ _ _ _ _ _ _ _ _ _ _ _ _ _ _ _ _ _ _ _ _ _ _ _ _ _ _ _ _ _ _ _ _ _ _ _ _ _ _ _ _ _ _ _ _ _ _ _ _ _ _ _ _ _ _ _ _ _ _ _ _ _ _ _ _ _ _ _ _ _ _ _ _ _ _ _ _ _ _ _ _ _ _ _ _ _ _ _ _ _ _ _ ?_ _ (Nx.refl _)
 intro nJ qN qO qP qQ qR qS qT qU qV qW qX qY qZ rA rB rC rD rE rF rG rH rI rJ rK rL rM rN rO rP rQ rR rS rT rU rV w4 HX4_
 have HSE:Hid (Zg N.ways x.ways x.ways.length=m2+1):=by unfold Hid;rw[<-HQA.out.len];exact HMQ.out
 rw[HSE.out]
 clear HSE HSZ
 go_wp2
 have hne4:ne<=4000:=by rw[<-HNE.out];exact E1_le (Jq HV.out)
 have HX4:Hid (Nx wS w4):=HX3.out.trans HX4_.out
 refine law_l4 (w1:=w4) (N:=N) (x:=x) (q:=q) (mq:=m2+1) (HQ3.out.next HX4_.out) HMQ HQA (λq hq=>(HBZS.out.next (HX4.out.trans hq)).blk.cell (i:=1) rfl) (HR1S.out.keep (HX4.out.keeps _)) HNE hne4 _ _ _ _ _ _ _ _ _ _ _ _ _ _ _ _ _ _ _ _ _ _ _ _ _ _ _ _ _ _ _ _ _ _ _ _ _ _ _ _ _ _ _ _ _ _ _ _ _ _ _ _ _ _ _ _ _ _ _ _ _ _ _ _ _ _ _ _ _ _ _ _ _ _ _ _ _ _ _ _ _ _ _ _ _ _ _ _ _ _ _ _ _ _ _ _ _ _ _ _ _ _ _ _ _ _ _ _ _ _ _ _ _ _ _ _ _ _ _ _ _ _ _ _ _ _ _ _ _ _ _ _ _ _ _ _ _ _ _ _ _ _ _ _ _ _ _ _ _ _ _ _ _ _ _ _ _ _ _ _ _ _ _ _ _ _ _ _ _ _ _ _ _ _ _ _ _ _ _ _ _ _ _ _ _ _ _ _ _ _ _ _ _ _ _ _ _ _ _ _ _ _ _ _ _ _ _ _ _ _ _ _ _ _ _ _ _ _ _ _ _ _ _ _ _ _ _ _ _ _ _ _ _ _ _ _ _ _ _ _ _ _ _ _ _ _ _ _ _ _ _ _ _ _ _ _ _ _ _ _ _ _ _ _ _ _ _ _ _ _ _ _ _ _ _ _ _ _ _ _ _ _ _ _ _ _ _ _ _ _ _ _ _ _ _ _ _ _ _ _ _ _ _ _ _ _ _ _ _ _ _ _ _ _ _ _ _ _ _ _ _ _ _ _ _ _ _ _ _ _ _ _ _ _ ?_ _ (Nx.refl _)
 intro nE sA sB sC sD sE sF sG sH sI sJ sK sL sM sN sO sP sQ sR sS sT sU sV sW sX sY sZ tA tB tC tD tE tF tG tH tI tJ tK tL tM tN tO tP tQ tR tS tT tU w5 HX5_
 have HX5:Hid (Nx wS w5):=HX4.out.trans HX5_.out
 have HY5:Hid (Nx w3 w5):=HX4_.out.trans HX5_.out
 clear HX4 HX4_ HX5_
 have HE5:=mh (HR1S.out.keep (HX5.out.keeps _))
 have HO5:=mh (HOS.out.next HX5.out)
 have HQ5:=mh (HQ3.out.next HY5.out)
 have HP5:=mh (HBP3.out.next HY5.out)
 obtain⟨iF,hF1,hF2,hF3⟩:=HQA.out.frm
 obtain⟨iT,hT1,hT2,hT3⟩:=HQA.out.dst
 rw[HMQ.out,Nat.add_sub_cancel] at hT2
 have q0:=HQA.out.inn 0 (by rw[HMQ.out];omega)
 have ql:=HQA.out.inn m2 (by rw[HMQ.out];omega)
 rw[HNE.out] at q0 ql
 obtain⟨eF,heF⟩:∃e:Nat,iat q 0=(e:Int):=⟨(iat q 0).toNat,by omega⟩
 obtain⟨eT,heT⟩:∃e:Nat,iat q m2=(e:Int):=⟨(iat q m2).toNat,by omega⟩
 rw[heF,Int.toNat_natCast] at hF2
 rw[heT,Int.toNat_natCast] at hT2
 have hvia:=HQA.out.via
 rw[heF,Int.toNat_natCast] at hvia
 have hhd:=E1_head (Jq HV.out) (e:=eF) (by rw[HNE.out];omega)
 rw[HNN0.out] at hhd
 obtain⟨a',c',ee,-,hk⟩:=HE5.out
 simp only[Value.slice.injEq] at ee
 obtain⟨rfl,-,rfl⟩:=ee
 obtain⟨be,oe,rfl,-,-,hc⟩:=hk (by rw[HNE.out];omega)
 obtain⟨-,s1,-,s3,-⟩:=hc eF (by rw[HNE.out];omega)
 obtain⟨-,-,-,t3,-⟩:=hc eT (by rw[HNE.out];omega)
 rw[hF2] at s3
 rw[hT2] at t3
 obtain⟨hd0,hhd0⟩:∃h:Nat,(eat (E1 N) eF).head=(h:Int):=⟨(eat (E1 N) eF).head.toNat,by omega⟩
 rw[hhd0] at s1 hhd hvia
 rw[Int.toNat_natCast] at hvia
 obtain⟨gw,ew⟩:=HO5.out.at1 (by omega)
 subst ew
 obtain⟨-,-,g1,-⟩:=HO5.out.way hF1
 obtain⟨-,-,g2,-⟩:=HO5.out.way hT1
 rw[hF3] at g1
 rw[hT3] at g2
 obtain⟨-,-,z0⟩:=HQ5.out.in (j:=0) (by rw[HMQ.out];omega)
 obtain⟨-,-,z1⟩:=HQ5.out.in (j:=m2) (by rw[HMQ.out];omega)
 rw[heF] at z0
 rw[heT] at z1
 obtain⟨an,cn,een,-,hkn⟩:=HR0S.out.next HX5.out
 simp only[Value.slice.injEq] at een
 obtain⟨rfl,-,rfl⟩:=een
 obtain⟨bn,on,rfl,-,-,hcn⟩:=hkn (by rw[HNN0.out];omega)
 have n0:w5.cell? ⟨bn,on+hd0,none⟩=some (.int .i64 (iat N.nodes hd0)):=hcn hd0 (by rw[HNN0.out];omega)
 have b1:w5.cell? ⟨p3,1,none⟩=some (.slice (some ⟨gw,0,none⟩) nw c1):=(HBXS.out.next HX5.out).blk.cell (i:=1) rfl
 have d0:w5.cell? ⟨p5,0,none⟩=some (.slice (some ⟨bn,on,none⟩) nn f0):=(HBZS.out.next HX5.out).blk.cell (i:=0) rfl
 have d1:w5.cell? ⟨p5,1,none⟩=some (.slice (some ⟨be,oe,none⟩) ne f1):=(HBZS.out.next HX5.out).blk.cell (i:=1) rfl
 have x2:w5.cell? ⟨p10,2,none⟩=some (.int .i64 x.frm):=HP5.out.blk.cell (i:=2) rfl
 have x3:w5.cell? ⟨p10,3,none⟩=some (.int .i64 x.to):=HP5.out.blk.cell (i:=3) rfl
 have x4:w5.cell? ⟨p10,4,none⟩=some (.bool x.via):=HP5.out.blk.cell (i:=4) rfl
 have x5:w5.cell? ⟨p10,5,none⟩=some (.int .i64 x.node):=HP5.out.blk.cell (i:=5) rfl
 have hFw:iF<nw:=by rw[<-HNW.out];exact hF1
 have hTw:iT<nw:=by rw[<-HNW.out];exact hT1
 have i1:(eF:Int)<ne:=by omega
 have i2:(eT:Int)<ne:=by omega
 have i3:(iF:Int)<nw:=by omega
 have i4:(iT:Int)<nw:=by omega
 have i5:(hd0:Int)<nn:=by omega
 clear hF1 hF2 hF3 hT1 hT2 hT3 q0 ql heF heT hhd hk hc hhd0 hkn hcn hFw hTw HE5
 generalize x.frm=xfr at *
 generalize x.to=xto at *
 generalize iat N.nodes hd0=nid at *
 go_wp2
 go_quiet (fail)
 have HDQ:Hid (Nx w5 (w5.drewN nq)):=Qt _ _
 generalize w5.drewN nq=w6 at *
 have HX6:Hid (Nx wS w6):=HX5.out.trans HDQ.out
 replace s1:=Q3 HDQ.out s1
 replace n0:=Q3 HDQ.out n0
 replace z0:=Q3 HDQ.out z0
 replace d0:=Q3 HDQ.out d0
 replace d1:=Q3 HDQ.out d1
 replace x4:=Q3 HDQ.out x4
 replace x5:=Q3 HDQ.out x5
 have HY6:Hid (Nx w3 w6):=HY5.out.trans HDQ.out
 clear HDQ s3 t3 g1 g2 z1 b1 x2 x3
 have HVIA:=mh hvia
 clear hvia
 generalize hxv:x.via=xv at x4 HVIA
 clear hxv
 generalize x.node=xnd at *
 go_upto_region 42 with fail
 go_cut [291] from 273 to 291 (λs wq=>s=.bool false/\Hid (Nx w6 wq))
 case first=>
  cases xv with
  |true=>
   have e:=HVIA.out rfl
   subst e
   go_quiet (fail)
   go_wp2
   go_meet
   exact⟨rfl,Qt _ _⟩
  |false=>
   go_quiet (fail)
   go_wp2
   go_meet
   exact⟨rfl,Qt _ _⟩
 case rest=>
 obtain⟨rfl,HXc⟩:=hcut
 have HX7:Hid (Nx wS wc):=HX6.out.trans HXc.out
 have HY7:Hid (Nx w3 wc):=HY6.out.trans HXc.out
 clear s1 n0 z0 d0 d1 x4 x5
 go_wp2
 refine law_l5 (w1:=wc) (x:=x) (q:=q) (mq:=m2+1) (HQ3.out.next HY7.out) HMQ (λq hq=>(HBYS.out.next (HX7.out.trans hq)).blk.cell (i:=0) rfl) (λq hq=>(HBP3.out.next (HY7.out.trans hq)).blk.cell (i:=1) rfl) (HRXS.out.next HX7.out) HNI r2 (by omega) HNEW _ _ _ _ _ _ _ _ _ _ _ _ _ _ _ _ _ _ _ _ _ _ _ _ _ _ _ _ _ _ _ _ _ _ _ _ _ _ _ _ _ _ _ _ _ _ _ _ _ _ _ _ _ _ _ _ _ _ _ _ _ _ _ _ _ _ _ _ _ _ _ _ _ _ _ _ _ _ _ _ _ _ _ _ _ _ _ _ _ _ _ _ _ _ _ _ _ _ _ _ _ _ _ _ _ _ _ _ _ _ _ _ _ _ _ _ _ _ _ _ _ _ _ _ _ _ _ _ _ _ _ _ _ _ _ _ _ _ _ _ _ _ _ _ _ _ _ _ _ _ _ _ _ _ _ _ _ _ _ _ _ _ _ _ _ _ _ _ _ _ _ _ _ _ _ _ _ _ _ _ _ _ _ _ _ _ _ _ _ _ _ _ _ _ _ _ _ _ _ _ _ _ _ _ _ _ _ _ _ _ _ _ _ _ _ _ _ _ _ _ _ _ _ _ _ _ _ _ _ _ _ _ _ _ _ _ _ _ _ _ _ _ _ _ _ _ _ _ _ _ _ _ _ _ _ _ _ _ _ _ _ _ _ _ _ _ _ _ _ _ _ _ _ _ _ _ _ _ _ _ _ _ _ _ _ _ _ _ _ _ _ _ _ _ _ _ _ _ _ _ _ _ _ _ _ _ _ _ _ _ _ _ _ _ _ _ _ _ _ _ _ _ _ _ _ _ _ _ _ _ _ _ ?_ _ (Nx.refl _)
 intro nE vY vZ wA wB wC wD wE wF wG wH wI wJ wK wL wM wN wO wP wQ wR wT wU wV wW w8 HX8_
 have HX8:Hid (Nx wS w8):=HX7.out.trans HX8_.out
 go_wp2
 refine HEX.out _ _ _ _ _ _ _ _ _ _ _ _ _ _ _ _ _ _ _ _ _ _ _ _ _ _ _ _ _ _ _ _ _ _ _ _ _ _ _ _ _ _ _ _ _ _ _ _ _ _ _ _ _ _ _ _ _ _ _ _ _ _ _ _ _ _ _ _ _ _ _ _ _ _ _ _ _ _ _ _ _ _ _ _ _ _ _ _ _ _ _ _ _ _ _ _ _ _ _ _ _ _ _ _ _ _ _ _ _ _ _ _ _ _ _ _ _ _ _ _ _ _ _ _ _ _ _ _ _ _ _ _ _ _ _ _ _ _ _ _ _ _ _ _ _ _ _ _ _ _ _ _ _ _ _ _ _ _ _ _ _ _ _ _ _ _ _ _ _ _ _ _ _ _ _ _ _ _ _ _ _ _ _ _ _ _ _ _ _ _ _ _ _ _ _ _ _ _ _ _ _ _ _ _ _ _ _ _ _ _ _ _ _ _ _ _ _ _ _ _ _ _ _ _ _ _ _ _ _ _ _ _ _ _ _ _ _ _ _ _ _ _ _ _ _ _ _ _ _ _ _ _ _ _ _ _ _ _ ?_ ?_ ?_ HX8
 ·go_num
 ·go_num
 ·go_num
end Go.Proofs.YthhbdfiopjclcaaGreatDoor
