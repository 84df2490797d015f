import Derived.Test.YtphiaobccollhaaGreatQVPD
import Derived.LoopNIn
namespace Go.Proofs.YtphiaobccollhaaGreat
open Go.RowKit Go.Sort Go.Maps Go.Shelf Tryz
set_option linter.unusedVariables false
set_option maxRecDepth 1000000
set_option maxHeartbeats 16000000
variable {W W' w w' wC:World}{C bg bs bv bx c0 c1 c2 c3 c4 c5 c6 m0 m1 m2 m3 m4 m5 m6 mb n p q rb s0 sb v:Nat}{a0 a1 a2 a3 a4 a5 a6:Option Addr}{G:Gr}{gv:List Value}{t w0:Int}{iv sv v7:Value}{K:Nat->Rk}{Ds L S:List Nat}{D:DM}
attribute [local go_sem] Oper.semAt_some
structure ITC (W:World)(bg bv bs p rb n v b2 o2 m2 c2:Nat)(a3:Option Addr)(m3 c3:Nat)(a4:Option Addr)(m4 c4:Nat)(G:Gr)(r:Rk):Prop where
 g2:W.cell? (aD bg 2)=some (sL (some (aD b2 o2)) m2 c2)
 g3:W.cell? (aD bg 3)=some (sL a3 m3 c3)
 g4:W.cell? (aD bg 4)=some (sL a4 m4 c4)
 hv:W.cell? (aD bv 0)=some (iV (v:Int))
 hs:W.cell? (aD bs 0)=some (pT p)
 hr:W.cell? (aD p 8)=some (sL (sA rb) n n)
 k1:W.cell? (aD rb (v*2))=some (iV r.1)
 k2:W.cell? (aD rb (v*2+1))=some (iV r.2)
 f0:W.cell? (aD b2 (o2+v))=some (iV (fst G v:Int))
 f1:W.cell? (aD b2 (o2+(v+1)))=some (iV (fst G (v+1):Int))
 t:∀k,fst G v<=k->k<fst G (v+1)->∃b o,a3=some (aD b o)/\W.cell? (aD b (o+k))=some (iV (iat G.tt k))
 c:∀k,fst G v<=k->k<fst G (v+1)->∃b o,a4=some (aD b o)/\W.cell? (aD b (o+k))=some (iV (iat G.co k))
theorem ITC.kept {b2 o2:Nat}{r:Rk}(h:ITC W bg bv bs p rb n v b2 o2 m2 c2 a3 m3 c3 a4 m4 c4 G r)(k:∀b o u,W.cell? (aD b o)=some u->W'.cell? (aD b o)=some u):ITC W' bg bv bs p rb n v b2 o2 m2 c2 a3 m3 c3 a4 m4 c4 G r:=
 ⟨k _ _ _ h.g2,k _ _ _ h.g3,k _ _ _ h.g4,k _ _ _ h.hv,k _ _ _ h.hs,k _ _ _ h.hr,k _ _ _ h.k1,k _ _ _ h.k2,k _ _ _ h.f0,k _ _ _ h.f1,λq h1 h2=>by obtain⟨b,o,e,hc⟩:=h.t q h1 h2;exact⟨b,o,e,k _ _ _ hc⟩,λq h1 h2=>by obtain⟨b,o,e,hc⟩:=h.c q h1 h2;exact⟨b,o,e,k _ _ _ hc⟩⟩
def Zf (G:Gr)(r:Rk)(v k:Nat):List (Nat×Rk):=(List.range' (fst G v) (k-fst G v)).map (λj=>((iat G.tt j).toNat,aft r (iat G.co j)))
theorem Q0m (G:Gr)(r:Rk){k:Nat}(h:fst G v<=k):Zf G r v (k+1)=Zf G r v k++[((iat G.tt k).toNat,aft r (iat G.co k))]:=by
 unfold Zf
 rw[show k+1-fst G v=(k-fst G v)+1 by omega,List.range'_concat,yF,Nat.one_mul,show fst G v+(k-fst G v)=k by omega]
 rfl
theorem Qb0 (G:Gr)(r:Rk)(v k:Nat):(Zf G r v k).length=k-fst G v:=by simp[Zf]
def okX (G:Gr)(r:Rk)(v:Nat)(x:Nat×Rk):Prop:=∃k,fst G v<=k/\k<fst G (v+1)/\x=((iat G.tt k).toNat,aft r (iat G.co k))
def Qc0 (x:Nat×Rk):Array Value:=#[iV (x.1:Int),.agg #[iV x.2.1,iV x.2.2]]
theorem Q9u {β:Type}{B:Nat}{J:β->World->Prop}(h:AbidesFrom B J){s:β}(hs:J s w)(k:Nx w w'):J s w':=
 h s w w' none hs ⟨k.os,k.tape,k.output,k.size,λi hi _=>k.block i hi⟩ (λr e=>by cases e)
theorem yb_of {A B:Prop}{e:Ending}(h:(e=.returned (.bool true)/\A)\/(e=.returned (.bool false)/\B)):∃bb:Bool,e=.returned (.bool bb)/\Z (bb=true->A)/\Z (bb=false->B):=by
 rcases h with⟨h1,h2⟩|⟨h1,h2⟩
 ·exact⟨true,h1,λ_=>h2,λh=>(by cases h)⟩
 ·exact⟨false,h1,λh=>(by cases h),λ_=>h2⟩
theorem Q5l (l bg bv bs p rb n v b2 o2 m2 c2:Nat)(a3:Option Addr)(m3 c3:Nat)(a4:Option Addr)(m4 c4:Nat)(G:Gr)(r:Rk)(N m:Nat)(J Jx:List (Nat×Rk)->World->Prop)(HVG:Z (VG G))(hv:v<G.eo.length)(hm2:m2=G.fi.length)(hm3:m3=G.tt.length)(hm4:m4=G.co.length)(hvn:v<n)(hr1:0<=r.1/\r.1<=100000000000)(hr2:0<=r.2/\r.2<=100000)
  (hN:fst G (v+1)-fst G v<=N)
  (W:World) (HJ:Z (AbidesFrom W.heap.size J))
  (hY:∀pre x W,okX G r v x->J pre W->pre.length<N->YieldAt Fence.wide m prog l (Qc0 x) W λe W'=>(e=.returned (.bool true)/\J (pre++[x]) W'/\(ITC W bg bv bs p rb n v b2 o2 m2 c2 a3 m3 c3 a4 m4 c4 G r->ITC W' bg bv bs p rb n v b2 o2 m2 c2 a3 m3 c3 a4 m4 c4 G r))\/(e=.returned (.bool false)/\Jx (pre++[x]) W'))
  (hI:ITC W bg bv bs p rb n v b2 o2 m2 c2 a3 m3 c3 a4 m4 c4 G r) (h0:J [] W) :
  Calls prog 74 #[.func (.yield l) #[] #[],pT bg,pT bv,pT bs] W λe W'=>(∃x,e=.returned x)/\((∃ys,ys=Zf G r v (fst G (v+1))/\J ys W')\/(∃pre,(∃k,fst G v<=k/\k<fst G (v+1)/\pre=Zf G r v (k+1))/\Jx pre W')):=by
 have HY:=mh hY
 have HI0:=mh hI
 have H00:Z (J (Zf G r v (fst G v)) W):=by
  unfold Z Zf
  rw[Nat.sub_self]
  exact h0
 have hvm2:(v:Int)+1<m2:=by have:=HVG.o.lf;omega
 have hvm2':(v:Int)<m2:=by omega
 have hvv:v<=6000:=by have:=HVG.o.v;omega
 have HLE:=mh (Ku HVG.o hv)
 have HFT:=mh ((Jr HVG.o (show v+1<=G.eo.length by omega)).2)
 have hT4:=HVG.o.t
 have HVL:=mh hv
 have x1:=hI.g2
 have x2:=hI.hv
 have x3:=hI.f0
 have hf0:fst G v<=40000:=by have:=HLE.o;have:=HFT.o;omega
 clear hY hI h0 hv
 go_enter func74,ntmps74
 go_wp2
 clear x1 x2 x3
 go_loopw [5] (λk5 wr=>∃k:Nat,Z (fst G v<=k/\k<=fst G (v+1))/\k5=iV (k:Int)/\Z (ITC wr bg bv bs p rb n v b2 o2 m2 c2 a3 m3 c3 a4 m4 c4 G r)/\Z (J (Zf G r v k) wr) ) (λk5 _=>fst G (v+1)-(intOf k5).toNat)
 case atStart=>exact⟨fst G v,⟨lR,HLE.o⟩,rfl,HI0,H00⟩
 clear HI0 H00
 obtain⟨k,HK,rfl,HI,HJk⟩:=hrel
 have x1:=HI.o.g2
 have x2:=HI.o.hv
 have x3:=HI.o.f1
 generalize hke:fst G (v+1)=ke at *
 have HKE:=mh hke
 clear hke
 have hke4:ke<=40000:=by have:=HFT.o;omega
 have hkle:=HK.o.2
 by_cases hlt:k<ke
 case neg=>
  have d1:decide ((k:Int)<(ke:Int))=false:=yC (by omega)
  have d1':=yC hlt
  have hkk:k=ke:=by omega
  have HF:Z (J (Zf G r v ke) wr):=by rw[<-hkk];exact HJk
  clear hkk hkle
  go_wp2
  go_end0
  exact⟨⟨_,rfl⟩,oL ⟨_,rfl,by rw[HKE.o];exact HF.o⟩⟩
 have d1:decide ((k:Int)<(ke:Int))=true:=yB (by omega)
 have d1':=yB hlt
 have HKT:Z (k<G.tt.length):=by have:=HFT.o;unfold Z;omega
 obtain⟨b3,o3,ha3,y3⟩:=HI.o.t k HK.o.1 (by rw[HKE.o];exact hlt)
 obtain⟨b4,o4,ha4,y4⟩:=HI.o.c k HK.o.1 (by rw[HKE.o];exact hlt)
 subst ha3 ha4
 have htt:=HVG.o.tt k HKT.o
 have HCO:=mh (HVG.o.co k HKT.o)
 obtain⟨tv,hto⟩:∃tv:Nat,iat G.tt k=(tv:Int):=⟨(iat G.tt k).toNat,by omega⟩
 have HTO:=mh hto
 rw[hto] at y3
 have hkm3:(k:Int)<m3:=by have:=HKT.o;omega
 have hkm4:(k:Int)<m4:=by have:=HKT.o;have:=HVG.o.lc;omega
 have y1:=HI.o.g3
 have y2:=HI.o.g4
 have y5:=HI.o.hs
 have y6:=HI.o.hr
 have y7:=HI.o.k1
 have y8:=HI.o.k2
 have hvn':(v:Int)<n:=by omega
 have HR12:Z ((0<=r.1/\r.1<=100000000000)/\(0<=r.2/\r.2<=100000)):=⟨hr1,hr2⟩
 have HOUT:Z (Zf G r v (k+1)=Zf G r v k++[(tv,aft r (iat G.co k))]):=by unfold Z;rw[Q0m G r HK.o.1,HTO.o,zU]
 have HNL:Z ((Zf G r v k).length<N):=by unfold Z;rw[Qb0];have:=HK.o;omega
 have HOKX:Z (okX G r v (tv,aft r (iat G.co k))):=⟨k,HK.o.1,by rw[HKE.o];exact hlt,by rw[HTO.o,zU]⟩
 clear htt hto hr1 hr2
 generalize hco:iat G.co k=co at *
 have hmx:prog.follows .mixedOrders=true:=by kernel_rfl
 go_upto_region 3 with fail
 refine(wpIn_wide (n:=m+1)).1 ?_
 have HS0:Z ((λw=>w.cell? (aD bg 3)=some (sL (some (aD b3 o3)) m3 c3)/\w.cell? (aD b3 (o3+k))=some (iV (tv:Int))/\w.cell? (aD bs 0)=some (pT p)/\w.cell? (aD p 8)=some (sL (sA rb) n n)/\w.cell? (aD bv 0)=some (iV (v:Int))/\w.cell? (aD rb (v*2))=some (iV r.1)/\w.cell? (aD rb (v*2+1))=some (iV r.2)/\w.cell? (aD bg 4)=some (sL (some (aD b4 o4)) m4 c4)/\w.cell? (aD b4 (o4+k))=some (iV co)) wr.drew):=⟨y1,y3,y5,y6,x2,y7,y8,y2,y4⟩
 refine Qb (c:=19) (S:=λw=>w.cell? (aD bg 3)=some (sL (some (aD b3 o3)) m3 c3)/\w.cell? (aD b3 (o3+k))=some (iV (tv:Int))/\w.cell? (aD bs 0)=some (pT p)/\w.cell? (aD p 8)=some (sL (sA rb) n n)/\w.cell? (aD bv 0)=some (iV (v:Int))/\w.cell? (aD rb (v*2))=some (iV r.1)/\w.cell? (aD rb (v*2+1))=some (iV r.2)/\w.cell? (aD bg 4)=some (sL (some (aD b4 o4)) m4 c4)/\w.cell? (aD b4 (o4+k))=some (iV co)) hmx (by kernel_rfl) (λhw hcl=>?_)
 refine Qj (i:=0) (v:=.func (.yield l) #[] #[]) hw (by decide) hcl (Q9 rfl) rfl (by kernel_rfl) (by kernel_rfl) (by kernel_rfl) (λ_ _ _ h=>h) ⟨oL ⟨by rfl,?y0⟩,λ_=>rfl⟩ HS0.o (λhcl=>?_)
 case y0=>
  rintro w ⟨c1,c2,c3,c4,c5,c6,c7,c8,c9⟩
  go_simp
 refine Qj (i:=1) (v:=.pointer (some (aD bg 3))) hw (by decide) hcl (Q9 rfl) rfl (by kernel_rfl) (by kernel_rfl) (by kernel_rfl) (λ_ _ _ h=>h) ⟨oL ⟨by rfl,?y1⟩,λ_=>rfl⟩ HS0.o (λhcl=>?_)
 case y1=>
  rintro w ⟨c1,c2,c3,c4,c5,c6,c7,c8,c9⟩
  go_simp
 refine Qj (i:=2) (v:=sL (some (aD b3 o3)) m3 c3) hw (by decide) hcl (Q9 rfl) rfl (by kernel_rfl) (by kernel_rfl) (by kernel_rfl) (λ_ _ _ h=>h) ⟨oL ⟨by rfl,?y2⟩,λ_=>rfl⟩ HS0.o (λhcl=>?_)
 case y2=>
  rintro w ⟨c1,c2,c3,c4,c5,c6,c7,c8,c9⟩
  go_simp
 refine Qj (i:=3) (v:=iV (k:Int)) hw (by decide) hcl (Q9 rfl) rfl (by kernel_rfl) (by kernel_rfl) (by kernel_rfl) (λ_ _ _ h=>h) ⟨oL ⟨by rfl,?y3⟩,λ_=>rfl⟩ HS0.o (λhcl=>?_)
 case y3=>
  rintro w ⟨c1,c2,c3,c4,c5,c6,c7,c8,c9⟩
  go_simp
 refine Qj (i:=4) (v:=.pointer (some (aD b3 (o3+k)))) hw (by decide) hcl (Q9 rfl) rfl (by kernel_rfl) (by kernel_rfl) (by kernel_rfl) (λ_ _ _ h=>h) ⟨oL ⟨by rfl,?y4⟩,λ_=>rfl⟩ HS0.o (λhcl=>?_)
 case y4=>
  rintro w ⟨c1,c2,c3,c4,c5,c6,c7,c8,c9⟩
  go_simp
  intro h
  omega
 refine Qj (i:=5) (v:=iV (tv:Int)) hw (by decide) hcl (Q9 rfl) rfl (by kernel_rfl) (by kernel_rfl) (by kernel_rfl) (λ_ _ _ h=>h) ⟨oL ⟨by rfl,?y5⟩,λ_=>rfl⟩ HS0.o (λhcl=>?_)
 case y5=>
  rintro w ⟨c1,c2,c3,c4,c5,c6,c7,c8,c9⟩
  go_simp
 refine Qj (i:=6) (v:=pT p) hw (by decide) hcl (Q9 rfl) rfl (by kernel_rfl) (by kernel_rfl) (by kernel_rfl) (λ_ _ _ h=>h) ⟨oL ⟨by rfl,?y6⟩,λ_=>rfl⟩ HS0.o (λhcl=>?_)
 case y6=>
  rintro w ⟨c1,c2,c3,c4,c5,c6,c7,c8,c9⟩
  go_simp
 refine Qj (i:=7) (v:=pT p) hw (by decide) hcl (Q9 rfl) rfl (by kernel_rfl) (by kernel_rfl) (by kernel_rfl) (λ_ _ _ h=>h) ⟨oL ⟨by rfl,?y7⟩,λ_=>rfl⟩ HS0.o (λhcl=>?_)
 case y7=>
  rintro w ⟨c1,c2,c3,c4,c5,c6,c7,c8,c9⟩
  go_simp
 refine Qj (i:=8) (v:=.pointer (some (aD p 8))) hw (by decide) hcl (Q9 rfl) rfl (by kernel_rfl) (by kernel_rfl) (by kernel_rfl) (λ_ _ _ h=>h) ⟨oL ⟨by rfl,?y8⟩,λ_=>rfl⟩ HS0.o (λhcl=>?_)
 case y8=>
  rintro w ⟨c1,c2,c3,c4,c5,c6,c7,c8,c9⟩
  go_simp
 refine Qj (i:=9) (v:=sL (sA rb) n n) hw (by decide) hcl (Q9 rfl) rfl (by kernel_rfl) (by kernel_rfl) (by kernel_rfl) (λ_ _ _ h=>h) ⟨oL ⟨by rfl,?y9⟩,λ_=>rfl⟩ HS0.o (λhcl=>?_)
 case y9=>
  rintro w ⟨c1,c2,c3,c4,c5,c6,c7,c8,c9⟩
  go_simp
 refine Qj (i:=10) (v:=iV (v:Int)) hw (by decide) hcl (Q9 rfl) rfl (by kernel_rfl) (by kernel_rfl) (by kernel_rfl) (λ_ _ _ h=>h) ⟨oL ⟨by rfl,?y10⟩,λ_=>rfl⟩ HS0.o (λhcl=>?_)
 case y10=>
  rintro w ⟨c1,c2,c3,c4,c5,c6,c7,c8,c9⟩
  go_simp
 refine Qj (i:=11) (v:=.pointer (some (aD rb (v*2)))) hw (by decide) hcl (Q9 rfl) rfl (by kernel_rfl) (by kernel_rfl) (by kernel_rfl) (λ_ _ _ h=>h) ⟨oL ⟨by rfl,?y11⟩,λ_=>rfl⟩ HS0.o (λhcl=>?_)
 case y11=>
  rintro w ⟨c1,c2,c3,c4,c5,c6,c7,c8,c9⟩
  go_simp
 refine Qj (i:=12) (v:=.agg #[iV r.1,iV r.2]) hw (by decide) hcl (Q9 rfl) rfl (by kernel_rfl) (by kernel_rfl) (by kernel_rfl) (λ_ _ _ h=>h) ⟨oL ⟨by rfl,?y12⟩,λ_=>rfl⟩ HS0.o (λhcl=>?_)
 case y12=>
  rintro w ⟨c1,c2,c3,c4,c5,c6,c7,c8,c9⟩
  go_simp
 refine Qj (i:=13) (v:=.pointer (some (aD bg 4))) hw (by decide) hcl (Q9 rfl) rfl (by kernel_rfl) (by kernel_rfl) (by kernel_rfl) (λ_ _ _ h=>h) ⟨oL ⟨by rfl,?y13⟩,λ_=>rfl⟩ HS0.o (λhcl=>?_)
 case y13=>
  rintro w ⟨c1,c2,c3,c4,c5,c6,c7,c8,c9⟩
  go_simp
 refine Qj (i:=14) (v:=sL (some (aD b4 o4)) m4 c4) hw (by decide) hcl (Q9 rfl) rfl (by kernel_rfl) (by kernel_rfl) (by kernel_rfl) (λ_ _ _ h=>h) ⟨oL ⟨by rfl,?y14⟩,λ_=>rfl⟩ HS0.o (λhcl=>?_)
 case y14=>
  rintro w ⟨c1,c2,c3,c4,c5,c6,c7,c8,c9⟩
  go_simp
 refine Qj (i:=15) (v:=iV (k:Int)) hw (by decide) hcl (Q9 rfl) rfl (by kernel_rfl) (by kernel_rfl) (by kernel_rfl) (λ_ _ _ h=>h) ⟨oL ⟨by rfl,?y15⟩,λ_=>rfl⟩ HS0.o (λhcl=>?_)
 case y15=>
  rintro w ⟨c1,c2,c3,c4,c5,c6,c7,c8,c9⟩
  go_simp
 refine Qj (i:=16) (v:=.pointer (some (aD b4 (o4+k)))) hw (by decide) hcl (Q9 rfl) rfl (by kernel_rfl) (by kernel_rfl) (by kernel_rfl) (λ_ _ _ h=>h) ⟨oL ⟨by rfl,?y16⟩,λ_=>rfl⟩ HS0.o (λhcl=>?_)
 case y16=>
  rintro w ⟨c1,c2,c3,c4,c5,c6,c7,c8,c9⟩
  go_simp
  intro h
  omega
 refine Qj (i:=17) (v:=iV co) hw (by decide) hcl (Q9 rfl) rfl (by kernel_rfl) (by kernel_rfl) (by kernel_rfl) (λ_ _ _ h=>h) ⟨oL ⟨by rfl,?y17⟩,λ_=>rfl⟩ HS0.o (λhcl=>?_)
 case y17=>
  rintro w ⟨c1,c2,c3,c4,c5,c6,c7,c8,c9⟩
  go_simp
 refine Qh (i:=18) (by kernel_rfl) (wpOpIn_step rfl (λK hK=>?_))
 go_simp
 refine⟨trivial,(callsIn_wide.2 (Q9t r co _ HR12.o.1 HR12.o.2 HCO.o)).mono ?_⟩
 rintro e w1 ⟨rfl,hx⟩
 have HXW:=mh (Nx.trans (Nx.refl wr).drew hx)
 obtain⟨fn,tmps,assign,body,hy,hR⟩:=HY.o (Zf G r v k) (tv,aft r co) w1 HOKX.o (Q9u HJ.o HJk.o HXW.o) HNL.o
 have HR:Z (RoundIn Fence.wide m prog l fn tmps assign body w1 _):=hR.mono (λe W' h=>yb_of h)
 dsimp only[Qc0] at hy
 clear hR hx
 refine hK _ _ ⟨oR ⟨Q0 HXW.o y1,Q0 HXW.o y3,Q0 HXW.o y5,Q0 HXW.o y6,Q0 HXW.o x2,Q0 HXW.o y7,Q0 HXW.o y8,Q0 HXW.o y2,Q0 HXW.o y4⟩,?_⟩
 clear hK K
 refine Qh (i:=19) (by kernel_rfl) (wpOpIn_step rfl (λK hK=>?_))
 go_simp
 refine HR.o.mono ?_
 rintro e w3 ⟨bb,rfl,hbt,hbf⟩
 have HI1:=mh (HI.o.kept (λb o u h=>Q0 HXW.o h))
 refine hK _ _ ⟨oL lR,?_⟩
 clear hK K hy
 refine Qh (i:=20) (by kernel_rfl) (wpOpIn_step rfl (λK hK=>?_))
 go_simp
 refine hK _ _ ⟨oL (by decide),?_⟩
 clear hK K
 refine Ql (by kernel_rfl) ?_ _
 clear hw hcl HS0 y1 y2 y3 y4 y5 y6 y7 y8 x1 x2 x3 d1 d1'
 cases bb
 ·have HF:=mh (hbf.o rfl)
  clear hbt hbf
  go_wp2
  refine bodyPost_ret (results_none rfl _ _ _) rfl ?_
  exact⟨⟨_,rfl⟩,oR ⟨_,⟨k,HK.o.1,by rw[HKE.o];exact hlt,HOUT.o.symm⟩,HF.o⟩⟩
 ·have HF:Z (J (Zf G r v (k+1)) w3):=by rw[HOUT.o];exact(hbt.o rfl).1
  have HI3:=mh ((hbt.o rfl).2 HI1.o)
  have HK1:Z (fst G v<=k+1/\k+1<=ke):=⟨by have:=HK.o.1;omega,by omega⟩
  clear hbt hbf
  go_wp2
  go_roundw
  case rel=>exact⟨k+1,HK1,by go_num,HI3,HF⟩
  case measure=>simp[intOf];omega
abbrev Q6p (G:Gr) (r:Rk) (v:Nat):Type:={ x:Nat×Rk // okX G r v x }
theorem If (bg bv bs p rb n v b2 o2 m2 c2:Nat)(a3:Option Addr)(m3 c3:Nat)(a4:Option Addr)(m4 c4:Nat)(G:Gr)(r:Rk)(N d:Nat)(hG:VG G)(hv:v<G.eo.length)(hm2:m2=G.fi.length)(hm3:m3=G.tt.length)(hm4:m4=G.co.length)(hvn:v<n)(hr1:0<=r.1/\r.1<=100000000000)(hr2:0<=r.2/\r.2<=100000)(hN:fst G (v+1)-fst G v<=N)(w:World)(hI:ITC w bg bv bs p rb n v b2 o2 m2 c2 a3 m3 c3 a4 m4 c4 G r) :
  SeqStopsK Fence.wide d prog 74 #[pT bg,pT bv,pT bs] (λx:Q6p G r v=>Qc0 x.1) (λW W'=>ITC W bg bv bs p rb n v b2 o2 m2 c2 a3 m3 c3 a4 m4 c4 G r->ITC W' bg bv bs p rb n v b2 o2 m2 c2 a3 m3 c3 a4 m4 c4 G r) (λys=>ys.map (·.1)=Zf G r v (fst G (v+1))) (λpre=>∃k,fst G v<=k/\k<fst G (v+1)/\pre.map (·.1)=Zf G r v (k+1)) N w:=by
 intro l J Jx W hW hJ hJx hY h0
 refine callsIn_wide.2 ((Q5l l bg bv bs p rb n v b2 o2 m2 c2 a3 m3 c3 a4 m4 c4 G r N (d-1) (λys W=>∃zs:List (Q6p G r v),zs.map (·.1)=ys/\J zs W) (λys W=>∃zs:List (Q6p G r v),zs.map (·.1)=ys/\Jx zs W) hG hv hm2 hm3 hm4 hvn hr1 hr2 hN W ?_ ?_ (hI.kept (λb o u h=>Q2 hW (Jk h) h)) ⟨[],rfl,h0⟩).mono ?_)
 ·rintro s X Y row ⟨zs,e,hz⟩ hg hr
  exact⟨zs,e,hJ zs X Y row hz hg hr⟩
 ·rintro pre x X hx ⟨zs,e,hz⟩ hl
  refine(hY zs ⟨x,hx⟩ X hz (by rw[<-e] at hl;simpa using hl)).mono (λe' X' h=>?_)
  rcases h with⟨h1,h2,h3⟩|⟨h1,h2⟩
  ·exact oL ⟨h1,⟨zs++[⟨x,hx⟩],by rw[yF,e];rfl,h2⟩,h3⟩
  ·exact oR ⟨h1,⟨zs++[⟨x,hx⟩],by rw[yF,e];rfl,h2⟩⟩
 ·rintro e X ⟨he,h⟩
  refine⟨he,?_⟩
  rcases h with⟨ys,rfl,zs,ez,hz⟩|⟨pre,⟨k,h1,h2,rfl⟩,zs,ez,hz⟩
  ·exact oL ⟨zs,ez,hz⟩
  ·exact oR ⟨zs,⟨k,h1,h2,ez⟩,hz⟩
theorem Q7n (bg bv bs p rb n v b2 o2 m2 c2:Nat)(a3:Option Addr)(m3 c3:Nat)(a4:Option Addr)(m4 c4:Nat)(G:Gr)(r:Rk)(W:World)(l:Nat)(o o':Obj)(h:W.heap[l]?=some o)(ho:o.isCells=false)(hI:ITC W bg bv bs p rb n v b2 o2 m2 c2 a3 m3 c3 a4 m4 c4 G r):ITC (W.putObj l o') bg bv bs p rb n v b2 o2 m2 c2 a3 m3 c3 a4 m4 c4 G r:=
 hI.kept (λb q u hc=>cell_kept hc (grownBy_putObj' W l o') (λk e=>by cases e;exact⟨o,h,ho⟩))
theorem U2 {F:Fence}{n:Nat}{P:Program}{fn:Func}{tmps:Array Value}{R:Ending->World->Prop}:∀(Ds:List Nat) (w:World),Ds.Nodup->(∀D∈Ds,w.heap[D]?=some (.deferred (some [])))->(∀w',OnS Ds w w'->LeavesInM F n P fn tmps R [] .returning w')->LeavesInM F n P fn tmps R (Ds.map Q99) .returning w
 |[],w,_,_,h=>h w (OnS.refl _ _)
 |D::Ds,w,hn,hd,h=>by
  have hD:=hd D (by simp)
  have hnd:=List.nodup_cons.1 hn
  refine⟨by simp,oL ⟨D,_,rfl,run_takeDeferred hD,?_⟩⟩
  refine U2 Ds _ hnd.2 (λE hE=>?_) (λw' hw'=>h w' ?_)
  ·have hne:E≠D:=λe=>hnd.1 (by rw[<-e];exact hE)
   exact(World.putObj_heap_other hne).trans (hd E (by simp[hE]))
  ·have h1:OnS (D::Ds) w (w.putObj D (.deferred none)):=⟨rfl,rfl,rfl,by simp,λb hb hn=>World.putObj_heap_other (λe=>hn (by rw[e];simp))⟩
   exact h1.tr (hw'.mono (λx hx=>List.mem_cons_of_mem _ hx))
theorem SR.grown {row:Option Nat}{b:Rk}(h:SR C w sb p q mb rb n gv t b iv sv K L D S)(hg:w.grownBy w' row)(hr:∀r,row=some r->mb<r/\∃o:Obj,w.heap[r]?=some o/\o.isCells=false):SR C w' sb p q mb rb n gv t b iv sv K L D S:=by
 have kc:∀(g:Nat) (c:Array Value) (ty:TypeId) (fz:Nat×Nat),w.heap[g]?=some (.cells c ty fz)->w'.heap[g]?=w.heap[g]?:=λg c ty fz hc=>hg.block g (Array.getElem?_eq_some_iff.1 hc).1 (λe=>by
  obtain⟨_,o,ho,hno⟩:=hr g e.symm
  rw[hc] at ho
  cases ho
  cases hno)
 have km:w'.heap[mb]?=w.heap[mb]?:=by
  obtain⟨es,clock,hb,_⟩:=h.h.h.m
  exact hg.block mb (Array.getElem?_eq_some_iff.1 hb).1 (λe=>by have:=(hr mb e.symm).1;omega)
 obtain⟨cr,hcr,_⟩:=h.k
 refine⟨(kc _ _ _ _ h.x).trans h.x,h.s.kept (kc _ _ _ _ h.s.2),h.k.kept (kc _ _ _ _ hcr),⟨⟨(kc _ _ _ _ h.h.h.q).trans h.h.h.q,h.h.h.i.kept (λg e=>?_),?_⟩,h.h.o,h.h.j,h.h.p,h.h.v,h.h.s⟩,h.d.kept (λg e=>?_),h.ap,h.cb⟩
 ·obtain⟨_,_,cur,hc⟩:=h.h.h.i.blk e
  exact kc _ _ _ _ hc
 ·obtain⟨es,clock,hb,rest⟩:=h.h.h.m
  exact⟨es,clock,km.trans hb,rest⟩
 ·obtain⟨_,_,cur,hc⟩:=h.d.blk e
  exact kc _ _ _ _ hc
def Aq (G:Gr)(r:Rk)(v:Nat)(pre:List (Nat×Rk))(u:Nat):List (Nat×Int):=if u=v then (Qz G v).filter (λa=>decide ((a.1,aft r a.2)∈pre)) else Qz G u
theorem Qew {r:Rk}{a b:Int}(h:aft r a=aft r b):a=b:=by
 have:=congrArg Prod.fst h
 simp only[aft] at this
 omega
theorem Q7b (hG:VG G){r:Rk}(hv:v<G.eo.length){x:Nat×Rk}(h:okX G r v x):∃k,(x.1,k)∈Qz G v/\x.2=aft r k:=by
 obtain⟨k,h1,h2,rfl⟩:=h
 exact⟨iat G.co k,(Ul hG).2 ⟨hv,k,h1,h2,rfl,rfl⟩,rfl⟩
theorem Q19 {r:Rk}{tu:Nat}{k:Int}{pre:List (Nat×Rk)}{u:Nat}{z:Nat×Int}(h:z∈Aq G r v (pre++[(tu,aft r k)]) u):z∈Aq G r v pre u\/(u=v/\z=(tu,k)):=by
 unfold Aq at h ⊢
 by_cases e:u=v
 ·rw[if_pos e] at h ⊢
  rw[List.mem_filter] at h ⊢
  obtain⟨h1,h2⟩:=h
  simp at h2
  rcases h2 with h2|⟨h2,h3⟩
  ·exact oL ⟨h1,by simpa using h2⟩
  ·exact oR ⟨e,Prod.ext h2 (Qew h3)⟩
 ·rw[if_neg e] at h ⊢
  exact oL h
theorem Qck (hG:VG G){r:Rk}{u:Nat}{z:Nat×Int}(h:z∈Qz G u):z∈Aq G r v (Zf G r v (fst G (v+1))) u:=by
 unfold Aq
 by_cases e:u=v
 ·rw[if_pos e]
  subst e
  rw[List.mem_filter]
  refine⟨h,?_⟩
  obtain⟨hv,k,h1,h2,e1,e2⟩:=(Ul hG).1 (show(z.1,z.2)∈Qz G u from h)
  simp only[decide_eq_true_eq]
  unfold Zf
  rw[List.mem_map]
  exact⟨k,by rw[List.mem_range'_1];omega,by rw[e1,e2]⟩
 ·rw[if_neg e]
  exact h
theorem relax (hG:VG G){b:Rk}{iv':Value}{K':Nat->Rk}{L':List Nat}{D':DM}{tu:Nat}{k:Int}{r:Rk}{pre:List (Nat×Rk)}{T:Int}
  (h:DJ (eoG G) (Qz G) s0 w0 t (Aq G r v pre) K (S++[v]) L) (hv:K v=r) (hx:(tu,k)∈Qz G v) (hR:RC C w w' sb p q mb rb n gv T b iv sv K L (S++[v]) tu (aft r k) iv' K' L' D'):DJ (eoG G) (Qz G) s0 w0 t (Aq G r v (pre++[(tu,aft r k)])) K' (S++[v]) L'/\K' v=r:=by
 have hc:∀v u k,(u,k)∈Qz G v->0<=k:=λv u k h=>(Iz hG v u k h).1
 by_cases hb:better K tu (aft r k)
 ·obtain⟨h1,h2,h3⟩:=hR.y hb
  have hne:v≠tu:=λe=>by
   rcases hb with q1|q1
   ·exact(h.dom v).2 (oL (by simp)) (by rw[e];exact q1)
   ·rw[<-e,hv] at q1
    exact Yq q1 (Th r (hc _ _ _ hx))
  refine⟨h.better hc hx (by rw[hv];exact hb) (by rw[hv];exact h1) h2 hR.s.h.j.nodup h3 (λu hu z hz=>Q19 hz),by rw[h2 v hne];exact hv⟩
 ·obtain⟨h1,h2⟩:=hR.n hb
  subst h1 h2
  exact⟨h.keep (by rw[hv];exact hb) (λu hu z hz=>Q19 hz),hv⟩
theorem ITC.on {b2 o2:Nat}{r:Rk}(h:ITC W bg bv bs p rb n v b2 o2 m2 c2 a3 m3 c3 a4 m4 c4 G r)(k:OnS S W W')(n1:bg∉S)(n2:bv∉S)(n3:bs∉S)(n4:p∉S)(n5:b2∉S)(n6:fst G v<fst G (v+1)->∀b o,a3=some (aD b o)->b∉S)(n7:fst G v<fst G (v+1)->∀b o,a4=some (aD b o)->b∉S)(k1:W'.cell? (aD rb (v*2))=some (iV r.1))(k2:W'.cell? (aD rb (v*2+1))=some (iV r.2)):ITC W' bg bv bs p rb n v b2 o2 m2 c2 a3 m3 c3 a4 m4 c4 G r:=
 ⟨k.cell n1 h.g2,k.cell n1 h.g3,k.cell n1 h.g4,k.cell n2 h.hv,k.cell n3 h.hs,k.cell n4 h.hr,k1,k2,k.cell n5 h.f0,k.cell n5 h.f1,λq h1 h2=>by obtain⟨b,o,e,hc⟩:=h.t q h1 h2;exact⟨b,o,e,k.cell (n6 (by omega) b o e) hc⟩,λq h1 h2=>by obtain⟨b,o,e,hc⟩:=h.c q h1 h2;exact⟨b,o,e,k.cell (n7 (by omega) b o e) hc⟩⟩
structure RG (C:Nat)(W:World)(sb p q mb rb n:Nat)(gv:List Value)(t:Int)(b:Rk)(sv:Value)(G:Gr)(s0:Nat)(w0:Int)(S:List Nat)(v:Nat)(r:Rk)(bx bg bv bs g5:Nat)(pre:List (Nat×Rk))(iv:Value)(K:Nat->Rk)(L:List Nat)(D:DM):Prop where
 s:SR C W sb p q mb rb n gv t b iv sv K L D (S++[v])
 j:DJ (eoG G) (Qz G) s0 w0 t (Aq G r v pre) K (S++[v]) L
 k:K v=r
 i:∀g,iv.ownBlock=some g->g≠bx/\g≠bg/\g≠bv/\g≠bs/\g≠g5
 g:Blk W g5 (List.toArray gv)
 x:W.cell? (aD bx 0)=some (pT p)
theorem RG.grown {row:Option Nat}{b:Rk}{r:Rk}{g5:Nat}{pre:List (Nat×Rk)}(h:RG C W sb p q mb rb n gv t b sv G s0 w0 S v r bx bg bv bs g5 pre iv K L D)(hg:W.grownBy W' row)(hr:∀r,row=some r->mb<r/\∃o:Obj,W.heap[r]?=some o/\o.isCells=false):RG C W' sb p q mb rb n gv t b sv G s0 w0 S v r bx bg bv bs g5 pre iv K L D:=
 ⟨h.s.grown hg hr,h.j,h.k,h.i,(by
  obtain⟨ty,hb⟩:=h.g
  refine⟨ty,(hg.block g5 (Array.getElem?_eq_some_iff.1 hb).1 (λe=>?_)).trans hb⟩
  obtain⟨_,o,ho,hno⟩:=hr g5 e.symm
  rw[hb] at ho
  cases ho
  cases hno),cell_kept h.x hg (λr e=>(hr r e).2)⟩
attribute [local go_sem] Oper.semAt_some
def Xn:Code->List Code
 |.rangeFunc f ps a b=>.rangeFunc f ps a b::Xn b
 |.loop c=>Xn c
 |.seq a b=>Xn a++Xn b
 |.block _ c=>Xn c
 |.scope c=>Xn c
 |.cond _ a b=>Xn a++Xn b
 |_=>[]
def RI2 (C:Nat)(w:World)(Ds:List Nat)(sb p q mb rb n:Nat)(gv:List Value)(t:Int)(b:Rk)(sv:Value)(G:Gr)(s0:Nat)(w0:Int)(S:List Nat)(v:Nat)(r:Rk)(bx bg bv bs g5:Nat)(pre:List (Q6p G r v))(W:World):Prop:=
 (∃iv K L D,RG C W sb p q mb rb n gv t b sv G s0 w0 S v r bx bg bv bs g5 (pre.map (·.1)) iv K L D)/\Below C w W/\∀D∈Ds,W.heap[D]?=some (.deferred (some []))
theorem RI2.own {b:Rk}{r:Rk}{g5:Nat}(hC:C<=w.heap.size)(hm:mb<w.heap.size)(hD:∀D∈Ds,D<w.heap.size):OwnFrom w.heap.size (RI2 C w Ds sb p q mb rb n gv t b sv G s0 w0 S v r bx bg bv bs g5):=by
 rintro pre W W' row ⟨⟨iv,K,L,D,h⟩,hb,hd⟩ hg hr
 refine⟨⟨iv,K,L,D,h.grown hg (λx e=>⟨by have:=(hr x e).1;omega,(hr x e).2⟩)⟩,ownFrom_below (β:=Unit) hC hC () W W' row hb hg hr,λE hE=>?_⟩
 refine(hg.block E (Array.getElem?_eq_some_iff.1 (hd E hE)).1 (λe=>?_)).trans (hd E hE)
 have:=(hr E e.symm).1
 have:=hD E hE
 omega
theorem Q1m (C:Nat)(w:World)(Ds:List Nat)(sb p q mb rb n:Nat)(gv:List Value)(t:Int)(b:Rk)(sv:Value)(G:Gr)(s0:Nat)(w0:Int)(S:List Nat)(v:Nat)(r:Rk)(bx bg bv bs g5:Nat)(b2 o2 m2 c2:Nat)(a3:Option Addr)(m3 c3:Nat)(a4:Option Addr)(m4 c4:Nat)(HVG:Z (VG G))(hv:v<G.eo.length)(hm2:m2=G.fi.length)(hm3:m3=G.tt.length)(hm4:m4=G.co.length)(hnG:G.eo.length=n)(hn:n<=6000)(hr1:0<=r.1/\r.1<=100000000000)(hr2:0<=r.2/\r.2<=100000)(hC:C<=w.heap.size)(hmb:mb<w.heap.size)(hDs:∀D∈Ds,D<w.heap.size)
  (HSEP:Z ((bx∉[rb,q,mb]/\bg∉[rb,q,mb]/\bv∉[rb,q,mb]/\bs∉[rb,q,mb]/\g5∉[rb,q,mb])/\(b2<C/\(fst G v<fst G (v+1)->∀b o,a3=some (aD b o)->b<C)/\(fst G v<fst G (v+1)->∀b o,a4=some (aD b o)->b<C))/\(bx<w.heap.size/\bg<w.heap.size/\bv<w.heap.size/\bs<w.heap.size/\g5<w.heap.size)))
  (HI:Z (ITC w bg bv bs p rb n v b2 o2 m2 c2 a3 m3 c3 a4 m4 c4 G r)) (H0:Z (RI2 C w Ds sb p q mb rb n gv t b sv G s0 w0 S v r bx bg bv bs g5 [] w)) (u0 u1 u3 u4 u5 u6 u7 u8 u9 u10 u11 u12 u13 u14 u15 u16 u17 u18 u19 u20 u21 u22 u23 u24 u25 u26 u27 u28 u29 u30 u31 u32 u33 u34 u35 u36 u37 u38 u39 u40 u41 u42 u43 u44 u45 u46 u47 u48 u49 u50 u51 u52 u53 u54 u55 u56 u57 u58 u59 u60 u61 u62 u63 u64 u65 u66 u67 u68 u69 u70 u71 u72 u73 u74 u75 u77 u78 u79 u80 u81 u82:Value) (ds:List Deferred) (Q:Exit->Act->World->Prop)
  (hdone:∀(E:Nat) (ys:List (Q6p G r v)) (W:World),w.heap.size<=E->ys.map (·.1)=Zf G r v (fst G (v+1))->RI2 C w Ds sb p q mb rb n gv t b sv G s0 w0 S v r bx bg bv bs g5 ys W->W.heap[E]?=some (.deferred (some []))->Q .normal ⟨List.toArray (u0::u1::pT bx::u3::u4::u5::u6::u7::u8::u9::u10::u11::u12::u13::u14::u15::u16::u17::u18::u19::u20::u21::u22::u23::u24::u25::u26::u27::u28::u29::u30::u31::u32::u33::u34::u35::u36::u37::u38::u39::u40::u41::u42::u43::u44::u45::u46::u47::u48::u49::u50::u51::u52::u53::u54::u55::u56::u57::u58::u59::u60::u61::u62::u63::u64::u65::u66::u67::u68::u69::u70::u71::u72::u73::u74::u75 :: .func (.func 74) #[] #[pT bg,pT bv,pT bs]::u77::u78::u79::u80::u81::u82::[]),Q99 E::ds⟩ W) :
  Code.wp prog ((((Tryz.f30.body.map Xn).getD [])[0]?).getD .skip) Q ⟨List.toArray (u0::u1::pT bx::u3::u4::u5::u6::u7::u8::u9::u10::u11::u12::u13::u14::u15::u16::u17::u18::u19::u20::u21::u22::u23::u24::u25::u26::u27::u28::u29::u30::u31::u32::u33::u34::u35::u36::u37::u38::u39::u40::u41::u42::u43::u44::u45::u46::u47::u48::u49::u50::u51::u52::u53::u54::u55::u56::u57::u58::u59::u60::u61::u62::u63::u64::u65::u66::u67::u68::u69::u70::u71::u72::u73::u74::u75 :: .func (.func 74) #[] #[pT bg,pT bv,pT bs]::u77::u78::u79::u80::u81::u82::[]),ds⟩ w:=by
 conv=>arg 2;whnf
 have HDONE:=mh hdone
 clear hdone
 refine(wpIn_wide (n:=9)).1 ?_
 refine wpIn_rangeFunc_ownH (n:=9) (F:=Fence.wide) rfl (by decide) (gf:=74) (lb:=#[pT bg,pT bv,pT bs]) rfl trivial (enters_of func74 (by kernel_rfl) rfl)
  (If bg bv bs p rb n v b2 o2 m2 c2 a3 m3 c3 a4 m4 c4 G r 40000 8 HVG.o hv hm2 hm3 hm4 (by omega) hr1 hr2 ?hN w HI.o) (λh1 h2 h3=>h2 (h1 h3)) (λW l o o' _ h ho _ hI=>Q7n bg bv bs p rb n v b2 o2 m2 c2 a3 m3 c3 a4 m4 c4 G r W l o o' h ho hI) (Below.refl _ _) (λ_=>rfl)
  (RI2 C w Ds sb p q mb rb n gv t b sv G s0 w0 S v r bx bg bv bs g5) (λ_ _ _=>False) (RI2.own hC hmb hDs) (λ_ _ _ _ _ h _ _=>h) H0.o
  (λx a' W=>∃Bx,w.heap.size<=Bx/\W.cell? (aD Bx 0)=some (iV x.1.2.1)/\W.cell? (aD Bx 1)=some (iV x.1.2.2)/\a'=⟨List.toArray (u0::u1::pT bx::u3::u4::u5::u6::u7::iV (x.1.1:Int)::pT Bx::u10::u11::u12::u13::u14::u15::u16::u17::u18::u19::u20::u21::u22::u23::u24::u25::u26::u27::u28::u29::u30::u31::u32::u33::u34::u35::u36::u37::u38::u39::u40::u41::u42::u43::u44::u45::u46::u47::u48::u49::u50::u51::u52::u53::u54::u55::u56::u57::u58::u59::u60::u61::u62::u63::u64::u65::u66::u67::u68::u69::u70::u71::u72::u73::u74::u75 :: .func (.func 74) #[] #[pT bg,pT bv,pT bs]::iV (x.1.1:Int) :: .agg #[iV x.1.2.1,iV x.1.2.2]::u79::u80::u81::u82::[]),[]⟩) ?hAx ?assign ?body ?done ?stop
 case hN=>
  have h1:=(Jr HVG.o (show v+1<=G.eo.length by omega)).2
  have h2:=HVG.o.t
  omega
 case hAx=>
  rintro x a' _ W W' row ⟨Bx,h1,h2,h3,h4⟩ hg hr
  exact⟨Bx,h1,cell_kept h2 hg (λr e=>(hr r e).2),cell_kept h3 hg (λr e=>(hr r e).2),h4⟩
 case stop=>
  rintro D c pre W _ _ h _
  exact h.elim
 case done=>
  intro E ys W hE hys hI hK
  exact HDONE.o E ys W hE hys hI hK
 case assign=>
  intro l pre x W K hI hK
  obtain⟨⟨iv,K1,L,D,hRG⟩,hB,hD⟩:=hI
  have HW:=mh hB.size
  have HRG:Z (RI2 C w Ds sb p q mb rb n gv t b sv G s0 w0 S v r bx bg bv bs g5 pre (W.alloc (.cells #[iV x.1.2.1,iV x.1.2.2] 52))):=(RI2.own hC hmb hDs).alloc _ ⟨⟨iv,K1,L,D,hRG⟩,hB,hD⟩
  clear hRG hB hD
  unfold Qc0
  gi_wp2
  exact hK _ _ ((KeepsOthers.alloc _ _).from _) (λh=>h.kept (λb o u hc=>Q0 (Qe _ _) hc)) HRG.o ⟨W.heap.size,HW.o,(Blk.new W #[iV x.1.2.1,iV x.1.2.2] 52 _ rfl).c 0 rfl,(Blk.new W #[iV x.1.2.1,iV x.1.2.2] 52 _ rfl).c 1 rfl,rfl⟩
 case body=>
  rintro l pre x a' W hl ⟨rec,hrec⟩ ⟨⟨iv,K1,L,D,hRG⟩,hB,hD⟩ ⟨Bx,hBx,hb1,hb2,rfl⟩ hlen
  obtain⟨k,hk,hxe⟩:=Q7b HVG.o hv x.2
  have HRG:=mh hRG
  have HB:=mh hB
  have HD:=mh hD
  have HK:=mh hk
  have HXE:=mh hxe
  have HTN:Z (x.1.1<n):=by have:=Iy HVG.o _ _ _ hk;unfold Z;omega
  have x1:=hRG.x
  have HCW:=mh (zM hC hB.size)
  clear hRG hB hD hk hxe
  gi_wp2_with (refine⟨trivial,?_⟩;gi_at_call 47;refine(CallsIn.inRound l (callsIn_wide.2 (Q0i C sb p q mb rb n gv t b iv sv K1 L D (S++[v]) x.1.1 x.1.2 _ HRG.o.s HTN.o hn (λhm=>(HRG.o.j.dom _).2 (oR hm)) HCW.o))).mono ?_;rintro e W' ⟨y,iv',K',L',D',rfl,hRC⟩)
  have hS:=HRG.o.s
  obtain⟨⟨s1,s2,s3⟩,⟨s4,s5,s6⟩,s7⟩:=hS.sep
  obtain⟨cr,hcr,_⟩:=hS.k
  obtain⟨es,clock,hmp,_⟩:=hS.h.h.m
  have hq:=hS.h.h.q
  unfold QB at hq
  have hoc:∀(z:Nat) (o:Obj),W.heap[z]?=some o->o.isCells=false->z≠mb->z∉sbl q mb rb iv:=by
   intro z o hz ho hne hm
   simp only[sbl,hbl,List.mem_cons,Option.mem_toList] at hm
   rcases hm with e|e|e|e
   ·subst e;rw[hcr] at hz;cases hz;cases ho
   ·subst e;rw[hq] at hz;cases hz;cases ho
   ·exact hne e
   ·obtain⟨_,_,cur,hc⟩:=hS.h.h.i.blk e
    rw[hc] at hz;cases hz;cases ho
  have hin:∀z,z∉[rb,q,mb]->(∀g,iv.ownBlock=some g->g≠z)->z∉sbl q mb rb iv:=by
   intro z h1 h2 hm
   simp only[sbl,hbl,List.mem_cons,Option.mem_toList] at hm
   simp at h1
   rcases hm with e|e|e|e
   ·exact h1.1 e
   ·exact h1.2.1 e
   ·exact h1.2.2 e
   ·exact h2 z e rfl
  have hge:∀z∈sbl q mb rb iv,C<=z:=by
   intro z hm
   simp only[sbl,hbl,List.mem_cons,Option.mem_toList] at hm
   have:=hS.cb
   rcases hm with e|e|e|e
   ·omega
   ·omega
   ·omega
   ·exact(hS.h.h.i.blk e).1
  have hpn:p∉sbl q mb rb iv:=by
   simp only[sbl,List.mem_cons,not_or]
   exact⟨s6,s2⟩
  obtain⟨⟨p1,p2,p3,p4,p8⟩,⟨p5,p6,p7⟩,⟨l1,l2,l3,l4,l5⟩⟩:=HSEP.o
  have hiv:=HRG.o.i
  have hbxn:=hin bx p1 (λg e=>(hiv g e).1)
  have hXX:x.1=(x.1.1,aft r k):=Prod.ext rfl HXE.o
  rw[HXE.o] at hRC
  obtain⟨hDJ,hKv⟩:=relax HVG.o HRG.o.j HRG.o.k HK.o hRC
  have hvn:v<n:=by omega
  refine⟨⟨hRC.on.size,λz o hz ho hc=>(hRC.on.block z (Array.getElem?_eq_some_iff.1 ho).1 (hoc z o ho hc (by omega))).trans ho⟩,λhI=>?_,⟨iv',K',L',D',?_⟩,HB.o.trans (hRC.on.below HCW.o hge),λE hE=>?_⟩
  ·refine hI.on hRC.on (hin bg p2 (λg e=>(hiv g e).2.1)) (hin bv p3 (λg e=>(hiv g e).2.2.1)) (hin bs p4 (λg e=>(hiv g e).2.2.2.1)) hpn (λhm=>by have:=hge _ hm;omega) (λhf b o e hm=>by have:=hge _ hm;have:=p6 hf b o e;omega) (λhf b o e hm=>by have:=hge _ hm;have:=p7 hf b o e;omega) ?_ ?_
   ·rw[<-hKv];exact hRC.s.k.c1 hvn
   ·rw[<-hKv];exact hRC.s.k.c2 hvn
  ·refine⟨hRC.s,?_,hKv,λg e=>?_,?_,hRC.on.cell hbxn HRG.o.x⟩
   ·rw[yF,List.map_cons,List.map_nil,hXX]
    exact hDJ
   ·rcases hRC.b g e with q1|q1
    ·exact hiv g q1
    ·have:=HB.o.size
     refine⟨?_,?_,?_,?_,?_⟩<;>omega
   ·obtain⟨ty,hb⟩:=HRG.o.g
    exact⟨ty,(hRC.on.block g5 (Array.getElem?_eq_some_iff.1 hb).1 (hin g5 p8 (λg e=>(hiv g e).2.2.2.2))).trans hb⟩
  ·have hEd:=HD.o E hE
   exact(hRC.on.block E (Array.getElem?_eq_some_iff.1 hEd).1 (hoc E _ hEd rfl (λe=>by rw[e,hmp] at hEd;cases hEd))).trans hEd
def NQ (K:Act->World->Prop):Exit->Act->World->Prop
 |.normal,a,w=>K a w
 |_,_,_=>False
def Kf (k:Nat):Code->List Code
 |.region id ops d=>if id=k then [.region id ops d] else []
 |.rangeFunc f ps a b=>Kf k a++Kf k b
 |.loop c=>Kf k c
 |.seq a b=>Kf k a++Kf k b
 |.block _ c=>Kf k c
 |.scope c=>Kf k c
 |.cond _ a b=>Kf k a++Kf k b
 |_=>[]
theorem SB.set10 {b:Rk}(h:SB w p gv t rb n q sv b)(sv':Value):SB (w.setCell (aD p 10) sv') p gv t rb n q sv' b:=by
 obtain⟨hl,hb⟩:=h
 refine⟨hl,?_⟩
 match gv,hl with
 |[a0,a1,a2,a3,a4,a5,a6],_=>simp[World.setCell,Array.getElem?_modify,hb]
theorem Q91 (h:w.ownsRow C 2 1 v7 ((Ys S).length+1) (J0 (Ys S)++[iV (v:Int)])):Q5 C w v7 (Ys (S++[v])):=by
 rw[<-Q43]
 exact Q5.snoc h
theorem Q56 {v:Value}{zs:List Int}(h:Q5 C w v zs):∃a n c,v=sL a n c:=by
 obtain⟨a,c,e⟩:=h.slice
 exact⟨a,_,c,e⟩
theorem Qes {o:Obj}{s:Option Nat}(h:v7.ownBlock=s\/v7.ownBlock=some ((W.alloc o).drew).heap.size):v7.ownBlock=s\/v7.ownBlock=some (W.heap.size+1):=by
 rcases h with h|h
 ·exact oL h
 ·right
  rw[h]
  exact congrArg some (Q1 W o)
theorem Qfq (hp:p<W.heap.size)(h:∀g,sv.ownBlock=some g->g≠p/\g≠bx)(ha:v7.ownBlock=sv.ownBlock\/v7.ownBlock=some (W.heap.size+1)){g:Nat}(e:v7.ownBlock=some g):g≠p:=by
 rcases ha with q|q
 ·exact(h g (by rw[<-q];exact e)).1
 ·rw[q] at e
  have:=zE e
  omega
theorem Qeh (hbp:bx≠p)(h:∀g,sv.ownBlock=some g->g≠p/\g≠bx):bx∉p::sv.ownBlock.toList:=by
 intro hm
 rcases List.mem_cons.1 hm with e|e
 ·exact hbp e
 ·exact(h bx (by simpa using e)).2 rfl
theorem Q8m (C:Nat)(W:World)(p rb n q:Nat)(gv:List Value)(t:Int)(b:Rk)(sv:Value)(S:List Nat)(v bx:Nat)(hx:W.cell? (aD bx 0)=some (pT p))(hs:SB W p gv t rb n q sv b)(hd:Q5 C W sv (Ys S))(hl:S.length<=10000)(hC:C<=W.heap.size)(hpv:∀g,sv.ownBlock=some g->g≠p/\g≠bx)(hbp:bx≠p)(u0 u1 u3 u4 u5 u7 u8 u9 u10 u11 u12 u13 u14 u15 u16 u17 u18 u19 u20 u21 u22 u23 u24 u25 u26 u27 u28 u29 u30 u31 u32 u33 u34 u35 u36 u37 u38 u39 u40 u41 u42 u43 u44 u45 u46 u47 u48 u49 u50 u51 u52 u53 u54 u55 u56 u57 u58 u59 u60 u61 u62 u63 u64 u65 u66 u67 u68 u69 u70 u71 u72 u73 u74 u75 u76 u77 u78 u79 u80 u81 u82:Value)(ds:List Deferred)(K:Act->World->Prop)
  (hexit:∀(y64 y65 y66 y67 y68 y69 y70 y71 y72 y73:Value) (W':World) (sv':Value),Q5 C W' sv' (Ys (S++[v]))->SB W' p gv t rb n q sv' b->(sv'.ownBlock=sv.ownBlock\/sv'.ownBlock=some (W.heap.size+1))->OnS (p::sv.ownBlock.toList) W W'->K ⟨List.toArray (u0::u1::pT bx::u3::u4::u5::iV (v:Int)::u7::u8::u9::u10::u11::u12::u13::u14::u15::u16::u17::u18::u19::u20::u21::u22::u23::u24::u25::u26::u27::u28::u29::u30::u31::u32::u33::u34::u35::u36::u37::u38::u39::u40::u41::u42::u43::u44::u45::u46::u47::u48::u49::u50::u51::u52::u53::u54::u55::u56::u57::u58::u59::u60::u61::u62::u63::y64::y65::y66::y67::y68::y69::y70::y71::y72::y73::u74::u75::u76::u77::u78::u79::u80::u81::u82::[]),ds⟩ W'):Code.wp prog ((((Tryz.f30.body.map (Kf 9)).getD [])[0]?).getD .skip) (NQ K) ⟨List.toArray (u0::u1::pT bx::u3::u4::u5::iV (v:Int)::u7::u8::u9::u10::u11::u12::u13::u14::u15::u16::u17::u18::u19::u20::u21::u22::u23::u24::u25::u26::u27::u28::u29::u30::u31::u32::u33::u34::u35::u36::u37::u38::u39::u40::u41::u42::u43::u44::u45::u46::u47::u48::u49::u50::u51::u52::u53::u54::u55::u56::u57::u58::u59::u60::u61::u62::u63::u64::u65::u66::u67::u68::u69::u70::u71::u72::u73::u74::u75::u76::u77::u78::u79::u80::u81::u82::[]),ds⟩ W:=by
 obtain⟨ii,hi,hz0,hz1,hz2⟩:=info_parts Zp
 have HEX:=mh hexit
 have HS:=mh hs
 have HD:=mh hd
 have HPV:=mh hpv
 have HC:=mh hC
 have k10:=hs.cell.2.2.2.1
 have hpl:=hs.lt
 have hbl:=Jk hx
 obtain⟨av,cv,hvs⟩:=hd.slice
 rw[Ja] at hvs
 generalize hn9:S.length=n9 at *
 have HN9:=mh hn9
 subst hvs
 clear hexit hs hd hpv hn9
 conv=>arg 2;whnf
 have k10':((W.alloc (.cells #[iV (v:Int)] 2)).drew).cell? (aD p 10)=some (sL av n9 cv):=Q0 (Qe _ _) k10
 have hx':((W.alloc (.cells #[iV (v:Int)] 2)).drew).cell? (aD bx 0)=some (pT p):=Q0 (Qe _ _) hx
 go_region_law (refine Jh rfl (.tmp 68) (.tmp 70) 23 rfl 2 ii (iV 0) 1 8 underlying23 hi hz0 hz1 hz2 rfl (by decide) C (sL av n9 cv) _ _ (by simp[Act.eval]) (show((W.alloc (.cells #[iV (v:Int)] 2)).drew).ownsRow _ _ _ _ _ _ from zB HD.o _) (aD W.heap.size 0) 1 1 [iV (v:Int)] (by simp[Act.eval]) rfl (λj u hj=>show((W.alloc (.cells #[iV (v:Int)] 2)).drew).cell? _=_ from Qn W _ _ _ rfl j u hj) (by intro u hu;simp at hu;subst hu;rfl) (by rw[Ja,HN9.o];unfold maxLen;omega) (by rw[Ja,HN9.o];omega) (by show C<=(W.alloc (.cells #[iV (v:Int)] 2)).heap.size;rw[Q1];have:=HC.o;omega) ?_;intro v7 w7 hown hgrow hat;have HOW:Z (Q5 C w7 v7 (Ys (S++[v]))):=Q91 hown;have HS7:Z (SB w7 p gv t rb n q (sL av n9 cv) b):=HS.o.kept ((hgrow.block p (by show p<(W.alloc (.cells #[iV (v:Int)] 2)).heap.size;rw[Q1];omega) (λe=>(HPV.o p e.symm).1 rfl)).trans (Below.heap_alloc W _ p hpl));have HO7:Z (OnS (p::(sL av n9 cv).ownBlock.toList) W w7):=((OnS.nx (Qe W _)).tr (OnS.nx (Nx.refl _).drew)).tr (OnS.grown hgrow (λg e=>List.mem_cons_of_mem _ (by simp[e])));have HAT:Z (v7.ownBlock=(sL av n9 cv).ownBlock\/v7.ownBlock=some (W.heap.size+1)):=Qes hat;have k7:=HS7.o.cell.2.2.2.1;have z7:=HS7.o.fz 10;have x7:=HO7.o.cell (Qeh hbp HPV.o) hx;obtain⟨a7,n7,c7,hv7⟩:=Q56 HOW.o;subst hv7;clear hown hgrow hat)
 all_goals exact HEX.o _ _ _ _ _ _ _ _ _ _ _ _ (HOW.o.kept (λg e=>Below.heap_setCell _ _ _ _ (Qfq hpl HPV.o HAT.o e))) (HS7.o.set10 _) HAT.o (HO7.o.tr (OnS.set _ _ (by simp) _ _))
theorem SB.setBest {b:Rk}(h:SB w p gv t rb n q sv b)(k1 k2:Int):SB ((w.setCell (aD p 11) (iV k1)).setCell (aD p 12) (iV k2)).drew p gv t rb n q sv (k1,k2):=by
 obtain⟨hl,hb⟩:=h
 refine⟨hl,?_⟩
 match gv,hl with
 |[a0,a1,a2,a3,a4,a5,a6],_=>simp[World.drew,World.setCell,Array.getElem?_modify,hb]
theorem Q8n (W:World)(p rb n q:Nat)(gv:List Value)(t:Int)(b:Rk)(sv:Value)(K:Nat->Rk)(v bx:Nat)(hx:W.cell? (aD bx 0)=some (pT p))(hs:SB W p gv t rb n q sv b)(hk:RKM W rb n K)(hv:v<n)(hbp:bx≠p)(hrp:rb≠p)(u0 u1 u3 u4 u5 u7 u8 u9 u10 u11 u12 u13 u14 u15 u16 u17 u18 u19 u20 u21 u22 u23 u24 u25 u26 u27 u28 u29 u30 u31 u32 u33 u34 u35 u36 u37 u38 u39 u40 u41 u42 u43 u44 u45 u46 u47 u48 u49 u50 u51 u52 u53 u54 u55 u56 u57 u58 u59 u60 u61 u62 u63 u64 u65 u66 u67 u68 u69 u70 u71 u72 u73 u74 u75 u76 u77 u78 u79 u80 u81 u82:Value)(ds:List Deferred)(Kq:Act->World->Prop)
  (hexit:∀(y54 y55 y56 y57 y58 y59 y60 y61 y62 y63:Value) (W':World),SB W' p gv t rb n q sv (K v)->OnS [p] W W'->Kq ⟨List.toArray (u0::u1::pT bx::u3::u4::u5::iV (v:Int)::u7::u8::u9::u10::u11::u12::u13::u14::u15::u16::u17::u18::u19::u20::u21::u22::u23::u24::u25::u26::u27::u28::u29::u30::u31::u32::u33::u34::u35::u36::u37::u38::u39::u40::u41::u42::u43::u44::u45::u46::u47::u48::u49::u50::u51::u52::u53::y54::y55::y56::y57::y58::y59::y60::y61::y62::y63::u64::u65::u66::u67::u68::u69::u70::u71::u72::u73::u74::u75::u76::u77::u78::u79::u80::u81::u82::[]),ds⟩ W'):Code.wp prog ((((Tryz.f30.body.map (Kf 7)).getD [])[0]?).getD .skip) (NQ Kq) ⟨List.toArray (u0::u1::pT bx::u3::u4::u5::iV (v:Int)::u7::u8::u9::u10::u11::u12::u13::u14::u15::u16::u17::u18::u19::u20::u21::u22::u23::u24::u25::u26::u27::u28::u29::u30::u31::u32::u33::u34::u35::u36::u37::u38::u39::u40::u41::u42::u43::u44::u45::u46::u47::u48::u49::u50::u51::u52::u53::u54::u55::u56::u57::u58::u59::u60::u61::u62::u63::u64::u65::u66::u67::u68::u69::u70::u71::u72::u73::u74::u75::u76::u77::u78::u79::u80::u81::u82::[]),ds⟩ W:=by
 have HEX:=mh hexit
 have HS:=mh hs
 have p8:=hs.cell.2.1
 have p11:=hs.cell.2.2.2.2.1
 have p12:=hs.cell.2.2.2.2.2
 have z11:=hs.fz 11
 have z12:=hs.fz 12
 have r1:=hk.c1 hv
 have r2:=hk.c2 hv
 have hv0:(v:Int)<n:=by omega
 have HKV:Z (K v=((K v).1,(K v).2)):=rfl
 clear hexit hs hk
 generalize hk1:(K v).1=k1 at *
 generalize hk2:(K v).2=k2 at *
 clear hk1 hk2
 have HO:Z (OnS [p] W ((W.setCell (aD p 11) (iV k1)).setCell (aD p 12) (iV k2)).drew):=((OnS.set _ _ (by simp) _ _).tr (OnS.set _ _ (by simp) _ _)).tr (OnS.nx (Nx.refl _).drew)
 have HS2:=mh (HS.o.setBest k1 k2)
 have t1:=HO.o.cell (by simpa using hbp) hx
 have t2:=HS2.o.cell.2.1
 have t3:=HO.o.cell (by simpa using hrp) r1
 have t4:=HO.o.cell (by simpa using hrp) r2
 conv=>arg 2;whnf
 go_region_held3 (λw'=>w'.cell? (aD bx 0)=some (pT p)/\w'.cell? (aD p 8)=some (sL (sA rb) n n)/\w'.cell? (aD rb (v*2))=some (iV k1)/\w'.cell? (aD rb (v*2+1))=some (iV k2)) (first|exact⟨t1,t2,t3,t4⟩|(go_keep;done)) (fail)
 all_goals exact HEX.o _ _ _ _ _ _ _ _ _ _ _ (by rw[HKV.o];exact HS2.o) HO.o
theorem Q2v {P:Program}{c:Code}{Q:Exit->Act->World->Prop}{a:Act}(h:c.wp P (NQ (λa w=>Q .normal a w)) a w):c.wp P Q a w:=wp_mono h (λe a w h=>by cases e<;>first|exact h|exact h.elim)
structure SPX (wC:World)(sb p q mb rb n:Nat)(a0:Option Addr)(m0 c0:Nat)(a1:Option Addr)(m1 c1:Nat)(a2:Option Addr)(m2 c2:Nat)(a3:Option Addr)(m3 c3:Nat)(a4:Option Addr)(m4 c4:Nat)(a5:Option Addr)(m5 c5:Nat)(a6:Option Addr)(m6 c6:Nat)(t:Int)(b:Rk)(G:Gr)(s0:Nat)(w0:Int)(bx g5:Nat)(W:World)(Ds:List Nat)(sv iv:Value)(S:List Nat)(K:Nat->Rk)(L:List Nat)(D:DM):Prop where
 s:SR wC.heap.size W sb p q mb rb n [sL a0 m0 c0,sL a1 m1 c1,sL a2 m2 c2,sL a3 m3 c3,sL a4 m4 c4,sL a5 m5 c5,sL a6 m6 c6] t b iv sv K L D S
 x:W.cell? (aD bx 0)=some (pT p)
 g:Blk W g5 (List.toArray [sL a0 m0 c0,sL a1 m1 c1,sL a2 m2 c2,sL a3 m3 c3,sL a4 m4 c4,sL a5 m5 c5,sL a6 m6 c6])
 i:∀g,iv.ownBlock=some g->g≠bx/\g≠g5
 v:∀g,sv.ownBlock=some g->g≠bx/\g≠g5
 m:∀E∈Ds,W.heap[E]?=some (.deferred (some []))
 nd:Ds.Nodup
 ml:∀E∈Ds,wC.heap.size<=E
 nx:Nx wC W
 ne:bx∉[rb,q,mb]/\g5∉[rb,q,mb]/\bx≠p/\g5≠p
theorem SPX.next {b:Rk}{g5:Nat}(h:SPX wC sb p q mb rb n a0 m0 c0 a1 m1 c1 a2 m2 c2 a3 m3 c3 a4 m4 c4 a5 m5 c5 a6 m6 c6 t b G s0 w0 bx g5 W Ds sv iv S K L D)(k:Nx W W'):SPX wC sb p q mb rb n a0 m0 c0 a1 m1 c1 a2 m2 c2 a3 m3 c3 a4 m4 c4 a5 m5 c5 a6 m6 c6 t b G s0 w0 bx g5 W' Ds sv iv S K L D:=
 ⟨h.s.next k,Q0 k h.x,h.g.next k,h.i,h.v,λE hE=>(k.block E (Array.getElem?_eq_some_iff.1 (h.m E hE)).1).trans (h.m E hE),h.nd,h.ml,h.nx.trans k,h.ne⟩
theorem SPX.turn {b b':Rk}{g5:Nat}{sv':Value}{S':List Nat}(h:SPX wC sb p q mb rb n a0 m0 c0 a1 m1 c1 a2 m2 c2 a3 m3 c3 a4 m4 c4 a5 m5 c5 a6 m6 c6 t b G s0 w0 bx g5 W Ds sv iv S K L D)(hs:SB W' p [sL a0 m0 c0,sL a1 m1 c1,sL a2 m2 c2,sL a3 m3 c3,sL a4 m4 c4,sL a5 m5 c5,sL a6 m6 c6] t rb n q sv' b')(hd:Q5 wC.heap.size W' sv' (Ys S'))(ho:OnS (p::sv.ownBlock.toList) W W')(hb:sv'.ownBlock=sv.ownBlock\/sv'.ownBlock=some (W.heap.size+1)):SPX wC sb p q mb rb n a0 m0 c0 a1 m1 c1 a2 m2 c2 a3 m3 c3 a4 m4 c4 a5 m5 c5 a6 m6 c6 t b' G s0 w0 bx g5 W' Ds sv' iv S' K L D:=by
 obtain⟨⟨s1,s2,s3⟩,⟨s4,s5,s6⟩,s7⟩:=h.s.sep
 have nin:∀z,z≠p->(∀g,sv.ownBlock=some g->g≠z)->z∉p::sv.ownBlock.toList:=λz h1 h2 hm=>by
  rcases List.mem_cons.1 hm with e|e
  ·exact h1 e
  ·exact h2 z (by simpa using e) rfl
 have kq:∀z,z∈hbl q mb iv->z∉p::sv.ownBlock.toList:=λz hz=>nin z (λe=>s2 (e▸hz)) (λg e e2=>(s7 g e).2.2.2 (e2▸hz))
 obtain⟨es,clock,hmp,hrest⟩:=h.s.h.h.m
 obtain⟨cr,hcr,_⟩:=h.s.k
 have hql:=(Array.getElem?_eq_some_iff.1 h.s.h.h.q).1
 refine⟨⟨(ho.block sb (Array.getElem?_eq_some_iff.1 h.s.x).1 (nin sb s4 (λg e=>(s7 g e).1))).trans h.s.x,hs,h.s.k.kept (ho.block rb h.s.k.lt (nin rb (λe=>s6 e.symm) (λg e=>(s7 g e).2.2.1))),⟨⟨(ho.block q hql (kq q (by simp[hbl]))).trans h.s.h.h.q,h.s.h.h.i.kept (λg e=>ho.block g (h.s.h.h.i.blk e).2.1 (kq g (Pv e))),⟨es,clock,(ho.block mb (Array.getElem?_eq_some_iff.1 hmp).1 (kq mb (by simp[hbl]))).trans hmp,hrest⟩⟩,h.s.h.o,h.s.h.j,h.s.h.p,h.s.h.v,h.s.h.s⟩,hd,λg e e'=>?_,h.s.cb⟩,ho.cell (nin bx h.ne.2.2.1 (λg e=>(h.v g e).1)) h.x,?_,h.i,λg e=>?_,λE hE=>?_,h.nd,h.ml,?_,h.ne⟩
 ·rcases hb with q1|q1
  ·exact h.s.ap g (by rw[<-q1];exact e) e'
  ·rw[q1] at e
   have:=zE e
   have:=(h.s.h.h.i.blk e').2.1
   omega
 ·obtain⟨ty,hg⟩:=h.g
  exact⟨ty,(ho.block g5 (Array.getElem?_eq_some_iff.1 hg).1 (nin g5 h.ne.2.2.2 (λg e=>(h.v g e).2))).trans hg⟩
 ·rcases hb with q1|q1
  ·exact h.v g (by rw[<-q1];exact e)
  ·rw[q1] at e
   have:=zE e
   have l1:=Jk h.x
   obtain⟨ty,hg⟩:=h.g
   have l2:=(Array.getElem?_eq_some_iff.1 hg).1
   exact⟨by omega,by omega⟩
 ·have hE2:=h.m E hE
  refine(ho.block E (Array.getElem?_eq_some_iff.1 hE2).1 (nin E (λe=>?_) (λg e e2=>?_))).trans hE2
  ·have:=h.s.s.2
   rw[<-e,hE2] at this
   cases this
  ·obtain⟨_,_,cur,hc⟩:=h.s.d.blk e
   rw[e2,hE2] at hc
   cases hc
 ·refine Below.trans h.nx (ho.below h.nx.size (λz hz=>?_))
  rcases List.mem_cons.1 hz with e|e
  ·rw[e];exact h.s.cb.2.1
  ·exact(h.s.d.blk (by simpa using e)).1
theorem SPX.taken {b:Rk}{g5:Nat}{iv':Value}{L':List Nat}{D':DM}(h:SPX wC sb p q mb rb n a0 m0 c0 a1 m1 c1 a2 m2 c2 a3 m3 c3 a4 m4 c4 a5 m5 c5 a6 m6 c6 t b G s0 w0 bx g5 W Ds sv iv S K L D)(k:TK wC.heap.size W W' q sb mb iv K n L iv' L' D'):SPX wC sb p q mb rb n a0 m0 c0 a1 m1 c1 a2 m2 c2 a3 m3 c3 a4 m4 c4 a5 m5 c5 a6 m6 c6 t b G s0 w0 bx g5 W' Ds sv iv' S K L' D':=by
 obtain⟨⟨s1,s2,s3⟩,⟨s4,s5,s6⟩,s7⟩:=h.s.sep
 have ho:=k.on
 have nin:∀z,z∉[rb,q,mb]->(∀g,iv.ownBlock=some g->g≠z)->z∉hbl q mb iv:=λz h1 h2 hm=>by
  simp only[hbl,List.mem_cons,Option.mem_toList] at hm
  simp at h1
  rcases hm with e|e|e
  ·exact h1.2.1 e
  ·exact h1.2.2 e
  ·exact h2 z e rfl
 refine⟨⟨(ho.block sb (Array.getElem?_eq_some_iff.1 h.s.x).1 s1).trans h.s.x,h.s.s.kept (ho.block p h.s.s.lt s2),h.s.k.kept (ho.block rb h.s.k.lt s3),k.h,h.s.d.kept (λg e=>ho.block g (h.s.d.blk e).2.1 (s7 g e).2.2.2),λg e e'=>h.s.ap g e (by rw[<-k.b];exact e'),h.s.cb⟩,ho.cell (nin bx h.ne.1 (λg e=>(h.i g e).1)) h.x,?_,λg e=>h.i g (by rw[<-k.b];exact e),h.v,λE hE=>?_,h.nd,h.ml,?_,h.ne⟩
 ·obtain⟨ty,hg⟩:=h.g
  exact⟨ty,(ho.block g5 (Array.getElem?_eq_some_iff.1 hg).1 (nin g5 h.ne.2.1 (λg e=>(h.i g e).2))).trans hg⟩
 ·have hE2:=h.m E hE
  refine(ho.block E (Array.getElem?_eq_some_iff.1 hE2).1 (λhm=>?_)).trans hE2
  simp only[hbl,List.mem_cons,Option.mem_toList] at hm
  rcases hm with e|e|e
  ·have:=h.s.h.h.q
   unfold QB at this
   rw[<-e,hE2] at this
   cases this
  ·obtain⟨es,clock,hmp,_⟩:=h.s.h.h.m
   rw[<-e,hE2] at hmp
   cases hmp
  ·obtain⟨_,_,cur,hc⟩:=h.s.h.h.i.blk e
   rw[hE2] at hc
   cases hc
 ·refine Below.trans h.nx (ho.below h.nx.size (λz hz=>?_))
  simp only[hbl,List.mem_cons,Option.mem_toList] at hz
  have:=h.s.cb
  rcases hz with e|e|e
  ·omega
  ·omega
  ·exact(h.s.h.h.i.blk e).1
def SPL (wC:World)(sb p q mb rb n:Nat)(a0:Option Addr)(m0 c0:Nat)(a1:Option Addr)(m1 c1:Nat)(a2:Option Addr)(m2 c2:Nat)(a3:Option Addr)(m3 c3:Nat)(a4:Option Addr)(m4 c4:Nat)(a5:Option Addr)(m5 c5:Nat)(a6:Option Addr)(m6 c6:Nat)(t:Int)(b:Rk)(G:Gr)(s0:Nat)(w0:Int)(bx g5:Nat)(x6 x7:Value)(Ds:List Nat)(W:World):Prop:=
 ∃sv iv S K L D,SPX wC sb p q mb rb n a0 m0 c0 a1 m1 c1 a2 m2 c2 a3 m3 c3 a4 m4 c4 a5 m5 c5 a6 m6 c6 t b G s0 w0 bx g5 W Ds sv iv S K L D/\((x7=.bool false/\x6=iV 0/\DJ (eoG G) (Qz G) s0 w0 t (Qz G) K S [])\/(∃v0:Nat,x7=.bool true/\x6=iV (v0:Int)/\v0<n/\DJ (eoG G) (Qz G) s0 w0 t (Qz G) K S (v0::L)/\∀y∈v0::L,¬rlt (K y) (K v0)))
def SPW (wC:World)(sb p q mb rb n:Nat)(a0:Option Addr)(m0 c0:Nat)(a1:Option Addr)(m1 c1:Nat)(a2:Option Addr)(m2 c2:Nat)(a3:Option Addr)(m3 c3:Nat)(a4:Option Addr)(m4 c4:Nat)(a5:Option Addr)(m5 c5:Nat)(a6:Option Addr)(m6 c6:Nat)(t:Int)(b:Rk)(G:Gr)(s0:Nat)(w0:Int)(bx g5:Nat)(a:Act)(W:World):Prop:=∃(x6 x7:Value) (Ds:List Nat) (u0 u1 u3 u4 u8 u9 u10 u11 u12 u13 u14 u15 u16 u17 u18 u19 u20 u21 u22 u23 u24 u25 u26 u27 u28 u29 u30 u31 u32 u33 u34 u35 u36 u37 u38 u39 u40 u41 u42 u43 u44 u45 u46 u47 u48 u49 u50 u51 u52 u53 u54 u55 u56 u57 u58 u59 u60 u61 u62 u63 u64 u65 u66 u67 u68 u69 u70 u71 u72 u73 u74 u75 u76 u77 u78 u79 u80 u81 u82:Value),SPL wC sb p q mb rb n a0 m0 c0 a1 m1 c1 a2 m2 c2 a3 m3 c3 a4 m4 c4 a5 m5 c5 a6 m6 c6 t b G s0 w0 bx g5 x6 x7 Ds W/\a=⟨List.toArray (u0::u1::pT bx::u3::u4::pT g5::x6::x7::u8::u9::u10::u11::u12::u13::u14::u15::u16::u17::u18::u19::u20::u21::u22::u23::u24::u25::u26::u27::u28::u29::u30::u31::u32::u33::u34::u35::u36::u37::u38::u39::u40::u41::u42::u43::u44::u45::u46::u47::u48::u49::u50::u51::u52::u53::u54::u55::u56::u57::u58::u59::u60::u61::u62::u63::u64::u65::u66::u67::u68::u69::u70::u71::u72::u73::u74::u75::u76::u77::u78::u79::u80::u81::u82::[]),Ds.map Q99⟩
def Qbc (n p:Nat)(W:World):Nat:=match W.cell? (aD p 10) with
 |some (.slice _ k _)=>n+1-k
 |_=>0
theorem Ev {b:Rk}(h:SB W p gv t rb n q sv b)(hd:Q5 C W sv (Ys S)):Qbc n p W=n+1-S.length:=by
 obtain⟨a,c,e⟩:=hd.slice
 have hc:=h.cell.2.2.2.1
 unfold Qbc
 rw[hc,e,Ja]
theorem Q35 (wC:World)(sb p q mb rb n:Nat)(a0:Option Addr)(m0 c0:Nat)(a1:Option Addr)(m1 c1:Nat)(a2:Option Addr)(m2 c2:Nat)(a3:Option Addr)(m3 c3:Nat)(a4:Option Addr)(m4 c4:Nat)(a5:Option Addr)(m5 c5:Nat)(a6:Option Addr)(m6 c6:Nat)(t:Int)(b:Rk)(G:Gr)(s0:Nat)(w0:Int)(bx g5:Nat)(B:Nat)(HVG:Z (VG G))(HH:Z (HG B wC (sL a0 m0 c0) (sL a1 m1 c1) (sL a2 m2 c2) (sL a3 m3 c3) (sL a4 m4 c4) (sL a5 m5 c5) (sL a6 m6 c6) G))(hnG:G.eo.length=n)(hn:n<=6000)(hw0:0<=w0/\w0<=1048576)(hs0:s0<G.eo.length)(Q:Exit->Act->World->Prop)
  (hexit:∀(x6 x7:Value) (Ds:List Nat) (u0 u1 u3 u4 u8 u9 u10 u11 u12 u13 u14 u15 u16 u17 u18 u19 u20 u21 u22 u23 u24 u25 u26 u27 u28 u29 u30 u31 u32 u33 u34 u35 u36 u37 u38 u39 u40 u41 u42 u43 u44 u45 u46 u47 u48 u49 u50 u51 u52 u53 u54 u55 u56 u57 u58 u59 u60 u61 u62 u63 u64 u65 u66 u67 u68 u69 u70 u71 u72 u73 u74 u75 u76 u77 u78 u79 u80 u81 u82:Value) (W:World) (sv iv:Value) (S:List Nat) (K:Nat->Rk) (L:List Nat) (D:DM),SPX wC sb p q mb rb n a0 m0 c0 a1 m1 c1 a2 m2 c2 a3 m3 c3 a4 m4 c4 a5 m5 c5 a6 m6 c6 t b G s0 w0 bx g5 W Ds sv iv S K L D->DJ (eoG G) (Qz G) s0 w0 t (Qz G) K S []->Q (.exit 0) ⟨List.toArray (u0::u1::pT bx::u3::u4::pT g5::x6::x7::u8::u9::u10::u11::u12::u13::u14::u15::u16::u17::u18::u19::u20::u21::u22::u23::u24::u25::u26::u27::u28::u29::u30::u31::u32::u33::u34::u35::u36::u37::u38::u39::u40::u41::u42::u43::u44::u45::u46::u47::u48::u49::u50::u51::u52::u53::u54::u55::u56::u57::u58::u59::u60::u61::u62::u63::u64::u65::u66::u67::u68::u69::u70::u71::u72::u73::u74::u75::u76::u77::u78::u79::u80::u81::u82::[]),Ds.map Q99⟩ W)
  (hret:∀(x6 x7:Value) (Ds:List Nat) (u0 u1 u3 u8 u9 u10 u11 u12 u13 u14 u15 u16 u17 u18 u19 u20 u21 u22 u23 u24 u25 u26 u27 u28 u29 u30 u31 u32 u33 u34 u35 u36 u37 u38 u39 u40 u41 u42 u43 u44 u45 u46 u47 u48 u49 u50 u51 u52 u53 u54 u55 u56 u57 u58 u59 u60 u61 u62 u63 u64 u65 u66 u67 u68 u69 u70 u71 u72 u73 u74 u75 u76 u77 u78 u79 u80 u81 u82:Value) (W:World) (sv iv:Value) (S:List Nat) (K:Nat->Rk) (L:List Nat) (D:DM) (v0:Nat),SPX wC sb p q mb rb n a0 m0 c0 a1 m1 c1 a2 m2 c2 a3 m3 c3 a4 m4 c4 a5 m5 c5 a6 m6 c6 t (K v0) G s0 w0 bx g5 W Ds sv iv S K L D->v0<n->DJ (eoG G) (Qz G) s0 w0 t (Qz G) K S (v0::L)->(∀y∈v0::L,¬rlt (K y) (K v0))->eoG G v0=t->Q .ret ⟨List.toArray (u0::u1::pT bx::u3 :: .bool true::pT g5::x6::x7::u8::u9::u10::u11::u12::u13::u14::u15::u16::u17::u18::u19::u20::u21::u22::u23::u24::u25::u26::u27::u28::u29::u30::u31::u32::u33::u34::u35::u36::u37::u38::u39::u40::u41::u42::u43::u44::u45::u46::u47::u48::u49::u50::u51::u52::u53::u54::u55::u56::u57::u58::u59::u60::u61::u62::u63::u64::u65::u66::u67::u68::u69::u70::u71::u72::u73::u74::u75::u76::u77::u78::u79::u80::u81::u82::[]),Ds.map Q99⟩ W)
  (a:Act) (W:World) (h0:SPW wC sb p q mb rb n a0 m0 c0 a1 m1 c1 a2 m2 c2 a3 m3 c3 a4 m4 c4 a5 m5 c5 a6 m6 c6 t b G s0 w0 bx g5 a W):Code.wp prog (Code.loop (((((Tryz.f30.body.map Uz).getD [])[0]?).getD .skip))) Q a W:=by
 refine wp_loop (SPW wC sb p q mb rb n a0 m0 c0 a1 m1 c1 a2 m2 c2 a3 m3 c3 a4 m4 c4 a5 m5 c5 a6 m6 c6 t b G s0 w0 bx g5) (λ_ W=>Qbc n p W) h0 (λa W hI=>?_)
 clear h0
 have HEX:=hexit
 have HRET:=hret
 clear hexit hret
 conv=>arg 2;whnf
 obtain⟨x6,hI⟩:=hI
 obtain⟨x7,hI⟩:=hI
 obtain⟨Ds,hI⟩:=hI
 obtain⟨u0,hI⟩:=hI
 obtain⟨u1,hI⟩:=hI
 obtain⟨u3,hI⟩:=hI
 obtain⟨u4,hI⟩:=hI
 obtain⟨u8,hI⟩:=hI
 obtain⟨u9,hI⟩:=hI
 obtain⟨u10,hI⟩:=hI
 obtain⟨u11,hI⟩:=hI
 obtain⟨u12,hI⟩:=hI
 obtain⟨u13,hI⟩:=hI
 obtain⟨u14,hI⟩:=hI
 obtain⟨u15,hI⟩:=hI
 obtain⟨u16,hI⟩:=hI
 obtain⟨u17,hI⟩:=hI
 obtain⟨u18,hI⟩:=hI
 obtain⟨u19,hI⟩:=hI
 obtain⟨u20,hI⟩:=hI
 obtain⟨u21,hI⟩:=hI
 obtain⟨u22,hI⟩:=hI
 obtain⟨u23,hI⟩:=hI
 obtain⟨u24,hI⟩:=hI
 obtain⟨u25,hI⟩:=hI
 obtain⟨u26,hI⟩:=hI
 obtain⟨u27,hI⟩:=hI
 obtain⟨u28,hI⟩:=hI
 obtain⟨u29,hI⟩:=hI
 obtain⟨u30,hI⟩:=hI
 obtain⟨u31,hI⟩:=hI
 obtain⟨u32,hI⟩:=hI
 obtain⟨u33,hI⟩:=hI
 obtain⟨u34,hI⟩:=hI
 obtain⟨u35,hI⟩:=hI
 obtain⟨u36,hI⟩:=hI
 obtain⟨u37,hI⟩:=hI
 obtain⟨u38,hI⟩:=hI
 obtain⟨u39,hI⟩:=hI
 obtain⟨u40,hI⟩:=hI
 obtain⟨u41,hI⟩:=hI
 obtain⟨u42,hI⟩:=hI
 obtain⟨u43,hI⟩:=hI
 obtain⟨u44,hI⟩:=hI
 obtain⟨u45,hI⟩:=hI
 obtain⟨u46,hI⟩:=hI
 obtain⟨u47,hI⟩:=hI
 obtain⟨u48,hI⟩:=hI
 obtain⟨u49,hI⟩:=hI
 obtain⟨u50,hI⟩:=hI
 obtain⟨u51,hI⟩:=hI
 obtain⟨u52,hI⟩:=hI
 obtain⟨u53,hI⟩:=hI
 obtain⟨u54,hI⟩:=hI
 obtain⟨u55,hI⟩:=hI
 obtain⟨u56,hI⟩:=hI
 obtain⟨u57,hI⟩:=hI
 obtain⟨u58,hI⟩:=hI
 obtain⟨u59,hI⟩:=hI
 obtain⟨u60,hI⟩:=hI
 obtain⟨u61,hI⟩:=hI
 obtain⟨u62,hI⟩:=hI
 obtain⟨u63,hI⟩:=hI
 obtain⟨u64,hI⟩:=hI
 obtain⟨u65,hI⟩:=hI
 obtain⟨u66,hI⟩:=hI
 obtain⟨u67,hI⟩:=hI
 obtain⟨u68,hI⟩:=hI
 obtain⟨u69,hI⟩:=hI
 obtain⟨u70,hI⟩:=hI
 obtain⟨u71,hI⟩:=hI
 obtain⟨u72,hI⟩:=hI
 obtain⟨u73,hI⟩:=hI
 obtain⟨u74,hI⟩:=hI
 obtain⟨u75,hI⟩:=hI
 obtain⟨u76,hI⟩:=hI
 obtain⟨u77,hI⟩:=hI
 obtain⟨u78,hI⟩:=hI
 obtain⟨u79,hI⟩:=hI
 obtain⟨u80,hI⟩:=hI
 obtain⟨u81,hI⟩:=hI
 obtain⟨u82,hI⟩:=hI
 obtain⟨⟨sv,iv,S,K,L,D,hX,hc⟩,rfl⟩:=hI
 have HX:=mh hX
 clear hX
 rcases hc with⟨rfl,rfl,hDJ⟩|⟨v0,rfl,rfl,hv0,hDJ,hle⟩
 ·have HDJ:=mh hDJ
  have HE:Z _:=HEX
  clear hDJ HEX HRET
  go_wp2
  exact HE.o _ _ _ _ _ _ _ _ _ _ _ _ _ _ _ _ _ _ _ _ _ _ _ _ _ _ _ _ _ _ _ _ _ _ _ _ _ _ _ _ _ _ _ _ _ _ _ _ _ _ _ _ _ _ _ _ _ _ _ _ _ _ _ _ _ _ _ _ _ _ _ _ _ _ _ _ _ _ _ _ _ _ _ _ _ _ _ _ _ HX.o HDJ.o
 have HDJ:=mh hDJ
 have HLE:=mh hle
 clear hDJ hle
 obtain⟨e0,b0,o0,ha0,hc0⟩:=(HH.o.next HX.o.nx).h0.row (by omega)
 subst ha0
 have k0:W.cell? (aD g5 0)=some (sL (some (aD b0 o0)) m0 c0):=HX.o.g.c 0 rfl
 have x0:W.cell? (aD b0 (o0+v0))=some (iV (eoG G v0)):=hc0 v0 (by omega)
 have x1:=HX.o.x
 have p7:=HX.o.s.s.cell.1
 have hv0m:(v0:Int)<m0:=by omega
 have hv06:v0<=6000:=by omega
 clear e0 hc0
 have HEX2:Z _:=HEX
 have HRET2:Z _:=HRET
 clear HEX HRET
 by_cases he:eoG G v0=t
 ·have d1:(eoG G v0==t)=true:=by simpa using he
  have HE:=mh he
  clear he
  generalize eoG G v0=ev at d1 x0
  go_upto_region 6 with fail
  go_quiet (fail)
  have HX6:Z (SPX wC sb p q mb rb n (some (aD b0 o0)) m0 c0 a1 m1 c1 a2 m2 c2 a3 m3 c3 a4 m4 c4 a5 m5 c5 a6 m6 c6 t b G s0 w0 bx g5 (W.drewN nq) Ds sv iv S K L D):=HX.o.next (J3 _ _)
  clear k0 x0 x1 p7
  generalize W.drewN nq=W6 at *
  go_upto_region 7 with fail
  refine Q2v (Q8n W6 p rb n q _ t b sv K v0 bx HX6.o.x HX6.o.s.s HX6.o.s.k hv0 HX6.o.ne.2.2.1 (λe=>HX6.o.s.sep.2.1.2.2 e.symm) _ _ _ _ _ _ _ _ _ _ _ _ _ _ _ _ _ _ _ _ _ _ _ _ _ _ _ _ _ _ _ _ _ _ _ _ _ _ _ _ _ _ _ _ _ _ _ _ _ _ _ _ _ _ _ _ _ _ _ _ _ _ _ _ _ _ _ _ _ _ _ _ _ _ _ _ _ _ _ _ _ _ _ ?_)
  intro y54 y55 y56 y57 y58 y59 y60 y61 y62 y63 W7 hS7 hO7
  have HX7:=HX6.o.turn hS7 (HX6.o.s.d.kept (λg e=>hO7.block g (HX6.o.s.d.blk e).2.1 (by simpa using(HX6.o.s.sep.2.2 g e).2.1))) (hO7.mono (by simp)) (oL rfl)
  clear hS7 hO7 d1
  go_wp2
  exact HRET2.o _ _ _ _ _ _ _ _ _ _ _ _ _ _ _ _ _ _ _ _ _ _ _ _ _ _ _ _ _ _ _ _ _ _ _ _ _ _ _ _ _ _ _ _ _ _ _ _ _ _ _ _ _ _ _ _ _ _ _ _ _ _ _ _ _ _ _ _ _ _ _ _ _ _ _ _ _ _ _ _ _ _ _ _ _ _ _ _ _ HX7 hv0 HDJ.o HLE.o HE.o
 have d1:(eoG G v0==t)=false:=by simpa using he
 have HNE:Z (eoG G v0≠t):=he
 clear he
 generalize eoG G v0=ev at d1 x0
 go_upto_region 6 with fail
 go_quiet (fail)
 have HX6:Z (SPX wC sb p q mb rb n (some (aD b0 o0)) m0 c0 a1 m1 c1 a2 m2 c2 a3 m3 c3 a4 m4 c4 a5 m5 c5 a6 m6 c6 t b G s0 w0 bx g5 (W.drewN nq) Ds sv iv S K L D):=HX.o.next (J3 _ _)
 have HLW:=mh (Ev HX.o.s.s HX.o.s.d)
 clear k0 x0 x1 p7
 generalize W.drewN nq=W6 at *
 have HSN:Z (S.length+1<=n):=by
  have h1:=Pr n (S++[v0]) (by
   rw[List.nodup_append]
   refine⟨HDJ.o.nds,by simp,λx hx y hy e=>?_⟩
   simp at hy
   subst hy;subst e
   exact HDJ.o.dis _ hx (by simp)) (λx hx=>by
   rcases List.mem_append.1 hx with g|g
   ·obtain⟨E,c,hW,_⟩:=HDJ.o.real x ((HDJ.o.dom x).2 (oL g))
    rw[<-hnG]
    exact hW.bd hs0 (Iy HVG.o)
   ·simp at g;omega)
  unfold Z
  simpa using h1
 go_upto_region 9 with fail
 refine Q2v (Q8m wC.heap.size W6 p rb n q _ t b sv S v0 bx HX6.o.x HX6.o.s.s HX6.o.s.d (by have:=HSN.o;omega) HX6.o.nx.size (λg e=>⟨(HX6.o.s.sep.2.2 g e).2.1,(HX6.o.v g e).1⟩) HX6.o.ne.2.2.1 _ _ _ _ _ _ _ _ _ _ _ _ _ _ _ _ _ _ _ _ _ _ _ _ _ _ _ _ _ _ _ _ _ _ _ _ _ _ _ _ _ _ _ _ _ _ _ _ _ _ _ _ _ _ _ _ _ _ _ _ _ _ _ _ _ _ _ _ _ _ _ _ _ _ _ _ _ _ _ _ _ _ _ ?_)
 intro y64 y65 y66 y67 y68 y69 y70 y71 y72 y73 W9 sv9 hd9 hs9 hat9 ho9
 have HX9:=mh (HX6.o.turn hs9 hd9 ho9 hat9)
 clear hd9 hs9 hat9 ho9 d1
 have x9:=HX9.o.x
 go_wp2_with fail
 refine(Er p rb n q _ _ _ _ _ _ _ t sv9 b v0 _ (by exact HX9.o.s.s) (by intro x hx;simp at hx;rcases hx with rfl|rfl|rfl|rfl|rfl|rfl|rfl<;>exact⟨_,_,_,rfl⟩)).mono ?_
 rintro e W10 ⟨bg,bv,bs,rfl,hOW,hls,hx10⟩
 have HX10:=mh (HX9.o.next hx10)
 obtain⟨e2,b2,o2,ha2,hc2⟩:=HH.o.h2.row (by have:=HVG.o.lf;omega)
 have hb2:=Jk (hc2 0 (by have:=HVG.o.lf;omega))
 have e3:=HH.o.h3.len
 have e4:=HH.o.h4.len
 subst ha2
 have hvG:v0<G.eo.length:=by omega
 have hfl:=Ku HVG.o hvG
 have hft:=(Jr HVG.o (show v0+1<=G.eo.length by omega)).2
 have HR3:Z (∀k,fst G v0<=k->k<fst G (v0+1)->∃b o,a3=some (aD b o)/\b<wC.heap.size/\wC.cell? (aD b (o+k))=some (iV (iat G.tt k))):=λk h1 h2=>by
  obtain⟨_,b,o,ha,hc⟩:=HH.o.h3.row (by omega)
  exact⟨b,o,ha,Jk (hc k (by omega)),hc k (by omega)⟩
 have HR4:Z (∀k,fst G v0<=k->k<fst G (v0+1)->∃b o,a4=some (aD b o)/\b<wC.heap.size/\wC.cell? (aD b (o+k))=some (iV (iat G.co k))):=λk h1 h2=>by
  have:=HVG.o.lc
  obtain⟨_,b,o,ha,hc⟩:=HH.o.h4.row (by omega)
  exact⟨b,o,ha,Jk (hc k (by omega)),hc k (by omega)⟩
 have HITC:Z (ITC W10 bg bv bs p rb n v0 b2 o2 m2 c2 a3 m3 c3 a4 m4 c4 G (K v0)):=by
  refine⟨hOW.g.c 2 rfl,hOW.g.c 3 rfl,hOW.g.c 4 rfl,hOW.v.c 0 rfl,hOW.s.c 0 rfl,HX10.o.s.s.cell.2.1,HX10.o.s.k.c1 hv0,HX10.o.s.k.c2 hv0,?_,?_,λk h1 h2=>?_,λk h1 h2=>?_⟩
  ·rw[<-(Jr HVG.o (show v0<=G.eo.length by omega)).1]
   exact Q0 HX10.o.nx (hc2 v0 (by have:=HVG.o.lf;omega))
  ·rw[<-(Jr HVG.o (show v0+1<=G.eo.length by omega)).1]
   exact Q0 HX10.o.nx (hc2 (v0+1) (by have:=HVG.o.lf;omega))
  ·obtain⟨b,o,ha,_,hc⟩:=HR3.o k h1 h2
   exact⟨b,o,ha,Q0 HX10.o.nx hc⟩
  ·obtain⟨b,o,ha,_,hc⟩:=HR4.o k h1 h2
   exact⟨b,o,ha,Q0 HX10.o.nx hc⟩
 have hv0S:v0∉S:=λg=>HDJ.o.dis v0 g (by simp)
 have hv0L:=(List.nodup_cons.1 HDJ.o.ndo).1
 have HDJ2:Z (DJ (eoG G) (Qz G) s0 w0 t (Aq G (K v0) v0 []) K (S++[v0]) L):=HDJ.o.settle (by simp) (List.nodup_cons.1 HDJ.o.ndo).2 (λy=>⟨λh=>⟨by simp[h],λe=>hv0L (by rw[<-e];exact h)⟩,λh=>by
   rcases List.mem_cons.1 h.1 with e|e
   ·exact absurd e h.2
   ·exact e⟩) HLE.o HNE.o (λu hu x hx=>by
   unfold Aq at hx
   rw[if_neg (λe:u=v0=>hv0S (by rw[<-e];exact hu))] at hx
   exact hx) (by unfold Aq;rw[if_pos rfl,List.filter_eq_nil_iff];simp)
 have HRB:Z ((0<=(K v0).1/\(K v0).1<=100000000000)/\(0<=(K v0).2/\(K v0).2<=100000)):=by
  obtain⟨E,c,hW,e⟩:=HDJ.o.real v0 ((HDJ.o.dom v0).2 (oR (by simp)))
  have h1:=Q6w HVG.o hw0 hW
  have h2:=HDJ.o.cn.2 v0 (by simp)
  have h3:=HSN.o
  rw[e] at h2 ⊢
  simp only at h2 ⊢
  unfold Z
  omega
 obtain⟨es,clock,hmp,_⟩:=HX10.o.s.h.h.m
 have hmb9:mb<W9.heap.size:=by
  obtain⟨es,clock,hmp,_⟩:=HX9.o.s.h.h.m
  exact(Array.getElem?_eq_some_iff.1 hmp).1
 have hq9:=(Array.getElem?_eq_some_iff.1 HX9.o.s.h.h.q).1
 have hrb9:=HX9.o.s.k.lt
 have hbx9:=Jk HX9.o.x
 have hg59:g5<W9.heap.size:=by
  obtain⟨ty,hb⟩:=HX9.o.g
  exact(Array.getElem?_eq_some_iff.1 hb).1
 have hsz:=hx10.size
 have hbg:=hOW.g.lt
 have hbv:=hOW.v.lt
 have hbs:=hOW.s.lt
 have HRI:Z (RI2 wC.heap.size W10 Ds sb p q mb rb n [sL (some (aD b0 o0)) m0 c0,sL a1 m1 c1,sL (some (aD b2 o2)) m2 c2,sL a3 m3 c3,sL a4 m4 c4,sL a5 m5 c5,sL a6 m6 c6] t b sv9 G s0 w0 S v0 (K v0) bx bg bv bs g5 [] W10):=by
  refine⟨⟨iv,K,L,D,HX10.o.s,HDJ2.o,rfl,λg e=>?_,HX10.o.g,HX10.o.x⟩,Below.refl _ _,HX10.o.m⟩
  have h1:=(HX9.o.s.h.h.i.blk e).2.1
  have h2:=HX10.o.i g e
  exact⟨h2.1,by omega,by omega,by omega,h2.2⟩
 have HSEP:Z ((bx∉[rb,q,mb]/\bg∉[rb,q,mb]/\bv∉[rb,q,mb]/\bs∉[rb,q,mb]/\g5∉[rb,q,mb])/\(b2<wC.heap.size/\(fst G v0<fst G (v0+1)->∀b o,a3=some (aD b o)->b<wC.heap.size)/\(fst G v0<fst G (v0+1)->∀b o,a4=some (aD b o)->b<wC.heap.size))/\(bx<W10.heap.size/\bg<W10.heap.size/\bv<W10.heap.size/\bs<W10.heap.size/\g5<W10.heap.size)):=by
  refine⟨⟨HX10.o.ne.1,by simp;omega,by simp;omega,by simp;omega,HX10.o.ne.2.1⟩,⟨hb2,λhf b o e=>?_,λhf b o e=>?_⟩,by omega,hbg,hbv,hbs,by omega⟩
  ·obtain⟨b',o',ha,hl,_⟩:=HR3.o (fst G v0) lR hf
   rw[ha] at e
   simp only[Option.some.injEq,Addr.mk.injEq,and_true] at e
   omega
  ·obtain⟨b',o',ha,hl,_⟩:=HR4.o (fst G v0) lR hf
   rw[ha] at e
   simp only[Option.some.injEq,Addr.mk.injEq,and_true] at e
   omega
 have hDl:∀E∈Ds,E<W10.heap.size:=λE hE=>(Array.getElem?_eq_some_iff.1 (HX10.o.m E hE)).1
 clear hc2 hOW hv0S hv0L x9
 go_wp2
 refine Q1m wC.heap.size W10 Ds sb p q mb rb n _ t b sv9 G s0 w0 S v0 (K v0) bx bg bv bs g5 b2 o2 m2 c2 a3 m3 c3 a4 m4 c4 HVG hvG e2 e3 e4 hnG hn HRB.o.1 HRB.o.2 (by have:=HX10.o.nx.size;omega) (by omega) hDl HSEP HITC HRI _ _ _ _ _ _ _ _ _ _ _ _ _ _ _ _ _ _ _ _ _ _ _ _ _ _ _ _ _ _ _ _ _ _ _ _ _ _ _ _ _ _ _ _ _ _ _ _ _ _ _ _ _ _ _ _ _ _ _ _ _ _ _ _ _ _ _ _ _ _ _ _ _ _ _ _ _ _ _ _ _ _ _ ?_
 intro E ys W11 hE hys hI hK
 obtain⟨⟨iv2,K2,L2,D2,hRG⟩,hB,hm⟩:=hI
 have HX11:Z (SPX wC sb p q mb rb n (some (aD b0 o0)) m0 c0 a1 m1 c1 (some (aD b2 o2)) m2 c2 a3 m3 c3 a4 m4 c4 a5 m5 c5 a6 m6 c6 t b G s0 w0 bx g5 W11 (E::Ds) sv9 iv2 (S++[v0]) K2 L2 D2):=by
  refine⟨hRG.s,hRG.x,hRG.g,λg e=>⟨(hRG.i g e).1,(hRG.i g e).2.2.2.2⟩,HX10.o.v,λF hF=>?_,?_,λF hF=>?_,Below.trans HX10.o.nx hB,HX10.o.ne⟩
  ·rcases List.mem_cons.1 hF with e|e
   ·rw[e];exact hK
   ·exact hm F e
  ·rw[List.nodup_cons]
   exact⟨λg=>by have:=hDl E g;omega,HX10.o.nd⟩
  ·rcases List.mem_cons.1 hF with e|e
   ·have:=HX10.o.nx.size;omega
   ·exact HX10.o.ml F e
 have HDJ3:=mh (hRG.j.arcs_to (λu hu x hx=>by rw[hys];exact Qck HVG.o hx))
 have x11:=HX11.o.x
 have p9:=HX11.o.s.s.cell.2.2.1
 clear hRG hB hm hys hK HITC HRI HSEP HR3 HR4 HDJ2 hDl
 by_cases hL:L2.length=0
 ·obtain rfl:L2=[]:=List.length_eq_zero_iff.1 hL
  clear hL
  go_wp2_with fail
  refine(Qd6 wC.heap.size q sb mb n iv2 K2 D2 _ (by exact HX11.o.s.h)).mono ?_
  rintro e W12 ⟨rfl,hx12⟩
  have HX12:=HX11.o.next hx12
  clear x11 p9
  go_wp2
  refine⟨⟨_,_,E::Ds,_,_,_,_,_,_,_,_,_,_,_,_,_,_,_,_,_,_,_,_,_,_,_,_,_,_,_,_,_,_,_,_,_,_,_,_,_,_,_,_,_,_,_,_,_,_,_,_,_,_,_,_,_,_,_,_,_,_,_,_,_,_,_,_,_,_,_,_,_,_,_,_,_,_,_,_,_,_,_,⟨sv9,iv2,S++[v0],K2,[],D2,HX12,oL ⟨rfl,rfl,HDJ3.o⟩⟩,rfl⟩,?_⟩
  rw[HLW.o,Ev HX12.s.s HX12.s.d,zA,List.length_singleton]
  have:=HSN.o
  omega
 ·obtain⟨zk,hLl⟩:∃zk,L2.length=zk+1:=⟨L2.length-1,by omega⟩
  have HLl:=mh hLl
  clear hL hLl
  go_wp2_with fail
  refine(Q32 wC.heap.size q sb mb p rb n iv2 K2 L2 D2 zk _ (by exact HX11.o.s.h) HLl.o (by exact HX11.o.s.cm) hn (by exact HX11.o.s.sep.1)).mono ?_
  rintro e W12 ⟨iv3,L3,D3,rfl,hTK⟩
  have HX12:=HX11.o.taken hTK
  have hl0:lat L2 0∈L2:=T7 (by have:=HLl.o;omega)
  have hmem:∀y,y∈lat L2 0::L3↔y∈L2:=λy=>by
   rw[List.mem_cons,hTK.e]
   constructor
   ·rintro(e|e)
    ·rw[e];exact hl0
    ·exact e.1
   ·intro h
    by_cases e:y=lat L2 0
    ·exact oL e
    ·exact oR ⟨h,e⟩
  have HDJ4:=HDJ3.o.perm (O':=lat L2 0::L3) (by
   rw[List.nodup_cons]
   exact⟨λg=>((hTK.e _).1 g).2 rfl,hTK.h.j.nodup⟩) hmem
  have hmin:∀y∈lat L2 0::L3,¬rlt (K2 y) (K2 (lat L2 0)):=λy hy=>by
   obtain⟨i,hi,rfl⟩:=Jo.1 ((hmem y).1 hy)
   exact HX11.o.s.h.o.root i hi
  have hlt:=HX11.o.s.h.v _ hl0
  clear x11 p9 hTK
  go_wp2
  refine⟨⟨_,_,E::Ds,_,_,_,_,_,_,_,_,_,_,_,_,_,_,_,_,_,_,_,_,_,_,_,_,_,_,_,_,_,_,_,_,_,_,_,_,_,_,_,_,_,_,_,_,_,_,_,_,_,_,_,_,_,_,_,_,_,_,_,_,_,_,_,_,_,_,_,_,_,_,_,_,_,_,_,_,_,_,_,⟨sv9,iv3,S++[v0],K2,L3,D3,HX12,oR ⟨lat L2 0,rfl,rfl,hlt,HDJ4,hmin⟩⟩,rfl⟩,?_⟩
  rw[HLW.o,Ev HX12.s.s HX12.s.d,zA,List.length_singleton]
  have:=HSN.o
  omega
theorem SR.marks {b:Rk}(h:SR C w sb p q mb rb n gv t b iv sv K L D S)(hm:∀E∈Ds,w.heap[E]?=some (.deferred (some [])))(ho:OnS Ds w w'):SR C w' sb p q mb rb n gv t b iv sv K L D S:=by
 have kc:∀(g:Nat) (c:Array Value) (ty:TypeId) (fz:Nat×Nat),w.heap[g]?=some (.cells c ty fz)->w'.heap[g]?=w.heap[g]?:=λg c ty fz hc=>ho.block g (Array.getElem?_eq_some_iff.1 hc).1 (λe=>by
  have:=hm g e
  rw[hc] at this
  cases this)
 obtain⟨es,clock,hb,rest⟩:=h.h.h.m
 obtain⟨cr,hcr,_⟩:=h.k
 refine⟨(kc _ _ _ _ h.x).trans h.x,h.s.kept (kc _ _ _ _ h.s.2),h.k.kept (kc _ _ _ _ hcr),⟨⟨(kc _ _ _ _ h.h.h.q).trans h.h.h.q,h.h.h.i.kept (λg e=>?_),⟨es,clock,(ho.block mb (Array.getElem?_eq_some_iff.1 hb).1 (λe=>by have:=hm mb e;rw[hb] at this;cases this)).trans hb,rest⟩⟩,h.h.o,h.h.j,h.h.p,h.h.v,h.h.s⟩,h.d.kept (λg e=>?_),h.ap,h.cb⟩
 ·obtain⟨_,_,cur,hc⟩:=h.h.h.i.blk e
  exact kc _ _ _ _ hc
 ·obtain⟨_,_,cur,hc⟩:=h.d.blk e
  exact kc _ _ _ _ hc
def SPE (wC:World)(sb p q mb rb n:Nat)(a0:Option Addr)(m0 c0:Nat)(a1:Option Addr)(m1 c1:Nat)(a2:Option Addr)(m2 c2:Nat)(a3:Option Addr)(m3 c3:Nat)(a4:Option Addr)(m4 c4:Nat)(a5:Option Addr)(m5 c5:Nat)(a6:Option Addr)(m6 c6:Nat)(t:Int)(G:Gr)(s0:Nat)(w0:Int)(e:Ending)(W:World):Prop:=
 Nx wC W/\((e=.returned (.bool false)/\Fl t (λc E=>∃v,WK (eoG G) (Qz G) s0 w0 E c v/\eoG G v=t) ⟨1,0,[]⟩) \/
  (e=.returned (.bool true)/\∃sv iv S K L D v0,SR wC.heap.size W sb p q mb rb n [sL a0 m0 c0,sL a1 m1 c1,sL a2 m2 c2,sL a3 m3 c3,sL a4 m4 c4,sL a5 m5 c5,sL a6 m6 c6] t (K v0) iv sv K L D S/\v0<n/\DJ (eoG G) (Qz G) s0 w0 t (Qz G) K S (v0::L)/\(∀y∈v0::L,¬rlt (K y) (K v0))/\eoG G v0=t))
theorem Q54 (wC w:World)(sb p q mb rb n:Nat)(a0:Option Addr)(m0 c0:Nat)(a1:Option Addr)(m1 c1:Nat)(a2:Option Addr)(m2 c2:Nat)(a3:Option Addr)(m3 c3:Nat)(a4:Option Addr)(m4 c4:Nat)(a5:Option Addr)(m5 c5:Nat)(a6:Option Addr)(m6 c6:Nat)(t:Int)(G:Gr)(B:Nat)(sn:Nat)(iv sv:Value)(D:DM)(HVG:Z (VG G))(HH:Z (HG B wC (sL a0 m0 c0) (sL a1 m1 c1) (sL a2 m2 c2) (sL a3 m3 c3) (sL a4 m4 c4) (sL a5 m5 c5) (sL a6 m6 c6) G))(hnG:G.eo.length=n)(hsn:sn<G.sr.length)(hnx:Nx wC w)(h:SR wC.heap.size w sb p q mb rb n [sL a0 m0 c0,sL a1 m1 c1,sL a2 m2 c2,sL a3 m3 c3,sL a4 m4 c4,sL a5 m5 c5,sL a6 m6 c6] t (0,0) iv sv (λ_=>(0,0)) [] D []) :
  Calls prog 30 #[pT p,iV (sn:Int)] w λe w'=>SPE wC sb p q mb rb n a0 m0 c0 a1 m1 c1 a2 m2 c2 a3 m3 c3 a4 m4 c4 a5 m5 c5 a6 m6 c6 t G (stG G sn) (iat G.we sn) e w':=by
 have hn6:n<=6000:=by have:=HVG.o.v;omega
 obtain⟨hst,hsr,hse⟩:=Qac HVG.o hsn
 have hwe:=HVG.o.we sn hsn
 have H:=mh h
 clear h
 refine(callsIn_wide (n:=9)).1 (callsIn_of_wp_marks func30 rfl trivial ?_ rfl)
 simp only[ntmps30,List.size_toArray,List.length_cons,List.length_nil,Nat.reduceAdd,Nat.reduceSub,Array.replicate_succ,Array.replicate_zero,List.push_toArray,List.append_toArray,List.nil_append,List.cons_append]
 refine wpIn_wide.2 ?_
 have HX1:Z (Nx w (w.alloc (.cells #[pT p] 47))):=Qe _ _
 have HB1:Z (Blk (w.alloc (.cells #[pT p] 47)) w.heap.size #[pT p]):=Blk.new w _ _ _ rfl
 have hz1:(w.alloc (.cells #[pT p] 47)).heap.size=w.heap.size+1:=Q1 _ _
 go_upto_region 1 with fail
 generalize w.alloc (.cells #[pT p] 47)=w1 at *
 have hS1:=H.o.next HX1.o
 obtain⟨k0,k1,k2,k3,k4,k5,k6⟩:=hS1.s.gcell
 have s0x:w1.cell? (aD w.heap.size 0)=some (pT p):=HB1.o.c 0 rfl
 have HX2:Z (Nx w1 (w1.alloc (.cells #[sL a0 m0 c0,sL a1 m1 c1,sL a2 m2 c2,sL a3 m3 c3,sL a4 m4 c4,sL a5 m5 c5,sL a6 m6 c6] 25))):=Qe _ _
 have HB2:Z (Blk (w1.alloc (.cells #[sL a0 m0 c0,sL a1 m1 c1,sL a2 m2 c2,sL a3 m3 c3,sL a4 m4 c4,sL a5 m5 c5,sL a6 m6 c6] 25)) w1.heap.size #[sL a0 m0 c0,sL a1 m1 c1,sL a2 m2 c2,sL a3 m3 c3,sL a4 m4 c4,sL a5 m5 c5,sL a6 m6 c6]):=Blk.new w1 _ _ _ rfl
 have hz2:(w1.alloc (.cells #[sL a0 m0 c0,sL a1 m1 c1,sL a2 m2 c2,sL a3 m3 c3,sL a4 m4 c4,sL a5 m5 c5,sL a6 m6 c6] 25)).heap.size=w1.heap.size+1:=Q1 _ _
 clear hS1
 go_upto_region 2 with fail
 clear k0 k1 k2 k3 k4 k5 k6
 generalize w1.alloc (.cells #[sL a0 m0 c0,sL a1 m1 c1,sL a2 m2 c2,sL a3 m3 c3,sL a4 m4 c4,sL a5 m5 c5,sL a6 m6 c6] 25)=w2 at *
 have HS2:=mh ((H.o.next HX1.o).next HX2.o)
 have HN2:=mh ((hnx.trans HX1.o).trans HX2.o)
 obtain⟨e5,b5,o5,ha5,hc5⟩:=HH.o.h5.row (by omega)
 obtain⟨e6,b6,o6,ha6,hc6⟩:=HH.o.h6.row (by have:=HVG.o.lw;omega)
 subst ha5 ha6
 have hs5:(sn:Int)<m5:=by omega
 have hs6:(sn:Int)<m6:=by have:=HVG.o.lw;omega
 have y5:wC.cell? (aD b5 (o5+sn))=some (iV (stG G sn:Int)):=by rw[<-hsr];exact hc5 sn hsn
 have y6:=hc6 sn (by have:=HVG.o.lw;omega)
 have Y5:=mh y5
 have Y6:=mh y6
 have v5:=Q0 HN2.o y5
 have v6:=Q0 HN2.o y6
 have vx:=Q0 HX2.o s0x
 have g5c:w2.cell? (aD (w.heap.size+1) 5)=some (sL (some (aD b5 o5)) m5 c5):=by rw[<-hz1];exact HB2.o.c 5 rfl
 have g6c:w2.cell? (aD (w.heap.size+1) 6)=some (sL (some (aD b6 o6)) m6 c6):=by rw[<-hz1];exact HB2.o.c 6 rfl
 have HNS:Z (w.heap.size∉sbl q mb rb iv/\w.heap.size+1∉sbl q mb rb iv/\∀z,z<wC.heap.size->z∉sbl q mb rb iv):=by
  have hq:=(Array.getElem?_eq_some_iff.1 H.o.h.h.q).1
  have hr:=H.o.k.lt
  obtain⟨es,clock,hmp,_⟩:=H.o.h.h.m
  have hm:=(Array.getElem?_eq_some_iff.1 hmp).1
  have hcb:=H.o.cb
  have key:∀z,(∀y,(y=rb\/y=q\/y=mb\/iv.ownBlock=some y)->y≠z)->z∉sbl q mb rb iv:=λz hz hmz=>by
   simp only[sbl,hbl,List.mem_cons,Option.mem_toList] at hmz
   rcases hmz with e|e|e|e
   ·exact hz z (oL e) rfl
   ·exact hz z (oR (oL e)) rfl
   ·exact hz z (oR (oR (oL e))) rfl
   ·exact hz z (oR (oR (oR e))) rfl
  have low:∀y,(y=rb\/y=q\/y=mb\/iv.ownBlock=some y)->y<w.heap.size/\wC.heap.size<=y:=λy hy=>by
   rcases hy with e|e|e|e
   ·omega
   ·omega
   ·omega
   ·have:=H.o.h.h.i.blk e;omega
  exact⟨key _ (λy hy=>by have:=low y hy;omega),key _ (λy hy=>by have:=low y hy;omega),λz hz=>key _ (λy hy=>by have:=low y hy;omega)⟩
 have HC2:=mh HN2.o.size
 have HZ1:=mh hz1
 have HZ2:=mh hz2
 have hst6:stG G sn<=6000:=by omega
 have HSE:=mh hse
 have HST:Z (stG G sn<n):=by unfold Z;omega
 clear hz1 hz2 e5 e6 hsr hse y5 y6 hc5 hc6 s0x
 go_region_held3 (λw'=>w'.cell? (aD w.heap.size 0)=some (pT p)/\w'.cell? (aD (w.heap.size+1) 5)=some (sL (some (aD b5 o5)) m5 c5)/\w'.cell? (aD (w.heap.size+1) 6)=some (sL (some (aD b6 o6)) m6 c6)/\w'.cell? (aD b5 (o5+sn))=some (iV (stG G sn:Int))/\w'.cell? (aD b6 (o6+sn))=some (iV (iat G.we sn))) (first|exact⟨t1,t2,t3,t4,t5⟩|(go_keep;done)) (first|(go_at_call 47;refine(Q0i wC.heap.size sb p q mb rb n _ t (0,0) iv sv (λ_=>(0,0)) [] D [] (stG G sn) (iat G.we sn,1) _ (by exact HS2.o.next (Nx.refl _).drew) HST.o hn6 (λh=>by simp at h) (by exact HC2.o)).mono ?_;rintro e w3 ⟨z,iv3,K3,L3,D3,rfl,hRC⟩;have HRC:Z (RC wC.heap.size w2.drew w3 sb p q mb rb n _ t (0,0) iv sv (λ_=>(0,0)) [] [] (stG G sn) (iat G.we sn,1) iv3 K3 L3 D3):=hRC;have t1:=hRC.on.cell HNS.o.1 (by exact vx);have t2:=hRC.on.cell HNS.o.2.1 (by exact g5c);have t3:=hRC.on.cell HNS.o.2.1 (by exact g6c);have t4:=hRC.on.cell (HNS.o.2.2 b5 (Jk Y5.o)) (by exact v5);have t5:=hRC.on.cell (HNS.o.2.2 b6 (Jk Y6.o)) (by exact v6);clear hRC))
 have hy:=HRC.o.y (oL rfl)
 have HX3:Z (SPX wC sb p q mb rb n a0 m0 c0 a1 m1 c1 a2 m2 c2 a3 m3 c3 a4 m4 c4 (some (aD b5 o5)) m5 c5 (some (aD b6 o6)) m6 c6 t (0,0) G (stG G sn) (iat G.we sn) w.heap.size (w.heap.size+1) w3 [] sv iv3 [] K3 L3 D3):=by
  have hq:=(Array.getElem?_eq_some_iff.1 H.o.h.h.q).1
  have hr:=H.o.k.lt
  obtain⟨es,clock,hmp,_⟩:=H.o.h.h.m
  have hm:=(Array.getElem?_eq_some_iff.1 hmp).1
  have hp:=H.o.s.lt
  have h1:=HZ1.o
  have h2:=HZ2.o
  refine⟨HRC.o.s,t1,?_,λg e=>?_,λg e=>?_,by simp,by simp,by simp,?_,by simp;omega,by simp;omega,by omega,by omega⟩
  ·obtain⟨ty,hb⟩:=HB2.o
   refine⟨ty,(HRC.o.on.block (w.heap.size+1) (by show w.heap.size+1<w2.heap.size;omega) HNS.o.2.1).trans ?_⟩
   rw[<-h1]
   exact hb
  ·rcases HRC.o.b g e with q1|q1
   ·have:=(H.o.h.h.i.blk q1).2.1
    exact⟨by omega,by omega⟩
   ·have:w2.heap.size<=g:=q1
    exact⟨by omega,by omega⟩
  ·have:=(H.o.d.blk e).2.1
   exact⟨by omega,by omega⟩
  ·exact Below.trans (HN2.o.drew) (HRC.o.on.below HC2.o (λz hz=>Classical.byContradiction λhlt=>HNS.o.2.2 z (by omega) hz))
 have HDJ3:Z (DJ (eoG G) (Qz G) (stG G sn) (iat G.we sn) t (Qz G) K3 [] L3):=(DJ.start (Qz G) (λv hv=>hy.2.1 v hv) hy.1).perm HRC.o.s.h.j.nodup (λy=>by rw[hy.2.2];simp)
 have hL3:=(hy.2.2 _).2 (oR rfl)
 obtain⟨zk,hzk⟩:∃zk,L3.length=zk+1:=⟨L3.length-1,by have:=List.length_pos_of_mem hL3;omega⟩
 have HZK:=mh hzk
 have x3:=HX3.o.x
 have p9:=HX3.o.s.s.cell.2.2.1
 clear t1 t2 t3 t4 t5 v5 v6 vx g5c g6c hy hL3 hzk HRC HNS
 go_wp2_with fail
 refine(Q32 wC.heap.size q sb mb p rb n iv3 K3 L3 D3 zk _ (by exact HX3.o.s.h) HZK.o (by exact HX3.o.s.cm) hn6 (by exact HX3.o.s.sep.1)).mono ?_
 rintro e w4 ⟨iv4,L4,D4,rfl,hTK⟩
 have HX4:=HX3.o.taken hTK
 have hl0:lat L3 0∈L3:=T7 (by have:=HZK.o;omega)
 have hmem:∀y,y∈lat L3 0::L4↔y∈L3:=λy=>by
  rw[List.mem_cons,hTK.e]
  constructor
  ·rintro(e|e)
   ·rw[e];exact hl0
   ·exact e.1
  ·intro h
   by_cases e:y=lat L3 0
   ·exact oL e
   ·exact oR ⟨h,e⟩
 have HDJ4:=HDJ3.o.perm (O':=lat L3 0::L4) (by
  rw[List.nodup_cons]
  exact⟨λg=>((hTK.e _).1 g).2 rfl,hTK.h.j.nodup⟩) hmem
 have hmin:∀y∈lat L3 0::L4,¬rlt (K3 y) (K3 (lat L3 0)):=λy hy=>by
  obtain⟨i,hi,rfl⟩:=Jo.1 ((hmem y).1 hy)
  exact HX3.o.s.h.o.root i hi
 have hlt:=HX3.o.s.h.v _ hl0
 clear x3 p9 hTK
 go_wp2
 refine Q35 wC sb p q mb rb n a0 m0 c0 a1 m1 c1 a2 m2 c2 a3 m3 c3 a4 m4 c4 (some (aD b5 o5)) m5 c5 (some (aD b6 o6)) m6 c6 t (0,0) G (stG G sn) (iat G.we sn) w.heap.size (w.heap.size+1) B HVG HH hnG hn6 hwe (by rw[hnG];exact HST.o) _ ?_ ?_ _ _ ⟨_,_,[],_,_,_,_,_,_,_,_,_,_,_,_,_,_,_,_,_,_,_,_,_,_,_,_,_,_,_,_,_,_,_,_,_,_,_,_,_,_,_,_,_,_,_,_,_,_,_,_,_,_,_,_,_,_,_,_,_,_,_,_,_,_,_,_,_,_,_,_,_,_,_,_,_,_,_,_,_,_,_,⟨sv,iv4,[],K3,L4,D4,HX4,oR ⟨lat L3 0,rfl,rfl,hlt,HDJ4,hmin⟩⟩,rfl⟩
 ·intro x6 x7 Ds u0 u1 u3 u4 u8 u9 u10 u11 u12 u13 u14 u15 u16 u17 u18 u19 u20 u21 u22 u23 u24 u25 u26 u27 u28 u29 u30 u31 u32 u33 u34 u35 u36 u37 u38 u39 u40 u41 u42 u43 u44 u45 u46 u47 u48 u49 u50 u51 u52 u53 u54 u55 u56 u57 u58 u59 u60 u61 u62 u63 u64 u65 u66 u67 u68 u69 u70 u71 u72 u73 u74 u75 u76 u77 u78 u79 u80 u81 u82 W sv' iv' S' K' L' D' hX hD
  have hB:=hD.none (λv u k h=>(Iz HVG.o v u k h).1)
  go_wp2
  refine U2 Ds W hX.nd hX.m (λW' ho=>?_)
  refine⟨_,results_tmp rfl _ _ _,Below.trans hX.nx (ho.below hX.nx.size (λz hz=>?_)),oL ⟨rfl,hB⟩⟩
  exact hX.ml z hz
 ·intro x6 x7 Ds u0 u1 u3 u8 u9 u10 u11 u12 u13 u14 u15 u16 u17 u18 u19 u20 u21 u22 u23 u24 u25 u26 u27 u28 u29 u30 u31 u32 u33 u34 u35 u36 u37 u38 u39 u40 u41 u42 u43 u44 u45 u46 u47 u48 u49 u50 u51 u52 u53 u54 u55 u56 u57 u58 u59 u60 u61 u62 u63 u64 u65 u66 u67 u68 u69 u70 u71 u72 u73 u74 u75 u76 u77 u78 u79 u80 u81 u82 W sv' iv' S' K' L' D' v0 hX hv0 hD hle he
  refine U2 Ds W hX.nd hX.m (λW' ho=>?_)
  refine⟨_,results_tmp rfl _ _ _,Below.trans hX.nx (ho.below hX.nx.size (λz hz=>?_)),oR ⟨rfl,sv',iv',S',K',L',D',v0,hX.s.marks hX.m ho,hv0,hD,hle,he⟩⟩
  exact hX.ml z hz
attribute [local go_sem] Oper.semAt_some
structure ITB (W:World)(bq:Nat)(sa:Option Addr)(cap:Nat)(S:List Nat):Prop where
 b:W.cell? (aD bq 0)=some (sL sa S.length cap)
 r:∀i,i<S.length->∃gs,sa=some (aD gs 0)/\W.cell? (aD gs i)=some (iV (lat S i:Int))
def bk (S:List Nat)(c:Nat):List (Nat×Nat):=(List.range c).map (λd=>(S.length-1-d,lat S (S.length-1-d)))
theorem Q81 (S:List Nat)(c:Nat):bk S (c+1)=bk S c++[(S.length-1-c,lat S (S.length-1-c))]:=by simp[bk,List.range_succ]
theorem Qc7 (S:List Nat)(c:Nat):(bk S c).length=c:=by simp[bk]
def Qe4 (x:Nat×Nat):Array Value:=#[iV (x.1:Int),iV (x.2:Int)]
theorem Qce (m l bq:Nat)(sa:Option Addr)(cap:Nat)(S:List Nat)(hl:S.length<=10000)(J Jx:List (Nat×Nat)->World->Prop)(W:World)
  (hY:∀pre x W,(∃c,c<S.length/\x=(S.length-1-c,lat S (S.length-1-c))/\pre=bk S c)->J pre W->YieldAt Fence.wide m prog l (Qe4 x) W λe W'=>(e=.returned (.bool true)/\J (pre++[x]) W'/\(ITB W bq sa cap S->ITB W' bq sa cap S))\/(e=.returned (.bool false)/\Jx (pre++[x]) W'))
  (hI:ITB W bq sa cap S) (h0:J [] W) :
  CallsIn Fence.wide (m+1) prog 101 #[.func (.yield l) #[] #[],pT bq] W λe W'=>(∃x,e=.returned x)/\((∃ys,ys=bk S S.length/\J ys W')\/(∃pre,(∃c,c<S.length/\pre=bk S (c+1))/\Jx pre W')):=by
 have HY:=mh hY
 have HI0:=mh hI
 have HJ0:Z (J (bk S 0) W):=h0
 have x0:=hI.b
 clear hY hI h0
 refine callsIn_of_wp func101 rfl trivial ?_ rfl
 simp only[ntmps101,List.size_toArray,List.length_cons,List.length_nil,Nat.reduceAdd,Nat.reduceSub,Array.replicate_succ,Array.replicate_zero,List.push_toArray,List.append_toArray,List.nil_append,List.cons_append]
 gi_wp2
 clear x0
 gi_loopw [3] (λi wr=>∃c:Nat,c<=S.length/\i=iV ((S.length:Int)-1-(c:Int))/\Z (J (bk S c) wr)/\Z (ITB wr bq sa cap S)) (λi _=>(intOf i+1).toNat)
 case atStart=>exact⟨0,nZ,by simp,HJ0,HI0⟩
 case round=>
  clear HJ0 HI0
  obtain⟨c,hc,rfl,HJ,HI⟩:=hrel
  by_cases hlt:c<S.length
  ·obtain⟨d,hd⟩:∃d:Nat,(S.length:Int)-1-(c:Int)=(d:Int):=⟨S.length-1-c,by omega⟩
   have hdl:d<S.length:=by omega
   have hde:S.length-1-c=d:=by omega
   have x1:=HI.o.b
   obtain⟨gs,hsa,x2⟩:=HI.o.r d hdl
   subst hsa
   obtain⟨fn,tmps,assign,body,hy,hR⟩:=HY.o (bk S c) (d,lat S d) wr ⟨c,hlt,by rw[hde],rfl⟩ HJ.o
   have HR:Z (RoundIn Fence.wide m prog l fn tmps assign body wr _):=hR
   dsimp only[Qe4] at hy
   have HSN:Z (bk S (c+1)=bk S c++[(d,lat S d)]):=by unfold Z;rw[Q81,hde]
   have HD:=mh hd
   have hdi:(d:Int)<(S.length:Int):=by omega
   have hd1:(S.length:Int)-1-((c+1:Nat):Int)=(d:Int)-1:=by omega
   have HD1:=mh hd1
   rw[hd]
   clear hR hd1 hd hde
   gi_wp2
   refine RoundIn.mono HR.o ?_
   rintro e W3 (⟨rfl,hJ3,hk3⟩|⟨rfl,hJx3⟩)
   ·have HJ3:Z (J (bk S (c+1)) W3):=by rw[HSN.o];exact hJ3
    have HI3:=mh (hk3 HI.o)
    clear hJ3 hk3 hy x1 x2
    gi_wp2
    go_roundw
    case rel=>exact⟨c+1,by omega,by rw[HD1.o],HJ3,HI3⟩
    case measure=>simp[intOf]
   ·gi_wp2
    refine bodyPost_ret (results_none rfl _ _ _) rfl ?_
    exact⟨⟨_,rfl⟩,oR ⟨_,⟨c,hlt,HSN.o.symm⟩,hJx3⟩⟩
  ·have he:c=S.length:=by omega
   have HF:Z (J (bk S S.length) wr):=by rw[<-he];exact HJ
   have hi:(S.length:Int)-1-(c:Int)=-1:=by omega
   rw[hi]
   clear hi he
   gi_wp2
   go_end0
   exact⟨⟨_,rfl⟩,oL ⟨_,rfl,HF.o⟩⟩
theorem ITB.kept {bq:Nat}{sa:Option Addr}{cap:Nat}(h:ITB W bq sa cap S)(k:∀b o u,W.cell? (aD b o)=some u->W'.cell? (aD b o)=some u):ITB W' bq sa cap S:=
 ⟨k _ _ _ h.b,λi hi=>by obtain⟨gs,e,hc⟩:=h.r i hi;exact⟨gs,e,k _ _ _ hc⟩⟩
def okB (S:List Nat)(x:Nat×Nat):Prop:=∃c,c<S.length/\x=(S.length-1-c,lat S (S.length-1-c))
abbrev Q1c (S:List Nat):Type:={ x:Nat×Nat // okB S x }
theorem Q6g (d bq:Nat)(sa:Option Addr)(cap:Nat)(S:List Nat)(hl:S.length<=10000)(w:World)(hI:ITB w bq sa cap S) :
  SeqStopsK Fence.wide (d+1) prog 101 #[pT bq] (λx:Q1c S=>Qe4 x.1) (λW W'=>ITB W bq sa cap S->ITB W' bq sa cap S) (λys=>ys.map (·.1)=bk S S.length) (λpre=>∃c,c<S.length/\pre.map (·.1)=bk S (c+1)) S.length w:=by
 intro l J Jx W hW hJ hJx hY h0
 refine(Qce d l bq sa cap S hl (λys W=>∃zs:List (Q1c S),zs.map (·.1)=ys/\J zs W) (λys W=>∃zs:List (Q1c S),zs.map (·.1)=ys/\Jx zs W) W ?_ (hI.kept (λb o u h=>Q2 hW (Jk h) h)) ⟨[],rfl,h0⟩).mono ?_
 ·rintro pre x X ⟨c,hc,hx,hp⟩ ⟨zs,e,hz⟩
  refine(hY zs ⟨x,c,hc,hx⟩ X hz (by have:zs.length=c:=by rw[<-Qc7 S c,<-hp,<-e];simp
                                    omega)).mono (λe' X' h=>?_)
  rcases h with⟨h1,h2,h3⟩|⟨h1,h2⟩
  ·exact oL ⟨h1,⟨zs++[⟨x,c,hc,hx⟩],by rw[yF,e];rfl,h2⟩,h3⟩
  ·exact oR ⟨h1,⟨zs++[⟨x,c,hc,hx⟩],by rw[yF,e];rfl,h2⟩⟩
 ·rintro e X ⟨he,h⟩
  refine⟨he,?_⟩
  rcases h with⟨ys,rfl,zs,ez,hz⟩|⟨pre,⟨c,h1,rfl⟩,zs,ez,hz⟩
  ·exact oL ⟨zs,ez,hz⟩
  ·exact oR ⟨zs,⟨c,h1,ez⟩,hz⟩
theorem Qcd (a:Option Addr)(n c:Nat)(w:World) :
  Calls prog 77 #[sL a n c] w λe w'=>e=.returned (.func (.func 101) #[] #[pT w.heap.size])/\w'=w.alloc (.cells #[sL a n c] 23):=by
 have hmf:∀(fn:Fn) (first cap:Array Value) (w:World),(Instr.makeFunc fn first cap).run prog w=.ok (.func fn first cap) w:=λ_ _ _ _=>rfl
 go_enter func77,ntmps77
 go_wp2
 go_ret
 exact⟨rfl,rfl⟩
theorem Q3q (sb:Nat)(w:World) :
  Calls prog 44 #[Ae sb] w λe w'=>e=.returned (pT (w.heap.size+1))/\w'=(w.alloc (.map #[] 0)).alloc (.cells #[Ae sb,sN,.map (some w.heap.size)] 124):=by
 have hmm:=@run_makeMap prog
 unfold Ae
 go_enter func44,ntmps44
 go_wp2
 go_ret
 exact⟨rfl,rfl⟩
theorem Q5r (C sb n:Nat)(K:Nat->Rk)(w:World)(hC:C<=w.heap.size):HQ C ((w.alloc (.map #[] 0)).alloc (.cells #[Ae sb,sN,.map (some w.heap.size)] 124)) (w.heap.size+1) sb sN w.heap.size K n [] (.map []):=by
 refine⟨⟨?_,⟨rfl,oL ⟨rfl,rfl⟩⟩,?_⟩,λi _ hi=>absurd hi (by simp),λi j hi=>absurd hi (by simp),⟨isMap_empty,tidy_empty,λi hi=>absurd hi (by simp),λv hv=>by simp[has] at hv⟩,λy hy=>by simp at hy,by simp[size]⟩
 ·have:=Yu (w:=w.alloc (.map #[] 0)) (o:=.cells #[Ae sb,sN,.map (some w.heap.size)] 124) (g:=w.heap.size+1) (Q1 _ _).symm
  exact this
 ·exact(World.ownsMap_made w prog 2 (plainElem prog 3)).alloc _
theorem Qbj:(prog.info? 52).map (λi=>(i.zero,i.size,i.bytes))=some (some (.agg #[iV 0,iV 0]),2,16):=by kernel_rfl
theorem Q5s (n:Nat)(h:n<=100000)(w:World):(Instr.makeSlice 49 (iV (n:Int)) (iV (n:Int))).run prog w=.ok (sL (sA w.heap.size) n n) (w.alloc (.cells (madeCells #[iV 0,iV 0] (n*2)) 52)):=by
 obtain⟨i,hi,hzz⟩:=Option.map_eq_some_iff.1 Qbj
 simp only[Prod.mk.injEq] at hzz
 obtain⟨hz,hs,hb⟩:=hzz
 have hr:=run_make (P:=prog) w 49 52 i _ underlying49 hi hz .i64 .i64 n n (by omega) (Int.le_refl _) (by rw[hb];omega) (by omega)
 simp only[zU,hs] at hr
 exact hr
theorem Q8y (h:w.heap[rb]?=some (.cells (madeCells #[iV 0,iV 0] (n*2)) 52 (0,0))):RKM w rb n (λ_=>(0,0)):=by
 refine⟨_,h,by rw[size_madeCells],λv hv=>?_⟩
 constructor
 ·simp[madeCells,show v*2<n*2 by omega]
 ·simp[madeCells,show v*2+1<n*2 by omega,show(v*2+1)%2=1 by omega]
def NS (w:World)(sb p rb n:Nat)(a0:Option Addr)(m0 c0:Nat)(a1:Option Addr)(m1 c1:Nat)(a2:Option Addr)(m2 c2:Nat)(a3:Option Addr)(m3 c3:Nat)(a4:Option Addr)(m4 c4:Nat)(a5:Option Addr)(m5 c5:Nat)(a6:Option Addr)(m6 c6:Nat)(t:Int):Prop:=w.heap[sb]?=some (.cells #[pT p] 47 (0,0))/\w.heap[p]?=some (.cells #[sL a0 m0 c0,sL a1 m1 c1,sL a2 m2 c2,sL a3 m3 c3,sL a4 m4 c4,sL a5 m5 c5,sL a6 m6 c6,iV t,sL (sA rb) n n,.pointer none,sN,iV 0,iV 0] 54 (0,0))/\w.heap[rb]?=some (.cells (madeCells #[iV 0,iV 0] (n*2)) 52 (0,0))
theorem Q7w {o:Nat}(k:Nx w w')(hp:p<w.heap.size)(h:w.frozen? (aD p o)=false):w'.frozen? (aD p o)=false:=by
 simp only[World.frozen?,k.block p hp] at h ⊢
 exact h
theorem Ax (w:World)(n:Nat)(a0:Option Addr)(m0 c0:Nat)(a1:Option Addr)(m1 c1:Nat)(a2:Option Addr)(m2 c2:Nat)(a3:Option Addr)(m3 c3:Nat)(a4:Option Addr)(m4 c4:Nat)(a5:Option Addr)(m5 c5:Nat)(a6:Option Addr)(m6 c6:Nat)(t:Int)(hn:m0=n)(hn6:n<=6000) :
  Calls prog 29 #[.agg #[sL a0 m0 c0,sL a1 m1 c1,sL a2 m2 c2,sL a3 m3 c3,sL a4 m4 c4,sL a5 m5 c5,sL a6 m6 c6],iV t] w λe w'=>∃sb p q mb rb,e=.returned (pT p)/\SR w.heap.size w' sb p q mb rb n [sL a0 m0 c0,sL a1 m1 c1,sL a2 m2 c2,sL a3 m3 c3,sL a4 m4 c4,sL a5 m5 c5,sL a6 m6 c6] t (0,0) sN sN (λ_=>(0,0)) [] (.map []) []/\Nx w w':=by
 subst hn
 have hmk:=Q5s m0 (by omega)
 have hmf:∀(fn:Fn) (first cap:Array Value) (w:World),(Instr.makeFunc fn first cap).run prog w=.ok (.func fn first cap) w:=λ_ _ _ _=>rfl
 have HX1:Z (Nx w (w.alloc (.cells #[sL a0 m0 c0,sL a1 m1 c1,sL a2 m2 c2,sL a3 m3 c3,sL a4 m4 c4,sL a5 m5 c5,sL a6 m6 c6] 25))):=Qe _ _
 have HB1:Z (Blk (w.alloc (.cells #[sL a0 m0 c0,sL a1 m1 c1,sL a2 m2 c2,sL a3 m3 c3,sL a4 m4 c4,sL a5 m5 c5,sL a6 m6 c6] 25)) w.heap.size #[sL a0 m0 c0,sL a1 m1 c1,sL a2 m2 c2,sL a3 m3 c3,sL a4 m4 c4,sL a5 m5 c5,sL a6 m6 c6]):=Blk.new w _ _ _ rfl
 have hz1:(w.alloc (.cells #[sL a0 m0 c0,sL a1 m1 c1,sL a2 m2 c2,sL a3 m3 c3,sL a4 m4 c4,sL a5 m5 c5,sL a6 m6 c6] 25)).heap.size=w.heap.size+1:=Q1 _ _
 go_enter func29,ntmps29
 go_upto_region 1 with fail
 generalize w.alloc (.cells #[sL a0 m0 c0,sL a1 m1 c1,sL a2 m2 c2,sL a3 m3 c3,sL a4 m4 c4,sL a5 m5 c5,sL a6 m6 c6] 25)=w1 at *
 have HZ1:=mh hz1
 clear hz1
 have k0:w1.cell? (aD w.heap.size 0)=some (sL a0 m0 c0):=HB1.o.c 0 rfl
 have k1:w1.cell? (aD w.heap.size 1)=some (sL a1 m1 c1):=HB1.o.c 1 rfl
 have k2:w1.cell? (aD w.heap.size 2)=some (sL a2 m2 c2):=HB1.o.c 2 rfl
 have k3:w1.cell? (aD w.heap.size 3)=some (sL a3 m3 c3):=HB1.o.c 3 rfl
 have k4:w1.cell? (aD w.heap.size 4)=some (sL a4 m4 c4):=HB1.o.c 4 rfl
 have k5:w1.cell? (aD w.heap.size 5)=some (sL a5 m5 c5):=HB1.o.c 5 rfl
 have k6:w1.cell? (aD w.heap.size 6)=some (sL a6 m6 c6):=HB1.o.c 6 rfl
 go_cut [5] from 6 (λs5 wc=>∃sb p rb,s5=pT sb/\Z (w1.heap.size<=sb/\w1.heap.size<=p/\w1.heap.size<=rb)/\Z (NS wc sb p rb m0 a0 m0 c0 a1 m1 c1 a2 m2 c2 a3 m3 c3 a4 m4 c4 a5 m5 c5 a6 m6 c6 t)/\Z (Nx w1 wc))
 case first=>
  go_region_held3 (λw'=>w'.cell? (aD w.heap.size 0)=some (sL a0 m0 c0)/\w'.cell? (aD w.heap.size 1)=some (sL a1 m1 c1)/\w'.cell? (aD w.heap.size 2)=some (sL a2 m2 c2)/\w'.cell? (aD w.heap.size 3)=some (sL a3 m3 c3)/\w'.cell? (aD w.heap.size 4)=some (sL a4 m4 c4)/\w'.cell? (aD w.heap.size 5)=some (sL a5 m5 c5)/\w'.cell? (aD w.heap.size 6)=some (sL a6 m6 c6)) (exact⟨Q0 (by(repeat (first|with_reducible assumption|with_reducible exact Nx.refl _|with_reducible refine Nx.drew ?_|with_reducible refine Nx.alloc ?_ _))) k0,Q0 (by(repeat (first|with_reducible assumption|with_reducible exact Nx.refl _|with_reducible refine Nx.drew ?_|with_reducible refine Nx.alloc ?_ _))) k1,Q0 (by(repeat (first|with_reducible assumption|with_reducible exact Nx.refl _|with_reducible refine Nx.drew ?_|with_reducible refine Nx.alloc ?_ _))) k2,Q0 (by(repeat (first|with_reducible assumption|with_reducible exact Nx.refl _|with_reducible refine Nx.drew ?_|with_reducible refine Nx.alloc ?_ _))) k3,Q0 (by(repeat (first|with_reducible assumption|with_reducible exact Nx.refl _|with_reducible refine Nx.drew ?_|with_reducible refine Nx.alloc ?_ _))) k4,Q0 (by(repeat (first|with_reducible assumption|with_reducible exact Nx.refl _|with_reducible refine Nx.drew ?_|with_reducible refine Nx.alloc ?_ _))) k5,Q0 (by(repeat (first|with_reducible assumption|with_reducible exact Nx.refl _|with_reducible refine Nx.drew ?_|with_reducible refine Nx.alloc ?_ _))) k6⟩) (fail)
  all_goals go_wp2
  all_goals go_meet
  ·exact⟨w1.heap.size+1+1,w1.heap.size+1,w1.heap.size,rfl,⟨by omega,by omega,by omega⟩,⟨by((repeat (first|with_reducible refine U3 ?_|with_reducible refine Yu ?_|with_reducible refine Yv ?_));(first|rfl|exact(Q1 _ _).symm|(simp;done)|(simp[Q1];done))),by((repeat (first|with_reducible refine U3 ?_|with_reducible refine Yu ?_|with_reducible refine Yv ?_));(first|rfl|exact(Q1 _ _).symm|(simp;done)|(simp[Q1];done))),by((repeat (first|with_reducible refine U3 ?_|with_reducible refine Yu ?_|with_reducible refine Yv ?_));(first|rfl|exact(Q1 _ _).symm|(simp;done)|(simp[Q1];done)))⟩,by(unfold Z;(repeat (first|with_reducible assumption|with_reducible exact Nx.refl _|with_reducible refine Nx.drew ?_|with_reducible refine Nx.alloc ?_ _)))⟩
  ·exact⟨w1.heap.size+1,w1.heap.size+1+1,w1.heap.size,rfl,⟨by omega,by omega,by omega⟩,⟨by((repeat (first|with_reducible refine U3 ?_|with_reducible refine Yu ?_|with_reducible refine Yv ?_));(first|rfl|exact(Q1 _ _).symm|(simp;done)|(simp[Q1];done))),by((repeat (first|with_reducible refine U3 ?_|with_reducible refine Yu ?_|with_reducible refine Yv ?_));(first|rfl|exact(Q1 _ _).symm|(simp;done)|(simp[Q1];done))),by((repeat (first|with_reducible refine U3 ?_|with_reducible refine Yu ?_|with_reducible refine Yv ?_));(first|rfl|exact(Q1 _ _).symm|(simp;done)|(simp[Q1];done)))⟩,by(unfold Z;(repeat (first|with_reducible assumption|with_reducible exact Nx.refl _|with_reducible refine Nx.drew ?_|with_reducible refine Nx.alloc ?_ _)))⟩
  ·exact⟨w1.heap.size,w1.heap.size+1+1,w1.heap.size+1,rfl,⟨by omega,by omega,by omega⟩,⟨by((repeat (first|with_reducible refine U3 ?_|with_reducible refine Yu ?_|with_reducible refine Yv ?_));(first|rfl|exact(Q1 _ _).symm|(simp;done)|(simp[Q1];done))),by((repeat (first|with_reducible refine U3 ?_|with_reducible refine Yu ?_|with_reducible refine Yv ?_));(first|rfl|exact(Q1 _ _).symm|(simp;done)|(simp[Q1];done))),by((repeat (first|with_reducible refine U3 ?_|with_reducible refine Yu ?_|with_reducible refine Yv ?_));(first|rfl|exact(Q1 _ _).symm|(simp;done)|(simp[Q1];done)))⟩,by(unfold Z;(repeat (first|with_reducible assumption|with_reducible exact Nx.refl _|with_reducible refine Nx.drew ?_|with_reducible refine Nx.alloc ?_ _)))⟩
 case rest=>
 obtain⟨sb,p,rb,hs5,HL,HNS,HXc⟩:=hcut
 subst hs5
 have x0:wc.cell? (aD sb 0)=some (pT p):=by simp[World.cell?,HNS.o.1]
 have x1:wc.cell? (aD p 9)=some (.pointer none):=by simp[World.cell?,HNS.o.2.1]
 have hsp:sb≠p:=λe=>by have h1:=HNS.o.1;rw[e,HNS.o.2.1] at h1;simp at h1
 clear k0 k1 k2 k3 k4 k5 k6
 have f0:wc.frozen? (aD p 9)=false:=by simp[World.frozen?,HNS.o.2.1]
 have hpl:=(Array.getElem?_eq_some_iff.1 HNS.o.2.1).1
 have y0:(wc.setCell (aD p 9) (pT (wc.heap.size+1))).cell? (aD sb 0)=some (pT p):=by simp[World.cell?,World.setCell,Array.getElem?_modify,Ne.symm hsp,HNS.o.1]
 have g0:(wc.setCell (aD p 9) (pT (wc.heap.size+1))).frozen? (aD p 9)=false:=by simp[World.frozen?,World.setCell,Array.getElem?_modify,HNS.o.2.1]
 have hz2:(wc.setCell (aD p 9) (pT (wc.heap.size+1))).heap.size=wc.heap.size:=by simp[World.setCell]
 have hpl2:p<(wc.setCell (aD p 9) (pT (wc.heap.size+1))).heap.size:=by rw[hz2];exact hpl
 have hnh:∀w,Calls prog 44 #[.func (.func 45) #[] #[pT sb]] w λe w'=>e=.returned (pT (w.heap.size+1))/\w'=(w.alloc (.map #[] 0)).alloc (.cells #[Ae sb,sN,.map (some w.heap.size)] 124):=λw=>Q3q sb w
 go_upto_region 2 with fail
 go_region_held3 (λw'=>w'.cell? (aD sb 0)=some (pT p)/\w'.frozen? (aD p 9)=false) (first|exact⟨x0,f0⟩|(refine⟨Q0 ?_ x0,Q7w ?_ hpl f0⟩<;>((repeat (first|with_reducible assumption|with_reducible exact Nx.refl _|with_reducible refine Nx.drew ?_|with_reducible refine Nx.alloc ?_ _));done))|(refine⟨Q0 ?_ y0,Q7w ?_ hpl2 g0⟩<;>((repeat (first|with_reducible assumption|with_reducible exact Nx.refl _|with_reducible refine Nx.drew ?_|with_reducible refine Nx.alloc ?_ _));done))) (first|(go_at_call 44;refine(hnh _).mono ?_;rintro e w' ⟨rfl,rfl⟩))
 go_wp2
 go_ret
 have hb2:(wc.setCell (aD p 9) (pT (wc.heap.size+1))).heap[p]?=some (.cells #[sL a0 m0 c0,sL a1 m1 c1,sL a2 m2 c2,sL a3 m3 c3,sL a4 m4 c4,sL a5 m5 c5,sL a6 m6 c6,iV t,sL (sA rb) m0 m0,pT (wc.heap.size+1),sN,iV 0,iV 0] 54 (0,0)):=by simp[World.setCell,Array.getElem?_modify,HNS.o.2.1]
 have hb1:(wc.setCell (aD p 9) (pT (wc.heap.size+1))).heap[sb]?=some (.cells #[pT p] 47 (0,0)):=by simp[World.setCell,Array.getElem?_modify,Ne.symm hsp,HNS.o.1]
 have hrp:rb≠p:=λe=>by have h1:=HNS.o.2.2;rw[e,HNS.o.2.1] at h1;simp at h1
 have hb3:(wc.setCell (aD p 9) (pT (wc.heap.size+1))).heap[rb]?=some (.cells (madeCells #[iV 0,iV 0] (m0*2)) 52 (0,0)):=by simp[World.setCell,Array.getElem?_modify,Ne.symm hrp,HNS.o.2.2]
 have hC:w.heap.size<=wc.heap.size:=by have:=HX1.o.size;have:=HXc.o.size;omega
 have hw1:=HX1.o.size
 have hq:=Q5r w.heap.size sb m0 (λ_=>(0,0)) (wc.setCell (aD p 9) (pT (wc.heap.size+1))) (by rw[hz2];exact hC)
 have hK:=HX1.o.trans HXc.o
 have hHL:=HL.o
 have hlb:∀b,w1.heap.size<=b->w.heap.size<=b:=λb hb=>by have:=HZ1.o;omega
 rw[hz2] at hq
 have N3:Nx (wc.setCell (aD p 9) (pT (wc.heap.size+1))) ((((wc.setCell (aD p 9) (pT (wc.heap.size+1))).alloc (.map #[] 0)).alloc (.cells #[Ae sb,sN,.map (some wc.heap.size)] 124)).drew):=by(repeat (first|with_reducible assumption|with_reducible exact Nx.refl _|with_reducible refine Nx.drew ?_|with_reducible refine Nx.alloc ?_ _))
 have N4:Nx ((((wc.setCell (aD p 9) (pT (wc.heap.size+1))).alloc (.map #[] 0)).alloc (.cells #[Ae sb,sN,.map (some wc.heap.size)] 124))) ((((wc.setCell (aD p 9) (pT (wc.heap.size+1))).alloc (.map #[] 0)).alloc (.cells #[Ae sb,sN,.map (some wc.heap.size)] 124)).drew):=by(repeat (first|with_reducible assumption|with_reducible exact Nx.refl _|with_reducible refine Nx.drew ?_|with_reducible refine Nx.alloc ?_ _))
 refine⟨sb,p,wc.heap.size+1,wc.heap.size,rb,rfl,⟨(N3.block sb (Array.getElem?_eq_some_iff.1 hb1).1).trans hb1,⟨rfl,(N3.block p (Array.getElem?_eq_some_iff.1 hb2).1).trans hb2⟩,(Q8y hb3).next N3,⟨hq.h.kept N4,hq.o,hq.j,hq.p,hq.v,hq.s⟩,⟨rfl,oL ⟨rfl,rfl⟩⟩,λg e=>by simp[Value.ownBlock] at e,hlb _ hHL.1,hlb _ hHL.2.1,by omega,by omega,hlb _ hHL.2.2⟩,Nx.trans (Below.setCell (p:=(aD p 9)) hK (hlb p hHL.2.1) _) N3⟩
end Go.Proofs.YtphiaobccollhaaGreat
