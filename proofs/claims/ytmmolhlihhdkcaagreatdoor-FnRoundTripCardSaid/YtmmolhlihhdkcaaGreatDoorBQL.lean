import Derived.Test.YtmmolhlihhdkcaaGreatDoorBQJ
import Derived.Lib.SplitLaws
import Derived.Lib.SlSplitV
import Derived.Laws.StructEq
namespace Go.Proofs.YtmmolhlihhdkcaaGreatDoor
open Go.RowKit Go.Sort
set_option linter.unusedVariables false
set_option maxRecDepth 1000000
set_option maxHeartbeats 16000000
def nmV (via:Bool)(x:Int):Nm:=(if via then 0 else 1,x,0)
theorem Q82 (v:List Int):(Wd v).length=min (v.length-5) (v.length-4):=by unfold Wd;rw[List.length_take,List.length_drop]
theorem Q4p {v:List Int}{i:Nat}(h:i<v.length-5):iat (Wd v) i=iat v (4+i):=by simp[Wd,iat,List.getD_eq_getElem?_getD,h,List.getElem?_drop]
theorem Q6h {l:List Int}{i:Nat}(h:i<l.length):l.take (i+1)=l.take i++[iat l i]:=by
 rw[List.take_add_one,List.getElem?_eq_getElem h]
 simp[iat,List.getD_eq_getElem?_getD,h]
theorem Ik (w0:World)(rb:Nat)(line:Int)(ps:List Px)(w:World)(h:RMx w0 w rb line ps)(hps:ps.length<=300000)(C g n c:Nat)(f:List ByteArray)(hf:J2 C w (.slice (some ⟨g,0,none⟩) n c) f)(hn:f.length=n)(hn1:n<=300001)(hs:∀i,i<f.length->(sat f i).size<=300000)(onl:Bool)(honl:((sat f 0).toList==[111,110,108,121])=onl)(hw:Vt (sat f 0)=true) :
  Calls Tryz.prog 106 #[.pointer (some ⟨rb,0,none⟩),.slice (some ⟨g,0,none⟩) n c,.bool onl] w λe w'=>Tb w0 w w' rb line ps f e:=by
 have hmx:Tryz.prog.follows .mixedOrders=true:=by kernel_rfl
 obtain⟨vN,vW,vR,vT,vL,h⟩:=h
 have HR:=Q0 h
 have HF:=Q0 hf
 have HN:=Q0 hn
 have HS:=Q0 hs
 have HCK:=Q0 (Q47 hw)
 have HW:=Q0 hw
 have hcap:=Uf hf
 have HLL:Hid ((lnO ps).length<=300001):=by unfold Hid;rw[Ux];omega
 clear h hf hs hw
 rw[hn] at HCK
 clear hn
 by_cases k1:n<6
 ·have HC:Hid (V3 f=6):=by unfold Hid;rw[HCK.out,if_pos k1]
  have d1:(n:Int)<6:=by omega
  go_enter Tryz.func106,Tryz.ntmps106
  go_wp2_with fail
  refine(Jg rb 6 line _ w HR.out.bx rfl).mono ?_
  rintro e wr1 ⟨⟨v,rfl,hfl⟩,hx⟩
  have HFL:=Q0 (hfl)
  have HXL:=Q0 (hx)
  clear hfl hx
  go_wp2
  go_ret
  exact Or.inr ⟨by rw[HC.out];decide,_,rfl,by rw[HC.out];exact HFL.out,HXL.out⟩
 have d1:¬(n:Int)<6:=by omega
 rw[if_neg k1] at HCK
 obtain⟨g3,e3,-,-,x3⟩:=J2.at HF.out (i:=3) (by rw[HN.out];omega)
 have e3':g=g3:=by simpa using e3
 subst e3'
 clear e3
 have HRD0:Hid (rdS f=if (sat f 3).toList=[97,116] then ⟨3,iat (vsL f) 1,0,zWy,⟨iat (vsL f) 1,(sat f 0).toList==[111,110,108,121],iat (vsL f) 2,iat (vsL f) (f.length-1),true,iat (vsL f) 4,[]⟩,0,[iat (vsL f) 4],[iat (vsL f) 2,iat (vsL f) (f.length-1)]⟩ else ⟨3,iat (vsL f) 1,0,zWy,⟨iat (vsL f) 1,(sat f 0).toList==[111,110,108,121],iat (vsL f) 2,iat (vsL f) (f.length-1),false,0,Wd (vsL f)⟩,0,[],[iat (vsL f) 2,iat (vsL f) (f.length-1)]++Wd (vsL f)⟩):=by
  have h0:=HW.out
  unfold Vt at h0
  rw[Bool.or_eq_true,beq_iff_eq,beq_iff_eq] at h0
  have hw2:Vt (sat f 0)=true:=HW.out
  unfold Hid rdS
  rw[if_neg (by rcases h0 with h|h<;>rw[h]<;>decide),if_neg (by rcases h0 with h|h<;>rw[h]<;>decide),if_pos hw2]
 rw[honl] at HRD0
 clear honl
 generalize sat f 3=key at *
 by_cases kk:key.toList≠[97,116]/\key.toList≠[98,121]
 ·have HC:Hid (V3 f=7):=by unfold Hid;rw[HCK.out,if_pos kk]
  have j1:(key.toList==[97,116])=false:=by simpa using kk.1
  have j2:(key.toList==[98,121])=false:=by simpa using kk.2
  have j1':(key.toList !=[97,116])=true:=by simpa using kk.1
  have j2':(key.toList !=[98,121])=true:=by simpa using kk.2
  clear kk HRD0
  go_enter Tryz.func106,Tryz.ntmps106
  go_wp2_with fail
  refine(Jg rb 7 line _ w HR.out.bx rfl).mono ?_
  rintro e wr1 ⟨⟨v,rfl,hfl⟩,hx⟩
  have HFL:=Q0 (hfl)
  have HXL:=Q0 (hx)
  clear hfl hx
  go_wp2
  go_ret
  exact Or.inr ⟨by rw[HC.out];decide,_,rfl,by rw[HC.out];exact HFL.out,HXL.out⟩
 rw[if_neg kk] at HCK
 obtain⟨via,hvia⟩:∃q,(key.toList==[97,116])=q:=⟨_,rfl⟩
 have HVB:Hid ((via=true/\key.toList=[97,116])\/(via=false/\key.toList=[98,121])):=by
  by_cases j:key.toList=[97,116]
  ·exact Or.inl ⟨by rw[<-hvia,j];rfl,j⟩
  ·exact Or.inr ⟨by rw[<-hvia];simpa using j,Decidable.byContradiction λj'=>kk ⟨j,j'⟩⟩
 clear kk
 by_cases kc:(key.toList=[97,116]/\6<n)\/(key.toList=[98,121]/\9<n)
 ·have HC:Hid (V3 f=6):=by unfold Hid;rw[HCK.out,if_pos kc]
  go_enter Tryz.func106,Tryz.ntmps106
  go_upto_region 5 with fail
  go_cut [30] from 25 to 29 (λs30 wc=>s30=.bool false/\wc=w)
  case first=>
   clear hvia
   rcases HVB.out with⟨rfl,j⟩|⟨rfl,j⟩
   ·have j3:(key.toList !=[97,116])=false:=by simp[j]
    have j4:(key.toList==[97,116])=true:=by simp[j]
    go_wp2
    go_meet
    exact⟨by first|rfl|simp[j],rfl⟩
   ·have j3:(key.toList !=[97,116])=true:=by simp[j]
    have j4:(key.toList==[97,116])=false:=by simp[j]
    have j5:(key.toList !=[98,121])=false:=by simp[j]
    go_wp2
    go_meet
    exact⟨by first|rfl|simp[j],rfl⟩
  case rest=>
  obtain⟨rfl,hwc⟩:=hcut
  subst hwc
  rcases kc with⟨j,kn⟩|⟨j,kn⟩
  ·have j4:(key.toList==[97,116])=true:=by simp[j]
   have d6:(6:Int)<(n:Int):=by omega
   clear hvia HVB
   go_wp2_with fail
   refine(Jg rb 6 line _ wc HR.out.bx rfl).mono ?_
   rintro e wr1 ⟨⟨v,rfl,hfl⟩,hx⟩
   have HFL:=Q0 (hfl)
   have HXL:=Q0 (hx)
   clear hfl hx
   go_wp2
   go_ret
   exact Or.inr ⟨by rw[HC.out];decide,_,rfl,by rw[HC.out];exact HFL.out,HXL.out⟩
  ·have j4:(key.toList==[97,116])=false:=by simp[j]
   have j5:(key.toList==[98,121])=true:=by simp[j]
   have d9:(9:Int)<(n:Int):=by omega
   clear hvia HVB
   go_wp2_with fail
   refine(Jg rb 6 line _ wc HR.out.bx rfl).mono ?_
   rintro e wr1 ⟨⟨v,rfl,hfl⟩,hx⟩
   have HFL:=Q0 (hfl)
   have HXL:=Q0 (hx)
   clear hfl hx
   go_wp2
   go_ret
   exact Or.inr ⟨by rw[HC.out];decide,_,rfl,by rw[HC.out];exact HFL.out,HXL.out⟩
 rw[if_neg kc] at HCK
 have HNV:Hid ((via=true->n=6)/\n<=9):=by
  rcases HVB.out with⟨h1,h2⟩|⟨h1,h2⟩
  ·have:¬6<n:=λh=>kc (Or.inl ⟨h2,h⟩)
   exact⟨λ_=>by omega,by omega⟩
  ·have:¬9<n:=λh=>kc (Or.inr ⟨h2,h⟩)
   exact⟨λh=>absurd (h1.symm.trans h) (by decide),by omega⟩
 have HBL:Hid ((Jy f 3).length=n-2):=by unfold Hid;rw[T8 (by decide) (by rw[HN.out];omega),HN.out]
 go_enter Tryz.func106,Tryz.ntmps106
 go_upto_region 5 with fail
 go_cut [30] from 25 to 29 (λs30 wc=>s30=.bool false/\wc=w)
 case first=>
  clear hvia
  rcases HVB.out with⟨rfl,j⟩|⟨rfl,j⟩
  ·have j3:(key.toList !=[97,116])=false:=by simp[j]
   have j4:(key.toList==[97,116])=true:=by simp[j]
   go_wp2
   go_meet
   exact⟨by first|rfl|simp[j],rfl⟩
  ·have j3:(key.toList !=[97,116])=true:=by simp[j]
   have j4:(key.toList==[97,116])=false:=by simp[j]
   have j5:(key.toList !=[98,121])=false:=by simp[j]
   go_wp2
   go_meet
   exact⟨by first|rfl|simp[j],rfl⟩
 case rest=>
 obtain⟨rfl,hwc⟩:=hcut
 subst hwc
 go_upto_region 7 with fail
 go_cut [46] from 33 to 45 (λs46 w_=>s46=.bool false/\w_=wc)
 case first=>
  clear hvia
  have hnv:=HNV.out
  rcases HVB.out with⟨rfl,j⟩|⟨rfl,j⟩
  ·have j4:(key.toList==[97,116])=true:=by simp[j]
   have j5:(key.toList==[98,121])=false:=by simp[j]
   have d6:¬(6:Int)<(n:Int):=by have:=hnv.1 rfl;omega
   clear hnv
   go_wp2
   go_meet
   exact⟨by first|rfl|simp[j],rfl⟩
  ·have j4:(key.toList==[97,116])=false:=by simp[j]
   have j5:(key.toList==[98,121])=true:=by simp[j]
   have d9:¬(9:Int)<(n:Int):=by have:=hnv.2;omega
   clear hnv
   go_wp2
   go_meet
   exact⟨by first|rfl|simp[j],rfl⟩
 case rest=>
 obtain⟨rfl,hwc⟩:=hcut
 subst hwc
 clear kc
 go_upto_region 9 with fail
 have HXD:Hid (Nx wc wc.drew):=(Below.refl _ _).drew
 clear x3
 refine(wpIn_wide (n:=9)).1 ?_
 refine Q9 (c:=13) (S:=λ_=>True) hmx (by kernel_rfl) (λhw hcl=>?_)
 generalize wc.drew=wd at *
 refine Qo (i:=0) (v:=.pointer (some ⟨rb,0,none⟩)) hw (by decide) hcl (Qh rfl) rfl (by kernel_rfl) (by kernel_rfl) (by kernel_rfl) (λ_ _ _ h=>h) ⟨Or.inl ⟨by kernel_rfl,?y0⟩,λ_=>rfl⟩ trivial (λhcl=>?_)
 case y0=>
  rintro q -
  go_simp
 refine Qo (i:=1) (v:=.slice (some ⟨g,0,none⟩) n c) hw (by decide) hcl (Qh rfl) rfl (by kernel_rfl) (by kernel_rfl) (by kernel_rfl) (λ_ _ _ h=>h) ⟨Or.inl ⟨by kernel_rfl,?y1⟩,λ_=>rfl⟩ trivial (λhcl=>?_)
 case y1=>
  rintro q -
  go_simp
 refine Qo (i:=2) (v:=.slice (some ⟨g,1,none⟩) 2 (c-1)) hw (by decide) hcl (Qh rfl) rfl (by kernel_rfl) (by kernel_rfl) (by kernel_rfl) (λ_ _ _ h=>h) ⟨Or.inl ⟨by kernel_rfl,?y2⟩,λ_=>rfl⟩ trivial (λhcl=>?_)
 case y2=>
  rintro q -
  go_simp
  rw[if_pos (show(3:Int)<=(c:Int) by omega),if_neg (show ¬c=1 by omega)]
 refine Qo (i:=3) (v:=.slice (some ⟨g,0,none⟩) n c) hw (by decide) hcl (Qh rfl) rfl (by kernel_rfl) (by kernel_rfl) (by kernel_rfl) (λ_ _ _ h=>h) ⟨Or.inl ⟨by kernel_rfl,?y3⟩,λ_=>rfl⟩ trivial (λhcl=>?_)
 case y3=>
  rintro q -
  go_simp
 refine Qo (i:=4) (v:=.slice (some ⟨g,4,none⟩) (n-4) (c-4)) hw (by decide) hcl (Qh rfl) rfl (by kernel_rfl) (by kernel_rfl) (by kernel_rfl) (λ_ _ _ h=>h) ⟨Or.inl ⟨by kernel_rfl,?y4⟩,λ_=>rfl⟩ trivial (λhcl=>?_)
 case y4=>
  rintro q -
  go_simp
  rw[if_pos (show(4:Int)<=(n:Int) by omega),if_neg (show ¬c=4 by omega)]
 refine Q5 (i:=5) (by kernel_rfl) hcl (λhcl=>wpOpIn_step rfl (λK hK=>?_))
 go_simp
 refine hK _ _ ⟨Or.inr trivial,?_⟩
 clear hK K
 have HGV:Hid (BT (wd.alloc (.cells #[.slice (some ⟨g,1,none⟩) 2 (c-1),.slice (some ⟨g,4,none⟩) (n-4) (c-4)] 38)) wd.heap.size #[.slice (some ⟨g,1,none⟩) 2 (c-1),.slice (some ⟨g,4,none⟩) (n-4) (c-4)] 38):=BT.new _ _ _ _ rfl
 have HXV:Hid (Nx wc (wd.alloc (.cells #[.slice (some ⟨g,1,none⟩) 2 (c-1),.slice (some ⟨g,4,none⟩) (n-4) (c-4)] 38))):=HXD.out.trans (Qd _ _)
 clear HXD
 generalize wd.alloc (.cells #[.slice (some ⟨g,1,none⟩) 2 (c-1),.slice (some ⟨g,4,none⟩) (n-4) (c-4)] 38)=wv at *
 generalize wd.heap.size=gv at *
 have HF1:=Q0 (Qp HF.out HXV.out)
 refine Q5 (i:=6) (by kernel_rfl) hcl (λhcl=>wpOpIn_step rfl (λK hK=>?_))
 go_simp
 refine⟨trivial,(callsIn_wide.2 (Io gv g 1 2 (c-1) 4 (n-4) (c-4) ((f.drop 1).take 2) (f.drop 4) wv (HGV.out.blk.cell (i:=0) rfl) (HGV.out.blk.cell (i:=1) rfl) (Fm HF1.out HN.out 1 2 _ (by omega)) (Wz HF1.out HN.out 4 _ (by omega)) (by decide) (by omega) (by omega))).mono ?_⟩
 rintro e wk ⟨⟨uk,rfl,huk⟩,hx⟩
 have HXK:=Q0 (HXV.out.trans hx)
 have HUK:Hid (J2 wv.heap.size wk uk (Jy f 3)):=huk
 refine hK _ _ ⟨Or.inr trivial,?_⟩
 clear hK K hx huk HF1 HGV HXV
 obtain⟨ak,ck,ek⟩:=Q3 HUK.out
 rw[HBL.out] at ek
 subst ek
 refine Q5 (i:=7) (by kernel_rfl) hcl (λhcl=>wpOpIn_step rfl (λK hK=>?_))
 go_simp
 refine⟨trivial,(callsIn_wide.2 (Ub rb line _ ak (n-2) ck (Jy f 3) wk (HR.out.bx.next HXK.out) rfl (J2.hsr HUK.out) (λi hi=>by
  rw[W5 (by decide) (by rw[HN.out];omega)]
  rw[HBL.out] at hi
  split<;>exact HS.out _ (by rw[HN.out];omega)) (by omega))).mono ?_⟩
 rintro e w1 ⟨hr,hx⟩
 have HX1:=Q0 (HXK.out.trans hx)
 clear hx
 rcases hr with⟨hok,v,rfl,ho⟩|⟨hno,v,rfl,fb,rfl,hfb,hfl⟩
 case inr=>
  have HC:Hid (V3 f=8):=by unfold Hid;rw[HCK.out,hno];rfl
  have HFL:Hid (Yj wc w1 8 line (.iface 61 (.pointer (some ⟨fb,0,none⟩)))):=Yj.base ⟨fb,rfl,hfb,hfl⟩ HXK.out
  clear hno hfb hfl
  refine hK _ _ ⟨Or.inr trivial,?_⟩
  clear hK K HUK
  refine Qo (i:=8) (v:=.tuple #[.slice none 0 0,.iface 61 (.pointer (some ⟨fb,0,none⟩))]) hw (by decide) hcl (Qh rfl) rfl (by kernel_rfl) (by kernel_rfl) (by kernel_rfl) (λ_ _ _ h=>h) ⟨Or.inl ⟨by kernel_rfl,?y8⟩,λ_=>rfl⟩ trivial (λhcl=>?_)
  case y8=>
   rintro q -
   go_simp
  refine Qo (i:=9) (v:=.slice none 0 0) hw (by decide) hcl (Qh rfl) rfl (by kernel_rfl) (by kernel_rfl) (by kernel_rfl) (λ_ _ _ h=>h) ⟨Or.inl ⟨by kernel_rfl,?y9⟩,λ_=>rfl⟩ trivial (λhcl=>?_)
  case y9=>
   rintro q -
   go_simp
  refine Qo (i:=10) (v:=.iface 61 (.pointer (some ⟨fb,0,none⟩))) hw (by decide) hcl (Qh rfl) rfl (by kernel_rfl) (by kernel_rfl) (by kernel_rfl) (λ_ _ _ h=>h) ⟨Or.inl ⟨by kernel_rfl,?y10⟩,λ_=>rfl⟩ trivial (λhcl=>?_)
  case y10=>
   rintro q -
   go_simp
  refine Qo (i:=11) (v:=.slice none 0 0) hw (by decide) hcl (Qh rfl) rfl (by kernel_rfl) (by kernel_rfl) (by kernel_rfl) (λ_ _ _ h=>h) ⟨Or.inl ⟨by kernel_rfl,?y11⟩,λ_=>rfl⟩ trivial (λhcl=>?_)
  case y11=>
   rintro q -
   go_simp
  refine Qo (i:=12) (v:=.iface 61 (.pointer (some ⟨fb,0,none⟩))) hw (by decide) hcl (Qh rfl) rfl (by kernel_rfl) (by kernel_rfl) (by kernel_rfl) (λ_ _ _ h=>h) ⟨Or.inl ⟨by kernel_rfl,?y12⟩,λ_=>rfl⟩ trivial (λhcl=>?_)
  case y12=>
   rintro q -
   go_simp
  refine Qi (by kernel_rfl) ?_ _
  clear hw hcl
  go_wp2
  go_ret
  exact Or.inr ⟨by rw[HC.out];decide,_,rfl,by rw[HC.out];exact HFL.out,HX1.out⟩
 refine hK _ _ ⟨Or.inr trivial,?_⟩
 clear hK K HUK
 have HC0:Hid (V3 f=0):=by unfold Hid;rw[HCK.out,hok];rfl
 obtain⟨k,hk⟩:∃k,n=k+5:=⟨n-5,by omega⟩
 obtain⟨m,hm⟩:∃m,m=n-2:=⟨_,rfl⟩
 obtain⟨l,hl_⟩:∃l,l=n-3:=⟨_,rfl⟩
 have hml:(m:Int)-1=(l:Int):=by omega
 have hlk:l-2=k:=by omega
 have hlm:l<m:=by omega
 have hwl:IntKind.i64.wrap (l:Int)=(l:Int):=by rw[IntKind.wrap_i64];omega
 have hvl:(vsL (Jy f 3)).length=m:=by rw[Vi,HBL.out,hm]
 obtain⟨gn,cn,csn,ev,hgn,hcap2,hbn,hcn⟩:=ho.open (by rw[hvl];omega)
 rw[hvl] at ev hcn hcap2
 subst ev
 have HVA:Hid (iat (vsL (Jy f 3)) 0=iat (vsL f) 1/\iat (vsL (Jy f 3)) 1=iat (vsL f) 2/\iat (vsL (Jy f 3)) l=iat (vsL f) (f.length-1)/\∀i,i<k->iat (vsL (Jy f 3)) (2+i)=iat (Wd (vsL f)) i):=by
  have key:∀i,i<n-2->iat (vsL (Jy f 3)) i=V9 (if i+1<3 then sat f (i+1) else sat f (i+2)):=λi hi=>by rw[Xx (by rw[HBL.out];exact hi),W5 (by decide) (by rw[HN.out];omega)]
  refine⟨?_,?_,?_,λi hi=>?_⟩
  ·rw[key 0 (by omega),Xx (by rw[HN.out];omega)];rfl
  ·rw[key 1 (by omega),Xx (by rw[HN.out];omega)];rfl
  ·rw[key l (by omega),if_neg (by omega),Xx (by rw[HN.out];omega),show l+2=f.length-1 by rw[HN.out];omega]
  ·rw[key (2+i) (by omega),if_neg (by omega),Q4p (by rw[Vi,HN.out];omega),Xx (by rw[HN.out];omega),show 2+i+2=4+i by omega]
 have HNB:Hid (Qb wc.heap.size w1 (.slice (some ⟨gn,0,none⟩) m cn) (vsL (Jy f 3))):=Jd ho HXK.out.size
 have HBL2:Hid ((vsL (Jy f 3)).length=m):=hvl
 clear hok ho hgn hvl hbn hcn HXK csn
 rw[<-hm]
 refine Qo (i:=8) (v:=.tuple #[.slice (some ⟨gn,0,none⟩) m cn,.nilIface]) hw (by decide) hcl (Qh rfl) rfl (by kernel_rfl) (by kernel_rfl) (by kernel_rfl) (λ_ _ _ h=>h) ⟨Or.inl ⟨by kernel_rfl,?y8⟩,λ_=>rfl⟩ trivial (λhcl=>?_)
 case y8=>
  rintro q -
  go_simp
 refine Qo (i:=9) (v:=.slice (some ⟨gn,0,none⟩) m cn) hw (by decide) hcl (Qh rfl) rfl (by kernel_rfl) (by kernel_rfl) (by kernel_rfl) (λ_ _ _ h=>h) ⟨Or.inl ⟨by kernel_rfl,?y9⟩,λ_=>rfl⟩ trivial (λhcl=>?_)
 case y9=>
  rintro q -
  go_simp
 refine Qo (i:=10) (v:=.nilIface) hw (by decide) hcl (Qh rfl) rfl (by kernel_rfl) (by kernel_rfl) (by kernel_rfl) (λ_ _ _ h=>h) ⟨Or.inl ⟨by kernel_rfl,?y10⟩,λ_=>rfl⟩ trivial (λhcl=>?_)
 case y10=>
  rintro q -
  go_simp
 refine Qo (i:=11) (v:=.slice (some ⟨gn,0,none⟩) m cn) hw (by decide) hcl (Qh rfl) rfl (by kernel_rfl) (by kernel_rfl) (by kernel_rfl) (λ_ _ _ h=>h) ⟨Or.inl ⟨by kernel_rfl,?y11⟩,λ_=>rfl⟩ trivial (λhcl=>?_)
 case y11=>
  rintro q -
  go_simp
 refine Qo (i:=12) (v:=.nilIface) hw (by decide) hcl (Qh rfl) rfl (by kernel_rfl) (by kernel_rfl) (by kernel_rfl) (λ_ _ _ h=>h) ⟨Or.inl ⟨by kernel_rfl,?y12⟩,λ_=>rfl⟩ trivial (λhcl=>?_)
 case y12=>
  rintro q -
  go_simp
 refine Qi (by kernel_rfl) ?_ _
 clear hw hcl
 have HVL:Hid ((Wd (vsL f)).length=k):=by unfold Hid;rw[Q82,Vi,HN.out];omega
 have HNL:Hid (via=true->k=1):=λh=>by have:=HNV.out.1 h;omega
 have hkb:k<=4:=by have:=HNV.out.2;omega
 have hk1:1<=k:=by omega
 have HM3:Hid (m=k+3):=by unfold Hid;omega
 have hm0:(0:Int)<(m:Int):=by omega
 have hm1:(1:Int)<(m:Int):=by omega
 have hm0':¬m=0:=by omega
 have hlm':(l:Int)<(m:Int):=by omega
 have HRD1:Hid (rdS f=if via=true then ⟨3,iat (vsL f) 1,0,zWy,⟨iat (vsL f) 1,onl,iat (vsL f) 2,iat (vsL f) (f.length-1),true,iat (Wd (vsL f)) 0,[]⟩,0,[iat (Wd (vsL f)) 0],[iat (vsL f) 2,iat (vsL f) (f.length-1)]⟩ else ⟨3,iat (vsL f) 1,0,zWy,⟨iat (vsL f) 1,onl,iat (vsL f) 2,iat (vsL f) (f.length-1),false,0,Wd (vsL f)⟩,0,[],[iat (vsL f) 2,iat (vsL f) (f.length-1)]++Wd (vsL f)⟩):=by
  unfold Hid
  rw[HRD0.out]
  rcases HVB.out with⟨h1,h2⟩|⟨h1,h2⟩
  ·rw[if_pos h2,if_pos h1,Q4p (by rw[Vi,HN.out];omega)]
  ·rw[if_neg (by rw[h2];decide),if_neg (by rw[h1];decide)]
 clear HRD0 HVB HCK HS HF HBL hm hl_ hk hcap d1 k1 hn1 HNV
 have HCN:Hid (∀i,i<m->∀{q:World}{bl:List (Nat×Array Value×Nat)}{rs:List (Value×List Int)},MS wc q bl rs->rs[0]?=some (.slice (some ⟨gn,0,none⟩) m cn,(vsL (Jy f 3)))->q.cell? ⟨gn,i,none⟩=some (.int .i64 (iat (vsL (Jy f 3)) i))):=λi hi {q bl rs} hM h0=>((hM.row 0 h0).in (by rw[HBL2.out];exact hi)).2.2
 have HVI:Hid (∀i,i<k->iat (vsL (Jy f 3)) (2+i)=iat (Wd (vsL f)) i):=HVA.out.2.2.2
 have HM0:Hid (MS wc w1 [] [(.slice (some ⟨gn,0,none⟩) m cn,(vsL (Jy f 3))),(.slice none 0 0,[])]):=(((MS.start wc).next HX1.out).addRow HNB.out (λj r g h=>by simp at h)).addNil
 have c0:=HCN.out 0 (by omega) HM0.out rfl
 have c1:=HCN.out 1 (by omega) HM0.out rfl
 have cl:=HCN.out l hlm HM0.out rfl
 rw[HVA.out.1] at c0
 rw[HVA.out.2.1] at c1
 rw[HVA.out.2.2.1] at cl
 clear HVA HNB HN
 generalize iat (vsL f) 1=z1 at *
 generalize iat (vsL f) 2=z2 at *
 generalize iat (vsL f) (f.length-1)=zt at *
 generalize Wd (vsL f)=L at *
 go_upto_region 13 with fail
 have hxd:Nx w1 w1.drew:=(Below.refl _ _).drew
 have HSS:Hid ((λq=>q.cell? ⟨gn,0,none⟩=some (.int .i64 z1)/\q.cell? ⟨gn,1,none⟩=some (.int .i64 z2)/\q.cell? ⟨gn,l,none⟩=some (.int .i64 zt)) w1.drew):=⟨Qf hxd c0,Qf hxd c1,Qf hxd cl⟩
 have HMd:=Q0 (HM0.out.next hxd)
 clear c0 c1 cl hxd HM0
 refine(wpIn_wide (n:=9)).1 ?_
 refine Q9 (c:=15) (S:=λq=>q.cell? ⟨gn,0,none⟩=some (.int .i64 z1)/\q.cell? ⟨gn,1,none⟩=some (.int .i64 z2)/\q.cell? ⟨gn,l,none⟩=some (.int .i64 zt)) hmx (by kernel_rfl) (λhw hcl=>?_)
 generalize w1.drew=wd at *
 refine tq (i:=0) (v:=.slice (some ⟨gn,0,none⟩) m cn) (λhcl=>?_)
 refine tq (i:=1) (v:=.pointer (some ⟨gn,0,none⟩)) (λhcl=>?_)
 refine tq (i:=2) (v:=.int .i64 z1) (λhcl=>?_)
 refine tq (i:=3) (v:=.bool onl) (λhcl=>?_)
 refine tq (i:=4) (v:=.slice (some ⟨gn,0,none⟩) m cn) (λhcl=>?_)
 refine tq (i:=5) (v:=.pointer (some ⟨gn,1,none⟩)) (λhcl=>?_)
 refine tq (i:=6) (v:=.int .i64 z2) (λhcl=>?_)
 refine tq (i:=7) (v:=.slice (some ⟨gn,0,none⟩) m cn) (λhcl=>?_)
 refine tq (i:=8) (v:=.int .i64 (l:Int)) (λhcl=>?_)
 refine tq (i:=9) (v:=.pointer (some ⟨gn,l,none⟩)) (λhcl=>?_)
 refine tq (i:=10) (v:=.int .i64 zt) (λhcl=>?_)
 refine tq (i:=11) (v:=.string key) (λhcl=>?_)
 refine tq (i:=12) (v:=.bool via) (λhcl=>?_)
 refine tq (i:=13) (v:=.agg #[.int .i64 z1,.bool onl,.int .i64 z2,.int .i64 zt,.bool via,.int .i64 0,.slice none 0 0]) (λhcl=>?_)
 have HMt:Hid (MS wc (wd.alloc (.cells #[.int .i64 0,.bool false,.int .i64 0,.int .i64 0,.bool false,.int .i64 0,.slice none 0 0] 48)) [(wd.heap.size,#[.int .i64 0,.bool false,.int .i64 0,.int .i64 0,.bool false,.int .i64 0,.slice none 0 0],48)] [(.slice (some ⟨gn,0,none⟩) m cn,(vsL (Jy f 3))),(.slice none 0 0,[])]):=HMd.out.addBox _ _ (by decide)
 refine Q5 (i:=14) (by kernel_rfl) hcl (λhcl=>wpOpIn_step rfl (λK hK=>?_))
 go_simp
 refine hK _ _ ⟨Or.inr ⟨Qf (Qd _ _) HSS.out.1,Qf (Qd _ _) HSS.out.2.1,Qf (Qd _ _) HSS.out.2.2⟩,?_⟩
 clear hK K HSS HMd
 generalize wd.alloc (.cells #[.int .i64 0,.bool false,.int .i64 0,.int .i64 0,.bool false,.int .i64 0,.slice none 0 0] 48)=wt at *
 generalize wd.heap.size=lb at *
 have q0_:wt.cell? ⟨lb,0,none⟩=some (.int .i64 0):=(HMt.out.box 0 rfl).blk.cell (i:=0) rfl
 have f0_:=(HMt.out.box 0 rfl).blk.frozen 0
 have q1_:wt.cell? ⟨lb,1,none⟩=some (.bool false):=(HMt.out.box 0 rfl).blk.cell (i:=1) rfl
 have f1_:=(HMt.out.box 0 rfl).blk.frozen 1
 have q2_:wt.cell? ⟨lb,2,none⟩=some (.int .i64 0):=(HMt.out.box 0 rfl).blk.cell (i:=2) rfl
 have f2_:=(HMt.out.box 0 rfl).blk.frozen 2
 have q3_:wt.cell? ⟨lb,3,none⟩=some (.int .i64 0):=(HMt.out.box 0 rfl).blk.cell (i:=3) rfl
 have f3_:=(HMt.out.box 0 rfl).blk.frozen 3
 have q4_:wt.cell? ⟨lb,4,none⟩=some (.bool false):=(HMt.out.box 0 rfl).blk.cell (i:=4) rfl
 have f4_:=(HMt.out.box 0 rfl).blk.frozen 4
 have q5_:wt.cell? ⟨lb,5,none⟩=some (.int .i64 0):=(HMt.out.box 0 rfl).blk.cell (i:=5) rfl
 have f5_:=(HMt.out.box 0 rfl).blk.frozen 5
 have q6_:wt.cell? ⟨lb,6,none⟩=some (.slice none 0 0):=(HMt.out.box 0 rfl).blk.cell (i:=6) rfl
 have f6_:=(HMt.out.box 0 rfl).blk.frozen 6
 refine Qk (i:=15) (by kernel_rfl) (wpOpIn_step rfl (λK hK=>?_))
 go_simp
 refine hK _ _ ⟨Or.inl (by decide),?_⟩
 clear hK K
 refine Qi (by kernel_rfl) ?_ _
 have HM2:Hid (MS wc (((((((wt.setCell ⟨lb,0,none⟩ (.int .i64 z1)).setCell ⟨lb,1,none⟩ (.bool onl)).setCell ⟨lb,2,none⟩ (.int .i64 z2)).setCell ⟨lb,3,none⟩ (.int .i64 zt)).setCell ⟨lb,4,none⟩ (.bool via)).setCell ⟨lb,5,none⟩ (.int .i64 0)).setCell ⟨lb,6,none⟩ (.slice none 0 0)) [(lb,#[.int .i64 z1,.bool onl,.int .i64 z2,.int .i64 zt,.bool via,.int .i64 0,.slice none 0 0],48)] [(.slice (some ⟨gn,0,none⟩) m cn,(vsL (Jy f 3))),(.slice none 0 0,[])]):=(((((((HMt.out.set 0 rfl 0 (.int .i64 z1)).set 0 rfl 1 (.bool onl)).set 0 rfl 2 (.int .i64 z2)).set 0 rfl 3 (.int .i64 zt)).set 0 rfl 4 (.bool via)).set 0 rfl 5 (.int .i64 0)).set 0 rfl 6 (.slice none 0 0))
 clear hw hcl HMt hvia q0_ f0_ q1_ f1_ q2_ f2_ q3_ f3_ q4_ f4_ q5_ f5_ q6_ f6_
 generalize ((((((wt.setCell ⟨lb,0,none⟩ (.int .i64 z1)).setCell ⟨lb,1,none⟩ (.bool onl)).setCell ⟨lb,2,none⟩ (.int .i64 z2)).setCell ⟨lb,3,none⟩ (.int .i64 zt)).setCell ⟨lb,4,none⟩ (.bool via)).setCell ⟨lb,5,none⟩ (.int .i64 0)).setCell ⟨lb,6,none⟩ (.slice none 0 0)=w2 at *
 go_upto_region 14 with fail
 have hxd:Nx w2 w2.drew:=(Below.refl _ _).drew
 have HM4:=Q0 (HM2.out.next hxd)
 have HSS:Hid ((λq=>q.cell? ⟨lb,2,none⟩=some (.int .i64 z2)/\q.cell? ⟨lb,3,none⟩=some (.int .i64 zt)) w2.drew):=⟨Qf hxd ((HM2.out.box 0 rfl).blk.cell (i:=2) rfl),Qf hxd ((HM2.out.box 0 rfl).blk.cell (i:=3) rfl)⟩
 clear HM2 hxd
 refine(wpIn_wide (n:=9)).1 ?_
 refine Q9 (c:=8) (S:=λq=>q.cell? ⟨lb,2,none⟩=some (.int .i64 z2)/\q.cell? ⟨lb,3,none⟩=some (.int .i64 zt)) hmx (by kernel_rfl) (λhw hcl=>?_)
 generalize w2.drew=w4 at *
 refine tq (i:=0) (v:=.pointer (some ⟨lb,2,none⟩)) (λhcl=>?_)
 refine tq (i:=1) (v:=.int .i64 z2) (λhcl=>?_)
 refine tq (i:=3) (v:=.pointer (some ⟨lb,3,none⟩)) (λhcl=>?_)
 refine tq (i:=4) (v:=.int .i64 zt) (λhcl=>?_)
 refine Q5 (i:=2) (by kernel_rfl) hcl (λhcl=>wpOpIn_step rfl (λK hK=>?_))
 go_simp
 refine⟨trivial,(callsIn_wide.2 (Y3 z2 w4)).mono ?_⟩
 rintro e w5 ⟨rfl,hx6⟩
 have HMn:=Q0 (HM4.out.next hx6)
 have HSn:Hid ((λq=>q.cell? ⟨lb,2,none⟩=some (.int .i64 z2)/\q.cell? ⟨lb,3,none⟩=some (.int .i64 zt)) w5):=⟨Qf hx6 HSS.out.1,Qf hx6 HSS.out.2⟩
 clear HM4 HSS hx6
 have HM4:=HMn
 have HSS:=HSn
 clear HMn HSn
 refine hK _ _ ⟨Or.inr HSS.out,?_⟩
 clear hK K
 refine Q5 (i:=5) (by kernel_rfl) hcl (λhcl=>wpOpIn_step rfl (λK hK=>?_))
 go_simp
 refine⟨trivial,(callsIn_wide.2 (Y3 zt w5)).mono ?_⟩
 rintro e w6 ⟨rfl,hx6⟩
 have HMn:=Q0 (HM4.out.next hx6)
 have HSn:Hid ((λq=>q.cell? ⟨lb,2,none⟩=some (.int .i64 z2)/\q.cell? ⟨lb,3,none⟩=some (.int .i64 zt)) w6):=⟨Qf hx6 HSS.out.1,Qf hx6 HSS.out.2⟩
 clear HM4 HSS hx6
 have HM4:=HMn
 have HSS:=HSn
 clear HMn HSn
 refine hK _ _ ⟨Or.inr HSS.out,?_⟩
 clear hK K
 refine Q5 (i:=6) (by kernel_rfl) hcl (λhcl=>wpOpIn_step rfl (λK hK=>?_))
 go_simp
 refine hK _ _ ⟨Or.inr ⟨Qf (Qd _ _) HSS.out.1,Qf (Qd _ _) HSS.out.2⟩,?_⟩
 clear hK K
 have HM7:=Q0 (HM4.out.next (Qd w6 (.cells #[.int .i64 1,.int .i64 z2,.int .i64 0,.int .i64 1,.int .i64 zt,.int .i64 0] 132)))
 have HU7:Hid (Y9 wc.heap.size (w6.alloc (.cells #[.int .i64 1,.int .i64 z2,.int .i64 0,.int .i64 1,.int .i64 zt,.int .i64 0] 132)) (.slice (some ⟨w6.heap.size,0,none⟩) 2 2) [(1,z2,0),(1,zt,0)]):=Q1q w6 _ HM4.out.nx.size (1,z2,0) (1,zt,0)
 have HSn:Hid ((λq=>q.cell? ⟨lb,2,none⟩=some (.int .i64 z2)/\q.cell? ⟨lb,3,none⟩=some (.int .i64 zt)) (w6.alloc (.cells #[.int .i64 1,.int .i64 z2,.int .i64 0,.int .i64 1,.int .i64 zt,.int .i64 0] 132))):=⟨Qf (Qd _ _) HSS.out.1,Qf (Qd _ _) HSS.out.2⟩
 clear HM4 HSS
 have HSS:=HSn
 clear HSn
 generalize w6.alloc (.cells #[.int .i64 1,.int .i64 z2,.int .i64 0,.int .i64 1,.int .i64 zt,.int .i64 0] 132)=w7 at *
 generalize w6.heap.size=ub at *
 refine tq (i:=7) (v:=.slice (some ⟨ub,0,none⟩) 2 2) (λhcl=>?_)
 refine Qi (by kernel_rfl) ?_ _
 clear hw hcl HSS
 go_wp2
 go_loopw [13,91] (λs13 s91 wr=>∃(i:Nat) (nd:Int) (vr:Value),i<=k/\s91=.int .i64 i/\Hid (nd=(if via=true then (if i=0 then 0 else iat L 0) else 0))/\Hid (MS wc wr [(lb,#[.int .i64 z1,.bool onl,.int .i64 z2,.int .i64 zt,.bool via,.int .i64 nd,vr],48)] [(.slice (some ⟨gn,0,none⟩) m cn,(vsL (Jy f 3))),(vr,(if via=true then [] else L.take i))])/\Hid (Y9 wc.heap.size wr s13 ([(1,z2,0),(1,zt,0)]++(L.take i).map (nmV via)))) (λ_ s91 _=>k-(intOf s91).toNat)
 case atStart=>exact⟨0,0,.slice none 0 0,Nat.zero_le _,rfl,by unfold Hid;split<;>rfl,by rw[show(if via=true then [] else L.take 0)=[] by split<;>rfl];exact HM7,by exact HU7⟩
 clear HM7 HU7
 obtain⟨i,nd,vr,hik,rfl,HND,HM,HUN⟩:=hrel
 have cv:wr.cell? ⟨lb,4,none⟩=some (.bool via):=(HM.out.box 0 rfl).blk.cell (i:=4) rfl
 by_cases hlt:i<k
 ·have hlt':(i:Int)<(k:Int):=by omega
  have ci:=HCN.out (2+i) (by have:=HM3.out;omega) HM.out rfl
  rw[HVI.out i hlt] at ci
  have hzz:wc.heap.size<=wr.heap.size:=HM.out.nx.size
  have HTK:=Q0 (Q6h (l:=L) (i:=i) (by rw[HVL.out];exact hlt))
  have HLT:Hid ((L.take i).length=i):=by unfold Hid;rw[List.length_take,HVL.out];omega
  have HUS:Hid (([(1,z2,0),(1,zt,0)]++(L.take (i+1)).map (nmV via))=([(1,z2,0),(1,zt,0)]++(L.take i).map (nmV via))++[nmV via (iat L i)]):=by unfold Hid;rw[HTK.out,List.map_append,List.append_assoc];rfl
  have HUL:Hid ((([(1,z2,0),(1,zt,0)]++(L.take i).map (nmV via))).length=i+2):=by unfold Hid;rw[List.length_append,List.length_map,HLT.out];simp;omega
  generalize ([(1,z2,0),(1,zt,0)]++(L.take i).map (nmV via))=us_ at *
  cases via with
  |true=>
   have HK1:Hid (k=1):=HNL.out rfl
   have ei0:i=0:=by have:=HK1.out;omega
   subst ei0
   have ci':wr.cell? ⟨gn,2,none⟩=some (.int .i64 (iat L 0)):=ci
   generalize hz:iat L 0=z at *
   have q5:wr.cell? ⟨lb,5,none⟩=some (.int .i64 nd):=(HM.out.box 0 rfl).blk.cell (i:=5) rfl
   have f5:=(HM.out.box 0 rfl).blk.frozen 5
   have HMy:Hid (MS wc (wr.setCell ⟨lb,5,none⟩ (.int .i64 z)) [(lb,#[.int .i64 z1,.bool onl,.int .i64 z2,.int .i64 zt,.bool true,.int .i64 z,vr],48)] [(.slice (some ⟨gn,0,none⟩) m cn,(vsL (Jy f 3))),(vr,(if true=true then [] else L.take 0))]):=HM.out.set 0 rfl 5 _
   have HUy:Hid (Y9 wc.heap.size (wr.setCell ⟨lb,5,none⟩ (.int .i64 z)) u13 us_):=Q2 HUN.out (HM.out.box 0 rfl) (by decide) _ _
   clear HM HUN hzz
   go_upto_region 20 with fail
   generalize wr.setCell ⟨lb,5,none⟩ (.int .i64 z)=wy at *
   clear q5 f5 ci ci' cv
   go_wp2_with fail
   refine(Uv z wy).mono ?_
   rintro e wz ⟨rfl,hxz⟩
   have HMz:=Q0 (HMy.out.next hxz)
   have HUz:Hid (Y9 wc.heap.size wz u13 us_):=Qp HUy.out hxz
   have hzz:wc.heap.size<=wz.heap.size:=HMz.out.nx.size
   clear hxz HMy HUy
   go_wp2_with (at_builtin;refine Q4b rfl _ _ rfl wc.heap.size (0+2) u13 us_ (0,z,0) wz rfl HUz.out rfl HUL.out (by omega) hzz ?_)
   intro a2 c2 w8 r1 r2
   have HM8:=Q0 (HMz.out.other HUz.out (Nat.le_refl _) (by decide) (λj p hp=>by
    match j,hp with
    |0,hp=>cases hp;show 48≠132;decide
    |j+1,hp=>simp at hp) r2)
   have HU8:=Q0 r1
   clear r1 r2 HMz HUz hzz
   go_wp2
   go_roundw
   case rel=>exact⟨1,z,vr,by omega,by go_num,by unfold Hid;simp,HM8,by rw[HUS.out];exact HU8⟩
   case measure=>simp[intOf];omega
  |false=>
   generalize hz:iat L i=z at *
   obtain⟨ar_,cr_,er⟩:=Q3 (HM.out.row 1 rfl)
   have hli:(if false=true then [] else L.take i).length=i:=by rw[if_neg (by decide)];exact HLT.out
   rw[hli] at er
   subst er
   have HRL_:Hid ((if false=true then [] else L.take i).length=i):=hli
   have q6:wr.cell? ⟨lb,6,none⟩=some (.slice ar_ i cr_):=(HM.out.box 0 rfl).blk.cell (i:=6) rfl
   clear hli
   go_wp2_with (at_builtin;refine Xb rfl _ _ rfl wc.heap.size i (.slice ar_ i cr_) (if false=true then [] else L.take i) z wr rfl (HM.out.row 1 rfl) rfl HRL_.out (by omega) hzz ?_)
   intro a1 c1 wx r1 r2 r3
   have HMx:Hid (MS wc wx [(lb,#[.int .i64 z1,.bool onl,.int .i64 z2,.int .i64 zt,.bool false,.int .i64 nd,(.slice ar_ i cr_)],48)] [(.slice (some ⟨gn,0,none⟩) m cn,(vsL (Jy f 3))),(.slice a1 (i+1) c1,(if false=true then [] else L.take i)++[z])]):=HM.out.grow 1 rfl r1 r2 r3
   have HUx:Hid (Y9 wc.heap.size wx u13 us_):=Q4 HUN.out (HM.out.row 1 rfl) (by decide) r2
   clear q6 HM HUN ci r1 r2 r3 hzz cv
   have q6:wx.cell? ⟨lb,6,none⟩=some (.slice ar_ i cr_):=(HMx.out.box 0 rfl).blk.cell (i:=6) rfl
   have f6:=(HMx.out.box 0 rfl).blk.frozen 6
   have HMy:Hid (MS wc (wx.setCell ⟨lb,6,none⟩ (.slice a1 (i+1) c1)) [(lb,#[.int .i64 z1,.bool onl,.int .i64 z2,.int .i64 zt,.bool false,.int .i64 nd,(.slice a1 (i+1) c1)],48)] [(.slice (some ⟨gn,0,none⟩) m cn,(vsL (Jy f 3))),(.slice a1 (i+1) c1,(if false=true then [] else L.take i)++[z])]):=HMx.out.set 0 rfl 6 _
   have HUy:Hid (Y9 wc.heap.size (wx.setCell ⟨lb,6,none⟩ (.slice a1 (i+1) c1)) u13 us_):=Q2 HUx.out (HMx.out.box 0 rfl) (by decide) _ _
   clear HMx HUx
   go_upto_region 22 with fail
   generalize wx.setCell ⟨lb,6,none⟩ (.slice a1 (i+1) c1)=wy at *
   clear q6 f6
   go_wp2_with fail
   refine(Y3 z wy).mono ?_
   rintro e wz ⟨rfl,hxz⟩
   have HMz:=Q0 (HMy.out.next hxz)
   have HUz:Hid (Y9 wc.heap.size wz u13 us_):=Qp HUy.out hxz
   have hzz:wc.heap.size<=wz.heap.size:=HMz.out.nx.size
   clear hxz HMy HUy
   go_wp2_with (at_builtin;refine Q4b rfl _ _ rfl wc.heap.size (i+2) u13 us_ (1,z,0) wz rfl HUz.out rfl HUL.out (by omega) hzz ?_)
   intro a2 c2 w8 r1 r2
   have HM8:=Q0 (HMz.out.other HUz.out (Nat.le_refl _) (by decide) (λj p hp=>by
    match j,hp with
    |0,hp=>cases hp;show 48≠132;decide
    |j+1,hp=>simp at hp) r2)
   have HU8:=Q0 r1
   clear r1 r2 HMz HUz hzz
   go_wp2
   go_roundw
   case rel=>exact⟨i+1,nd,.slice a1 (i+1) c1,by omega,by go_num,by rw[HND.out];unfold Hid;rw[if_neg (by decide),if_neg (by decide)],by
    have e:(if false=true then [] else L.take (i+1))=(if false=true then [] else L.take i)++[z]:=by rw[if_neg (by decide),if_neg (by decide),HTK.out]
    rw[e];exact HM8,by rw[HUS.out];exact HU8⟩
   case measure=>simp[intOf];omega
 have ei:i=k:=by omega
 subst ei
 go_wp2
 clear cv hlt hik HCN HVI
 have HWL:Hid ((if via=true then [] else L.take i)=(if via=true then [] else L)):=by
  unfold Hid
  rw[List.take_of_length_le (by rw[HVL.out];exact Nat.le_refl _)]
 have HNE:Hid (nd=(if via=true then iat L 0 else 0)):=by
  rw[HND.out]
  unfold Hid
  by_cases hv:via=true
  ·rw[if_pos hv,if_pos hv,if_neg (by omega)]
  ·rw[if_neg hv,if_neg hv]
 have HUE:Hid (([(1,z2,0),(1,zt,0)]++(L.take i).map (nmV via))=[(1,z2,0),(1,zt,0)]++L.map (nmV via)):=by
  unfold Hid
  rw[List.take_of_length_le (by rw[HVL.out];exact Nat.le_refl _)]
 rw[HWL.out] at HM
 rw[HUE.out] at HUN
 have HRD:Hid (rdS f=⟨3,z1,0,zWy,⟨z1,onl,z2,zt,via,nd,(if via=true then [] else L)⟩,0,(if via=true then L else []),[z2,zt]++(if via=true then [] else L)⟩):=by
  unfold Hid
  rw[HRD1.out]
  cases via with
  |true=>
   have hk1':i=1:=HNL.out rfl
   have hl1:L=[iat L 0]:=by
    have h:=HVL.out
    rw[hk1'] at h
    obtain⟨x,rfl⟩:=List.length_eq_one_iff.1 h
    rfl
   have hnd:nd=iat L 0:=by rw[HNE.out,if_pos rfl]
   rw[if_pos rfl,if_pos rfl,if_pos rfl,hnd,<-hl1]
   rfl
  |false=>
   have hnd:nd=0:=by rw[HNE.out,if_neg (by decide)]
   rw[if_neg (by decide),if_neg (by decide),if_neg (by decide),hnd]
 have HUF:Hid ([(1,z2,0),(1,zt,0)]++L.map (nmV via)=Yy (rdS f)):=by
  unfold Hid
  rw[HRD.out]
  cases via with
  |true=>simp[Yy,nmV]
  |false=>simp[Yy,nmV]
 clear HWL HNE HUE HRD1 HND HNL HVL
 generalize (if via=true then [] else L)=wl at *
 rw[HUF.out] at HUN
 clear HUF
 obtain⟨aR,cR,eR⟩:=Q3 HR.out.rl
 obtain⟨nR,hnR⟩:∃q,(rlO ps).length=q:=⟨_,rfl⟩
 have hnl:=Q8q ps
 rw[hnR] at eR hnl
 subst eR
 have HLN:Hid ((rlO ps).length=nR):=hnR
 clear hnR
 have HWC:Hid (wc.heap.size<=lb):=(HM.out.bx 0 _ rfl).2.1
 have HNN:Hid (¬(some lb=(Value.slice aR nR cR).ownBlock)):=λe=>by
  have h1:=(Ql HR.out.rl lb e.symm).2
  have h2:=HWC.out
  omega
 have HTR:Hid (lb≠rb):=by
  have h1:=HR.out.bx.lt
  have h2:=HWC.out
  unfold Hid;omega
 have HRT:=Q0 HR.out.rlt
 obtain⟨ar_,cr_,er⟩:=Q3 (HM.out.row 1 rfl)
 generalize hlr:wl.length=lr at er
 clear hlr
 subst er
 obtain⟨au,cu,eu⟩:=Q3 HUN.out
 generalize hlu:(Yy (rdS f)).length=lu at eu
 clear hlu
 subst eu
 have HVR:=Q0 (HM.out.row 1 rfl)
 have HWX:Hid (BT wr lb #[.int .i64 z1,.bool onl,.int .i64 z2,.int .i64 zt,.bool via,.int .i64 nd,.slice ar_ lr cr_] 48):=HM.out.box 0 rfl
 have HR2:=Q0 (HR.out.next HM.out.nx)
 have HW0:Hid (w0.heap.size<=wc.heap.size):=HR.out.nx.size
 clear HM HR HX1 hm0 hm1 hm0' hlm' hml hwl hlk hlm HM3 hcap2 HBL2
 go_upto_region 24 with fail
 have hxd:Nx wr wr.drew:=(Below.refl _ _).drew
 have HD:=Q0 (HR2.out.next hxd)
 have HB2:=Q0 (HWX.out.next hxd)
 have HV2:=Q0 (Qp HVR.out hxd)
 have HU2:=Q0 (Qp HUN.out hxd)
 have HSS:Hid ((λq=>q.cell? ⟨rb,2,none⟩=some (.slice aR nR cR)/\q.cell? ⟨lb,0,none⟩=some (.int .i64 z1)/\q.cell? ⟨lb,1,none⟩=some (.bool onl)/\q.cell? ⟨lb,2,none⟩=some (.int .i64 z2)/\q.cell? ⟨lb,3,none⟩=some (.int .i64 zt)/\q.cell? ⟨lb,4,none⟩=some (.bool via)/\q.cell? ⟨lb,5,none⟩=some (.int .i64 nd)/\q.cell? ⟨lb,6,none⟩=some (.slice ar_ lr cr_)) wr.drew):=⟨Qf hxd (HR2.out.bx.blk.cell (i:=2) rfl),Qf hxd (HWX.out.blk.cell (i:=0) rfl),Qf hxd (HWX.out.blk.cell (i:=1) rfl),Qf hxd (HWX.out.blk.cell (i:=2) rfl),Qf hxd (HWX.out.blk.cell (i:=3) rfl),Qf hxd (HWX.out.blk.cell (i:=4) rfl),Qf hxd (HWX.out.blk.cell (i:=5) rfl),Qf hxd (HWX.out.blk.cell (i:=6) rfl)⟩
 clear HR2 hxd HWX HVR HUN
 refine(wpIn_wide (n:=9)).1 ?_
 refine Q9 (c:=12) (S:=λq=>q.cell? ⟨rb,2,none⟩=some (.slice aR nR cR)/\q.cell? ⟨lb,0,none⟩=some (.int .i64 z1)/\q.cell? ⟨lb,1,none⟩=some (.bool onl)/\q.cell? ⟨lb,2,none⟩=some (.int .i64 z2)/\q.cell? ⟨lb,3,none⟩=some (.int .i64 zt)/\q.cell? ⟨lb,4,none⟩=some (.bool via)/\q.cell? ⟨lb,5,none⟩=some (.int .i64 nd)/\q.cell? ⟨lb,6,none⟩=some (.slice ar_ lr cr_)) hmx (by kernel_rfl) (λhw hcl=>?_)
 generalize wr.drew=wd at *
 refine tq (i:=0) (v:=.pointer (some ⟨rb,0,none⟩)) (λhcl=>?_)
 refine tq (i:=1) (v:=.pointer (some ⟨rb,0,none⟩)) (λhcl=>?_)
 refine tq (i:=2) (v:=.pointer (some ⟨rb,0,none⟩)) (λhcl=>?_)
 refine tq (i:=3) (v:=.pointer (some ⟨rb,0,none⟩)) (λhcl=>?_)
 refine tq (i:=4) (v:=.pointer (some ⟨rb,2,none⟩)) (λhcl=>?_)
 refine tq (i:=5) (v:=.slice aR nR cR) (λhcl=>?_)
 refine tq (i:=6) (v:=.agg #[.int .i64 z1,.bool onl,.int .i64 z2,.int .i64 zt,.bool via,.int .i64 nd,.slice ar_ lr cr_]) (λhcl=>?_)
 refine Q5 (i:=7) (by kernel_rfl) hcl (λhcl=>wpOpIn_step rfl (λK hK=>?_))
 go_simp
 refine hK _ _ ⟨Or.inr ⟨Qf (Qd _ _) HSS.out.1,Qf (Qd _ _) HSS.out.2.1,Qf (Qd _ _) HSS.out.2.2.1,Qf (Qd _ _) HSS.out.2.2.2.1,Qf (Qd _ _) HSS.out.2.2.2.2.1,Qf (Qd _ _) HSS.out.2.2.2.2.2.1,Qf (Qd _ _) HSS.out.2.2.2.2.2.2.1,Qf (Qd _ _) HSS.out.2.2.2.2.2.2.2⟩,?_⟩
 clear hK K
 have hzz:w0.heap.size<=wd.heap.size:=HD.out.nx.size
 refine Q5 (i:=8) (by kernel_rfl) hcl (λhcl=>wpOpIn_step rfl (λK hK=>?_))
 refine Q7s rfl (.tmp 121) (.tmp 123) rfl w0.heap.size nR (.slice aR nR cR) (rlO ps) ((⟨z1,onl,z2,zt,via,nd,wl⟩,.slice ar_ lr cr_)) wd _ rfl (by simp[Act.eval]) HD.out.rl (by simp[Act.eval]) HLN.out (by intro u hu;simp[rvL,Q0c] at hu;rcases hu with rfl|rfl|rfl|rfl|rfl|rfl|rfl<;>rfl) (by omega) hzz ?_
 intro a1 c1 wx r1 r2
 obtain⟨hbx,hrm⟩:=HD.out.growR r1 r2
 have HBX:=Q0 hbx
 have HRX:=Q0 hrm
 have HB3:=Q0 (HB2.out.chg r2 HNN.out)
 have HB4:=Q0 (HB3.out.setOther HTR.out 2 (.slice a1 (nR+1) c1))
 have HV4:=Q0 (Q2 (Q4 HV2.out HD.out.rl (by decide) r2) HBX.out (by decide) 2 (.slice a1 (nR+1) c1))
 have HU4:=Q0 (Q2 (Q4 HU2.out HD.out.rl (by decide) r2) HBX.out (by decide) 2 (.slice a1 (nR+1) c1))
 have HSY:Hid ((λq=>q.cell? ⟨rb,2,none⟩=some (.slice aR nR cR)/\q.cell? ⟨lb,0,none⟩=some (.int .i64 z1)/\q.cell? ⟨lb,1,none⟩=some (.bool onl)/\q.cell? ⟨lb,2,none⟩=some (.int .i64 z2)/\q.cell? ⟨lb,3,none⟩=some (.int .i64 zt)/\q.cell? ⟨lb,4,none⟩=some (.bool via)/\q.cell? ⟨lb,5,none⟩=some (.int .i64 nd)/\q.cell? ⟨lb,6,none⟩=some (.slice ar_ lr cr_)) wx):=⟨HBX.out.blk.cell (i:=2) rfl,HB3.out.blk.cell (i:=0) rfl,HB3.out.blk.cell (i:=1) rfl,HB3.out.blk.cell (i:=2) rfl,HB3.out.blk.cell (i:=3) rfl,HB3.out.blk.cell (i:=4) rfl,HB3.out.blk.cell (i:=5) rfl,HB3.out.blk.cell (i:=6) rfl⟩
 clear HSS
 have HSS:=HSY
 clear HSY
 refine hK _ _ ⟨Or.inr HSS.out,?_⟩
 clear hK K
 clear hrm hbx r1 r2 hzz HD HB2 HB3 HV2 HU2
 refine tq (i:=9) (v:=.pointer (some ⟨rb,0,none⟩)) (λhcl=>?_)
 refine tq (i:=10) (v:=.pointer (some ⟨rb,0,none⟩)) (λhcl=>?_)
 refine tq (i:=11) (v:=.pointer (some ⟨rb,2,none⟩)) (λhcl=>?_)
 have q_:wx.cell? ⟨rb,2,none⟩=some (.slice aR nR cR):=HBX.out.blk.cell (i:=2) rfl
 have f_:=HBX.out.blk.frozen 2
 refine Qk (i:=12) (by kernel_rfl) (wpOpIn_step rfl (λK hK=>?_))
 go_simp
 refine hK _ _ ⟨Or.inl (by decide),?_⟩
 clear hK K
 refine Qi (by kernel_rfl) ?_ _
 clear hw hcl q_ f_ HSS HBX
 generalize wx.setCell ⟨rb,2,none⟩ (.slice a1 (nR+1) c1)=w3 at *
 have HRA:Hid (RM w0 w3 rb vN vW (.slice a1 (nR+1) c1) vT (utO ps) line vL (ndO ps) (wyO ps) (rlO ps++[(⟨z1,onl,z2,zt,via,nd,wl⟩,.slice ar_ lr cr_)]) (tnO ps) (lnO ps) (irO ps++[(.slice ar_ lr cr_,wl)])):=by
  refine HRX.out.addRows (λr hr=>?_) (List.pairwise_singleton _ _) (λa ha b hb g hg e=>?_)
  ·rw[List.mem_singleton.1 hr];exact Jd HV4.out HW0.out
  ·have h1:=HRT.out a ha g hg
   rw[List.mem_singleton.1 hb] at e
   have h2:=(Ql HV4.out g e).1
   omega
 have HU5:Hid (Y9 w0.heap.size w3 (.slice au lu cu) (Yy (rdS f))):=Jd HU4.out HW0.out
 have c0:w3.cell? ⟨lb,0,none⟩=some (.int .i64 z1):=HB4.out.blk.cell (i:=0) rfl
 clear HRX HV4 HU4 HRT HB4
 go_wp2_with fail
 refine(Wo w0 rb _ _ _ _ _ line vL _ _ _ _ _ _ w3 HRA.out HLL.out 2 z1 0 (Yy (rdS f)) (.slice au lu cu) HU5.out).mono ?_
 rintro e w5 ⟨rfl,vL',hr5⟩
 have HR5:=Q0 hr5
 clear hr5 HRA HU5 c0
 go_wp2
 go_ret
 refine Or.inl ⟨HC0.out,rfl,⟨rdS f,line,.slice none 0 0,.slice none 0 0,.slice ar_ lr cr_,.slice au lu cu⟩,rfl,rfl,vN,vW,.slice a1 (nR+1) c1,vT,vL',?_⟩
 have h5:=HR5.out
 rw[Zh,Ug,Zd,Uc,U9,Wt,Wp]
 unfold ndP wyP rlP tnP irP lnP
 dsimp only
 generalize Yy (rdS f)=us at h5 ⊢
 simpa [Y4,HRD.out] using h5
theorem Q3o (w0:World)(rb:Nat)(line:Int)(ps:List Px)(w:World)(h:RMx w0 w rb line ps)(hps:ps.length<=300000)(C g n c:Nat)(f:List ByteArray)(hf:J2 C w (.slice (some ⟨g,0,none⟩) n c) f)(hn:f.length=n)(hn1:n<=300001)(hs:∀i,i<f.length->(sat f i).size<=300000)(hw:(sat f 0).toList=[110,111]) :
  Calls Tryz.prog 78 #[.pointer (some ⟨rb,0,none⟩),.slice (some ⟨g,0,none⟩) n c] w λe w'=>Tb w0 w w' rb line ps f e:=by
 have HC:=Q0 (Ik w0 rb line ps w h hps C g n c f hf hn hn1 hs false (by rw[hw];rfl) (by unfold Vt;rw[hw];rfl))
 clear h hf hn hs hw
 go_enter Tryz.func78,Tryz.ntmps78
 go_wp2_with fail
 refine HC.out.mono ?_
 rintro e w' (⟨h0,rfl,h1⟩|⟨h0,v,rfl,h1⟩)
 ·have HH:Hid (Tb w0 w w' rb line ps f (.returned .nilIface)):=Or.inl ⟨h0,rfl,h1⟩
  clear h0 h1 HC
  go_wp2
  go_ret
  exact HH.out
 ·have HH:Hid (Tb w0 w w' rb line ps f (.returned v)):=Or.inr ⟨h0,v,rfl,h1⟩
  clear h0 h1 HC
  go_wp2
  go_ret
  exact HH.out
theorem Q0e (w0:World)(rb:Nat)(line:Int)(ps:List Px)(w:World)(h:RMx w0 w rb line ps)(hps:ps.length<=300000)(C g n c:Nat)(f:List ByteArray)(hf:J2 C w (.slice (some ⟨g,0,none⟩) n c) f)(hn:f.length=n)(hn1:n<=300001)(hs:∀i,i<f.length->(sat f i).size<=300000)(hw:(sat f 0).toList=[111,110,108,121]) :
  Calls Tryz.prog 79 #[.pointer (some ⟨rb,0,none⟩),.slice (some ⟨g,0,none⟩) n c] w λe w'=>Tb w0 w w' rb line ps f e:=by
 have HC:=Q0 (Ik w0 rb line ps w h hps C g n c f hf hn hn1 hs true (by rw[hw];rfl) (by unfold Vt;rw[hw];rfl))
 clear h hf hn hs hw
 go_enter Tryz.func79,Tryz.ntmps79
 go_wp2_with fail
 refine HC.out.mono ?_
 rintro e w' (⟨h0,rfl,h1⟩|⟨h0,v,rfl,h1⟩)
 ·have HH:Hid (Tb w0 w w' rb line ps f (.returned .nilIface)):=Or.inl ⟨h0,rfl,h1⟩
  clear h0 h1 HC
  go_wp2
  go_ret
  exact HH.out
 ·have HH:Hid (Tb w0 w w' rb line ps f (.returned v)):=Or.inr ⟨h0,v,rfl,h1⟩
  clear h0 h1 HC
  go_wp2
  go_ret
  exact HH.out
def Qa4 (b:UInt8):List (List UInt8)->List (List UInt8)
 |[]=>[[b]]
 |x::xs=>(b::x)::xs
def sp (c:UInt8):List UInt8->List (List UInt8)
 |[]=>[[]]
 |b::l=>if b=c then []::sp c l else Qa4 b (sp c l)
theorem Gs (c:UInt8):∀s:List UInt8,Lib.splitK [c] 0 (Lib.count s [c]) s=sp c s
 |[]=>by rw[Lib.count_one];rfl
 |b::l=>by
  have ih:=Gs c l
  by_cases h:b=c
  ·subst h
   have hix:Lib.index (b::l) [b]=0:=by rw[Lib.index];simp[List.isPrefixOf]
   rw[Lib.count_cons_eq,Nat.add_comm,Lib.splitK,hix,if_neg (by decide),sp,if_pos rfl]
   simp[ih]
  ·have hp:([c]:List UInt8).isPrefixOf (b::l)=false:=by simp[List.isPrefixOf,Ne.symm h]
   have hix:Lib.index (b::l) [c]=if Lib.index l [c]==-1 then -1 else Lib.index l [c]+1:=by rw[Lib.index,hp];simp
   rw[Lib.count_cons_ne b c l h,sp,if_neg h,<-ih]
   by_cases hm:Lib.index l [c]=-1
   ·rw[Lib.count_miss hm];rfl
   ·have hge:=Lib.index_ge l [c]
    obtain⟨j,hj⟩:∃j:Nat,Lib.index l [c]=j:=⟨(Lib.index l [c]).toNat,by omega⟩
    have hix':Lib.index (b::l) [c]=((j+1:Nat):Int):=by rw[hix,if_neg (λe=>hm (beq_iff_eq.1 e)),hj];omega
    rw[Lib.count_hit (by simp) hj,Nat.add_comm,Lib.splitK,Lib.splitK,hix',hj,if_neg (λe=>by have:=beq_iff_eq.1 e;omega),if_neg (λe=>by have:=beq_iff_eq.1 e;omega)]
    simp[Qa4]
theorem Q56 (c b:UInt8):∀l:List UInt8,∃A x,sp c l=A++[x]/\sp c (l++[b])=if b=c then A++[x]++[[]] else A++[x++[b]]
 |[]=>⟨[],[],rfl,by by_cases h:b=c<;>simp[sp,h,Qa4]⟩
 |a::l=>by
  obtain⟨A,x,e1,e2⟩:=Q56 c b l
  by_cases h:a=c
  ·refine⟨[]::A,x,by rw[sp,if_pos h,e1];rfl,?_⟩
   rw[List.cons_append,sp,if_pos h,e2]
   split<;>rfl
  ·cases A with
   |nil=>
    refine⟨[],a::x,by rw[sp,if_neg h,e1];rfl,?_⟩
    rw[List.cons_append,sp,if_neg h,e2]
    split<;>rfl
   |cons y A=>
    refine⟨(a::y)::A,x,by rw[sp,if_neg h,e1];rfl,?_⟩
    rw[List.cons_append,sp,if_neg h,e2]
    split<;>rfl
theorem Q63 (bs:List UInt8)(c:UInt8):∀k,k<=bs.length->∃A x,sp c (bs.take k)=A++[x]/\(Zr bs c k).1=A.map stOf/\(bs.take k).drop (Zr bs c k).2=x
 |0,_=>⟨[],[],rfl,rfl,rfl⟩
 |k+1,hk=>by
  obtain⟨A,x,e1,e2,e3⟩:=Q63 bs c k (by omega)
  have hl:(Zr bs c k).2<=k:=(Gk bs c k).1
  have eb:bs.getD k 0=bs[k]:=by simp[List.getD_eq_getElem?_getD,show k<bs.length by omega]
  have et:bs.take (k+1)=bs.take k++[bs[k]]:=List.take_succ_eq_append_getElem (by omega)
  obtain⟨A',x',f1,f2⟩:=Q56 c bs[k] (bs.take k)
  rw[e1] at f1
  obtain⟨rfl,hx⟩:=List.append_inj' f1 rfl
  have hx':x=x':=by simpa using hx
  subst hx'
  rw[et,f2]
  unfold Zr
  rw[eb]
  by_cases h:bs[k]=c
  ·rw[if_pos h,if_pos h]
   refine⟨A++[x],[],rfl,?_,by rw[List.drop_eq_nil_of_le];simp;omega⟩
   have ex:(bs.drop (Zr bs c k).2).take (k-(Zr bs c k).2)=x:=by rw[<-e3,List.drop_take]
   rw[e2,ex];simp
  ·rw[if_neg h,if_neg h]
   refine⟨A,x++[bs[k]],rfl,e2,?_⟩
   rw[List.drop_append_of_le_length (by simp;omega),e3]
theorem Kf (bs:List UInt8)(c:UInt8):Va bs c=(sp c bs).map stOf:=by
 obtain⟨A,x,e1,e2,e3⟩:=Q63 bs c bs.length (Nat.le_refl _)
 rw[List.take_length] at e1 e3
 unfold Va
 rw[e2,e3,e1];simp
def bad (b:UInt8)(af:Bool):Bool:=decide (b.toNat<32)||(decide (126<b.toNat)||(decide (b.toNat=32)&&af))
def lk:Bool->List UInt8->Bool
 |af,[]=>!af
 |af,b::l=>if bad b af=true then false else lk (decide (b.toNat=32)) l
def okA (x:List UInt8):Bool:=x.all λb=>decide (33<=b.toNat)&&decide (b.toNat<=126)
def okL (x:List UInt8):Bool:=!x.isEmpty&&okA x
theorem eq32 (b:UInt8):b=32↔b.toNat=32:=⟨λh=>by rw[h];rfl,λh=>UInt8.toNat_inj.1 h⟩
theorem Q9m:∀l:List UInt8,∃x xs,sp 32 l=x::xs/\lk false l=(okA x&&xs.all okL)/\lk true l=(okL x&&xs.all okL)
 |[]=>⟨[],[],rfl,rfl,rfl⟩
 |b::l=>by
  obtain⟨x,xs,e1,e2,e3⟩:=Q9m l
  by_cases h:b=32
  ·have hn:=(eq32 b).1 h
   refine⟨[],x::xs,by rw[sp,if_pos h,e1],?_,?_⟩
   ·simp[lk,bad,hn,e3,okA]
   ·simp[lk,bad,hn,okL]
  ·have hn:¬b.toNat=32:=λe=>h ((eq32 b).2 e)
   refine⟨b::x,xs,by rw[sp,if_neg h,e1];rfl,?_,?_⟩
   ·by_cases h1:b.toNat<32
    ·simp[lk,bad,h1,okA,show ¬33<=b.toNat by omega]
    ·by_cases h2:126<b.toNat
     ·simp[lk,bad,h2,okA,show ¬b.toNat<=126 by omega]
     ·simp[lk,bad,h1,h2,hn,e2,okA,show 33<=b.toNat by omega,show b.toNat<=126 by omega]
   ·by_cases h1:b.toNat<32
    ·simp[lk,bad,h1,okL,okA,show ¬33<=b.toNat by omega]
    ·by_cases h2:126<b.toNat
     ·simp[lk,bad,h2,okL,okA,show ¬b.toNat<=126 by omega]
     ·simp[lk,bad,h1,h2,hn,e2,okL,okA,show 33<=b.toNat by omega,show b.toNat<=126 by omega]
theorem W6 (x:List UInt8)(i:Nat):bt (stOf x) i=(x.getD i 0).toNat:=rfl
theorem Q1u (x:List UInt8):okF (stOf x)=okL x:=by
 unfold okF okL
 rw[Xj]
 cases x with
 |nil=>rfl
 |cons b l=>
  have e:Jp (b::l).length (okC (stOf (b::l)))=okA (b::l):=by
   rw[Bool.eq_iff_iff]
   unfold Jp okA
   rw[List.all_eq_true,List.all_eq_true]
   constructor
   ·intro h y hy
    obtain⟨i,hi,rfl⟩:=List.mem_iff_getElem.1 hy
    have:=h i (List.mem_range.2 hi)
    unfold okC at this
    rw[W6] at this
    have e:(b::l).getD i 0=(b::l)[i]:=by rw[List.getD_eq_getElem?_getD,List.getElem?_eq_getElem hi];rfl
    rw[e] at this;exact this
   ·intro h i hi
    have hi':=List.mem_range.1 hi
    have:=h (b::l)[i] (List.getElem_mem hi')
    unfold okC
    rw[W6]
    have e:(b::l).getD i 0=(b::l)[i]:=by rw[List.getD_eq_getElem?_getD,List.getElem?_eq_getElem hi'];rfl
    rw[e];exact this
  rw[e]
  simp
theorem Gj (bs:List UInt8):Yr (stOf bs)=if lk true bs=true then (sp 32 bs).map stOf else []:=by
 have e:Ke (stOf bs)=(sp 32 bs).map stOf:=Kf bs 32
 obtain⟨x,xs,e1,-,e3⟩:=Q9m bs
 unfold Yr
 rw[e]
 have ea:Jp ((sp 32 bs).map stOf).length (λi=>okF (sat ((sp 32 bs).map stOf) i))=lk true bs:=by
  rw[e3,e1,Bool.eq_iff_iff]
  have e4:(okL x&&xs.all okL)=(x::xs).all okL:=rfl
  rw[e4]
  unfold Jp
  rw[List.all_eq_true,List.all_eq_true]
  have ek:∀i (hi:i<(x::xs).length),sat ((x::xs).map stOf) i=stOf (x::xs)[i]:=λi hi=>by
   unfold sat
   rw[List.getD_eq_getElem?_getD,List.getElem?_map,List.getElem?_eq_getElem hi];rfl
  constructor
  ·intro h y hy
   obtain⟨i,hi,rfl⟩:=List.mem_iff_getElem.1 hy
   have:=h i (List.mem_range.2 (by rw[List.length_map];exact hi))
   rw[ek i hi,Q1u] at this
   exact this
  ·intro h i hi
   have hi':i<(x::xs).length:=by have:=List.mem_range.1 hi;rwa [List.length_map] at this
   rw[ek i hi',Q1u]
   exact h _ (List.getElem_mem hi')
 rw[ea]
theorem Qcs (c:UInt8)(l:List UInt8):0<(sp c l).length:=by
 cases l with
 |nil=>exact Nat.one_pos
 |cons b l=>
  rw[sp]
  split
  ·simp
  ·cases sp c l<;>simp[Qa4]
end Go.Proofs.YtmmolhlihhdkcaaGreatDoor
namespace Go.Proofs.YtmmolhlihhdkcaaGreatDoor
open Go.RowKit Go.Sort Go.Shelf
set_option linter.unusedVariables false
set_option maxRecDepth 1000000
set_option maxHeartbeats 16000000
def HBz (w:World)(a:Option Addr)(bs:List UInt8):Prop:=0<bs.length->∃b off,a=some ⟨b,off,none⟩/\∀i,i<bs.length->w.cell? ⟨b,off+i,none⟩=some (.int .u8 (Qw bs i))
theorem HBz.next {w w':World}{a:Option Addr}{bs:List UInt8}(h:HBz w a bs)(k:Nx w w'):HBz w' a bs:=λhp=>by
 obtain⟨b,off,e,hc⟩:=h hp
 exact⟨b,off,e,λi hi=>Qf k (hc i hi)⟩
def Gl (w:World):Prop:=∃m,w.cell? ⟨Tryz.splitS_ren.g 1,0,none⟩=some (.int .i64 m)
theorem Gl.next {w w':World}(h:Gl w)(k:Nx w w'):Gl w':=by
 obtain⟨m,hm⟩:=h
 exact⟨m,Qf k hm⟩
theorem Qbw {bs:List UInt8}{i:Nat}(h:i<bs.length)(af:Bool):lk af (bs.drop i)=if bad bs[i] af=true then false else lk (decide (bs[i].toNat=32)) (bs.drop (i+1)):=by
 rw[List.drop_eq_getElem_cons h,lk]
theorem Q6m (s:ByteArray)(w:World)(hs:s.size<=300000)(hG:Gl w) :
  Calls Tryz.prog 107 #[.string s,.string ⟨#[32]⟩] w λe w'=>(∃v,e=.returned v/\J2 w.heap.size w' v ((sp 32 s.data.toList).map stOf))/\Nx w w':=by
 obtain⟨m,hm⟩:=hG
 have h:=Any.strings_Split Tryz.splitS Fj s ⟨#[32]⟩ m w (by omega) hm (by decide)
 refine h.mono ?_
 rintro e w' ⟨rfl,rfl⟩
 have hd:=Lib.splitB_data ⟨#[32]⟩ 0 (Lib.countB s ⟨#[32]⟩) s
 have hd2:(Lib.splitB ⟨#[32]⟩ 0 (Lib.countB s ⟨#[32]⟩) s).map (·.data.toList)=sp 32 s.data.toList:=by rw[hd];exact Gs 32 s.data.toList
 have hl:=Lib.splitB_all ⟨#[32]⟩ (by decide) 0 _ s rfl
 have es:(sp 32 s.data.toList).map stOf=Lib.splitB ⟨#[32]⟩ 0 (Lib.countB s ⟨#[32]⟩) s:=by
  rw[<-hd2,List.map_map]
  have:(stOf ∘ λx:ByteArray=>x.data.toList)=id:=by funext x;rfl
  rw[this,List.map_id]
 have hc:=Lib.countB_le ⟨#[32]⟩ (by decide) s.size s (Nat.le_refl _)
 rw[es]
 generalize Lib.splitB ⟨#[32]⟩ 0 (Lib.countB s ⟨#[32]⟩) s=ps at *
 generalize Lib.countB s ⟨#[32]⟩=k at *
 refine⟨⟨_,rfl,?_⟩,Qd _ _⟩
 unfold J2
 rw[hl]
 exact⟨by simp[hl],Or.inr ⟨w.heap.size,k+1,(ps.map Value.string).toArray,rfl,Nat.le_refl _,by show(w.heap.push _)[w.heap.size]?=_;simp;rfl,Nat.le_refl _,by unfold maxLen;omega,by simp[hl],by simp;rw[List.take_of_length_le (by simp[hl])]⟩⟩
theorem Q3b (a:Option Addr)(n c:Nat)(bs:List UInt8)(w:World)(h:HBz w a bs)(hn:bs.length=n)(hl:n<=300000)(hG:Gl w) :
  Calls Tryz.prog 82 #[.slice a n c] w λe w'=>((lk true bs=true/\∃v,e=.returned (.tuple #[v,.bool true])/\J2 w.heap.size w' v (Yr (stOf bs)))\/(lk true bs=false/\e=.returned (.tuple #[.slice none 0 0,.bool false])))/\Nx w w':=by
 have HH:=Q0 h
 have HN:=Q0 hn
 have HG:=Q0 hG
 clear h hn hG
 go_enter Tryz.func82,Tryz.ntmps82
 go_wp2
 go_loopw [4,9] (λs4 s9 wr=>∃(i:Nat) (af:Bool),i<=n/\s9=.int .i64 i/\s4=.bool af/\Hid (lk true bs=lk af (bs.drop i))/\Hid (w=wr)) (λ_ s9 _=>n-(intOf s9).toNat)
 case atStart=>exact⟨0,true,Nat.zero_le _,rfl,rfl,rfl,rfl⟩
 obtain⟨i,af,hin,rfl,rfl,HK,hww⟩:=hrel
 have hww2:=hww.out
 subst hww2
 clear hww
 by_cases hlt:i<n
 ·have hlt':(i:Int)<(n:Int):=by omega
  have hib:i<bs.length:=by rw[HN.out];exact hlt
  obtain⟨b,off,ea,hc⟩:=HH.out (by omega)
  subst ea
  have ci:=hc i hib
  have eb:Qw bs i=(bs[i].toNat:Int):=by simp[Qw,List.getD_eq_getElem?_getD,hib]
  rw[eb] at ci
  have HLC:=Q0 (Qbw hib af)
  have h256:=bs[i].toNat_lt
  have HBD:Hid (bad bs[i] af=(decide (bs[i].toNat<32)||(decide (126<bs[i].toNat)||(decide (bs[i].toNat=32)&&af)))):=rfl
  clear hc eb
  generalize bs[i]=bi at *
  generalize bi.toNat=y at *
  by_cases h1:y<32
  ·have d1:(y:Int)<32:=by omega
   have HF:Hid (lk true bs=false):=by unfold Hid;rw[HK.out,HLC.out,HBD.out,decide_eq_true h1];rfl
   go_wp2
   go_ret2
   exact⟨Or.inr ⟨HF.out,rfl⟩,Nx.refl _⟩
  have d1:¬(y:Int)<32:=by omega
  by_cases h2:126<y
  ·have d2:(126:Int)<(y:Int):=by omega
   have HF:Hid (lk true bs=false):=by unfold Hid;rw[HK.out,HLC.out,HBD.out,decide_eq_true h2,decide_eq_false h1];rfl
   go_wp2
   go_ret2
   exact⟨Or.inr ⟨HF.out,rfl⟩,Nx.refl _⟩
  have d2:¬(126:Int)<(y:Int):=by omega
  by_cases h3:y=32
  ·subst h3
   cases af with
   |true=>
    have HF:Hid (lk true bs=false):=by unfold Hid;rw[HK.out,HLC.out,HBD.out];rfl
    go_wp2
    go_ret2
    exact⟨Or.inr ⟨HF.out,rfl⟩,Nx.refl _⟩
   |false=>
    have HK2:Hid (lk true bs=lk true (bs.drop (i+1))):=by unfold Hid;rw[HK.out,HLC.out,HBD.out];rfl
    go_wp2
    go_roundw
    case rel=>exact⟨i+1,true,by omega,by go_num,rfl,HK2,(trivial:True)⟩
    case measure=>simp[intOf];omega
  ·have d3:((y:Int)==32)=false:=by simp;omega
   have d3':¬(y:Int)=32:=by omega
   have HK2:Hid (lk true bs=lk false (bs.drop (i+1))):=by unfold Hid;rw[HK.out,HLC.out,HBD.out,decide_eq_false h1,decide_eq_false h2,decide_eq_false h3];rfl
   go_wp2
   go_roundw
   case rel=>exact⟨i+1,false,by omega,by go_num,rfl,HK2,(trivial:True)⟩
   case measure=>simp[intOf];omega
 have ei:i=n:=by omega
 subst ei
 have HKE:Hid (lk true bs=!af):=by unfold Hid;rw[HK.out,List.drop_of_length_le (by rw[HN.out];exact Nat.le_refl _)];rfl
 clear HK hlt hin
 cases af with
 |true=>
  go_wp2
  go_ret2
  exact⟨Or.inr ⟨HKE.out,rfl⟩,Nx.refl _⟩
 |false=>
  have HLK:Hid (lk true bs=true):=HKE.out
  have hp:0<bs.length:=by
   cases bs with
   |nil=>exact absurd HLK.out (by decide)
   |cons x xs=>simp
  obtain⟨b,off,ea,hc⟩:=HH.out hp
  subst ea
  have HCV:Hid ((convert 22 9 (.slice (some ⟨b,off,none⟩) i c)).run Tryz.prog w=.ok (.string (stOf bs)) w):=Q0v w b off i c bs HN.out (λj hj=>hc j (by rw[HN.out];exact hj))
  have hcv:=HCV.out
  clear hc hp HCV
  go_wp2_with fail
  refine(Q6m (stOf bs) w (by rw[Xj,HN.out];exact hl) HG.out).mono ?_
  rintro e w2 ⟨⟨v,rfl,ho⟩,hx⟩
  have HO:Hid (J2 w.heap.size w2 v (Yr (stOf bs))):=by unfold Hid;rw[Gj,if_pos HLK.out];exact ho
  have HX:=Q0 hx
  clear ho hx hcv
  go_wp2
  go_ret2
  exact⟨Or.inl ⟨HLK.out,_,rfl,HO.out⟩,HX.out⟩
def Q1m (w:World)(mb:Nat)(o:Obj):World:={ w with heap:=w.heap.setIfInBounds mb o }
theorem Q5a {w:World}{mb:Nat}{o o':Obj}(h:w.heap[mb]?=some o):(Q1m w mb o').heap[mb]?=some o':=by
 have hl:=(Array.getElem?_eq_some_iff.1 h).1
 simp[Q1m,hl]
theorem Q1l (w:World)(mb:Nat)(o:Obj):Chg (λx=>x=mb) w (Q1m w mb o):=⟨rfl,rfl,rfl,by simp[Q1m],λx hx hn=>by
 have hn':¬mb=x:=λe=>hn e.symm
 simp[Q1m,hn']⟩
theorem Qeg {w:World}{mb clock:Nat}{es:Array MapEntry}(hb:w.heap[mb]?=some (.map es clock)):(getObj mb).run Tryz.prog w=.ok (.map es clock) w:=by simp[getObj,Sem.run,hb]
theorem setM {w:World}{mb clock:Nat}{es:Array MapEntry}(o:Obj)(hb:w.heap[mb]?=some (.map es clock)):(setObj mb o).run Tryz.prog w=.ok () (Q1m w mb o):=by simp[setObj,Sem.run,hb,Q1m]
theorem Q1e {t keyT el:TypeId}{w:World}{mb clock:Nat}{es:Array MapEntry}{key v:Value}(ht:Tryz.prog.underlying t=some (.map keyT el))(hb:w.heap[mb]?=some (.map es clock))(hck:(Instr.checkKey false 10000 keyT key).run Tryz.prog w=.ok () w)(hf:(Instr.findKey keyT key es.toList).run Tryz.prog w=.ok none w) :
  (Instr.mapUpdate t (.map (some mb)) key v).run Tryz.prog w=.ok () (Q1m w mb (.map (es.push ⟨key,v,clock⟩) (clock+1))):=by
 simp[Instr.mapUpdate,run_underlying ht,Qeg hb,hck,hf,setM _ hb]
def Q5i (z:Value):Option (Nat×Value)->Value
 |some p=>.tuple #[p.2,.bool true]
 |none=>.tuple #[z,.bool false]
theorem A2 {t keyT el:TypeId}{w:World}{mb clock:Nat}{es:Array MapEntry}{key:Value}{r:Option (Nat×Value)}{z:Value}(ht:Tryz.prog.underlying t=some (.map keyT el))(hb:w.heap[mb]?=some (.map es clock))(hck:∀b,(Instr.checkKey b 10000 keyT key).run Tryz.prog w=.ok () w)(hf:(Instr.findKey keyT key es.toList).run Tryz.prog w=.ok r w)(hz:(zeroValue el).run Tryz.prog w=.ok z w) :
  (Instr.lookup t (.map (some mb)) key true).run Tryz.prog w=.ok (Q5i z r) w:=by
 cases r with
 |none=>simp[Instr.lookup,run_underlying ht,Qeg hb,hck,hf,hz,Q5i]
 |some p=>simp[Instr.lookup,run_underlying ht,Qeg hb,hck,hf,Q5i]
theorem Ao (b:Bool)(s:ByteArray)(w:World):(Instr.checkKey b 10000 9 (.string s)).run Tryz.prog w=.ok () w:=by
 show(Instr.checkKey b (9999+1) 9 (.string s)).run Tryz.prog w=.ok () w
 rw[Instr.checkKey]
 simp[run_underlying Tryz.underlying9]
theorem Q2d (s:ByteArray)(es:List MapEntry)(r:Option (Nat×Value))(w:World)(h:Instr.findNow .string (.string s) es 0=some r):(Instr.findKey 9 (.string s) es).run Tryz.prog w=.ok r w:=by
 simp[Instr.findKey,run_underlying Tryz.underlying9,h]
theorem Y2 {ops:Array Oper}{rest:List Oper}{o:Oper}{a:Act}{Q:Exit->Act->World->Prop}{w:World}(hgd:o.guard=none)(m k x:Operand)(ho:o.op=.insert 125 m k x){mb clock:Nat}(hm:a.eval m=.map (some mb)){s:ByteArray}(hk:a.eval k=.string s){v:Value}(hx:a.eval x=v){es:Array MapEntry}(hb:w.heap[mb]?=some (.map es clock))(hno:Instr.findNow .string (.string s) es.toList 0=some none)
  (h:∀w',w'.heap[mb]?=some (.map (es.push ⟨.string s,v,clock⟩) (clock+1))->Chg (λx=>x=mb) w w'->wpList Tryz.prog ops Q rest (a.put o.dst undef) w'):wpList Tryz.prog ops Q (o::rest) a w:=by
 refine wpList_plain hgd λK hK=>?_
 have hr:=Q1e (v:=v) Tryz.underlying125 hb (Ao false s w) (Q2d s _ _ w hno)
 unfold Oper.wp execOp
 simp[ho,hm,hk,hx,hr]
 exact hK _ _ (h _ (Q5a hb) (Q1l _ _ _))
theorem Pr {ops:Array Oper}{rest:List Oper}{o:Oper}{a:Act}{Q:Exit->Act->World->Prop}{w:World}(hgd:o.guard=none)(m k:Operand)(ho:o.op=.lookup 125 m k true){mb clock:Nat}(hm:a.eval m=.map (some mb)){s:ByteArray}(hk:a.eval k=.string s){es:Array MapEntry}(hb:w.heap[mb]?=some (.map es clock)){r:Option (Nat×Value)}(hf:Instr.findNow .string (.string s) es.toList 0=some r)
  (h:wpList Tryz.prog ops Q rest (a.put o.dst (Q5i .nilFunc r)) w):wpList Tryz.prog ops Q (o::rest) a w:=by
 refine wpList_plain hgd λK hK=>?_
 have hz:(zeroValue 124).run Tryz.prog w=.ok .nilFunc w:=by
  have hi:(Tryz.prog.info? 124).map (·.zero)=some (some .nilFunc):=by kernel_rfl
  obtain⟨i,h1,h2⟩:=Option.map_eq_some_iff.1 hi
  simp[zeroValue,typeInfo,h1,h2]
 have hr:=A2 Tryz.underlying125 hb (λb=>Ao b s w) (Q2d s _ _ w hf) hz
 unfold Oper.wp execOp
 simp[ho,hm,hk,hr]
 exact hK _ _ h
theorem Xi {ops:Array Oper}{rest:List Oper}{o:Oper}{a:Act}{Q:Exit->Act->World->Prop}{w:World}(hgd:o.guard=none)(m k:Operand)(ho:o.op=.lookup 125 m k true){mb clock:Nat}(hm:a.eval m=.map (some mb)){s:ByteArray}(hk:a.eval k=.string s){es:Array MapEntry}(hb:w.heap[mb]?=some (.map es clock)){i:Nat}{v:Value}(hf:Instr.findNow .string (.string s) es.toList 0=some (some (i,v)))
  (h:wpList Tryz.prog ops Q rest (a.put o.dst (.tuple #[v,.bool true])) w):wpList Tryz.prog ops Q (o::rest) a w:=Pr hgd m k ho hm hk hb hf h
theorem Aw {ops:Array Oper}{rest:List Oper}{o:Oper}{a:Act}{Q:Exit->Act->World->Prop}{w:World}(hgd:o.guard=none)(m k:Operand)(ho:o.op=.lookup 125 m k true){mb clock:Nat}(hm:a.eval m=.map (some mb)){s:ByteArray}(hk:a.eval k=.string s){es:Array MapEntry}(hb:w.heap[mb]?=some (.map es clock))(hf:Instr.findNow .string (.string s) es.toList 0=some none)
  (h:wpList Tryz.prog ops Q rest (a.put o.dst (.tuple #[.nilFunc,.bool false])) w):wpList Tryz.prog ops Q (o::rest) a w:=Pr hgd m k ho hm hk hb hf h
theorem Q36 {ops:Array Oper}{rest:List Oper}{o:Oper}{a:Act}{Q:Exit->Act->World->Prop}{w:World}(hgd:o.guard=none)(t:TypeId)(ho:o.op=.makeMap t none)
  (h:∀mb w',Hid (w.heap.size=mb)->w'.heap[mb]?=some (.map #[] 0)->Nx w w'->wpList Tryz.prog ops Q rest (a.put o.dst (.map (some mb))) w'):wpList Tryz.prog ops Q (o::rest) a w:=by
 refine wpList_plain hgd λK hK=>?_
 have hr:(Instr.makeMap t none).run Tryz.prog w=.ok (.map (some w.heap.size)) (w.alloc (.map #[] 0)):=by simp[Instr.makeMap]
 unfold Oper.wp execOp
 simp[ho,hr]
 exact hK _ _ (h w.heap.size _ rfl (by show(w.heap.push _)[w.heap.size]?=_;simp) (Qd _ _))
theorem Q11 {ops:Array Oper}{rest:List Oper}{o:Oper}{a:Act}{Q:Exit->Act->World->Prop}{w:World}(hgd:o.guard=none)(t:TypeId)(x:Operand)(ho:o.op=.makeMap t (some x)){kt et:TypeId}(ht:Tryz.prog.underlying t=some (.map kt et)){n:Int}(hx:a.eval x=.int .i64 n)
  (h:∀mb w',Hid (w.heap.size=mb)->w'.heap[mb]?=some (.map #[] 0)->Nx w w'->wpList Tryz.prog ops Q rest (a.put o.dst (.map (some mb))) w'):wpList Tryz.prog ops Q (o::rest) a w:=by
 refine wpList_plain hgd λK hK=>?_
 have hr:(Instr.makeMap t (some (.int .i64 n))).run Tryz.prog w=.ok (.map (some w.heap.size)) (w.alloc (.map #[] 0)):=by simp[Instr.makeMap,run_underlying ht,asInt,asIntOf]
 unfold Oper.wp execOp
 simp[ho,hx,hr]
 exact hK _ _ (h w.heap.size _ rfl (by show(w.heap.push _)[w.heap.size]?=_;simp) (Qd _ _))
theorem Kv {s:ByteArray}{l:List UInt8}(h:s.toList=l):s=⟨l.toArray⟩:=by
 rw[ByteArray.toList_eq] at h
 rw[<-h]
theorem RM.start {w:World}{rb:Nat}(h:BT w rb #[.slice none 0 0,.slice none 0 0,.slice none 0 0,.slice none 0 0,.int .i64 0,.int .i64 0,.slice none 0 0] 95):RMx w w rb 0 []:=
 ⟨_,_,_,_,_,⟨rfl,rfl,rfl,Nat.le_refl _,λ_ _ _=>rfl⟩,h,⟨rfl,Or.inl ⟨rfl,rfl⟩⟩,⟨rfl,Or.inl ⟨rfl,rfl⟩⟩,⟨rfl,Or.inl ⟨rfl,rfl⟩⟩,⟨rfl,Or.inl ⟨rfl,rfl⟩⟩,⟨rfl,Or.inl ⟨rfl,rfl⟩⟩,λx hx=>absurd hx List.not_mem_nil,λr hr=>absurd hr List.not_mem_nil,List.pairwise_singleton _ _⟩
end Go.Proofs.YtmmolhlihhdkcaaGreatDoor
namespace Go.Proofs.YtmmolhlihhdkcaaGreatDoor
open Go.RowKit Go.Sort
set_option linter.unusedVariables false
set_option maxRecDepth 1000000
set_option maxHeartbeats 16000000
theorem Qbv (ls:List ByteArray):∀j,j<1->lnB ls j=false:=λj hj=>by
 have e:j=0:=by omega
 subst e
 rfl
def Eqb (M:Nat)(w w':World):Prop:=∀b,b<M->w'.heap[b]?=w.heap[b]?
theorem Eqb.trans {M:Nat}{a b c:World}(h:Eqb M a b)(k:Eqb M b c):Eqb M a c:=λx hx=>(k x hx).trans (h x hx)
theorem T5 {M:Nat}{w w':World}(h:Eqb M w w'){b o:Nat}(hb:b<M):w'.cell? ⟨b,o,none⟩=w.cell? ⟨b,o,none⟩:=by
 have e:=h b hb
 simp[World.cell?,e]
theorem Nx.eqb {M:Nat}{w w':World}(h:Nx w w')(hM:M<=w.heap.size):Eqb M w w':=λb hb=>h.block b (by omega)
theorem Chg.eqb {M rb:Nat}{w w':World}(h:Chg (λx=>x=rb) w w')(hM:M<=w.heap.size)(hr:M<=rb):Eqb M w w':=λb hb=>h.block b (by omega) (λe=>by have e':b=rb:=e;omega)
def HBm (M:Nat)(w:World)(a:Option Addr)(bs:List UInt8):Prop:=0<bs.length->∃b off,a=some ⟨b,off,none⟩/\b<M/\∀i,i<bs.length->w.cell? ⟨b,off+i,none⟩=some (.int .u8 (Qw bs i))
theorem HBm.z {M:Nat}{w w':World}{a:Option Addr}{bs:List UInt8}(h:HBm M w a bs)(k:Eqb M w w'):HBz w' a bs:=λhp=>by
 obtain⟨b,off,e,hb,hc⟩:=h hp
 exact⟨b,off,e,λi hi=>by rw[T5 k hb];exact hc i hi⟩
def LnR (M:Nat)(w:World)(v:Value)(ls:List ByteArray)(n:Nat):Prop:=∃a c,v=.slice a n c/\(0<n->∃g off,a=some ⟨g,off,none⟩/\g<M/\∀i,i<n->∃ai ci,w.cell? ⟨g,off+i,none⟩=some (.slice ai (sat ls (i+1)).size ci)/\HBm M w ai (sat ls (i+1)).data.toList)
theorem Kx (s:ByteArray):stOf s.data.toList=s:=rfl
def pat (ps:List Px)(i:Nat):Px:=ps.getD i ⟨zDe,0,.slice none 0 0,.slice none 0 0,.slice none 0 0,.slice none 0 0⟩
def G4 (ps:List Px):Prop:=∀i,i<ps.length->(pat ps i).no=(i:Int)+2
theorem G4.snoc {ps:List Px}{p:Px}(h:G4 ps)(hp:p.no=(ps.length:Int)+2):G4 (ps++[p]):=λi hi=>by
 rw[List.length_append,List.length_singleton] at hi
 unfold pat
 rw[List.getD_eq_getElem?_getD]
 by_cases e:i<ps.length
 ·rw[List.getElem?_append_left e]
  have:=h i e
  unfold pat at this
  rw[List.getD_eq_getElem?_getD] at this
  exact this
 ·have e':i=ps.length:=by omega
  subst e'
  simpa using hp
def Qeu (M:Nat)(w w':World)(rb:Nat)(ls:List ByteArray)(e:Ending):Prop:=
 (∃i,Xf ls.length (lnB ls)=some i/\∃v,e=.returned v/\(Yj w w' (lnC ls i) ((i:Int)+1) v/\Chg (λx=>x=rb) w w'))\/(Xf ls.length (lnB ls)=none/\e=.returned .nilIface/\∃wm ps line,Nx w wm/\RMx wm w' rb line ps/\ps.map (·.d)=Z5 ls (ls.length-1)/\G4 ps)
theorem Q7h {s:ByteArray}{rb:Nat}(h0:¬s.toList=[110,111,100,101])(h1:¬s.toList=[119,97,121])(h2:¬s.toList=[110,111])(h3:¬s.toList=[111,110,108,121])(h4:¬s.toList=[116,117,114,110])(h5:¬s.toList=[117,116,117,114,110]):Instr.findNow .string (.string s) ((((((((#[]:Array MapEntry).push (MapEntry.mk (.string ⟨#[110,111,100,101]⟩) (.func (.func 76) #[.pointer (some ⟨rb,0,none⟩)] #[]) 0)).push (MapEntry.mk (.string ⟨#[119,97,121]⟩) (.func (.func 77) #[.pointer (some ⟨rb,0,none⟩)] #[]) 1)).push (MapEntry.mk (.string ⟨#[110,111]⟩) (.func (.func 78) #[.pointer (some ⟨rb,0,none⟩)] #[]) 2)).push (MapEntry.mk (.string ⟨#[111,110,108,121]⟩) (.func (.func 79) #[.pointer (some ⟨rb,0,none⟩)] #[]) 3)).push (MapEntry.mk (.string ⟨#[116,117,114,110]⟩) (.func (.func 80) #[.pointer (some ⟨rb,0,none⟩)] #[]) 4)).push (MapEntry.mk (.string ⟨#[117,116,117,114,110]⟩) (.func (.func 81) #[.pointer (some ⟨rb,0,none⟩)] #[]) 5))).toList 0=some none:=by
 have key:∀(l:List UInt8),¬s.toList=l->(s==(⟨l.toArray⟩:ByteArray))=false:=λl h=>by
  have e0:(s==(⟨l.toArray⟩:ByteArray))=(s.data==l.toArray):=by cases s;rfl
  rw[e0,beq_eq_false_iff_ne]
  intro e
  apply h
  rw[ByteArray.toList_eq,e]
 have e0:=key [110,111,100,101] h0
 have e1:=key [119,97,121] h1
 have e2:=key [110,111] h2
 have e3:=key [111,110,108,121] h3
 have e4:=key [116,117,114,110] h4
 have e5:=key [117,116,117,114,110] h5
 simp only[List.toArray] at e0 e1 e2 e3 e4 e5
 simp[Instr.findNow,Instr.sameNow,e0,e1,e2,e3,e4,e5]
theorem Ee (M:Nat)(rb:Nat)(v:Value)(ls:List ByteArray)(w:World)(hb:BT w rb #[.slice none 0 0,.slice none 0 0,.slice none 0 0,.slice none 0 0,.int .i64 0,.int .i64 0,.slice none 0 0] 95)(hp:1<=ls.length)(hl:ls.length<=300001)(hs:∀i,i<ls.length->(sat ls i).size<=300000)(hv:LnR M w v ls (ls.length-1))(hG:Gl w)(hMr:M<=rb/\Tryz.splitS_ren.g 1<M) :
  Calls Tryz.prog 57 #[.pointer (some ⟨rb,0,none⟩),v] w λe w'=>Qeu M w w' rb ls e:=by
 obtain⟨n,hnl⟩:∃n,ls.length=n+1:=⟨ls.length-1,by omega⟩
 have HNL:Hid (ls.length=n+1):=hnl
 rw[show ls.length-1=n by omega] at hv
 obtain⟨al,cl,rfl,hal⟩:=hv
 have HAL:=Q0 hal
 have HSZ:=Q0 hs
 have HG:=Q0 hG
 have HMR:=Q0 hMr
 have hnb:n<=300000:=by omega
 clear hal hs hG hMr hnl hl hp
 have HB0:=Q0 hb
 have hrl:=hb.lt
 have HRL:=Q0 hrl
 clear hb hrl
 go_enter Tryz.func57,Tryz.ntmps57
 go_wp2_with (refine Q36 rfl _ rfl ?_)
 intro mb wa HMB hm0 hx0
 have HX0:=Q0 hx0
 clear hx0
 go_wp2_with (refine Y2 rfl _ _ _ rfl rfl rfl rfl hm0 rfl ?_)
 intro w1_ hm1 hx1
 have HC1:=Q0 hx1
 clear hm0 hx1
 go_wp2_with (refine Y2 rfl _ _ _ rfl rfl rfl rfl hm1 rfl ?_)
 intro w2_ hm2 hx2
 have HC2:=Q0 (HC1.out.trans hx2)
 clear hx2 hm1 HC1
 go_wp2_with (refine Y2 rfl _ _ _ rfl rfl rfl rfl hm2 rfl ?_)
 intro w3_ hm3 hx3
 have HC3:=Q0 (HC2.out.trans hx3)
 clear hx3 hm2 HC2
 go_wp2_with (refine Y2 rfl _ _ _ rfl rfl rfl rfl hm3 rfl ?_)
 intro w4_ hm4 hx4
 have HC4:=Q0 (HC3.out.trans hx4)
 clear hx4 hm3 HC3
 go_wp2_with (refine Y2 rfl _ _ _ rfl rfl rfl rfl hm4 rfl ?_)
 intro w5_ hm5 hx5
 have HC5:=Q0 (HC4.out.trans hx5)
 clear hx5 hm4 HC4
 go_wp2_with (refine Y2 rfl _ _ _ rfl rfl rfl rfl hm5 rfl ?_)
 intro w6_ hm6 hx6
 have HC6:=Q0 (HC5.out.trans hx6)
 clear hx6 hm5 HC5
 have HMP:Hid (w6_.heap[mb]?=some (.map ((((((((#[]:Array MapEntry).push (MapEntry.mk (.string ⟨#[110,111,100,101]⟩) (.func (.func 76) #[.pointer (some ⟨rb,0,none⟩)] #[]) 0)).push (MapEntry.mk (.string ⟨#[119,97,121]⟩) (.func (.func 77) #[.pointer (some ⟨rb,0,none⟩)] #[]) 1)).push (MapEntry.mk (.string ⟨#[110,111]⟩) (.func (.func 78) #[.pointer (some ⟨rb,0,none⟩)] #[]) 2)).push (MapEntry.mk (.string ⟨#[111,110,108,121]⟩) (.func (.func 79) #[.pointer (some ⟨rb,0,none⟩)] #[]) 3)).push (MapEntry.mk (.string ⟨#[116,117,114,110]⟩) (.func (.func 80) #[.pointer (some ⟨rb,0,none⟩)] #[]) 4)).push (MapEntry.mk (.string ⟨#[117,116,117,114,110]⟩) (.func (.func 81) #[.pointer (some ⟨rb,0,none⟩)] #[]) 5))) 6)):=hm6
 have HX6:Hid (Nx w w6_):=by
  have h1:=HC6.out
  refine Below.trans HX0.out (h1.below HX0.out.size (λx hx=>?_))
  have e:x=mb:=hx
  have:=HMB.out
  omega
 clear hm6 HC6 HX0
 have HR0:=Q0 (RM.start (HB0.out.next HX6.out))
 have HZ6:Hid (w.heap.size<=w6_.heap.size):=HX6.out.size
 have HML:Hid (mb<w6_.heap.size/\mb≠rb):=⟨(Array.getElem?_eq_some_iff.1 HMP.out).1,by have h1:=HMB.out;have h2:=HRL.out;omega⟩
 go_wp2
 go_loopw [28] (λs28 wr=>∃(i:Nat) (ps:List Px) (line:Int),i<=n/\s28=.int .i64 i/\Hid (RMx w6_ wr rb line ps)/\Hid (ps.length=i/\ps.map (·.d)=Z5 ls i/\G4 ps)/\Hid (∀j,j<i+1->lnB ls j=false)) (λs28 _=>n-(intOf s28).toNat)
 case atStart=>exact⟨0,[],0,Nat.zero_le _,rfl,HR0,⟨rfl,rfl,λi hi=>absurd hi (Nat.not_lt_zero _)⟩,Qbv ls⟩
 clear HR0
 obtain⟨i,ps,line,hin,rfl,HR,HPS,HNB⟩:=hrel
 by_cases hlt:i<n
 ·have hlt':(i:Int)<(n:Int):=by omega
  obtain⟨vN,vW,vR,vT,vL,hr⟩:=HR.out
  have HE6:Hid (Eqb M w w6_):=HX6.out.eqb (by have h1:=HRL.out;have h2:=HMR.out;omega)
  have HEQ:Hid (Eqb M w wr):=HE6.out.trans (hr.nx.eqb (by have h1:=HRL.out;have h2:=HMR.out;have h3:=HZ6.out;omega) HMR.out.1)
  obtain⟨g,off,ea,hgM,hcl⟩:=HAL.out (by omega)
  subst ea
  obtain⟨ai,ci,xc,hby⟩:=hcl i hlt
  have hsz:=HSZ.out (i+1) (by rw[HNL.out];omega)
  have xi:wr.cell? ⟨g,off+i,none⟩=some (.slice ai (sat ls (i+1)).size ci):=by rw[T5 HEQ.out hgM];exact xc
  have HBY:=Q0 hby
  clear hcl xc hby
  have HLC:Hid (lnC ls (i+1)=if (Yr (sat ls (i+1))).length=0 then 4 else V3 (Yr (sat ls (i+1)))):=rfl
  have HBI:Hid (lnC ls (i+1)≠0->Xf ls.length (lnB ls)=some (i+1)):=λh=>T4 (by rw[HNL.out];omega) (by unfold lnB;rw[decide_eq_true (by omega:1<=i+1)];simp[h]) HNB.out
  have HBN:Hid (lnC ls (i+1)=0->∀j,j<i+1+1->lnB ls j=false):=λh j hj=>by
   by_cases e:j=i+1
   ·subst e;unfold lnB;rw[h];simp
   ·exact HNB.out j (by omega)
  have HDX:=Q0 (Q7l ls i)
  have q5:wr.cell? ⟨rb,5,none⟩=some (.int .i64 line):=hr.bx.blk.cell (i:=5) rfl
  have f5:=hr.bx.blk.frozen 5
  have hwi:IntKind.i64.wrap ((i:Int)+2)=(i:Int)+2:=by rw[IntKind.wrap_i64];omega
  have HR7:=Q0 (hr.setLine ((i:Int)+2))
  have HZR:Hid (w6_.heap.size<=wr.heap.size):=hr.nx.size
  have HE7:Hid (Eqb M w (wr.setCell ⟨rb,5,none⟩ (.int .i64 ((i:Int)+2)))):=HEQ.out.trans ((Chg.set (S:=λx=>x=rb) rb 5 _ rfl).eqb (by have h1:=HRL.out;have h2:=HMR.out;have h3:=HZ6.out;have h4:=HZR.out;omega) HMR.out.1)
  clear hr HR HNB
  generalize hsl:sat ls (i+1)=s at *
  clear hsl
  generalize hsn:s.size=sn at *
  have HSN:Hid (s.data.toList.length=sn):=by unfold Hid;rw[<-hsn];simp
  clear hsn
  obtain⟨lc,hlc⟩:∃q,lnC ls (i+1)=q:=⟨_,rfl⟩
  have HLE:Hid (lnC ls (i+1)=lc):=hlc
  rw[hlc] at HLC HBI HBN
  clear hlc
  go_upto_region 6 with fail
  generalize wr.setCell ⟨rb,5,none⟩ (.int .i64 ((i:Int)+2))=w7 at *
  clear q5 f5 xi
  go_wp2_with fail
  refine(Q3b ai sn ci s.data.toList w7 (HBY.out.z HE7.out) HSN.out (by omega) (by
   obtain⟨m,hm⟩:=HG.out
   exact⟨m,by rw[T5 HE7.out HMR.out.2];exact hm⟩)).mono ?_
  rintro e w8 ⟨hsp,hx⟩
  rw[Kx] at hsp
  have HX8:=Q0 hx
  have HR8:=Q0 (HR7.out.next hx)
  have HZ8:Hid (w.heap.size<=w7.heap.size):=Nat.le_trans HX6.out.size HR7.out.nx.size
  clear hx HR7 HE7 HBY
  rcases hsp with⟨hlk,v,rfl,ho⟩|⟨hlk,rfl⟩
  case inr=>
   have e0:Yr s=[]:=by have h:=Gj s.data.toList;rw[hlk,Kx] at h;exact h
   have HL4:Hid (lc=4):=by unfold Hid;rw[HLC.out,e0];rfl
   clear hlk e0
   go_wp2_with fail
   refine(Jg rb 4 ((i:Int)+2) _ w8 HR8.out.bx rfl).mono ?_
   rintro e w9 ⟨⟨v,rfl,hfl⟩,hx⟩
   have HFL:Hid (Yj w w9 lc ((i:Int)+1+1) v):=by
    obtain⟨fb,e1,e2,e3⟩:=hfl
    rw[HL4.out]
    refine⟨fb,e1,?_,by rw[show(i:Int)+1+1=(i:Int)+2 by omega];exact e3⟩
    have h1:=HZ8.out
    have h2:=HX8.out.size
    omega
   have HCH:Hid (Chg (λx=>x=rb) w w9):=(Chg.nx HX6.out).trans (HR8.out.nx.trans (Chg.nx hx))
   clear hfl hx
   go_wp2
   go_ret
   refine Or.inl ⟨i+1,HBI.out (by rw[HL4.out];decide),v,rfl,?_,HCH.out⟩
   have h:=HFL.out
   rw[show(((i+1:Nat):Int)+1)=(i:Int)+1+1 by omega]
   rw[HLE.out]
   exact h
  have HFE:Hid (0<(Yr s).length):=by
   have h:=Gj s.data.toList
   rw[hlk,Kx,if_pos rfl] at h
   unfold Hid
   rw[h,List.length_map]
   exact Qcs 32 _
  have HLF:Hid (lc=V3 (Yr s)):=by
   have h:=HFE.out
   unfold Hid
   rw[HLC.out,if_neg (by omega)]
  have hfl:=Q5u s
  have HFZ:Hid (∀j,j<(Yr s).length->(sat (Yr s) j).size<=300000):=λj hj=>by
   have h1:=Qa1 hj
   have h2:s.size=sn:=by have:=HSN.out;simpa using this
   omega
  have HFN:Hid ((Yr s).length<=300001):=by
   have h2:s.size=sn:=by have:=HSN.out;simpa using this
   unfold Hid;omega
  clear hlk HLC hfl HSN
  generalize Yr s=f at *
  clear s
  obtain⟨ab,cb,eb⟩:=Q3 ho
  obtain⟨nf,hnf⟩:∃q,f.length=q:=⟨_,rfl⟩
  rw[hnf] at eb HFE HFN
  have HNF:=Q0 hnf
  subst eb
  obtain⟨gf,eg,-,-,xf0⟩:=J2.at ho (i:=0) (by rw[hnf];exact HFE.out)
  subst eg
  have HOF:=Q0 ho
  clear ho hnf
  have hnf0:(0:Int)<(nf:Int):=by have:=HFE.out;omega
  have hnf0':¬nf=0:=by have:=HFE.out;omega
  have HM8:Hid (w8.heap[mb]?=some (.map ((((((((#[]:Array MapEntry).push (MapEntry.mk (.string ⟨#[110,111,100,101]⟩) (.func (.func 76) #[.pointer (some ⟨rb,0,none⟩)] #[]) 0)).push (MapEntry.mk (.string ⟨#[119,97,121]⟩) (.func (.func 77) #[.pointer (some ⟨rb,0,none⟩)] #[]) 1)).push (MapEntry.mk (.string ⟨#[110,111]⟩) (.func (.func 78) #[.pointer (some ⟨rb,0,none⟩)] #[]) 2)).push (MapEntry.mk (.string ⟨#[111,110,108,121]⟩) (.func (.func 79) #[.pointer (some ⟨rb,0,none⟩)] #[]) 3)).push (MapEntry.mk (.string ⟨#[116,117,114,110]⟩) (.func (.func 80) #[.pointer (some ⟨rb,0,none⟩)] #[]) 4)).push (MapEntry.mk (.string ⟨#[117,116,117,114,110]⟩) (.func (.func 81) #[.pointer (some ⟨rb,0,none⟩)] #[]) 5))) 6)):=by
   have h1:w8.heap[mb]?=w6_.heap[mb]?:=HR8.out.nx.block mb HML.out.1 HML.out.2
   unfold Hid
   rw[h1];exact HMP.out
  by_cases hw0:(sat f 0).toList=[110,111,100,101]
  ·have hfw:Instr.findNow .string (.string (sat f 0)) ((((((((#[]:Array MapEntry).push (MapEntry.mk (.string ⟨#[110,111,100,101]⟩) (.func (.func 76) #[.pointer (some ⟨rb,0,none⟩)] #[]) 0)).push (MapEntry.mk (.string ⟨#[119,97,121]⟩) (.func (.func 77) #[.pointer (some ⟨rb,0,none⟩)] #[]) 1)).push (MapEntry.mk (.string ⟨#[110,111]⟩) (.func (.func 78) #[.pointer (some ⟨rb,0,none⟩)] #[]) 2)).push (MapEntry.mk (.string ⟨#[111,110,108,121]⟩) (.func (.func 79) #[.pointer (some ⟨rb,0,none⟩)] #[]) 3)).push (MapEntry.mk (.string ⟨#[116,117,114,110]⟩) (.func (.func 80) #[.pointer (some ⟨rb,0,none⟩)] #[]) 4)).push (MapEntry.mk (.string ⟨#[117,116,117,114,110]⟩) (.func (.func 81) #[.pointer (some ⟨rb,0,none⟩)] #[]) 5))).toList 0=some (some (0,.func (.func 76) #[.pointer (some ⟨rb,0,none⟩)] #[])):=by rw[Kv hw0];rfl
   go_wp2_with (refine Xi rfl _ _ rfl rfl rfl HM8.out hfw ?_)
   refine(Q0g w6_ rb ((i:Int)+2) ps w8 ⟨_,_,_,_,_,HR8.out⟩ (by have:=HPS.out.1;omega) _ gf nf cb f HOF.out HNF.out HFN.out HFZ.out hw0).mono ?_
   rintro e w9 (⟨h0,rfl,p,hpd,hpn,hrx⟩|⟨h0,v,rfl,hfl,hx9⟩)
   ·have HR9:=Q0 hrx
    have HP2:Hid ((ps++[p]).length=i+1/\(ps++[p]).map (·.d)=Z5 ls (i+1)/\G4 (ps++[p])):=by
     obtain⟨h1,h2,h3⟩:=HPS.out
     refine⟨by rw[List.length_append,h1];rfl,by rw[List.map_append,h2,HDX.out,List.map_singleton,hpd],h3.snoc (by rw[hpn,h1])⟩
    have HB2:=Q0 (HBN.out (by rw[HLF.out,h0]))
    clear hrx hpd hpn h0 hfw xf0 HM8 HR8 HOF HBN HBI
    go_wp2
    go_roundw
    case rel=>exact⟨i+1,ps++[p],(i:Int)+2,by omega,by go_num,HR9,HP2,HB2⟩
    case measure=>simp[intOf];omega
   ·obtain⟨fb,rfl,e2,e3⟩:=hfl
    have HL0:Hid (lc≠0):=by unfold Hid;rw[HLF.out];exact h0
    have HFL:Hid (Yj w w9 lc ((i:Int)+1+1) (.iface 61 (.pointer (some ⟨fb,0,none⟩)))):=by
     refine⟨fb,rfl,?_,by rw[HLF.out,show(i:Int)+1+1=(i:Int)+2 by omega];exact e3⟩
     have h1:=HZ8.out
     have h2:=HX8.out.size
     omega
    have HCH:Hid (Chg (λx=>x=rb) w w9):=(Chg.nx HX6.out).trans (HR8.out.nx.trans (Chg.nx hx9))
    clear e2 e3 h0 hx9 hfw xf0 HM8 HR8 HOF HBN
    go_wp2
    go_ret
    refine Or.inl ⟨i+1,HBI.out HL0.out,_,rfl,?_,HCH.out⟩
    have h:=HFL.out
    rw[show(((i+1:Nat):Int)+1)=(i:Int)+1+1 by omega]
    rw[HLE.out]
    exact h
  by_cases hw1:(sat f 0).toList=[119,97,121]
  ·have hfw:Instr.findNow .string (.string (sat f 0)) ((((((((#[]:Array MapEntry).push (MapEntry.mk (.string ⟨#[110,111,100,101]⟩) (.func (.func 76) #[.pointer (some ⟨rb,0,none⟩)] #[]) 0)).push (MapEntry.mk (.string ⟨#[119,97,121]⟩) (.func (.func 77) #[.pointer (some ⟨rb,0,none⟩)] #[]) 1)).push (MapEntry.mk (.string ⟨#[110,111]⟩) (.func (.func 78) #[.pointer (some ⟨rb,0,none⟩)] #[]) 2)).push (MapEntry.mk (.string ⟨#[111,110,108,121]⟩) (.func (.func 79) #[.pointer (some ⟨rb,0,none⟩)] #[]) 3)).push (MapEntry.mk (.string ⟨#[116,117,114,110]⟩) (.func (.func 80) #[.pointer (some ⟨rb,0,none⟩)] #[]) 4)).push (MapEntry.mk (.string ⟨#[117,116,117,114,110]⟩) (.func (.func 81) #[.pointer (some ⟨rb,0,none⟩)] #[]) 5))).toList 0=some (some (1,.func (.func 77) #[.pointer (some ⟨rb,0,none⟩)] #[])):=by rw[Kv hw1];rfl
   go_wp2_with (refine Xi rfl _ _ rfl rfl rfl HM8.out hfw ?_)
   refine(Q1g w6_ rb ((i:Int)+2) ps w8 ⟨_,_,_,_,_,HR8.out⟩ (by have:=HPS.out.1;omega) _ gf nf cb f HOF.out HNF.out HFN.out HFZ.out hw1).mono ?_
   rintro e w9 (⟨h0,rfl,p,hpd,hpn,hrx⟩|⟨h0,v,rfl,hfl,hx9⟩)
   ·have HR9:=Q0 hrx
    have HP2:Hid ((ps++[p]).length=i+1/\(ps++[p]).map (·.d)=Z5 ls (i+1)/\G4 (ps++[p])):=by
     obtain⟨h1,h2,h3⟩:=HPS.out
     refine⟨by rw[List.length_append,h1];rfl,by rw[List.map_append,h2,HDX.out,List.map_singleton,hpd],h3.snoc (by rw[hpn,h1])⟩
    have HB2:=Q0 (HBN.out (by rw[HLF.out,h0]))
    clear hrx hpd hpn h0 hfw xf0 HM8 HR8 HOF HBN HBI
    go_wp2
    go_roundw
    case rel=>exact⟨i+1,ps++[p],(i:Int)+2,by omega,by go_num,HR9,HP2,HB2⟩
    case measure=>simp[intOf];omega
   ·obtain⟨fb,rfl,e2,e3⟩:=hfl
    have HL0:Hid (lc≠0):=by unfold Hid;rw[HLF.out];exact h0
    have HFL:Hid (Yj w w9 lc ((i:Int)+1+1) (.iface 61 (.pointer (some ⟨fb,0,none⟩)))):=by
     refine⟨fb,rfl,?_,by rw[HLF.out,show(i:Int)+1+1=(i:Int)+2 by omega];exact e3⟩
     have h1:=HZ8.out
     have h2:=HX8.out.size
     omega
    have HCH:Hid (Chg (λx=>x=rb) w w9):=(Chg.nx HX6.out).trans (HR8.out.nx.trans (Chg.nx hx9))
    clear e2 e3 h0 hx9 hfw xf0 HM8 HR8 HOF HBN
    go_wp2
    go_ret
    refine Or.inl ⟨i+1,HBI.out HL0.out,_,rfl,?_,HCH.out⟩
    have h:=HFL.out
    rw[show(((i+1:Nat):Int)+1)=(i:Int)+1+1 by omega]
    rw[HLE.out]
    exact h
  by_cases hw2:(sat f 0).toList=[110,111]
  ·have hfw:Instr.findNow .string (.string (sat f 0)) ((((((((#[]:Array MapEntry).push (MapEntry.mk (.string ⟨#[110,111,100,101]⟩) (.func (.func 76) #[.pointer (some ⟨rb,0,none⟩)] #[]) 0)).push (MapEntry.mk (.string ⟨#[119,97,121]⟩) (.func (.func 77) #[.pointer (some ⟨rb,0,none⟩)] #[]) 1)).push (MapEntry.mk (.string ⟨#[110,111]⟩) (.func (.func 78) #[.pointer (some ⟨rb,0,none⟩)] #[]) 2)).push (MapEntry.mk (.string ⟨#[111,110,108,121]⟩) (.func (.func 79) #[.pointer (some ⟨rb,0,none⟩)] #[]) 3)).push (MapEntry.mk (.string ⟨#[116,117,114,110]⟩) (.func (.func 80) #[.pointer (some ⟨rb,0,none⟩)] #[]) 4)).push (MapEntry.mk (.string ⟨#[117,116,117,114,110]⟩) (.func (.func 81) #[.pointer (some ⟨rb,0,none⟩)] #[]) 5))).toList 0=some (some (2,.func (.func 78) #[.pointer (some ⟨rb,0,none⟩)] #[])):=by rw[Kv hw2];rfl
   go_wp2_with (refine Xi rfl _ _ rfl rfl rfl HM8.out hfw ?_)
   refine(Q3o w6_ rb ((i:Int)+2) ps w8 ⟨_,_,_,_,_,HR8.out⟩ (by have:=HPS.out.1;omega) _ gf nf cb f HOF.out HNF.out HFN.out HFZ.out hw2).mono ?_
   rintro e w9 (⟨h0,rfl,p,hpd,hpn,hrx⟩|⟨h0,v,rfl,hfl,hx9⟩)
   ·have HR9:=Q0 hrx
    have HP2:Hid ((ps++[p]).length=i+1/\(ps++[p]).map (·.d)=Z5 ls (i+1)/\G4 (ps++[p])):=by
     obtain⟨h1,h2,h3⟩:=HPS.out
     refine⟨by rw[List.length_append,h1];rfl,by rw[List.map_append,h2,HDX.out,List.map_singleton,hpd],h3.snoc (by rw[hpn,h1])⟩
    have HB2:=Q0 (HBN.out (by rw[HLF.out,h0]))
    clear hrx hpd hpn h0 hfw xf0 HM8 HR8 HOF HBN HBI
    go_wp2
    go_roundw
    case rel=>exact⟨i+1,ps++[p],(i:Int)+2,by omega,by go_num,HR9,HP2,HB2⟩
    case measure=>simp[intOf];omega
   ·obtain⟨fb,rfl,e2,e3⟩:=hfl
    have HL0:Hid (lc≠0):=by unfold Hid;rw[HLF.out];exact h0
    have HFL:Hid (Yj w w9 lc ((i:Int)+1+1) (.iface 61 (.pointer (some ⟨fb,0,none⟩)))):=by
     refine⟨fb,rfl,?_,by rw[HLF.out,show(i:Int)+1+1=(i:Int)+2 by omega];exact e3⟩
     have h1:=HZ8.out
     have h2:=HX8.out.size
     omega
    have HCH:Hid (Chg (λx=>x=rb) w w9):=(Chg.nx HX6.out).trans (HR8.out.nx.trans (Chg.nx hx9))
    clear e2 e3 h0 hx9 hfw xf0 HM8 HR8 HOF HBN
    go_wp2
    go_ret
    refine Or.inl ⟨i+1,HBI.out HL0.out,_,rfl,?_,HCH.out⟩
    have h:=HFL.out
    rw[show(((i+1:Nat):Int)+1)=(i:Int)+1+1 by omega]
    rw[HLE.out]
    exact h
  by_cases hw3:(sat f 0).toList=[111,110,108,121]
  ·have hfw:Instr.findNow .string (.string (sat f 0)) ((((((((#[]:Array MapEntry).push (MapEntry.mk (.string ⟨#[110,111,100,101]⟩) (.func (.func 76) #[.pointer (some ⟨rb,0,none⟩)] #[]) 0)).push (MapEntry.mk (.string ⟨#[119,97,121]⟩) (.func (.func 77) #[.pointer (some ⟨rb,0,none⟩)] #[]) 1)).push (MapEntry.mk (.string ⟨#[110,111]⟩) (.func (.func 78) #[.pointer (some ⟨rb,0,none⟩)] #[]) 2)).push (MapEntry.mk (.string ⟨#[111,110,108,121]⟩) (.func (.func 79) #[.pointer (some ⟨rb,0,none⟩)] #[]) 3)).push (MapEntry.mk (.string ⟨#[116,117,114,110]⟩) (.func (.func 80) #[.pointer (some ⟨rb,0,none⟩)] #[]) 4)).push (MapEntry.mk (.string ⟨#[117,116,117,114,110]⟩) (.func (.func 81) #[.pointer (some ⟨rb,0,none⟩)] #[]) 5))).toList 0=some (some (3,.func (.func 79) #[.pointer (some ⟨rb,0,none⟩)] #[])):=by rw[Kv hw3];rfl
   go_wp2_with (refine Xi rfl _ _ rfl rfl rfl HM8.out hfw ?_)
   refine(Q0e w6_ rb ((i:Int)+2) ps w8 ⟨_,_,_,_,_,HR8.out⟩ (by have:=HPS.out.1;omega) _ gf nf cb f HOF.out HNF.out HFN.out HFZ.out hw3).mono ?_
   rintro e w9 (⟨h0,rfl,p,hpd,hpn,hrx⟩|⟨h0,v,rfl,hfl,hx9⟩)
   ·have HR9:=Q0 hrx
    have HP2:Hid ((ps++[p]).length=i+1/\(ps++[p]).map (·.d)=Z5 ls (i+1)/\G4 (ps++[p])):=by
     obtain⟨h1,h2,h3⟩:=HPS.out
     refine⟨by rw[List.length_append,h1];rfl,by rw[List.map_append,h2,HDX.out,List.map_singleton,hpd],h3.snoc (by rw[hpn,h1])⟩
    have HB2:=Q0 (HBN.out (by rw[HLF.out,h0]))
    clear hrx hpd hpn h0 hfw xf0 HM8 HR8 HOF HBN HBI
    go_wp2
    go_roundw
    case rel=>exact⟨i+1,ps++[p],(i:Int)+2,by omega,by go_num,HR9,HP2,HB2⟩
    case measure=>simp[intOf];omega
   ·obtain⟨fb,rfl,e2,e3⟩:=hfl
    have HL0:Hid (lc≠0):=by unfold Hid;rw[HLF.out];exact h0
    have HFL:Hid (Yj w w9 lc ((i:Int)+1+1) (.iface 61 (.pointer (some ⟨fb,0,none⟩)))):=by
     refine⟨fb,rfl,?_,by rw[HLF.out,show(i:Int)+1+1=(i:Int)+2 by omega];exact e3⟩
     have h1:=HZ8.out
     have h2:=HX8.out.size
     omega
    have HCH:Hid (Chg (λx=>x=rb) w w9):=(Chg.nx HX6.out).trans (HR8.out.nx.trans (Chg.nx hx9))
    clear e2 e3 h0 hx9 hfw xf0 HM8 HR8 HOF HBN
    go_wp2
    go_ret
    refine Or.inl ⟨i+1,HBI.out HL0.out,_,rfl,?_,HCH.out⟩
    have h:=HFL.out
    rw[show(((i+1:Nat):Int)+1)=(i:Int)+1+1 by omega]
    rw[HLE.out]
    exact h
  by_cases hw4:(sat f 0).toList=[116,117,114,110]
  ·have hfw:Instr.findNow .string (.string (sat f 0)) ((((((((#[]:Array MapEntry).push (MapEntry.mk (.string ⟨#[110,111,100,101]⟩) (.func (.func 76) #[.pointer (some ⟨rb,0,none⟩)] #[]) 0)).push (MapEntry.mk (.string ⟨#[119,97,121]⟩) (.func (.func 77) #[.pointer (some ⟨rb,0,none⟩)] #[]) 1)).push (MapEntry.mk (.string ⟨#[110,111]⟩) (.func (.func 78) #[.pointer (some ⟨rb,0,none⟩)] #[]) 2)).push (MapEntry.mk (.string ⟨#[111,110,108,121]⟩) (.func (.func 79) #[.pointer (some ⟨rb,0,none⟩)] #[]) 3)).push (MapEntry.mk (.string ⟨#[116,117,114,110]⟩) (.func (.func 80) #[.pointer (some ⟨rb,0,none⟩)] #[]) 4)).push (MapEntry.mk (.string ⟨#[117,116,117,114,110]⟩) (.func (.func 81) #[.pointer (some ⟨rb,0,none⟩)] #[]) 5))).toList 0=some (some (4,.func (.func 80) #[.pointer (some ⟨rb,0,none⟩)] #[])):=by rw[Kv hw4];rfl
   go_wp2_with (refine Xi rfl _ _ rfl rfl rfl HM8.out hfw ?_)
   refine(Q0d w6_ rb ((i:Int)+2) ps w8 ⟨_,_,_,_,_,HR8.out⟩ (by have:=HPS.out.1;omega) _ gf nf cb f HOF.out HNF.out HFN.out HFZ.out hw4).mono ?_
   rintro e w9 (⟨h0,rfl,p,hpd,hpn,hrx⟩|⟨h0,v,rfl,hfl,hx9⟩)
   ·have HR9:=Q0 hrx
    have HP2:Hid ((ps++[p]).length=i+1/\(ps++[p]).map (·.d)=Z5 ls (i+1)/\G4 (ps++[p])):=by
     obtain⟨h1,h2,h3⟩:=HPS.out
     refine⟨by rw[List.length_append,h1];rfl,by rw[List.map_append,h2,HDX.out,List.map_singleton,hpd],h3.snoc (by rw[hpn,h1])⟩
    have HB2:=Q0 (HBN.out (by rw[HLF.out,h0]))
    clear hrx hpd hpn h0 hfw xf0 HM8 HR8 HOF HBN HBI
    go_wp2
    go_roundw
    case rel=>exact⟨i+1,ps++[p],(i:Int)+2,by omega,by go_num,HR9,HP2,HB2⟩
    case measure=>simp[intOf];omega
   ·obtain⟨fb,rfl,e2,e3⟩:=hfl
    have HL0:Hid (lc≠0):=by unfold Hid;rw[HLF.out];exact h0
    have HFL:Hid (Yj w w9 lc ((i:Int)+1+1) (.iface 61 (.pointer (some ⟨fb,0,none⟩)))):=by
     refine⟨fb,rfl,?_,by rw[HLF.out,show(i:Int)+1+1=(i:Int)+2 by omega];exact e3⟩
     have h1:=HZ8.out
     have h2:=HX8.out.size
     omega
    have HCH:Hid (Chg (λx=>x=rb) w w9):=(Chg.nx HX6.out).trans (HR8.out.nx.trans (Chg.nx hx9))
    clear e2 e3 h0 hx9 hfw xf0 HM8 HR8 HOF HBN
    go_wp2
    go_ret
    refine Or.inl ⟨i+1,HBI.out HL0.out,_,rfl,?_,HCH.out⟩
    have h:=HFL.out
    rw[show(((i+1:Nat):Int)+1)=(i:Int)+1+1 by omega]
    rw[HLE.out]
    exact h
  by_cases hw5:(sat f 0).toList=[117,116,117,114,110]
  ·have hfw:Instr.findNow .string (.string (sat f 0)) ((((((((#[]:Array MapEntry).push (MapEntry.mk (.string ⟨#[110,111,100,101]⟩) (.func (.func 76) #[.pointer (some ⟨rb,0,none⟩)] #[]) 0)).push (MapEntry.mk (.string ⟨#[119,97,121]⟩) (.func (.func 77) #[.pointer (some ⟨rb,0,none⟩)] #[]) 1)).push (MapEntry.mk (.string ⟨#[110,111]⟩) (.func (.func 78) #[.pointer (some ⟨rb,0,none⟩)] #[]) 2)).push (MapEntry.mk (.string ⟨#[111,110,108,121]⟩) (.func (.func 79) #[.pointer (some ⟨rb,0,none⟩)] #[]) 3)).push (MapEntry.mk (.string ⟨#[116,117,114,110]⟩) (.func (.func 80) #[.pointer (some ⟨rb,0,none⟩)] #[]) 4)).push (MapEntry.mk (.string ⟨#[117,116,117,114,110]⟩) (.func (.func 81) #[.pointer (some ⟨rb,0,none⟩)] #[]) 5))).toList 0=some (some (5,.func (.func 81) #[.pointer (some ⟨rb,0,none⟩)] #[])):=by rw[Kv hw5];rfl
   go_wp2_with (refine Xi rfl _ _ rfl rfl rfl HM8.out hfw ?_)
   refine(Ed w6_ rb ((i:Int)+2) ps w8 ⟨_,_,_,_,_,HR8.out⟩ (by have:=HPS.out.1;omega) _ gf nf cb f HOF.out HNF.out HFN.out HFZ.out hw5).mono ?_
   rintro e w9 (⟨h0,rfl,p,hpd,hpn,hrx⟩|⟨h0,v,rfl,hfl,hx9⟩)
   ·have HR9:=Q0 hrx
    have HP2:Hid ((ps++[p]).length=i+1/\(ps++[p]).map (·.d)=Z5 ls (i+1)/\G4 (ps++[p])):=by
     obtain⟨h1,h2,h3⟩:=HPS.out
     refine⟨by rw[List.length_append,h1];rfl,by rw[List.map_append,h2,HDX.out,List.map_singleton,hpd],h3.snoc (by rw[hpn,h1])⟩
    have HB2:=Q0 (HBN.out (by rw[HLF.out,h0]))
    clear hrx hpd hpn h0 hfw xf0 HM8 HR8 HOF HBN HBI
    go_wp2
    go_roundw
    case rel=>exact⟨i+1,ps++[p],(i:Int)+2,by omega,by go_num,HR9,HP2,HB2⟩
    case measure=>simp[intOf];omega
   ·obtain⟨fb,rfl,e2,e3⟩:=hfl
    have HL0:Hid (lc≠0):=by unfold Hid;rw[HLF.out];exact h0
    have HFL:Hid (Yj w w9 lc ((i:Int)+1+1) (.iface 61 (.pointer (some ⟨fb,0,none⟩)))):=by
     refine⟨fb,rfl,?_,by rw[HLF.out,show(i:Int)+1+1=(i:Int)+2 by omega];exact e3⟩
     have h1:=HZ8.out
     have h2:=HX8.out.size
     omega
    have HCH:Hid (Chg (λx=>x=rb) w w9):=(Chg.nx HX6.out).trans (HR8.out.nx.trans (Chg.nx hx9))
    clear e2 e3 h0 hx9 hfw xf0 HM8 HR8 HOF HBN
    go_wp2
    go_ret
    refine Or.inl ⟨i+1,HBI.out HL0.out,_,rfl,?_,HCH.out⟩
    have h:=HFL.out
    rw[show(((i+1:Nat):Int)+1)=(i:Int)+1+1 by omega]
    rw[HLE.out]
    exact h
  have HL5:Hid (lc=5):=by
   unfold Hid
   rw[HLF.out]
   unfold V3 Vt
   have e1:((sat f 0).toList==[110,111])=false:=by simpa using hw2
   have e2:((sat f 0).toList==[111,110,108,121])=false:=by simpa using hw3
   rw[e1,e2,if_pos ⟨hw0,hw1,hw4,hw5,rfl⟩]
  have hfw:Instr.findNow .string (.string (sat f 0)) ((((((((#[]:Array MapEntry).push (MapEntry.mk (.string ⟨#[110,111,100,101]⟩) (.func (.func 76) #[.pointer (some ⟨rb,0,none⟩)] #[]) 0)).push (MapEntry.mk (.string ⟨#[119,97,121]⟩) (.func (.func 77) #[.pointer (some ⟨rb,0,none⟩)] #[]) 1)).push (MapEntry.mk (.string ⟨#[110,111]⟩) (.func (.func 78) #[.pointer (some ⟨rb,0,none⟩)] #[]) 2)).push (MapEntry.mk (.string ⟨#[111,110,108,121]⟩) (.func (.func 79) #[.pointer (some ⟨rb,0,none⟩)] #[]) 3)).push (MapEntry.mk (.string ⟨#[116,117,114,110]⟩) (.func (.func 80) #[.pointer (some ⟨rb,0,none⟩)] #[]) 4)).push (MapEntry.mk (.string ⟨#[117,116,117,114,110]⟩) (.func (.func 81) #[.pointer (some ⟨rb,0,none⟩)] #[]) 5))).toList 0=some none:=Q7h hw0 hw1 hw2 hw3 hw4 hw5
  go_wp2_with (refine Aw rfl _ _ rfl rfl rfl HM8.out hfw ?_)
  refine(Jg rb 5 ((i:Int)+2) _ w8 HR8.out.bx rfl).mono ?_
  rintro e w9 ⟨⟨v,rfl,hfl⟩,hx⟩
  have HFL:Hid (Yj w w9 lc ((i:Int)+1+1) v):=by
   obtain⟨fb,e1,e2,e3⟩:=hfl
   rw[HL5.out]
   refine⟨fb,e1,?_,by rw[show(i:Int)+1+1=(i:Int)+2 by omega];exact e3⟩
   have h1:=HZ8.out
   have h2:=HX8.out.size
   omega
  have HCH:Hid (Chg (λx=>x=rb) w w9):=(Chg.nx HX6.out).trans (HR8.out.nx.trans (Chg.nx hx))
  clear hfl hx
  go_wp2
  go_ret
  refine Or.inl ⟨i+1,HBI.out (by rw[HL5.out];decide),v,rfl,?_,HCH.out⟩
  have h:=HFL.out
  rw[show(((i+1:Nat):Int)+1)=(i:Int)+1+1 by omega]
  rw[HLE.out]
  exact h
 have ei:i=n:=by omega
 subst ei
 go_wp2
 go_ret
 refine Or.inr ⟨Y5 (λj hj=>HNB.out j (by rw[HNL.out] at hj;exact hj)),rfl,w6_,ps,line,HX6.out,HR.out,by rw[HNL.out];exact HPS.out.2.1,HPS.out.2.2⟩
end Go.Proofs.YtmmolhlihhdkcaaGreatDoor
namespace Go.Proofs.YtmmolhlihhdkcaaGreatDoor
open Go.RowKit Go.Sort Go.Shelf
set_option linter.unusedVariables false
set_option maxRecDepth 1000000
set_option maxHeartbeats 16000000
theorem eq_nm (x y:Nm)(w:World):(Op.equal 132 (.agg (Xn x).toArray) (.agg (Xn y).toArray)).run Tryz.prog w=.ok (x.1==y.1&&(x.2.1==y.2.1&&x.2.2==y.2.2)) w:=by
 have hf:(Tryz.prog.fieldsOf 132).toList.map (λf=>(f.type,f.offset,f.name == "_"))=[(2,0,false),(2,1,false),(2,2,false)]:=by kernel_rfl
 have hu:Tryz.prog.underlying 132=some (.struct (Tryz.prog.fieldsOf 132)):=by kernel_rfl
 have hp:Tryz.prog.stoodInHeld 132=false:=by kernel_rfl
 show(Op.equalIn (9999+1) _ _ _).run Tryz.prog w=_
 rw[run_equalIn_struct w 9999 _ _ _ hu hp]
 generalize hfs:(Tryz.prog.fieldsOf 132).toList=fs at hf
 obtain⟨f1,r1,rfl,e1,hr1⟩:=List.map_eq_cons_iff.1 hf
 obtain⟨f2,r2,rfl,e2,hr2⟩:=List.map_eq_cons_iff.1 hr1
 obtain⟨f3,r3,rfl,e3,hr3⟩:=List.map_eq_cons_iff.1 hr2
 have hr4:r3=[]:=List.map_eq_nil_iff.1 hr3
 subst hr4
 simp only[Prod.mk.injEq] at e1 e2 e3
 have key:∀(a b:Int),(Op.equalIn 9999 2 (.int .i64 a) (.int .i64 b)).run Tryz.prog w=.ok (a==b) w:=λa b=>run_equalIn_int w 9998 2 .i64 .i64 a b Tryz.underlying2
 have hpt:∀(cs:Array Value) (o:Nat) (v:Value),cs[o]?=some v->(part 2 cs o).run Tryz.prog w=.ok v w:=λcs o v h=>by
  simp[go_sem,part,h]
 have hx:=λ(o:Nat) (v:Value) (h:(Xn x)[o]?=some v)=>hpt (Xn x).toArray o v (by simpa using h)
 have hy:=λ(o:Nat) (v:Value) (h:(Xn y)[o]?=some v)=>hpt (Xn y).toArray o v (by simpa using h)
 have n1:¬f1.name = "_" := by simpa using e1.2.2
 have n2:¬f2.name = "_" := by simpa using e2.2.2
 have n3:¬f3.name = "_" := by simpa using e3.2.2
 simp[Op.eqFields,e1.1,e1.2.1,e2.1,e2.2.1,e3.1,e3.2.1,n1,n2,n3,hx 0 _ rfl,hx 1 _ rfl,hx 2 _ rfl,hy 0 _ rfl,hy 1 _ rfl,hy 2 _ rfl,key]
 by_cases h1:x.1=y.1<;>by_cases h2:x.2.1=y.2.1<;>by_cases h3:x.2.2=y.2.2<;>simp[h1,h2,h3]
theorem Qej (x y:Nm):(x.1==y.1&&(x.2.1==y.2.1&&x.2.2==y.2.2))=decide (x=y):=by
 obtain⟨a,b,c⟩:=x
 obtain⟨a',b',c'⟩:=y
 rw[Bool.eq_iff_iff]
 simp[Prod.mk.injEq]
theorem Q2s (b:Bool)(x:Nm)(w:World):(Instr.checkKey b 10000 132 (.agg (Xn x).toArray)).run Tryz.prog w=.ok () w:=by
 have hf:(Tryz.prog.fieldsOf 132).toList.map (λf=>(f.type,f.offset,f.name == "_"))=[(2,0,false),(2,1,false),(2,2,false)]:=by kernel_rfl
 have hu:Tryz.prog.underlying 132=some (.struct (Tryz.prog.fieldsOf 132)):=by kernel_rfl
 show(Instr.checkKey b (9999+1) _ _).run Tryz.prog w=_
 rw[Instr.checkKey]
 simp only[Sem.run_bind,run_underlying hu,Result.andThen_ok]
 rw[<-Array.forIn_toList]
 generalize hfs:(Tryz.prog.fieldsOf 132).toList=fs at hf
 obtain⟨f1,r1,rfl,e1,hr1⟩:=List.map_eq_cons_iff.1 hf
 obtain⟨f2,r2,rfl,e2,hr2⟩:=List.map_eq_cons_iff.1 hr1
 obtain⟨f3,r3,rfl,e3,hr3⟩:=List.map_eq_cons_iff.1 hr2
 have hr4:r3=[]:=List.map_eq_nil_iff.1 hr3
 subst hr4
 simp only[Prod.mk.injEq] at e1 e2 e3
 have hck:∀z:Int,(Instr.checkKey b 9999 2 (.int .i64 z)).run Tryz.prog w=.ok () w:=λz=>by
  show(Instr.checkKey b (9998+1) _ _).run Tryz.prog w=_
  rw[Instr.checkKey]
  simp[run_underlying Tryz.underlying2]
 have hpt:∀(cs:Array Value) (o:Nat) (v:Value),cs[o]?=some v->(part 2 cs o).run Tryz.prog w=.ok v w:=λcs o v h=>by
  simp[go_sem,part,h]
 have hx:=λ(o:Nat) (v:Value) (h:(Xn x)[o]?=some v)=>hpt (Xn x).toArray o v (by simpa using h)
 have n1:¬f1.name = "_" := by simpa using e1.2.2
 have n2:¬f2.name = "_" := by simpa using e2.2.2
 have n3:¬f3.name = "_" := by simpa using e3.2.2
 simp[e1.1,e1.2.1,e2.1,e2.2.1,e3.1,e3.2.1,n1,n2,n3,hx 0 _ rfl,hx 1 _ rfl,hx 2 _ rfl,hck]
def KM (w:World)(mb:Nat)(l:List (Nm×Int)):Prop:=∃(es:Array MapEntry) (clock:Nat),w.heap[mb]?=some (.map es clock)/\es.toList.map (λe=>(e.key,e.val))=l.map (λx=>(Value.agg (Xn x.1).toArray,Value.int .i64 x.2))
theorem KM.next {w w':World}{mb:Nat}{l:List (Nm×Int)}(h:KM w mb l)(k:Nx w w'):KM w' mb l:=by
 obtain⟨es,cl,hb,he⟩:=h
 exact⟨es,cl,(k.block mb (Array.getElem?_eq_some_iff.1 hb).1).trans hb,he⟩
def We (l:List (Nm×Int))(x:Nm):Bool:=l.any λp=>decide (p.1=x)
theorem Qap (x:Nm)(w:World):∀(l:List (Nm×Int)) (es:List MapEntry) (i:Nat),es.map (λe=>(e.key,e.val))=l.map (λx=>(Value.agg (Xn x.1).toArray,Value.int .i64 x.2)) ->
  ∃r,(Instr.findAsking 132 (.agg (Xn x).toArray) es i).run Tryz.prog w=.ok r w/\((We l x=false/\r=none)\/(We l x=true/\∃j z,r=some (j,.int .i64 z)))
 |[],es,i,h=>by
  have e:es=[]:=List.map_eq_nil_iff.1 h
  subst e
  exact⟨none,by simp[Instr.findAsking],Or.inl ⟨rfl,rfl⟩⟩
 |p::l,es,i,h=>by
  obtain⟨e,es',rfl,h1,h2⟩:=List.map_eq_cons_iff.1 h
  simp only[Prod.mk.injEq] at h1
  have hq:=eq_nm x p.1 w
  rw[Qej] at hq
  by_cases hx:x=p.1
  ·refine⟨some (i,e.val),?_,Or.inr ⟨by simp[We,hx],i,p.2,by rw[h1.2]⟩⟩
   rw[decide_eq_true hx] at hq
   simp[Instr.findAsking,h1.1,hq]
  ·obtain⟨r,hr,hc⟩:=Qap x w l es' (i+1) h2
   refine⟨r,?_,?_⟩
   ·rw[decide_eq_false hx] at hq
    simp[Instr.findAsking,h1.1,hq,hr]
   ·have hh:We (p::l) x=We l x:=by
     have:¬p.1=x:=λe=>hx e.symm
     simp[We,this]
    rw[hh];exact hc
theorem Q5x (x:Nm)(w:World)(l:List (Nm×Int))(es:List MapEntry)(h:es.map (λe=>(e.key,e.val))=l.map (λx=>(Value.agg (Xn x.1).toArray,Value.int .i64 x.2))) :
  ∃r,(Instr.findKey 132 (.agg (Xn x).toArray) es).run Tryz.prog w=.ok r w/\((We l x=false/\r=none)\/(We l x=true/\∃j z,r=some (j,.int .i64 z))):=by
 have hu:Tryz.prog.underlying 132=some (.struct (Tryz.prog.fieldsOf 132)):=by kernel_rfl
 obtain⟨r,hr,hc⟩:=Qap x w l es 0 h
 refine⟨r,?_,hc⟩
 cases es with
 |nil=>
  cases l with
  |cons p l=>cases h
  |nil=>
   have e:r=none:=by
    rcases hc with⟨-,e⟩|⟨e,-⟩
    ·exact e
    ·cases e
   subst e
   simp[Instr.findKey,run_underlying hu,Instr.findNow]
 |cons e es=>
  cases l with
  |nil=>cases h
  |cons p l=>
   simp only[List.map_cons,List.cons.injEq,Prod.mk.injEq] at h
   simp[Instr.findKey,run_underlying hu,Instr.findNow,h.1.1,Instr.sameNow]
   rw[h.1.1] at *
   exact hr
theorem Z8 {ops:Array Oper}{rest:List Oper}{o:Oper}{a:Act}{Q:Exit->Act->World->Prop}{w:World}(hgd:o.guard=none)(m k:Operand)(ho:o.op=.lookup 130 m k true){mb:Nat}(hm:a.eval m=.map (some mb)){x:Nm}(hk:a.eval k=.agg #[.int .i64 x.1,.int .i64 x.2.1,.int .i64 x.2.2]){l:List (Nm×Int)}(hb:KM w mb l)
  (h:∀z,wpList Tryz.prog ops Q rest (a.put o.dst (.tuple #[.int .i64 z,.bool (We l x)])) w):wpList Tryz.prog ops Q (o::rest) a w:=by
 refine wpList_plain hgd λK hK=>?_
 obtain⟨es,cl,hb,he⟩:=hb
 obtain⟨r,hr,hc⟩:=Q5x x w l es.toList he
 have hz:(zeroValue 2).run Tryz.prog w=.ok (.int .i64 0) w:=by
  obtain⟨i,h1,h2,-⟩:=info_parts Zt
  simp[zeroValue,typeInfo,h1,h2]
 have hr2:=A2 Tryz.underlying130 hb (λb=>Q2s b x w) hr hz
 have hk':a.eval k=.agg (Xn x).toArray:=hk
 unfold Oper.wp execOp
 simp[ho,hm,hk',hr2]
 rcases hc with⟨h1,rfl⟩|⟨h1,j,z,rfl⟩
 ·have hh:=h 0
  rw[h1] at hh
  exact hK _ _ hh
 ·have hh:=h z
  rw[h1] at hh
  exact hK _ _ hh
theorem Q10 {ops:Array Oper}{rest:List Oper}{o:Oper}{a:Act}{Q:Exit->Act->World->Prop}{w:World}(hgd:o.guard=none)(m k v:Operand)(ho:o.op=.mapUpdate 130 m k v){mb:Nat}(hm:a.eval m=.map (some mb)){x:Nm}(hk:a.eval k=.agg #[.int .i64 x.1,.int .i64 x.2.1,.int .i64 x.2.2]){z:Int}(hv:a.eval v=.int .i64 z){l:List (Nm×Int)}(hb:KM w mb l)(hno:We l x=false)
  (h:∀w',KM w' mb (l++[(x,z)])->Chg (λx=>x=mb) w w'->wpList Tryz.prog ops Q rest (a.put o.dst undef) w'):wpList Tryz.prog ops Q (o::rest) a w:=by
 refine wpList_plain hgd λK hK=>?_
 obtain⟨es,cl,hb,he⟩:=hb
 obtain⟨r,hr,hc⟩:=Q5x x w l es.toList he
 rcases hc with⟨-,rfl⟩|⟨h1,-⟩
 ·have hr2:=Q1e (v:=.int .i64 z) Tryz.underlying130 hb (Q2s false x w) hr
  have hk':a.eval k=.agg (Xn x).toArray:=hk
  unfold Oper.wp execOp
  simp[ho,hm,hk',hv,hr2]
  refine hK _ _ (h _ ⟨_,_,Q5a hb,?_⟩ (Q1l _ _ _))
  simp[he]
 ·rw[hno] at h1;cases h1
def ntO (ps:List Px):Nt:=⟨ndO ps,(wyO ps).map (·.1),(rlO ps).map (·.1),tnO ps,utO ps⟩
theorem Qdc {l:List Wv}{i:Nat}(h:i<l.length):wat (l.map (·.1)) i=(l[i]).1:=by simp[wat,List.getD_eq_getElem?_getD,h]
theorem Qe2 {l:List Rv}{i:Nat}(h:i<l.length):rat (l.map (·.1)) i=(l[i]).1:=by simp[rat,List.getD_eq_getElem?_getD,h]
theorem Ae {C:Nat}{w:World}{v:Value}{l:List Wv}(h:w.ownsRow C 45 4 v l.length (l.flatMap wvL))(hr:∀x∈l,Qb C w x.2.1 x.1.nodes/\Qb C w x.2.2 x.1.weights):Vh C w v (l.map (·.1)):=by
 obtain⟨a,c,rfl⟩:=Q3 h
 by_cases hp:0<l.length
 ·have hm:l.length<=maxLen:=by
   obtain⟨b,c',e,-,hm,-⟩:=Jc h rfl (by decide) (λ_=>rfl) (i:=0) (x:=l[0]) (by simp[hp])
   exact hm
  refine⟨a,c,by rw[List.length_map],by rw[List.length_map];exact hm,λ_=>?_⟩
  obtain⟨b,c',e,-,-,hC,hb,-⟩:=Jc h rfl (by decide) (λ_=>rfl) (i:=0) (x:=l[0]) (by simp[hp])
  simp only[Value.slice.injEq] at e
  refine⟨b,0,e.1,hC,hb,λi hi=>?_⟩
  rw[List.length_map] at hi
  obtain⟨b',c2,e',-,-,-,-,hc⟩:=Jc h rfl (by decide) (λ_=>rfl) (i:=i) (x:=l[i]) (by simp[hi])
  simp only[Value.slice.injEq] at e'
  have eb:b=b':=by have:some (⟨b,0,none⟩:Addr)=some ⟨b',0,none⟩:=by rw[<-e.1,<-e'.1]
                   simpa using this
  subst eb
  obtain⟨h1,h2⟩:=hr l[i] (List.getElem_mem hi)
  rw[Qdc hi,Nat.zero_add]
  exact⟨l[i].2.1,l[i].2.2,hc 0 (by decide),hc 1 (by decide),hc 2 (by decide),hc 3 (by decide),h1.held,h2.held⟩
 ·exact⟨a,c,by rw[List.length_map],by rw[List.length_map];unfold maxLen;omega,λk=>by rw[List.length_map] at k;exact absurd k hp⟩
theorem Af {C:Nat}{w:World}{v:Value}{l:List Rv}(h:w.ownsRow C 48 7 v l.length (l.flatMap rvL))(hr:∀x∈l,Qb C w x.2 x.1.ways):Zx C w v (l.map (·.1)):=by
 obtain⟨a,c,rfl⟩:=Q3 h
 by_cases hp:0<l.length
 ·have hm:l.length<=maxLen:=by
   obtain⟨b,c',e,-,hm,-⟩:=Jc h rfl (by decide) (λ_=>rfl) (i:=0) (x:=l[0]) (by simp[hp])
   exact hm
  refine⟨a,c,by rw[List.length_map],by rw[List.length_map];exact hm,λ_=>?_⟩
  obtain⟨b,c',e,-,-,hC,hb,-⟩:=Jc h rfl (by decide) (λ_=>rfl) (i:=0) (x:=l[0]) (by simp[hp])
  simp only[Value.slice.injEq] at e
  refine⟨b,0,e.1,hC,hb,λi hi=>?_⟩
  rw[List.length_map] at hi
  obtain⟨b',c2,e',-,-,-,-,hc⟩:=Jc h rfl (by decide) (λ_=>rfl) (i:=i) (x:=l[i]) (by simp[hi])
  simp only[Value.slice.injEq] at e'
  have eb:b=b':=by have:some (⟨b,0,none⟩:Addr)=some ⟨b',0,none⟩:=by rw[<-e.1,<-e'.1]
                   simpa using this
  subst eb
  have h1:=hr l[i] (List.getElem_mem hi)
  rw[Qe2 hi,Nat.zero_add]
  exact⟨l[i].2,hc 0 (by decide),hc 1 (by decide),hc 2 (by decide),hc 3 (by decide),hc 4 (by decide),hc 5 (by decide),hc 6 (by decide),h1.held⟩
 ·exact⟨a,c,by rw[List.length_map],by rw[List.length_map];unfold maxLen;omega,λk=>by rw[List.length_map] at k;exact absurd k hp⟩
theorem Fn {C:Nat}{w:World}{v:Value}{l:List Tn}(h:w.ownsRow C 51 3 v l.length (l.flatMap Je)):Vn C w v l:=by
 obtain⟨a,c,rfl⟩:=Q3 h
 by_cases hp:0<l.length
 ·have hm:l.length<=maxLen:=by
   obtain⟨b,c',e,-,hm,-⟩:=Jc h rfl (by decide) (λ_=>rfl) (i:=0) (x:=l[0]) (by simp[hp])
   exact hm
  refine⟨a,c,rfl,hm,λ_=>?_⟩
  obtain⟨b,c',e,-,-,hC,hb,-⟩:=Jc h rfl (by decide) (λ_=>rfl) (i:=0) (x:=l[0]) (by simp[hp])
  simp only[Value.slice.injEq] at e
  refine⟨b,0,e.1,hC,hb,λi hi=>?_⟩
  obtain⟨b',c2,e',-,-,-,-,hc⟩:=Jc h rfl (by decide) (λ_=>rfl) (i:=i) (x:=l[i]) (by simp[hi])
  simp only[Value.slice.injEq] at e'
  have eb:b=b':=by have:some (⟨b,0,none⟩:Addr)=some ⟨b',0,none⟩:=by rw[<-e.1,<-e'.1]
                   simpa using this
  subst eb
  have et:tat l i=l[i]:=by simp[tat,List.getD_eq_getElem?_getD,hi]
  rw[et,Nat.zero_add]
  exact⟨hc 0 (by decide),hc 1 (by decide),hc 2 (by decide)⟩
 ·exact⟨a,c,rfl,by unfold maxLen;omega,λk=>absurd k hp⟩
theorem Ev {ps:List Px}{x:Wv}(h:x∈wyO ps):(x.2.1,x.1.nodes)∈irO ps/\(x.2.2,x.1.weights)∈irO ps:=by
 obtain⟨p,hp,hx⟩:=List.mem_flatMap.1 h
 unfold wyP at hx
 split at hx
 ·rename_i hk
  have e:x=(p.d.way,p.vn,p.vw):=by simpa using hx
  subst e
  refine⟨List.mem_flatMap.2 ⟨p,hp,?_⟩,List.mem_flatMap.2 ⟨p,hp,?_⟩⟩<;>simp[irP,hk]
 ·cases hx
theorem Q8p {ps:List Px}{x:Rv}(h:x∈rlO ps):(x.2,x.1.ways)∈irO ps:=by
 obtain⟨p,hp,hx⟩:=List.mem_flatMap.1 h
 unfold rlP at hx
 split at hx
 ·rename_i hk
  have e:x=(p.d.rel,p.vr):=by simpa using hx
  subst e
  refine List.mem_flatMap.2 ⟨p,hp,?_⟩
  simp[irP,hk]
 ·cases hx
theorem RM.hnet {w0 w:World}{rb:Nat}{vN vW vR vT vL:Value}{u line:Int}{ls:List Lv}{ps:List Px}(h:RM w0 w rb vN vW vR vT u line vL (ndO ps) (wyO ps) (rlO ps) (tnO ps) ls (irO ps)):Yf w0.heap.size w vN vW vR vT (ntO ps):=
 ⟨h.n.held,Ae h.wy (λx hx=>⟨h.ri _ (Ev hx).1,h.ri _ (Ev hx).2⟩),Af h.rl (λx hx=>h.ri _ (Q8p hx)),Fn h.tn⟩
def dsP (ps:List Px):List De:=ps.map (·.d)
theorem Q2h (ps:List Px)(p:Px):dsP (ps++[p])=dsP ps++[p.d]:=by simp[dsP]
theorem Q2l (ds:List De)(d:De){i:Nat}(h:i<ds.length):dat (ds++[d]) i=dat ds i:=by simp[dat,List.getD_eq_getElem?_getD,List.getElem?_append_left h]
theorem Qae (ds:List De)(d:De):dat (ds++[d]) ds.length=d:=by simp[dat,List.getD_eq_getElem?_getD]
theorem Fy (ds:List De)(d:De)(kind:Int):∀k,k<=ds.length->Xh (ds++[d]) kind k=Xh ds kind k
 |0,_=>rfl
 |k+1,h=>by
  unfold Xh
  rw[Q2l ds d (by omega),Fy ds d kind k (by omega)]
theorem Ak (ds:List De)(d:De):∀k,k<=ds.length->Ie (ds++[d]) k=Ie ds k
 |0,_=>rfl
 |k+1,h=>by
  unfold Ie
  rw[Q2l ds d (by omega),Ak ds d k (by omega)]
theorem Q2e {xs:List Wy}{x:Wy}:∀k,k<=xs.length->edTo (xs++[x]) k=edTo xs k
 |0,_=>rfl
 |k+1,h=>by
  unfold edTo
  have e:wat (xs++[x]) k=wat xs k:=by simp[wat,List.getD_eq_getElem?_getD,List.getElem?_append_left (show k<xs.length by omega)]
  rw[e,Q2e k (by omega)]
def Qaw (ps:List Px):Prop:=∀p∈ps,p.d.kind≠2->p.d.way.weights=[]
theorem Gd {P:List Px->Prop}(h0:P [])(hs:∀ps p,P ps->P (ps++[p])):∀ps,P ps:=λps=>by
 have h:∀n,∀ps:List Px,ps.length=n->P ps:=λn=>by
  induction n with
  |zero=>intro ps h;rw[List.length_eq_zero_iff.1 h];exact h0
  |succ n ih=>
   intro ps h
   have hne:ps≠[]:=λe=>by rw[e] at h;cases h
   rw[<-List.dropLast_concat_getLast hne]
   exact hs _ _ (ih _ (by rw[List.length_dropLast];omega))
 exact h _ ps rfl
theorem Q7n (ps:List Px):Qaw ps->(ndO ps).length=Xh (dsP ps) 1 ps.length/\(wyO ps).length=Xh (dsP ps) 2 ps.length/\(rlO ps).length=Xh (dsP ps) 3 ps.length/\(tnO ps).length=Xh (dsP ps) 4 ps.length/\edTo ((wyO ps).map (·.1)) (wyO ps).length=Ie (dsP ps) ps.length:=by
 refine Gd (P:=λps=>Qaw ps->(ndO ps).length=Xh (dsP ps) 1 ps.length/\(wyO ps).length=Xh (dsP ps) 2 ps.length/\(rlO ps).length=Xh (dsP ps) 3 ps.length/\(tnO ps).length=Xh (dsP ps) 4 ps.length/\edTo ((wyO ps).map (·.1)) (wyO ps).length=Ie (dsP ps) ps.length) (λ_=>⟨rfl,rfl,rfl,rfl,rfl⟩) (λps p ih hw=>?_) ps
 obtain⟨i1,i2,i3,i4,i5⟩:=ih (λq hq=>hw q (List.mem_append.2 (Or.inl hq)))
 have hl:(dsP ps).length=ps.length:=by simp[dsP]
 have hd:dat (dsP ps++[p.d]) ps.length=p.d:=by rw[<-hl];exact Qae _ _
 have hc:∀kind,Xh (dsP (ps++[p])) kind (ps++[p]).length=if p.d.kind=kind then Xh (dsP ps) kind ps.length+1 else Xh (dsP ps) kind ps.length:=λkind=>by
  rw[Q2h,List.length_append,List.length_singleton]
  show(if (dat (dsP ps++[p.d]) ps.length).kind=kind then _ else _)=_
  rw[hd,Fy _ _ _ _ (by omega)]
 have he:Ie (dsP (ps++[p])) (ps++[p]).length=Ie (dsP ps) ps.length+Q37 p.d.way:=by
  rw[Q2h,List.length_append,List.length_singleton]
  show Ie _ ps.length+Q37 (dat (dsP ps++[p.d]) ps.length).way=_
  rw[hd,Ak _ _ _ (by omega)]
 rw[hc,hc,hc,hc,he,Ug,Zd,Uc,U9]
 refine⟨?_,?_,?_,?_,?_⟩
 ·unfold ndP;split<;>simp[i1]
 ·unfold wyP;split<;>simp[i2]
 ·unfold rlP;split<;>simp[i3]
 ·unfold tnP;split<;>simp[i4]
 ·unfold wyP
  split
  ·rename_i hk
   rw[List.map_append,List.length_append,List.map_singleton,List.length_singleton]
   show edTo _ (wyO ps).length+Tz (wat ((wyO ps).map (·.1)++[p.d.way]) (wyO ps).length)=_
   have e1:wat ((wyO ps).map (·.1)++[p.d.way]) (wyO ps).length=p.d.way:=by
    have:(wyO ps).length=((wyO ps).map (·.1)).length:=by simp
    rw[this]
    simp[wat,List.getD_eq_getElem?_getD]
   rw[e1,Q2e _ (by simp),i5]
   rfl
  ·rename_i hk
   have hz:=hw p (List.mem_append.2 (Or.inr (List.mem_singleton.2 rfl))) hk
   have hz2:Q37 p.d.way=0:=by unfold Q37;rw[hz];split<;>rfl
   rw[List.append_nil,i5,hz2];rfl
theorem Q2n {ps:List Px}(h:Qaw ps):Xg (ntO ps)=!K7 (dsP ps):=by
 obtain⟨h1,h2,h3,h4,h5⟩:=Q7n ps h
 have hl:(dsP ps).length=ps.length:=by simp[dsP]
 unfold Xg K7 ntO
 dsimp only
 rw[List.length_map,List.length_map,h5,h1,h2,h3,h4,hl]
 simp[Bool.not_or,<-decide_not,Nat.not_lt]
def nml (ps:List Px)(k:Nat):List (Nm×Int):=(ps.take k).map λp=>(Y4 p.d,p.no)
theorem Qbm (d:De)(kind a b:Int):decide (Y4 d=(kind-1,a,b))=pk kind a b d:=by
 rw[Bool.eq_iff_iff]
 simp[Y4,pk]
theorem Q28 (ps:List Px)(k:Nat)(kind a b:Int):We (nml ps k) (kind-1,a,b)=(ps.take k).any (λp=>pk kind a b p.d):=by
 unfold We nml
 rw[List.any_map]
 congr 1
 funext p
 exact Qbm p.d kind a b
theorem Qa0 {p:De->Bool}{ds:List De}:Tr p ds<0↔∀d∈ds,p d=false:=by
 unfold Tr
 cases h:ds.findIdx? p with
 |none=>
  refine⟨λ_ d hd=>?_,λ_=>by decide⟩
  have:=(List.findIdx?_eq_none_iff.1 h) d hd
  simpa using this
 |some i=>
  refine⟨λk=>absurd k (by show ¬((i:Int)<0);omega),λk=>?_⟩
  obtain⟨hi,hp,-⟩:=List.findIdx?_eq_some_iff_getElem.1 h
  rw[k _ (List.getElem_mem hi)] at hp
  cases hp
theorem F4 {ps:List Px}{i:Nat}(h:i<ps.length):pat ps i=ps[i]:=by simp[pat,List.getD_eq_getElem?_getD,h]
theorem Q62 {ps:List Px}{i:Nat}(h:i<ps.length):dat (dsP ps) i=(pat ps i).d:=by
 rw[F4 h]
 simp[dat,dsP,List.getD_eq_getElem?_getD,h]
theorem Q5q (ps:List Px)(kind a b:Int):We (nml ps ps.length) (kind-1,a,b)=!decide (Tr (pk kind a b) (dsP ps)<0):=by
 rw[Q28,List.take_length,Bool.eq_iff_iff]
 rw[List.any_eq_true]
 simp only[Bool.not_eq_true',decide_eq_false_iff_not,Qa0,Classical.not_forall]
 constructor
 ·rintro⟨p,hp,h⟩
  exact⟨p.d,List.mem_map.2 ⟨p,hp,rfl⟩,by rw[h];decide⟩
 ·rintro⟨d,hd,h⟩
  obtain⟨p,hp,rfl⟩:=List.mem_map.1 hd
  exact⟨p,hp,by simpa using h⟩
theorem Qbk {ps:List Px}{i:Nat}(h:i<ps.length):We (nml ps i) (Y4 (pat ps i).d)=Pz (dsP ps) i:=by
 have e:Y4 (pat ps i).d=((pat ps i).d.kind-1,(pat ps i).d.a,(pat ps i).d.b):=rfl
 rw[e,Q28]
 unfold Pz
 rw[Q62 h]
 have hpi:pk (pat ps i).d.kind (pat ps i).d.a (pat ps i).d.b (pat ps i).d=true:=by simp[pk]
 generalize pk (pat ps i).d.kind (pat ps i).d.a (pat ps i).d.b=p at *
 rw[Bool.eq_iff_iff,List.any_eq_true]
 simp only[decide_eq_true_eq]
 have hl:(dsP ps).length=ps.length:=by simp[dsP]
 constructor
 ·rintro⟨q,hq,hp⟩
  obtain⟨j,hj,rfl⟩:=List.mem_iff_getElem.1 hq
  rw[List.length_take] at hj
  unfold Tr
  cases hf:(dsP ps).findIdx? p with
  |none=>show(-1:Int)<i;omega
  |some m=>
   show(m:Int)<i
   obtain⟨hm,-,hb⟩:=List.findIdx?_eq_some_iff_getElem.1 hf
   have:¬j<m:=λhjm=>by
    have:=hb j hjm
    rw[List.getElem_take] at hp
    simp[dsP,hp] at this
   omega
 ·intro hlt
  unfold Tr at hlt
  cases hf:(dsP ps).findIdx? p with
  |none=>
   have:=(List.findIdx?_eq_none_iff.1 hf) (pat ps i).d (List.mem_map.2 ⟨ps[i],List.getElem_mem h,by rw[F4 h]⟩)
   rw[hpi] at this
   cases this
  |some m=>
   rw[hf] at hlt
   have hlt':(m:Int)<i:=hlt
   obtain⟨hm,hpm,-⟩:=List.findIdx?_eq_some_iff_getElem.1 hf
   refine⟨ps[m]'(by omega),?_,by simpa [dsP] using hpm⟩
   rw[List.mem_iff_getElem]
   exact⟨m,by rw[List.length_take];omega,by rw[List.getElem_take]⟩
theorem Q9i {ps:List Px}{i:Nat}(h:i<ps.length):nml ps (i+1)=nml ps i++[(Y4 (pat ps i).d,(pat ps i).no)]:=by
 unfold nml
 rw[List.take_succ_eq_append_getElem h,List.map_append,F4 h]
 rfl
def Er (ps:List Px)(x:Nm):Bool:=!We (nml ps ps.length) x
theorem Qaf {ps:List Px}{i:Nat}(h:i<ps.length):Q0u (dsP ps) i=(Yy (pat ps i).d).any (Er ps):=by
 unfold Q0u Qah Yy
 rw[Q62 h,List.any_append,List.any_map,List.any_map,Bool.or_comm]
 have e1:(Er ps ∘ λx=>((1,x,0):Nm))=λx=>decide (Tr (pk 2 x 0) (dsP ps)<0):=by
  funext x
  show Er ps (1,x,0)=_
  have:=Q5q ps 2 x 0
  unfold Er
  rw[show((1,x,0):Nm)=((2:Int)-1,x,0) from rfl,this]
  simp
 have e2:(Er ps ∘ λx=>((0,x,0):Nm))=λx=>decide (Tr (pk 1 x 0) (dsP ps)<0):=by
  funext x
  show Er ps (0,x,0)=_
  have:=Q5q ps 1 x 0
  unfold Er
  rw[show((0,x,0):Nm)=((1:Int)-1,x,0) from rfl,this]
  simp
 rw[e1,e2]
def Pg (l:List Nm)(i:Nat):Nm:=l.getD i (0,0,0)
theorem Qer {l:List Nm}{p:Nm->Bool}{i:Nat}(h:i<l.length)(hp:p (Pg l i)=true):l.any p=true:=by
 rw[List.any_eq_true]
 exact⟨l[i],List.getElem_mem h,by simpa [Pg,List.getD_eq_getElem?_getD,h] using hp⟩
theorem Qat {l:List Nm}{p:Nm->Bool}(h:∀i,i<l.length->p (Pg l i)=false):l.any p=false:=by
 rw[List.any_eq_false]
 intro x hx
 obtain⟨i,hi,rfl⟩:=List.mem_iff_getElem.1 hx
 have:=h i hi
 simpa [Pg,List.getD_eq_getElem?_getD,hi] using this
theorem Y9.at {C:Nat}{w:World}{v:Value}{l:List Nm}(h:Y9 C w v l){i:Nat}(hi:i<l.length):∃g c,v=.slice (some ⟨g,0,none⟩) l.length c/\w.cell? ⟨g,i*3,none⟩=some (.int .i64 (Pg l i).1)/\w.cell? ⟨g,i*3+1,none⟩=some (.int .i64 (Pg l i).2.1)/\w.cell? ⟨g,i*3+2,none⟩=some (.int .i64 (Pg l i).2.2):=by
 obtain⟨g,c,e,-,-,-,-,hc⟩:=Jc (f:=Xn) h rfl (by decide) (λ_=>rfl) (i:=i) (x:=l[i]) (by simp[hi])
 have en:Pg l i=l[i]:=by simp[Pg,List.getD_eq_getElem?_getD,hi]
 rw[en]
 exact⟨g,c,e,hc 0 (by decide),hc 1 (by decide),hc 2 (by decide)⟩
theorem ln_at {C:Nat}{w:World}{v:Value}{ps:List Px}(h:w.ownsRow C 135 5 v (lnO ps).length ((lnO ps).flatMap lvL)){i:Nat}(hi:i<ps.length):∃g c,v=.slice (some ⟨g,0,none⟩) ps.length c/\w.cell? ⟨g,i*5,none⟩=some (.int .i64 (pat ps i).no)/\w.cell? ⟨g,i*5+1,none⟩=some (.int .i64 (Y4 (pat ps i).d).1)/\w.cell? ⟨g,i*5+2,none⟩=some (.int .i64 (Y4 (pat ps i).d).2.1)/\w.cell? ⟨g,i*5+3,none⟩=some (.int .i64 (Y4 (pat ps i).d).2.2)/\w.cell? ⟨g,i*5+4,none⟩=some (pat ps i).un:=by
 obtain⟨g,c,e,-,-,-,-,hc⟩:=Jc (f:=lvL) h rfl (by decide) (λ_=>rfl) (i:=i) (x:=lnP ps[i]) (by simp[lnO,hi])
 rw[Ux] at e
 rw[F4 hi]
 exact⟨g,c,e,hc 0 (by decide),hc 1 (by decide),hc 2 (by decide),hc 3 (by decide),hc 4 (by decide)⟩
end Go.Proofs.YtmmolhlihhdkcaaGreatDoor
namespace Go.Proofs.YtmmolhlihhdkcaaGreatDoor
open Go.RowKit Go.Sort
set_option linter.unusedVariables false
set_option maxRecDepth 1000000
set_option maxHeartbeats 16000000
def ChkR (w w':World)(ds:List De)(e:Ending):Prop:=(Wk ds=.ok ds/\e=.returned .nilIface)\/∃c l,Wk ds=.error (c,l)/\∃v,e=.returned v/\Yj w w' c l v
theorem Fz (w0:World)(rb:Nat)(line:Int)(ps:List Px)(w:World)(h:RMx w0 w rb line ps)(hps:ps.length<=300000)(hno:G4 ps)(hwn:Qaw ps)(hws:wsum (ntO ps).ways (ntO ps).ways.length<=1048576) :
  Calls Tryz.prog 58 #[.pointer (some ⟨rb,0,none⟩)] w λe w'=>ChkR w w' (dsP ps) e/\Nx w w':=by
 obtain⟨vN,vW,vR,vT,vL,h⟩:=h
 have HR:=Q0 h
 have HNO:=Q0 hno
 have HWN:=Q0 hwn
 have HWS:=Q0 hws
 obtain⟨n,hn⟩:∃q,ps.length=q:=⟨_,rfl⟩
 have HN:Hid (ps.length=n):=hn
 rw[hn] at hps
 obtain⟨aL,cL,eL⟩:=Q3 h.ln
 rw[Ux,hn] at eL
 subst eL
 have HDL:Hid ((dsP ps).length=n):=by unfold Hid dsP;rw[List.length_map,hn]
 clear h hno hwn hws hn
 have HBX:Hid (∀{q:World},Nx w q->q.cell? ⟨rb,6,none⟩=some (.slice aL n cL)):=λk=>(HR.out.bx.next k).blk.cell (i:=6) rfl
 have HLN:Hid (∀{q:World},Nx w q->∀i,i<n->∃g,aL=some ⟨g,0,none⟩/\q.cell? ⟨g,i*5,none⟩=some (.int .i64 (pat ps i).no)/\q.cell? ⟨g,i*5+1,none⟩=some (.int .i64 (Y4 (pat ps i).d).1)/\q.cell? ⟨g,i*5+2,none⟩=some (.int .i64 (Y4 (pat ps i).d).2.1)/\q.cell? ⟨g,i*5+3,none⟩=some (.int .i64 (Y4 (pat ps i).d).2.2)/\q.cell? ⟨g,i*5+4,none⟩=some (pat ps i).un):=λ{q} k i hi=>by
  obtain⟨g,c,e,h1,h2,h3,h4,h5⟩:=ln_at HR.out.ln (i:=i) (by rw[HN.out];exact hi)
  simp only[Value.slice.injEq] at e
  exact⟨g,e.1,Qf k h1,Qf k h2,Qf k h3,Qf k h4,Qf k h5⟩
 have HUS:Hid (∀{q:World},Nx w q->∀i,i<n->Y9 w0.heap.size q (pat ps i).un (Yy (pat ps i).d)):=λ{q} k i hi=>by
  have hi':i<ps.length:=by rw[HN.out];exact hi
  have hm:lnP (pat ps i)∈lnO ps:=List.mem_map.2 ⟨ps[i],List.getElem_mem hi',by rw[F4 hi']⟩
  exact Qp (HR.out.us _ hm) k
 have x6:=HBX.out (Nx.refl w)
 go_enter Tryz.func58,Tryz.ntmps58
 go_wp2_with (refine Q11 rfl _ _ rfl Tryz.underlying130 rfl ?_)
 intro mb wa HMB hm0 hx0
 have HK0:Hid (KM wa mb (nml ps 0)):=⟨#[],0,hm0,rfl⟩
 have HX0:=Q0 hx0
 clear hm0 hx0 x6
 have x6:=HBX.out HX0.out
 go_wp2
 go_loopw [25] (λs25 wr=>∃i:Nat,i<=n/\s25=.int .i64 i/\Hid (KM wr mb (nml ps i))/\Hid (Nx w wr)/\Hid (∀j,j<i->Pz (dsP ps) j=false)) (λs25 _=>n-(intOf s25).toNat)
 case atStart=>exact⟨0,Nat.zero_le _,rfl,HK0,HX0,λj hj=>absurd hj (Nat.not_lt_zero _)⟩
 clear HK0 HX0 x6
 obtain⟨i,hin,rfl,HK,HX,HRP⟩:=hrel
 by_cases hlt:i<n
 ·have hlt':(i:Int)<(n:Int):=by omega
  obtain⟨g,ea,y0,y1,y2,y3,y4⟩:=HLN.out HX.out i hlt
  subst ea
  have HUI:=Q0 (HUS.out HX.out i hlt)
  have HNI:Hid ((pat ps i).no=(i:Int)+2):=HNO.out i (by rw[HN.out];exact hlt)
  obtain⟨au,cu,eu⟩:=Q3 HUI.out
  rw[HNI.out] at y0
  rw[eu] at y4 HUI
  clear eu
  have HHK:=Q0 (Qbk (ps:=ps) (i:=i) (by rw[HN.out];exact hlt))
  have HSC:=Q0 (Q9i (ps:=ps) (i:=i) (by rw[HN.out];exact hlt))
  rw[HNI.out] at HSC
  generalize Y4 (pat ps i).d=sn at *
  generalize (Yy (pat ps i).d).length=lu at *
  have hb:BT (wr.alloc (.cells #[.int .i64 ((i:Int)+2),.int .i64 sn.1,.int .i64 sn.2.1,.int .i64 sn.2.2,.slice au lu cu] 135)) wr.heap.size #[.int .i64 ((i:Int)+2),.int .i64 sn.1,.int .i64 sn.2.1,.int .i64 sn.2.2,.slice au lu cu] 135:=BT.new _ _ _ _ rfl
  have HKb:=Q0 (HK.out.next (Qd wr (.cells #[.int .i64 ((i:Int)+2),.int .i64 sn.1,.int .i64 sn.2.1,.int .i64 sn.2.2,.slice au lu cu] 135)))
  have HXb:Hid (Nx w (wr.alloc (.cells #[.int .i64 ((i:Int)+2),.int .i64 sn.1,.int .i64 sn.2.1,.int .i64 sn.2.2,.slice au lu cu] 135))):=HX.out.trans (Qd _ _)
  have HB:=Q0 hb
  clear hb
  go_upto_region 5 with fail
  generalize wr.alloc (.cells #[.int .i64 ((i:Int)+2),.int .i64 sn.1,.int .i64 sn.2.1,.int .i64 sn.2.2,.slice au lu cu] 135)=wb at *
  generalize wr.heap.size=lb at *
  clear y0 y1 y2 y3 y4 HK HX HUI
  have z0:wb.cell? ⟨lb,0,none⟩=some (.int .i64 ((i:Int)+2)):=HB.out.blk.cell (i:=0) rfl
  have z1:wb.cell? ⟨lb,1,none⟩=some (.int .i64 sn.1):=HB.out.blk.cell (i:=1) rfl
  have z2:wb.cell? ⟨lb,2,none⟩=some (.int .i64 sn.2.1):=HB.out.blk.cell (i:=2) rfl
  have z3:wb.cell? ⟨lb,3,none⟩=some (.int .i64 sn.2.2):=HB.out.blk.cell (i:=3) rfl
  by_cases hh:Pz (dsP ps) i=true
  ·have HPF:Hid (Wk (dsP ps)=.error (9,(i:Int)+2)):=by unfold Hid Wk;rw[T4 (i:=i) (by rw[HDL.out];exact hlt) hh HRP.out]
   rw[hh] at HHK
   go_wp2_with (refine Z8 rfl _ _ rfl rfl (x:=sn) rfl HKb.out ?_)
   intro zz
   rw[HHK.out]
   go_wp2
   go_ret
   exact⟨Or.inr ⟨9,(i:Int)+2,HPF.out,_,rfl,_,rfl,(HXb.out).size,BT.new _ _ _ _ rfl⟩,HXb.out.trans (Qd _ _)⟩
  have hh':Pz (dsP ps) i=false:=by simpa using hh
  rw[hh'] at HHK
  have HRQ:Hid (∀j,j<i+1->Pz (dsP ps) j=false):=λj hj=>by
   by_cases e:j=i
   ·subst e;exact hh'
   ·exact HRP.out j (by omega)
  go_wp2_with (refine Z8 rfl _ _ rfl rfl (x:=sn) rfl HKb.out ?_)
  intro zz
  rw[HHK.out]
  go_wp2_with (refine Q10 rfl _ _ _ rfl rfl (x:=sn) rfl rfl HKb.out HHK.out ?_)
  intro wc hkc hcc
  have HKc:Hid (KM wc mb (nml ps (i+1))):=by unfold Hid;rw[HSC.out];exact hkc
  have HXc:Hid (Nx w wc):=Below.trans HXb.out (hcc.below HXb.out.size (λx hx=>by have e:x=mb:=hx;have:=HMB.out;omega))
  clear hkc hcc HKb HXb z0 z1 z2 z3 HB
  go_wp2
  go_roundw
  case rel=>exact⟨i+1,by omega,by go_num,HKc,HXc,HRQ⟩
  case measure=>simp[intOf];omega
 have ei:i=n:=by omega
 subst ei
 have HP1:Hid (Wk (dsP ps)=match Xf (dsP ps).length (Q0u (dsP ps)) with|some i=>.error (10,(i:Int)+2)|none=>if K7 (dsP ps)=true then .error (11,0) else .ok (dsP ps)):=by
  unfold Hid Wk
  rw[Y5 (λj hj=>HRP.out j (by rw[HDL.out] at hj;exact hj))]
  rfl
 have HKN:Hid (KM wr mb (nml ps ps.length)):=by unfold Hid;rw[HN.out];exact HK.out
 have x6:=HBX.out HX.out
 clear HRP HK hlt hin
 obtain⟨w9,hw9⟩:∃q,q=wr:=⟨_,rfl⟩
 subst hw9
 obtain⟨n,hn⟩:∃q,q=i:=⟨_,rfl⟩
 subst hn
 have HX9:=HX
 clear HX
 go_wp2
 clear x6
 go_loopw [53] (λs53 wr=>∃i:Nat,i<=n/\s53=.int .i64 i/\Hid (Nx w9 wr)/\Hid (∀j,j<i->Q0u (dsP ps) j=false)) (λs53 _=>n-(intOf s53).toNat)
 case atStart=>exact⟨0,Nat.zero_le _,rfl,Nx.refl _,λj hj=>absurd hj (Nat.not_lt_zero _)⟩
 obtain⟨i,hin,rfl,HX8,HDP⟩:=hrel
 by_cases hlt:i<n
 ·have HX:=Q0 (HX9.out.trans HX8.out)
  have hlt':(i:Int)<(n:Int):=by omega
  obtain⟨g,ea,y0,y1,y2,y3,y4⟩:=HLN.out HX.out i hlt
  subst ea
  have HUI:=Q0 (HUS.out HX.out i hlt)
  have HNI:Hid ((pat ps i).no=(i:Int)+2):=HNO.out i (by rw[HN.out];exact hlt)
  obtain⟨au,cu,eu⟩:=Q3 HUI.out
  rw[HNI.out] at y0
  rw[eu] at y4 HUI
  clear eu
  have HDU:=Q0 (Qaf (ps:=ps) (i:=i) (by rw[HN.out];exact hlt))
  generalize Y4 (pat ps i).d=sn at *
  generalize Yy (pat ps i).d=ul at *
  obtain⟨lu,hlu⟩:∃q,ul.length=q:=⟨_,rfl⟩
  have HLU:Hid (ul.length=lu):=hlu
  rw[hlu] at y4 HUI
  clear hlu
  have hlm:lu<=9223372036854775807:=by
   rcases HUI.out.2 with⟨e,h2⟩|⟨g,cap,cur,e,-,-,h2,h3,-⟩
   ·have:=HLU.out;omega
   ·have:=HLU.out;unfold maxLen at h3;omega
  have HXb:Hid (Nx w9 (wr.alloc (.cells #[.int .i64 ((i:Int)+2),.int .i64 sn.1,.int .i64 sn.2.1,.int .i64 sn.2.2,.slice au lu cu] 135))):=HX8.out.trans (Qd _ _)
  have HB:Hid (BT (wr.alloc (.cells #[.int .i64 ((i:Int)+2),.int .i64 sn.1,.int .i64 sn.2.1,.int .i64 sn.2.2,.slice au lu cu] 135)) wr.heap.size #[.int .i64 ((i:Int)+2),.int .i64 sn.1,.int .i64 sn.2.1,.int .i64 sn.2.2,.slice au lu cu] 135):=BT.new _ _ _ _ rfl
  have HUb:Hid (Y9 w0.heap.size (wr.alloc (.cells #[.int .i64 ((i:Int)+2),.int .i64 sn.1,.int .i64 sn.2.1,.int .i64 sn.2.2,.slice au lu cu] 135)) (.slice au lu cu) ul):=Qp HUI.out (Qd _ _)
  go_upto_region 13 with fail
  generalize wr.alloc (.cells #[.int .i64 ((i:Int)+2),.int .i64 sn.1,.int .i64 sn.2.1,.int .i64 sn.2.2,.slice au lu cu] 135)=wb at *
  generalize wr.heap.size=lb at *
  clear y0 y1 y2 y3 y4 HUI HX HX8
  have z4:wb.cell? ⟨lb,4,none⟩=some (.slice au lu cu):=HB.out.blk.cell (i:=4) rfl
  go_wp2
  clear z4
  go_loopw [60] (λs60 wr=>∃j:Nat,j<=lu/\s60=.int .i64 j/\Hid (Nx wb wr)/\Hid (∀q,q<j->Er ps (Pg ul q)=false)) (λs60 _=>lu-(intOf s60).toNat)
  case atStart=>exact⟨0,Nat.zero_le _,rfl,Nx.refl _,λj hj=>absurd hj (Nat.not_lt_zero _)⟩
  obtain⟨j,hjl,rfl,HXj,HBJ⟩:=hrel
  by_cases hjt:j<lu
  ·have hjt':(j:Int)<(lu:Int):=by omega
   obtain⟨gu,c',eu,u0,u1,u2⟩:=HUb.out.at (i:=j) (by rw[HLU.out];exact hjt)
   simp only[Value.slice.injEq] at eu
   obtain⟨rfl,-,-⟩:=eu
   have v0:=Qf HXj.out u0
   have v1:=Qf HXj.out u1
   have v2:=Qf HXj.out u2
   clear u0 u1 u2
   have HBU:Hid (Er ps (Pg ul j)=!We (nml ps ps.length) (Pg ul j)):=rfl
   obtain⟨x,hx⟩:∃q,Pg ul j=q:=⟨_,rfl⟩
   have HXX:Hid (Pg ul j=x):=hx
   rw[hx] at v0 v1 v2 HBU
   clear hx
   have HBx:Hid (BT (wr.alloc (.cells #[.int .i64 x.1,.int .i64 x.2.1,.int .i64 x.2.2] 132)) wr.heap.size #[.int .i64 x.1,.int .i64 x.2.1,.int .i64 x.2.2] 132):=BT.new _ _ _ _ rfl
   have HXk:Hid (Nx wb (wr.alloc (.cells #[.int .i64 x.1,.int .i64 x.2.1,.int .i64 x.2.2] 132))):=HXj.out.trans (Qd _ _)
   go_upto_region 16 with fail
   generalize wr.alloc (.cells #[.int .i64 x.1,.int .i64 x.2.1,.int .i64 x.2.2] 132)=wk at *
   generalize wr.heap.size=nb at *
   clear v0 v1 v2 HXj
   have t0_:wk.cell? ⟨nb,0,none⟩=some (.int .i64 x.1):=HBx.out.blk.cell (i:=0) rfl
   have t1_:wk.cell? ⟨nb,1,none⟩=some (.int .i64 x.2.1):=HBx.out.blk.cell (i:=1) rfl
   have t2_:wk.cell? ⟨nb,2,none⟩=some (.int .i64 x.2.2):=HBx.out.blk.cell (i:=2) rfl
   have HKk:=Q0 (HKN.out.next (HXb.out.trans HXk.out))
   by_cases hh:We (nml ps ps.length) x=true
   ·have HBf:Hid (∀q,q<j+1->Er ps (Pg ul q)=false):=λq hq=>by
     by_cases e:q=j
     ·subst e;rw[HXX.out,HBU.out,hh];rfl
     ·exact HBJ.out q (by omega)
    go_wp2_with (refine Z8 rfl _ _ rfl rfl (x:=x) rfl HKk.out ?_)
    intro zz
    try rw[hh]
    clear HKk
    go_wp2
    go_roundw
    case rel=>exact⟨j+1,by omega,by go_num,HXk,HBf⟩
    case measure=>simp[intOf];omega
   have hh':We (nml ps ps.length) x=false:=by simpa using hh
   have HPF:Hid (Wk (dsP ps)=.error (10,(i:Int)+2)):=by
    unfold Hid
    rw[HP1.out,T4 (i:=i) (by rw[HDL.out];exact hlt) (by rw[HDU.out];exact Qer (i:=j) (by rw[HLU.out];exact hjt) (by rw[HXX.out,HBU.out,hh'];rfl)) HDP.out]
   have z0:wk.cell? ⟨lb,0,none⟩=some (.int .i64 ((i:Int)+2)):=Qf HXk.out (HB.out.blk.cell (i:=0) rfl)
   have HXw:=Q0 (HX9.out.trans (HXb.out.trans HXk.out))
   go_wp2_with (refine Z8 rfl _ _ rfl rfl (x:=x) rfl HKk.out ?_)
   intro zz
   try rw[hh']
   go_wp2
   go_ret
   exact⟨Or.inr ⟨10,(i:Int)+2,HPF.out,_,rfl,_,rfl,(HXw.out).size,BT.new _ _ _ _ rfl⟩,HXw.out.trans (Qd _ _)⟩
  have ej:j=lu:=by omega
  subst ej
  have HDF:Hid (∀q,q<i+1->Q0u (dsP ps) q=false):=λq hq=>by
   by_cases e:q=i
   ·subst e;rw[HDU.out];exact Qat (λk hk=>HBJ.out k (by rw[HLU.out] at hk;exact hk))
   ·exact HDP.out q (by omega)
  have HXw:=Q0 (HXb.out.trans HXj.out)
  clear HBJ HDU HXb HXj
  go_wp2
  go_roundw
  case rel=>exact⟨i+1,by omega,by go_num,HXw,HDF⟩
  case measure=>simp[intOf];omega
 have ei:i=n:=by omega
 subst ei
 have HP2:Hid (Wk (dsP ps)=if K7 (dsP ps)=true then .error (11,0) else .ok (dsP ps)):=by
  unfold Hid
  rw[HP1.out,Y5 (λj hj=>HDP.out j (by rw[HDL.out] at hj;exact hj))]
 have HXw:=Q0 (HX9.out.trans HX8.out)
 have HRw:=Q0 (HR.out.next HXw.out)
 have HCO:=Q0 (Q2n HWN.out)
 clear HP1 HDP HX8 hlt hin HKN HR
 have b0_:wr.cell? ⟨rb,0,none⟩=some (vN):=HRw.out.bx.blk.cell (i:=0) rfl
 have b1_:wr.cell? ⟨rb,1,none⟩=some (vW):=HRw.out.bx.blk.cell (i:=1) rfl
 have b2_:wr.cell? ⟨rb,2,none⟩=some (vR):=HRw.out.bx.blk.cell (i:=2) rfl
 have b3_:wr.cell? ⟨rb,3,none⟩=some (vT):=HRw.out.bx.blk.cell (i:=3) rfl
 have b4_:wr.cell? ⟨rb,4,none⟩=some (.int .i64 (utO ps)):=HRw.out.bx.blk.cell (i:=4) rfl
 obtain⟨a0,c0,e0⟩:=Q3 HRw.out.n
 obtain⟨a1,c1,e1⟩:=Q3 HRw.out.wy
 obtain⟨a2,c2,e2⟩:=Q3 HRw.out.rl
 obtain⟨a3,c3,e3⟩:=Q3 HRw.out.tn
 rw[e0] at b0_
 rw[e1] at b1_
 rw[e2] at b2_
 rw[e3] at b3_
 have HHN:Hid (Yf w0.heap.size wr vN vW vR vT (ntO ps)):=HRw.out.hnet
 rw[e0,e1,e2,e3] at HHN
 clear e0 e1 e2 e3 HBX HLN HUS
 go_wp2_with fail
 refine(U6 w0.heap.size _ _ _ _ (utO ps) (ntO ps) wr HHN.out HWS.out).mono ?_
 rintro e wz ⟨rfl,hxz⟩
 have HXz:=Q0 (HXw.out.trans hxz)
 rw[HCO.out]
 clear hxz b0_ b1_ b2_ b3_ b4_
 by_cases ho:K7 (dsP ps)=true
 ·have HPF:Hid (Wk (dsP ps)=.error (11,0)):=by unfold Hid;rw[HP2.out,if_pos ho]
  rw[ho]
  go_wp2
  go_ret
  exact⟨Or.inr ⟨11,0,HPF.out,_,rfl,_,rfl,HXz.out.size,BT.new _ _ _ _ rfl⟩,HXz.out.trans (Qd _ _)⟩
 ·have HPY:Hid (Wk (dsP ps)=.ok (dsP ps)):=by unfold Hid;rw[HP2.out,if_neg ho]
  have ho':K7 (dsP ps)=false:=by simpa using ho
  rw[ho']
  go_wp2
  go_ret
  exact⟨Or.inl ⟨HPY.out,rfl⟩,HXz.out⟩
end Go.Proofs.YtmmolhlihhdkcaaGreatDoor
