import Derived.Test.YthhkjbfkgdlkmaaGreatDoorQK
import Derived.Lib.SplitLaws
import Derived.Lib.SlSplitV
namespace Go.Proofs.YthhkjbfkgdlkmaaGreatDoor
open Go.RowKit Go.Sort
set_option linter.unusedVariables false
set_option maxRecDepth 1000000
set_option maxHeartbeats 16000000
def nmV (via:Bool)(x:Int):Nm:=(if via then 0 else 1,x,0)
theorem viaL_len (v:List Int):(viaL v).length=min (v.length-5) (v.length-4):=by unfold viaL;rw[List.length_take,List.length_drop]
theorem viaL_at {v:List Int}{i:Nat}(h:i<v.length-5):iat (viaL v) i=iat v (4+i):=by simp[viaL,iat,List.getD_eq_getElem?_getD,h,List.getElem?_drop]
theorem take_next {l:List Int}{i:Nat}(h:i<l.length):l.take (i+1)=l.take i++[iat l i]:=by
 rw[List.take_add_one,List.getElem?_eq_getElem h]
 simp[iat,List.getD_eq_getElem?_getD,h]
theorem readRel_any (w0:World)(rb:Nat)(line:Int)(ps:List Px)(w:World)(h:RMx w0 w rb line ps)(hps:ps.length<=300000)(C g n c:Nat)(f:List ByteArray)(hf:OwnSt C w (.slice (some ⟨g,0,none⟩) n c) f)(hn:f.length=n)(hn1:n<=300001)(hs:∀i,i<f.length->(sat f i).size<=300000)(onl:Bool)(honl:((sat f 0).toList==[111,110,108,121])=onl)(hw:relB (sat f 0)=true) :
  Calls Tryz.prog 78 #[.pointer (some ⟨rb,0,none⟩),.slice (some ⟨g,0,none⟩) n c,.bool onl] w λe w'=>ReadR w0 w w' rb line ps f e:=by
 have hmx:Tryz.prog.follows .mixedOrders=true:=by kernel_rfl
 obtain⟨vN,vW,vR,vT,vL,h⟩:=h
 have HR:=mkHid' h
 have HF:=mkHid' hf
 have HN:=mkHid' hn
 have HS:=mkHid' hs
 have HCK:=mkHid' (ck_rel hw)
 have HW:=mkHid' hw
 have hcap:=ownSt_cap hf
 have HLL:Hid ((lnO ps).length<=300001):=by unfold Hid;rw[lnO_len];omega
 clear h hf hs hw
 rw[hn] at HCK
 clear hn
 by_cases k1:n<6
 ·have HC:Hid (chkS f=6):=by unfold Hid;rw[HCK.out,if_pos k1]
  have d1:(n:Int)<6:=by omega
  go_enter Tryz.func78,Tryz.ntmps78
  go_wp2_with fail
  refine(refuse_any rb 6 line _ w HR.out.bx rfl).mono ?_
  rintro e wr1 ⟨⟨v,rfl,hfl⟩,hx⟩
  have HFL:=mkHid' (hfl)
  have HXL:=mkHid' (hx)
  clear hfl hx
  go_wp2
  go_ret
  exact Or.inr ⟨by rw[HC.out];decide,_,rfl,by rw[HC.out];exact HFL.out,HXL.out⟩
 have d1:¬(n:Int)<6:=by omega
 rw[if_neg k1] at HCK
 obtain⟨g3,e3,-,-,x3⟩:=OwnSt.at HF.out (i:=3) (by rw[HN.out];omega)
 have e3':g=g3:=by simpa using e3
 subst e3'
 clear e3
 have HRD0:Hid (rdS f=if (sat f 3).toList=[97,116] then ⟨3,iat (vsL f) 1,0,zWy,⟨iat (vsL f) 1,(sat f 0).toList==[111,110,108,121],iat (vsL f) 2,iat (vsL f) (f.length-1),true,iat (vsL f) 4,[]⟩,0,[iat (vsL f) 4],[iat (vsL f) 2,iat (vsL f) (f.length-1)]⟩ else ⟨3,iat (vsL f) 1,0,zWy,⟨iat (vsL f) 1,(sat f 0).toList==[111,110,108,121],iat (vsL f) 2,iat (vsL f) (f.length-1),false,0,viaL (vsL f)⟩,0,[],[iat (vsL f) 2,iat (vsL f) (f.length-1)]++viaL (vsL f)⟩):=by
  have h0:=HW.out
  unfold relB at h0
  rw[Bool.or_eq_true,beq_iff_eq,beq_iff_eq] at h0
  have hw2:relB (sat f 0)=true:=HW.out
  unfold Hid rdS
  rw[if_neg (by rcases h0 with h|h<;>rw[h]<;>decide),if_neg (by rcases h0 with h|h<;>rw[h]<;>decide),if_pos hw2]
 rw[honl] at HRD0
 clear honl
 generalize sat f 3=key at *
 by_cases kk:key.toList≠[97,116]/\key.toList≠[98,121]
 ·have HC:Hid (chkS f=7):=by unfold Hid;rw[HCK.out,if_pos kk]
  have j1:(key.toList==[97,116])=false:=by simpa using kk.1
  have j2:(key.toList==[98,121])=false:=by simpa using kk.2
  have j1':(key.toList !=[97,116])=true:=by simpa using kk.1
  have j2':(key.toList !=[98,121])=true:=by simpa using kk.2
  clear kk HRD0
  go_enter Tryz.func78,Tryz.ntmps78
  go_wp2_with fail
  refine(refuse_any rb 7 line _ w HR.out.bx rfl).mono ?_
  rintro e wr1 ⟨⟨v,rfl,hfl⟩,hx⟩
  have HFL:=mkHid' (hfl)
  have HXL:=mkHid' (hx)
  clear hfl hx
  go_wp2
  go_ret
  exact Or.inr ⟨by rw[HC.out];decide,_,rfl,by rw[HC.out];exact HFL.out,HXL.out⟩
 rw[if_neg kk] at HCK
 obtain⟨via,hvia⟩:∃q,(key.toList==[97,116])=q:=⟨_,rfl⟩
 have HVB:Hid ((via=true/\key.toList=[97,116])\/(via=false/\key.toList=[98,121])):=by
  by_cases j:key.toList=[97,116]
  ·exact Or.inl ⟨by rw[<-hvia,j];rfl,j⟩
  ·exact Or.inr ⟨by rw[<-hvia];simpa using j,Decidable.byContradiction λj'=>kk ⟨j,j'⟩⟩
 clear kk
 by_cases kc:(key.toList=[97,116]/\6<n)\/(key.toList=[98,121]/\9<n)
 ·have HC:Hid (chkS f=6):=by unfold Hid;rw[HCK.out,if_pos kc]
  go_enter Tryz.func78,Tryz.ntmps78
  go_upto_region 5 with fail
  go_cut [30] from 25 to 29 (λs30 wc=>s30=.bool false/\wc=w)
  case first=>
   clear hvia
   rcases HVB.out with⟨rfl,j⟩|⟨rfl,j⟩
   ·have j3:(key.toList !=[97,116])=false:=by simp[j]
    have j4:(key.toList==[97,116])=true:=by simp[j]
    go_wp2
    go_meet
    exact⟨by first|rfl|simp[j],rfl⟩
   ·have j3:(key.toList !=[97,116])=true:=by simp[j]
    have j4:(key.toList==[97,116])=false:=by simp[j]
    have j5:(key.toList !=[98,121])=false:=by simp[j]
    go_wp2
    go_meet
    exact⟨by first|rfl|simp[j],rfl⟩
  case rest=>
  obtain⟨rfl,hwc⟩:=hcut
  subst hwc
  rcases kc with⟨j,kn⟩|⟨j,kn⟩
  ·have j4:(key.toList==[97,116])=true:=by simp[j]
   have d6:(6:Int)<(n:Int):=by omega
   clear hvia HVB
   go_wp2_with fail
   refine(refuse_any rb 6 line _ wc HR.out.bx rfl).mono ?_
   rintro e wr1 ⟨⟨v,rfl,hfl⟩,hx⟩
   have HFL:=mkHid' (hfl)
   have HXL:=mkHid' (hx)
   clear hfl hx
   go_wp2
   go_ret
   exact Or.inr ⟨by rw[HC.out];decide,_,rfl,by rw[HC.out];exact HFL.out,HXL.out⟩
  ·have j4:(key.toList==[97,116])=false:=by simp[j]
   have j5:(key.toList==[98,121])=true:=by simp[j]
   have d9:(9:Int)<(n:Int):=by omega
   clear hvia HVB
   go_wp2_with fail
   refine(refuse_any rb 6 line _ wc HR.out.bx rfl).mono ?_
   rintro e wr1 ⟨⟨v,rfl,hfl⟩,hx⟩
   have HFL:=mkHid' (hfl)
   have HXL:=mkHid' (hx)
   clear hfl hx
   go_wp2
   go_ret
   exact Or.inr ⟨by rw[HC.out];decide,_,rfl,by rw[HC.out];exact HFL.out,HXL.out⟩
 rw[if_neg kc] at HCK
 have HNV:Hid ((via=true->n=6)/\n<=9):=by
  rcases HVB.out with⟨h1,h2⟩|⟨h1,h2⟩
  ·have:¬6<n:=λh=>kc (Or.inl ⟨h2,h⟩)
   exact⟨λ_=>by omega,by omega⟩
  ·have:¬9<n:=λh=>kc (Or.inr ⟨h2,h⟩)
   exact⟨λh=>absurd (h1.symm.trans h) (by decide),by omega⟩
 have HBL:Hid ((butK f 3).length=n-2):=by unfold Hid;rw[butK_len (by decide) (by rw[HN.out];omega),HN.out]
 go_enter Tryz.func78,Tryz.ntmps78
 go_upto_region 5 with fail
 go_cut [30] from 25 to 29 (λs30 wc=>s30=.bool false/\wc=w)
 case first=>
  clear hvia
  rcases HVB.out with⟨rfl,j⟩|⟨rfl,j⟩
  ·have j3:(key.toList !=[97,116])=false:=by simp[j]
   have j4:(key.toList==[97,116])=true:=by simp[j]
   go_wp2
   go_meet
   exact⟨by first|rfl|simp[j],rfl⟩
  ·have j3:(key.toList !=[97,116])=true:=by simp[j]
   have j4:(key.toList==[97,116])=false:=by simp[j]
   have j5:(key.toList !=[98,121])=false:=by simp[j]
   go_wp2
   go_meet
   exact⟨by first|rfl|simp[j],rfl⟩
 case rest=>
 obtain⟨rfl,hwc⟩:=hcut
 subst hwc
 go_upto_region 7 with fail
 go_cut [46] from 33 to 45 (λs46 w_=>s46=.bool false/\w_=wc)
 case first=>
  clear hvia
  have hnv:=HNV.out
  rcases HVB.out with⟨rfl,j⟩|⟨rfl,j⟩
  ·have j4:(key.toList==[97,116])=true:=by simp[j]
   have j5:(key.toList==[98,121])=false:=by simp[j]
   have d6:¬(6:Int)<(n:Int):=by have:=hnv.1 rfl;omega
   clear hnv
   go_wp2
   go_meet
   exact⟨by first|rfl|simp[j],rfl⟩
  ·have j4:(key.toList==[97,116])=false:=by simp[j]
   have j5:(key.toList==[98,121])=true:=by simp[j]
   have d9:¬(9:Int)<(n:Int):=by have:=hnv.2;omega
   clear hnv
   go_wp2
   go_meet
   exact⟨by first|rfl|simp[j],rfl⟩
 case rest=>
 obtain⟨rfl,hwc⟩:=hcut
 subst hwc
 clear kc
 go_upto_region 9 with fail
 have HXD:Hid (Nx wc wc.drew):=(Below.refl _ _).drew
 clear x3
 refine(wpIn_wide (n:=9)).1 ?_
 refine wpIn_region_S (c:=13) (S:=λ_=>True) hmx (by kernel_rfl) (λhw hcl=>?_)
 generalize wc.drew=wd at *
 refine anyS_take (i:=0) (v:=.pointer (some ⟨rb,0,none⟩)) hw (by decide) hcl (noDefer_none rfl) rfl (by kernel_rfl) (by kernel_rfl) (by kernel_rfl) (λ_ _ _ h=>h) ⟨Or.inl ⟨by kernel_rfl,?y0⟩,λ_=>rfl⟩ trivial (λhcl=>?_)
 case y0=>
  rintro q -
  go_simp
 refine anyS_take (i:=1) (v:=.slice (some ⟨g,0,none⟩) n c) hw (by decide) hcl (noDefer_none rfl) rfl (by kernel_rfl) (by kernel_rfl) (by kernel_rfl) (λ_ _ _ h=>h) ⟨Or.inl ⟨by kernel_rfl,?y1⟩,λ_=>rfl⟩ trivial (λhcl=>?_)
 case y1=>
  rintro q -
  go_simp
 refine anyS_take (i:=2) (v:=.slice (some ⟨g,1,none⟩) 2 (c-1)) hw (by decide) hcl (noDefer_none rfl) rfl (by kernel_rfl) (by kernel_rfl) (by kernel_rfl) (λ_ _ _ h=>h) ⟨Or.inl ⟨by kernel_rfl,?y2⟩,λ_=>rfl⟩ trivial (λhcl=>?_)
 case y2=>
  rintro q -
  go_simp
  rw[if_pos (show(3:Int)<=(c:Int) by omega),if_neg (show ¬c=1 by omega)]
 refine anyS_take (i:=3) (v:=.slice (some ⟨g,0,none⟩) n c) hw (by decide) hcl (noDefer_none rfl) rfl (by kernel_rfl) (by kernel_rfl) (by kernel_rfl) (λ_ _ _ h=>h) ⟨Or.inl ⟨by kernel_rfl,?y3⟩,λ_=>rfl⟩ trivial (λhcl=>?_)
 case y3=>
  rintro q -
  go_simp
 refine anyS_take (i:=4) (v:=.slice (some ⟨g,4,none⟩) (n-4) (c-4)) hw (by decide) hcl (noDefer_none rfl) rfl (by kernel_rfl) (by kernel_rfl) (by kernel_rfl) (λ_ _ _ h=>h) ⟨Or.inl ⟨by kernel_rfl,?y4⟩,λ_=>rfl⟩ trivial (λhcl=>?_)
 case y4=>
  rintro q -
  go_simp
  rw[if_pos (show(4:Int)<=(n:Int) by omega),if_neg (show ¬c=4 by omega)]
 refine anyS_one2 (i:=5) (by kernel_rfl) hcl (λhcl=>wpOpIn_step rfl (λK hK=>?_))
 go_simp
 refine hK _ _ ⟨Or.inr trivial,?_⟩
 clear hK K
 have HGV:Hid (BT (wd.alloc (.cells #[.slice (some ⟨g,1,none⟩) 2 (c-1),.slice (some ⟨g,4,none⟩) (n-4) (c-4)] 39)) wd.heap.size #[.slice (some ⟨g,1,none⟩) 2 (c-1),.slice (some ⟨g,4,none⟩) (n-4) (c-4)] 39):=BT.new _ _ _ _ rfl
 have HXV:Hid (Nx wc (wd.alloc (.cells #[.slice (some ⟨g,1,none⟩) 2 (c-1),.slice (some ⟨g,4,none⟩) (n-4) (c-4)] 39))):=HXD.out.trans (box1 _ _)
 clear HXD
 generalize wd.alloc (.cells #[.slice (some ⟨g,1,none⟩) 2 (c-1),.slice (some ⟨g,4,none⟩) (n-4) (c-4)] 39)=wv at *
 generalize wd.heap.size=gv at *
 have HF1:=mkHid' (row_next HF.out HXV.out)
 refine anyS_one2 (i:=6) (by kernel_rfl) hcl (λhcl=>wpOpIn_step rfl (λK hK=>?_))
 go_simp
 refine⟨trivial,(callsIn_wide.2 (concatS_any gv g 1 2 (c-1) 4 (n-4) (c-4) ((f.drop 1).take 2) (f.drop 4) wv (HGV.out.blk.cell (i:=0) rfl) (HGV.out.blk.cell (i:=1) rfl) (hsr_part HF1.out HN.out 1 2 _ (by omega)) (hsr_drop HF1.out HN.out 4 _ (by omega)) (by decide) (by omega) (by omega))).mono ?_⟩
 rintro e wk ⟨⟨uk,rfl,huk⟩,hx⟩
 have HXK:=mkHid' (HXV.out.trans hx)
 have HUK:Hid (OwnSt wv.heap.size wk uk (butK f 3)):=huk
 refine hK _ _ ⟨Or.inr trivial,?_⟩
 clear hK K hx huk HF1 HGV HXV
 obtain⟨ak,ck,ek⟩:=row_slice HUK.out
 rw[HBL.out] at ek
 subst ek
 refine anyS_one2 (i:=7) (by kernel_rfl) hcl (λhcl=>wpOpIn_step rfl (λK hK=>?_))
 go_simp
 refine⟨trivial,(callsIn_wide.2 (rnums_any rb line _ ak (n-2) ck (butK f 3) wk (HR.out.bx.next HXK.out) rfl (OwnSt.hsr HUK.out) (λi hi=>by
  rw[butK_at (by decide) (by rw[HN.out];omega)]
  rw[HBL.out] at hi
  split<;>exact HS.out _ (by rw[HN.out];omega)) (by omega))).mono ?_⟩
 rintro e w1 ⟨hr,hx⟩
 have HX1:=mkHid' (HXK.out.trans hx)
 clear hx
 rcases hr with⟨hok,v,rfl,ho⟩|⟨hno,v,rfl,fb,rfl,hfb,hfl⟩
 case inr=>
  have HC:Hid (chkS f=8):=by unfold Hid;rw[HCK.out,hno];rfl
  have HFL:Hid (FltR wc w1 8 line (.iface 59 (.pointer (some ⟨fb,0,none⟩)))):=FltR.base ⟨fb,rfl,hfb,hfl⟩ HXK.out
  clear hno hfb hfl
  refine hK _ _ ⟨Or.inr trivial,?_⟩
  clear hK K HUK
  refine anyS_take (i:=8) (v:=.tuple #[.slice none 0 0,.iface 59 (.pointer (some ⟨fb,0,none⟩))]) hw (by decide) hcl (noDefer_none rfl) rfl (by kernel_rfl) (by kernel_rfl) (by kernel_rfl) (λ_ _ _ h=>h) ⟨Or.inl ⟨by kernel_rfl,?y8⟩,λ_=>rfl⟩ trivial (λhcl=>?_)
  case y8=>
   rintro q -
   go_simp
  refine anyS_take (i:=9) (v:=.slice none 0 0) hw (by decide) hcl (noDefer_none rfl) rfl (by kernel_rfl) (by kernel_rfl) (by kernel_rfl) (λ_ _ _ h=>h) ⟨Or.inl ⟨by kernel_rfl,?y9⟩,λ_=>rfl⟩ trivial (λhcl=>?_)
  case y9=>
   rintro q -
   go_simp
  refine anyS_take (i:=10) (v:=.iface 59 (.pointer (some ⟨fb,0,none⟩))) hw (by decide) hcl (noDefer_none rfl) rfl (by kernel_rfl) (by kernel_rfl) (by kernel_rfl) (λ_ _ _ h=>h) ⟨Or.inl ⟨by kernel_rfl,?y10⟩,λ_=>rfl⟩ trivial (λhcl=>?_)
  case y10=>
   rintro q -
   go_simp
  refine anyS_take (i:=11) (v:=.slice none 0 0) hw (by decide) hcl (noDefer_none rfl) rfl (by kernel_rfl) (by kernel_rfl) (by kernel_rfl) (λ_ _ _ h=>h) ⟨Or.inl ⟨by kernel_rfl,?y11⟩,λ_=>rfl⟩ trivial (λhcl=>?_)
  case y11=>
   rintro q -
   go_simp
  refine anyS_take (i:=12) (v:=.iface 59 (.pointer (some ⟨fb,0,none⟩))) hw (by decide) hcl (noDefer_none rfl) rfl (by kernel_rfl) (by kernel_rfl) (by kernel_rfl) (λ_ _ _ h=>h) ⟨Or.inl ⟨by kernel_rfl,?y12⟩,λ_=>rfl⟩ trivial (λhcl=>?_)
  case y12=>
   rintro q -
   go_simp
  refine anyS_done (by kernel_rfl) ?_ _
  clear hw hcl
  go_wp2
  go_ret
  exact Or.inr ⟨by rw[HC.out];decide,_,rfl,by rw[HC.out];exact HFL.out,HX1.out⟩
 refine hK _ _ ⟨Or.inr trivial,?_⟩
 clear hK K HUK
 have HC0:Hid (chkS f=0):=by unfold Hid;rw[HCK.out,hok];rfl
 obtain⟨k,hk⟩:∃k,n=k+5:=⟨n-5,by omega⟩
 obtain⟨m,hm⟩:∃m,m=n-2:=⟨_,rfl⟩
 obtain⟨l,hl_⟩:∃l,l=n-3:=⟨_,rfl⟩
 have hml:(m:Int)-1=(l:Int):=by omega
 have hlk:l-2=k:=by omega
 have hlm:l<m:=by omega
 have hwl:IntKind.i64.wrap (l:Int)=(l:Int):=by rw[IntKind.wrap_i64];omega
 have hvl:(vsL (butK f 3)).length=m:=by rw[vsL_len,HBL.out,hm]
 obtain⟨gn,cn,csn,ev,hgn,hcap2,hbn,hcn⟩:=ho.open (by rw[hvl];omega)
 rw[hvl] at ev hcn hcap2
 subst ev
 have HVA:Hid (iat (vsL (butK f 3)) 0=iat (vsL f) 1/\iat (vsL (butK f 3)) 1=iat (vsL f) 2/\iat (vsL (butK f 3)) l=iat (vsL f) (f.length-1)/\∀i,i<k->iat (vsL (butK f 3)) (2+i)=iat (viaL (vsL f)) i):=by
  have key:∀i,i<n-2->iat (vsL (butK f 3)) i=valS (if i+1<3 then sat f (i+1) else sat f (i+2)):=λi hi=>by rw[vsL_at (by rw[HBL.out];exact hi),butK_at (by decide) (by rw[HN.out];omega)]
  refine⟨?_,?_,?_,λi hi=>?_⟩
  ·rw[key 0 (by omega),vsL_at (by rw[HN.out];omega)];rfl
  ·rw[key 1 (by omega),vsL_at (by rw[HN.out];omega)];rfl
  ·rw[key l (by omega),if_neg (by omega),vsL_at (by rw[HN.out];omega),show l+2=f.length-1 by rw[HN.out];omega]
  ·rw[key (2+i) (by omega),if_neg (by omega),viaL_at (by rw[vsL_len,HN.out];omega),vsL_at (by rw[HN.out];omega),show 2+i+2=4+i by omega]
 have HNB:Hid (OwnI wc.heap.size w1 (.slice (some ⟨gn,0,none⟩) m cn) (vsL (butK f 3))):=row_base ho HXK.out.size
 have HBL2:Hid ((vsL (butK f 3)).length=m):=hvl
 clear hok ho hgn hvl hbn hcn HXK csn
 rw[<-hm]
 refine anyS_take (i:=8) (v:=.tuple #[.slice (some ⟨gn,0,none⟩) m cn,.nilIface]) hw (by decide) hcl (noDefer_none rfl) rfl (by kernel_rfl) (by kernel_rfl) (by kernel_rfl) (λ_ _ _ h=>h) ⟨Or.inl ⟨by kernel_rfl,?y8⟩,λ_=>rfl⟩ trivial (λhcl=>?_)
 case y8=>
  rintro q -
  go_simp
 refine anyS_take (i:=9) (v:=.slice (some ⟨gn,0,none⟩) m cn) hw (by decide) hcl (noDefer_none rfl) rfl (by kernel_rfl) (by kernel_rfl) (by kernel_rfl) (λ_ _ _ h=>h) ⟨Or.inl ⟨by kernel_rfl,?y9⟩,λ_=>rfl⟩ trivial (λhcl=>?_)
 case y9=>
  rintro q -
  go_simp
 refine anyS_take (i:=10) (v:=.nilIface) hw (by decide) hcl (noDefer_none rfl) rfl (by kernel_rfl) (by kernel_rfl) (by kernel_rfl) (λ_ _ _ h=>h) ⟨Or.inl ⟨by kernel_rfl,?y10⟩,λ_=>rfl⟩ trivial (λhcl=>?_)
 case y10=>
  rintro q -
  go_simp
 refine anyS_take (i:=11) (v:=.slice (some ⟨gn,0,none⟩) m cn) hw (by decide) hcl (noDefer_none rfl) rfl (by kernel_rfl) (by kernel_rfl) (by kernel_rfl) (λ_ _ _ h=>h) ⟨Or.inl ⟨by kernel_rfl,?y11⟩,λ_=>rfl⟩ trivial (λhcl=>?_)
 case y11=>
  rintro q -
  go_simp
 refine anyS_take (i:=12) (v:=.nilIface) hw (by decide) hcl (noDefer_none rfl) rfl (by kernel_rfl) (by kernel_rfl) (by kernel_rfl) (λ_ _ _ h=>h) ⟨Or.inl ⟨by kernel_rfl,?y12⟩,λ_=>rfl⟩ trivial (λhcl=>?_)
 case y12=>
  rintro q -
  go_simp
 refine anyS_done (by kernel_rfl) ?_ _
 clear hw hcl
 have HVL:Hid ((viaL (vsL f)).length=k):=by unfold Hid;rw[viaL_len,vsL_len,HN.out];omega
 have HNL:Hid (via=true->k=1):=λh=>by have:=HNV.out.1 h;omega
 have hkb:k<=4:=by have:=HNV.out.2;omega
 have hk1:1<=k:=by omega
 have HM3:Hid (m=k+3):=by unfold Hid;omega
 have hm0:(0:Int)<(m:Int):=by omega
 have hm1:(1:Int)<(m:Int):=by omega
 have hm0':¬m=0:=by omega
 have hlm':(l:Int)<(m:Int):=by omega
 have HRD1:Hid (rdS f=if via=true then ⟨3,iat (vsL f) 1,0,zWy,⟨iat (vsL f) 1,onl,iat (vsL f) 2,iat (vsL f) (f.length-1),true,iat (viaL (vsL f)) 0,[]⟩,0,[iat (viaL (vsL f)) 0],[iat (vsL f) 2,iat (vsL f) (f.length-1)]⟩ else ⟨3,iat (vsL f) 1,0,zWy,⟨iat (vsL f) 1,onl,iat (vsL f) 2,iat (vsL f) (f.length-1),false,0,viaL (vsL f)⟩,0,[],[iat (vsL f) 2,iat (vsL f) (f.length-1)]++viaL (vsL f)⟩):=by
  unfold Hid
  rw[HRD0.out]
  rcases HVB.out with⟨h1,h2⟩|⟨h1,h2⟩
  ·rw[if_pos h2,if_pos h1,viaL_at (by rw[vsL_len,HN.out];omega)]
  ·rw[if_neg (by rw[h2];decide),if_neg (by rw[h1];decide)]
 clear HRD0 HVB HCK HS HF HBL hm hl_ hk hcap d1 k1 hn1 HNV
 have HCN:Hid (∀i,i<m->∀{q:World}{bl:List (Nat×Array Value×Nat)}{rs:List (Value×List Int)},MS wc q bl rs->rs[0]?=some (.slice (some ⟨gn,0,none⟩) m cn,(vsL (butK f 3)))->q.cell? ⟨gn,i,none⟩=some (.int .i64 (iat (vsL (butK f 3)) i))):=λi hi {q bl rs} hM h0=>((hM.row 0 h0).in (by rw[HBL2.out];exact hi)).2.2
 have HVI:Hid (∀i,i<k->iat (vsL (butK f 3)) (2+i)=iat (viaL (vsL f)) i):=HVA.out.2.2.2
 have HM0:Hid (MS wc w1 [] [(.slice (some ⟨gn,0,none⟩) m cn,(vsL (butK f 3))),(.slice none 0 0,[])]):=(((MS.start wc).next HX1.out).addRow HNB.out (λj r g h=>by simp at h)).addNil
 have c0:=HCN.out 0 (by omega) HM0.out rfl
 have c1:=HCN.out 1 (by omega) HM0.out rfl
 have cl:=HCN.out l hlm HM0.out rfl
 rw[HVA.out.1] at c0
 rw[HVA.out.2.1] at c1
 rw[HVA.out.2.2.1] at cl
 clear HVA HNB HN
 generalize iat (vsL f) 1=z1 at *
 generalize iat (vsL f) 2=z2 at *
 generalize iat (vsL f) (f.length-1)=zt at *
 generalize viaL (vsL f)=L at *
 go_upto_region 13 with fail
 have hxd:Nx w1 w1.drew:=(Below.refl _ _).drew
 have HSS:Hid ((λq=>q.cell? ⟨gn,0,none⟩=some (.int .i64 z1)/\q.cell? ⟨gn,1,none⟩=some (.int .i64 z2)/\q.cell? ⟨gn,l,none⟩=some (.int .i64 zt)) w1.drew):=⟨cellq hxd c0,cellq hxd c1,cellq hxd cl⟩
 have HMd:=mkHid' (HM0.out.next hxd)
 clear c0 c1 cl hxd HM0
 refine(wpIn_wide (n:=9)).1 ?_
 refine wpIn_region_S (c:=15) (S:=λq=>q.cell? ⟨gn,0,none⟩=some (.int .i64 z1)/\q.cell? ⟨gn,1,none⟩=some (.int .i64 z2)/\q.cell? ⟨gn,l,none⟩=some (.int .i64 zt)) hmx (by kernel_rfl) (λhw hcl=>?_)
 generalize w1.drew=wd at *
 refine tq (i:=0) (v:=.slice (some ⟨gn,0,none⟩) m cn) (λhcl=>?_)
 refine tq (i:=1) (v:=.pointer (some ⟨gn,0,none⟩)) (λhcl=>?_)
 refine tq (i:=2) (v:=.int .i64 z1) (λhcl=>?_)
 refine tq (i:=3) (v:=.bool onl) (λhcl=>?_)
 refine tq (i:=4) (v:=.slice (some ⟨gn,0,none⟩) m cn) (λhcl=>?_)
 refine tq (i:=5) (v:=.pointer (some ⟨gn,1,none⟩)) (λhcl=>?_)
 refine tq (i:=6) (v:=.int .i64 z2) (λhcl=>?_)
 refine tq (i:=7) (v:=.slice (some ⟨gn,0,none⟩) m cn) (λhcl=>?_)
 refine tq (i:=8) (v:=.int .i64 (l:Int)) (λhcl=>?_)
 refine tq (i:=9) (v:=.pointer (some ⟨gn,l,none⟩)) (λhcl=>?_)
 refine tq (i:=10) (v:=.int .i64 zt) (λhcl=>?_)
 refine tq (i:=11) (v:=.string key) (λhcl=>?_)
 refine tq (i:=12) (v:=.bool via) (λhcl=>?_)
 refine tq (i:=13) (v:=.agg #[.int .i64 z1,.bool onl,.int .i64 z2,.int .i64 zt,.bool via,.int .i64 0,.slice none 0 0]) (λhcl=>?_)
 have HMt:Hid (MS wc (wd.alloc (.cells #[.int .i64 0,.bool false,.int .i64 0,.int .i64 0,.bool false,.int .i64 0,.slice none 0 0] 47)) [(wd.heap.size,#[.int .i64 0,.bool false,.int .i64 0,.int .i64 0,.bool false,.int .i64 0,.slice none 0 0],47)] [(.slice (some ⟨gn,0,none⟩) m cn,(vsL (butK f 3))),(.slice none 0 0,[])]):=HMd.out.addBox _ _ (by decide)
 refine anyS_one2 (i:=14) (by kernel_rfl) hcl (λhcl=>wpOpIn_step rfl (λK hK=>?_))
 go_simp
 refine hK _ _ ⟨Or.inr ⟨cellq (box1 _ _) HSS.out.1,cellq (box1 _ _) HSS.out.2.1,cellq (box1 _ _) HSS.out.2.2⟩,?_⟩
 clear hK K HSS HMd
 generalize wd.alloc (.cells #[.int .i64 0,.bool false,.int .i64 0,.int .i64 0,.bool false,.int .i64 0,.slice none 0 0] 47)=wt at *
 generalize wd.heap.size=lb at *
 have q0_:wt.cell? ⟨lb,0,none⟩=some (.int .i64 0):=(HMt.out.box 0 rfl).blk.cell (i:=0) rfl
 have f0_:=(HMt.out.box 0 rfl).blk.frozen 0
 have q1_:wt.cell? ⟨lb,1,none⟩=some (.bool false):=(HMt.out.box 0 rfl).blk.cell (i:=1) rfl
 have f1_:=(HMt.out.box 0 rfl).blk.frozen 1
 have q2_:wt.cell? ⟨lb,2,none⟩=some (.int .i64 0):=(HMt.out.box 0 rfl).blk.cell (i:=2) rfl
 have f2_:=(HMt.out.box 0 rfl).blk.frozen 2
 have q3_:wt.cell? ⟨lb,3,none⟩=some (.int .i64 0):=(HMt.out.box 0 rfl).blk.cell (i:=3) rfl
 have f3_:=(HMt.out.box 0 rfl).blk.frozen 3
 have q4_:wt.cell? ⟨lb,4,none⟩=some (.bool false):=(HMt.out.box 0 rfl).blk.cell (i:=4) rfl
 have f4_:=(HMt.out.box 0 rfl).blk.frozen 4
 have q5_:wt.cell? ⟨lb,5,none⟩=some (.int .i64 0):=(HMt.out.box 0 rfl).blk.cell (i:=5) rfl
 have f5_:=(HMt.out.box 0 rfl).blk.frozen 5
 have q6_:wt.cell? ⟨lb,6,none⟩=some (.slice none 0 0):=(HMt.out.box 0 rfl).blk.cell (i:=6) rfl
 have f6_:=(HMt.out.box 0 rfl).blk.frozen 6
 refine anyS_one (i:=15) (by kernel_rfl) (wpOpIn_step rfl (λK hK=>?_))
 go_simp
 refine hK _ _ ⟨Or.inl (by decide),?_⟩
 clear hK K
 refine anyS_done (by kernel_rfl) ?_ _
 have HM2:Hid (MS wc (((((((wt.setCell ⟨lb,0,none⟩ (.int .i64 z1)).setCell ⟨lb,1,none⟩ (.bool onl)).setCell ⟨lb,2,none⟩ (.int .i64 z2)).setCell ⟨lb,3,none⟩ (.int .i64 zt)).setCell ⟨lb,4,none⟩ (.bool via)).setCell ⟨lb,5,none⟩ (.int .i64 0)).setCell ⟨lb,6,none⟩ (.slice none 0 0)) [(lb,#[.int .i64 z1,.bool onl,.int .i64 z2,.int .i64 zt,.bool via,.int .i64 0,.slice none 0 0],47)] [(.slice (some ⟨gn,0,none⟩) m cn,(vsL (butK f 3))),(.slice none 0 0,[])]):=(((((((HMt.out.set 0 rfl 0 (.int .i64 z1)).set 0 rfl 1 (.bool onl)).set 0 rfl 2 (.int .i64 z2)).set 0 rfl 3 (.int .i64 zt)).set 0 rfl 4 (.bool via)).set 0 rfl 5 (.int .i64 0)).set 0 rfl 6 (.slice none 0 0))
 clear hw hcl HMt hvia q0_ f0_ q1_ f1_ q2_ f2_ q3_ f3_ q4_ f4_ q5_ f5_ q6_ f6_
 generalize ((((((wt.setCell ⟨lb,0,none⟩ (.int .i64 z1)).setCell ⟨lb,1,none⟩ (.bool onl)).setCell ⟨lb,2,none⟩ (.int .i64 z2)).setCell ⟨lb,3,none⟩ (.int .i64 zt)).setCell ⟨lb,4,none⟩ (.bool via)).setCell ⟨lb,5,none⟩ (.int .i64 0)).setCell ⟨lb,6,none⟩ (.slice none 0 0)=w2 at *
 go_upto_region 14 with fail
 have hxd:Nx w2 w2.drew:=(Below.refl _ _).drew
 have HM4:=mkHid' (HM2.out.next hxd)
 have HSS:Hid ((λq=>q.cell? ⟨lb,2,none⟩=some (.int .i64 z2)/\q.cell? ⟨lb,3,none⟩=some (.int .i64 zt)) w2.drew):=⟨cellq hxd ((HM2.out.box 0 rfl).blk.cell (i:=2) rfl),cellq hxd ((HM2.out.box 0 rfl).blk.cell (i:=3) rfl)⟩
 clear HM2 hxd
 refine(wpIn_wide (n:=9)).1 ?_
 refine wpIn_region_S (c:=8) (S:=λq=>q.cell? ⟨lb,2,none⟩=some (.int .i64 z2)/\q.cell? ⟨lb,3,none⟩=some (.int .i64 zt)) hmx (by kernel_rfl) (λhw hcl=>?_)
 generalize w2.drew=w4 at *
 refine tq (i:=0) (v:=.pointer (some ⟨lb,2,none⟩)) (λhcl=>?_)
 refine tq (i:=1) (v:=.int .i64 z2) (λhcl=>?_)
 refine tq (i:=3) (v:=.pointer (some ⟨lb,3,none⟩)) (λhcl=>?_)
 refine tq (i:=4) (v:=.int .i64 zt) (λhcl=>?_)
 refine anyS_one2 (i:=2) (by kernel_rfl) hcl (λhcl=>wpOpIn_step rfl (λK hK=>?_))
 go_simp
 refine⟨trivial,(callsIn_wide.2 (wayName_any z2 w4)).mono ?_⟩
 rintro e w5 ⟨rfl,hx6⟩
 have HMn:=mkHid' (HM4.out.next hx6)
 have HSn:Hid ((λq=>q.cell? ⟨lb,2,none⟩=some (.int .i64 z2)/\q.cell? ⟨lb,3,none⟩=some (.int .i64 zt)) w5):=⟨cellq hx6 HSS.out.1,cellq hx6 HSS.out.2⟩
 clear HM4 HSS hx6
 have HM4:=HMn
 have HSS:=HSn
 clear HMn HSn
 refine hK _ _ ⟨Or.inr HSS.out,?_⟩
 clear hK K
 refine anyS_one2 (i:=5) (by kernel_rfl) hcl (λhcl=>wpOpIn_step rfl (λK hK=>?_))
 go_simp
 refine⟨trivial,(callsIn_wide.2 (wayName_any zt w5)).mono ?_⟩
 rintro e w6 ⟨rfl,hx6⟩
 have HMn:=mkHid' (HM4.out.next hx6)
 have HSn:Hid ((λq=>q.cell? ⟨lb,2,none⟩=some (.int .i64 z2)/\q.cell? ⟨lb,3,none⟩=some (.int .i64 zt)) w6):=⟨cellq hx6 HSS.out.1,cellq hx6 HSS.out.2⟩
 clear HM4 HSS hx6
 have HM4:=HMn
 have HSS:=HSn
 clear HMn HSn
 refine hK _ _ ⟨Or.inr HSS.out,?_⟩
 clear hK K
 refine anyS_one2 (i:=6) (by kernel_rfl) hcl (λhcl=>wpOpIn_step rfl (λK hK=>?_))
 go_simp
 refine hK _ _ ⟨Or.inr ⟨cellq (box1 _ _) HSS.out.1,cellq (box1 _ _) HSS.out.2⟩,?_⟩
 clear hK K
 have HM7:=mkHid' (HM4.out.next (box1 w6 (.cells #[.int .i64 1,.int .i64 z2,.int .i64 0,.int .i64 1,.int .i64 zt,.int .i64 0] 112)))
 have HU7:Hid (OwnN wc.heap.size (w6.alloc (.cells #[.int .i64 1,.int .i64 z2,.int .i64 0,.int .i64 1,.int .i64 zt,.int .i64 0] 112)) (.slice (some ⟨w6.heap.size,0,none⟩) 2 2) [(1,z2,0),(1,zt,0)]):=ownN_two w6 _ HM4.out.nx.size (1,z2,0) (1,zt,0)
 have HSn:Hid ((λq=>q.cell? ⟨lb,2,none⟩=some (.int .i64 z2)/\q.cell? ⟨lb,3,none⟩=some (.int .i64 zt)) (w6.alloc (.cells #[.int .i64 1,.int .i64 z2,.int .i64 0,.int .i64 1,.int .i64 zt,.int .i64 0] 112))):=⟨cellq (box1 _ _) HSS.out.1,cellq (box1 _ _) HSS.out.2⟩
 clear HM4 HSS
 have HSS:=HSn
 clear HSn
 generalize w6.alloc (.cells #[.int .i64 1,.int .i64 z2,.int .i64 0,.int .i64 1,.int .i64 zt,.int .i64 0] 112)=w7 at *
 generalize w6.heap.size=ub at *
 refine tq (i:=7) (v:=.slice (some ⟨ub,0,none⟩) 2 2) (λhcl=>?_)
 refine anyS_done (by kernel_rfl) ?_ _
 clear hw hcl HSS
 go_wp2
 go_loopw [13,91] (λs13 s91 wr=>∃(i:Nat) (nd:Int) (vr:Value),i<=k/\s91=.int .i64 i/\Hid (nd=(if via=true then (if i=0 then 0 else iat L 0) else 0))/\Hid (MS wc wr [(lb,#[.int .i64 z1,.bool onl,.int .i64 z2,.int .i64 zt,.bool via,.int .i64 nd,vr],47)] [(.slice (some ⟨gn,0,none⟩) m cn,(vsL (butK f 3))),(vr,(if via=true then [] else L.take i))])/\Hid (OwnN wc.heap.size wr s13 ([(1,z2,0),(1,zt,0)]++(L.take i).map (nmV via)))) (λ_ s91 _=>k-(intOf s91).toNat)
 case atStart=>exact⟨0,0,.slice none 0 0,Nat.zero_le _,rfl,by unfold Hid;split<;>rfl,by rw[show(if via=true then [] else L.take 0)=[] by split<;>rfl];exact HM7,by exact HU7⟩
 clear HM7 HU7
 obtain⟨i,nd,vr,hik,rfl,HND,HM,HUN⟩:=hrel
 have cv:wr.cell? ⟨lb,4,none⟩=some (.bool via):=(HM.out.box 0 rfl).blk.cell (i:=4) rfl
 by_cases hlt:i<k
 ·have hlt':(i:Int)<(k:Int):=by omega
  have ci:=HCN.out (2+i) (by have:=HM3.out;omega) HM.out rfl
  rw[HVI.out i hlt] at ci
  have hzz:wc.heap.size<=wr.heap.size:=HM.out.nx.size
  have HTK:=mkHid' (take_next (l:=L) (i:=i) (by rw[HVL.out];exact hlt))
  have HLT:Hid ((L.take i).length=i):=by unfold Hid;rw[List.length_take,HVL.out];omega
  have HUS:Hid (([(1,z2,0),(1,zt,0)]++(L.take (i+1)).map (nmV via))=([(1,z2,0),(1,zt,0)]++(L.take i).map (nmV via))++[nmV via (iat L i)]):=by unfold Hid;rw[HTK.out,List.map_append,List.append_assoc];rfl
  have HUL:Hid ((([(1,z2,0),(1,zt,0)]++(L.take i).map (nmV via))).length=i+2):=by unfold Hid;rw[List.length_append,List.length_map,HLT.out];simp;omega
  generalize ([(1,z2,0),(1,zt,0)]++(L.take i).map (nmV via))=us_ at *
  cases via with
  |true=>
   have HK1:Hid (k=1):=HNL.out rfl
   have ei0:i=0:=by have:=HK1.out;omega
   subst ei0
   have ci':wr.cell? ⟨gn,2,none⟩=some (.int .i64 (iat L 0)):=ci
   have HCI:Hid (wr.cell? ⟨gn,2+0,none⟩=some (.int .i64 (iat L 0))):=ci
   generalize hz:iat L 0=z at *
   have q5:wr.cell? ⟨lb,5,none⟩=some (.int .i64 nd):=(HM.out.box 0 rfl).blk.cell (i:=5) rfl
   have f5:=(HM.out.box 0 rfl).blk.frozen 5
   have HMy:Hid (MS wc (wr.setCell ⟨lb,5,none⟩ (.int .i64 z)) [(lb,#[.int .i64 z1,.bool onl,.int .i64 z2,.int .i64 zt,.bool true,.int .i64 z,vr],47)] [(.slice (some ⟨gn,0,none⟩) m cn,(vsL (butK f 3))),(vr,(if true=true then [] else L.take 0))]):=HM.out.set 0 rfl 5 _
   have HUy:Hid (OwnN wc.heap.size (wr.setCell ⟨lb,5,none⟩ (.int .i64 z)) u13 us_):=row_setBT HUN.out (HM.out.box 0 rfl) (by decide) _ _
   clear HM HUN hzz
   go_upto_region 20 with fail
   generalize wr.setCell ⟨lb,5,none⟩ (.int .i64 z)=wy at *
   clear q5 f5 ci ci' cv
   go_wp2_with fail
   refine(nodeName_any z wy).mono ?_
   rintro e wz ⟨rfl,hxz⟩
   have HMz:=mkHid' (HMy.out.next hxz)
   have HUz:Hid (OwnN wc.heap.size wz u13 us_):=row_next HUy.out hxz
   have hzz:wc.heap.size<=wz.heap.size:=HMz.out.nx.size
   clear hxz HMy HUy
   go_wp2_with (at_builtin;refine app_nm rfl _ _ rfl wc.heap.size (0+2) u13 us_ (0,z,0) wz rfl HUz.out rfl HUL.out (by omega) hzz ?_)
   intro a2 c2 w8 r1 r2
   have HM8:=mkHid' (HMz.out.other HUz.out (Nat.le_refl _) (by decide) (λj p hp=>by
    match j,hp with
    |0,hp=>cases hp;show 47≠112;decide
    |j+1,hp=>simp at hp) r2)
   have HU8:=mkHid' r1
   clear r1 r2 HMz HUz hzz
   go_wp2
   go_roundw
   case rel=>exact⟨1,z,vr,by omega,by go_num,by unfold Hid;simp,HM8,by rw[HUS.out];exact HU8⟩
   case measure=>simp[intOf];omega
  |false=>
   generalize hz:iat L i=z at *
   obtain⟨ar_,cr_,er⟩:=row_slice (HM.out.row 1 rfl)
   have hli:(if false=true then [] else L.take i).length=i:=by rw[if_neg (by decide)];exact HLT.out
   rw[hli] at er
   subst er
   have HRL_:Hid ((if false=true then [] else L.take i).length=i):=hli
   have q6:wr.cell? ⟨lb,6,none⟩=some (.slice ar_ i cr_):=(HM.out.box 0 rfl).blk.cell (i:=6) rfl
   clear hli
   go_wp2_with (at_builtin;refine app_int rfl _ _ rfl wc.heap.size i (.slice ar_ i cr_) (if false=true then [] else L.take i) z wr rfl (HM.out.row 1 rfl) rfl HRL_.out (by omega) hzz ?_)
   intro a1 c1 wx r1 r2 r3
   have HMx:Hid (MS wc wx [(lb,#[.int .i64 z1,.bool onl,.int .i64 z2,.int .i64 zt,.bool false,.int .i64 nd,(.slice ar_ i cr_)],47)] [(.slice (some ⟨gn,0,none⟩) m cn,(vsL (butK f 3))),(.slice a1 (i+1) c1,(if false=true then [] else L.take i)++[z])]):=HM.out.grow 1 rfl r1 r2 r3
   have HUx:Hid (OwnN wc.heap.size wx u13 us_):=row_apart HUN.out (HM.out.row 1 rfl) (by decide) r2
   clear q6 HM HUN ci r1 r2 r3 hzz cv
   have q6:wx.cell? ⟨lb,6,none⟩=some (.slice ar_ i cr_):=(HMx.out.box 0 rfl).blk.cell (i:=6) rfl
   have f6:=(HMx.out.box 0 rfl).blk.frozen 6
   have HMy:Hid (MS wc (wx.setCell ⟨lb,6,none⟩ (.slice a1 (i+1) c1)) [(lb,#[.int .i64 z1,.bool onl,.int .i64 z2,.int .i64 zt,.bool false,.int .i64 nd,(.slice a1 (i+1) c1)],47)] [(.slice (some ⟨gn,0,none⟩) m cn,(vsL (butK f 3))),(.slice a1 (i+1) c1,(if false=true then [] else L.take i)++[z])]):=HMx.out.set 0 rfl 6 _
   have HUy:Hid (OwnN wc.heap.size (wx.setCell ⟨lb,6,none⟩ (.slice a1 (i+1) c1)) u13 us_):=row_setBT HUx.out (HMx.out.box 0 rfl) (by decide) _ _
   clear HMx HUx
   go_upto_region 22 with fail
   generalize wx.setCell ⟨lb,6,none⟩ (.slice a1 (i+1) c1)=wy at *
   clear q6 f6
   go_wp2_with fail
   refine(wayName_any z wy).mono ?_
   rintro e wz ⟨rfl,hxz⟩
   have HMz:=mkHid' (HMy.out.next hxz)
   have HUz:Hid (OwnN wc.heap.size wz u13 us_):=row_next HUy.out hxz
   have hzz:wc.heap.size<=wz.heap.size:=HMz.out.nx.size
   clear hxz HMy HUy
   go_wp2_with (at_builtin;refine app_nm rfl _ _ rfl wc.heap.size (i+2) u13 us_ (1,z,0) wz rfl HUz.out rfl HUL.out (by omega) hzz ?_)
   intro a2 c2 w8 r1 r2
   have HM8:=mkHid' (HMz.out.other HUz.out (Nat.le_refl _) (by decide) (λj p hp=>by
    match j,hp with
    |0,hp=>cases hp;show 47≠112;decide
    |j+1,hp=>simp at hp) r2)
   have HU8:=mkHid' r1
   clear r1 r2 HMz HUz hzz
   go_wp2
   go_roundw
   case rel=>exact⟨i+1,nd,.slice a1 (i+1) c1,by omega,by go_num,by rw[HND.out];unfold Hid;rw[if_neg (by decide),if_neg (by decide)],by
    have e:(if false=true then [] else L.take (i+1))=(if false=true then [] else L.take i)++[z]:=by rw[if_neg (by decide),if_neg (by decide),HTK.out]
    rw[e];exact HM8,by rw[HUS.out];exact HU8⟩
   case measure=>simp[intOf];omega
 have ei:i=k:=by omega
 subst ei
 go_wp2
 clear cv hlt hik HCN HVI
 have HWL:Hid ((if via=true then [] else L.take i)=(if via=true then [] else L)):=by
  unfold Hid
  rw[List.take_of_length_le (by rw[HVL.out];exact Nat.le_refl _)]
 have HNE:Hid (nd=(if via=true then iat L 0 else 0)):=by
  rw[HND.out]
  unfold Hid
  by_cases hv:via=true
  ·rw[if_pos hv,if_pos hv,if_neg (by omega)]
  ·rw[if_neg hv,if_neg hv]
 have HUE:Hid (([(1,z2,0),(1,zt,0)]++(L.take i).map (nmV via))=[(1,z2,0),(1,zt,0)]++L.map (nmV via)):=by
  unfold Hid
  rw[List.take_of_length_le (by rw[HVL.out];exact Nat.le_refl _)]
 rw[HWL.out] at HM
 rw[HUE.out] at HUN
 have HRD:Hid (rdS f=⟨3,z1,0,zWy,⟨z1,onl,z2,zt,via,nd,(if via=true then [] else L)⟩,0,(if via=true then L else []),[z2,zt]++(if via=true then [] else L)⟩):=by
  unfold Hid
  rw[HRD1.out]
  cases via with
  |true=>
   have hk1':i=1:=HNL.out rfl
   have hl1:L=[iat L 0]:=by
    have h:=HVL.out
    rw[hk1'] at h
    obtain⟨x,rfl⟩:=List.length_eq_one_iff.1 h
    rfl
   have hnd:nd=iat L 0:=by rw[HNE.out,if_pos rfl]
   rw[if_pos rfl,if_pos rfl,if_pos rfl,hnd,<-hl1]
   rfl
  |false=>
   have hnd:nd=0:=by rw[HNE.out,if_neg (by decide)]
   rw[if_neg (by decide),if_neg (by decide),if_neg (by decide),hnd]
 have HUF:Hid ([(1,z2,0),(1,zt,0)]++L.map (nmV via)=usesN (rdS f)):=by
  unfold Hid
  rw[HRD.out]
  cases via with
  |true=>simp[usesN,nmV]
  |false=>simp[usesN,nmV]
 clear HWL HNE HUE HRD1 HND HNL HVL
 generalize (if via=true then [] else L)=wl at *
 rw[HUF.out] at HUN
 clear HUF
 obtain⟨aR,cR,eR⟩:=row_slice HR.out.rl
 obtain⟨nR,hnR⟩:∃q,(rlO ps).length=q:=⟨_,rfl⟩
 have hnl:=rlO_le ps
 rw[hnR] at eR hnl
 subst eR
 have HLN:Hid ((rlO ps).length=nR):=hnR
 clear hnR
 have HWC:Hid (wc.heap.size<=lb):=(HM.out.bx 0 _ rfl).2.1
 have HNN:Hid (¬(some lb=(Value.slice aR nR cR).ownBlock)):=λe=>by
  have h1:=(own_lt HR.out.rl lb e.symm).2
  have h2:=HWC.out
  omega
 have HTR:Hid (lb≠rb):=by
  have h1:=HR.out.bx.lt
  have h2:=HWC.out
  unfold Hid;omega
 have HRT:=mkHid' HR.out.rlt
 obtain⟨ar_,cr_,er⟩:=row_slice (HM.out.row 1 rfl)
 generalize hlr:wl.length=lr at er
 clear hlr
 subst er
 obtain⟨au,cu,eu⟩:=row_slice HUN.out
 generalize hlu:(usesN (rdS f)).length=lu at eu
 clear hlu
 subst eu
 have HVR:=mkHid' (HM.out.row 1 rfl)
 have HWX:Hid (BT wr lb #[.int .i64 z1,.bool onl,.int .i64 z2,.int .i64 zt,.bool via,.int .i64 nd,.slice ar_ lr cr_] 47):=HM.out.box 0 rfl
 have HR2:=mkHid' (HR.out.next HM.out.nx)
 have HW0:Hid (w0.heap.size<=wc.heap.size):=HR.out.nx.size
 clear HM HR HX1 hm0 hm1 hm0' hlm' hml hwl hlk hlm HM3 hcap2 HBL2
 go_upto_region 24 with fail
 have hxd:Nx wr wr.drew:=(Below.refl _ _).drew
 have HD:=mkHid' (HR2.out.next hxd)
 have HB2:=mkHid' (HWX.out.next hxd)
 have HV2:=mkHid' (row_next HVR.out hxd)
 have HU2:=mkHid' (row_next HUN.out hxd)
 have HSS:Hid ((λq=>q.cell? ⟨rb,2,none⟩=some (.slice aR nR cR)/\q.cell? ⟨lb,0,none⟩=some (.int .i64 z1)/\q.cell? ⟨lb,1,none⟩=some (.bool onl)/\q.cell? ⟨lb,2,none⟩=some (.int .i64 z2)/\q.cell? ⟨lb,3,none⟩=some (.int .i64 zt)/\q.cell? ⟨lb,4,none⟩=some (.bool via)/\q.cell? ⟨lb,5,none⟩=some (.int .i64 nd)/\q.cell? ⟨lb,6,none⟩=some (.slice ar_ lr cr_)) wr.drew):=⟨cellq hxd (HR2.out.bx.blk.cell (i:=2) rfl),cellq hxd (HWX.out.blk.cell (i:=0) rfl),cellq hxd (HWX.out.blk.cell (i:=1) rfl),cellq hxd (HWX.out.blk.cell (i:=2) rfl),cellq hxd (HWX.out.blk.cell (i:=3) rfl),cellq hxd (HWX.out.blk.cell (i:=4) rfl),cellq hxd (HWX.out.blk.cell (i:=5) rfl),cellq hxd (HWX.out.blk.cell (i:=6) rfl)⟩
 clear HR2 hxd HWX HVR HUN
 refine(wpIn_wide (n:=9)).1 ?_
 refine wpIn_region_S (c:=12) (S:=λq=>q.cell? ⟨rb,2,none⟩=some (.slice aR nR cR)/\q.cell? ⟨lb,0,none⟩=some (.int .i64 z1)/\q.cell? ⟨lb,1,none⟩=some (.bool onl)/\q.cell? ⟨lb,2,none⟩=some (.int .i64 z2)/\q.cell? ⟨lb,3,none⟩=some (.int .i64 zt)/\q.cell? ⟨lb,4,none⟩=some (.bool via)/\q.cell? ⟨lb,5,none⟩=some (.int .i64 nd)/\q.cell? ⟨lb,6,none⟩=some (.slice ar_ lr cr_)) hmx (by kernel_rfl) (λhw hcl=>?_)
 generalize wr.drew=wd at *
 refine tq (i:=0) (v:=.pointer (some ⟨rb,0,none⟩)) (λhcl=>?_)
 refine tq (i:=1) (v:=.pointer (some ⟨rb,0,none⟩)) (λhcl=>?_)
 refine tq (i:=2) (v:=.pointer (some ⟨rb,0,none⟩)) (λhcl=>?_)
 refine tq (i:=3) (v:=.pointer (some ⟨rb,0,none⟩)) (λhcl=>?_)
 refine tq (i:=4) (v:=.pointer (some ⟨rb,2,none⟩)) (λhcl=>?_)
 refine tq (i:=5) (v:=.slice aR nR cR) (λhcl=>?_)
 refine tq (i:=6) (v:=.agg #[.int .i64 z1,.bool onl,.int .i64 z2,.int .i64 zt,.bool via,.int .i64 nd,.slice ar_ lr cr_]) (λhcl=>?_)
 refine anyS_one2 (i:=7) (by kernel_rfl) hcl (λhcl=>wpOpIn_step rfl (λK hK=>?_))
 go_simp
 refine hK _ _ ⟨Or.inr ⟨cellq (box1 _ _) HSS.out.1,cellq (box1 _ _) HSS.out.2.1,cellq (box1 _ _) HSS.out.2.2.1,cellq (box1 _ _) HSS.out.2.2.2.1,cellq (box1 _ _) HSS.out.2.2.2.2.1,cellq (box1 _ _) HSS.out.2.2.2.2.2.1,cellq (box1 _ _) HSS.out.2.2.2.2.2.2.1,cellq (box1 _ _) HSS.out.2.2.2.2.2.2.2⟩,?_⟩
 clear hK K
 have hzz:w0.heap.size<=wd.heap.size:=HD.out.nx.size
 refine anyS_one2 (i:=8) (by kernel_rfl) hcl (λhcl=>wpOpIn_step rfl (λK hK=>?_))
 refine app_rv_in rfl (.tmp 121) (.tmp 123) rfl w0.heap.size nR (.slice aR nR cR) (rlO ps) ((⟨z1,onl,z2,zt,via,nd,wl⟩,.slice ar_ lr cr_)) wd _ rfl (by simp[Act.eval]) HD.out.rl (by simp[Act.eval]) HLN.out (by intro u hu;simp[rvL,relL] at hu;rcases hu with rfl|rfl|rfl|rfl|rfl|rfl|rfl<;>rfl) (by omega) hzz ?_
 intro a1 c1 wx r1 r2
 obtain⟨hbx,hrm⟩:=HD.out.growR r1 r2
 have HBX:=mkHid' hbx
 have HRX:=mkHid' hrm
 have HB3:=mkHid' (HB2.out.chg r2 HNN.out)
 have HB4:=mkHid' (HB3.out.setOther HTR.out 2 (.slice a1 (nR+1) c1))
 have HV4:=mkHid' (row_setBT (row_apart HV2.out HD.out.rl (by decide) r2) HBX.out (by decide) 2 (.slice a1 (nR+1) c1))
 have HU4:=mkHid' (row_setBT (row_apart HU2.out HD.out.rl (by decide) r2) HBX.out (by decide) 2 (.slice a1 (nR+1) c1))
 have HSY:Hid ((λq=>q.cell? ⟨rb,2,none⟩=some (.slice aR nR cR)/\q.cell? ⟨lb,0,none⟩=some (.int .i64 z1)/\q.cell? ⟨lb,1,none⟩=some (.bool onl)/\q.cell? ⟨lb,2,none⟩=some (.int .i64 z2)/\q.cell? ⟨lb,3,none⟩=some (.int .i64 zt)/\q.cell? ⟨lb,4,none⟩=some (.bool via)/\q.cell? ⟨lb,5,none⟩=some (.int .i64 nd)/\q.cell? ⟨lb,6,none⟩=some (.slice ar_ lr cr_)) wx):=⟨HBX.out.blk.cell (i:=2) rfl,HB3.out.blk.cell (i:=0) rfl,HB3.out.blk.cell (i:=1) rfl,HB3.out.blk.cell (i:=2) rfl,HB3.out.blk.cell (i:=3) rfl,HB3.out.blk.cell (i:=4) rfl,HB3.out.blk.cell (i:=5) rfl,HB3.out.blk.cell (i:=6) rfl⟩
 clear HSS
 have HSS:=HSY
 clear HSY
 refine hK _ _ ⟨Or.inr HSS.out,?_⟩
 clear hK K
 clear hrm hbx r1 r2 hzz HD HB2 HB3 HV2 HU2
 refine tq (i:=9) (v:=.pointer (some ⟨rb,0,none⟩)) (λhcl=>?_)
 refine tq (i:=10) (v:=.pointer (some ⟨rb,0,none⟩)) (λhcl=>?_)
 refine tq (i:=11) (v:=.pointer (some ⟨rb,2,none⟩)) (λhcl=>?_)
 have q_:wx.cell? ⟨rb,2,none⟩=some (.slice aR nR cR):=HBX.out.blk.cell (i:=2) rfl
 have f_:=HBX.out.blk.frozen 2
 refine anyS_one (i:=12) (by kernel_rfl) (wpOpIn_step rfl (λK hK=>?_))
 go_simp
 refine hK _ _ ⟨Or.inl (by decide),?_⟩
 clear hK K
 refine anyS_done (by kernel_rfl) ?_ _
 clear hw hcl q_ f_ HSS HBX
 generalize wx.setCell ⟨rb,2,none⟩ (.slice a1 (nR+1) c1)=w3 at *
 have HRA:Hid (RM w0 w3 rb vN vW (.slice a1 (nR+1) c1) vT (utO ps) line vL (ndO ps) (wyO ps) (rlO ps++[(⟨z1,onl,z2,zt,via,nd,wl⟩,.slice ar_ lr cr_)]) (tnO ps) (lnO ps) (irO ps++[(.slice ar_ lr cr_,wl)])):=by
  refine HRX.out.addRows (λr hr=>?_) (List.pairwise_singleton _ _) (λa ha b hb g hg e=>?_)
  ·rw[List.mem_singleton.1 hr];exact row_base HV4.out HW0.out
  ·have h1:=HRT.out a ha g hg
   rw[List.mem_singleton.1 hb] at e
   have h2:=(own_lt HV4.out g e).1
   omega
 have HU5:Hid (OwnN w0.heap.size w3 (.slice au lu cu) (usesN (rdS f))):=row_base HU4.out HW0.out
 have c0:w3.cell? ⟨lb,0,none⟩=some (.int .i64 z1):=HB4.out.blk.cell (i:=0) rfl
 clear HRX HV4 HU4 HRT HB4
 go_wp2_with fail
 refine(note_any w0 rb _ _ _ _ _ line vL _ _ _ _ _ _ w3 HRA.out HLL.out 2 z1 0 (usesN (rdS f)) (.slice au lu cu) HU5.out).mono ?_
 rintro e w5 ⟨rfl,vL',hr5⟩
 have HR5:=mkHid' hr5
 clear hr5 HRA HU5 c0
 go_wp2
 go_ret
 refine Or.inl ⟨HC0.out,rfl,⟨rdS f,line,.slice none 0 0,.slice none 0 0,.slice ar_ lr cr_,.slice au lu cu⟩,rfl,rfl,vN,vW,.slice a1 (nR+1) c1,vT,vL',?_⟩
 have h5:=HR5.out
 rw[utO_snoc,ndO_snoc,wyO_snoc,rlO_snoc,tnO_snoc,irO_snoc,lnO_snoc]
 unfold ndP wyP rlP tnP irP lnP
 dsimp only
 generalize usesN (rdS f)=us at h5 ⊢
 simpa [selfN,HRD.out] using h5
theorem readNo_any (w0:World)(rb:Nat)(line:Int)(ps:List Px)(w:World)(h:RMx w0 w rb line ps)(hps:ps.length<=300000)(C g n c:Nat)(f:List ByteArray)(hf:OwnSt C w (.slice (some ⟨g,0,none⟩) n c) f)(hn:f.length=n)(hn1:n<=300001)(hs:∀i,i<f.length->(sat f i).size<=300000)(hw:(sat f 0).toList=[110,111]) :
  Calls Tryz.prog 52 #[.pointer (some ⟨rb,0,none⟩),.slice (some ⟨g,0,none⟩) n c] w λe w'=>ReadR w0 w w' rb line ps f e:=by
 have HC:=mkHid' (readRel_any w0 rb line ps w h hps C g n c f hf hn hn1 hs false (by rw[hw];rfl) (by unfold relB;rw[hw];rfl))
 clear h hf hn hs hw
 go_enter Tryz.func52,Tryz.ntmps52
 go_wp2_with fail
 refine HC.out.mono ?_
 rintro e w' (⟨h0,rfl,h1⟩|⟨h0,v,rfl,h1⟩)
 ·have HH:Hid (ReadR w0 w w' rb line ps f (.returned .nilIface)):=Or.inl ⟨h0,rfl,h1⟩
  clear h0 h1 HC
  go_wp2
  go_ret
  exact HH.out
 ·have HH:Hid (ReadR w0 w w' rb line ps f (.returned v)):=Or.inr ⟨h0,v,rfl,h1⟩
  clear h0 h1 HC
  go_wp2
  go_ret
  exact HH.out
theorem readOnly_any (w0:World)(rb:Nat)(line:Int)(ps:List Px)(w:World)(h:RMx w0 w rb line ps)(hps:ps.length<=300000)(C g n c:Nat)(f:List ByteArray)(hf:OwnSt C w (.slice (some ⟨g,0,none⟩) n c) f)(hn:f.length=n)(hn1:n<=300001)(hs:∀i,i<f.length->(sat f i).size<=300000)(hw:(sat f 0).toList=[111,110,108,121]) :
  Calls Tryz.prog 53 #[.pointer (some ⟨rb,0,none⟩),.slice (some ⟨g,0,none⟩) n c] w λe w'=>ReadR w0 w w' rb line ps f e:=by
 have HC:=mkHid' (readRel_any w0 rb line ps w h hps C g n c f hf hn hn1 hs true (by rw[hw];rfl) (by unfold relB;rw[hw];rfl))
 clear h hf hn hs hw
 go_enter Tryz.func53,Tryz.ntmps53
 go_wp2_with fail
 refine HC.out.mono ?_
 rintro e w' (⟨h0,rfl,h1⟩|⟨h0,v,rfl,h1⟩)
 ·have HH:Hid (ReadR w0 w w' rb line ps f (.returned .nilIface)):=Or.inl ⟨h0,rfl,h1⟩
  clear h0 h1 HC
  go_wp2
  go_ret
  exact HH.out
 ·have HH:Hid (ReadR w0 w w' rb line ps f (.returned v)):=Or.inr ⟨h0,v,rfl,h1⟩
  clear h0 h1 HC
  go_wp2
  go_ret
  exact HH.out
def extH (b:UInt8):List (List UInt8)->List (List UInt8)
 |[]=>[[b]]
 |x::xs=>(b::x)::xs
def sp (c:UInt8):List UInt8->List (List UInt8)
 |[]=>[[]]
 |b::l=>if b=c then []::sp c l else extH b (sp c l)
theorem split_sp (c:UInt8):∀s:List UInt8,Lib.splitK [c] 0 (Lib.count s [c]) s=sp c s
 |[]=>by rw[Lib.count_one];rfl
 |b::l=>by
  have ih:=split_sp c l
  by_cases h:b=c
  ·subst h
   have hix:Lib.index (b::l) [b]=0:=by rw[Lib.index];simp[List.isPrefixOf]
   rw[Lib.count_cons_eq,Nat.add_comm,Lib.splitK,hix,if_neg (by decide),sp,if_pos rfl]
   simp[ih]
  ·have hp:([c]:List UInt8).isPrefixOf (b::l)=false:=by simp[List.isPrefixOf,Ne.symm h]
   have hix:Lib.index (b::l) [c]=if Lib.index l [c]==-1 then -1 else Lib.index l [c]+1:=by rw[Lib.index,hp];simp
   rw[Lib.count_cons_ne b c l h,sp,if_neg h,<-ih]
   by_cases hm:Lib.index l [c]=-1
   ·rw[Lib.count_miss hm];rfl
   ·have hge:=Lib.index_ge l [c]
    obtain⟨j,hj⟩:∃j:Nat,Lib.index l [c]=j:=⟨(Lib.index l [c]).toNat,by omega⟩
    have hix':Lib.index (b::l) [c]=((j+1:Nat):Int):=by rw[hix,if_neg (λe=>hm (beq_iff_eq.1 e)),hj];omega
    rw[Lib.count_hit (by simp) hj,Nat.add_comm,Lib.splitK,Lib.splitK,hix',hj,if_neg (λe=>by have:=beq_iff_eq.1 e;omega),if_neg (λe=>by have:=beq_iff_eq.1 e;omega)]
    simp[extH]
theorem sp_snoc (c b:UInt8):∀l:List UInt8,∃A x,sp c l=A++[x]/\sp c (l++[b])=if b=c then A++[x]++[[]] else A++[x++[b]]
 |[]=>⟨[],[],rfl,by by_cases h:b=c<;>simp[sp,h,extH]⟩
 |a::l=>by
  obtain⟨A,x,e1,e2⟩:=sp_snoc c b l
  by_cases h:a=c
  ·refine⟨[]::A,x,by rw[sp,if_pos h,e1];rfl,?_⟩
   rw[List.cons_append,sp,if_pos h,e2]
   split<;>rfl
  ·cases A with
   |nil=>
    refine⟨[],a::x,by rw[sp,if_neg h,e1];rfl,?_⟩
    rw[List.cons_append,sp,if_neg h,e2]
    split<;>rfl
   |cons y A=>
    refine⟨(a::y)::A,x,by rw[sp,if_neg h,e1];rfl,?_⟩
    rw[List.cons_append,sp,if_neg h,e2]
    split<;>rfl
theorem ctTo_sp (bs:List UInt8)(c:UInt8):∀k,k<=bs.length->∃A x,sp c (bs.take k)=A++[x]/\(ctTo bs c k).1=A.map stOf/\(bs.take k).drop (ctTo bs c k).2=x
 |0,_=>⟨[],[],rfl,rfl,rfl⟩
 |k+1,hk=>by
  obtain⟨A,x,e1,e2,e3⟩:=ctTo_sp bs c k (by omega)
  have hl:(ctTo bs c k).2<=k:=(ctTo_le bs c k).1
  have eb:bs.getD k 0=bs[k]:=by simp[List.getD_eq_getElem?_getD,show k<bs.length by omega]
  have et:bs.take (k+1)=bs.take k++[bs[k]]:=List.take_succ_eq_append_getElem (by omega)
  obtain⟨A',x',f1,f2⟩:=sp_snoc c bs[k] (bs.take k)
  rw[e1] at f1
  obtain⟨rfl,hx⟩:=List.append_inj' f1 rfl
  have hx':x=x':=by simpa using hx
  subst hx'
  rw[et,f2]
  unfold ctTo
  rw[eb]
  by_cases h:bs[k]=c
  ·rw[if_pos h,if_pos h]
   refine⟨A++[x],[],rfl,?_,by rw[List.drop_eq_nil_of_le];simp;omega⟩
   have ex:(bs.drop (ctTo bs c k).2).take (k-(ctTo bs c k).2)=x:=by rw[<-e3,List.drop_take]
   rw[e2,ex];simp
  ·rw[if_neg h,if_neg h]
   refine⟨A,x++[bs[k]],rfl,e2,?_⟩
   rw[List.drop_append_of_le_length (by simp;omega),e3]
theorem cutL_sp (bs:List UInt8)(c:UInt8):cutL bs c=(sp c bs).map stOf:=by
 obtain⟨A,x,e1,e2,e3⟩:=ctTo_sp bs c bs.length (Nat.le_refl _)
 rw[List.take_length] at e1 e3
 unfold cutL
 rw[e2,e3,e1];simp
def bad (b:UInt8)(af:Bool):Bool:=decide (b.toNat<32)||(decide (126<b.toNat)||(decide (b.toNat=32)&&af))
def lk:Bool->List UInt8->Bool
 |af,[]=>!af
 |af,b::l=>if bad b af=true then false else lk (decide (b.toNat=32)) l
def okA (x:List UInt8):Bool:=x.all λb=>decide (33<=b.toNat)&&decide (b.toNat<=126)
def okL (x:List UInt8):Bool:=!x.isEmpty&&okA x
theorem eq32 (b:UInt8):b=32↔b.toNat=32:=⟨λh=>by rw[h];rfl,λh=>UInt8.toNat_inj.1 h⟩
theorem lk_sp:∀l:List UInt8,∃x xs,sp 32 l=x::xs/\lk false l=(okA x&&xs.all okL)/\lk true l=(okL x&&xs.all okL)
 |[]=>⟨[],[],rfl,rfl,rfl⟩
 |b::l=>by
  obtain⟨x,xs,e1,e2,e3⟩:=lk_sp l
  by_cases h:b=32
  ·have hn:=(eq32 b).1 h
   refine⟨[],x::xs,by rw[sp,if_pos h,e1],?_,?_⟩
   ·simp[lk,bad,hn,e3,okA]
   ·simp[lk,bad,hn,okL]
  ·have hn:¬b.toNat=32:=λe=>h ((eq32 b).2 e)
   refine⟨b::x,xs,by rw[sp,if_neg h,e1];rfl,?_,?_⟩
   ·by_cases h1:b.toNat<32
    ·simp[lk,bad,h1,okA,show ¬33<=b.toNat by omega]
    ·by_cases h2:126<b.toNat
     ·simp[lk,bad,h2,okA,show ¬b.toNat<=126 by omega]
     ·simp[lk,bad,h1,h2,hn,e2,okA,show 33<=b.toNat by omega,show b.toNat<=126 by omega]
   ·by_cases h1:b.toNat<32
    ·simp[lk,bad,h1,okL,okA,show ¬33<=b.toNat by omega]
    ·by_cases h2:126<b.toNat
     ·simp[lk,bad,h2,okL,okA,show ¬b.toNat<=126 by omega]
     ·simp[lk,bad,h1,h2,hn,e2,okL,okA,show 33<=b.toNat by omega,show b.toNat<=126 by omega]
theorem bt_stOf (x:List UInt8)(i:Nat):bt (stOf x) i=(x.getD i 0).toNat:=rfl
theorem okF_stOf (x:List UInt8):okF (stOf x)=okL x:=by
 unfold okF okL
 rw[stOf_size]
 cases x with
 |nil=>rfl
 |cons b l=>
  have e:allN (b::l).length (okC (stOf (b::l)))=okA (b::l):=by
   rw[Bool.eq_iff_iff]
   unfold allN okA
   rw[List.all_eq_true,List.all_eq_true]
   constructor
   ·intro h y hy
    obtain⟨i,hi,rfl⟩:=List.mem_iff_getElem.1 hy
    have:=h i (List.mem_range.2 hi)
    unfold okC at this
    rw[bt_stOf] at this
    have e:(b::l).getD i 0=(b::l)[i]:=by rw[List.getD_eq_getElem?_getD,List.getElem?_eq_getElem hi];rfl
    rw[e] at this;exact this
   ·intro h i hi
    have hi':=List.mem_range.1 hi
    have:=h (b::l)[i] (List.getElem_mem hi')
    unfold okC
    rw[bt_stOf]
    have e:(b::l).getD i 0=(b::l)[i]:=by rw[List.getD_eq_getElem?_getD,List.getElem?_eq_getElem hi'];rfl
    rw[e];exact this
  rw[e]
  simp
theorem fldS_lk (bs:List UInt8):fldS (stOf bs)=if lk true bs=true then (sp 32 bs).map stOf else []:=by
 have e:cutS (stOf bs)=(sp 32 bs).map stOf:=cutL_sp bs 32
 obtain⟨x,xs,e1,-,e3⟩:=lk_sp bs
 unfold fldS
 rw[e]
 have ea:allN ((sp 32 bs).map stOf).length (λi=>okF (sat ((sp 32 bs).map stOf) i))=lk true bs:=by
  rw[e3,e1,Bool.eq_iff_iff]
  have e4:(okL x&&xs.all okL)=(x::xs).all okL:=rfl
  rw[e4]
  unfold allN
  rw[List.all_eq_true,List.all_eq_true]
  have ek:∀i (hi:i<(x::xs).length),sat ((x::xs).map stOf) i=stOf (x::xs)[i]:=λi hi=>by
   unfold sat
   rw[List.getD_eq_getElem?_getD,List.getElem?_map,List.getElem?_eq_getElem hi];rfl
  constructor
  ·intro h y hy
   obtain⟨i,hi,rfl⟩:=List.mem_iff_getElem.1 hy
   have:=h i (List.mem_range.2 (by rw[List.length_map];exact hi))
   rw[ek i hi,okF_stOf] at this
   exact this
  ·intro h i hi
   have hi':i<(x::xs).length:=by have:=List.mem_range.1 hi;rwa [List.length_map] at this
   rw[ek i hi',okF_stOf]
   exact h _ (List.getElem_mem hi')
 rw[ea]
theorem sp_ne (c:UInt8)(l:List UInt8):0<(sp c l).length:=by
 cases l with
 |nil=>exact Nat.one_pos
 |cons b l=>
  rw[sp]
  split
  ·simp
  ·cases sp c l<;>simp[extH]
end Go.Proofs.YthhkjbfkgdlkmaaGreatDoor
namespace Go.Proofs.YthhkjbfkgdlkmaaGreatDoor
open Go.RowKit Go.Sort Go.Shelf
set_option linter.unusedVariables false
set_option maxRecDepth 1000000
set_option maxHeartbeats 16000000
def HBz (w:World)(a:Option Addr)(bs:List UInt8):Prop:=0<bs.length->∃b off,a=some ⟨b,off,none⟩/\∀i,i<bs.length->w.cell? ⟨b,off+i,none⟩=some (.int .u8 (byteAt bs i))
theorem HBz.next {w w':World}{a:Option Addr}{bs:List UInt8}(h:HBz w a bs)(k:Nx w w'):HBz w' a bs:=λhp=>by
 obtain⟨b,off,e,hc⟩:=h hp
 exact⟨b,off,e,λi hi=>cellq k (hc i hi)⟩
def Gl (w:World):Prop:=∃m,w.cell? ⟨Tryz.splitS_ren.g 1,0,none⟩=some (.int .i64 m)
theorem Gl.next {w w':World}(h:Gl w)(k:Nx w w'):Gl w':=by
 obtain⟨m,hm⟩:=h
 exact⟨m,cellq k hm⟩
theorem lk_cons {bs:List UInt8}{i:Nat}(h:i<bs.length)(af:Bool):lk af (bs.drop i)=if bad bs[i] af=true then false else lk (decide (bs[i].toNat=32)) (bs.drop (i+1)):=by
 rw[List.drop_eq_getElem_cons h,lk]
theorem split_own (s:ByteArray)(w:World)(hs:s.size<=300000)(hG:Gl w) :
  Calls Tryz.prog 79 #[.string s,.string ⟨#[32]⟩] w λe w'=>(∃v,e=.returned v/\OwnSt w.heap.size w' v ((sp 32 s.data.toList).map stOf))/\Nx w w':=by
 obtain⟨m,hm⟩:=hG
 have h:=Any.strings_Split Tryz.splitS infoStr9 s ⟨#[32]⟩ m w (by omega) hm (by decide)
 refine h.mono ?_
 rintro e w' ⟨rfl,rfl⟩
 have hd:=Lib.splitB_data ⟨#[32]⟩ 0 (Lib.countB s ⟨#[32]⟩) s
 have hd2:(Lib.splitB ⟨#[32]⟩ 0 (Lib.countB s ⟨#[32]⟩) s).map (·.data.toList)=sp 32 s.data.toList:=by rw[hd];exact split_sp 32 s.data.toList
 have hl:=Lib.splitB_all ⟨#[32]⟩ (by decide) 0 _ s rfl
 have es:(sp 32 s.data.toList).map stOf=Lib.splitB ⟨#[32]⟩ 0 (Lib.countB s ⟨#[32]⟩) s:=by
  rw[<-hd2,List.map_map]
  have:(stOf ∘ λx:ByteArray=>x.data.toList)=id:=by funext x;rfl
  rw[this,List.map_id]
 have hc:=Lib.countB_le ⟨#[32]⟩ (by decide) s.size s (Nat.le_refl _)
 rw[es]
 generalize Lib.splitB ⟨#[32]⟩ 0 (Lib.countB s ⟨#[32]⟩) s=ps at *
 generalize Lib.countB s ⟨#[32]⟩=k at *
 refine⟨⟨_,rfl,?_⟩,box1 _ _⟩
 unfold OwnSt
 rw[hl]
 exact⟨by simp[hl],Or.inr ⟨w.heap.size,k+1,(ps.map Value.string).toArray,rfl,Nat.le_refl _,by show(w.heap.push _)[w.heap.size]?=_;simp;rfl,Nat.le_refl _,by unfold maxLen;omega,by simp[hl],by simp;rw[List.take_of_length_le (by simp[hl])]⟩⟩
theorem splitF_any (a:Option Addr)(n c:Nat)(bs:List UInt8)(w:World)(h:HBz w a bs)(hn:bs.length=n)(hl:n<=300000)(hG:Gl w) :
  Calls Tryz.prog 56 #[.slice a n c] w λe w'=>((lk true bs=true/\∃v,e=.returned (.tuple #[v,.bool true])/\OwnSt w.heap.size w' v (fldS (stOf bs)))\/(lk true bs=false/\e=.returned (.tuple #[.slice none 0 0,.bool false])))/\Nx w w':=by
 have HH:=mkHid' h
 have HN:=mkHid' hn
 have HG:=mkHid' hG
 clear h hn hG
 go_enter Tryz.func56,Tryz.ntmps56
 go_wp2
 go_loopw [4,9] (λs4 s9 wr=>∃(i:Nat) (af:Bool),i<=n/\s9=.int .i64 i/\s4=.bool af/\Hid (lk true bs=lk af (bs.drop i))/\Hid (w=wr)) (λ_ s9 _=>n-(intOf s9).toNat)
 case atStart=>exact⟨0,true,Nat.zero_le _,rfl,rfl,rfl,rfl⟩
 obtain⟨i,af,hin,rfl,rfl,HK,hww⟩:=hrel
 have hww2:=hww.out
 subst hww2
 clear hww
 by_cases hlt:i<n
 ·have hlt':(i:Int)<(n:Int):=by omega
  have hib:i<bs.length:=by rw[HN.out];exact hlt
  obtain⟨b,off,ea,hc⟩:=HH.out (by omega)
  subst ea
  have ci:=hc i hib
  have eb:byteAt bs i=(bs[i].toNat:Int):=by simp[byteAt,List.getD_eq_getElem?_getD,hib]
  rw[eb] at ci
  have HLC:=mkHid' (lk_cons hib af)
  have h256:=bs[i].toNat_lt
  have HBD:Hid (bad bs[i] af=(decide (bs[i].toNat<32)||(decide (126<bs[i].toNat)||(decide (bs[i].toNat=32)&&af)))):=rfl
  clear hc eb
  generalize bs[i]=bi at *
  generalize bi.toNat=y at *
  by_cases h1:y<32
  ·have d1:(y:Int)<32:=by omega
   have HF:Hid (lk true bs=false):=by unfold Hid;rw[HK.out,HLC.out,HBD.out,decide_eq_true h1];rfl
   go_wp2
   go_ret2
   exact⟨Or.inr ⟨HF.out,rfl⟩,Nx.refl _⟩
  have d1:¬(y:Int)<32:=by omega
  by_cases h2:126<y
  ·have d2:(126:Int)<(y:Int):=by omega
   have HF:Hid (lk true bs=false):=by unfold Hid;rw[HK.out,HLC.out,HBD.out,decide_eq_true h2,decide_eq_false h1];rfl
   go_wp2
   go_ret2
   exact⟨Or.inr ⟨HF.out,rfl⟩,Nx.refl _⟩
  have d2:¬(126:Int)<(y:Int):=by omega
  by_cases h3:y=32
  ·subst h3
   cases af with
   |true=>
    have HF:Hid (lk true bs=false):=by unfold Hid;rw[HK.out,HLC.out,HBD.out];rfl
    go_wp2
    go_ret2
    exact⟨Or.inr ⟨HF.out,rfl⟩,Nx.refl _⟩
   |false=>
    have HK2:Hid (lk true bs=lk true (bs.drop (i+1))):=by unfold Hid;rw[HK.out,HLC.out,HBD.out];rfl
    go_wp2
    go_roundw
    case rel=>exact⟨i+1,true,by omega,by go_num,rfl,HK2,(trivial:True)⟩
    case measure=>simp[intOf];omega
  ·have d3:((y:Int)==32)=false:=by simp;omega
   have d3':¬(y:Int)=32:=by omega
   have HK2:Hid (lk true bs=lk false (bs.drop (i+1))):=by unfold Hid;rw[HK.out,HLC.out,HBD.out,decide_eq_false h1,decide_eq_false h2,decide_eq_false h3];rfl
   go_wp2
   go_roundw
   case rel=>exact⟨i+1,false,by omega,by go_num,rfl,HK2,(trivial:True)⟩
   case measure=>simp[intOf];omega
 have ei:i=n:=by omega
 subst ei
 have HKE:Hid (lk true bs=!af):=by unfold Hid;rw[HK.out,List.drop_of_length_le (by rw[HN.out];exact Nat.le_refl _)];rfl
 clear HK hlt hin
 cases af with
 |true=>
  go_wp2
  go_ret2
  exact⟨Or.inr ⟨HKE.out,rfl⟩,Nx.refl _⟩
 |false=>
  have HLK:Hid (lk true bs=true):=HKE.out
  have hp:0<bs.length:=by
   cases bs with
   |nil=>exact absurd HLK.out (by decide)
   |cons x xs=>simp
  obtain⟨b,off,ea,hc⟩:=HH.out hp
  subst ea
  have HCV:Hid ((convert 22 9 (.slice (some ⟨b,off,none⟩) i c)).run Tryz.prog w=.ok (.string (stOf bs)) w):=conv_at w b off i c bs HN.out (λj hj=>hc j (by rw[HN.out];exact hj))
  have hcv:=HCV.out
  clear hc hp HCV
  go_wp2_with fail
  refine(split_own (stOf bs) w (by rw[stOf_size,HN.out];exact hl) HG.out).mono ?_
  rintro e w2 ⟨⟨v,rfl,ho⟩,hx⟩
  have HO:Hid (OwnSt w.heap.size w2 v (fldS (stOf bs))):=by unfold Hid;rw[fldS_lk,if_pos HLK.out];exact ho
  have HX:=mkHid' hx
  clear ho hx hcv
  go_wp2
  go_ret2
  exact⟨Or.inl ⟨HLK.out,_,rfl,HO.out⟩,HX.out⟩
def putM (w:World)(mb:Nat)(o:Obj):World:={ w with heap:=w.heap.setIfInBounds mb o }
theorem putM_at {w:World}{mb:Nat}{o o':Obj}(h:w.heap[mb]?=some o):(putM w mb o').heap[mb]?=some o':=by
 have hl:=(Array.getElem?_eq_some_iff.1 h).1
 simp[putM,hl]
theorem putM_chg (w:World)(mb:Nat)(o:Obj):Chg (λx=>x=mb) w (putM w mb o):=⟨rfl,rfl,rfl,by simp[putM],λx hx hn=>by
 have hn':¬mb=x:=λe=>hn e.symm
 simp[putM,hn']⟩
theorem getM {w:World}{mb clock:Nat}{es:Array MapEntry}(hb:w.heap[mb]?=some (.map es clock)):(getObj mb).run Tryz.prog w=.ok (.map es clock) w:=by simp[getObj,Sem.run,hb]
theorem setM {w:World}{mb clock:Nat}{es:Array MapEntry}(o:Obj)(hb:w.heap[mb]?=some (.map es clock)):(setObj mb o).run Tryz.prog w=.ok () (putM w mb o):=by simp[setObj,Sem.run,hb,putM]
theorem run_putM {t keyT el:TypeId}{w:World}{mb clock:Nat}{es:Array MapEntry}{key v:Value}(ht:Tryz.prog.underlying t=some (.map keyT el))(hb:w.heap[mb]?=some (.map es clock))(hck:(Instr.checkKey false 10000 keyT key).run Tryz.prog w=.ok () w)(hf:(Instr.findKey keyT key es.toList).run Tryz.prog w=.ok none w) :
  (Instr.mapUpdate t (.map (some mb)) key v).run Tryz.prog w=.ok () (putM w mb (.map (es.push ⟨key,v,clock⟩) (clock+1))):=by
 simp[Instr.mapUpdate,run_underlying ht,getM hb,hck,hf,setM _ hb]
def lookR (z:Value):Option (Nat×Value)->Value
 |some p=>.tuple #[p.2,.bool true]
 |none=>.tuple #[z,.bool false]
theorem run_lookM {t keyT el:TypeId}{w:World}{mb clock:Nat}{es:Array MapEntry}{key:Value}{r:Option (Nat×Value)}{z:Value}(ht:Tryz.prog.underlying t=some (.map keyT el))(hb:w.heap[mb]?=some (.map es clock))(hck:∀b,(Instr.checkKey b 10000 keyT key).run Tryz.prog w=.ok () w)(hf:(Instr.findKey keyT key es.toList).run Tryz.prog w=.ok r w)(hz:(zeroValue el).run Tryz.prog w=.ok z w) :
  (Instr.lookup t (.map (some mb)) key true).run Tryz.prog w=.ok (lookR z r) w:=by
 cases r with
 |none=>simp[Instr.lookup,run_underlying ht,getM hb,hck,hf,hz,lookR]
 |some p=>simp[Instr.lookup,run_underlying ht,getM hb,hck,hf,lookR]
theorem check_str (b:Bool)(s:ByteArray)(w:World):(Instr.checkKey b 10000 9 (.string s)).run Tryz.prog w=.ok () w:=by
 show(Instr.checkKey b (9999+1) 9 (.string s)).run Tryz.prog w=.ok () w
 rw[Instr.checkKey]
 simp[run_underlying Tryz.underlying9]
theorem find_str (s:ByteArray)(es:List MapEntry)(r:Option (Nat×Value))(w:World)(h:Instr.findNow .string (.string s) es 0=some r):(Instr.findKey 9 (.string s) es).run Tryz.prog w=.ok r w:=by
 simp[Instr.findKey,run_underlying Tryz.underlying9,h]
theorem wpList_insS {ops:Array Oper}{rest:List Oper}{o:Oper}{a:Act}{Q:Exit->Act->World->Prop}{w:World}(hgd:o.guard=none)(m k x:Operand)(ho:o.op=.insert 105 m k x){mb clock:Nat}(hm:a.eval m=.map (some mb)){s:ByteArray}(hk:a.eval k=.string s){v:Value}(hx:a.eval x=v){es:Array MapEntry}(hb:w.heap[mb]?=some (.map es clock))(hno:Instr.findNow .string (.string s) es.toList 0=some none)
  (h:∀w',w'.heap[mb]?=some (.map (es.push ⟨.string s,v,clock⟩) (clock+1))->Chg (λx=>x=mb) w w'->wpList Tryz.prog ops Q rest (a.put o.dst undef) w'):wpList Tryz.prog ops Q (o::rest) a w:=by
 refine wpList_plain hgd λK hK=>?_
 have hr:=run_putM (v:=v) Tryz.underlying105 hb (check_str false s w) (find_str s _ _ w hno)
 unfold Oper.wp execOp
 simp[ho,hm,hk,hx,hr]
 exact hK _ _ (h _ (putM_at hb) (putM_chg _ _ _))
theorem wpList_lookS {ops:Array Oper}{rest:List Oper}{o:Oper}{a:Act}{Q:Exit->Act->World->Prop}{w:World}(hgd:o.guard=none)(m k:Operand)(ho:o.op=.lookup 105 m k true){mb clock:Nat}(hm:a.eval m=.map (some mb)){s:ByteArray}(hk:a.eval k=.string s){es:Array MapEntry}(hb:w.heap[mb]?=some (.map es clock)){r:Option (Nat×Value)}(hf:Instr.findNow .string (.string s) es.toList 0=some r)
  (h:wpList Tryz.prog ops Q rest (a.put o.dst (lookR .nilFunc r)) w):wpList Tryz.prog ops Q (o::rest) a w:=by
 refine wpList_plain hgd λK hK=>?_
 have hz:(zeroValue 104).run Tryz.prog w=.ok .nilFunc w:=by
  have hi:(Tryz.prog.info? 104).map (·.zero)=some (some .nilFunc):=by kernel_rfl
  obtain⟨i,h1,h2⟩:=Option.map_eq_some_iff.1 hi
  simp[zeroValue,typeInfo,h1,h2]
 have hr:=run_lookM Tryz.underlying105 hb (λb=>check_str b s w) (find_str s _ _ w hf) hz
 unfold Oper.wp execOp
 simp[ho,hm,hk,hr]
 exact hK _ _ h
theorem wpList_lookY {ops:Array Oper}{rest:List Oper}{o:Oper}{a:Act}{Q:Exit->Act->World->Prop}{w:World}(hgd:o.guard=none)(m k:Operand)(ho:o.op=.lookup 105 m k true){mb clock:Nat}(hm:a.eval m=.map (some mb)){s:ByteArray}(hk:a.eval k=.string s){es:Array MapEntry}(hb:w.heap[mb]?=some (.map es clock)){i:Nat}{v:Value}(hf:Instr.findNow .string (.string s) es.toList 0=some (some (i,v)))
  (h:wpList Tryz.prog ops Q rest (a.put o.dst (.tuple #[v,.bool true])) w):wpList Tryz.prog ops Q (o::rest) a w:=wpList_lookS hgd m k ho hm hk hb hf h
theorem wpList_lookN {ops:Array Oper}{rest:List Oper}{o:Oper}{a:Act}{Q:Exit->Act->World->Prop}{w:World}(hgd:o.guard=none)(m k:Operand)(ho:o.op=.lookup 105 m k true){mb clock:Nat}(hm:a.eval m=.map (some mb)){s:ByteArray}(hk:a.eval k=.string s){es:Array MapEntry}(hb:w.heap[mb]?=some (.map es clock))(hf:Instr.findNow .string (.string s) es.toList 0=some none)
  (h:wpList Tryz.prog ops Q rest (a.put o.dst (.tuple #[.nilFunc,.bool false])) w):wpList Tryz.prog ops Q (o::rest) a w:=wpList_lookS hgd m k ho hm hk hb hf h
theorem wpList_mkM {ops:Array Oper}{rest:List Oper}{o:Oper}{a:Act}{Q:Exit->Act->World->Prop}{w:World}(hgd:o.guard=none)(t:TypeId)(ho:o.op=.makeMap t none)
  (h:∀mb w',Hid (w.heap.size=mb)->w'.heap[mb]?=some (.map #[] 0)->Nx w w'->wpList Tryz.prog ops Q rest (a.put o.dst (.map (some mb))) w'):wpList Tryz.prog ops Q (o::rest) a w:=by
 refine wpList_plain hgd λK hK=>?_
 have hr:(Instr.makeMap t none).run Tryz.prog w=.ok (.map (some w.heap.size)) (w.alloc (.map #[] 0)):=by simp[Instr.makeMap]
 unfold Oper.wp execOp
 simp[ho,hr]
 exact hK _ _ (h w.heap.size _ rfl (by show(w.heap.push _)[w.heap.size]?=_;simp) (box1 _ _))
theorem wpList_mkMh {ops:Array Oper}{rest:List Oper}{o:Oper}{a:Act}{Q:Exit->Act->World->Prop}{w:World}(hgd:o.guard=none)(t:TypeId)(x:Operand)(ho:o.op=.makeMap t (some x)){kt et:TypeId}(ht:Tryz.prog.underlying t=some (.map kt et)){n:Int}(hx:a.eval x=.int .i64 n)
  (h:∀mb w',Hid (w.heap.size=mb)->w'.heap[mb]?=some (.map #[] 0)->Nx w w'->wpList Tryz.prog ops Q rest (a.put o.dst (.map (some mb))) w'):wpList Tryz.prog ops Q (o::rest) a w:=by
 refine wpList_plain hgd λK hK=>?_
 have hr:(Instr.makeMap t (some (.int .i64 n))).run Tryz.prog w=.ok (.map (some w.heap.size)) (w.alloc (.map #[] 0)):=by simp[Instr.makeMap,run_underlying ht,asInt,asIntOf]
 unfold Oper.wp execOp
 simp[ho,hx,hr]
 exact hK _ _ (h w.heap.size _ rfl (by show(w.heap.push _)[w.heap.size]?=_;simp) (box1 _ _))
theorem str_of {s:ByteArray}{l:List UInt8}(h:s.toList=l):s=⟨l.toArray⟩:=by
 rw[ByteArray.toList_eq] at h
 rw[<-h]
theorem RM.start {w:World}{rb:Nat}(h:BT w rb #[.slice none 0 0,.slice none 0 0,.slice none 0 0,.slice none 0 0,.int .i64 0,.int .i64 0,.slice none 0 0] 79):RMx w w rb 0 []:=
 ⟨_,_,_,_,_,⟨rfl,rfl,rfl,Nat.le_refl _,λ_ _ _=>rfl⟩,h,⟨rfl,Or.inl ⟨rfl,rfl⟩⟩,⟨rfl,Or.inl ⟨rfl,rfl⟩⟩,⟨rfl,Or.inl ⟨rfl,rfl⟩⟩,⟨rfl,Or.inl ⟨rfl,rfl⟩⟩,⟨rfl,Or.inl ⟨rfl,rfl⟩⟩,λx hx=>absurd hx List.not_mem_nil,λr hr=>absurd hr List.not_mem_nil,List.pairwise_singleton _ _⟩
end Go.Proofs.YthhkjbfkgdlkmaaGreatDoor
