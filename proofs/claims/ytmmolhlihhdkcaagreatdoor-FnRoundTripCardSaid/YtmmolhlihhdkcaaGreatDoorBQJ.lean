import Derived.Test.YtmmolhlihhdkcaaGreatDoorBPA
import Derived.Test.YtmmolhlihhdkcaaGreatDoorBShelfP
namespace Go.Proofs.YtmmolhlihhdkcaaGreatDoor
open Go.RowKit Go.Sort Go.Shelf
set_option linter.unusedVariables false
set_option maxRecDepth 1000000
set_option maxHeartbeats 16000000
theorem Q0t (n:Nat)(w:World)(hn:0<n)(hb:n<=10000000) :
  Calls Tryz.prog 121 #[.slice none 0 0,.int .i64 (n:Int)] w λe w'=>(∃cap,e=.returned (.slice (some ⟨w.heap.size,0,none⟩) 0 cap)/\J2 w.heap.size w' (.slice (some ⟨w.heap.size,0,none⟩) 0 cap) [])/\Nx w w':=by
 obtain⟨ii,hi,hz0,hz1,hz2⟩:=info_parts Fj
 refine Calls.mono (Any8.slices_Grow_grow Tryz.growS ii (.string ByteArray.empty) hi hz0 (by rw[hz1];decide) none 0 0 n [] w (Nat.le_refl _) (by omega) (by rw[hz2];omega) (by omega) (by simp) (λ_=>rfl) (λa h=>by cases h)) ?_
 rintro e w' ⟨rfl,rfl⟩
 have hg:=grownCap_ge w (0+n) 0 (Tryz.growS_ren.t 25)
 have hl:=grownCap_le_maxLen w (0+n) 0 (Tryz.growS_ren.t 25) (by unfold maxLen;omega)
 have key:∀(cs:Array Value) (cap:Nat),cs.size=cap->cap<=maxLen->J2 w.heap.size (w.drew.alloc (.cells cs 9)) (.slice (some ⟨w.heap.size,0,none⟩) 0 cap) []:=λcs cap h1 h2=>
  ⟨rfl,Or.inr ⟨w.heap.size,cap,cs,rfl,Nat.le_refl _,by show(w.heap.push _)[w.heap.size]?=_;simp,Nat.zero_le _,h2,by omega,by simp⟩⟩
 refine⟨⟨_,rfl,key _ _ ?_ hl⟩,Nx.trans (show Nx w w.drew from(Below.refl _ _).drew) (Qd w.drew _)⟩
 simp[Builtin.zeroCells,Value.cells]
 have e:grownCap w (0+n) 0 (Tryz.growS_ren.t 25)=grownCap w n 0 (Tryz.growS_ren.t 25):=by rw[Nat.zero_add]
 rw[e] at hg
 omega
theorem Q67 (b off i:Nat):(⟨b,off,none⟩:Addr).add i=⟨b,off+i,none⟩:=by
 unfold Addr.add
 by_cases hi:i=0<;>simp[hi]
theorem J2.app {B:Nat}{w:World}{v:Value}{zs ys:List ByteArray}(h:w.ownsRow B 9 1 v (zs.length+ys.length) (zs.map Value.string++ys.map Value.string)):J2 B w v (zs++ys):=by
 unfold J2
 rw[List.length_append,List.map_append]
 exact h
theorem Q26 {w:World}{g k m c:Nat}{ss:List ByteArray}(h:HSr w (.slice (some ⟨g,k,none⟩) m c) ss):∀j u,(ss.map Value.string)[j]?=some u->w.cell? ((⟨g,k,none⟩:Addr).add j)=some u:=λj u hj=>by
 obtain⟨a',c',e,hk⟩:=h
 have hjl:j<ss.length:=by
  have:=(List.getElem?_eq_some_iff.1 hj).1
  simpa using this
 obtain⟨g',off,ea,hc⟩:=hk (by omega)
 simp only[Value.slice.injEq] at e
 have e1:some (⟨g,k,none⟩:Addr)=some ⟨g',off,none⟩:=by rw[e.1,ea]
 simp only[Option.some.injEq,Addr.mk.injEq] at e1
 obtain⟨rfl,rfl,-⟩:=e1
 rw[Q67,hc j hjl]
 rw[List.getElem?_map,List.getElem?_eq_getElem hjl] at hj
 have es:sat ss j=ss[j]:=by simp[sat,List.getD,hjl]
 rw[es];simpa using hj
theorem Q5p {w:World}{a:Option Addr}{m c:Nat}{ss:List ByteArray}(h:HSr w (.slice a m c) ss):ss.length=m:=by
 obtain⟨a',c',e,hk⟩:=h
 simp only[Value.slice.injEq] at e
 exact e.2.1.symm
theorem Io (gv g k1 m1 c1 k2 m2 c2:Nat)(s1 s2:List ByteArray)(w:World)(x0:w.cell? ⟨gv,0,none⟩=some (.slice (some ⟨g,k1,none⟩) m1 c1))(x1:w.cell? ⟨gv,1,none⟩=some (.slice (some ⟨g,k2,none⟩) m2 c2))
  (h1:HSr w (.slice (some ⟨g,k1,none⟩) m1 c1) s1) (h2:HSr w (.slice (some ⟨g,k2,none⟩) m2 c2) s2) (hp1:0<m1) (hp2:0<m2) (hl:m1+m2<=300001) :
  Calls Tryz.prog 104 #[.slice (some ⟨gv,0,none⟩) 2 2] w λe w'=>(∃u,e=.returned u/\J2 w.heap.size w' u (s1++s2))/\Nx w w':=by
 obtain⟨ii,hi,hz0,hz1,hz2⟩:=info_parts Fj
 have H1:=Q0 h1
 have H2:=Q0 h2
 have HL1:=Q0 (Q5p h1)
 have HL2:=Q0 (Q5p h2)
 clear h1 h2
 have HX0:=Q0 x0
 have HX1:=Q0 x1
 have g1:decide ((m1:Int)<0)=false:=by simp
 have g2:decide ((m1:Int)+(m2:Int)<0)=false:=by simp;omega
 go_enter Tryz.func104,Tryz.ntmps104
 go_wp2
 go_loopw [3,11] (λs i wr=>((i=.int .i64 0/\s=.int .i64 0)\/(i=.int .i64 1/\s=.int .i64 m1)\/(i=.int .i64 2/\s=.int .i64 (m1+m2:Nat)))/\Hid (w=wr)) (λ_ i _=>2-(intOf i).toNat)
 case atStart=>exact⟨Or.inl ⟨rfl,rfl⟩,rfl⟩
 obtain⟨hc,hww⟩:=hrel
 have hww2:=hww.out
 subst hww2
 clear hww
 rcases hc with⟨rfl,rfl⟩|⟨rfl,rfl⟩|⟨rfl,rfl⟩
 ·go_wp2
  go_roundw
  case rel=>exact⟨Or.inr (Or.inl ⟨rfl,by simp⟩),(trivial:True)⟩
  case measure=>simp[intOf]
 ·go_wp2
  go_roundw
  case rel=>exact⟨Or.inr (Or.inr ⟨rfl,by simp⟩),(trivial:True)⟩
  case measure=>simp[intOf]
 clear x0 x1
 go_wp2_with fail
 refine(Q0t (m1+m2) _ (by omega) (by omega)).mono ?_
 rintro e w2 ⟨⟨cp,rfl,hO⟩,hx⟩
 have HO2:Hid (J2 w.heap.size w2 (.slice (some ⟨w.heap.size,0,none⟩) 0 cp) []):=hO
 have HX2:Hid (Nx w w2):=hx
 clear hO hx
 go_wp2
 go_loopw [6,27] (λu i wq=>((i=.int .i64 0/\Hid (J2 w.heap.size wq u []))\/(i=.int .i64 1/\Hid (J2 w.heap.size wq u s1))\/(i=.int .i64 2/\Hid (J2 w.heap.size wq u (s1++s2))))/\Hid (Nx w wq)) (λ_ i _=>2-(intOf i).toNat)
 case atStart=>exact⟨Or.inl ⟨rfl,HO2⟩,HX2⟩
 clear HO2 HX2
 obtain⟨hc,HN⟩:=hrel
 rcases hc with⟨rfl,HO⟩|⟨rfl,HO⟩|⟨rfl,HO⟩
 ·have y0:=Qf HN.out HX0.out
  have HNW:=Q0 (Q26 (H1.out.next HN.out))
  obtain⟨ua,uc,hue⟩:=Q3 HO.out
  subst hue
  go_wp2_with (at_builtin;refine wpList_append_own_at _ rfl _ _ 38 rfl w.heap.size 9 ii (.string ByteArray.empty) 1 16 Tryz.underlying38 hi hz0 hz1 hz2 rfl (by decide) _ _ _ rfl HO.out ⟨g,k1,none⟩ m1 c1 (s1.map Value.string) rfl ?f0 HNW.out ?f2 ?f3 ?f4 ?f5 ?_)
  case f0=>rw[List.length_map,HL1.out];omega
  case f2=>intro u hu;obtain⟨z,_,rfl⟩:=List.mem_map.1 hu;rfl
  case f3=>simp;unfold maxLen;omega
  case f4=>simp;omega
  case f5=>exact HN.out.size
  intro v7 w7 hown hgrow _ hat7
  have HO7:Hid (J2 w.heap.size w7 v7 s1):=by
   unfold Hid J2
   rw[HL1.out];exact hown
  have HN7:Hid (Nx w w7):=Below.grown HN.out hgrow HN.out.size (λg hg=>(Ql HO.out g hg).1)
  clear hown hgrow hat7 y0 HO HN HNW
  go_wp2
  go_roundw
  case rel=>exact⟨Or.inr (Or.inl ⟨rfl,HO7⟩),HN7⟩
  case measure=>simp[intOf]
 ·have y1:=Qf HN.out HX1.out
  have HNW:=Q0 (Q26 (H2.out.next HN.out))
  obtain⟨ua,uc,hue⟩:=Q3 HO.out
  rw[HL1.out] at hue
  subst hue
  go_wp2_with (at_builtin;refine wpList_append_own_at _ rfl _ _ 38 rfl w.heap.size 9 ii (.string ByteArray.empty) 1 16 Tryz.underlying38 hi hz0 hz1 hz2 rfl (by decide) _ _ _ rfl HO.out ⟨g,k2,none⟩ m2 c2 (s2.map Value.string) rfl ?f0 HNW.out ?f2 ?f3 ?f4 ?f5 ?_)
  case f0=>rw[List.length_map,HL2.out];omega
  case f2=>intro u hu;obtain⟨z,_,rfl⟩:=List.mem_map.1 hu;rfl
  case f3=>rw[HL1.out];unfold maxLen;omega
  case f4=>rw[HL1.out];omega
  case f5=>exact HN.out.size
  intro v7 w7 hown hgrow _ hat7
  have HO7:Hid (J2 w.heap.size w7 v7 (s1++s2)):=J2.app (by rw[HL2.out];exact hown)
  have HN7:Hid (Nx w w7):=Below.grown HN.out hgrow HN.out.size (λg hg=>(Ql HO.out g hg).1)
  clear hown hgrow hat7 y1 HO HN HNW
  go_wp2
  go_roundw
  case rel=>exact⟨Or.inr (Or.inr ⟨rfl,HO7⟩),HN7⟩
  case measure=>simp[intOf]
 ·go_wp2
  go_ret
  exact⟨⟨_,rfl,HO.out⟩,HN.out⟩
end Go.Proofs.YtmmolhlihhdkcaaGreatDoor
namespace Go.Proofs.YtmmolhlihhdkcaaGreatDoor
open Go.RowKit Go.Sort
set_option linter.unusedVariables false
set_option maxRecDepth 1000000
set_option maxHeartbeats 16000000
theorem MS.other {w0 w w':World}{bl:List (Nat×Array Value×Nat)}{rs:List (Value×List Int)}(h:MS w0 w bl rs){C t sz n:Nat}{v:Value}{xs:List Value}(ho:w.ownsRow C t sz v n xs)(hC:w0.heap.size<=C)(ht:2≠t)(hb:∀(j:Nat) (p:Nat×Array Value×Nat),bl[j]?=some p->p.2.2≠t)(hc:Chg (λx=>some x=v.ownBlock) w w'):MS w0 w' bl rs:=
 ⟨Below.trans h.nx (hc.below h.nx.size (λx hx=>Nat.le_trans hC (Ql ho x hx.symm).1)),λj p hp=>⟨(h.bx j p hp).1.row ho (hb j p hp) hc,(h.bx j p hp).2⟩,h.nd,λj r hr=>Q4 (h.rw j r hr) ho ht hc,h.ap⟩
theorem Q9r:(Tryz.prog.info? 132).map (λi=>(i.zero,i.size,i.bytes))=some (some (.agg #[.int .i64 0,.int .i64 0,.int .i64 0]),3,24):=by kernel_rfl
theorem Q4b {ops:Array Oper}{rest:List Oper}{o:Oper}{a:Act}{Q:Exit->Act->World->Prop}(hgd:o.guard=none)(s x:Operand)(ho:o.op=.call { callee:=.builtin .append,args:=#[s,x],argTypes:=#[133,133] })
  (C n:Nat) (v:Value) (l:List Nm) (y:Nm) (w0:World) (hs:a.eval s=v) (hown:Y9 C w0 v l) (hx:a.eval x=.slice (some ⟨w0.heap.size,0,none⟩) 1 1) (hn:l.length=n) (hm:n<=1000000) (hC:C<=w0.heap.size)
  (h:∀a' c' w',Y9 C w' (.slice a' (n+1) c') (l++[y])->Chg (λx=>some x=v.ownBlock) w0 w'->wpList Tryz.prog ops Q rest (a.put o.dst (.slice a' (n+1) c')) w') :
  wpList Tryz.prog ops Q (o::rest) a (w0.alloc (.cells #[.int .i64 y.1,.int .i64 y.2.1,.int .i64 y.2.2] 132)):=by
 subst hn
 refine Xu Q9r Tryz.underlying133 rfl (by decide) (by decide) hgd s x ho C l.length v (l.flatMap Xn) (Xn y) w0 hs hown hx rfl (by intro u hu;simp[Xn] at hu;rcases hu with rfl|rfl|rfl<;>rfl) hm hC (λa' c' w' r1 r2 r3=>h a' c' w' ?_ r2)
 unfold Y9
 rw[List.length_append,List.flatMap_append,List.flatMap_singleton]
 exact r1
theorem Pf (v:List Int):Jv v 3=[]:=by simp[Jv]
theorem Im (v:List Int):Jx v 3=[]:=by simp[Jx]
theorem I8 {v:List Int}{i:Nat}(h:i%2=0):Jv v (i+1+3)=Jv v (i+3)++[iat v (i+3)]/\Jx v (i+1+3)=Jx v (i+3):=by
 have e:i+1+3=(i+3)+1:=by omega
 rw[e]
 constructor
 ·rw[Jv,if_pos ⟨by omega,by omega⟩]
 ·rw[Jx,if_neg (by omega)]
theorem Fq {v:List Int}{i:Nat}(h:i%2=1):Jv v (i+1+3)=Jv v (i+3)/\Jx v (i+1+3)=Jx v (i+3)++[iat v (i+3)]:=by
 have e:i+1+3=(i+3)+1:=by omega
 rw[e]
 constructor
 ·rw[Jv,if_neg (by omega)]
 ·rw[Jx,if_pos ⟨by omega,by omega⟩]
def nmN (x:Int):Nm:=(0,x,0)
theorem Q1g (w0:World)(rb:Nat)(line:Int)(ps:List Px)(w:World)(h:RMx w0 w rb line ps)(hps:ps.length<=300000)(C g n c:Nat)(f:List ByteArray)(hf:J2 C w (.slice (some ⟨g,0,none⟩) n c) f)(hn:f.length=n)(hn1:n<=300001)(hs:∀i,i<f.length->(sat f i).size<=300000)(hw:(sat f 0).toList=[119,97,121]) :
  Calls Tryz.prog 77 #[.pointer (some ⟨rb,0,none⟩),.slice (some ⟨g,0,none⟩) n c] w λe w'=>Tb w0 w w' rb line ps f e:=by
 have hmx:Tryz.prog.follows .mixedOrders=true:=by kernel_rfl
 obtain⟨vN,vW,vR,vT,vL,h⟩:=h
 have HR:=Q0 h
 have HF:=Q0 hf
 have HN:=Q0 hn
 have HS:=Q0 hs
 have HCK:=Q0 (Qaj hw)
 have HW:=Q0 hw
 have hcap:=Uf hf
 have HLL:Hid ((lnO ps).length<=300001):=by unfold Hid;rw[Ux];omega
 clear h hf hs hw
 rw[hn] at HCK
 clear hn
 by_cases k1:n<6
 ·have HC:Hid (V3 f=6):=by unfold Hid;rw[HCK.out,if_pos (Or.inl k1)]
  have d1:(n:Int)<6:=by omega
  go_enter Tryz.func77,Tryz.ntmps77
  go_wp2_with fail
  refine(Jg rb 6 line _ w HR.out.bx rfl).mono ?_
  rintro e wr1 ⟨⟨v,rfl,hfl⟩,hx⟩
  have HFL:=Q0 (hfl)
  have HXL:=Q0 (hx)
  clear hfl hx
  go_wp2
  go_ret
  exact Or.inr ⟨by rw[HC.out];decide,_,rfl,by rw[HC.out];exact HFL.out,HXL.out⟩
 have d1:¬(n:Int)<6:=by omega
 by_cases k2:n%2=1
 ·have HC:Hid (V3 f=6):=by unfold Hid;rw[HCK.out,if_pos (Or.inr (Or.inl k2))]
  have d2:Int.tmod (n:Int) 2=1:=by rw[Int.tmod_eq_emod_of_nonneg (by omega)];omega
  clear k2
  go_enter Tryz.func77,Tryz.ntmps77
  go_wp2_with fail
  refine(Jg rb 6 line _ w HR.out.bx rfl).mono ?_
  rintro e wr1 ⟨⟨v,rfl,hfl⟩,hx⟩
  have HFL:=Q0 (hfl)
  have HXL:=Q0 (hx)
  clear hfl hx
  go_wp2
  go_ret
  exact Or.inr ⟨by rw[HC.out];decide,_,rfl,by rw[HC.out];exact HFL.out,HXL.out⟩
 have d2:Int.tmod (n:Int) 2=0:=by rw[Int.tmod_eq_emod_of_nonneg (by omega)];omega
 by_cases k3:204<n
 ·have HC:Hid (V3 f=6):=by unfold Hid;rw[HCK.out,if_pos (Or.inr (Or.inr k3))]
  have d3:(204:Int)<(n:Int):=by omega
  clear k2
  go_enter Tryz.func77,Tryz.ntmps77
  go_wp2_with fail
  refine(Jg rb 6 line _ w HR.out.bx rfl).mono ?_
  rintro e wr1 ⟨⟨v,rfl,hfl⟩,hx⟩
  have HFL:=Q0 (hfl)
  have HXL:=Q0 (hx)
  clear hfl hx
  go_wp2
  go_ret
  exact Or.inr ⟨by rw[HC.out];decide,_,rfl,by rw[HC.out];exact HFL.out,HXL.out⟩
 have d3:¬(204:Int)<(n:Int):=by omega
 rw[if_neg (by omega)] at HCK
 clear k2
 obtain⟨g2,e2,-,-,x2⟩:=J2.at HF.out (i:=2) (by rw[HN.out];omega)
 have e2':g=g2:=by simpa using e2
 subst e2'
 clear e2
 have HRDW:Hid (rdS f=⟨2,iat (vsL f) 1,0,⟨iat (vsL f) 1,(sat f 2).toList==[98],Jv (vsL f) f.length,Jx (vsL f) f.length⟩,zRl,0,Jv (vsL f) f.length,[]⟩):=by
  unfold Hid rdS
  rw[if_neg (by rw[HW.out];decide),if_pos HW.out]
 generalize sat f 2=dir at *
 by_cases kk:dir.toList≠[102]/\dir.toList≠[98]
 ·have HC:Hid (V3 f=7):=by unfold Hid;rw[HCK.out,if_pos kk]
  have j1:(dir.toList==[102])=false:=by simpa using kk.1
  have j2:(dir.toList==[98])=false:=by simpa using kk.2
  have j1':(dir.toList !=[102])=true:=by simpa using kk.1
  have j2':(dir.toList !=[98])=true:=by simpa using kk.2
  clear kk HRDW
  go_enter Tryz.func77,Tryz.ntmps77
  go_wp2_with fail
  refine(Jg rb 7 line _ w HR.out.bx rfl).mono ?_
  rintro e wr1 ⟨⟨v,rfl,hfl⟩,hx⟩
  have HFL:=Q0 (hfl)
  have HXL:=Q0 (hx)
  clear hfl hx
  go_wp2
  go_ret
  exact Or.inr ⟨by rw[HC.out];decide,_,rfl,by rw[HC.out];exact HFL.out,HXL.out⟩
 rw[if_neg kk] at HCK
 have HDR:Hid ((dir.toList=[102]/\(dir.toList==[98])=false)\/(dir.toList=[98]/\(dir.toList==[98])=true)):=by
  by_cases j:dir.toList=[98]
  ·exact Or.inr ⟨j,by rw[j];rfl⟩
  ·exact Or.inl ⟨Decidable.byContradiction λj'=>kk ⟨j',j⟩,by simpa using j⟩
 clear kk
 have HBL:Hid ((Jy f 2).length=n-2):=by unfold Hid;rw[T8 (by decide) (by rw[HN.out];omega),HN.out]
 go_enter Tryz.func77,Tryz.ntmps77
 go_upto_region 5 with fail
 go_cut [36] from 31 to 35 (λs36 wc=>s36=.bool false/\wc=w)
 case first=>
  rcases HDR.out with⟨j1,j2⟩|⟨j1,j2⟩
  ·have j3:(dir.toList !=[102])=false:=by simp[j1]
   have j4:(dir.toList==[102])=true:=by simp[j1]
   go_wp2
   go_meet
   exact⟨by first|rfl|simp[j1],rfl⟩
  ·have j3:(dir.toList !=[102])=true:=by simp[j1]
   have j4:(dir.toList==[102])=false:=by simp[j1]
   have j5:(dir.toList !=[98])=false:=by simp[j1]
   go_wp2
   go_meet
   exact⟨by first|rfl|simp[j1],rfl⟩
 case rest=>
 obtain⟨rfl,hwc⟩:=hcut
 subst hwc
 go_upto_region 7 with fail
 have hxd:Nx wc wc.drew:=(Below.refl _ _).drew
 have HXD:=Q0 hxd
 clear hxd x2
 refine(wpIn_wide (n:=9)).1 ?_
 refine Q9 (c:=13) (S:=λ_=>True) hmx (by kernel_rfl) (λhw hcl=>?_)
 generalize wc.drew=wd at *
 refine Qo (i:=0) (v:=.pointer (some ⟨rb,0,none⟩)) hw (by decide) hcl (Qh rfl) rfl (by kernel_rfl) (by kernel_rfl) (by kernel_rfl) (λ_ _ _ h=>h) ⟨Or.inl ⟨by kernel_rfl,?y0⟩,λ_=>rfl⟩ trivial (λhcl=>?_)
 case y0=>
  rintro q -
  go_simp
 refine Qo (i:=1) (v:=.slice (some ⟨g,0,none⟩) n c) hw (by decide) hcl (Qh rfl) rfl (by kernel_rfl) (by kernel_rfl) (by kernel_rfl) (λ_ _ _ h=>h) ⟨Or.inl ⟨by kernel_rfl,?y1⟩,λ_=>rfl⟩ trivial (λhcl=>?_)
 case y1=>
  rintro q -
  go_simp
 refine Qo (i:=2) (v:=.slice (some ⟨g,1,none⟩) 1 (c-1)) hw (by decide) hcl (Qh rfl) rfl (by kernel_rfl) (by kernel_rfl) (by kernel_rfl) (λ_ _ _ h=>h) ⟨Or.inl ⟨by kernel_rfl,?y2⟩,λ_=>rfl⟩ trivial (λhcl=>?_)
 case y2=>
  rintro q -
  go_simp
  rw[if_pos (show(2:Int)<=(c:Int) by omega),if_neg (show ¬c=1 by omega)]
 refine Qo (i:=3) (v:=.slice (some ⟨g,0,none⟩) n c) hw (by decide) hcl (Qh rfl) rfl (by kernel_rfl) (by kernel_rfl) (by kernel_rfl) (λ_ _ _ h=>h) ⟨Or.inl ⟨by kernel_rfl,?y3⟩,λ_=>rfl⟩ trivial (λhcl=>?_)
 case y3=>
  rintro q -
  go_simp
 refine Qo (i:=4) (v:=.slice (some ⟨g,3,none⟩) (n-3) (c-3)) hw (by decide) hcl (Qh rfl) rfl (by kernel_rfl) (by kernel_rfl) (by kernel_rfl) (λ_ _ _ h=>h) ⟨Or.inl ⟨by kernel_rfl,?y4⟩,λ_=>rfl⟩ trivial (λhcl=>?_)
 case y4=>
  rintro q -
  go_simp
  rw[if_pos (show(3:Int)<=(n:Int) by omega),if_neg (show ¬c=3 by omega)]
 refine Q5 (i:=5) (by kernel_rfl) hcl (λhcl=>wpOpIn_step rfl (λK hK=>?_))
 go_simp
 refine hK _ _ ⟨Or.inr trivial,?_⟩
 clear hK K
 have HGV:Hid (BT (wd.alloc (.cells #[.slice (some ⟨g,1,none⟩) 1 (c-1),.slice (some ⟨g,3,none⟩) (n-3) (c-3)] 38)) wd.heap.size #[.slice (some ⟨g,1,none⟩) 1 (c-1),.slice (some ⟨g,3,none⟩) (n-3) (c-3)] 38):=BT.new _ _ _ _ rfl
 have HXV:Hid (Nx wc (wd.alloc (.cells #[.slice (some ⟨g,1,none⟩) 1 (c-1),.slice (some ⟨g,3,none⟩) (n-3) (c-3)] 38))):=HXD.out.trans (Qd _ _)
 clear HXD
 generalize wd.alloc (.cells #[.slice (some ⟨g,1,none⟩) 1 (c-1),.slice (some ⟨g,3,none⟩) (n-3) (c-3)] 38)=wv at *
 generalize wd.heap.size=gv at *
 have HF1:=Q0 (Qp HF.out HXV.out)
 refine Q5 (i:=6) (by kernel_rfl) hcl (λhcl=>wpOpIn_step rfl (λK hK=>?_))
 go_simp
 refine⟨trivial,(callsIn_wide.2 (Io gv g 1 1 (c-1) 3 (n-3) (c-3) ((f.drop 1).take 1) (f.drop 3) wv (HGV.out.blk.cell (i:=0) rfl) (HGV.out.blk.cell (i:=1) rfl) (Fm HF1.out HN.out 1 1 _ (by omega)) (Wz HF1.out HN.out 3 _ (by omega)) (by decide) (by omega) (by omega))).mono ?_⟩
 rintro e wk ⟨⟨uk,rfl,huk⟩,hx⟩
 have HXK:=Q0 (HXV.out.trans hx)
 have HUK:Hid (J2 wv.heap.size wk uk (Jy f 2)):=huk
 refine hK _ _ ⟨Or.inr trivial,?_⟩
 clear hK K hx huk HF1 HGV HXV
 obtain⟨ak,ck,ek⟩:=Q3 HUK.out
 rw[HBL.out] at ek
 subst ek
 refine Q5 (i:=7) (by kernel_rfl) hcl (λhcl=>wpOpIn_step rfl (λK hK=>?_))
 go_simp
 refine⟨trivial,(callsIn_wide.2 (Ub rb line _ ak (n-2) ck (Jy f 2) wk (HR.out.bx.next HXK.out) rfl (J2.hsr HUK.out) (λi hi=>by
  rw[W5 (by decide) (by rw[HN.out];omega)]
  rw[HBL.out] at hi
  split<;>exact HS.out _ (by rw[HN.out];omega)) (by omega))).mono ?_⟩
 rintro e w1 ⟨hr,hx⟩
 have HX1:=Q0 (HXK.out.trans hx)
 clear hx
 rcases hr with⟨hok,v,rfl,ho⟩|⟨hno,v,rfl,fb,rfl,hfb,hfl⟩
 case inr=>
  have HC:Hid (V3 f=8):=by unfold Hid;rw[HCK.out,hno];rfl
  have HFL:Hid (Yj wc w1 8 line (.iface 61 (.pointer (some ⟨fb,0,none⟩)))):=Yj.base ⟨fb,rfl,hfb,hfl⟩ HXK.out
  clear hno hfb hfl
  refine hK _ _ ⟨Or.inr trivial,?_⟩
  clear hK K HUK
  refine Qo (i:=8) (v:=.tuple #[.slice none 0 0,.iface 61 (.pointer (some ⟨fb,0,none⟩))]) hw (by decide) hcl (Qh rfl) rfl (by kernel_rfl) (by kernel_rfl) (by kernel_rfl) (λ_ _ _ h=>h) ⟨Or.inl ⟨by kernel_rfl,?y8⟩,λ_=>rfl⟩ trivial (λhcl=>?_)
  case y8=>
   rintro q -
   go_simp
  refine Qo (i:=9) (v:=.slice none 0 0) hw (by decide) hcl (Qh rfl) rfl (by kernel_rfl) (by kernel_rfl) (by kernel_rfl) (λ_ _ _ h=>h) ⟨Or.inl ⟨by kernel_rfl,?y9⟩,λ_=>rfl⟩ trivial (λhcl=>?_)
  case y9=>
   rintro q -
   go_simp
  refine Qo (i:=10) (v:=.iface 61 (.pointer (some ⟨fb,0,none⟩))) hw (by decide) hcl (Qh rfl) rfl (by kernel_rfl) (by kernel_rfl) (by kernel_rfl) (λ_ _ _ h=>h) ⟨Or.inl ⟨by kernel_rfl,?y10⟩,λ_=>rfl⟩ trivial (λhcl=>?_)
  case y10=>
   rintro q -
   go_simp
  refine Qo (i:=11) (v:=.slice none 0 0) hw (by decide) hcl (Qh rfl) rfl (by kernel_rfl) (by kernel_rfl) (by kernel_rfl) (λ_ _ _ h=>h) ⟨Or.inl ⟨by kernel_rfl,?y11⟩,λ_=>rfl⟩ trivial (λhcl=>?_)
  case y11=>
   rintro q -
   go_simp
  refine Qo (i:=12) (v:=.iface 61 (.pointer (some ⟨fb,0,none⟩))) hw (by decide) hcl (Qh rfl) rfl (by kernel_rfl) (by kernel_rfl) (by kernel_rfl) (λ_ _ _ h=>h) ⟨Or.inl ⟨by kernel_rfl,?y12⟩,λ_=>rfl⟩ trivial (λhcl=>?_)
  case y12=>
   rintro q -
   go_simp
  refine Qi (by kernel_rfl) ?_ _
  clear hw hcl
  go_wp2
  go_ret
  exact Or.inr ⟨by rw[HC.out];decide,_,rfl,by rw[HC.out];exact HFL.out,HX1.out⟩
 refine hK _ _ ⟨Or.inr trivial,?_⟩
 clear hK K HUK
 have HC0:Hid (V3 f=0):=by unfold Hid;rw[HCK.out,hok];rfl
 have hvl:(vsL (Jy f 2)).length=n-2:=by rw[Vi,HBL.out]
 obtain⟨gn,cn,csn,ev,hgn,hcap2,hbn,hcn⟩:=ho.open (by rw[hvl];omega)
 rw[hvl] at ev hcn hcap2
 subst ev
 have HVA:Hid (iat (vsL (Jy f 2)) 0=iat (vsL f) 1/\∀i,i<n-3->iat (vsL (Jy f 2)) (1+i)=iat (vsL f) (i+3)):=by
  have key:∀i,i<n-2->iat (vsL (Jy f 2)) i=V9 (if i+1<2 then sat f (i+1) else sat f (i+2)):=λi hi=>by rw[Xx (by rw[HBL.out];exact hi),W5 (by decide) (by rw[HN.out];omega)]
  refine⟨?_,λi hi=>?_⟩
  ·rw[key 0 (by omega),Xx (by rw[HN.out];omega)];rfl
  ·rw[key (1+i) (by omega),if_neg (by omega),Xx (by rw[HN.out];omega),show 1+i+2=i+3 by omega]
 have HNB:Hid (Qb wc.heap.size w1 (.slice (some ⟨gn,0,none⟩) (n-2) cn) (vsL (Jy f 2))):=Jd ho HXK.out.size
 clear hok ho hgn hvl hbn hcn HXK csn
 refine Qo (i:=8) (v:=.tuple #[.slice (some ⟨gn,0,none⟩) (n-2) cn,.nilIface]) hw (by decide) hcl (Qh rfl) rfl (by kernel_rfl) (by kernel_rfl) (by kernel_rfl) (λ_ _ _ h=>h) ⟨Or.inl ⟨by kernel_rfl,?y8⟩,λ_=>rfl⟩ trivial (λhcl=>?_)
 case y8=>
  rintro q -
  go_simp
 refine Qo (i:=9) (v:=.slice (some ⟨gn,0,none⟩) (n-2) cn) hw (by decide) hcl (Qh rfl) rfl (by kernel_rfl) (by kernel_rfl) (by kernel_rfl) (λ_ _ _ h=>h) ⟨Or.inl ⟨by kernel_rfl,?y9⟩,λ_=>rfl⟩ trivial (λhcl=>?_)
 case y9=>
  rintro q -
  go_simp
 refine Qo (i:=10) (v:=.nilIface) hw (by decide) hcl (Qh rfl) rfl (by kernel_rfl) (by kernel_rfl) (by kernel_rfl) (λ_ _ _ h=>h) ⟨Or.inl ⟨by kernel_rfl,?y10⟩,λ_=>rfl⟩ trivial (λhcl=>?_)
 case y10=>
  rintro q -
  go_simp
 refine Qo (i:=11) (v:=.slice (some ⟨gn,0,none⟩) (n-2) cn) hw (by decide) hcl (Qh rfl) rfl (by kernel_rfl) (by kernel_rfl) (by kernel_rfl) (λ_ _ _ h=>h) ⟨Or.inl ⟨by kernel_rfl,?y11⟩,λ_=>rfl⟩ trivial (λhcl=>?_)
 case y11=>
  rintro q -
  go_simp
 refine Qo (i:=12) (v:=.nilIface) hw (by decide) hcl (Qh rfl) rfl (by kernel_rfl) (by kernel_rfl) (by kernel_rfl) (λ_ _ _ h=>h) ⟨Or.inl ⟨by kernel_rfl,?y12⟩,λ_=>rfl⟩ trivial (λhcl=>?_)
 case y12=>
  rintro q -
  go_simp
 refine Qi (by kernel_rfl) ?_ _
 clear hw hcl
 obtain⟨k,hk⟩:∃k,n=k+3:=⟨n-3,by omega⟩
 have hk2:n-2=k+1:=by omega
 rw[hk2] at HNB hcap2 ⊢
 have HVZ:=Q0 HVA.out.1
 have HVI:Hid (∀i,i<k->iat (vsL (Jy f 2)) (1+i)=iat (vsL f) (i+3)):=λi hi=>HVA.out.2 i (by omega)
 have HNL:Hid (f.length=k+3):=by unfold Hid;rw[HN.out,hk]
 have HBL2:Hid ((vsL (Jy f 2)).length=k+1):=by unfold Hid;rw[Vi,HBL.out,hk2]
 clear HVA hk2 HCK HS HF HDR HBL
 have hkb:k<=300000:=by omega
 have hk3:3<=k:=by omega
 clear hk hcap d1 d2 d3 k1 k3 HN hn1
 have HCN:Hid (∀i,i<k+1->∀{q:World}{bl:List (Nat×Array Value×Nat)}{rs:List (Value×List Int)},MS wc q bl rs->rs[0]?=some (.slice (some ⟨gn,0,none⟩) (k+1) cn,vsL (Jy f 2))->q.cell? ⟨gn,i,none⟩=some (.int .i64 (iat (vsL (Jy f 2)) i))):=λi hi {q bl rs} hM h0=>((hM.row 0 h0).in (by rw[HBL2.out];exact hi)).2.2
 have HM0:Hid (MS wc w1 [] [(.slice (some ⟨gn,0,none⟩) (k+1) cn,vsL (Jy f 2)),(.slice none 0 0,[]),(.slice none 0 0,[])]):=((((MS.start wc).next HX1.out).addRow HNB.out (λj r g h=>by simp at h)).addNil).addNil
 have c0:=HCN.out 0 (by omega) HM0.out rfl
 rw[HVZ.out] at c0
 generalize hz0:iat (vsL f) 1=z0 at *
 generalize hbb:(dir.toList==[98])=bb at *
 have HM1:Hid (MS wc (w1.alloc (.cells #[.int .i64 z0,.bool bb,.slice none 0 0,.slice none 0 0] 45)) [(w1.heap.size,#[.int .i64 z0,.bool bb,.slice none 0 0,.slice none 0 0],45)] [(.slice (some ⟨gn,0,none⟩) (k+1) cn,vsL (Jy f 2)),(.slice none 0 0,[]),(.slice none 0 0,[])]):=HM0.out.addBox _ _ (by decide)
 go_upto_region 11 with fail
 clear c0 HNB HM0
 generalize w1.alloc (.cells #[.int .i64 z0,.bool bb,.slice none 0 0,.slice none 0 0] 45)=w2 at *
 generalize w1.heap.size=wb at *
 clear hbb
 have HUN0:Hid (Y9 wc.heap.size w2 (.slice none 0 0) []):=⟨rfl,Or.inl ⟨rfl,rfl⟩⟩
 go_wp2
 go_loopw [10,62] (λs10 s62 wr=>∃(i:Nat) (vn vw:Value),i<=k/\s62=.int .i64 i/\Hid (MS wc wr [(wb,#[.int .i64 z0,.bool bb,vn,vw],45)] [(.slice (some ⟨gn,0,none⟩) (k+1) cn,vsL (Jy f 2)),(vn,Jv (vsL f) (i+3)),(vw,Jx (vsL f) (i+3))])/\Hid (Y9 wc.heap.size wr s10 ((Jv (vsL f) (i+3)).map nmN))) (λ_ s62 _=>k-(intOf s62).toNat)
 case atStart=>exact⟨0,.slice none 0 0,.slice none 0 0,Nat.zero_le _,rfl,by rw[Pf,Im];exact HM1,by rw[Pf];exact HUN0⟩
 clear HM1 HUN0
 obtain⟨i,vn,vw,hik,rfl,HM,HUN⟩:=hrel
 by_cases hlt:i<k
 ·have hlt':(i:Int)<(k:Int):=by omega
  have ci:=HCN.out (1+i) (by omega) HM.out rfl
  rw[HVI.out i hlt] at ci
  have hlo:=Q5f (vsL f) (i+3)
  have hle:=Fs (vsL f) (i+3)
  have hzz:wc.heap.size<=wr.heap.size:=HM.out.nx.size
  obtain⟨an,cn1,en⟩:=Q3 (HM.out.row 1 rfl)
  obtain⟨aw,cw1,ew⟩:=Q3 (HM.out.row 2 rfl)
  subst en ew
  by_cases hi2:i%2=1
  ·have d5:Int.tmod (i:Int) 2=1:=by rw[Int.tmod_eq_emod_of_nonneg (by omega)];omega
   have HST:=Q0 (Fq (v:=vsL f) hi2)
   generalize iat (vsL f) (i+3)=z at *
   obtain⟨le,hle_⟩:∃q,(Jx (vsL f) (i+3)).length=q:=⟨_,rfl⟩
   have HLE:Hid ((Jx (vsL f) (i+3)).length=le):=hle_
   rw[hle_] at HM hle
   clear hle_
   have q3:wr.cell? ⟨wb,3,none⟩=some (.slice aw le cw1):=(HM.out.box 0 rfl).blk.cell (i:=3) rfl
   go_wp2_with (at_builtin;refine Xb rfl _ _ rfl wc.heap.size le (.slice aw le cw1) (Jx (vsL f) (i+3)) z wr rfl (HM.out.row 2 rfl) rfl HLE.out (by omega) hzz ?_)
   intro a1 c1 wx r1 r2 r3
   have HMx:Hid (MS wc wx [(wb,#[.int .i64 z0,.bool bb,.slice an (Jv (vsL f) (i+3)).length cn1,.slice aw le cw1],45)] [(.slice (some ⟨gn,0,none⟩) (k+1) cn,vsL (Jy f 2)),(.slice an (Jv (vsL f) (i+3)).length cn1,Jv (vsL f) (i+3)),(.slice a1 (le+1) c1,Jx (vsL f) (i+3)++[z])]):=HM.out.grow 2 rfl r1 r2 r3
   have HUx:Hid (Y9 wc.heap.size wx u10 ((Jv (vsL f) (i+3)).map nmN)):=Q4 HUN.out (HM.out.row 2 rfl) (by decide) r2
   clear q3 HM HUN ci r1 r2 r3
   have q3:wx.cell? ⟨wb,3,none⟩=some (.slice aw le cw1):=(HMx.out.box 0 rfl).blk.cell (i:=3) rfl
   have f3:=(HMx.out.box 0 rfl).blk.frozen 3
   have HMy:Hid (MS wc (wx.setCell ⟨wb,3,none⟩ (.slice a1 (le+1) c1)) [(wb,#[.int .i64 z0,.bool bb,.slice an (Jv (vsL f) (i+3)).length cn1,.slice a1 (le+1) c1],45)] [(.slice (some ⟨gn,0,none⟩) (k+1) cn,vsL (Jy f 2)),(.slice an (Jv (vsL f) (i+3)).length cn1,Jv (vsL f) (i+3)),(.slice a1 (le+1) c1,Jx (vsL f) (i+3)++[z])]):=HMx.out.set 0 rfl 3 _
   have HUy:Hid (Y9 wc.heap.size (wx.setCell ⟨wb,3,none⟩ (.slice a1 (le+1) c1)) u10 ((Jv (vsL f) (i+3)).map nmN)):=Q2 HUx.out (HMx.out.box 0 rfl) (by decide) _ _
   clear HMx HUx
   go_wp2
   go_roundw
   case rel=>exact⟨i+1,_,_,by omega,by go_num,by rw[HST.out.1,HST.out.2];exact HMy,by rw[HST.out.1];exact HUy⟩
   case measure=>simp[intOf];omega
  have d5:Int.tmod (i:Int) 2=0:=by rw[Int.tmod_eq_emod_of_nonneg (by omega)];omega
  have HST:=Q0 (I8 (v:=vsL f) (i:=i) (by omega))
  generalize iat (vsL f) (i+3)=z at *
  obtain⟨lo,hlo_⟩:∃q,(Jv (vsL f) (i+3)).length=q:=⟨_,rfl⟩
  have HLO:Hid ((Jv (vsL f) (i+3)).length=lo):=hlo_
  rw[hlo_] at HM hlo
  clear hlo_
  have q2:wr.cell? ⟨wb,2,none⟩=some (.slice an lo cn1):=(HM.out.box 0 rfl).blk.cell (i:=2) rfl
  go_wp2_with (at_builtin;refine Xb rfl _ _ rfl wc.heap.size lo (.slice an lo cn1) (Jv (vsL f) (i+3)) z wr rfl (HM.out.row 1 rfl) rfl HLO.out (by omega) hzz ?_)
  intro a1 c1 wx r1 r2 r3
  have HMx:Hid (MS wc wx [(wb,#[.int .i64 z0,.bool bb,.slice an lo cn1,.slice aw (Jx (vsL f) (i+3)).length cw1],45)] [(.slice (some ⟨gn,0,none⟩) (k+1) cn,vsL (Jy f 2)),(.slice a1 (lo+1) c1,Jv (vsL f) (i+3)++[z]),(.slice aw (Jx (vsL f) (i+3)).length cw1,Jx (vsL f) (i+3))]):=HM.out.grow 1 rfl r1 r2 r3
  have HUx:Hid (Y9 wc.heap.size wx u10 ((Jv (vsL f) (i+3)).map nmN)):=Q4 HUN.out (HM.out.row 1 rfl) (by decide) r2
  clear q2 HM HUN ci r1 r2 r3 hzz
  have q2:wx.cell? ⟨wb,2,none⟩=some (.slice an lo cn1):=(HMx.out.box 0 rfl).blk.cell (i:=2) rfl
  have f2:=(HMx.out.box 0 rfl).blk.frozen 2
  have HMy:Hid (MS wc (wx.setCell ⟨wb,2,none⟩ (.slice a1 (lo+1) c1)) [(wb,#[.int .i64 z0,.bool bb,.slice a1 (lo+1) c1,.slice aw (Jx (vsL f) (i+3)).length cw1],45)] [(.slice (some ⟨gn,0,none⟩) (k+1) cn,vsL (Jy f 2)),(.slice a1 (lo+1) c1,Jv (vsL f) (i+3)++[z]),(.slice aw (Jx (vsL f) (i+3)).length cw1,Jx (vsL f) (i+3))]):=HMx.out.set 0 rfl 2 _
  have HUy:Hid (Y9 wc.heap.size (wx.setCell ⟨wb,2,none⟩ (.slice a1 (lo+1) c1)) u10 ((Jv (vsL f) (i+3)).map nmN)):=Q2 HUx.out (HMx.out.box 0 rfl) (by decide) _ _
  clear HMx HUx
  go_upto_region 18 with fail
  generalize wx.setCell ⟨wb,2,none⟩ (.slice a1 (lo+1) c1)=wy at *
  clear q2 f2
  go_wp2_with fail
  refine(Uv z wy).mono ?_
  rintro e wz ⟨rfl,hxz⟩
  have HMz:=Q0 (HMy.out.next hxz)
  have HUz:Hid (Y9 wc.heap.size wz u10 ((Jv (vsL f) (i+3)).map nmN)):=Qp HUy.out hxz
  have hzz:wc.heap.size<=wz.heap.size:=HMz.out.nx.size
  have HLU:Hid (((Jv (vsL f) (i+3)).map nmN).length=lo):=by unfold Hid;rw[List.length_map];exact HLO.out
  clear hxz HMy HUy
  go_wp2_with (at_builtin;refine Q4b rfl _ _ rfl wc.heap.size lo u10 ((Jv (vsL f) (i+3)).map nmN) (0,z,0) wz rfl HUz.out rfl HLU.out (by omega) hzz ?_)
  intro a2 c2 w8 r1 r2
  have HM8:=Q0 (HMz.out.other HUz.out (Nat.le_refl _) (by decide) (λj p hp=>by
   match j,hp with
   |0,hp=>cases hp;show 45≠132;decide
   |j+1,hp=>simp at hp) r2)
  have HU8:Hid (Y9 wc.heap.size w8 (.slice a2 (lo+1) c2) ((Jv (vsL f) (i+3)++[z]).map nmN)):=by unfold Hid;rw[List.map_append];exact r1
  clear r1 r2 HMz HUz hzz HLU
  go_wp2
  go_roundw
  case rel=>exact⟨i+1,_,_,by omega,by go_num,by rw[HST.out.1,HST.out.2];exact HM8,by rw[HST.out.1];exact HU8⟩
  case measure=>simp[intOf];omega
 have ei:i=k:=by omega
 subst ei
 rw[<-HNL.out] at HM HUN
 clear hlt hik HCN HVI
 go_wp2
 obtain⟨aW,cW,eW⟩:=Q3 HR.out.wy
 obtain⟨nW,hnW⟩:∃q,(wyO ps).length=q:=⟨_,rfl⟩
 have hnl:=Q7v ps
 rw[hnW] at eW hnl
 subst eW
 have HLN:Hid ((wyO ps).length=nW):=hnW
 clear hnW
 have HNN:Hid (¬(some wb=(Value.slice aW nW cW).ownBlock)):=λe=>by
  have h1:=(Ql HR.out.wy wb e.symm).2
  have h2:=(HM.out.bx 0 _ rfl).2.1
  have h3:(wb,#[Value.int .i64 z0,.bool bb,vn,vw],45).1=wb:=rfl
  omega
 have HTR:Hid (wb≠rb):=by
  have h1:=HR.out.bx.lt
  have h2:wc.heap.size<=wb:=(HM.out.bx 0 _ rfl).2.1
  unfold Hid;omega
 have HRT:=Q0 HR.out.rlt
 obtain⟨an,cn1,en⟩:=Q3 (HM.out.row 1 rfl)
 obtain⟨aw,cw1,ew⟩:=Q3 (HM.out.row 2 rfl)
 generalize hln:(Jv (vsL f) f.length).length=ln at en
 generalize hlw:(Jx (vsL f) f.length).length=lw at ew
 clear hln hlw
 subst en ew
 obtain⟨au,cu,eu⟩:=Q3 HUN.out
 generalize hlu:((Jv (vsL f) f.length).map nmN).length=lu at eu
 clear hlu
 subst eu
 have HAP:Hid (Ap (.slice an ln cn1,Jv (vsL f) f.length) (.slice aw lw cw1,Jx (vsL f) f.length)):=λg hg=>HM.out.ap 1 2 _ _ g (by decide) rfl rfl hg
 have HVN:=Q0 (HM.out.row 1 rfl)
 have HVW:=Q0 (HM.out.row 2 rfl)
 have HWX:Hid (BT wr wb #[.int .i64 z0,.bool bb,.slice an ln cn1,.slice aw lw cw1] 45):=HM.out.box 0 rfl
 have HR2:=Q0 (HR.out.next HM.out.nx)
 have HW0:Hid (w0.heap.size<=wc.heap.size):=HR.out.nx.size
 clear HM HR HX1
 go_upto_region 20 with fail
 have hxd:Nx wr wr.drew:=(Below.refl _ _).drew
 have HD:=Q0 (HR2.out.next hxd)
 have HB2:=Q0 (HWX.out.next hxd)
 have HN2:=Q0 (Qp HVN.out hxd)
 have HW2:=Q0 (Qp HVW.out hxd)
 have HU2:=Q0 (Qp HUN.out hxd)
 have HSS:Hid ((λq=>q.cell? ⟨rb,1,none⟩=some (.slice aW nW cW)/\q.cell? ⟨wb,0,none⟩=some (.int .i64 z0)/\q.cell? ⟨wb,1,none⟩=some (.bool bb)/\q.cell? ⟨wb,2,none⟩=some (.slice an ln cn1)/\q.cell? ⟨wb,3,none⟩=some (.slice aw lw cw1)) wr.drew):=⟨Qf hxd (HR2.out.bx.blk.cell (i:=1) rfl),Qf hxd (HWX.out.blk.cell (i:=0) rfl),Qf hxd (HWX.out.blk.cell (i:=1) rfl),Qf hxd (HWX.out.blk.cell (i:=2) rfl),Qf hxd (HWX.out.blk.cell (i:=3) rfl)⟩
 clear HR2 hxd HWX HVN HVW HUN
 refine(wpIn_wide (n:=9)).1 ?_
 refine Q9 (c:=12) (S:=λq=>q.cell? ⟨rb,1,none⟩=some (.slice aW nW cW)/\q.cell? ⟨wb,0,none⟩=some (.int .i64 z0)/\q.cell? ⟨wb,1,none⟩=some (.bool bb)/\q.cell? ⟨wb,2,none⟩=some (.slice an ln cn1)/\q.cell? ⟨wb,3,none⟩=some (.slice aw lw cw1)) hmx (by kernel_rfl) (λhw hcl=>?_)
 generalize wr.drew=wd at *
 refine tq (i:=0) (v:=.pointer (some ⟨rb,0,none⟩)) (λhcl=>?_)
 refine tq (i:=1) (v:=.pointer (some ⟨rb,0,none⟩)) (λhcl=>?_)
 refine tq (i:=2) (v:=.pointer (some ⟨rb,0,none⟩)) (λhcl=>?_)
 refine tq (i:=3) (v:=.pointer (some ⟨rb,0,none⟩)) (λhcl=>?_)
 refine tq (i:=4) (v:=.pointer (some ⟨rb,1,none⟩)) (λhcl=>?_)
 refine tq (i:=5) (v:=.slice aW nW cW) (λhcl=>?_)
 refine tq (i:=6) (v:=.agg #[.int .i64 z0,.bool bb,.slice an ln cn1,.slice aw lw cw1]) (λhcl=>?_)
 refine Q5 (i:=7) (by kernel_rfl) hcl (λhcl=>wpOpIn_step rfl (λK hK=>?_))
 go_simp
 refine hK _ _ ⟨Or.inr ⟨Qf (Qd _ _) HSS.out.1,Qf (Qd _ _) HSS.out.2.1,Qf (Qd _ _) HSS.out.2.2.1,Qf (Qd _ _) HSS.out.2.2.2.1,Qf (Qd _ _) HSS.out.2.2.2.2⟩,?_⟩
 clear hK K
 have hzz:w0.heap.size<=wd.heap.size:=HD.out.nx.size
 refine Q5 (i:=8) (by kernel_rfl) hcl (λhcl=>wpOpIn_step rfl (λK hK=>?_))
 refine Q7q rfl (.tmp 93) (.tmp 95) rfl w0.heap.size nW (.slice aW nW cW) (wyO ps) ((⟨z0,bb,Jv (vsL f) f.length,Jx (vsL f) f.length⟩,.slice an ln cn1,.slice aw lw cw1)) wd _ rfl (by simp[Act.eval]) HD.out.wy (by simp[Act.eval]) HLN.out (by intro u hu;simp[wvL,Pc] at hu;rcases hu with rfl|rfl|rfl|rfl<;>rfl) (by omega) hzz ?_
 intro a1 c1 wx r1 r2
 obtain⟨hbx,hrm⟩:=HD.out.growW r1 r2
 have HBX:=Q0 hbx
 have HRX:=Q0 hrm
 have HB3:=Q0 (HB2.out.chg r2 HNN.out)
 have HB4:=Q0 (HB3.out.setOther HTR.out 1 (.slice a1 (nW+1) c1))
 have HN4:=Q0 (Q2 (Q4 HN2.out HD.out.wy (by decide) r2) HBX.out (by decide) 1 (.slice a1 (nW+1) c1))
 have HW4:=Q0 (Q2 (Q4 HW2.out HD.out.wy (by decide) r2) HBX.out (by decide) 1 (.slice a1 (nW+1) c1))
 have HU4:=Q0 (Q2 (Q4 HU2.out HD.out.wy (by decide) r2) HBX.out (by decide) 1 (.slice a1 (nW+1) c1))
 have HSY:Hid ((λq=>q.cell? ⟨rb,1,none⟩=some (.slice aW nW cW)/\q.cell? ⟨wb,0,none⟩=some (.int .i64 z0)/\q.cell? ⟨wb,1,none⟩=some (.bool bb)/\q.cell? ⟨wb,2,none⟩=some (.slice an ln cn1)/\q.cell? ⟨wb,3,none⟩=some (.slice aw lw cw1)) wx):=⟨HBX.out.blk.cell (i:=1) rfl,HB3.out.blk.cell (i:=0) rfl,HB3.out.blk.cell (i:=1) rfl,HB3.out.blk.cell (i:=2) rfl,HB3.out.blk.cell (i:=3) rfl⟩
 clear HSS
 have HSS:=HSY
 clear HSY
 refine hK _ _ ⟨Or.inr HSS.out,?_⟩
 clear hK K
 clear hrm hbx r1 r2 hzz HD HB2 HB3 HN2 HW2 HU2
 refine tq (i:=9) (v:=.pointer (some ⟨rb,0,none⟩)) (λhcl=>?_)
 refine tq (i:=10) (v:=.pointer (some ⟨rb,0,none⟩)) (λhcl=>?_)
 refine tq (i:=11) (v:=.pointer (some ⟨rb,1,none⟩)) (λhcl=>?_)
 have q_:wx.cell? ⟨rb,1,none⟩=some (.slice aW nW cW):=HBX.out.blk.cell (i:=1) rfl
 have f_:=HBX.out.blk.frozen 1
 refine Qk (i:=12) (by kernel_rfl) (wpOpIn_step rfl (λK hK=>?_))
 go_simp
 refine hK _ _ ⟨Or.inl (by decide),?_⟩
 clear hK K
 refine Qi (by kernel_rfl) ?_ _
 clear hw hcl q_ f_ HSS HBX
 generalize wx.setCell ⟨rb,1,none⟩ (.slice a1 (nW+1) c1)=w3 at *
 have HRA:Hid (RM w0 w3 rb vN (.slice a1 (nW+1) c1) vR vT (utO ps) line vL (ndO ps) (wyO ps++[(⟨z0,bb,Jv (vsL f) f.length,Jx (vsL f) f.length⟩,.slice an ln cn1,.slice aw lw cw1)]) (rlO ps) (tnO ps) (lnO ps) (irO ps++[(.slice an ln cn1,Jv (vsL f) f.length),(.slice aw lw cw1,Jx (vsL f) f.length)])):=by
  refine HRX.out.addRows (λr hr=>?_) ?_ (λa ha b hb g hg e=>?_)
  ·rcases List.mem_cons.1 hr with e|hr2
   ·rw[e];exact Jd HN4.out HW0.out
   ·rw[List.mem_singleton.1 hr2];exact Jd HW4.out HW0.out
  ·refine List.pairwise_cons.2 ⟨λb hb=>?_,List.pairwise_cons.2 ⟨λb hb=>by simp at hb,List.Pairwise.nil⟩⟩
   rw[List.mem_singleton.1 hb];exact HAP.out
  ·have h1:=HRT.out a ha g hg
   rcases List.mem_cons.1 hb with e2|hb2
   ·rw[e2] at e;have h2:=(Ql HN4.out g e).1;omega
   ·rw[List.mem_singleton.1 hb2] at e;have h2:=(Ql HW4.out g e).1;omega
 have HU5:Hid (Y9 w0.heap.size w3 (.slice au lu cu) ((Jv (vsL f) f.length).map nmN)):=Jd HU4.out HW0.out
 have c0:w3.cell? ⟨wb,0,none⟩=some (.int .i64 z0):=HB4.out.blk.cell (i:=0) rfl
 clear HRX HN4 HW4 HU4 HAP HRT HB4
 go_wp2_with fail
 refine(Y3 z0 w3).mono ?_
 rintro e w4 ⟨rfl,hx⟩
 have HR4:=Q0 (HRA.out.next hx)
 have HU6:Hid (Y9 w0.heap.size w4 (.slice au lu cu) ((Jv (vsL f) f.length).map nmN)):=Qp HU5.out hx
 clear hx HRA HU5 c0
 go_wp2_with fail
 refine(Wo w0 rb _ _ _ _ _ line vL _ _ _ _ _ _ w4 HR4.out HLL.out 1 z0 0 ((Jv (vsL f) f.length).map nmN) (.slice au lu cu) HU6.out).mono ?_
 rintro e w5 ⟨rfl,vL',hr5⟩
 have HR5:=Q0 hr5
 clear hr5 HR4 HU6
 go_wp2
 go_ret
 refine Or.inl ⟨HC0.out,rfl,⟨rdS f,line,.slice an ln cn1,.slice aw lw cw1,.slice none 0 0,.slice au lu cu⟩,rfl,rfl,vN,.slice a1 (nW+1) c1,vR,vT,vL',?_⟩
 have h5:=HR5.out
 have HNM:Hid ((Jv (vsL f) f.length).map nmN=(Jv (vsL f) f.length).map (λx=>((0,x,0):Nm))):=rfl
 rw[HNM.out] at h5
 simpa [Zh,Ug,Zd,Uc,U9,Wt,Wp,ndP,wyP,rlP,tnP,irP,lnP,Y4,Yy,HRDW.out] using h5
end Go.Proofs.YtmmolhlihhdkcaaGreatDoor
