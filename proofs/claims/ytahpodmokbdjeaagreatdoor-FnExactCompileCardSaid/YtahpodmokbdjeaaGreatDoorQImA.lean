import Derived.Test.YtahpodmokbdjeaaGreatDoorQLeaf
import Derived.Deep.RegionHeld3
namespace Go.Proofs.YtahpodmokbdjeaaGreatDoor
open Go.RowKit Tryz
set_option linter.unusedVariables false
set_option maxHeartbeats 16000000
def Wo (zs:List Int):Bool:=Je zs.length (λi=>inB (iat zs i))
theorem Q08 (B:Nat)(v:Value)(zs:List Int)(w:World)(h0:Q8 B w v zs) :
  Calls prog 146 #[v,.func (.func 109) #[] #[]] w λe w'=>∃r:Int,e=.returned (iV r)/\decide (0<=r)=!Wo zs/\w'=w:=by
 obtain⟨a,cap,rfl,hn,hk⟩:=h0
 unfold maxLen at hn
 generalize hz:zs.length=n at *
 have HZ:Z (zs.length=n):=hz
 clear hz
 go_enter func146,ntmps146
 go_wp2
 go_loop [8] (λi=>∃k:Nat,k<=n/\i=iV k/\Z (Vn (λi=>inB (iat zs i)) k)) (λi=>n-(intOf i).toNat)
 case atStart=>exact⟨0,nZ,rfl,J4 _⟩
 case round=>
  obtain⟨k,hkn,rfl,hrel⟩:=hrel
  by_cases hlt:k<n
  ·obtain⟨b,off,rfl,hB,hb,hc⟩:=hk (by omega)
   have hcc:=hc k hlt
   clear hc hk
   by_cases hin:inB (iat zs k)=true
   ·go_wp2_with (go_at_call 109;refine(Tv _ _).mono ?_;rintro e w' ⟨rfl,rfl⟩)
    go_round
    case rel=>exact⟨k+1,by omega,by go_num,Qr hrel hin⟩
    case measure=>simp[intOf];omega
   ·have hin':inB (iat zs k)=false:=by simpa using hin
    go_wp2_with (go_at_call 109;refine(Tv _ _).mono ?_;rintro e w' ⟨rfl,rfl⟩)
    go_ret
    exact⟨k,rfl,by unfold Wo;rw[J2 (by rw[HZ.o];exact hlt) hin'];simp,rfl⟩
  ·go_wp2
   go_ret
   exact⟨-1,rfl,by unfold Wo;rw[Qz (by rw[HZ.o];omega) hrel];rfl,rfl⟩
theorem Wl (B:Nat)(v:Value)(zs:List Int)(w:World)(h0:Q8 B w v zs) :
  Calls prog 108 #[v,.func (.func 109) #[] #[]] w λe w'=>e=.returned (.bool (!Wo zs))/\w'=w:=by
 go_enter func108,ntmps108
 go_wp2_with fail
 refine(Q08 B _ zs _ h0).mono ?_
 rintro e w' ⟨r,rfl,hr,rfl⟩
 go_wp2
 go_ret
 exact⟨rfl,rfl⟩
def ltI (zs:List Int)(i j:Nat):Bool:=decide (iat zs i<iat zs j)
def Z4 (zs:List Int):Bool:=Kd zs.length (ltI zs)
theorem Q5p (B:Nat)(v:Value)(zs:List Int)(w:World)(h0:Q8 B w v zs) :
  Calls prog 106 #[v,.func (.func 107) #[] #[]] w λe w'=>e=.returned (.bool (Z4 zs))/\Nx w w':=by
 obtain⟨a,cap,rfl,hn,hk⟩:=h0
 unfold maxLen at hn
 generalize hz:zs.length=n at *
 have HZ:Z (zs.length=n):=hz
 clear hz
 go_enter func106,ntmps106
 go_wp2
 go_loopw [5] (λi wr=>∃j:Nat,(j+1<=n\/j=0)/\i=iV ((j:Int)+1)/\Z (Vn (X9 (ltI zs)) (j+1))/\Nx w wr) (λi _=>n-(intOf i).toNat)
 case atStart=>exact⟨0,oR rfl,rfl,Pn _,Nx.refl _⟩
 case round=>
  obtain⟨j,hj,rfl,hrel,hnx⟩:=hrel
  have HN:Z (Nx w wr):=hnx
  clear hnx
  by_cases hlt:j+1<n
  ·obtain⟨b,off,rfl,hB,hb,hc⟩:=hk (by omega)
   have hc0:=Q0 HN.o hb (hc j (by omega))
   have hc1:=Q0 HN.o hb (hc (j+1) hlt)
   have hlt':(j:Int)+1<n:=by omega
   have hlj:(j:Int)<n:=by omega
   have hwj:=Yk j (by omega)
   clear hc hk
   by_cases hab:iat zs j<iat zs (j+1)
   ·have hd:decide (0<=Xy (iat zs j) (iat zs (j+1)))=false:=by rw[Z9];simp[hab]
    have hat:X9 (ltI zs) (j+1)=true:=by rw[Jk];simp[ltI,hab]
    have HT:=hat
    clear hat
    go_wp2
    go_region_with (go_at_call 107;refine(Pk _ _ _).mono ?_;rintro e w' ⟨rfl,rfl⟩)
    all_goals go_wp2
    all_goals
     go_roundw
     case rel=>exact⟨j+1,by omega,by go_num,Qr hrel HT,HN.o.drew⟩
     case measure=>simp[intOf];omega
   ·have hd:decide (0<=Xy (iat zs j) (iat zs (j+1)))=true:=by rw[Z9];simp[hab]
    have HT:Z (X9 (ltI zs) (j+1)=false):=by unfold Z;rw[Jk];simp[ltI];omega
    go_wp2
    go_region_with (go_at_call 107;refine(Pk _ _ _).mono ?_;rintro e w' ⟨rfl,rfl⟩)
    all_goals go_wp2
    all_goals
     go_ret
     exact⟨Q6 (by unfold Z4 Kd;rw[J2 (by rw[HZ.o];exact hlt) HT.o]),HN.o.drew⟩
  ·have hge:(n:Int)<=(j:Int)+1:=by omega
   go_wp2
   go_ret
   exact⟨Q6 (by unfold Z4 Kd;rw[Qz (by rw[HZ.o];omega) hrel]),HN.o⟩
theorem Z8 (x y:Int)(b c:Bool)(p q r s:Value)(w:World) :
  Calls prog 112 #[.agg #[iV x,.bool b,p,q],.agg #[iV y,.bool c,r,s]] w λe w'=>e=.returned (iV (Xy x y))/\Nx w w':=by
 go_enter func112,ntmps112
 go_wp2_with (go_at_call 107;refine(Pk _ _ _).mono ?_;rintro e w' ⟨rfl,rfl⟩)
 go_ret
 exact⟨rfl,Zk _ _ _⟩
theorem F8 (x y:Int)(a1 a2 a3 a4 a5 a6 b1 b2 b3 b4 b5 b6:Value)(w:World) :
  Calls prog 115 #[.agg #[iV x,a1,a2,a3,a4,a5,a6],.agg #[iV y,b1,b2,b3,b4,b5,b6]] w λe w'=>e=.returned (iV (Xy x y))/\Nx w w':=by
 go_enter func115,ntmps115
 go_wp2_with (go_at_call 107;refine(Pk _ _ _).mono ?_;rintro e w' ⟨rfl,rfl⟩)
 go_ret
 exact⟨rfl,Zk _ _ _⟩
def orI (a b:Int):Int:=if a=0 then b else a
theorem Qbz (b off c:Nat)(x y:Int)(w:World)(h0:w.cell? (aD b off)=some (iV x))(h1:w.cell? (aD b (off+1))=some (iV y)) :
  Calls prog 144 #[sL (some (aD b off)) 2 c] w λe w'=>e=.returned (iV (orI x y))/\w'=w:=by
 go_enter func144,ntmps144
 go_wp2
 go_loop [8] (λi=>(i=iV 0)\/(i=iV 1/\Z (x=0))\/(i=iV 2/\Z (x=0/\y=0))) (λi=>2-(intOf i).toNat)
 case atStart=>exact oL rfl
 case round=>
  rcases hrel with rfl|⟨rfl,hx⟩|⟨rfl,hx⟩
  ·by_cases hx:x=0
   ·have hd:(x !=0)=false:=by simp[hx]
    have HX:Z (x=0):=hx
    clear hx
    go_wp2
    go_round
    case rel=>exact oR (oL ⟨rfl,HX⟩)
    case measure=>simp[intOf]
   ·have hd:(x !=0)=true:=by simp[hx]
    go_wp2
    go_ret
    exact⟨Qv (by simp[orI,hx]),rfl⟩
  ·by_cases hy:y=0
   ·have hd:(y !=0)=false:=by simp[hy]
    have HY:Z (x=0/\y=0):=⟨hx.o,hy⟩
    clear hy
    go_wp2
    go_round
    case rel=>exact oR (oR ⟨rfl,HY⟩)
    case measure=>simp[intOf]
   ·have hd:(y !=0)=true:=by simp[hy]
    go_wp2
    go_ret
    exact⟨Qv (by simp[orI,hx.o]),rfl⟩
  ·go_wp2
   go_ret
   exact⟨Qv (by simp[orI,hx.o.1,hx.o.2]),rfl⟩
def Pr (s t:Tn):Int:=orI (Xy s.frm t.frm) (Xy s.to t.to)
def Ga (s t:Tn):Bool:=decide (s.frm<t.frm)||(s.frm==t.frm&&decide (s.to<t.to))
theorem P6 (s t:Tn):decide (0<=Pr s t)=!Ga s t:=by
 unfold Pr Ga orI Xy
 by_cases h1:s.frm<t.frm
 ·simp[h1]
 ·by_cases h2:t.frm<s.frm
  ·have:(s.frm==t.frm)=false:=by simp;omega
   simp[h1,h2,this]
  ·have:(s.frm==t.frm)=true:=by simp;omega
   by_cases h3:s.to<t.to
   ·simp[h1,h2,this,h3]
   ·by_cases h4:t.to<s.to<;>simp[h1,h2,this,h3,h4]
theorem Qd6 (W:World)(x y:Value)(t:TypeId)(n:Nat)(hn:W.heap.size=n):(W.alloc (.cells #[x,y] t)).drew.cell? (aD n 0)=some x:=by subst hn;go_simp
theorem Qd5 (W:World)(x y:Value)(t:TypeId)(n:Nat)(hn:W.heap.size=n):(W.alloc (.cells #[x,y] t)).drew.cell? (aD n (0+1))=some y:=by subst hn;go_simp
theorem Yi (s t:Tn)(w:World) :
  Calls prog 118 #[.agg #[iV s.frm,iV s.to,iV s.cost],.agg #[iV t.frm,iV t.to,iV t.cost]] w λe w'=>e=.returned (iV (Pr s t))/\Nx w w':=by
 go_enter func118,ntmps118
 go_wp2_with fail
 go_region_held3 (λw'=>w'.cell? (aD w.heap.size 0)=some (iV s.frm)/\w'.cell? (aD w.heap.size 1)=some (iV s.to)/\w'.cell? (aD (w.heap.size+1) 0)=some (iV t.frm)/\w'.cell? (aD (w.heap.size+1) 1)=some (iV t.to)) (go_keep) (first|(go_at_call 107;refine(Pk _ _ _).mono ?_;rintro e w' ⟨rfl,rfl⟩)|(go_at_call 144;refine(Qbz _ _ _ (Xy s.frm t.frm) (Xy s.to t.to) _ (by exact Qd6 _ _ _ _ _ (by simp)) (by exact Qd5 _ _ _ _ _ (by simp))).mono ?_;rintro e w' ⟨rfl,rfl⟩))
 all_goals go_wp2
 all_goals
  go_ret
  exact⟨rfl,((Zk _ _ _).alloc _).drew⟩
def ltW (xs:List Wy)(i j:Nat):Bool:=decide ((wat xs i).id<(wat xs j).id)
def Ur (xs:List Wy):Bool:=Kd xs.length (ltW xs)
theorem Qdm (B:Nat)(v:Value)(zs:List Wy)(w:World)(h0:Jy B w v zs) :
  Calls prog 111 #[v,.func (.func 112) #[] #[]] w λe w'=>e=.returned (.bool (Ur zs))/\Nx w w':=by
 obtain⟨a,cap,rfl,hn,hk⟩:=h0
 unfold maxLen at hn
 generalize hz:zs.length=n at *
 have HZ:Z (zs.length=n):=hz
 clear hz
 go_enter func111,ntmps111
 go_wp2
 go_loopw [5] (λi wr=>∃j:Nat,(j+1<=n\/j=0)/\i=iV ((j:Int)+1)/\Z (Vn (X9 (ltW zs)) (j+1))/\Nx w wr) (λi _=>n-(intOf i).toNat)
 case atStart=>exact⟨0,oR rfl,rfl,Pn _,Nx.refl _⟩
 case round=>
  obtain⟨j,hj,rfl,hrel,hnx⟩:=hrel
  have HN:Z (Nx w wr):=hnx
  clear hnx
  by_cases hlt:j+1<n
  ·obtain⟨b,off,rfl,hB,hb,hc⟩:=hk (by omega)
   obtain⟨p1,p2,a0,a1,a2,a3,_⟩:=hc j (by omega)
   obtain⟨q1,q2,b0,b1,b2,b3,_⟩:=hc (j+1) hlt
   have a0:=Q0 HN.o hb a0
   have a1:=Q0 HN.o hb a1
   have a2:=Q0 HN.o hb a2
   have a3:=Q0 HN.o hb a3
   have b0:=Q0 HN.o hb b0
   have b1:=Q0 HN.o hb b1
   have b2:=Q0 HN.o hb b2
   have b3:=Q0 HN.o hb b3
   have hlt':(j:Int)+1<n:=by omega
   have hlj:(j:Int)<n:=by omega
   have hwj:=Yk j (by omega)
   clear hc hk
   by_cases hab:(wat zs j).id<(wat zs (j+1)).id
   ·have hd:decide (0<=Xy (wat zs j).id (wat zs (j+1)).id)=false:=by rw[Z9];simp[hab]
    have HT:Z (X9 (ltW zs) (j+1)=true):=by unfold Z;rw[Jk];simp[ltW,hab]
    go_wp2
    go_region_with (go_at_call 112;refine(Z8 _ _ _ _ _ _ _ _ _).mono ?_;rintro e w' ⟨rfl,hx⟩)
    all_goals go_wp2
    all_goals
     go_roundw
     case rel=>exact⟨j+1,by omega,by go_num,Qr hrel HT.o,HN.o.drew.trans hx⟩
     case measure=>simp[intOf];omega
   ·have hd:decide (0<=Xy (wat zs j).id (wat zs (j+1)).id)=true:=by rw[Z9];simp[hab]
    have HT:Z (X9 (ltW zs) (j+1)=false):=by unfold Z;rw[Jk];simp[ltW];omega
    go_wp2
    go_region_with (go_at_call 112;refine(Z8 _ _ _ _ _ _ _ _ _).mono ?_;rintro e w' ⟨rfl,hx⟩)
    all_goals go_wp2
    all_goals
     go_ret
     exact⟨Q6 (by unfold Ur Kd;rw[J2 (by rw[HZ.o];exact hlt) HT.o]),HN.o.drew.trans hx⟩
  ·have hge:(n:Int)<=(j:Int)+1:=by omega
   go_wp2
   go_ret
   exact⟨Q6 (by unfold Ur Kd;rw[Qz (by rw[HZ.o];omega) hrel]),HN.o⟩
theorem Uq {n:Nat}{lt:Nat->Nat->Bool}{f:Nat->Int}(hlt:∀i j,lt i j=decide (f i<f j))(h:Kd n lt=true):∀i j,i<j->j<n->f i<f j:=by
 intro i j hij hj
 unfold Kd Je at h
 rw[List.all_eq_true] at h
 induction j with
 |zero=>omega
 |succ j ih=>
  have h1:=h (j+1) (List.mem_range.2 hj)
  rw[Jk,hlt] at h1
  have h1:=of_decide_eq_true h1
  by_cases e:i=j
  ·subst e;exact h1
  ·have:=ih (by omega) (by omega);omega
def Mid (f:Nat->Int)(n:Nat)(t:Int)(lo hi:Nat):Prop:=lo<=hi/\hi<=n/\(∀i,i<lo->f i<t)/\(∀i,hi<=i->i<n->t<=f i)
theorem Ph (f:Nat->Int)(n:Nat)(t:Int):Mid f n t 0 n:=⟨nZ,lR,λi hi=>absurd hi (zM _),λi h1 h2=>by omega⟩
theorem Q28 {f:Nat->Int}{n:Nat}{t:Int}{lo hi h:Nat}(hm:∀i j,i<j->j<n->f i<f j)(H:Mid f n t lo hi)(h1:h<hi)(hf:f h<t)(h0:lo<=h):Mid f n t (h+1) hi:=by
 obtain⟨a,b,c,d⟩:=H
 refine⟨by omega,b,λi hi'=>?_,d⟩
 by_cases e:i=h
 ·subst e;exact hf
 ·have:=hm i h (by omega) (by omega);omega
theorem Kv {f:Nat->Int}{n:Nat}{t:Int}{lo hi h:Nat}(hm:∀i j,i<j->j<n->f i<f j)(H:Mid f n t lo hi)(h1:h<hi)(hf:¬f h<t)(h0:lo<=h):Mid f n t lo h:=by
 obtain⟨a,b,c,d⟩:=H
 refine⟨by omega,by omega,c,λi hi' hn=>?_⟩
 by_cases e:i=h
 ·subst e;omega
 ·have:=hm h i (by omega) hn;omega
theorem Q4y {zs:List Int}{t:Int}{lo:Nat}(hm:∀i j,i<j->j<zs.length->iat zs i<iat zs j)(H:Mid (iat zs) zs.length t lo lo):Vs zs t=(decide (lo<zs.length)&&(iat zs lo==t)):=by
 obtain⟨a,b,c,d⟩:=H
 by_cases hl:lo<zs.length
 ·by_cases e:iat zs lo=t
  ·rw[<-Q4x hl (by simp[e])];simp[hl,e]
  ·rw[<-Q2i (k:=zs.length) lR (λi hi=>?_)]
   ·simp[e]
   ·by_cases h1:i<lo
    ·have:=c i h1;omega
    ·by_cases h2:i=lo
     ·subst h2;exact e
     ·have:=hm lo i (by omega) hi;have:=d lo lR hl;omega
 ·rw[<-Q2i (k:=zs.length) lR (λi hi=>?_)]
  ·simp[hl]
  ·have:=c i (by omega);omega
theorem Qd0 {zs:List Wy}{t:Int}{lo:Nat}(hm:∀i j,i<j->j<zs.length->(wat zs i).id<(wat zs j).id)(H:Mid (λi=>(wat zs i).id) zs.length t lo lo):Ju zs t=(decide (lo<zs.length)&&((wat zs lo).id==t)):=by
 obtain⟨a,b,c,d⟩:=H
 by_cases hl:lo<zs.length
 ·by_cases e:(wat zs lo).id=t
  ·rw[Q4w hl (by simp[e])];simp[hl,e]
  ·rw[Fm (k:=zs.length) lR (λi hi=>?_)]
   ·simp[e]
   ·by_cases h1:i<lo
    ·have:=c i h1;simp only at this;omega
    ·by_cases h2:i=lo
     ·subst h2;exact e
     ·have:=hm lo i (by omega) hi;have:=d lo lR hl;simp only at this;omega
 ·rw[Fm (k:=zs.length) lR (λi hi=>?_)]
  ·simp[hl]
  ·have:=c i (by omega);simp only at this;omega
theorem Iy {r:Int}{a b:Bool}(h:a=b):Ending.returned (.tuple #[iV r,.bool a])=.returned (.tuple #[iV r,.bool b]):=by rw[h]
theorem Qaw (n:Int):IntKind.u64.wrap n=n%18446744073709551616:=by simp[IntKind.wrap,IntKind.bits,IntKind.signed]
theorem Q8k (lo hi:Nat)(h1:lo<hi)(h2:hi<=9223372036854775807):∃h:Nat,wrap64 (IntKind.u64.wrap (wrap64 ((lo:Int)+(hi:Int)))/2)=(h:Int)/\lo<=h/\h<hi:=by
 refine⟨(lo+hi)/2,?_,by omega,by omega⟩
 rw[Qaw]
 unfold wrap64
 omega
theorem Q0d (B:Nat)(v:Value)(zs:List Int)(t:Int)(w:World)(h0:Q8 B w v zs)(ha:Z4 zs=true) :
  Calls prog 149 #[v,iV t] w λe w'=>(∃r:Int,e=.returned (.tuple #[iV r,.bool (Vs zs t)]))/\w'=w:=by
 have hm:Z (∀i j,i<j->j<zs.length->iat zs i<iat zs j):=Uq (λi j=>rfl) ha
 clear ha
 obtain⟨a,cap,rfl,hn,hk⟩:=h0
 unfold maxLen at hn
 generalize hz:zs.length=n at *
 have HZ:Z (zs.length=n):=hz
 clear hz
 go_enter func149,ntmps149
 go_wp2
 go_loop [7,8,9] (λi j h=>∃lo hi:Nat,lo<=hi/\hi<=n/\i=iV lo/\j=iV hi/\Z (Mid (iat zs) n t lo hi)) (λi j _=>(intOf j).toNat-(intOf i).toNat)
 case atStart=>exact⟨0,n,nZ,lR,rfl,rfl,Ph _ _ _⟩
 case round=>
  obtain⟨lo,hi,h1,h2,rfl,rfl,hrel⟩:=hrel
  by_cases hlt:lo<hi
  ·obtain⟨b,off,rfl,hB,hb,hc⟩:=hk (by omega)
   obtain⟨h,hh,hh1,hh2⟩:=Q8k lo hi hlt (by omega)
   have hcc:=hc h (by omega)
   have hhn:(h:Int)<n:=by omega
   clear hc hk
   by_cases hab:iat zs h<t
   ·have HM:Z (Mid (iat zs) n t (h+1) hi):=Q28 hm.o hrel.o hh2 hab hh1
    go_wp2_with (go_at_call 169;refine(Kw _ _ _).mono ?_;rintro e w' ⟨rfl,rfl⟩)
    go_round
    case rel=>exact⟨h+1,hi,by omega,by omega,by go_num,rfl,HM⟩
    case measure=>simp[intOf];omega
   ·have HM:Z (Mid (iat zs) n t lo h):=Kv hm.o hrel.o hh2 hab hh1
    have hd:decide (iat zs h<t)=false:=by simpa using hab
    go_wp2_with (go_at_call 169;refine(Kw _ _ _).mono ?_;rintro e w' ⟨rfl,rfl⟩)
    go_round
    case rel=>exact⟨lo,h,by omega,by omega,rfl,rfl,HM⟩
    case measure=>simp[intOf];omega
  ·have e:hi=lo:=by omega
   subst e
   have HF:Z (Vs zs t=(decide (hi<n)&&(iat zs hi==t))):=by have z:=HZ.o;subst z;exact Q4y hm.o hrel.o
   by_cases hl:hi<n
   ·obtain⟨b,off,rfl,hB,hb,hc⟩:=hk (by omega)
    have hcc:=hc hi hl
    have hln:(hi:Int)<n:=by omega
    clear hc hk
    by_cases he:iat zs hi=t
    ·have hd:(iat zs hi==t)=true:=by simpa using he
     have HF':Z (Vs zs t=true):=by unfold Z;rw[HF.o,hd];simp[hl]
     clear he
     go_wp2_with (go_at_call 170;refine(Iu _ _).mono ?_;rintro e w' ⟨rfl,rfl⟩)
     go_ret2
     exact⟨⟨_,Iy HF'.o.symm⟩,rfl⟩
    ·have hd:(iat zs hi==t)=false:=by simpa using he
     have HF':Z (Vs zs t=false):=by unfold Z;rw[HF.o,hd];simp
     clear he
     go_wp2_with (go_at_call 170;refine(Iu _ _).mono ?_;rintro e w' ⟨rfl,rfl⟩)
     go_ret2
     exact⟨⟨_,Iy HF'.o.symm⟩,rfl⟩
   ·have HF':Z (Vs zs t=false):=by unfold Z;rw[HF.o];simp[hl]
    have hd:decide ((hi:Int)<n)=false:=by simp;omega
    go_wp2
    go_ret2
    exact⟨⟨_,Iy HF'.o.symm⟩,rfl⟩
theorem P2 (B:Nat)(v0 v1 v2 v3:Value)(u id:Int)(zs:List Int)(w:World)(h0:Q8 B w v0 zs)(ha:Z4 zs=true) :
  Calls prog 147 #[.agg #[v0,v1,v2,v3,iV u],iV id] w λe w'=>e=.returned (.bool (Vs zs id))/\Nx w w':=by
 have HA:Z (Z4 zs=true):=ha
 clear ha
 go_enter func147,ntmps147
 go_wp2_with (go_at_call 149;refine(Q0d B _ zs _ _ (by exact h0.next (Q4 _ _)) HA.o).mono ?_;rintro e w' ⟨⟨r,rfl⟩,rfl⟩)
 go_ret
 exact⟨rfl,Q4 _ _⟩
theorem Qhk (w:World)(a b c d:Value)(t:TypeId):(w.alloc (.cells #[a,b,c,d] t)).cell? (aD w.heap.size 0)=some a:=by go_simp
theorem Qhj (w:World)(a b c d:Value)(t:TypeId):(w.alloc (.cells #[a,b,c,d] t)).cell? (aD w.heap.size 1)=some b:=by go_simp
theorem Qhi (w:World)(a b c d:Value)(t:TypeId):(w.alloc (.cells #[a,b,c,d] t)).cell? (aD w.heap.size 2)=some c:=by go_simp
theorem Qhh (w:World)(a b c d:Value)(t:TypeId):(w.alloc (.cells #[a,b,c,d] t)).cell? (aD w.heap.size 3)=some d:=by go_simp
theorem Wf (w:World)(o:Obj):w.heap.size<(w.alloc o).heap.size:=by simp
theorem Ic (B:Nat)(v:Value)(zs:List Wy)(t:Int)(tb:Bool)(tn tw:Value)(w:World)(h0:Jy B w v zs)(ha:Ur zs=true) :
  Calls prog 148 #[v,.agg #[iV t,.bool tb,tn,tw],.func (.func 112) #[] #[]] w λe w'=>(∃r:Int,e=.returned (.tuple #[iV r,.bool (Ju zs t)]))/\Nx w w':=by
 have hm:Z (∀i j,i<j->j<zs.length->(wat zs i).id<(wat zs j).id):=Uq (f:=λi=>(wat zs i).id) (λi j=>rfl) ha
 clear ha
 obtain⟨a,cap,rfl,hn,hk⟩:=h0
 unfold maxLen at hn
 generalize hz:zs.length=n at *
 have HZ:Z (zs.length=n):=hz
 clear hz
 go_enter func148,ntmps148
 go_wp2
 go_loopw [9,10,11] (λi j h wr=>∃lo hi:Nat,lo<=hi/\hi<=n/\i=iV lo/\j=iV hi/\Z (Mid (λi=>(wat zs i).id) n t lo hi)/\Z (Nx (w.alloc (.cells #[iV t,.bool tb,tn,tw] 108)) wr)) (λi j _ _=>(intOf j).toNat-(intOf i).toNat)
 case atStart=>exact⟨0,n,nZ,lR,rfl,rfl,Ph _ _ _,Nx.refl _⟩
 case round=>
  obtain⟨lo,hi,h1,h2,rfl,rfl,hrel,HN⟩:=hrel
  have x0:=Q0 HN.o (Wf _ _) (Qhk w (iV t) (.bool tb) tn tw 108)
  have x1:=Q0 HN.o (Wf _ _) (Qhj w (iV t) (.bool tb) tn tw 108)
  have x2:=Q0 HN.o (Wf _ _) (Qhi w (iV t) (.bool tb) tn tw 108)
  have x3:=Q0 HN.o (Wf _ _) (Qhh w (iV t) (.bool tb) tn tw 108)
  have HNW:Z (Nx w wr):=(Q4 w _).trans HN.o
  have hwr:w.heap.size<wr.heap.size:=zK (Wf w _) HN.o.size
  by_cases hlt:lo<hi
  ·obtain⟨b,off,rfl,hB,hb,hc⟩:=hk (by omega)
   obtain⟨h,hh,hh1,hh2⟩:=Q8k lo hi hlt (by omega)
   obtain⟨p1,p2,a0,a1,a2,a3,_⟩:=hc h (by omega)
   have hbr:b<wr.heap.size:=zK hb HNW.o.size
   have a0:=Q0 HNW.o hb a0
   have a1:=Q0 HNW.o hb a1
   have a2:=Q0 HNW.o hb a2
   have a3:=Q0 HNW.o hb a3
   have hhn:(h:Int)<n:=by omega
   clear hc hk
   by_cases hab:(wat zs h).id<t
   ·have HM:Z (Mid (λi=>(wat zs i).id) n t (h+1) hi):=Q28 hm.o hrel.o hh2 hab hh1
    have hd:decide (Xy (wat zs h).id t<0)=true:=by rw[Q5g];simp[hab]
    go_wp2
    go_region_held3 (λw'=>w'.cell? (aD b (off+h*4))=some (iV (wat zs h).id)/\w'.cell? (aD b (off+h*4+1))=some (.bool (wat zs h).both)/\w'.cell? (aD b (off+h*4+2))=some p1/\w'.cell? (aD b (off+h*4+3))=some p2/\w'.cell? (aD w.heap.size 0)=some (iV t)/\w'.cell? (aD w.heap.size 1)=some (.bool tb)/\w'.cell? (aD w.heap.size 2)=some tn/\w'.cell? (aD w.heap.size 3)=some tw) (first|go_keep|exact⟨Q0 hx hbr a0,Q0 hx hbr a1,Q0 hx hbr a2,Q0 hx hbr a3,Q0 hx hwr x0,Q0 hx hwr x1,Q0 hx hwr x2,Q0 hx hwr x3⟩) (first|(go_at_call 112;refine(Z8 _ _ _ _ _ _ _ _ _).mono ?_;rintro e w' ⟨rfl,hx⟩))
    all_goals go_wp2
    all_goals
     go_roundw
     case rel=>exact⟨h+1,hi,by omega,by omega,by go_num,rfl,HM,HN.o.drew.trans hx⟩
     case measure=>simp[intOf];omega
   ·have HM:Z (Mid (λi=>(wat zs i).id) n t lo h):=Kv hm.o hrel.o hh2 hab hh1
    have hd:decide (Xy (wat zs h).id t<0)=false:=by rw[Q5g];simp[hab]
    go_wp2
    go_region_held3 (λw'=>w'.cell? (aD b (off+h*4))=some (iV (wat zs h).id)/\w'.cell? (aD b (off+h*4+1))=some (.bool (wat zs h).both)/\w'.cell? (aD b (off+h*4+2))=some p1/\w'.cell? (aD b (off+h*4+3))=some p2/\w'.cell? (aD w.heap.size 0)=some (iV t)/\w'.cell? (aD w.heap.size 1)=some (.bool tb)/\w'.cell? (aD w.heap.size 2)=some tn/\w'.cell? (aD w.heap.size 3)=some tw) (first|go_keep|exact⟨Q0 hx hbr a0,Q0 hx hbr a1,Q0 hx hbr a2,Q0 hx hbr a3,Q0 hx hwr x0,Q0 hx hwr x1,Q0 hx hwr x2,Q0 hx hwr x3⟩) (first|(go_at_call 112;refine(Z8 _ _ _ _ _ _ _ _ _).mono ?_;rintro e w' ⟨rfl,hx⟩))
    all_goals go_wp2
    all_goals
     go_roundw
     case rel=>exact⟨lo,h,by omega,by omega,rfl,rfl,HM,HN.o.drew.trans hx⟩
     case measure=>simp[intOf];omega
  ·have e:hi=lo:=by omega
   subst e
   have HF:Z (Ju zs t=(decide (hi<n)&&((wat zs hi).id==t))):=by have z:=HZ.o;subst z;exact Qd0 hm.o hrel.o
   by_cases hl:hi<n
   ·obtain⟨b,off,rfl,hB,hb,hc⟩:=hk (by omega)
    obtain⟨p1,p2,a0,a1,a2,a3,_⟩:=hc hi hl
    have hbr:b<wr.heap.size:=zK hb HNW.o.size
    have a0:=Q0 HNW.o hb a0
    have a1:=Q0 HNW.o hb a1
    have a2:=Q0 HNW.o hb a2
    have a3:=Q0 HNW.o hb a3
    have hln:(hi:Int)<n:=by omega
    have hld:decide ((hi:Int)<n)=true:=by simpa using hl
    clear hc hk
    by_cases he:(wat zs hi).id=t
    ·have hd:(Xy (wat zs hi).id t==0)=true:=by rw[Q1g];simpa using he
     have HF':Z (Ju zs t=true):=by unfold Z;rw[HF.o];simp[hl,he]
     have HE:Z ((wat zs hi).id=t):=he
     clear he
     go_wp2
     go_region_held3 (λw'=>w'.cell? (aD b (off+hi*4))=some (iV (wat zs hi).id)/\w'.cell? (aD b (off+hi*4+1))=some (.bool (wat zs hi).both)/\w'.cell? (aD b (off+hi*4+2))=some p1/\w'.cell? (aD b (off+hi*4+3))=some p2/\w'.cell? (aD w.heap.size 0)=some (iV t)/\w'.cell? (aD w.heap.size 1)=some (.bool tb)/\w'.cell? (aD w.heap.size 2)=some tn/\w'.cell? (aD w.heap.size 3)=some tw) (first|go_keep|exact⟨Q0 hx hbr a0,Q0 hx hbr a1,Q0 hx hbr a2,Q0 hx hbr a3,Q0 hx hwr x0,Q0 hx hwr x1,Q0 hx hwr x2,Q0 hx hwr x3⟩) (first|(go_at_call 112;refine(Z8 _ _ _ _ _ _ _ _ _).mono ?_;rintro e w' ⟨rfl,hx⟩))
     all_goals go_wp2
     all_goals
      go_ret2
      exact⟨⟨_,Iy HF'.o.symm⟩,HNW.o.drew.trans hx⟩
    ·have hd:(Xy (wat zs hi).id t==0)=false:=by rw[Q1g];simpa using he
     have HF':Z (Ju zs t=false):=by unfold Z;rw[HF.o];simp[he]
     clear he
     go_wp2
     go_region_held3 (λw'=>w'.cell? (aD b (off+hi*4))=some (iV (wat zs hi).id)/\w'.cell? (aD b (off+hi*4+1))=some (.bool (wat zs hi).both)/\w'.cell? (aD b (off+hi*4+2))=some p1/\w'.cell? (aD b (off+hi*4+3))=some p2/\w'.cell? (aD w.heap.size 0)=some (iV t)/\w'.cell? (aD w.heap.size 1)=some (.bool tb)/\w'.cell? (aD w.heap.size 2)=some tn/\w'.cell? (aD w.heap.size 3)=some tw) (first|go_keep|exact⟨Q0 hx hbr a0,Q0 hx hbr a1,Q0 hx hbr a2,Q0 hx hbr a3,Q0 hx hwr x0,Q0 hx hwr x1,Q0 hx hwr x2,Q0 hx hwr x3⟩) (first|(go_at_call 112;refine(Z8 _ _ _ _ _ _ _ _ _).mono ?_;rintro e w' ⟨rfl,hx⟩))
     all_goals go_wp2
     all_goals
      go_ret2
      exact⟨⟨_,Iy HF'.o.symm⟩,HNW.o.drew.trans hx⟩
   ·have HF':Z (Ju zs t=false):=by unfold Z;rw[HF.o];simp[hl]
    have hd:decide ((hi:Int)<n)=false:=by simp;omega
    go_wp2
    go_quiet (fail)
    all_goals go_wp2
    all_goals
     go_ret2
     exact⟨⟨_,Iy HF'.o.symm⟩,HNW.o.trans ⟨rfl,rfl,rfl,lR,λ_ _=>rfl⟩⟩
theorem Z2 (B:Nat)(v0 v1 v2 v3:Value)(u id:Int)(zs:List Wy)(w:World)(h0:Jy B w v1 zs)(ha:Ur zs=true) :
  Calls prog 116 #[.agg #[v0,v1,v2,v3,iV u],iV id] w λe w'=>e=.returned (.bool (Ju zs id))/\Nx w w':=by
 have HA:Z (Ur zs=true):=ha
 clear ha
 go_enter func116,ntmps116
 go_wp2_with (go_at_call 148;refine(Ic B _ zs _ _ _ _ _ (by exact h0.keep ((Q4 _ _).keeps B)) HA.o).mono ?_;rintro e w' ⟨⟨r,rfl⟩,hx⟩)
 go_ret
 exact⟨rfl,(Q4 _ _).trans hx⟩
def ltR (xs:List Rl)(i j:Nat):Bool:=decide ((rat xs i).id<(rat xs j).id)
def Gp (xs:List Rl):Bool:=Kd xs.length (ltR xs)
theorem Qdo (B:Nat)(v:Value)(zs:List Rl)(w:World)(h0:Ut B w v zs) :
  Calls prog 114 #[v,.func (.func 115) #[] #[]] w λe w'=>e=.returned (.bool (Gp zs))/\Nx w w':=by
 obtain⟨a,cap,rfl,hn,hk⟩:=h0
 unfold maxLen at hn
 generalize hz:zs.length=n at *
 have HZ:Z (zs.length=n):=hz
 clear hz
 go_enter func114,ntmps114
 go_wp2
 go_loopw [5] (λi wr=>∃j:Nat,(j+1<=n\/j=0)/\i=iV ((j:Int)+1)/\Z (Vn (X9 (ltR zs)) (j+1))/\Nx w wr) (λi _=>n-(intOf i).toNat)
 case atStart=>exact⟨0,oR rfl,rfl,Pn _,Nx.refl _⟩
 case round=>
  obtain⟨j,hj,rfl,hrel,hnx⟩:=hrel
  have HN:Z (Nx w wr):=hnx
  clear hnx
  by_cases hlt:j+1<n
  ·obtain⟨b,off,rfl,hB,hb,hc⟩:=hk (by omega)
   obtain⟨p1,a0,a1,a2,a3,a4,a5,a6,_⟩:=hc j (by omega)
   obtain⟨q1,b0,b1,b2,b3,b4,b5,b6,_⟩:=hc (j+1) hlt
   have a0:=Q0 HN.o hb a0
   have a1:=Q0 HN.o hb a1
   have a2:=Q0 HN.o hb a2
   have a3:=Q0 HN.o hb a3
   have a4:=Q0 HN.o hb a4
   have a5:=Q0 HN.o hb a5
   have a6:=Q0 HN.o hb a6
   have b0:=Q0 HN.o hb b0
   have b1:=Q0 HN.o hb b1
   have b2:=Q0 HN.o hb b2
   have b3:=Q0 HN.o hb b3
   have b4:=Q0 HN.o hb b4
   have b5:=Q0 HN.o hb b5
   have b6:=Q0 HN.o hb b6
   have hlt':(j:Int)+1<n:=by omega
   have hlj:(j:Int)<n:=by omega
   have hwj:=Yk j (by omega)
   clear hc hk
   by_cases hab:ltR zs j (j+1)=true
   ·have hd:decide (0<=Xy (rat zs j).id (rat zs (j+1)).id)=false:=by rw[Z9];simpa [ltR] using hab
    have HT:Z (X9 (ltR zs) (j+1)=true):=by rw[Jk];exact hab
    clear hab
    go_wp2
    go_region_with (go_at_call 115;refine(F8 _ _ _ _ _ _ _ _ _ _ _ _ _ _ _).mono ?_;rintro e w' ⟨rfl,hx⟩)
    all_goals go_wp2
    all_goals
     go_roundw
     case rel=>exact⟨j+1,by omega,by go_num,Qr hrel HT.o,HN.o.drew.trans hx⟩
     case measure=>simp[intOf];omega
   ·have hd:decide (0<=Xy (rat zs j).id (rat zs (j+1)).id)=true:=by rw[Z9];simpa [ltR] using hab
    have HT:Z (X9 (ltR zs) (j+1)=false):=by unfold Z;rw[Jk];simpa using hab
    clear hab
    go_wp2
    go_region_with (go_at_call 115;refine(F8 _ _ _ _ _ _ _ _ _ _ _ _ _ _ _).mono ?_;rintro e w' ⟨rfl,hx⟩)
    all_goals go_wp2
    all_goals
     go_ret
     exact⟨Q6 (by unfold Gp Kd;rw[J2 (by rw[HZ.o];exact hlt) HT.o]),HN.o.drew.trans hx⟩
  ·have hge:(n:Int)<=(j:Int)+1:=by omega
   go_wp2
   go_ret
   exact⟨Q6 (by unfold Gp Kd;rw[Qz (by rw[HZ.o];omega) hrel]),HN.o⟩
def ltT (xs:List Tn)(i j:Nat):Bool:=Ga (tat xs i) (tat xs j)
def Uw (xs:List Tn):Bool:=Kd xs.length (ltT xs)
theorem Qdn (B:Nat)(v:Value)(zs:List Tn)(w:World)(h0:V5 B w v zs) :
  Calls prog 117 #[v,.func (.func 118) #[] #[]] w λe w'=>e=.returned (.bool (Uw zs))/\Nx w w':=by
 obtain⟨a,cap,rfl,hn,hk⟩:=h0
 unfold maxLen at hn
 generalize hz:zs.length=n at *
 have HZ:Z (zs.length=n):=hz
 clear hz
 go_enter func117,ntmps117
 go_wp2
 go_loopw [5] (λi wr=>∃j:Nat,(j+1<=n\/j=0)/\i=iV ((j:Int)+1)/\Z (Vn (X9 (ltT zs)) (j+1))/\Nx w wr) (λi _=>n-(intOf i).toNat)
 case atStart=>exact⟨0,oR rfl,rfl,Pn _,Nx.refl _⟩
 case round=>
  obtain⟨j,hj,rfl,hrel,hnx⟩:=hrel
  have HN:Z (Nx w wr):=hnx
  clear hnx
  by_cases hlt:j+1<n
  ·obtain⟨b,off,rfl,hB,hb,hc⟩:=hk (by omega)
   obtain⟨a0,a1,a2⟩:=hc j (by omega)
   obtain⟨b0,b1,b2⟩:=hc (j+1) hlt
   have a0:=Q0 HN.o hb a0
   have a1:=Q0 HN.o hb a1
   have a2:=Q0 HN.o hb a2
   have b0:=Q0 HN.o hb b0
   have b1:=Q0 HN.o hb b1
   have b2:=Q0 HN.o hb b2
   have hlt':(j:Int)+1<n:=by omega
   have hlj:(j:Int)<n:=by omega
   have hwj:=Yk j (by omega)
   clear hc hk
   by_cases hab:ltT zs j (j+1)=true
   ·have hd:decide (0<=Pr (tat zs j) (tat zs (j+1)))=false:=by rw[P6];simpa [ltT] using hab
    have HT:Z (X9 (ltT zs) (j+1)=true):=by rw[Jk];exact hab
    clear hab
    go_wp2
    go_region_with (go_at_call 118;refine(Yi (tat zs j) (tat zs (j+1)) _).mono ?_;rintro e w' ⟨rfl,hx⟩)
    all_goals go_wp2
    all_goals
     go_roundw
     case rel=>exact⟨j+1,by omega,by go_num,Qr hrel HT.o,HN.o.drew.trans hx⟩
     case measure=>simp[intOf];omega
   ·have hd:decide (0<=Pr (tat zs j) (tat zs (j+1)))=true:=by rw[P6];simpa [ltT] using hab
    have HT:Z (X9 (ltT zs) (j+1)=false):=by unfold Z;rw[Jk];simpa using hab
    clear hab
    go_wp2
    go_region_with (go_at_call 118;refine(Yi (tat zs j) (tat zs (j+1)) _).mono ?_;rintro e w' ⟨rfl,hx⟩)
    all_goals go_wp2
    all_goals
     go_ret
     exact⟨Q6 (by unfold Uw Kd;rw[J2 (by rw[HZ.o];exact hlt) HT.o]),HN.o.drew.trans hx⟩
  ·have hge:(n:Int)<=(j:Int)+1:=by omega
   go_wp2
   go_ret
   exact⟨Q6 (by unfold Uw Kd;rw[Qz (by rw[HZ.o];omega) hrel]),HN.o⟩
end Go.Proofs.YtahpodmokbdjeaaGreatDoor
