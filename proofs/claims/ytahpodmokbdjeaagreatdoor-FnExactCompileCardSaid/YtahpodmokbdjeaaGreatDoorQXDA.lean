import Derived.Test.YtahpodmokbdjeaaGreatDoorQXCB
import Derived.Test.YtahpodmokbdjeaaGreatDoorQXBG
namespace Go.Proofs.YtahpodmokbdjeaaGreatDoor
open Go.RowKit Go.Maps
set_option linter.unusedVariables false
set_option maxRecDepth 1000000
set_option maxHeartbeats 16000000
structure WS (ws:List (List Int)):Prop where
 asc:Y2 ws
 nil:inW ws []
 down:∀x e,inW ws (x++[e])->inW ws x
 edge:∀x e,inW ws (x++[e])->0<=e/\e<4000
def Jv (x:List Int):Int:=x.getLast?.getD (-1)
theorem T4 (x:List Int)(e:Int):Jv (x++[e])=e:=by simp[Jv]
theorem Kp {x:List Int}(h:x≠[]):x=x.dropLast++[Jv x]:=by
 have h1:=List.dropLast_concat_getLast h
 have h2:Jv x=x.getLast h:=by
  conv=>lhs;rw[<-h1]
  exact T4 _ _
 rw[h2];exact h1.symm
theorem Fu {ws:List (List Int)}(ha:Y2 ws){i j:Nat}(hi:i<ws.length)(hj:j<ws.length)(e:wd ws i=wd ws j):i=j:=by
 rcases Nat.lt_trichotomy i j with h|h|h
 ·have:=ha i j h hj
  rw[e,Vm] at this;cases this
 ·exact h
 ·have:=ha j i h hi
  rw[e,Vm] at this;cases this
theorem Qb6 {ws:List (List Int)}(ha:Y2 ws){j:Nat}{x:List Int}(hj:j<ws.length)(e:wd ws j=x):stW ws x=j:=by
 unfold stW
 exact Wj nZ (by omega) (by simpa using e) (λb _ hb=>by
  simp
  intro e'
  have:=Fu ha (by omega) hj (e'.trans e.symm)
  omega)
theorem Q8y {x y:List Int}(h:Vv x y=true):x.length<=y.length:=by
 unfold Vv at h
 by_cases c:x.length=y.length
 ·omega
 ·rw[if_neg c] at h;simp at h;omega
theorem WS.pos {ws:List (List Int)}(h:WS ws):0<ws.length:=by
 obtain⟨j,hj,_⟩:=h.nil;omega
theorem WS.root {ws:List (List Int)}(h:WS ws):wd ws 0=[]:=by
 obtain⟨j,hj,e⟩:=h.nil
 by_cases h0:j=0
 ·subst h0;exact e
 ·have h1:=h.asc 0 j (by omega) hj
  rw[e] at h1
  have h2:=Q8y h1
  exact List.length_eq_zero_iff.1 (by simpa using h2)
theorem WS.ne {ws:List (List Int)}(h:WS ws){s:Nat}(h1:1<=s)(hs:s<ws.length):wd ws s≠[]:=λe=>by
 have:=Fu h.asc hs h.pos (e.trans h.root.symm)
 omega
theorem WS.par {ws:List (List Int)}(h:WS ws){s:Nat}(h1:1<=s)(hs:s<ws.length):∃t,t<s/\wd ws t=(wd ws s).dropLast/\stW ws (wd ws s).dropLast=t/\wd ws s=wd ws t++[Jv (wd ws s)]/\0<=Jv (wd ws s)/\Jv (wd ws s)<4000:=by
 have hn:=h.ne h1 hs
 have e:=Kp hn
 have hin:inW ws ((wd ws s).dropLast++[Jv (wd ws s)]):=⟨s,hs,e⟩
 obtain⟨t,ht,et⟩:=h.down _ _ hin
 refine⟨t,?_,et,Qb6 h.asc ht et,by rw[et];exact e,h.edge _ _ hin⟩
 rcases Nat.lt_trichotomy t s with c|c|c
 ·exact c
 ·subst c
  have:(wd ws t).length=(wd ws t).dropLast.length:=by rw[<-et]
  rw[List.length_dropLast] at this
  have:0<(wd ws t).length:=List.length_pos_iff.2 hn
  omega
 ·have:=Q8y (h.asc s t c ht)
  rw[et,List.length_dropLast] at this
  have:0<(wd ws s).length:=List.length_pos_iff.2 hn
  omega
def Qn (ws:List (List Int))(mu:List Int->Int)(bd:List Int->Bool):Au:=
 ⟨ws.map (λx=>if x=[] then -1 else stW ws x.dropLast),ws.map Jv,ws.map (λx=>if x=[] then -1 else LW ws x 1),ws.map mu,ws.map bd⟩
theorem Un {ws:List (List Int)}(f:List Int->Int){s:Nat}(h:s<ws.length):iat (ws.map f) s=f (wd ws s):=by
 simp[iat,wd,List.getD,h]
theorem Qfx {ws:List (List Int)}(f:List Int->Bool){s:Nat}(h:s<ws.length):bat (ws.map f) s=f (wd ws s):=by
 simp[bat,wd,List.getD,h]
section
variable {ws:List (List Int)}{mu:List Int->Int}{bd:List Int->Bool}
theorem Ie (h:WS ws){s t:Nat}(h1:1<=s)(hs:s<ws.length)(ht:stW ws (wd ws s).dropLast=t):iat (Qn ws mu bd).pa s=t:=by
 show iat (ws.map _) s=_
 rw[Un _ hs,if_neg (h.ne h1 hs),ht]
theorem T9 {s:Nat}(hs:s<ws.length):iat (Qn ws mu bd).la s=Jv (wd ws s):=Un _ hs
theorem T8 {s:Nat}(hs:s<ws.length):iat (Qn ws mu bd).mu s=mu (wd ws s):=Un _ hs
theorem Ta {s:Nat}(hs:s<ws.length):bat (Qn ws mu bd).bd s=bd (wd ws s):=Qfx _ hs
theorem Q2x (h:WS ws){s:Nat}(h1:1<=s)(hs:s<ws.length):okR (Qn ws mu bd) s=true:=by
 obtain⟨t,ht,_,hst,_,e0,e1⟩:=h.par h1 hs
 unfold okR
 rw[Ie h h1 hs hst,T9 hs]
 simp
 omega
theorem Yw (h:WS ws){s:Nat}(hs:s<ws.length):Wd (Qn ws mu bd) s=wd ws s:=by
 induction s using Nat.strongRecOn with
 |_ s ih=>
  by_cases h0:s=0
  ·subst h0;rw[Ih,h.root]
  ·obtain⟨t,ht,et,hst,e,_⟩:=h.par (by omega) hs
   rw[Tb (Q2x h (by omega) hs) (by omega),Ie h (by omega) hs hst,T9 hs,zX,ih t ht (by omega)]
   exact e.symm
theorem Qfz (h:WS ws):wl (Qn ws mu bd) ws.length=ws:=by
 apply List.ext_getElem
 ·rw[Fw]
 ·intro i h1 h2
  have e:=Kf (A:=Qn ws mu bd) (m:=ws.length) (s:=i) h2
  rw[Yw h h2] at e
  unfold wd at e
  rw[zD,zJ h1,zD,zJ h2] at e
  exact e
theorem Wn (h:WS ws):Zc (Qn ws mu bd) ws.length:=
 ⟨h.pos,λt h1 ht=>Q2x h h1 ht,λi j hij hj=>by rw[Yw h (by omega),Yw h hj];exact h.asc i j hij hj⟩
theorem Q5n (h:WS ws):∀t,1<=t->t<ws.length->Xv (Qn ws mu bd) t=true:=by
 intro t h1 ht
 have T:Zc (Qn ws mu bd) ws.length:=Wn h
 have h0:iat (Qn ws mu bd).pa 0=-1:=by
  show iat (ws.map _) 0=_
  rw[Un _ h.pos,if_pos h.root]
 rw[<-Q5m h0 (λu hu1 hu=>T.ok u hu1 (by omega)) (λi j hij hj=>T.asc i j hij (by omega)) h1,Yw h (by omega),Yw h ht]
 exact h.asc _ _ (by omega) ht
theorem Uh (h:WS ws){s:Nat}(h1:1<=s)(hs:s<ws.length):LW ws (wd ws s) 1=(failOf (Qn ws mu bd) ws.length s:Int)/\failOf (Qn ws mu bd) ws.length s<s:=by
 have:=Ug (Wn (mu:=mu) (bd:=bd) h) h1 hs
 rw[Qfz h,Yw h hs] at this
 exact this
end
def Wi (x y:List Int):Bool:=decide (y≠[]/\y.dropLast=x)
def Ja (ws:List (List Int))(bl:List Int->Nat)(x:List Int):List (Int×Nat):=(ws.filter (Wi x)).map (λy=>(Jv y,bl y))
theorem Qbl (ws:List (List Int)):(List.range ws.length).map (wd ws)=ws:=by
 apply List.ext_getElem
 ·simp
 ·intro i h1 h2
  simp[wd,List.getD,h2]
theorem Q6l {ws:List (List Int)}{mu:List Int->Int}{bd:List Int->Bool}(h:WS ws)(bl:List Int->Nat){s:Nat}(hs:s<ws.length):Z6 (Qn ws mu bd) ws.length (λt=>bl (wd ws t)) s=Ja ws bl (wd ws s):=by
 have e:Ja ws bl (wd ws s)=(((List.range ws.length).map (wd ws)).filter (Wi (wd ws s))).map (λy=>(Jv y,bl y)):=by rw[Qbl];rfl
 rw[e,List.filter_map,List.map_map]
 unfold Z6
 have hf:(List.range ws.length).filter (λt=>decide (1<=t/\iat (Qn ws mu bd).pa t=s))=(List.range ws.length).filter (Wi (wd ws s) ∘ wd ws):=by
  apply List.filter_congr
  intro t ht
  rw[zV] at ht
  simp only[Function.comp,Wi]
  congr 1
  by_cases h0:t=0
  ·subst h0
   rw[h.root];simp
  ·obtain⟨p,hp,ep,hst,_⟩:=h.par (by omega) ht
   rw[Ie h (by omega) ht hst]
   apply propext
   constructor
   ·rintro⟨_,h2⟩
    have:p=s:=by omega
    subst this
    exact⟨h.ne (by omega) ht,ep.symm⟩
   ·rintro⟨_,h2⟩
    refine⟨by omega,?_⟩
    have:=Fu h.asc (by omega) hs (ep.trans h2)
    omega
 rw[hf]
 apply List.map_congr_left
 intro t ht
 rw[yB,zV] at ht
 simp only[Function.comp]
 rw[T9 ht.1]
def jm (a b:Int):Int:=if a=-1\/a=b then b else if b=-1 then a else -2
def Vo (P:Int->Prop)(m:Int):Prop:=(m=-1/\∀e,¬P e)\/(0<=m/\P m/\∀e,P e->e=m)\/(m=-2/\∃e f,P e/\P f/\e≠f)
theorem Vo.uniq {P:Int->Prop}{a b:Int}(h:Vo P a)(k:Vo P b):a=b:=by
 rcases h with⟨h1,h2⟩|⟨h1,h2,h3⟩|⟨h1,e,f,h2,h3,h4⟩
 ·rcases k with⟨k1,k2⟩|⟨k1,k2,k3⟩|⟨k1,e,f,k2,k3,k4⟩
  ·omega
  ·exact absurd k2 (h2 _)
  ·exact absurd k2 (h2 _)
 ·rcases k with⟨k1,k2⟩|⟨k1,k2,k3⟩|⟨k1,e,f,k2,k3,k4⟩
  ·exact absurd h2 (k2 _)
  ·exact(h3 _ k2).symm
  ·exact absurd ((h3 _ k2).trans (h3 _ k3).symm) k4
 ·rcases k with⟨k1,k2⟩|⟨k1,k2,k3⟩|⟨k1,e',f',k2,k3,k4⟩
  ·exact absurd h2 (k2 _)
  ·exact absurd ((k3 _ h2).trans (k3 _ h3).symm) h4
  ·omega
theorem Vo.join {P Q:Int->Prop}{a b:Int}(h:Vo P a)(k:Vo Q b):Vo (λe=>P e\/Q e) (jm a b):=by
 unfold jm
 rcases h with⟨h1,h2⟩|⟨h1,h2,h3⟩|⟨h1,e,f,h2,h3,h4⟩
 ·rw[if_pos (oL h1)]
  rcases k with⟨k1,k2⟩|⟨k1,k2,k3⟩|⟨k1,e,f,k2,k3,k4⟩
  ·exact oL ⟨k1,λe he=>he.elim (h2 e) (k2 e)⟩
  ·exact oR (oL ⟨k1,oR k2,λe he=>he.elim (λh=>absurd h (h2 e)) (k3 e)⟩)
  ·exact oR (oR ⟨k1,e,f,oR k2,oR k3,k4⟩)
 ·rcases k with⟨k1,k2⟩|⟨k1,k2,k3⟩|⟨k1,e,f,k2,k3,k4⟩
  ·rw[if_neg (by omega),if_pos k1]
   exact oR (oL ⟨h1,oL h2,λe he=>he.elim (h3 e) (λh=>absurd h (k2 e))⟩)
  ·by_cases c:a=b
   ·rw[if_pos (oR c)]
    exact oR (oL ⟨k1,oR k2,λe he=>he.elim (λh=>(h3 e h).trans c) (k3 e)⟩)
   ·rw[if_neg (by omega),if_neg (by omega)]
    exact oR (oR ⟨rfl,a,b,oL h2,oR k2,c⟩)
  ·rw[if_neg (by omega),if_neg (by omega)]
   exact oR (oR ⟨rfl,e,f,oR k2,oR k3,k4⟩)
 ·by_cases c:a=b
  ·rw[if_pos (oR c)]
   exact oR (oR ⟨by omega,e,f,oL h2,oL h3,h4⟩)
  ·rw[if_neg (by omega)]
   by_cases d:b=-1
   ·rw[if_pos d];exact oR (oR ⟨h1,e,f,oL h2,oL h3,h4⟩)
   ·rw[if_neg d];exact oR (oR ⟨rfl,e,f,oL h2,oL h3,h4⟩)
theorem Vo.congr {P Q:Int->Prop}{a:Int}(h:Vo P a)(e:∀x,P x↔Q x):Vo Q a:=by
 have:P=Q:=funext λx=>propext (e x)
 rw[<-this];exact h
theorem Vo.one {e:Int}(h:0<=e):Vo (λx=>x=e) e:=oR (oL ⟨h,rfl,λ_ h=>h⟩)
theorem Vo.none:Vo (λ_=>False) (-1):=oL ⟨rfl,λ_ h=>h⟩
theorem Qf4 (m l:Int)(h:0<=l):jm m l=Q18 m l:=by
 unfold jm Q18
 by_cases c:m=-1\/m=l
 ·rw[if_pos c,if_pos c]
 ·rw[if_neg c,if_neg c,if_neg (by omega)]
theorem Pb (q xs:List Int):Pp q xs=true↔q <:+ xs:=by
 unfold Pp
 constructor
 ·intro h
  rw[zH,decide_eq_true_eq] at h
  obtain⟨h1,h2⟩:=h
  have:q=xs.drop (xs.length-q.length):=by
   apply List.ext_getElem
   ·rw[List.length_drop];omega
   ·intro i hi hi'
    have h3:=(List.all_eq_true.1 h2) i (List.mem_range.2 hi)
    have h4:iat xs (xs.length-q.length+i)=iat q i:=by simpa using h3
    rw[Vl (by omega),Vl hi] at h4
    rw[List.getElem_drop]
    exact h4.symm
  rw[this]
  exact List.drop_suffix _ _
 ·rintro⟨p,rfl⟩
  rw[zH,decide_eq_true_eq]
  refine⟨by simp,Qz lR λi hi=>?_⟩
  have:(p++q).length-q.length=p.length:=by simp
  rw[this]
  simp[iat,List.getD,List.getElem?_append_right (show p.length<=p.length+i by omega)]
theorem Zo {rs:List Ru}(h:rgB rs=true){i:Nat}(hi:i<rs.length):2<=(Qk rs i).seq.length/\(Qk rs i).seq.length<=402/\∀j,j<(Qk rs i).seq.length->0<=iat (Qk rs i).seq j/\iat (Qk rs i).seq j<4000:=by
 unfold rgB at h
 rw[zH] at h
 have h1:=List.all_eq_true.1 h.2 i (List.mem_range.2 hi)
 unfold Kr at h1
 rw[zH,zH,decide_eq_true_eq,decide_eq_true_eq] at h1
 refine⟨h1.1,h1.2.1,λj hj=>?_⟩
 have h2:=List.all_eq_true.1 h1.2.2 j (List.mem_range.2 hj)
 unfold W4 at h2
 simpa using h2
theorem Qey (x:Ru):Xs x<=x.seq.length:=by unfold Xs;split<;>omega
theorem Kl {x s:List Int}{e:Int}{q:Nat}(hq:q<=s.length)(h:x++[e]=s.take q):1<=q/\x=s.take (q-1)/\e=iat s (q-1):=by
 have hl:x.length+1=q:=by
  have:=congrArg List.length h
  rw[zA,yC] at this
  simp at this;omega
 refine⟨by omega,?_,?_⟩
 ·have h1:=congrArg (List.take (q-1)) h
  rw[List.take_append_of_le_length (by omega),List.take_of_length_le (by omega),List.take_take] at h1
  rw[h1];congr 1;omega
 ·have h1:(x++[e])[x.length]?=(s.take q)[x.length]?:=by rw[h]
  rw[yG lR,zT (by omega),Nat.sub_self,zJ (show x.length<s.length by omega)] at h1
  have h2:x.length=q-1:=by omega
  rw[<-h2,Vl (by omega)]
  simpa using h1
theorem Fv {rs:List Ru}{i k:Nat}{ws:List (List Int)}(hg:rgB rs=true)(hi:i<=rs.length)(hk:k<=1\/(i<rs.length/\k<=(Qk rs i).seq.length+1))(ha:Y2 ws)(h:∀y,inW ws y↔PW rs i k y):WS ws:=by
 have key:∀x e,PW rs i k (x++[e])->PW rs i k x/\0<=e/\e<4000:=by
  rintro x e (h1|⟨j,hj,q,h1,h2,h3⟩|⟨q,h1,h2,h3⟩)
  ·simp at h1
  ·have hr:=Zo hg (show j<rs.length by omega)
   have hm:=Qey (Qk rs j)
   obtain⟨_,e1,e2⟩:=Kl (by omega) h3
   refine⟨?_,by rw[e2];exact hr.2.2 _ (by omega)⟩
   by_cases c:q=1
   ·subst c;left;rw[e1];simp
   ·right;left;exact⟨j,hj,q-1,by omega,by omega,e1⟩
  ·rcases hk with hk|⟨hk1,hk2⟩
   ·omega
   ·have hr:=Zo hg hk1
    obtain⟨_,e1,e2⟩:=Kl (by omega) h3
    refine⟨?_,by rw[e2];exact hr.2.2 _ (by omega)⟩
    by_cases c:q=1
    ·subst c;left;rw[e1];simp
    ·right;right;exact⟨q-1,by omega,by omega,e1⟩
 exact⟨ha,(h []).2 (oL rfl),λx e hx=>(h x).2 (key x e ((h _).1 hx)).1,λx e hx=>(key x e ((h _).1 hx)).2⟩
theorem Q36 {rs:List Ru}{ws:List (List Int)}(hg:rgB rs=true)(h:WI rs rs.length 1 ws)(hl:ws.length<=2000):WS ws:=
 Fv hg lR (oL lR) h.asc λy=>⟨h.yes y,h.all hl y⟩
theorem Qbn {rs:List Ru}{i k:Nat}{y:List Int}(hg:rgB rs=true)(hi:i<=rs.length)(hk:k<=1\/i<rs.length)(h:PW rs i k y):y.length<=402:=by
 rcases h with h1|⟨j,hj,q,h1,h2,h3⟩|⟨q,h1,h2,h3⟩
 ·rw[h1];simp
 ·have hr:=Zo hg (show j<rs.length by omega)
  rw[h3,yC];omega
 ·rcases hk with hk|hk
  ·omega
  ·have hr:=Zo hg hk
   rw[h3,yC];omega
theorem Qgi {rs:List Ru}{ws:List (List Int)}(hg:rgB rs=true)(h:WI rs rs.length 1 ws){s:Nat}(hs:s<ws.length):(wd ws s).length<=402:=Qbn hg lR (oL lR) (h.yes _ ⟨s,hs,rfl⟩)
end Go.Proofs.YtahpodmokbdjeaaGreatDoor
namespace Go.Proofs.YtahpodmokbdjeaaGreatDoor
open Go.RowKit Go.Sort Tryz
set_option linter.unusedVariables false
set_option maxRecDepth 1000000
set_option maxHeartbeats 16000000
def auZ:Au:=⟨[],[],[],[],[]⟩
def Yy (rs:List Ru)(code:Int)(A:Au):Prop:=
 (rgB rs=false/\code=12/\A=auZ)\/(rgB rs=true/\∃ws,WI rs rs.length 1 ws/\((2000<ws.length/\code=13/\A=auZ)\/(ws.length<=2000/\code=0/\A=Qn ws (Qw rs) (Js rs))))
structure O5 (C:Nat)(w:World)(p0 p1 p2 p3 p4:Value)(A:Au):Prop where
 o0:Qd C w p0 A.pa
 o1:Qd C w p1 A.la
 o2:Qd C w p2 A.fa
 o3:Qd C w p3 A.mu
 o4:Ao C w p4 A.bd
 a01:∀b,p0.ownBlock=some b->p1.ownBlock≠some b
 a02:∀b,p0.ownBlock=some b->p2.ownBlock≠some b
 a03:∀b,p0.ownBlock=some b->p3.ownBlock≠some b
 a12:∀b,p1.ownBlock=some b->p2.ownBlock≠some b
 a13:∀b,p1.ownBlock=some b->p3.ownBlock≠some b
 a23:∀b,p2.ownBlock=some b->p3.ownBlock≠some b
theorem Tt {C C' ty sz:Nat}{w:World}{v:Value}{n:Nat}{xs:List Value}(h:w.ownsRow C ty sz v n xs)(hB:C'<=C):w.ownsRow C' ty sz v n xs:=by
 obtain⟨h1,h2⟩:=h
 refine⟨h1,?_⟩
 rcases h2 with h2|⟨g,cap,cur,hv,hg,r⟩
 ·exact oL h2
 ·exact oR ⟨g,cap,cur,hv,by omega,r⟩
theorem Xo {C ty sz:Nat}{w:World}{v:Value}{n:Nat}{xs:List Value}(h:w.ownsRow C ty sz v n xs):∃a m c,v=sL a m c:=by
 rcases h.2 with⟨h2,_⟩|⟨g,cap,cur,hv,_⟩
 ·exact⟨_,_,_,h2⟩
 ·exact⟨_,_,_,hv⟩
theorem O5.base {C C':Nat}{w:World}{p0 p1 p2 p3 p4:Value}{A:Au}(h:O5 C w p0 p1 p2 p3 p4 A)(hC:C'<=C):O5 C' w p0 p1 p2 p3 p4 A:=
 ⟨Tt h.o0 hC,Tt h.o1 hC,Tt h.o2 hC,Tt h.o3 hC,Tt h.o4 hC,h.a01,h.a02,h.a03,h.a12,h.a13,h.a23⟩
theorem O5.next {C:Nat}{w w':World}{p0 p1 p2 p3 p4:Value}{A:Au}(h:O5 C w p0 p1 p2 p3 p4 A)(k:Nx w w'):O5 C w' p0 p1 p2 p3 p4 A:=
 ⟨Y5 h.o0 k,Y5 h.o1 k,Y5 h.o2 k,Y5 h.o3 k,Y5 h.o4 k,h.a01,h.a02,h.a03,h.a12,h.a13,h.a23⟩
theorem O5.nil (C:Nat)(w:World):O5 C w sN sN sN sN sN auZ:=
 ⟨⟨rfl,oL ⟨rfl,rfl⟩⟩,⟨rfl,oL ⟨rfl,rfl⟩⟩,⟨rfl,oL ⟨rfl,rfl⟩⟩,⟨rfl,oL ⟨rfl,rfl⟩⟩,⟨rfl,oL ⟨rfl,rfl⟩⟩,λb e=>by simp[Value.ownBlock] at e,λb e=>by simp[Value.ownBlock] at e,λb e=>by simp[Value.ownBlock] at e,λb e=>by simp[Value.ownBlock] at e,λb e=>by simp[Value.ownBlock] at e,λb e=>by simp[Value.ownBlock] at e⟩
theorem R5.five {C g:Nat}{w:World}{p0 p1 p2 p3 p4:Value}{A:Au}(h:R5 C g w p0 p1 p2 p3 p4 A):O5 C w p0 p1 p2 p3 p4 A:=
 ⟨h.o0,h.o1,h.o2,h.o3,h.o4,h.a01,h.a02,h.a03,h.a12,h.a13,h.a23⟩
def RS (g:Nat)(w:World)(A:Au):Prop:=∃a0 n0 c0 a1 n1 c1 a2 n2 c2 a3 n3 c3 a4 n4 c4,R5 (g+1) g w (sL a0 n0 c0) (sL a1 n1 c1) (sL a2 n2 c2) (sL a3 n3 c3) (sL a4 n4 c4) A
theorem RS.of {g:Nat}{w:World}{p0 p1 p2 p3 p4:Value}{A:Au}(h:R5 (g+1) g w p0 p1 p2 p3 p4 A):RS g w A:=by
 obtain⟨a0,c0,e0⟩:=h.o0.slice
 obtain⟨a1,c1,e1⟩:=h.o1.slice
 obtain⟨a2,c2,e2⟩:=h.o2.slice
 obtain⟨a3,c3,e3⟩:=h.o3.slice
 obtain⟨a4,c4,e4⟩:=h.o4.slice
 subst e0 e1 e2 e3 e4
 exact⟨_,_,_,_,_,_,_,_,_,_,_,_,_,_,_,h⟩
def auK (ws:List (List Int))(f0 f1 f2 f3:List Int->Int)(f4:List Int->Bool)(j0 j1 j2 j3 j4:Nat):Au:=⟨(ws.take j0).map f0,(ws.take j1).map f1,(ws.take j2).map f2,(ws.take j3).map f3,(ws.take j4).map f4⟩
theorem We {α:Type}{ws:List (List Int)}(f:List Int->α){k:Nat}{z:α}(hk:k<ws.length)(hz:z=f (wd ws k)):(ws.take (k+1)).map f=(ws.take k).map f++[z]:=by
 rw[zR hk,yL,hz]
 simp[wd,List.getD,hk]
section
variable {ws:List (List Int)}{f0 f1 f2 f3:List Int->Int}{f4:List Int->Bool}{k j0 j1 j2 j3 j4:Nat}
theorem auK0 {z:Int}(hk:k<ws.length)(hz:z=f0 (wd ws k)):{ auK ws f0 f1 f2 f3 f4 k j1 j2 j3 j4 with pa:=(auK ws f0 f1 f2 f3 f4 k j1 j2 j3 j4).pa++[z] }=auK ws f0 f1 f2 f3 f4 (k+1) j1 j2 j3 j4:=by
 simp only[auK]
 rw[We f0 hk hz]
theorem RS.of0 {g:Nat}{w:World}{p0 p1 p2 p3 p4:Value}{z:Int}(h:R5 (g+1) g w p0 p1 p2 p3 p4 { auK ws f0 f1 f2 f3 f4 k j1 j2 j3 j4 with pa:=(auK ws f0 f1 f2 f3 f4 k j1 j2 j3 j4).pa++[z] })(hk:k<ws.length)(hz:z=f0 (wd ws k)):RS g w (auK ws f0 f1 f2 f3 f4 (k+1) j1 j2 j3 j4):=by
 rw[auK0 hk hz] at h
 exact RS.of h
theorem auK1 {z:Int}(hk:k<ws.length)(hz:z=f1 (wd ws k)):{ auK ws f0 f1 f2 f3 f4 j0 k j2 j3 j4 with la:=(auK ws f0 f1 f2 f3 f4 j0 k j2 j3 j4).la++[z] }=auK ws f0 f1 f2 f3 f4 j0 (k+1) j2 j3 j4:=by
 simp only[auK]
 rw[We f1 hk hz]
theorem RS.of1 {g:Nat}{w:World}{p0 p1 p2 p3 p4:Value}{z:Int}(h:R5 (g+1) g w p0 p1 p2 p3 p4 { auK ws f0 f1 f2 f3 f4 j0 k j2 j3 j4 with la:=(auK ws f0 f1 f2 f3 f4 j0 k j2 j3 j4).la++[z] })(hk:k<ws.length)(hz:z=f1 (wd ws k)):RS g w (auK ws f0 f1 f2 f3 f4 j0 (k+1) j2 j3 j4):=by
 rw[auK1 hk hz] at h
 exact RS.of h
theorem auK2 {z:Int}(hk:k<ws.length)(hz:z=f2 (wd ws k)):{ auK ws f0 f1 f2 f3 f4 j0 j1 k j3 j4 with fa:=(auK ws f0 f1 f2 f3 f4 j0 j1 k j3 j4).fa++[z] }=auK ws f0 f1 f2 f3 f4 j0 j1 (k+1) j3 j4:=by
 simp only[auK]
 rw[We f2 hk hz]
theorem RS.of2 {g:Nat}{w:World}{p0 p1 p2 p3 p4:Value}{z:Int}(h:R5 (g+1) g w p0 p1 p2 p3 p4 { auK ws f0 f1 f2 f3 f4 j0 j1 k j3 j4 with fa:=(auK ws f0 f1 f2 f3 f4 j0 j1 k j3 j4).fa++[z] })(hk:k<ws.length)(hz:z=f2 (wd ws k)):RS g w (auK ws f0 f1 f2 f3 f4 j0 j1 (k+1) j3 j4):=by
 rw[auK2 hk hz] at h
 exact RS.of h
theorem auK3 {z:Int}(hk:k<ws.length)(hz:z=f3 (wd ws k)):{ auK ws f0 f1 f2 f3 f4 j0 j1 j2 k j4 with mu:=(auK ws f0 f1 f2 f3 f4 j0 j1 j2 k j4).mu++[z] }=auK ws f0 f1 f2 f3 f4 j0 j1 j2 (k+1) j4:=by
 simp only[auK]
 rw[We f3 hk hz]
theorem RS.of3 {g:Nat}{w:World}{p0 p1 p2 p3 p4:Value}{z:Int}(h:R5 (g+1) g w p0 p1 p2 p3 p4 { auK ws f0 f1 f2 f3 f4 j0 j1 j2 k j4 with mu:=(auK ws f0 f1 f2 f3 f4 j0 j1 j2 k j4).mu++[z] })(hk:k<ws.length)(hz:z=f3 (wd ws k)):RS g w (auK ws f0 f1 f2 f3 f4 j0 j1 j2 (k+1) j4):=by
 rw[auK3 hk hz] at h
 exact RS.of h
theorem auK4 {z:Bool}(hk:k<ws.length)(hz:z=f4 (wd ws k)):{ auK ws f0 f1 f2 f3 f4 j0 j1 j2 j3 k with bd:=(auK ws f0 f1 f2 f3 f4 j0 j1 j2 j3 k).bd++[z] }=auK ws f0 f1 f2 f3 f4 j0 j1 j2 j3 (k+1):=by
 simp only[auK]
 rw[We f4 hk hz]
theorem RS.of4 {g:Nat}{w:World}{p0 p1 p2 p3 p4:Value}{z:Bool}(h:R5 (g+1) g w p0 p1 p2 p3 p4 { auK ws f0 f1 f2 f3 f4 j0 j1 j2 j3 k with bd:=(auK ws f0 f1 f2 f3 f4 j0 j1 j2 j3 k).bd++[z] })(hk:k<ws.length)(hz:z=f4 (wd ws k)):RS g w (auK ws f0 f1 f2 f3 f4 j0 j1 j2 j3 (k+1)):=by
 rw[auK4 hk hz] at h
 exact RS.of h
theorem Xb (hk:k<=2000)(f:List Int->Int):((ws.take k).map f).length<=2000:=by rw[zG,yC];omega
theorem If (hk:k<=2000)(f:List Int->Bool):((ws.take k).map f).length<=2000:=by rw[zG,yC];omega
end
def fPa (ws:List (List Int))(x:List Int):Int:=if x=[] then -1 else stW ws x.dropLast
def fFa (ws:List (List Int))(x:List Int):Int:=if x=[] then -1 else LW ws x 1
theorem Qg0 (ws:List (List Int))(mu:List Int->Int)(bd:List Int->Bool):auK ws (fPa ws) Jv (fFa ws) mu bd ws.length ws.length ws.length ws.length ws.length=Qn ws mu bd:=by
 simp[auK,Qn,fPa,fFa]
theorem R5.start (w:World)(t:TypeId):R5 (w.heap.size+1) w.heap.size (w.alloc (.cells #[sN,sN,sN,sN,sN] t)) sN sN sN sN sN auZ:=by
 have h:=O5.nil (w.heap.size+1) (w.alloc (.cells #[sN,sN,sN,sN,sN] t))
 exact⟨Nat.lt_succ_self _,Blk.new w _ _ _ rfl,h.o0,h.o1,h.o2,h.o3,h.o4,h.a01,h.a02,h.a03,h.a12,h.a13,h.a23⟩
def SpE (rs:List Ru)(w w':World)(e:Ending):Prop:=∃(code:Int) (a0:Option Addr) (n0 c0:Nat) (a1:Option Addr) (n1 c1:Nat) (a2:Option Addr) (n2 c2:Nat) (a3:Option Addr) (n3 c3:Nat) (a4:Option Addr) (n4 c4:Nat) (A:Au),e=.returned (.agg #[iV code,sL a0 n0 c0,sL a1 n1 c1,sL a2 n2 c2,sL a3 n3 c3,sL a4 n4 c4])/\Yy rs code A/\O5 w.heap.size w' (sL a0 n0 c0) (sL a1 n1 c1) (sL a2 n2 c2) (sL a3 n3 c3) (sL a4 n4 c4) A
theorem O5.spe {rs:List Ru}{w w':World}{code:Int}{a0:Option Addr}{n0 c0:Nat}{ a1:Option Addr}{n1 c1:Nat}{ a2:Option Addr}{n2 c2:Nat}{ a3:Option Addr}{n3 c3:Nat}{ a4:Option Addr}{n4 c4:Nat}{A:Au}(h:O5 w.heap.size w' (sL a0 n0 c0) (sL a1 n1 c1) (sL a2 n2 c2) (sL a3 n3 c3) (sL a4 n4 c4) A)(hb:Yy rs code A):SpE rs w w' (.returned (.agg #[iV code,sL a0 n0 c0,sL a1 n1 c1,sL a2 n2 c2,sL a3 n3 c3,sL a4 n4 c4])):=⟨_,_,_,_,_,_,_,_,_,_,_,_,_,_,_,_,_,rfl,hb,h⟩
theorem Qa5 {x:List Int}{m:Nat}(h:x.length=m+1):Jv x=iat x m:=by
 unfold Jv iat
 rw[List.getLast?_eq_getElem?,h,Nat.add_sub_cancel,zD,zJ (by omega)]
 rfl
theorem Az (B:Nat)(v:Value)(rs:List Ru)(w:World)(h0:X7 B w v rs) :
  Calls prog 19 #[v] w λe w'=>SpE rs w w' e/\Nx w w':=by
 obtain⟨ii,hi,hz0,hz1,hz2⟩:=info_parts U0
 obtain⟨jj,hj0,hj1,hj2,hj3⟩:=info_parts Qct
 have HH:Z (X7 B w v rs):=h0
 have HX0:Z (Nx w (w.alloc (.cells #[iV 0,sN,sN,sN,sN,sN] 58))):=Q4 _ _
 obtain⟨va,vc,rfl,_,_⟩:=h0
 go_enter func19,ntmps19
 go_wp2_with fail
 refine(Fb B _ rs _ (HH.o.next HX0.o)).mono ?_
 rintro e w1 ⟨rfl,rfl⟩
 have BX:=Blk.new w #[iV 0,sN,sN,sN,sN,sN] 58 _ rfl
 cases hg:rgB rs
 case false=>
  have k0:_=some (iV 0):=BX.c 0 rfl
  have k1:_=some sN:=BX.c 1 rfl
  have k2:_=some sN:=BX.c 2 rfl
  have k3:_=some sN:=BX.c 3 rfl
  have k4:_=some sN:=BX.c 4 rfl
  have k5:_=some sN:=BX.c 5 rfl
  have HB:Z (Yy rs 12 auZ):=oL ⟨hg,rfl,rfl⟩
  clear BX hg
  go_wp2
  refine bodyPost_ret (v:=.agg #[iV 12,sN,sN,sN,sN,sN]) (by simp[results,results19,go_sem]) rfl ?_
  refine⟨O5.spe (O5.nil _ _) HB.o,?_⟩
  exact Q4 _ _
 have HG:Z (rgB rs=true):=hg
 clear hg
 go_wp2_with fail
 refine(Q4h B _ rs _ (HH.o.next HX0.o) (λi hi=>⟨(Zo HG.o hi).1,(Zo HG.o hi).2.1⟩)).mono ?_
 rintro e w2 ⟨⟨v2,ws,rfl,hW,hI⟩,hx⟩
 have HX2:Z (Nx w w2):=HX0.o.trans hx
 have BX2:=BX.next hx
 have HWO:Z (J7 0 w2 v2 ws):=hW.held hx
 obtain⟨wa,wc,hvs⟩:=hW.slice
 subst hvs
 have HI:Z (WI rs rs.length 1 ws):=hI
 clear hW hI hx BX
 generalize hzn:ws.length=n at *
 have HZ:Z (ws.length=n):=hzn
 clear hzn
 by_cases hbig:n<=2000
 case neg=>
  have d1:decide (2000<(n:Int))=true:=by simp;omega
  have k0:_=some (iV 0):=BX2.c 0 rfl
  have k1:_=some sN:=BX2.c 1 rfl
  have k2:_=some sN:=BX2.c 2 rfl
  have k3:_=some sN:=BX2.c 3 rfl
  have k4:_=some sN:=BX2.c 4 rfl
  have k5:_=some sN:=BX2.c 5 rfl
  have z0:=BX2.frozen 0
  have z1:=BX2.frozen 1
  have z2:=BX2.frozen 2
  have z3:=BX2.frozen 3
  have z4:=BX2.frozen 4
  have z5:=BX2.frozen 5
  have HB:Z (Yy rs 13 auZ):=oR ⟨HG.o,ws,HI.o,oL ⟨by rw[HZ.o];omega,rfl,rfl⟩⟩
  clear hbig
  go_wp2
  have BR':=((((((BX2).set 0 (iV 13)).set 1 sN).set 2 sN).set 3 sN).set 4 sN).set 5 sN
  have q0:_=some (iV 13):=BR'.c 0 rfl
  have q1:_=some sN:=BR'.c 1 rfl
  have q2:_=some sN:=BR'.c 2 rfl
  have q3:_=some sN:=BR'.c 3 rfl
  have q4:_=some sN:=BR'.c 4 rfl
  have q5:_=some sN:=BR'.c 5 rfl
  clear k0 k1 k2 k3 k4 k5 BR'
  refine bodyPost_ret (v:=.agg #[iV 13,sN,sN,sN,sN,sN]) (by simp[results,results19,go_sem,q0,q1,q2,q3,q4,q5]) rfl ?_
  refine⟨O5.spe (O5.nil _ _) HB.o,?_⟩
  exact(Below.setCell (Below.setCell (Below.setCell (Below.setCell (Below.setCell (Below.setCell HX2.o lR _) lR _) lR _) lR _) lR _) lR _)
 have d1:decide (2000<(n:Int))=false:=by simp;omega
 have HB:Z (Yy rs 0 (Qn ws (Qw rs) (Js rs))):=oR ⟨HG.o,ws,HI.o,oR ⟨by rw[HZ.o];exact hbig,rfl,rfl⟩⟩
 have HRS0:Z (RS w2.heap.size (w2.alloc (.cells #[sN,sN,sN,sN,sN] 56)) (auK ws (fPa ws) Jv (fFa ws) (Qw rs) (Js rs) 0 0 0 0 0)):=RS.of (by simpa [auK,auZ] using R5.start w2 56)
 have HN0:Z (Nx w2 (w2.alloc (.cells #[sN,sN,sN,sN,sN] 56))):=Q4 _ _
 have HBX:Z (Blk w2 w.heap.size #[iV 0,sN,sN,sN,sN,sN]):=BX2
 have HASC:Z (Y2 ws):=HI.o.asc
 have HROOT:Z (wd ws 0=[]):=(Q36 HG.o HI.o (by rw[HZ.o];exact hbig)).root
 have HNE:Z (∀s,1<=s->s<n->wd ws s≠[]/\(wd ws s).length<=402):=λs h1 hs=>⟨(Q36 HG.o HI.o (by rw[HZ.o];exact hbig)).ne h1 (by rw[HZ.o];exact hs),Qgi HG.o HI.o (by rw[HZ.o];exact hs)⟩
 have HRN:Z (X7 B w2 (sL va rs.length vc) rs):=HH.o.next HX2.o
 have hnp:0<n:=by have:=HI.o.l0;rw[HZ.o] at this;exact this
 have HZB:Z (w.heap.size<w2.heap.size):=BX2.lt
 clear BX2 HH HI HX0
 go_wp2
 clear d1
 go_loopw [5,6] (λi _ wr=>∃k:Nat,k<=n/\i=iV k/\Z (RS w2.heap.size wr (auK ws (fPa ws) Jv (fFa ws) (Qw rs) (Js rs) k k k k k))/\Z (Nx w2 wr)) (λi _ _=>n-(intOf i).toNat)
 case atStart=>exact⟨0,nZ,rfl,HRS0,HN0⟩
 clear HRS0 HN0
 obtain⟨k,hkn,rfl,HRS,HN⟩:=hrel
 by_cases hlt:k<n
 case neg=>
  have ek:n=k:=by omega
  obtain⟨a0,n0,c0,a1,n1,c1,a2,n2,c2,a3,n3,c3,a4,n4,c4,hR⟩:=HRS.o
  have HR:Z (R5 (w2.heap.size+1) w2.heap.size wr (sL a0 n0 c0) (sL a1 n1 c1) (sL a2 n2 c2) (sL a3 n3 c3) (sL a4 n4 c4) (Qn ws (Qw rs) (Js rs))):=by
   unfold Z
   rw[<-Qg0,HZ.o,ek]
   exact hR
  have BB:=HBX.o.next HN.o
  have k0:_=some (iV 0):=BB.c 0 rfl
  have k1:_=some sN:=BB.c 1 rfl
  have k2:_=some sN:=BB.c 2 rfl
  have k3:_=some sN:=BB.c 3 rfl
  have k4:_=some sN:=BB.c 4 rfl
  have k5:_=some sN:=BB.c 5 rfl
  have z0:=BB.frozen 0
  have z1:=BB.frozen 1
  have z2:=BB.frozen 2
  have z3:=BB.frozen 3
  have z4:=BB.frozen 4
  have z5:=BB.frozen 5
  have y0:_=some (sL a0 n0 c0):=hR.bx.c 0 rfl
  have y1:_=some (sL a1 n1 c1):=hR.bx.c 1 rfl
  have y2:_=some (sL a2 n2 c2):=hR.bx.c 2 rfl
  have y3:_=some (sL a3 n3 c3):=hR.bx.c 3 rfl
  have y4:_=some (sL a4 n4 c4):=hR.bx.c 4 rfl
  have HW:Z (Nx w wr):=HX2.o.trans HN.o
  have HO:Z (O5 w2.heap.size wr (sL a0 n0 c0) (sL a1 n1 c1) (sL a2 n2 c2) (sL a3 n3 c3) (sL a4 n4 c4) (Qn ws (Qw rs) (Js rs))):=HR.o.five.base (Nat.le_succ _)
  clear hR ek HRS HR
  go_wp2
  have BR':=((((((BB).set 0 (iV 0)).set 1 (sL a0 n0 c0)).set 2 (sL a1 n1 c1)).set 3 (sL a2 n2 c2)).set 4 (sL a3 n3 c3)).set 5 (sL a4 n4 c4)
  have q0:_=some (iV 0):=BR'.c 0 rfl
  have q1:_=some (sL a0 n0 c0):=BR'.c 1 rfl
  have q2:_=some (sL a1 n1 c1):=BR'.c 2 rfl
  have q3:_=some (sL a2 n2 c2):=BR'.c 3 rfl
  have q4:_=some (sL a3 n3 c3):=BR'.c 4 rfl
  have q5:_=some (sL a4 n4 c4):=BR'.c 5 rfl
  clear k0 k1 k2 k3 k4 k5 BR'
  refine bodyPost_ret (v:=.agg #[iV 0,sL a0 n0 c0,sL a1 n1 c1,sL a2 n2 c2,sL a3 n3 c3,sL a4 n4 c4]) (by simp[results,results19,go_sem,q0,q1,q2,q3,q4,q5]) rfl ?_
  have hk5:∀(wq:World) (i:Nat) (u:Value),O5 w2.heap.size wq (sL a0 n0 c0) (sL a1 n1 c1) (sL a2 n2 c2) (sL a3 n3 c3) (sL a4 n4 c4) (Qn ws (Qw rs) (Js rs))->O5 w2.heap.size (wq.setCell (aD w.heap.size i) u) (sL a0 n0 c0) (sL a1 n1 c1) (sL a2 n2 c2) (sL a3 n3 c3) (sL a4 n4 c4) (Qn ws (Qw rs) (Js rs)):=λwq i u h=>⟨Qc h.o0 HZB.o _ _,Qc h.o1 HZB.o _ _,Qc h.o2 HZB.o _ _,Qc h.o3 HZB.o _ _,Qc h.o4 HZB.o _ _,h.a01,h.a02,h.a03,h.a12,h.a13,h.a23⟩
  refine⟨O5.spe (O5.base (?_:O5 w2.heap.size _ _ _ _ _ _ _) (Nat.le_of_lt HZB.o)) HB.o,?_⟩
  ·exact(hk5 _ _ _ (hk5 _ _ _ (hk5 _ _ _ (hk5 _ _ _ (hk5 _ _ _ (hk5 _ _ _ HO.o))))))
  ·exact(Below.setCell (Below.setCell (Below.setCell (Below.setCell (Below.setCell (Below.setCell HW.o lR _) lR _) lR _) lR _) lR _) lR _)
 obtain⟨wa',wc',e',hwn,hwk⟩:=HWO.o
 simp only[zC] at e'
 obtain⟨rfl,hqq,rfl⟩:=e'
 rw[HZ.o] at hwk
 clear hqq
 obtain⟨b,off,rfl,_,hb,hc⟩:=hwk hnp
 obtain⟨vk,ck,hvk,cpk⟩:=hc k hlt
 obtain⟨xa,xn,xc,rfl,hxc⟩:=cpk
 have hck:wr.cell? (aD b (off+k))=some (sL xa xn xc):=Q1 HN.o ck
 have hlt':(k:Int)<n:=by omega
 have HKN:Z (k<ws.length):=by rw[HZ.o];exact hlt
 have hk2:k<=2000:=by omega
 have HXX:Z (Q8 0 w2 (sL xa xn xc) (wd ws k)):=hvk
 have HCAP:Z (xn<=xc):=hxc
 obtain⟨xa',xc',e',hxm,hxk⟩:=hvk
 simp only[zC] at e'
 obtain⟨rfl,hxl,rfl⟩:=e'
 have HXL:Z ((wd ws k).length=xn):=hxl.symm
 rw[<-hxl] at hxk hxm
 unfold maxLen at hxm
 clear hwk hc ck hxl
 by_cases hk0:k=0
 ·have hx0:xn=0:=by rw[<-HXL.o,hk0,HROOT.o];rfl
  have HWK:Z (wd ws k=[]):=by rw[hk0];exact HROOT.o
  subst hx0
  clear hxk hk0
  go_upto_region 12 with fail
  go_cut [5,6] from 18 to 93 (λs5 s6 wc=>s5=iV k/\s6=sL xa 0 xc/\Z (RS w2.heap.size wc (auK ws (fPa ws) Jv (fFa ws) (Qw rs) (Js rs) (k+1) k k k k))/\Z (Nx w2 wc))
  case first=>
   obtain⟨a0,n0,c0,a1,n1,c1,a2,n2,c2,a3,n3,c3,a4,n4,c4,hR0⟩:=HRS.o
   have hR:Z _:=hR0
   clear hR0
   have R4:Z _:=hR.o
   have hlow4:Z _:=HN.o
   have y4:_=some (sL a0 n0 c0):=hR.o.bx.c 0 rfl
   have z4:=hR.o.bx.frozen 0
   go_wp2_with (at_builtin;refine wpList_append_own_at _ rfl _ _ 22 rfl (w2.heap.size+1) 2 ii (iV 0) 1 8 underlying22 hi hz0 hz1 hz2 rfl (by decide) _ _ _ rfl (zB R4.o.o0 _) (aD _ 0) 1 1 [iV (-1)] rfl rfl (λj u hj=>Ql _ _ _ _ rfl j u hj) (by intro u hu;simp at hu;subst hu;rfl) (by have:=Xb (ws:=ws) (k:=k) hk2 (fPa ws);unfold maxLen;simp only[auK];omega) (by have:=Xb (ws:=ws) (k:=k) hk2 (fPa ws);simp only[auK];omega) (by have:=R4.o.bx.lt;rw[Q3];omega) ?_)
   intro v' w' hown hgrow _ hat
   obtain⟨ra,rn,rc,hrs⟩:=Xo hown
   subst hrs
   have hbx:=(R4.o.box0 _ hgrow).1
   have hfz:=(R4.o.box0 _ hgrow).2
   have R':Z _:=R4.o.app0 _ hown hgrow (by rw[Q3];exact hat)
   have HGR:Z _:=hgrow
   clear hown hgrow hat
   go_wp2
   go_meet
   exact⟨rfl,rfl,RS.of0 R'.o HKN.o (by rw[HWK.o];rfl),R4.o.low0 _ HGR.o hlow4.o⟩
  case rest=>
  clear HRS HN
  obtain⟨hs5,hs6,HRS,HN⟩:=hcut
  subst hs5 hs6
  go_upto_region 13 with fail
  go_cut [5,6] from 18 to 93 (λs5 s6 wc=>s5=iV k/\s6=sL xa 0 xc/\Z (RS w2.heap.size wc (auK ws (fPa ws) Jv (fFa ws) (Qw rs) (Js rs) (k+1) (k+1) k k k))/\Z (Nx w2 wc))
  case first=>
   obtain⟨a0,n0,c0,a1,n1,c1,a2,n2,c2,a3,n3,c3,a4,n4,c4,hR0⟩:=HRS.o
   have hR:Z _:=hR0
   clear hR0
   have R4:Z _:=hR.o
   have hlow4:Z _:=HN.o
   have y4:_=some (sL a1 n1 c1):=hR.o.bx.c 1 rfl
   have z4:=hR.o.bx.frozen 1
   go_wp2_with (at_builtin;refine wpList_append_own_at _ rfl _ _ 22 rfl (w2.heap.size+1) 2 ii (iV 0) 1 8 underlying22 hi hz0 hz1 hz2 rfl (by decide) _ _ _ rfl (zB R4.o.o1 _) (aD _ 0) 1 1 [iV (-1)] rfl rfl (λj u hj=>Ql _ _ _ _ rfl j u hj) (by intro u hu;simp at hu;subst hu;rfl) (by have:=Xb (ws:=ws) (k:=k) hk2 Jv;unfold maxLen;simp only[auK];omega) (by have:=Xb (ws:=ws) (k:=k) hk2 Jv;simp only[auK];omega) (by have:=R4.o.bx.lt;rw[Q3];omega) ?_)
   intro v' w' hown hgrow _ hat
   obtain⟨ra,rn,rc,hrs⟩:=Xo hown
   subst hrs
   have hbx:=(R4.o.box1 _ hgrow).1
   have hfz:=(R4.o.box1 _ hgrow).2
   have R':Z _:=R4.o.app1 _ hown hgrow (by rw[Q3];exact hat)
   have HGR:Z _:=hgrow
   clear hown hgrow hat
   go_wp2
   go_meet
   exact⟨rfl,rfl,RS.of1 R'.o HKN.o (by rw[HWK.o];rfl),R4.o.low1 _ HGR.o hlow4.o⟩
  case rest=>
  clear HRS HN
  obtain⟨hs5,hs6,HRS,HN⟩:=hcut
  subst hs5 hs6
  go_upto_region 14 with fail
  go_cut [5,6] from 18 to 93 (λs5 s6 wc=>s5=iV k/\s6=sL xa 0 xc/\Z (RS w2.heap.size wc (auK ws (fPa ws) Jv (fFa ws) (Qw rs) (Js rs) (k+1) (k+1) (k+1) k k))/\Z (Nx w2 wc))
  case first=>
   obtain⟨a0,n0,c0,a1,n1,c1,a2,n2,c2,a3,n3,c3,a4,n4,c4,hR0⟩:=HRS.o
   have hR:Z _:=hR0
   clear hR0
   have R4:Z _:=hR.o
   have hlow4:Z _:=HN.o
   have y4:_=some (sL a2 n2 c2):=hR.o.bx.c 2 rfl
   have z4:=hR.o.bx.frozen 2
   go_wp2_with (at_builtin;refine wpList_append_own_at _ rfl _ _ 22 rfl (w2.heap.size+1) 2 ii (iV 0) 1 8 underlying22 hi hz0 hz1 hz2 rfl (by decide) _ _ _ rfl (zB R4.o.o2 _) (aD _ 0) 1 1 [iV (-1)] rfl rfl (λj u hj=>Ql _ _ _ _ rfl j u hj) (by intro u hu;simp at hu;subst hu;rfl) (by have:=Xb (ws:=ws) (k:=k) hk2 (fFa ws);unfold maxLen;simp only[auK];omega) (by have:=Xb (ws:=ws) (k:=k) hk2 (fFa ws);simp only[auK];omega) (by have:=R4.o.bx.lt;rw[Q3];omega) ?_)
   intro v' w' hown hgrow _ hat
   obtain⟨ra,rn,rc,hrs⟩:=Xo hown
   subst hrs
   have hbx:=(R4.o.box2 _ hgrow).1
   have hfz:=(R4.o.box2 _ hgrow).2
   have R':Z _:=R4.o.app2 _ hown hgrow (by rw[Q3];exact hat)
   have HGR:Z _:=hgrow
   clear hown hgrow hat
   go_wp2
   go_meet
   exact⟨rfl,rfl,RS.of2 R'.o HKN.o (by rw[HWK.o];rfl),R4.o.low2 _ HGR.o hlow4.o⟩
  case rest=>
  clear HRS HN
  obtain⟨hs5,hs6,HRS,HN⟩:=hcut
  subst hs5 hs6
  go_upto_region 18 with fail
  go_cut [5,6] from 18 to 93 (λs5 s6 wc=>s5=iV k/\s6=sL xa 0 xc/\Z (RS w2.heap.size wc (auK ws (fPa ws) Jv (fFa ws) (Qw rs) (Js rs) (k+1) (k+1) (k+1) (k+1) k))/\Z (Nx w2 wc))
  case first=>
   obtain⟨a0,n0,c0,a1,n1,c1,a2,n2,c2,a3,n3,c3,a4,n4,c4,hR0⟩:=HRS.o
   have hR:Z _:=hR0
   clear hR0
   have y4:_=some (sL a3 n3 c3):=hR.o.bx.c 3 rfl
   have z4:=hR.o.bx.frozen 3
   go_region_law (first|(go_simp;go_at_call 61;refine(Es B 0 _ _ rs (wd ws k) _ (by exact HRN.o.next HN.o.drew) (by exact HXX.o.next HN.o.drew) (λi hi=>(Zo HG.o hi).1)).mono ?_;rintro e w4 ⟨rfl,hx⟩;have hN4:=(Nx.refl _).drew.trans hx;have R4:Z _:=hR.o.next hN4;have hlow4:Z _:=HN.o.trans hN4;have y5:=Q1 hN4 y4;have y6:(w4.alloc (.cells #[iV (Qw rs (wd ws k))] 2)).cell? (aD w2.heap.size 3)=some (sL a3 n3 c3):=Q1 (Q4 _ _) y5)|(refine V9 rfl (.tmp 79) (.tmp 83) 22 rfl 2 ii (iV 0) 1 8 underlying22 hi hz0 hz1 hz2 rfl (by decide) (w2.heap.size+1) (sL a3 n3 c3) _ _ (by simp[Act.eval]) (zB R4.o.o3 _) (aD _ 0) 1 1 [iV (Qw rs (wd ws k))] (by simp[Act.eval]) rfl (λj u hj=>Ql _ _ _ _ rfl j u hj) (by intro u hu;simp at hu;subst hu;rfl) (by have:=Xb (ws:=ws) (k:=k) hk2;unfold maxLen;simp only[auK];have:=this (Qw rs);omega) (by have:=Xb (ws:=ws) (k:=k) hk2 (Qw rs);simp only[auK];omega) (by have:=R4.o.bx.lt;rw[Q3];omega) ?_;intro v' w' hown hgrow hat;obtain⟨ra,rn,rc,hrs⟩:=Xo hown;subst hrs;have hbx:=(R4.o.box3 _ hgrow).1;have hfz:=(R4.o.box3 _ hgrow).2;have R':Z _:=R4.o.app3 _ hown hgrow (by first|exact hat|(rw[Q3];exact hat));have HGR:Z _:=hgrow;clear hown hgrow hat))
   all_goals go_wp2
   all_goals go_meet
   all_goals exact⟨rfl,rfl,RS.of3 R'.o HKN.o rfl,R4.o.low3 _ HGR.o hlow4.o⟩
  case rest=>
  clear HRS HN
  obtain⟨hs5,hs6,HRS,HN⟩:=hcut
  subst hs5 hs6
  go_upto_region 19 with fail
  obtain⟨a0,n0,c0,a1,n1,c1,a2,n2,c2,a3,n3,c3,a4,n4,c4,hR0⟩:=HRS.o
  have hR:Z _:=hR0
  clear hR0
  have y4:_=some (sL a4 n4 c4):=hR.o.bx.c 4 rfl
  have z4:=hR.o.bx.frozen 4
  go_region_law (first|(go_simp;go_at_call 62;refine(Q16 B 0 _ _ rs (wd ws k) _ (by exact HRN.o.next HN.o.drew) (by exact HXX.o.next HN.o.drew)).mono ?_;rintro e w4 ⟨rfl,hx⟩;have hN4:=(Nx.refl _).drew.trans hx;have R4:Z _:=hR.o.next hN4;have hlow4:Z _:=HN.o.trans hN4;have y5:=Q1 hN4 y4;have y6:(w4.alloc (.cells #[.bool (Js rs (wd ws k))] 4)).cell? (aD w2.heap.size 4)=some (sL a4 n4 c4):=Q1 (Q4 _ _) y5)|(refine V9 rfl (.tmp 87) (.tmp 91) 54 rfl 4 jj (.bool false) 1 1 underlying54 hj0 hj1 hj2 hj3 rfl (by decide) (w2.heap.size+1) (sL a4 n4 c4) _ _ (by simp[Act.eval]) (zB R4.o.o4 _) (aD _ 0) 1 1 [.bool (Js rs (wd ws k))] (by simp[Act.eval]) rfl (λj u hj=>Ql _ _ _ _ rfl j u hj) (by intro u hu;simp at hu;subst hu;rfl) (by have:=If (ws:=ws) (k:=k) hk2;unfold maxLen;simp only[auK];have:=this (Js rs);omega) (by have:=If (ws:=ws) (k:=k) hk2 (Js rs);simp only[auK];omega) (by have:=R4.o.bx.lt;rw[Q3];omega) ?_;intro v' w' hown hgrow hat;obtain⟨ra,rn,rc,hrs⟩:=Xo hown;subst hrs;have hbx:=(R4.o.box4 _ hgrow).1;have hfz:=(R4.o.box4 _ hgrow).2;have R':Z _:=R4.o.app4 _ hown hgrow (by first|exact hat|(rw[Q3];exact hat));have HGR:Z _:=hgrow;clear hown hgrow hat))
  all_goals go_wp2
  all_goals
   go_roundw
   case rel=>exact⟨k+1,by omega,by go_num,RS.of4 R'.o HKN.o rfl,R4.o.low4 _ HGR.o hlow4.o⟩
   case measure=>simp[intOf];omega
 ·have hne:=HNE.o k (by omega) hlt
  have HWK:Z (wd ws k≠[]):=hne.1
  have hx1:1<=xn:=by rw[<-HXL.o];exact List.length_pos_iff.2 hne.1
  have hx4:xn<=402:=by rw[<-HXL.o];exact hne.2
  obtain⟨m,rfl⟩:∃m,xn=m+1:=⟨xn-1,by omega⟩
  obtain⟨xb,xo,rfl,_,hxb,hxcell⟩:=hxk (by omega)
  have x0:w2.cell? (aD xb (xo+m))=some (iV (iat (wd ws k) m)):=hxcell m (by omega)
  have HLE:Z (iat (wd ws k) m=Jv (wd ws k)):=(Qa5 HXL.o).symm
  have HDL:Z ((wd ws k).take m=(wd ws k).dropLast):=by unfold Z;rw[List.dropLast_eq_take,HXL.o];rfl
  have w1:IntKind.i64.wrap ((m:Int)+1-1)=(m:Int):=by rw[IntKind.wrap_i64];omega
  have w2':((m:Int)+1-1)=(m:Int):=by omega
  have hm1:(m:Int)<(m:Int)+1:=by omega
  have hm2:(m:Int)<=xc:=by omega
  have wm:=Yk m (by omega)
  clear hxk hne hxcell hk0
  go_upto_region 15 with fail
  go_cut [5,6] from 18 to 93 (λs5 s6 wc=>s5=iV k/\s6=sL (some (aD xb xo)) (m+1) xc/\Z (RS w2.heap.size wc (auK ws (fPa ws) Jv (fFa ws) (Qw rs) (Js rs) (k+1) k k k k))/\Z (Nx w2 wc))
  case first=>
   obtain⟨a0,n0,c0,a1,n1,c1,a2,n2,c2,a3,n3,c3,a4,n4,c4,hR0⟩:=HRS.o
   have hR:Z _:=hR0
   clear hR0
   have y4:_=some (sL a0 n0 c0):=hR.o.bx.c 0 rfl
   have z4:=hR.o.bx.frozen 0
   go_region_law (first|(go_simp;go_at_call 59;refine(Ty 0 0 _ _ ws ((wd ws k).take m) _ (by exact HWO.o.next HN.o.drew) (by exact(HXX.o.take (Nat.le_succ _) _).next HN.o.drew) HASC.o (by rw[HZ.o];omega)).mono ?_;rintro e w4 ⟨rfl,hx⟩;have hN4:=(Nx.refl _).drew.trans hx;have R4:Z _:=hR.o.next hN4;have hlow4:Z _:=HN.o.trans hN4;have y5:=Q1 hN4 y4;have y6:(w4.alloc (.cells #[iV (stW ws ((wd ws k).take m))] 2)).cell? (aD w2.heap.size 0)=some (sL a0 n0 c0):=Q1 (Q4 _ _) y5)|(refine V9 rfl (.tmp 48) (.tmp 56) 22 rfl 2 ii (iV 0) 1 8 underlying22 hi hz0 hz1 hz2 rfl (by decide) (w2.heap.size+1) (sL a0 n0 c0) _ _ (by simp[Act.eval]) (zB R4.o.o0 _) (aD _ 0) 1 1 [iV (stW ws ((wd ws k).take m))] (by simp[Act.eval]) rfl (λj u hj=>Ql _ _ _ _ rfl j u hj) (by intro u hu;simp at hu;subst hu;rfl) (by have:=Xb (ws:=ws) (k:=k) hk2;unfold maxLen;simp only[auK];have:=this (fPa ws);omega) (by have:=Xb (ws:=ws) (k:=k) hk2 (fPa ws);simp only[auK];omega) (by have:=R4.o.bx.lt;rw[Q3];omega) ?_;intro v' w' hown hgrow hat;obtain⟨ra,rn,rc,hrs⟩:=Xo hown;subst hrs;have hbx:=(R4.o.box0 _ hgrow).1;have hfz:=(R4.o.box0 _ hgrow).2;have R':Z _:=R4.o.app0 _ hown hgrow (by first|exact hat|(rw[Q3];exact hat));have HGR:Z _:=hgrow;clear hown hgrow hat))
   all_goals go_wp2
   all_goals go_meet
   all_goals exact⟨rfl,rfl,RS.of0 R'.o HKN.o (by unfold fPa;rw[if_neg HWK.o,HDL.o]),R4.o.low0 _ HGR.o hlow4.o⟩
  case rest=>
  clear HRS HN
  obtain⟨hs5,hs6,HRS,HN⟩:=hcut
  subst hs5 hs6
  have x1:=Q1 HN.o x0
  go_upto_region 16 with fail
  go_cut [5,6] from 18 to 93 (λs5 s6 wc=>s5=iV k/\s6=sL (some (aD xb xo)) (m+1) xc/\Z (RS w2.heap.size wc (auK ws (fPa ws) Jv (fFa ws) (Qw rs) (Js rs) (k+1) (k+1) k k k))/\Z (Nx w2 wc))
  case first=>
   obtain⟨a0,n0,c0,a1,n1,c1,a2,n2,c2,a3,n3,c3,a4,n4,c4,hR0⟩:=HRS.o
   have hR:Z _:=hR0
   clear hR0
   have R4:Z _:=hR.o
   have hlow4:Z _:=HN.o
   have y4:_=some (sL a1 n1 c1):=hR.o.bx.c 1 rfl
   have z4:=hR.o.bx.frozen 1
   have y6:((wc.alloc (.cells #[iV (iat (wd ws k) m)] 2)).drew).cell? (aD w2.heap.size 1)=some (sL a1 n1 c1):=Q1 (Q4 _ _) y4
   go_region_law (refine V9 rfl (.tmp 60) (.tmp 67) 22 rfl 2 ii (iV 0) 1 8 underlying22 hi hz0 hz1 hz2 rfl (by decide) (w2.heap.size+1) (sL a1 n1 c1) _ _ (by simp[Act.eval]) (show((wc.alloc (.cells #[iV (iat (wd ws k) m)] 2)).drew).ownsRow _ _ _ _ _ _ from zB R4.o.o1 _) (aD wc.heap.size 0) 1 1 [iV (iat (wd ws k) m)] (by simp[Act.eval]) rfl (λj u hj=>show((wc.alloc (.cells #[iV (iat (wd ws k) m)] 2)).drew).cell? _=_ from Ql wc _ _ _ rfl j u hj) (by intro u hu;simp at hu;subst hu;rfl) (by have:=Xb (ws:=ws) (k:=k) hk2 Jv;unfold maxLen;simp only[auK];omega) (by have:=Xb (ws:=ws) (k:=k) hk2 Jv;simp only[auK];omega) (by have:=R4.o.bx.lt;show _<=(wc.alloc (.cells #[iV (iat (wd ws k) m)] 2)).heap.size;rw[Q3];omega) ?_;intro v' w' hown hgrow0 hat;have hgrow:(wc.alloc (.cells #[iV (iat (wd ws k) m)] 2)).grownBy w' (sL a1 n1 c1).ownBlock:=⟨hgrow0.os,hgrow0.tape,hgrow0.output,hgrow0.size,hgrow0.block⟩;obtain⟨ra,rn,rc,hrs⟩:=Xo hown;subst hrs;have hbx:=(R4.o.box1 _ hgrow).1;have hfz:=(R4.o.box1 _ hgrow).2;have R':Z _:=R4.o.app1 _ hown hgrow hat;have HGR:Z _:=hgrow;clear hown hgrow hgrow0 hat)
   all_goals go_wp2
   all_goals go_meet
   all_goals exact⟨rfl,rfl,RS.of1 R'.o HKN.o HLE.o,R4.o.low1 _ HGR.o hlow4.o⟩
  case rest=>
  clear HRS HN
  obtain⟨hs5,hs6,HRS,HN⟩:=hcut
  subst hs5 hs6
  go_upto_region 17 with fail
  go_cut [5,6] from 18 to 93 (λs5 s6 wc=>s5=iV k/\s6=sL (some (aD xb xo)) (m+1) xc/\Z (RS w2.heap.size wc (auK ws (fPa ws) Jv (fFa ws) (Qw rs) (Js rs) (k+1) (k+1) (k+1) k k))/\Z (Nx w2 wc))
  case first=>
   obtain⟨a0,n0,c0,a1,n1,c1,a2,n2,c2,a3,n3,c3,a4,n4,c4,hR0⟩:=HRS.o
   have hR:Z _:=hR0
   clear hR0
   have y4:_=some (sL a2 n2 c2):=hR.o.bx.c 2 rfl
   have z4:=hR.o.bx.frozen 2
   go_region_law (first|(go_simp;go_at_call 60;refine(W8 0 0 _ _ ws (wd ws k) 1 _ (by exact HWO.o.next HN.o.drew) (by exact HXX.o.next HN.o.drew) HASC.o (by rw[HZ.o];omega) (by rw[HXL.o];omega) (by rw[HXL.o];omega) ⟨_,_,_,rfl,HCAP.o⟩).mono ?_;rintro e w4 ⟨rfl,hx⟩;have hN4:=(Nx.refl _).drew.trans hx;have R4:Z _:=hR.o.next hN4;have hlow4:Z _:=HN.o.trans hN4;have y5:=Q1 hN4 y4;have y6:(w4.alloc (.cells #[iV (Xx ws (wd ws k) 1 (wd ws k).length)] 2)).cell? (aD w2.heap.size 2)=some (sL a2 n2 c2):=Q1 (Q4 _ _) y5)|(refine V9 rfl (.tmp 71) (.tmp 75) 22 rfl 2 ii (iV 0) 1 8 underlying22 hi hz0 hz1 hz2 rfl (by decide) (w2.heap.size+1) (sL a2 n2 c2) _ _ (by simp[Act.eval]) (zB R4.o.o2 _) (aD _ 0) 1 1 [iV (Xx ws (wd ws k) 1 (wd ws k).length)] (by simp[Act.eval]) rfl (λj u hj=>Ql _ _ _ _ rfl j u hj) (by intro u hu;simp at hu;subst hu;rfl) (by have:=Xb (ws:=ws) (k:=k) hk2;unfold maxLen;simp only[auK];have:=this (fFa ws);omega) (by have:=Xb (ws:=ws) (k:=k) hk2 (fFa ws);simp only[auK];omega) (by have:=R4.o.bx.lt;rw[Q3];omega) ?_;intro v' w' hown hgrow hat;obtain⟨ra,rn,rc,hrs⟩:=Xo hown;subst hrs;have hbx:=(R4.o.box2 _ hgrow).1;have hfz:=(R4.o.box2 _ hgrow).2;have R':Z _:=R4.o.app2 _ hown hgrow (by first|exact hat|(rw[Q3];exact hat));have HGR:Z _:=hgrow;clear hown hgrow hat))
   all_goals go_wp2
   all_goals go_meet
   all_goals exact⟨rfl,rfl,RS.of2 R'.o HKN.o (by unfold fFa;rw[if_neg HWK.o];unfold LW;simp),R4.o.low2 _ HGR.o hlow4.o⟩
  case rest=>
  clear HRS HN
  obtain⟨hs5,hs6,HRS,HN⟩:=hcut
  subst hs5 hs6
  go_upto_region 18 with fail
  go_cut [5,6] from 18 to 93 (λs5 s6 wc=>s5=iV k/\s6=sL (some (aD xb xo)) (m+1) xc/\Z (RS w2.heap.size wc (auK ws (fPa ws) Jv (fFa ws) (Qw rs) (Js rs) (k+1) (k+1) (k+1) (k+1) k))/\Z (Nx w2 wc))
  case first=>
   obtain⟨a0,n0,c0,a1,n1,c1,a2,n2,c2,a3,n3,c3,a4,n4,c4,hR0⟩:=HRS.o
   have hR:Z _:=hR0
   clear hR0
   have y4:_=some (sL a3 n3 c3):=hR.o.bx.c 3 rfl
   have z4:=hR.o.bx.frozen 3
   go_region_law (first|(go_simp;go_at_call 61;refine(Es B 0 _ _ rs (wd ws k) _ (by exact HRN.o.next HN.o.drew) (by exact HXX.o.next HN.o.drew) (λi hi=>(Zo HG.o hi).1)).mono ?_;rintro e w4 ⟨rfl,hx⟩;have hN4:=(Nx.refl _).drew.trans hx;have R4:Z _:=hR.o.next hN4;have hlow4:Z _:=HN.o.trans hN4;have y5:=Q1 hN4 y4;have y6:(w4.alloc (.cells #[iV (Qw rs (wd ws k))] 2)).cell? (aD w2.heap.size 3)=some (sL a3 n3 c3):=Q1 (Q4 _ _) y5)|(refine V9 rfl (.tmp 79) (.tmp 83) 22 rfl 2 ii (iV 0) 1 8 underlying22 hi hz0 hz1 hz2 rfl (by decide) (w2.heap.size+1) (sL a3 n3 c3) _ _ (by simp[Act.eval]) (zB R4.o.o3 _) (aD _ 0) 1 1 [iV (Qw rs (wd ws k))] (by simp[Act.eval]) rfl (λj u hj=>Ql _ _ _ _ rfl j u hj) (by intro u hu;simp at hu;subst hu;rfl) (by have:=Xb (ws:=ws) (k:=k) hk2;unfold maxLen;simp only[auK];have:=this (Qw rs);omega) (by have:=Xb (ws:=ws) (k:=k) hk2 (Qw rs);simp only[auK];omega) (by have:=R4.o.bx.lt;rw[Q3];omega) ?_;intro v' w' hown hgrow hat;obtain⟨ra,rn,rc,hrs⟩:=Xo hown;subst hrs;have hbx:=(R4.o.box3 _ hgrow).1;have hfz:=(R4.o.box3 _ hgrow).2;have R':Z _:=R4.o.app3 _ hown hgrow (by first|exact hat|(rw[Q3];exact hat));have HGR:Z _:=hgrow;clear hown hgrow hat))
   all_goals go_wp2
   all_goals go_meet
   all_goals exact⟨rfl,rfl,RS.of3 R'.o HKN.o rfl,R4.o.low3 _ HGR.o hlow4.o⟩
  case rest=>
  clear HRS HN
  obtain⟨hs5,hs6,HRS,HN⟩:=hcut
  subst hs5 hs6
  go_upto_region 19 with fail
  obtain⟨a0,n0,c0,a1,n1,c1,a2,n2,c2,a3,n3,c3,a4,n4,c4,hR0⟩:=HRS.o
  have hR:Z _:=hR0
  clear hR0
  have y4:_=some (sL a4 n4 c4):=hR.o.bx.c 4 rfl
  have z4:=hR.o.bx.frozen 4
  go_region_law (first|(go_simp;go_at_call 62;refine(Q16 B 0 _ _ rs (wd ws k) _ (by exact HRN.o.next HN.o.drew) (by exact HXX.o.next HN.o.drew)).mono ?_;rintro e w4 ⟨rfl,hx⟩;have hN4:=(Nx.refl _).drew.trans hx;have R4:Z _:=hR.o.next hN4;have hlow4:Z _:=HN.o.trans hN4;have y5:=Q1 hN4 y4;have y6:(w4.alloc (.cells #[.bool (Js rs (wd ws k))] 4)).cell? (aD w2.heap.size 4)=some (sL a4 n4 c4):=Q1 (Q4 _ _) y5)|(refine V9 rfl (.tmp 87) (.tmp 91) 54 rfl 4 jj (.bool false) 1 1 underlying54 hj0 hj1 hj2 hj3 rfl (by decide) (w2.heap.size+1) (sL a4 n4 c4) _ _ (by simp[Act.eval]) (zB R4.o.o4 _) (aD _ 0) 1 1 [.bool (Js rs (wd ws k))] (by simp[Act.eval]) rfl (λj u hj=>Ql _ _ _ _ rfl j u hj) (by intro u hu;simp at hu;subst hu;rfl) (by have:=If (ws:=ws) (k:=k) hk2;unfold maxLen;simp only[auK];have:=this (Js rs);omega) (by have:=If (ws:=ws) (k:=k) hk2 (Js rs);simp only[auK];omega) (by have:=R4.o.bx.lt;rw[Q3];omega) ?_;intro v' w' hown hgrow hat;obtain⟨ra,rn,rc,hrs⟩:=Xo hown;subst hrs;have hbx:=(R4.o.box4 _ hgrow).1;have hfz:=(R4.o.box4 _ hgrow).2;have R':Z _:=R4.o.app4 _ hown hgrow (by first|exact hat|(rw[Q3];exact hat));have HGR:Z _:=hgrow;clear hown hgrow hat))
  all_goals go_wp2
  all_goals
   go_roundw
   case rel=>exact⟨k+1,by omega,by go_num,RS.of4 R'.o HKN.o rfl,R4.o.low4 _ HGR.o hlow4.o⟩
   case measure=>simp[intOf];omega
end Go.Proofs.YtahpodmokbdjeaaGreatDoor
namespace Go.Proofs.YtahpodmokbdjeaaGreatDoor
open Go.RowKit Go.Maps Tryz
set_option linter.unusedVariables false
set_option maxRecDepth 1000000
set_option maxHeartbeats 16000000
theorem Qf5 (x:Lit×DataW Unit)(l1 l2:List (Lit×DataW Unit))(h1:∀p∈l1,x.1.before p.1=false)(h2:∀p∈l2,x.1.before p.1=true):DataW.insert x (l1++l2)=l1++x::l2:=by
 induction l1 with
 |nil=>
  cases l2 with
  |nil=>rfl
  |cons y l=>
   rw[List.nil_append,List.nil_append]
   unfold DataW.insert
   rw[h2 y (List.mem_cons_self ..)]
   simp
 |cons y l ih=>
  rw[List.cons_append]
  unfold DataW.insert
  rw[h1 y (List.mem_cons_self ..)]
  simp only[Bool.false_eq_true,if_false,List.cons_append]
  rw[ih λp hp=>h1 p (List.mem_cons_of_mem _ hp)]
theorem Qa6 {k1 k2:List (Int×Nat)}{e:Int}(b:Nat)(h1:∀p∈k1,p.1<e)(h2:∀p∈k2,e<p.1):(X8 (k1++k2)).put (.int .i64 e) (.lit (.int .i64 (b:Int)))=X8 (k1++(e,b)::k2):=by
 unfold X8
 rw[DataW.put_eq]
 congr 1
 unfold ChangeMaps.putKey
 have hf:((k1++k2).map Pq).filter (ChangeMaps.notKey (.int .i64 e))=(k1++k2).map Pq:=by
  rw[List.filter_eq_self]
  intro p hp
  obtain⟨q,hq,rfl⟩:=List.mem_map.1 hp
  have:q.1≠e:=by
   rcases List.mem_append.1 hq with h|h
   ·have:=h1 q h;omega
   ·have:=h2 q h;omega
  simp[ChangeMaps.notKey,Pq,Lit.sameKey]
  omega
 rw[hf,yL,Qf5]
 ·simp[Pq]
 ·intro p hp
  obtain⟨q,hq,rfl⟩:=List.mem_map.1 hp
  have:=h1 q hq
  simp[Pq,Lit.before]
  omega
 ·intro p hp
  obtain⟨q,hq,rfl⟩:=List.mem_map.1 hp
  have:=h2 q hq
  simp[Pq,Lit.before]
  omega
theorem Qd2 (b mb:Nat)(num len last must:Int)(bad:Bool)(par fl:Value)(ka kb:List (Int×Nat))(e:Int)(w:World)(hb:Blk w b (node num len last must bad par fl (.map (some mb))))(hm:w.ownsMap prog 2 Zh mb (ka++kb).length (X8 (ka++kb)))(he:(∀p∈ka,p.1<e)/\∀p∈kb,e<p.1)(hks:(ka++kb).length<=4000)(hl0:0<=len)(hl1:len<=100000)(hw:(Lit.int .i64 e).wf=true) :
  Calls prog 150 #[ptr b,.int .i64 e] w λr w'=>r=.returned (ptr w.heap.size)/\Blk w' w.heap.size (node 0 (len+1) e (-1) false (ptr b) (.pointer none) (.map none))/\Blk w' b (node num len last must bad par fl (.map (some mb)))/\MK w' (.map (some mb)) (ka++(e,w.heap.size)::kb)/\But none (some mb) w w':=by
 have HB:Z (Blk w b (node num len last must bad par fl (.map (some mb)))):=hb
 have HM:Z (w.ownsMap prog 2 Zh mb (ka++kb).length (X8 (ka++kb))):=hm
 have HE:Z ((∀p∈ka,p.1<e)/\∀p∈kb,e<p.1):=he
 have HNE:Z (b≠mb):=by
  intro e0
  subst e0
  obtain⟨t,h1⟩:=hb
  obtain⟨es,clock,h2,_⟩:=hm
  rw[h1] at h2
  simp at h2
 have HML:Z (mb<w.heap.size):=hm.lt
 have k1:w.cell? ⟨b,1,none⟩=some (.int .i64 len):=hb.c 1 rfl
 have hlt:=hb.lt
 have hwl:IntKind.i64.wrap (len+1)=len+1:=by rw[IntKind.wrap_i64];omega
 clear hm he
 unfold ptr
 go_enter func150,ntmps150
 go_upto_region 2 with fail
 have HB1:Z (Blk (w.alloc (.cells #[.int .i64 0,.int .i64 (len+1),.int .i64 e,.int .i64 (-1),.bool false,.pointer (some ⟨b,0,none⟩),.pointer none,.map none] 223)) b (node num len last must bad par fl (.map (some mb)))):=HB.o.alloc _
 have HBC:Z (Blk (w.alloc (.cells #[.int .i64 0,.int .i64 (len+1),.int .i64 e,.int .i64 (-1),.bool false,.pointer (some ⟨b,0,none⟩),.pointer none,.map none] 223)) w.heap.size (node 0 (len+1) e (-1) false (ptr b) (.pointer none) (.map none))):=Blk.new w _ 223 _ rfl
 have HN1:Z (Nx w (w.alloc (.cells #[.int .i64 0,.int .i64 (len+1),.int .i64 e,.int .i64 (-1),.bool false,.pointer (some ⟨b,0,none⟩),.pointer none,.map none] 223))):=Q4 _ _
 have HM1:Z ((w.alloc (.cells #[.int .i64 0,.int .i64 (len+1),.int .i64 e,.int .i64 (-1),.bool false,.pointer (some ⟨b,0,none⟩),.pointer none,.map none] 223)).ownsMap prog 2 Zh mb (ka++kb).length (X8 (ka++kb))):=HM.o.alloc _
 clear hb k1
 generalize hw1:w.alloc (.cells #[.int .i64 0,.int .i64 (len+1),.int .i64 e,.int .i64 (-1),.bool false,.pointer (some ⟨b,0,none⟩),.pointer none,.map none] 223)=w1 at *
 clear hw1
 have k7:w1.cell? ⟨b,7,none⟩=some (.map (some mb)):=HB1.o.c 7 rfl
 have q53:∀(w:World) (r:Option Nat),(binOp .eql 221 (.map r) (.map none)).run prog w=.ok (.bool r.isNone) w:=λw r=>run_eql_map_nil w _ _ _ r underlying221
 go_wp2_with (at_mapUpdate;refine wpList_mapUpdate_own _ rfl _ _ _ 221 rfl 2 147 Q6n underlying221 Zh mb (ka++kb).length (X8 (ka++kb)) rfl HM1.o (by unfold maxLen;omega) (.int .i64 e) (.pointer (some ⟨w.heap.size,0,none⟩)) (.int .i64 e) rfl rfl (keyOf_int_mk underlying2 hw) (.lit (.int .i64 (w.heap.size:Int))) [] rfl ?_)
 intro w4 hown hg
 have HM4:Z (MK w4 (.map (some mb)) (ka++(e,w.heap.size)::kb)):=oR ⟨_,rfl,by rw[Qa6 _ HE.o.1 HE.o.2] at hown;rw[show(ka++(e,w.heap.size)::kb).length=ka.length+kb.length+1 by simp;omega];exact hown⟩
 have HC4:Z (Blk w4 w.heap.size (node 0 (len+1) e (-1) false (ptr b) (.pointer none) (.map none))):=HBC.o.grownB hg (by intro e;have:=zF e;have:=HML.o;omega)
 have HB4:Z (Blk w4 b (node num len last must bad par fl (.map (some mb)))):=HB1.o.grownB hg (by intro e;exact HNE.o (zF e))
 have HW4:Z (But none (some mb) w w4):=(But.of_nx HN1.o).grow hg (λg hg=>oR hg)
 clear hown hg k7
 go_wp2
 go_ret
 exact⟨rfl,HC4.o,HB4.o,HM4.o,HW4.o⟩
theorem Aa (b:Nat)(num len last must:Int)(bad:Bool)(par fl m:Value)(k1 k2:List (Int×Nat))(e:Int)(w:World)(hb:Blk w b (node num len last must bad par fl m))(hm:MK w m (k1++k2))(he:(∀p∈k1,p.1<e)/\∀p∈k2,e<p.1)(hks:(k1++k2).length<=4000)(hl0:0<=len)(hl1:len<=100000)(hw:(Lit.int .i64 e).wf=true) :
  Calls prog 150 #[ptr b,.int .i64 e] w λr w'=>∃m',r=.returned (ptr w.heap.size)/\Blk w' w.heap.size (node 0 (len+1) e (-1) false (ptr b) (.pointer none) (.map none))/\Blk w' b (node num len last must bad par fl m')/\MK w' m' (k1++(e,w.heap.size)::k2)/\(Jq m'=Jq m\/Jq m'=some (w.heap.size+1))/\But (some b) (Jq m) w w':=by
 rcases hm with⟨rfl,hk⟩|⟨mb,rfl,hm⟩
 ·obtain⟨rfl,rfl⟩:=List.append_eq_nil_iff.1 hk
  refine(Qd1 b num len last must bad par fl e w hb hl0 hl1 hw).mono ?_
  rintro r w' ⟨h1,h2,h3,h4,h5⟩
  exact⟨_,h1,h2,h3,h4,oR rfl,h5⟩
 ·refine(Qd2 b mb num len last must bad par fl k1 k2 e w hb hm he hks hl0 hl1 hw).mono ?_
  rintro r w' ⟨h1,h2,h3,h4,h5⟩
  exact⟨_,h1,h2,h3,h4,oL rfl,⟨h5.os,h5.tape,h5.output,h5.size,λx hx _ hn=>h5.block x hx (by simp) hn⟩⟩
def upW {α:Type}(f:List Int->α)(k:List Int)(v:α):List Int->α:=λt=>if t=k then v else f t
theorem Yn {α:Type}(f:List Int->α)(k:List Int)(v:α):upW f k v k=v:=by simp[upW]
theorem Vr {α:Type}(f:List Int->α){k t:List Int}(v:α)(h:t≠k):upW f k v t=f t:=by simp[upW,h]
theorem En {ws:List (List Int)}{x:List Int}:x∈ws↔inW ws x:=by
 constructor
 ·intro h
  obtain⟨j,hj,e⟩:=List.mem_iff_getElem.1 h
  exact⟨j,hj,by simp[wd,List.getD,hj,e]⟩
 ·rintro⟨j,hj,e⟩
  rw[<-e]
  simp[wd,List.getD,hj]
structure PT (ws:List (List Int))(mu:List Int->Int)(bd:List Int->Bool)(B:Nat)(w:World)(bl:List Int->Nat)(mv:List Int->Value):Prop where
 nd:∀x,inW ws x->Blk w (bl x) (node 0 x.length (Jv x) (mu x) (bd x) (if x=[] then .pointer none else ptr (bl x.dropLast)) (.pointer none) (mv x))
 kd:∀x,inW ws x->MK w (mv x) (Ja ws bl x)
 inj:∀x y,inW ws x->inW ws y->bl x=bl y->x=y
 ge:∀x,inW ws x->B<=bl x
 mge:∀x mb,inW ws x->Jq (mv x)=some mb->B<=mb
 ap:∀x y mb,inW ws x->inW ws y->Jq (mv x)=some mb->Jq (mv y)=some mb->x=y
theorem Gz {ws:List (List Int)}{bl bl':List Int->Nat}(h:∀x∈ws,bl' x=bl x)(x:List Int):Ja ws bl' x=Ja ws bl x:=by
 unfold Ja
 exact List.map_congr_left λy hy=>by rw[h y (List.mem_filter.1 hy).1]
theorem Gf (l1 l2:List (List Int))(bl:List Int->Nat)(x:List Int):Ja (l1++l2) bl x=Ja l1 bl x++Ja l2 bl x:=by
 simp[Ja,List.filter_append]
theorem Q6m (y:List Int)(l:List (List Int))(bl:List Int->Nat)(x:List Int):Ja (y::l) bl x=(if Wi x y then [(Jv y,bl y)] else [])++Ja l bl x:=by
 unfold Ja
 rw[List.filter_cons]
 by_cases h:Wi x y=true
 ·rw[if_pos h,if_pos h];rfl
 ·rw[if_neg h,if_neg h];rfl
theorem Ew (x z:List Int)(e:Int):Wi z (x++[e])=decide (z=x):=by
 unfold Wi
 rw[List.dropLast_concat]
 congr 1
 apply propext
 exact⟨λh=>h.2.symm,λh=>⟨by simp,h.symm⟩⟩
theorem Ev {ws:List (List Int)}{bl:List Int->Nat}{x:List Int}{e:Int}{i:Nat}(hi:i<=ws.length)(hp:Xf ws (x++[e]) i i)(hn:¬inW ws (x++[e])) :
  Ja ws bl x=Ja (ws.take i) bl x++Ja (ws.drop i) bl x/\(∀p∈Ja (ws.take i) bl x,p.1<e)/\∀p∈Ja (ws.drop i) bl x,e<p.1:=by
 refine⟨by rw[<-Gf,yF],λp h=>?_,λp h=>?_⟩
 ·unfold Ja at h
  obtain⟨y,hy,rfl⟩:=List.mem_map.1 h
  rw[yB] at hy
  obtain⟨hy1,hy2⟩:=hy
  simp[Wi] at hy2
  obtain⟨j,hj,ej⟩:=List.mem_iff_getElem.1 hy1
  rw[yC] at hj
  rw[List.getElem_take] at ej
  have hb:=hp.1 j (by omega)
  have e1:wd ws j=y:=by simp[wd,List.getD,show j<ws.length by omega,ej]
  rw[e1,Kp hy2.1,hy2.2,Ai,Vm] at hb
  simpa using hb
 ·unfold Ja at h
  obtain⟨y,hy,rfl⟩:=List.mem_map.1 h
  rw[yB] at hy
  obtain⟨hy1,hy2⟩:=hy
  simp[Wi] at hy2
  obtain⟨j,hj,ej⟩:=List.mem_iff_getElem.1 hy1
  rw[List.length_drop] at hj
  rw[List.getElem_drop] at ej
  have hb:=hp.2 (i+j) (by omega) (by omega)
  have e1:wd ws (i+j)=y:=by simp[wd,List.getD,show i+j<ws.length by omega,ej]
  have hne:y≠x++[e]:=λe'=>hn ⟨i+j,by omega,e1.trans e'⟩
  have hb2:=Q8x hne (by rw[<-e1];exact hb)
  rw[Kp hy2.1,hy2.2,Ai,Vm] at hb2
  simpa using hb2
theorem Q17 (ws:List (List Int))(bl:List Int->Nat)(x:List Int):(Ja ws bl x).length<=ws.length:=by
 unfold Ja
 rw[zG]
 exact yA _ _
theorem PT.grow {ws:List (List Int)}{mu:List Int->Int}{bd:List Int->Bool}{B:Nat}{w w':World}{bl:List Int->Nat}{mv:List Int->Value}(h:PT ws mu bd B w bl mv){x:List Int}{e:Int}{i:Nat}(hx:inW ws x)(hy:¬inW ws (x++[e]))(hd:∀x e,inW ws (x++[e])->inW ws x)(hi:i<=ws.length)(hp:Xf ws (x++[e]) i i)(hmu:mu (x++[e])=-1)(hbd:bd (x++[e])=false)(hB:B<=w.heap.size){m':Value}
  (b1:Blk w' w.heap.size (node 0 (x.length+1) e (-1) false (ptr (bl x)) (.pointer none) (.map none)))
  (b2:Blk w' (bl x) (node 0 x.length (Jv x) (mu x) (bd x) (if x=[] then .pointer none else ptr (bl x.dropLast)) (.pointer none) m'))
  (b3:MK w' m' (Ja (ws.take i) bl x++(e,w.heap.size)::Ja (ws.drop i) bl x)) (b4:Jq m'=Jq (mv x)\/Jq m'=some (w.heap.size+1)) (b5:But (some (bl x)) (Jq (mv x)) w w') :
  PT (Zp ws i (x++[e])) mu bd B w' (upW bl (x++[e]) w.heap.size) (upW (upW mv x m') (x++[e]) (.map none)):=by
 have hI:Q0f ws (x++[e]) (Zp ws i (x++[e])):=oR ⟨hy,i,hi,hp,rfl⟩
 have hxy:x≠x++[e]:=λe'=>by have:=congrArg List.length e';simp at this
 have hne:∀z,inW ws z->z≠x++[e]:=λz hz e'=>hy (e'▸hz)
 have hpar:∀z,inW ws z->z≠[]->inW ws z.dropLast:=λz hz h0=>hd _ (Jv z) (by rw[<-Kp h0];exact hz)
 have hlt:∀z,inW ws z->bl z<w.heap.size:=λz hz=>(h.nd z hz).lt
 have hbl:∀z∈ws,upW bl (x++[e]) w.heap.size z=bl z:=λz hz=>Vr _ _ (hne z (En.1 hz))
 have hms:∀mb,Jq (upW (upW mv x m') (x++[e]) (.map none) (x++[e]))=some mb->False:=λmb e=>by rw[Yn] at e;simp[Jq] at e
 have hmm:∀z mb,inW ws z->Jq (upW (upW mv x m') (x++[e]) (.map none) z)=some mb->Jq (mv z)=some mb\/(z=x/\mb=w.heap.size+1):=by
  intro z mb hz e1
  rw[Vr _ _ (hne z hz)] at e1
  by_cases hzx:z=x
  ·subst hzx
   rw[Yn] at e1
   rcases b4 with b4|b4
   ·exact oL (by rw[<-b4];exact e1)
   ·exact oR ⟨rfl,by rw[b4] at e1;exact(zF e1).symm⟩
  ·rw[Vr _ _ hzx] at e1
   exact oL e1
 have hkid:∀z,Ja (Zp ws i (x++[e])) (upW bl (x++[e]) w.heap.size) z=Ja (ws.take i) bl z++((if z=x then [(e,w.heap.size)] else [])++Ja (ws.drop i) bl z):=by
  intro z
  unfold Zp
  rw[Gf,Q6m,Ew,T4,Yn,Gz (λy hy=>hbl y (List.mem_of_mem_take hy)),Gz (λy hy=>hbl y (List.mem_of_mem_drop hy))]
  by_cases hz:z=x
  ·simp[hz]
  ·simp[hz]
 refine⟨λz hz=>?_,λz hz=>?_,λy z hy' hz e1=>?_,λz hz=>?_,λz mb hz e1=>?_,λy z mb hy' hz e1 e2=>?_⟩
 ·rcases (hI.mem z).1 hz with rfl|hz
  ·rw[Yn,Yn,if_neg (by simp),List.dropLast_concat,Vr _ _ hxy,hmu,hbd,T4,zA]
   exact b1
  ·have hq:(if z=[] then Value.pointer none else ptr (upW bl (x++[e]) w.heap.size z.dropLast))=(if z=[] then Value.pointer none else ptr (bl z.dropLast)):=by
    by_cases h0:z=[]
    ·rw[if_pos h0,if_pos h0]
    ·rw[if_neg h0,if_neg h0,Vr _ _ (hne _ (hpar z hz h0))]
   rw[hq,Vr _ _ (hne z hz),Vr _ _ (hne z hz)]
   by_cases hzx:z=x
   ·subst hzx
    rw[Yn]
    exact b2
   ·rw[Vr _ _ hzx]
    exact(h.nd z hz).keep b5 (λe1=>hzx (h.inj z x hz hx (zF e1))) (λe1=>(h.kd x hx).ne e1.symm (h.nd z hz) rfl)
 ·rw[hkid]
  rcases (hI.mem z).1 hz with rfl|hz
  ·rw[Yn,if_neg (λe'=>hxy e'.symm)]
   refine oL ⟨rfl,?_⟩
   have hno:∀l:List (List Int),(∀y∈l,y∈ws)->Ja l bl (x++[e])=[]:=by
    intro l hl
    unfold Ja
    rw[List.map_eq_nil_iff,List.filter_eq_nil_iff]
    intro y hy1 hy2
    simp[Wi] at hy2
    exact hy (hy2.2▸hpar y (En.1 (hl y hy1)) hy2.1)
   rw[hno _ (λy hy=>List.mem_of_mem_take hy),hno _ (λy hy=>List.mem_of_mem_drop hy)]
   rfl
  ·rw[Vr _ _ (hne z hz)]
   by_cases hzx:z=x
   ·subst hzx
    rw[Yn,if_pos rfl]
    exact b3
   ·rw[Vr _ _ hzx,if_neg hzx,List.nil_append,<-Gf,yF]
    refine(h.kd z hz).keep b5 λmb e1=>⟨λe'=>?_,λe'=>?_⟩
    ·exact(h.kd z hz).ne e1 (h.nd x hx) (zF e')
    ·exact hzx (h.ap z x mb hz hx e1 e'.symm)
 ·rcases (hI.mem y).1 hy' with rfl|hy'
  ·rcases (hI.mem z).1 hz with rfl|hz
   ·rfl
   ·rw[Yn,Vr _ _ (hne z hz)] at e1
    have:=hlt z hz
    omega
  ·rcases (hI.mem z).1 hz with rfl|hz
   ·rw[Yn,Vr _ _ (hne y hy')] at e1
    have:=hlt y hy'
    omega
   ·rw[Vr _ _ (hne z hz),Vr _ _ (hne y hy')] at e1
    exact h.inj y z hy' hz e1
 ·rcases (hI.mem z).1 hz with rfl|hz
  ·rw[Yn];exact hB
  ·rw[Vr _ _ (hne z hz)];exact h.ge z hz
 ·rcases (hI.mem z).1 hz with rfl|hz
  ·exact(hms mb e1).elim
  ·rcases hmm z mb hz e1 with h2|⟨_,h2⟩
   ·exact h.mge z mb hz h2
   ·omega
 ·rcases (hI.mem y).1 hy' with rfl|hy'
  ·exact(hms mb e1).elim
  ·rcases (hI.mem z).1 hz with rfl|hz
   ·exact(hms mb e2).elim
   ·rcases hmm y mb hy' e1 with h2|⟨h2,h2'⟩
    ·rcases hmm z mb hz e2 with h3|⟨h3,h3'⟩
     ·exact h.ap y z mb hy' hz h2 h3
     ·have:=(h.kd y hy').lt h2
      omega
    ·rcases hmm z mb hz e2 with h3|⟨h3,h3'⟩
     ·have:=(h.kd z hz).lt h3
      omega
     ·rw[h2,h3]
theorem PT.ask {ws:List (List Int)}{mu:List Int->Int}{bd:List Int->Bool}{B:Nat}{w:World}{bl:List Int->Nat}{mv:List Int->Value}(h:PT ws mu bd B w bl mv){x:List Int}(hx:inW ws x)(z:Int):PT ws (upW mu x z) bd B (w.setCell ⟨bl x,3,none⟩ (.int .i64 z)) bl mv:=by
 refine⟨λy hy=>?_,λy hy=>(h.kd y hy).set (h.nd x hx) _ _,h.inj,h.ge,h.mge,h.ap⟩
 by_cases e:y=x
 ·subst e
  rw[Yn]
  exact(h.nd y hy).set 3 _
 ·rw[Vr _ _ e]
  exact(h.nd y hy).setOther (λe'=>e (h.inj y x hy hx e')) _ _
theorem PT.ban {ws:List (List Int)}{mu:List Int->Int}{bd:List Int->Bool}{B:Nat}{w:World}{bl:List Int->Nat}{mv:List Int->Value}(h:PT ws mu bd B w bl mv){x:List Int}(hx:inW ws x)(z:Bool):PT ws mu (upW bd x z) B (w.setCell ⟨bl x,4,none⟩ (.bool z)) bl mv:=by
 refine⟨λy hy=>?_,λy hy=>(h.kd y hy).set (h.nd x hx) _ _,h.inj,h.ge,h.mge,h.ap⟩
 by_cases e:y=x
 ·subst e
  rw[Yn]
  exact(h.nd y hy).set 4 _
 ·rw[Vr _ _ e]
  exact(h.nd y hy).setOther (λe'=>e (h.inj y x hy hx e')) _ _
theorem PT.next {ws:List (List Int)}{mu:List Int->Int}{bd:List Int->Bool}{B:Nat}{w w':World}{bl:List Int->Nat}{mv:List Int->Value}(h:PT ws mu bd B w bl mv)(k:Nx w w'):PT ws mu bd B w' bl mv:=
 ⟨λy hy=>(h.nd y hy).next k,λy hy=>(h.kd y hy).keep (o:=none) (o':=none) (But.of_nx k) (λmb _=>⟨by simp,by simp⟩),h.inj,h.ge,h.mge,h.ap⟩
theorem PT.trie {ws:List (List Int)}{mu:List Int->Int}{bd:List Int->Bool}{B:Nat}{w:World}{bl:List Int->Nat}{mv:List Int->Value}(h:PT ws mu bd B w bl mv)(hW:WS ws)(hm:mu []=-1)(hb:bd []=false) :
  TR (Qn ws mu bd) ws.length 1 w (λs=>bl (wd ws s)) (λ_=>.pointer none) (λs=>mv (wd ws s)) (λ_=>0):=by
 refine⟨λs hs=>?_,λs hs=>?_,rfl,λs h1 h2=>by omega,λs t hs ht e=>?_⟩
 ·have hn:=h.nd (wd ws s) ⟨s,hs,rfl⟩
  rw[Yw hW hs,T9 hs,T8 hs,Ta hs]
  by_cases h0:s=0
  ·subst h0
   rw[if_pos rfl,if_pos rfl,if_pos rfl]
   rw[hW.root] at hn ⊢
   rw[hm,hb,if_pos rfl] at hn
   exact hn
  ·obtain⟨t,ht,et,hst,_⟩:=hW.par (by omega) hs
   rw[if_neg h0,if_neg h0,if_neg h0,Ie hW (by omega) hs hst,zX,et]
   rw[if_neg (hW.ne (by omega) hs)] at hn
   exact hn
 ·rw[Q6l hW bl hs]
  exact h.kd _ ⟨s,hs,rfl⟩
 ·exact Fu hW.asc hs ht (h.inj _ _ ⟨s,hs,rfl⟩ ⟨t,ht,rfl⟩ e)
theorem Pu (a b:Int)(w:World):Calls prog 130 #[iV a,iV b] w λr w'=>r=.returned (iV (jm a b))/\w'=w:=by
 have HJ:Z (jm a b=if a=-1\/a=b then b else if b=-1 then a else -2):=rfl
 by_cases h1:a=-1
 ·have d1:(a==-1)=true:=by simpa using h1
  have HF:Z (b=jm a b):=by unfold Z;rw[HJ.o,if_pos (oL h1)]
  clear h1
  go_enter func130,ntmps130
  go_wp2
  go_ret
  exact⟨Qv HF.o,rfl⟩
 have d1:(a==-1)=false:=by simpa using h1
 by_cases h2:a=b
 ·have d2:(a==b)=true:=by simpa using h2
  have HF:Z (b=jm a b):=by unfold Z;rw[HJ.o,if_pos (oR h2)]
  clear h1 h2
  go_enter func130,ntmps130
  go_wp2
  go_ret
  exact⟨Qv HF.o,rfl⟩
 have d2:(a==b)=false:=by simpa using h2
 by_cases h3:b=-1
 ·have d3:(b==-1)=true:=by simpa using h3
  have HF:Z (a=jm a b):=by unfold Z;rw[HJ.o,if_neg (by rintro(h|h);exact h1 h;exact h2 h),if_pos h3]
  clear h1 h2 h3
  go_enter func130,ntmps130
  go_wp2
  go_ret
  exact⟨Qv HF.o,rfl⟩
 have d3:(b==-1)=false:=by simpa using h3
 have HF:Z (-2=jm a b):=by unfold Z;rw[HJ.o,if_neg (by rintro(h|h);exact h1 h;exact h2 h),if_neg h3]
 clear h1 h2 h3
 go_enter func130,ntmps130
 go_wp2
 go_ret
 exact⟨Qv HF.o,rfl⟩
theorem Q47 (e:Int):noE e=!W4 e:=by
 unfold noE W4
 by_cases h1:0<=e
 ·by_cases h2:e<4000
  ·simp[h1,h2]
  ·simp[h1,h2];omega
 ·simp[h1];omega
def Qao (zs:List Int):Bool:=Je zs.length (λj=>W4 (iat zs j))
theorem A0 (B:Nat)(v:Value)(zs:List Int)(w:World)(h0:Q8 B w v zs) :
  Calls prog 146 #[v,.func (.func 122) #[] #[]] w λe w'=>∃r:Int,e=.returned (iV r)/\decide (0<=r)=!Qao zs/\w'=w:=by
 obtain⟨a,cap,rfl,hn,hk⟩:=h0
 unfold maxLen at hn
 generalize hz:zs.length=n at *
 have HZ:Z (zs.length=n):=hz
 clear hz
 go_enter func146,ntmps146
 go_wp2
 go_loop [8] (λi=>∃k:Nat,k<=n/\i=iV k/\Z (Vn (λi=>W4 (iat zs i)) k)) (λi=>n-(intOf i).toNat)
 case atStart=>exact⟨0,nZ,rfl,J4 _⟩
 case round=>
  obtain⟨k,hkn,rfl,hrel⟩:=hrel
  by_cases hlt:k<n
  ·obtain⟨b,off,rfl,hB,hb,hc⟩:=hk (by omega)
   have hcc:=hc k hlt
   clear hc hk
   by_cases hin:W4 (iat zs k)=true
   ·have hno:noE (iat zs k)=false:=by rw[Q47,hin];rfl
    go_wp2_with (go_at_call 122;refine(Xk _ _).mono ?_;rintro e w' ⟨rfl,rfl⟩)
    go_round
    case rel=>exact⟨k+1,by omega,by go_num,Qr hrel hin⟩
    case measure=>simp[intOf];omega
   ·have hin':W4 (iat zs k)=false:=by simpa using hin
    have hno:noE (iat zs k)=true:=by rw[Q47,hin'];rfl
    go_wp2_with (go_at_call 122;refine(Xk _ _).mono ?_;rintro e w' ⟨rfl,rfl⟩)
    go_ret
    exact⟨k,rfl,by unfold Qao;rw[J2 (by rw[HZ.o];exact hlt) hin'];simp,rfl⟩
  ·go_wp2
   go_ret
   exact⟨-1,rfl,by unfold Qao;rw[Qz (by rw[HZ.o];omega) hrel];rfl,rfl⟩
theorem I9 (B:Nat)(v:Value)(zs:List Int)(w:World)(h0:Q8 B w v zs) :
  Calls prog 108 #[v,.func (.func 122) #[] #[]] w λe w'=>e=.returned (.bool (!Qao zs))/\w'=w:=by
 go_enter func108,ntmps108
 go_wp2_with fail
 refine(A0 B _ zs _ h0).mono ?_
 rintro e w' ⟨r,rfl,hr,rfl⟩
 go_wp2
 go_ret
 exact⟨rfl,rfl⟩
theorem E4 (B:Nat)(v:Value)(rs:List Ru)(w:World)(h0:X7 B w v rs) :
  Calls prog 79 #[v] w λe w'=>e=.returned (.bool (rgB rs))/\Nx w w':=by
 obtain⟨a,cap,rfl,hn,hk⟩:=h0
 unfold maxLen at hn
 generalize hz:rs.length=n at *
 have HZ:Z (rs.length=n):=hz
 clear hz
 by_cases e1:n<=1000
 case neg=>
  have d1:decide (1000<(n:Int))=true:=by simp;omega
  have HF:Z (false=rgB rs):=Qbf (by rw[HZ.o];exact e1)
  go_enter func79,ntmps79
  go_wp2
  go_ret
  exact⟨Q6 HF.o,Nx.refl _⟩
 have d1:decide (1000<(n:Int))=false:=by simp;omega
 go_enter func79,ntmps79
 go_wp2
 clear d1
 go_loopw [4,5,11] (λ_ _ i wr=>∃k:Nat,k<=n/\i=iV k/\Z (Vn (λi=>Kr (Qk rs i)) k)/\Z (Nx w wr)) (λ_ _ i _=>n-(intOf i).toNat)
 case atStart=>exact⟨0,nZ,rfl,J4 _,Nx.refl _⟩
 obtain⟨k,hkn,rfl,HA,HN⟩:=hrel
 by_cases hlt:k<n
 case neg=>
  have HF:Z (true=rgB rs):=Qbe HZ.o e1 (by omega) HA.o
  go_wp2
  go_ret
  exact⟨Q6 HF.o,HN.o⟩
 obtain⟨b,off,rfl,_,hb,hc⟩:=hk (by omega)
 obtain⟨sa,sc,c0',c1',c2',hS,hcap⟩:=hc k hlt
 have c0:=U9 HN.o c0'
 have c1:=U9 HN.o c1'
 have c2:=U9 HN.o c2'
 have hlt':(k:Int)<n:=by omega
 have HS:Z (Q8 B w (.slice sa (Qk rs k).seq.length sc) (Qk rs k).seq):=hS
 have HRG:Z (Kr (Qk rs k)=(decide (2<=(Qk rs k).seq.length)&&(decide ((Qk rs k).seq.length<=402)&&Qao (Qk rs k).seq))):=rfl
 have HNA:Z (Vn (λi=>Kr (Qk rs i)) k):=HA
 clear hc hk c0' c1' c2' hS HA
 generalize hx:Qk rs k=x at *
 have HX:Z (Qk rs k=x):=hx
 clear hx
 have hsn:x.seq.length<=maxLen:=by obtain⟨_,_,_,h,_⟩:=HS.o;exact h
 unfold maxLen at hsn
 generalize hm:x.seq.length=m at *
 have HM:Z (x.seq.length=m):=hm
 clear hm
 have HB1:Z (Nx wr (wr.alloc (.cells #[iV x.rel,.bool x.only,sL sa m sc] 126))):=Q4 _ _
 by_cases g1:2<=m
 case neg=>
  have f1:decide ((m:Int)<2)=true:=by simp;omega
  have HF:Z (false=rgB rs):=Ee HZ.o hlt (by rw[HX.o,HRG.o];simp[g1])
  go_wp2
  go_ret
  exact⟨Q6 HF.o,HN.o.trans HB1.o⟩
 have f1:decide ((m:Int)<2)=false:=by simp;omega
 by_cases g2:m<=402
 case neg=>
  have f2:decide (402<(m:Int))=true:=by simp;omega
  have HF:Z (false=rgB rs):=Ee HZ.o hlt (by rw[HX.o,HRG.o];simp[g2])
  go_wp2
  go_ret
  exact⟨Q6 HF.o,HN.o.trans HB1.o⟩
 have f2:decide (402<(m:Int))=false:=by simp;omega
 go_wp2_with fail
 refine(I9 B _ x.seq _ (by exact(HS.o.next HN.o).next HB1.o)).mono ?_
 rintro e w1 ⟨rfl,rfl⟩
 cases g3:Qao x.seq
 case false=>
  have HF:Z (false=rgB rs):=Ee HZ.o hlt (by rw[HX.o,HRG.o,g3];simp)
  clear g3
  go_wp2
  go_ret
  exact⟨Q6 HF.o,HN.o.trans HB1.o⟩
 case true=>
  have HF:Z (Kr x=true):=by unfold Z;rw[HRG.o,g3];simp[g1,g2]
  clear g3
  go_wp2
  go_roundw
  case rel=>exact⟨k+1,by omega,by go_num,Qr HNA.o (by show Kr (Qk rs k)=true;rw[HX.o];exact HF.o),HN.o.trans HB1.o⟩
  case measure=>simp[intOf];omega
theorem Q3x {ws:List (List Int)}(ha:Y2 ws)(y:List Int):∃i,i<=ws.length/\Xf ws y i i:=by
 have key:∀n,n<=ws.length->∃i,i<=n/\(∀j,j<i->Vv (wd ws j) y=true)/\(i<n->Vv (wd ws i) y=false):=by
  intro n
  induction n with
  |zero=>exact λ_=>⟨0,lR,λj hj=>by omega,λh=>by omega⟩
  |succ n ih=>
   intro hn
   obtain⟨i,h1,h2,h3⟩:=ih (by omega)
   by_cases c:i<n
   ·exact⟨i,by omega,h2,λ_=>h3 c⟩
   ·have e:i=n:=by omega
    subst e
    cases hb:Vv (wd ws i) y with
    |true=>exact⟨i+1,lR,λj hj=>by
      by_cases e:j=i
      ·subst e;exact hb
      ·exact h2 j (by omega),λh=>by omega⟩
    |false=>exact⟨i,by omega,h2,λ_=>hb⟩
 obtain⟨i,h1,h2,h3⟩:=key ws.length lR
 refine⟨i,h1,h2,λj hj hl=>?_⟩
 by_cases e:j=i
 ·subst e;exact h3 hl
 ·cases hb:Vv (wd ws j) y with
  |false=>rfl
  |true=>
   have:=Za (ha i j (by omega) hl) hb
   rw[h3 (by omega)] at this
   cases this
theorem Q4m {ws:List (List Int)}{bl:List Int->Nat}{x:List Int}{e:Int}{c:Nat}(h:Y8 (Ja ws bl x) e=some c):inW ws (x++[e])/\c=bl (x++[e]):=by
 unfold Y8 at h
 rw[Option.map_eq_some_iff] at h
 obtain⟨p,hp,rfl⟩:=h
 have h1:=List.find?_some hp
 have h2:=List.mem_of_find?_eq_some hp
 unfold Ja at h2
 obtain⟨y,hy,rfl⟩:=List.mem_map.1 h2
 rw[yB] at hy
 simp[Wi] at h1 hy
 have e1:y=x++[e]:=by rw[Kp hy.2.1,hy.2.2,h1]
 subst e1
 exact⟨En.1 hy.1,rfl⟩
theorem Q8e {ws:List (List Int)}{bl:List Int->Nat}{x:List Int}{e:Int}(h:Y8 (Ja ws bl x) e=none):¬inW ws (x++[e]):=by
 intro hi
 unfold Y8 at h
 rw[Option.map_eq_none_iff,List.find?_eq_none] at h
 have:=h (e,bl (x++[e])) (by
  unfold Ja
  refine List.mem_map.2 ⟨x++[e],?_,by rw[T4]⟩
  rw[yB,Ew]
  exact⟨En.2 hi,by simp⟩)
 simp at this
def muP (x:Ru)(mu:List Int->Int):List Int->Int:=if x.only=true then upW mu (x.seq.take (Xs x)) (jm (mu (x.seq.take (Xs x))) (iat x.seq (x.seq.length-1))) else mu
def bdP (x:Ru)(bd:List Int->Bool):List Int->Bool:=if x.only=true then bd else upW bd (x.seq.take (Xs x)) true
structure PQ (x:Ru)(q:Nat)(ws:List (List Int))(mu:List Int->Int)(bd:List Int->Bool)(bl:List Int->Nat)(w0 w:World)(ws':List (List Int))(bl':List Int->Nat)(mv':List Int->Value)(d gb:Nat)(cs:Array Value):Prop where
 pt:PT ws' mu bd w0.heap.size w bl' mv'
 ok:WS ws'
 mem:∀y,inW ws' y↔inW ws y\/∃t,1<=t/\t<=q/\y=x.seq.take t
 len:ws'.length=ws.length+d
 dq:d<=q
 root:bl' []=bl []
 nx:Nx w0 w
 box:Blk w gb cs
theorem PQ.at {x:Ru}{q:Nat}{ws:List (List Int)}{mu:List Int->Int}{bd:List Int->Bool}{bl:List Int->Nat}{w0 w:World}{ws':List (List Int)}{bl':List Int->Nat}{mv':List Int->Value}{d gb:Nat}{cs:Array Value}(h:PQ x q ws mu bd bl w0 w ws' bl' mv' d gb cs):inW ws' (x.seq.take q):=by
 by_cases c:q=0
 ·subst c;exact h.ok.nil
 ·exact(h.mem _).2 (oR ⟨q,by omega,lR,rfl⟩)
theorem Kk {s:List Int}{q:Nat}(h:q<s.length):s.take q++[iat s q]=s.take (q+1):=by
 rw[zR h,Vl h]
theorem PQ.old {x:Ru}{q:Nat}{ws:List (List Int)}{mu:List Int->Int}{bd:List Int->Bool}{bl:List Int->Nat}{w0 w:World}{ws':List (List Int)}{bl':List Int->Nat}{mv':List Int->Value}{d gb:Nat}{cs:Array Value}(h:PQ x q ws mu bd bl w0 w ws' bl' mv' d gb cs)(hi:inW ws' (x.seq.take (q+1))):PQ x (q+1) ws mu bd bl w0 w ws' bl' mv' d gb cs:=by
 refine⟨h.pt,h.ok,λy=>?_,h.len,by have:=h.dq;omega,h.root,h.nx,h.box⟩
 constructor
 ·intro hy
  rcases (h.mem y).1 hy with h1|⟨t,h1,h2,h3⟩
  ·exact oL h1
  ·exact oR ⟨t,h1,by omega,h3⟩
 ·rintro(h1|⟨t,h1,h2,h3⟩)
  ·exact(h.mem y).2 (oL h1)
  ·by_cases e:t=q+1
   ·subst e;rw[h3];exact hi
   ·exact(h.mem y).2 (oR ⟨t,h1,by omega,h3⟩)
theorem Qhl {w:World}{b b':Nat}{cs cs':Array Value}(h:Blk w b cs)(h':Blk w b' cs')(hs:cs.size≠cs'.size):b≠b':=by
 intro e
 subst e
 obtain⟨t,h1⟩:=h
 obtain⟨t',h2⟩:=h'
 rw[h1] at h2
 simp at h2
 exact hs (by rw[h2.1])
theorem PQ.grown {x:Ru}{q:Nat}{ws:List (List Int)}{mu:List Int->Int}{bd:List Int->Bool}{bl:List Int->Nat}{w0 w w':World}{ws':List (List Int)}{bl':List Int->Nat}{mv':List Int->Value}{d gb i:Nat}{cs:Array Value}(h:PQ x q ws mu bd bl w0 w ws' bl' mv' d gb cs)(hq:q<x.seq.length)(he:0<=iat x.seq q/\iat x.seq q<4000)(hn:¬inW ws' (x.seq.take (q+1)))(hi:i<=ws'.length)(hp:Xf ws' (x.seq.take q++[iat x.seq q]) i i)(hmu:∀y,¬inW ws y->mu y=-1)(hbd:∀y,¬inW ws y->bd y=false)(hcs:cs.size≠8){m':Value}
  (b1:Blk w' w.heap.size (node 0 ((x.seq.take q).length+1) (iat x.seq q) (-1) false (ptr (bl' (x.seq.take q))) (.pointer none) (.map none)))
  (b2:Blk w' (bl' (x.seq.take q)) (node 0 (x.seq.take q).length (Jv (x.seq.take q)) (mu (x.seq.take q)) (bd (x.seq.take q)) (if x.seq.take q=[] then .pointer none else ptr (bl' (x.seq.take q).dropLast)) (.pointer none) m'))
  (b3:MK w' m' (Ja (ws'.take i) bl' (x.seq.take q)++(iat x.seq q,w.heap.size)::Ja (ws'.drop i) bl' (x.seq.take q))) (b4:Jq m'=Jq (mv' (x.seq.take q))\/Jq m'=some (w.heap.size+1)) (b5:But (some (bl' (x.seq.take q))) (Jq (mv' (x.seq.take q))) w w') :
  ∃ws2 bl2 mv2,PQ x (q+1) ws mu bd bl w0 w' ws2 bl2 mv2 (d+1) gb cs/\bl2 (x.seq.take (q+1))=w.heap.size:=by
 have hup:=Kk hq
 have hn':¬inW ws' (x.seq.take q++[iat x.seq q]):=by rw[hup];exact hn
 have hnw:¬inW ws (x.seq.take q++[iat x.seq q]):=λh1=>hn' ((h.mem _).2 (oL h1))
 have hI:Q0f ws' (x.seq.take q++[iat x.seq q]) (Zp ws' i (x.seq.take q++[iat x.seq q])):=oR ⟨hn',i,hi,hp,rfl⟩
 have hG:=h.pt.grow h.at hn' h.ok.down hi hp (hmu _ hnw) (hbd _ hnw) h.nx.size b1 b2 b3 b4 b5
 have hin:∀y,inW (Zp ws' i (x.seq.take q++[iat x.seq q])) y↔y=x.seq.take (q+1)\/inW ws' y:=λy=>by rw[hI.mem y,hup]
 refine⟨_,_,_,⟨hG,⟨hI.asc h.ok.asc,(hin _).2 (oR h.ok.nil),λy e hy=>?_,λy e hy=>?_⟩,λy=>?_,?_,by have:=h.dq;omega,?_,?_,?_⟩,?_⟩
 ·rcases (hin _).1 hy with h1|h1
  ·rw[<-hup] at h1
   have:=List.append_inj_left' h1 rfl
   rw[this]
   exact(hin _).2 (oR h.at)
  ·exact(hin _).2 (oR (h.ok.down _ _ h1))
 ·rcases (hin _).1 hy with h1|h1
  ·rw[<-hup] at h1
   have:=List.append_inj_right' h1 rfl
   simp at this
   rw[this]
   exact he
  ·exact h.ok.edge _ _ h1
 ·rw[hin]
  constructor
  ·rintro(h1|h1)
   ·exact oR ⟨q+1,by omega,lR,h1⟩
   ·rcases (h.mem y).1 h1 with h2|⟨t,h2,h3,h4⟩
    ·exact oL h2
    ·exact oR ⟨t,h2,by omega,h4⟩
  ·rintro(h1|⟨t,h1,h2,h3⟩)
   ·exact oR ((h.mem y).2 (oL h1))
   ·by_cases e:t=q+1
    ·subst e;exact oL h3
    ·exact oR ((h.mem y).2 (oR ⟨t,h1,by omega,h3⟩))
 ·rw[Yg _ hi,h.len];omega
 ·rw[Vr _ _ (by simp)];exact h.root
 ·exact b5.below h.nx h.nx.size (λg e=>by cases e;exact h.pt.ge _ h.at) (λg e=>h.pt.mge _ g h.at e)
 ·refine h.box.keep b5 (λe=>?_) (λe=>?_)
  ·exact Qhl h.box (h.pt.nd _ h.at) (by simpa [node] using hcs) (zF e)
  ·exact(h.pt.kd _ h.at).ne e.symm h.box rfl
 ·rw[<-hup,Yn]
def PlE (x:Ru)(ws:List (List Int))(mu:List Int->Int)(bd:List Int->Bool)(bl:List Int->Nat)(w0 w':World)(r:Ending):Prop:=
 ∃ws' bl' mv' d,r=.returned (.int .i64 ((d:Nat):Int))/\PT ws' (muP x mu) (bdP x bd) w0.heap.size w' bl' mv'/\WS ws'/\(∀y,inW ws' y↔inW ws y\/∃t,1<=t/\t<=Xs x/\y=x.seq.take t)/\ws'.length=ws.length+d/\d<=402/\bl' []=bl []/\Nx w0 w'
theorem Qbs (B:Nat)(x:Ru)(sa:Option Addr)(p sc:Nat)(ws:List (List Int))(mu:List Int->Int)(bd:List Int->Bool)(bl:List Int->Nat)(mv:List Int->Value)(w0 w:World)(P:PT ws mu bd w0.heap.size w bl mv)(W:WS ws)(hN:Nx w0 w)(hl:x.seq.length=p+1)(hS:Q8 B w0 (.slice sa (p+1) sc) x.seq)(hp0:1<=p)(hp4:p+1<=402)(hcap:p+1<=sc)(he:∀j,j<x.seq.length->0<=iat x.seq j/\iat x.seq j<4000)(hws:ws.length<=2000)(hmu:∀y,¬inW ws y->mu y=-1)(hbd:∀y,¬inW ws y->bd y=false)(ho:x.only=false) :
  Calls prog 124 #[ptr (bl []),.agg #[.int .i64 x.rel,.bool false,.slice sa (p+1) sc]] w λr w'=>PlE x ws mu bd bl w0 w' r:=by
 have HO:Z (x.only=false):=ho
 have HM:Z (Xs x=(p+1)):=by unfold Z Xs;rw[ho,hl];rfl
 have HE:Z (∀j,j<x.seq.length->0<=iat x.seq j/\iat x.seq j<4000):=he
 have HMU:Z (∀y,¬inW ws y->mu y=-1):=hmu
 have HBD:Z (∀y,¬inW ws y->bd y=false):=hbd
 have HL:Z (x.seq.length=p+1):=hl
 have HWS:Z (ws.length<=2000):=hws
 have HB0:Z (Blk (w.alloc (.cells #[.int .i64 x.rel,.bool false,.slice sa (p+1) sc] 126)) w.heap.size #[.int .i64 x.rel,.bool false,.slice sa (p+1) sc]):=Blk.new w _ _ _ rfl
 have HQ0:Z (PQ x 0 ws mu bd bl w0 (w.alloc (.cells #[.int .i64 x.rel,.bool false,.slice sa (p+1) sc] 126)) ws bl mv 0 w.heap.size #[.int .i64 x.rel,.bool false,.slice sa (p+1) sc]):=
  ⟨P.next (Q4 _ _),W,λy=>⟨Or.inl,λh=>h.elim id λ⟨t,h1,h2,_⟩=>by omega⟩,rfl,lR,rfl,hN.alloc _,HB0.o⟩
 obtain⟨sa',sc',e',hsn,hsk⟩:=hS
 simp only[zC] at e'
 obtain⟨rfl,hqq,rfl⟩:=e'
 rw[HL.o] at hsk
 obtain⟨bq,oq,rfl,_,hbq,hcq⟩:=hsk (by omega)
 have HCQ:Z (∀i,i<p+1->w0.cell? ⟨bq,oq+i,none⟩=some (.int .i64 (iat x.seq i))):=hcq
 have wp1:IntKind.i64.wrap ((p:Int)+1-1)=(p:Int):=by rw[IntKind.wrap_i64];omega
 have wp2:((p:Int)+1-1)=(p:Int):=by omega
 have wp3:=Yk p (by omega)
 have hpc:(p:Int)<=sc:=by omega
 have k1:(w.alloc (.cells #[.int .i64 x.rel,.bool false,.slice (some ⟨bq,oq,none⟩) (p+1) sc] 126)).cell? ⟨w.heap.size,1,none⟩=some (.bool false):=HB0.o.c 1 rfl
 have k2:(w.alloc (.cells #[.int .i64 x.rel,.bool false,.slice (some ⟨bq,oq,none⟩) (p+1) sc] 126)).cell? ⟨w.heap.size,2,none⟩=some (.slice (some ⟨bq,oq,none⟩) (p+1) sc):=HB0.o.c 2 rfl
 clear hqq hcq hsk hsn hmu hbd he hl ho P W hN hws
 unfold ptr
 go_enter func124,ntmps124
 go_wp2
 clear k1 k2
 go_loopw [7,8,10,11,25] (λe7 e8 _ _ i wr=>∃(q d:Nat) (ws':List (List Int)) (bl':List Int->Nat) (mv':List Int->Value),q<=(p+1)/\i=.int .i64 q/\e7=.pointer (some ⟨bl' (x.seq.take q),0,none⟩)/\e8=.int .i64 d/\Z (PQ x q ws mu bd bl w0 wr ws' bl' mv' d w.heap.size #[.int .i64 x.rel,.bool false,.slice (some ⟨bq,oq,none⟩) (p+1) sc])) (λ_ _ _ _ i _=>(p+1)-(intOf i).toNat)
 case atStart=>exact⟨0,0,ws,bl,mv,by omega,rfl,rfl,rfl,HQ0⟩
 clear HQ0 HB0
 obtain⟨q,d,ws',bl',mv',hqp,rfl,rfl,rfl,HQ⟩:=hrel
 have HAT:Z (inW ws' (x.seq.take q)):=HQ.o.at
 have hdq:=HQ.o.dq
 by_cases hlt:q<(p+1)
 ·have hlt':(q:Int)<((p:Int)+1):=by omega
  have hlt2:(q:Int)<(p:Int)+1:=by omega
  have HQL:Z (q<x.seq.length):=by unfold Z;rw[HL.o];omega
  have x0:=Q0 HQ.o.nx hbq (HCQ.o q (by omega))
  have ND:=HQ.o.pt.nd _ HAT.o
  have k7:wr.cell? ⟨bl' (x.seq.take q),7,none⟩=some (mv' (x.seq.take q)):=ND.c 7 rfl
  have HND:Z (Blk wr (bl' (x.seq.take q)) (node 0 (x.seq.take q).length (Jv (x.seq.take q)) (mu (x.seq.take q)) (bd (x.seq.take q)) (if x.seq.take q=[] then .pointer none else ptr (bl' (x.seq.take q).dropLast)) (.pointer none) (mv' (x.seq.take q)))):=ND
  have hw:(Lit.int .i64 (iat x.seq q)).wf=true:=Kg (HE.o q HQL.o).1 (HE.o q HQL.o).2
  have hlk:=(HQ.o.pt.kd _ HAT.o).look hw
  have HWF:Z ((Lit.int .i64 (iat x.seq q)).wf=true):=hw
  clear ND hw
  cases hk:Y8 (Ja ws' bl' (x.seq.take q)) (iat x.seq q) with
  |some c=>
   have hy:=Q4m hk
   rw[Kk HQL.o] at hy
   have HQ2:Z (PQ x (q+1) ws mu bd bl w0 wr ws' bl' mv' d w.heap.size #[.int .i64 x.rel,.bool false,.slice (some ⟨bq,oq,none⟩) (p+1) sc]):=HQ.o.old hy.1
   have HC:Z (c=bl' (x.seq.take (q+1))):=hy.2
   rw[hk] at hlk
   simp only[Q22,ptr] at hlk
   clear hk hy HND HWF
   go_wp2
   go_roundw
   case rel=>exact⟨q+1,d,ws',bl',mv',by omega,by go_num,by rw[HC.o],rfl,HQ2⟩
   case measure=>simp[intOf];omega
  |none=>
   have hy:=Q8e hk
   obtain⟨i,hi,hp⟩:=Q3x HQ.o.ok.asc (x.seq.take q++[iat x.seq q])
   have hsp:=Ev (bl:=bl') hi hp hy
   have HMK:Z (MK wr (mv' (x.seq.take q)) (Ja (ws'.take i) bl' (x.seq.take q)++Ja (ws'.drop i) bl' (x.seq.take q))):=by rw[<-hsp.1];exact HQ.o.pt.kd _ HAT.o
   have HSP:Z ((∀p∈Ja (ws'.take i) bl' (x.seq.take q),p.1<iat x.seq q)/\∀p∈Ja (ws'.drop i) bl' (x.seq.take q),iat x.seq q<p.1):=hsp.2
   have HKL:Z ((Ja (ws'.take i) bl' (x.seq.take q)++Ja (ws'.drop i) bl' (x.seq.take q)).length<=4000):=by
    unfold Z
    rw[<-hsp.1]
    have:=Q17 ws' bl' (x.seq.take q)
    have:=HQ.o.len
    have:=HWS.o
    omega
   have HI:Z (i<=ws'.length):=hi
   have HP:Z (Xf ws' (x.seq.take q++[iat x.seq q]) i i):=hp
   have HY:Z (¬inW ws' (x.seq.take (q+1))):=by rw[<-Kk HQL.o];exact hy
   have HTL:Z ((x.seq.take q).length<=402):=by unfold Z;rw[yC];omega
   rw[hk] at hlk
   simp only[Q22] at hlk
   clear hk hy hi hp hsp
   go_wp2_with fail
   refine(Aa _ _ _ _ _ _ _ _ _ _ _ (iat x.seq q) wr HND.o HMK.o HSP.o HKL.o (by omega) (by have:=HTL.o;omega) HWF.o).mono ?_
   rintro r w5 ⟨m',rfl,b1,b2,b3,b4,b5⟩
   obtain⟨ws2,bl2,mv2,hpq,hbl⟩:=HQ.o.grown HQL.o (HE.o q HQL.o) HY.o HI.o HP.o HMU.o HBD.o (by simp) b1 b2 b3 b4 b5
   have HPQ:Z (PQ x (q+1) ws mu bd bl w0 w5 ws2 bl2 mv2 (d+1) w.heap.size #[.int .i64 x.rel,.bool false,.slice (some ⟨bq,oq,none⟩) (p+1) sc]):=hpq
   have HBL:Z (bl2 (x.seq.take (q+1))=wr.heap.size):=hbl
   clear b1 b2 b3 b4 b5 hpq hbl hlk k7 x0
   unfold ptr
   go_wp2
   go_roundw
   case rel=>exact⟨q+1,d+1,ws2,bl2,mv2,by omega,by go_num,by rw[HBL.o],by go_num,HPQ⟩
   case measure=>simp[intOf];omega
 ·have eq:q=(p+1):=by omega
  have hnl:¬(q:Int)<((p:Int)+1):=by omega
  have HQM:Z (q=Xs x):=by rw[HM.o];exact eq
  have HMEM:Z (∀y,inW ws' y↔inW ws y\/∃t,1<=t/\t<=Xs x/\y=x.seq.take t):=λy=>by rw[<-HQM.o];exact HQ.o.mem y
  have z1:wr.cell? ⟨w.heap.size,1,none⟩=some (.bool false):=HQ.o.box.c 1 rfl
  have ND:=HQ.o.pt.nd _ HAT.o
  have k4:wr.cell? ⟨bl' (x.seq.take q),4,none⟩=some (.bool (bd (x.seq.take q))):=ND.c 4 rfl
  have f4:=ND.frozen 4
  have HFIN:Z (PT ws' (muP x mu) (bdP x bd) w0.heap.size (wr.setCell ⟨bl' (x.seq.take q),4,none⟩ (.bool true)) bl' mv'):=by
   have h1:=HQ.o.pt.ban HAT.o true
   unfold Z
   rw[show muP x mu=mu by unfold muP;rw[HO.o];rfl,show bdP x bd=upW bd (x.seq.take q) true by unfold bdP;rw[HO.o,<-HQM.o];rfl]
   exact h1
  have HNX:Z (Nx w0 (wr.setCell ⟨bl' (x.seq.take q),4,none⟩ (.bool true))):=Below.setCell HQ.o.nx (HQ.o.pt.ge _ HAT.o) _
  have HD4:Z (d<=402):=by unfold Z;omega
  clear ND eq hlt
  generalize bl' (x.seq.take q)=bx at *
  go_wp2
  go_ret
  exact⟨ws',bl',mv',d,rfl,HFIN.o,HQ.o.ok,HMEM.o,HQ.o.len,HD4.o,HQ.o.root,HNX.o⟩
theorem Q6e (B:Nat)(x:Ru)(sa:Option Addr)(p sc:Nat)(ws:List (List Int))(mu:List Int->Int)(bd:List Int->Bool)(bl:List Int->Nat)(mv:List Int->Value)(w0 w:World)(P:PT ws mu bd w0.heap.size w bl mv)(W:WS ws)(hN:Nx w0 w)(hl:x.seq.length=p+1)(hS:Q8 B w0 (.slice sa (p+1) sc) x.seq)(hp0:1<=p)(hp4:p+1<=402)(hcap:p+1<=sc)(he:∀j,j<x.seq.length->0<=iat x.seq j/\iat x.seq j<4000)(hws:ws.length<=2000)(hmu:∀y,¬inW ws y->mu y=-1)(hbd:∀y,¬inW ws y->bd y=false)(ho:x.only=true) :
  Calls prog 124 #[ptr (bl []),.agg #[.int .i64 x.rel,.bool true,.slice sa (p+1) sc]] w λr w'=>PlE x ws mu bd bl w0 w' r:=by
 have HO:Z (x.only=true):=ho
 have HM:Z (Xs x=p):=by unfold Z Xs;rw[ho,hl];rfl
 have HE:Z (∀j,j<x.seq.length->0<=iat x.seq j/\iat x.seq j<4000):=he
 have HMU:Z (∀y,¬inW ws y->mu y=-1):=hmu
 have HBD:Z (∀y,¬inW ws y->bd y=false):=hbd
 have HL:Z (x.seq.length=p+1):=hl
 have HWS:Z (ws.length<=2000):=hws
 have HB0:Z (Blk (w.alloc (.cells #[.int .i64 x.rel,.bool true,.slice sa (p+1) sc] 126)) w.heap.size #[.int .i64 x.rel,.bool true,.slice sa (p+1) sc]):=Blk.new w _ _ _ rfl
 have HQ0:Z (PQ x 0 ws mu bd bl w0 (w.alloc (.cells #[.int .i64 x.rel,.bool true,.slice sa (p+1) sc] 126)) ws bl mv 0 w.heap.size #[.int .i64 x.rel,.bool true,.slice sa (p+1) sc]):=
  ⟨P.next (Q4 _ _),W,λy=>⟨Or.inl,λh=>h.elim id λ⟨t,h1,h2,_⟩=>by omega⟩,rfl,lR,rfl,hN.alloc _,HB0.o⟩
 obtain⟨sa',sc',e',hsn,hsk⟩:=hS
 simp only[zC] at e'
 obtain⟨rfl,hqq,rfl⟩:=e'
 rw[HL.o] at hsk
 obtain⟨bq,oq,rfl,_,hbq,hcq⟩:=hsk (by omega)
 have HCQ:Z (∀i,i<p+1->w0.cell? ⟨bq,oq+i,none⟩=some (.int .i64 (iat x.seq i))):=hcq
 have wp1:IntKind.i64.wrap ((p:Int)+1-1)=(p:Int):=by rw[IntKind.wrap_i64];omega
 have wp2:((p:Int)+1-1)=(p:Int):=by omega
 have wp3:=Yk p (by omega)
 have hpc:(p:Int)<=sc:=by omega
 have k1:(w.alloc (.cells #[.int .i64 x.rel,.bool true,.slice (some ⟨bq,oq,none⟩) (p+1) sc] 126)).cell? ⟨w.heap.size,1,none⟩=some (.bool true):=HB0.o.c 1 rfl
 have k2:(w.alloc (.cells #[.int .i64 x.rel,.bool true,.slice (some ⟨bq,oq,none⟩) (p+1) sc] 126)).cell? ⟨w.heap.size,2,none⟩=some (.slice (some ⟨bq,oq,none⟩) (p+1) sc):=HB0.o.c 2 rfl
 clear hqq hcq hsk hsn hmu hbd he hl ho P W hN hws
 unfold ptr
 go_enter func124,ntmps124
 go_wp2
 clear k1 k2
 go_loopw [7,8,10,11,25] (λe7 e8 _ _ i wr=>∃(q d:Nat) (ws':List (List Int)) (bl':List Int->Nat) (mv':List Int->Value),q<=p/\i=.int .i64 q/\e7=.pointer (some ⟨bl' (x.seq.take q),0,none⟩)/\e8=.int .i64 d/\Z (PQ x q ws mu bd bl w0 wr ws' bl' mv' d w.heap.size #[.int .i64 x.rel,.bool true,.slice (some ⟨bq,oq,none⟩) (p+1) sc])) (λ_ _ _ _ i _=>p-(intOf i).toNat)
 case atStart=>exact⟨0,0,ws,bl,mv,by omega,rfl,rfl,rfl,HQ0⟩
 clear HQ0 HB0
 obtain⟨q,d,ws',bl',mv',hqp,rfl,rfl,rfl,HQ⟩:=hrel
 have HAT:Z (inW ws' (x.seq.take q)):=HQ.o.at
 have hdq:=HQ.o.dq
 by_cases hlt:q<p
 ·have hlt':(q:Int)<(p:Int):=by omega
  have hlt2:(q:Int)<(p:Int)+1:=by omega
  have HQL:Z (q<x.seq.length):=by unfold Z;rw[HL.o];omega
  have x0:=Q0 HQ.o.nx hbq (HCQ.o q (by omega))
  have ND:=HQ.o.pt.nd _ HAT.o
  have k7:wr.cell? ⟨bl' (x.seq.take q),7,none⟩=some (mv' (x.seq.take q)):=ND.c 7 rfl
  have HND:Z (Blk wr (bl' (x.seq.take q)) (node 0 (x.seq.take q).length (Jv (x.seq.take q)) (mu (x.seq.take q)) (bd (x.seq.take q)) (if x.seq.take q=[] then .pointer none else ptr (bl' (x.seq.take q).dropLast)) (.pointer none) (mv' (x.seq.take q)))):=ND
  have hw:(Lit.int .i64 (iat x.seq q)).wf=true:=Kg (HE.o q HQL.o).1 (HE.o q HQL.o).2
  have hlk:=(HQ.o.pt.kd _ HAT.o).look hw
  have HWF:Z ((Lit.int .i64 (iat x.seq q)).wf=true):=hw
  clear ND hw
  cases hk:Y8 (Ja ws' bl' (x.seq.take q)) (iat x.seq q) with
  |some c=>
   have hy:=Q4m hk
   rw[Kk HQL.o] at hy
   have HQ2:Z (PQ x (q+1) ws mu bd bl w0 wr ws' bl' mv' d w.heap.size #[.int .i64 x.rel,.bool true,.slice (some ⟨bq,oq,none⟩) (p+1) sc]):=HQ.o.old hy.1
   have HC:Z (c=bl' (x.seq.take (q+1))):=hy.2
   rw[hk] at hlk
   simp only[Q22,ptr] at hlk
   clear hk hy HND HWF
   go_wp2
   go_roundw
   case rel=>exact⟨q+1,d,ws',bl',mv',by omega,by go_num,by rw[HC.o],rfl,HQ2⟩
   case measure=>simp[intOf];omega
  |none=>
   have hy:=Q8e hk
   obtain⟨i,hi,hp⟩:=Q3x HQ.o.ok.asc (x.seq.take q++[iat x.seq q])
   have hsp:=Ev (bl:=bl') hi hp hy
   have HMK:Z (MK wr (mv' (x.seq.take q)) (Ja (ws'.take i) bl' (x.seq.take q)++Ja (ws'.drop i) bl' (x.seq.take q))):=by rw[<-hsp.1];exact HQ.o.pt.kd _ HAT.o
   have HSP:Z ((∀p∈Ja (ws'.take i) bl' (x.seq.take q),p.1<iat x.seq q)/\∀p∈Ja (ws'.drop i) bl' (x.seq.take q),iat x.seq q<p.1):=hsp.2
   have HKL:Z ((Ja (ws'.take i) bl' (x.seq.take q)++Ja (ws'.drop i) bl' (x.seq.take q)).length<=4000):=by
    unfold Z
    rw[<-hsp.1]
    have:=Q17 ws' bl' (x.seq.take q)
    have:=HQ.o.len
    have:=HWS.o
    omega
   have HI:Z (i<=ws'.length):=hi
   have HP:Z (Xf ws' (x.seq.take q++[iat x.seq q]) i i):=hp
   have HY:Z (¬inW ws' (x.seq.take (q+1))):=by rw[<-Kk HQL.o];exact hy
   have HTL:Z ((x.seq.take q).length<=402):=by unfold Z;rw[yC];omega
   rw[hk] at hlk
   simp only[Q22] at hlk
   clear hk hy hi hp hsp
   go_wp2_with fail
   refine(Aa _ _ _ _ _ _ _ _ _ _ _ (iat x.seq q) wr HND.o HMK.o HSP.o HKL.o (by omega) (by have:=HTL.o;omega) HWF.o).mono ?_
   rintro r w5 ⟨m',rfl,b1,b2,b3,b4,b5⟩
   obtain⟨ws2,bl2,mv2,hpq,hbl⟩:=HQ.o.grown HQL.o (HE.o q HQL.o) HY.o HI.o HP.o HMU.o HBD.o (by simp) b1 b2 b3 b4 b5
   have HPQ:Z (PQ x (q+1) ws mu bd bl w0 w5 ws2 bl2 mv2 (d+1) w.heap.size #[.int .i64 x.rel,.bool true,.slice (some ⟨bq,oq,none⟩) (p+1) sc]):=hpq
   have HBL:Z (bl2 (x.seq.take (q+1))=wr.heap.size):=hbl
   clear b1 b2 b3 b4 b5 hpq hbl hlk k7 x0
   unfold ptr
   go_wp2
   go_roundw
   case rel=>exact⟨q+1,d+1,ws2,bl2,mv2,by omega,by go_num,by rw[HBL.o],by go_num,HPQ⟩
   case measure=>simp[intOf];omega
 ·have eq:q=p:=by omega
  have hnl:¬(q:Int)<(p:Int):=by omega
  have HQM:Z (q=Xs x):=by rw[HM.o];exact eq
  have HMEM:Z (∀y,inW ws' y↔inW ws y\/∃t,1<=t/\t<=Xs x/\y=x.seq.take t):=λy=>by rw[<-HQM.o];exact HQ.o.mem y
  have z1:wr.cell? ⟨w.heap.size,1,none⟩=some (.bool true):=HQ.o.box.c 1 rfl
  have z2:wr.cell? ⟨w.heap.size,2,none⟩=some (.slice (some ⟨bq,oq,none⟩) (p+1) sc):=HQ.o.box.c 2 rfl
  have x0:=Q0 HQ.o.nx hbq (HCQ.o p (by omega))
  have hpp:(p:Int)<(p:Int)+1:=by omega
  have ND:=HQ.o.pt.nd _ HAT.o
  have k3:wr.cell? ⟨bl' (x.seq.take q),3,none⟩=some (.int .i64 (mu (x.seq.take q))):=ND.c 3 rfl
  have f3:=ND.frozen 3
  have HFIN:Z (PT ws' (muP x mu) (bdP x bd) w0.heap.size (wr.setCell ⟨bl' (x.seq.take q),3,none⟩ (.int .i64 (jm (mu (x.seq.take q)) (iat x.seq p)))) bl' mv'):=by
   have h1:=HQ.o.pt.ask HAT.o (jm (mu (x.seq.take q)) (iat x.seq p))
   unfold Z
   rw[show muP x mu=upW mu (x.seq.take q) (jm (mu (x.seq.take q)) (iat x.seq p)) by unfold muP;rw[if_pos HO.o,<-HQM.o,HL.o];rfl,show bdP x bd=bd by unfold bdP;rw[if_pos HO.o]]
   exact h1
  have HNX:Z (Nx w0 (wr.setCell ⟨bl' (x.seq.take q),3,none⟩ (.int .i64 (jm (mu (x.seq.take q)) (iat x.seq p))))):=Below.setCell HQ.o.nx (HQ.o.pt.ge _ HAT.o) _
  have HD4:Z (d<=402):=by unfold Z;omega
  clear ND eq hlt
  generalize mu (x.seq.take q)=m0 at *
  generalize iat x.seq p=l0 at *
  generalize bl' (x.seq.take q)=bx at *
  go_wp2
  go_region_with (go_at_call 130;refine(Pu _ _ _).mono ?_;rintro e w6 ⟨rfl,rfl⟩)
  all_goals go_wp2
  all_goals go_ret
  all_goals exact⟨ws',bl',mv',d,rfl,HFIN.o.next (Nx.refl _).drew,HQ.o.ok,HMEM.o,HQ.o.len,HD4.o,HQ.o.root,HNX.o.drew⟩
end Go.Proofs.YtahpodmokbdjeaaGreatDoor
