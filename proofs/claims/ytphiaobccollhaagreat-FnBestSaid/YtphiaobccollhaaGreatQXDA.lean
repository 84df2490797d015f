import Derived.Test.YtphiaobccollhaaGreatQXCA
import Derived.Test.YtphiaobccollhaaGreatQXAI
namespace Go.Proofs.YtphiaobccollhaaGreat
open Go.RowKit Go.Maps
set_option linter.unusedVariables false
set_option maxRecDepth 1000000
set_option maxHeartbeats 16000000
variable {E x:List Int}{us ws:List (List Int)}{i k s v:Nat}{a c:Int}{rs:List Ru}
structure WS (ws:List (List Int)):Prop where
 asc:U1 ws
 nil:inW ws []
 down:∀x e,inW ws (x++[e])->inW ws x
 edge:∀x e,inW ws (x++[e])->0<=e/\e<4000
def Vs (x:List Int):Int:=x.getLast?.getD (-1)
theorem Q5w (x:List Int)(e:Int):Vs (x++[e])=e:=by simp[Vs]
theorem Qdb (h:x≠[]):x=x.dropLast++[Vs x]:=by
 have h1:=List.dropLast_concat_getLast h
 have h2:Vs x=x.getLast h:=by
  conv=>lhs;rw[<-h1]
  exact Q5w _ _
 rw[h2];exact h1.symm
theorem Q83 (ha:U1 ws){j:Nat}(hi:i<ws.length)(hj:j<ws.length)(e:wd ws i=wd ws j):i=j:=by
 rcases Nat.lt_trichotomy i j with h|h|h
 ·have:=ha i j h hj
  rw[e,Vt] at this;cases this
 ·exact h
 ·have:=ha j i h hi
  rw[e,Vt] at this;cases this
theorem st_at (ha:U1 ws){j:Nat}(hj:j<ws.length)(e:wd ws j=x):stW ws x=j:=by
 unfold stW
 exact Wt nZ (by omega) (by simpa using e) (λb _ hb=>by
  simp
  intro e'
  have:=Q83 ha (by omega) hj (e'.trans e.symm)
  omega)
theorem Q2l {y:List Int}(h:Vh x y=true):x.length<=y.length:=by
 unfold Vh at h
 by_cases c:x.length=y.length
 ·omega
 ·rw[if_neg c] at h;simp at h;omega
theorem WS.pos (h:WS ws):0<ws.length:=by
 obtain⟨j,hj,_⟩:=h.nil;omega
theorem WS.root (h:WS ws):wd ws 0=[]:=by
 obtain⟨j,hj,e⟩:=h.nil
 by_cases h0:j=0
 ·subst h0;exact e
 ·have h1:=h.asc 0 j (by omega) hj
  rw[e] at h1
  have h2:=Q2l h1
  exact List.length_eq_zero_iff.1 (by simpa using h2)
theorem WS.ne (h:WS ws)(h1:1<=s)(hs:s<ws.length):wd ws s≠[]:=λe=>by
 have:=Q83 h.asc hs h.pos (e.trans h.root.symm)
 omega
theorem WS.par (h:WS ws)(h1:1<=s)(hs:s<ws.length):∃t,t<s/\wd ws t=(wd ws s).dropLast/\stW ws (wd ws s).dropLast=t/\wd ws s=wd ws t++[Vs (wd ws s)]/\0<=Vs (wd ws s)/\Vs (wd ws s)<4000:=by
 have hn:=h.ne h1 hs
 have e:=Qdb hn
 have hin:inW ws ((wd ws s).dropLast++[Vs (wd ws s)]):=⟨s,hs,e⟩
 obtain⟨t,ht,et⟩:=h.down _ _ hin
 refine⟨t,?_,et,st_at h.asc ht et,by rw[et];exact e,h.edge _ _ hin⟩
 rcases Nat.lt_trichotomy t s with c|c|c
 ·exact c
 ·subst c
  have:(wd ws t).length=(wd ws t).dropLast.length:=by rw[<-et]
  rw[List.length_dropLast] at this
  have:0<(wd ws t).length:=List.length_pos_iff.2 hn
  omega
 ·have:=Q2l (h.asc s t c ht)
  rw[et,List.length_dropLast] at this
  have:0<(wd ws s).length:=List.length_pos_iff.2 hn
  omega
def J6 (ws:List (List Int))(mu:List Int->Int)(bd:List Int->Bool):Au:=
 ⟨ws.map (λx=>if x=[] then -1 else stW ws x.dropLast),ws.map Vs,ws.map (λx=>if x=[] then -1 else LW ws x 1),ws.map mu,ws.map bd⟩
theorem Ug (f:List Int->Int)(h:s<ws.length):iat (ws.map f) s=f (wd ws s):=by
 simp[iat,wd,List.getD,h]
theorem Qeo (f:List Int->Bool)(h:s<ws.length):bat (ws.map f) s=f (wd ws s):=by
 simp[bat,wd,List.getD,h]
section
variable {ws:List (List Int)}{mu:List Int->Int}{bd:List Int->Bool}
theorem Q82 (h:WS ws){t:Nat}(h1:1<=s)(hs:s<ws.length)(ht:stW ws (wd ws s).dropLast=t):iat (J6 ws mu bd).pa s=t:=by
 show iat (ws.map _) s=_
 rw[Ug _ hs,if_neg (h.ne h1 hs),ht]
theorem Q2o (hs:s<ws.length):iat (J6 ws mu bd).la s=Vs (wd ws s):=Ug _ hs
theorem Q2n (hs:s<ws.length):iat (J6 ws mu bd).mu s=mu (wd ws s):=Ug _ hs
theorem Q2p (hs:s<ws.length):bat (J6 ws mu bd).bd s=bd (wd ws s):=Qeo _ hs
theorem Q2m (h:WS ws)(h1:1<=s)(hs:s<ws.length):okR (J6 ws mu bd) s=true:=by
 obtain⟨t,ht,_,hst,_,e0,e1⟩:=h.par h1 hs
 unfold okR
 rw[Q82 h h1 hs hst,Q2o hs]
 simp
 omega
theorem U6 (h:WS ws)(hs:s<ws.length):Wd (J6 ws mu bd) s=wd ws s:=by
 induction s using Nat.strongRecOn with
 |_ s ih=>
  by_cases h0:s=0
  ·subst h0;rw[Q2q,h.root]
  ·obtain⟨t,ht,et,hst,e,_⟩:=h.par (by omega) hs
   rw[E6 (Q2m h (by omega) hs) (by omega),Q82 h (by omega) hs hst,Q2o hs,zU,ih t ht (by omega)]
   exact e.symm
theorem Qeq (h:WS ws):wl (J6 ws mu bd) ws.length=ws:=by
 apply List.ext_getElem
 ·rw[E9]
 ·intro i h1 h2
  have e:=I4 (A:=J6 ws mu bd) (m:=ws.length) (s:=i) h2
  rw[U6 h h2] at e
  unfold wd at e
  rw[zD,zH h1,zD,zH h2] at e
  exact e
theorem F6 (h:WS ws):G3 (J6 ws mu bd) ws.length:=
 ⟨h.pos,λt h1 ht=>Q2m h h1 ht,λi j hij hj=>by rw[U6 h (by omega),U6 h hj];exact h.asc i j hij hj⟩
theorem Qcf (h:WS ws):∀t,1<=t->t<ws.length->Pq (J6 ws mu bd) t=true:=by
 intro t h1 ht
 have T:G3 (J6 ws mu bd) ws.length:=F6 h
 have h0:iat (J6 ws mu bd).pa 0=-1:=by
  show iat (ws.map _) 0=_
  rw[Ug _ h.pos,if_pos h.root]
 rw[<-Q4l h0 (λu hu1 hu=>T.ok u hu1 (by omega)) (λi j hij hj=>T.asc i j hij (by omega)) h1,U6 h (by omega),U6 h ht]
 exact h.asc _ _ (by omega) ht
theorem Q9q (h:WS ws)(h1:1<=s)(hs:s<ws.length):LW ws (wd ws s) 1=(failOf (J6 ws mu bd) ws.length s:Int)/\failOf (J6 ws mu bd) ws.length s<s:=by
 have:=Q11 (F6 (mu:=mu) (bd:=bd) h) h1 hs
 rw[Qeq h,U6 h hs] at this
 exact this
end
def jm (a b:Int):Int:=if a=-1\/a=b then b else if b=-1 then a else -2
def Vi (P:Int->Prop)(m:Int):Prop:=(m=-1/\∀e,¬P e)\/(0<=m/\P m/\∀e,P e->e=m)\/(m=-2/\∃e f,P e/\P f/\e≠f)
theorem Vi.uniq {P:Int->Prop}{b:Int}(h:Vi P a)(k:Vi P b):a=b:=by
 rcases h with⟨h1,h2⟩|⟨h1,h2,h3⟩|⟨h1,e,f,h2,h3,h4⟩
 ·rcases k with⟨k1,k2⟩|⟨k1,k2,k3⟩|⟨k1,e,f,k2,k3,k4⟩
  ·omega
  ·exact absurd k2 (h2 _)
  ·exact absurd k2 (h2 _)
 ·rcases k with⟨k1,k2⟩|⟨k1,k2,k3⟩|⟨k1,e,f,k2,k3,k4⟩
  ·exact absurd h2 (k2 _)
  ·exact(h3 _ k2).symm
  ·exact absurd ((h3 _ k2).trans (h3 _ k3).symm) k4
 ·rcases k with⟨k1,k2⟩|⟨k1,k2,k3⟩|⟨k1,e',f',k2,k3,k4⟩
  ·exact absurd h2 (k2 _)
  ·exact absurd ((k3 _ h2).trans (k3 _ h3).symm) h4
  ·omega
theorem Vi.join {P Q:Int->Prop}{b:Int}(h:Vi P a)(k:Vi Q b):Vi (λe=>P e\/Q e) (jm a b):=by
 unfold jm
 rcases h with⟨h1,h2⟩|⟨h1,h2,h3⟩|⟨h1,e,f,h2,h3,h4⟩
 ·rw[if_pos (oL h1)]
  rcases k with⟨k1,k2⟩|⟨k1,k2,k3⟩|⟨k1,e,f,k2,k3,k4⟩
  ·exact oL ⟨k1,λe he=>he.elim (h2 e) (k2 e)⟩
  ·exact oR (oL ⟨k1,oR k2,λe he=>he.elim (λh=>absurd h (h2 e)) (k3 e)⟩)
  ·exact oR (oR ⟨k1,e,f,oR k2,oR k3,k4⟩)
 ·rcases k with⟨k1,k2⟩|⟨k1,k2,k3⟩|⟨k1,e,f,k2,k3,k4⟩
  ·rw[if_neg (by omega),if_pos k1]
   exact oR (oL ⟨h1,oL h2,λe he=>he.elim (h3 e) (λh=>absurd h (k2 e))⟩)
  ·by_cases c:a=b
   ·rw[if_pos (oR c)]
    exact oR (oL ⟨k1,oR k2,λe he=>he.elim (λh=>(h3 e h).trans c) (k3 e)⟩)
   ·rw[if_neg (by omega),if_neg (by omega)]
    exact oR (oR ⟨rfl,a,b,oL h2,oR k2,c⟩)
  ·rw[if_neg (by omega),if_neg (by omega)]
   exact oR (oR ⟨rfl,e,f,oR k2,oR k3,k4⟩)
 ·by_cases c:a=b
  ·rw[if_pos (oR c)]
   exact oR (oR ⟨by omega,e,f,oL h2,oL h3,h4⟩)
  ·rw[if_neg (by omega)]
   by_cases d:b=-1
   ·rw[if_pos d];exact oR (oR ⟨h1,e,f,oL h2,oL h3,h4⟩)
   ·rw[if_neg d];exact oR (oR ⟨rfl,e,f,oL h2,oL h3,h4⟩)
theorem Vi.congr {P Q:Int->Prop}(h:Vi P a)(e:∀x,P x↔Q x):Vi Q a:=by
 have:P=Q:=funext λx=>propext (e x)
 rw[<-this];exact h
theorem Vi.one {e:Int}(h:0<=e):Vi (λx=>x=e) e:=oR (oL ⟨h,rfl,λ_ h=>h⟩)
theorem Vi.none:Vi (λ_=>False) (-1):=oL ⟨rfl,λ_ h=>h⟩
theorem Qdv (m l:Int)(h:0<=l):jm m l=Q0w m l:=by
 unfold jm Q0w
 by_cases c:m=-1\/m=l
 ·rw[if_pos c,if_pos c]
 ·rw[if_neg c,if_neg c,if_neg (by omega)]
theorem Ft (q xs:List Int):Px q xs=true↔q <:+ xs:=by
 unfold Px
 constructor
 ·intro h
  rw[zG,decide_eq_true_eq] at h
  obtain⟨h1,h2⟩:=h
  have:q=xs.drop (xs.length-q.length):=by
   apply List.ext_getElem
   ·rw[List.length_drop];omega
   ·intro i hi hi'
    have h3:=(List.all_eq_true.1 h2) i (List.mem_range.2 hi)
    have h4:iat xs (xs.length-q.length+i)=iat q i:=by simpa using h3
    rw[V5 (by omega),V5 hi] at h4
    rw[List.getElem_drop]
    exact h4.symm
  rw[this]
  exact List.drop_suffix _ _
 ·rintro⟨p,rfl⟩
  rw[zG,decide_eq_true_eq]
  refine⟨by simp,Qt lR λi hi=>?_⟩
  have:(p++q).length-q.length=p.length:=by simp
  rw[this]
  simp[iat,List.getD,List.getElem?_append_right (show p.length<=p.length+i by omega)]
theorem Uy (h:rgB rs=true)(hi:i<rs.length):2<=(J2 rs i).seq.length/\(J2 rs i).seq.length<=402/\∀j,j<(J2 rs i).seq.length->0<=iat (J2 rs i).seq j/\iat (J2 rs i).seq j<4000:=by
 unfold rgB at h
 rw[zG] at h
 have h1:=List.all_eq_true.1 h.2 i (List.mem_range.2 hi)
 unfold Q1r at h1
 rw[zG,zG,decide_eq_true_eq,decide_eq_true_eq] at h1
 refine⟨h1.1,h1.2.1,λj hj=>?_⟩
 have h2:=List.all_eq_true.1 h1.2.2 j (List.mem_range.2 hj)
 unfold Ff at h2
 simpa using h2
theorem Qdp (x:Ru):Py x<=x.seq.length:=by unfold Py;split<;>omega
theorem I7 {s:List Int}{e:Int}{q:Nat}(hq:q<=s.length)(h:x++[e]=s.take q):1<=q/\x=s.take (q-1)/\e=iat s (q-1):=by
 have hl:x.length+1=q:=by
  have:=congrArg List.length h
  rw[zA,zX] at this
  simp at this;omega
 refine⟨by omega,?_,?_⟩
 ·have h1:=congrArg (List.take (q-1)) h
  rw[List.take_append_of_le_length (by omega),List.take_of_length_le (by omega),List.take_take] at h1
  rw[h1];congr 1;omega
 ·have h1:(x++[e])[x.length]?=(s.take q)[x.length]?:=by rw[h]
  rw[yA lR,zQ (by omega),Nat.sub_self,zH (show x.length<s.length by omega)] at h1
  have h2:x.length=q-1:=by omega
  rw[<-h2,V5 (by omega)]
  simpa using h1
theorem E8 (hg:rgB rs=true)(hi:i<=rs.length)(hk:k<=1\/(i<rs.length/\k<=(J2 rs i).seq.length+1))(ha:U1 ws)(h:∀y,inW ws y↔PW rs i k y):WS ws:=by
 have key:∀x e,PW rs i k (x++[e])->PW rs i k x/\0<=e/\e<4000:=by
  rintro x e (h1|⟨j,hj,q,h1,h2,h3⟩|⟨q,h1,h2,h3⟩)
  ·simp at h1
  ·have hr:=Uy hg (show j<rs.length by omega)
   have hm:=Qdp (J2 rs j)
   obtain⟨_,e1,e2⟩:=I7 (by omega) h3
   refine⟨?_,by rw[e2];exact hr.2.2 _ (by omega)⟩
   by_cases c:q=1
   ·subst c;left;rw[e1];simp
   ·right;left;exact⟨j,hj,q-1,by omega,by omega,e1⟩
  ·rcases hk with hk|⟨hk1,hk2⟩
   ·omega
   ·have hr:=Uy hg hk1
    obtain⟨_,e1,e2⟩:=I7 (by omega) h3
    refine⟨?_,by rw[e2];exact hr.2.2 _ (by omega)⟩
    by_cases c:q=1
    ·subst c;left;rw[e1];simp
    ·right;right;exact⟨q-1,by omega,by omega,e1⟩
 exact⟨ha,(h []).2 (oL rfl),λx e hx=>(h x).2 (key x e ((h _).1 hx)).1,λx e hx=>(key x e ((h _).1 hx)).2⟩
theorem Q2u (hg:rgB rs=true)(h:WI rs rs.length 1 ws)(hl:ws.length<=2000):WS ws:=
 E8 hg lR (oL lR) h.asc λy=>⟨h.yes y,h.all hl y⟩
theorem Qap {y:List Int}(hg:rgB rs=true)(hi:i<=rs.length)(hk:k<=1\/i<rs.length)(h:PW rs i k y):y.length<=402:=by
 rcases h with h1|⟨j,hj,q,h1,h2,h3⟩|⟨q,h1,h2,h3⟩
 ·rw[h1];simp
 ·have hr:=Uy hg (show j<rs.length by omega)
  rw[h3,zX];omega
 ·rcases hk with hk|hk
  ·omega
  ·have hr:=Uy hg hk
   rw[h3,zX];omega
theorem Qfg (hg:rgB rs=true)(h:WI rs rs.length 1 ws)(hs:s<ws.length):(wd ws s).length<=402:=Qap hg lR (oL lR) (h.yes _ ⟨s,hs,rfl⟩)
def WK (eo:Nat->Int)(arcs:Nat->List (Nat×Int))(s0:Nat)(w0:Int)(E:List Int)(c:Int)(v:Nat):Prop:=∀P:List Int->Int->Nat->Prop,P [eo s0] w0 s0->(∀E c v u k,P E c v->(u,k)∈arcs v->P (E++[eo u]) (c+k) u)->P E c v
theorem WK.base {eo arcs s0 w0}:WK eo arcs s0 w0 [eo s0] w0 s0:=λ_ b _=>b
theorem WK.step {eo arcs s0 w0 E c v u k}(h:WK eo arcs s0 w0 E c v)(m:(u,k)∈arcs v):WK eo arcs s0 w0 (E++[eo u]) (c+k) u:=λP b s=>s _ _ _ _ _ (h P b s) m
theorem WK.ind {eo arcs s0 w0}{motive:∀E c v,WK eo arcs s0 w0 E c v->Prop}(base:motive _ _ _ WK.base)(step:∀{E c v u k}(h:WK eo arcs s0 w0 E c v)(m:(u,k)∈arcs v),motive E c v h->motive _ _ _ (h.step m)){E c v}(h:WK eo arcs s0 w0 E c v):motive E c v h:=by
 obtain⟨_,i⟩:=h (λE c v=>∃h,motive E c v h) ⟨_,base⟩ (λ_ _ _ _ _ ⟨h,i⟩ m=>⟨_,step h m i⟩)
 exact i
def Qen (c:Int)(E:List Int)(c':Int)(E':List Int):Prop:=c<c'\/(c=c'/\Vh E E'=true)
section
variable {eo:Nat->Int}{arcs:Nat->List (Nat×Int)}{s0:Nat}{w0:Int}
theorem WK.pos (h:WK eo arcs s0 w0 E c v):1<=E.length:=by
 induction h using WK.ind with
 |base=>simp
 |step _ _ hzz=>simp
theorem WK.last (h:WK eo arcs s0 w0 E c v):∃E0,E=E0++[eo v]:=by
 induction h using WK.ind with
 |base=>exact⟨[],rfl⟩
 |step _ _ hzz=>exact⟨_,rfl⟩
theorem WK.bd {n:Nat}(hs:s0<n)(ha:∀v u k,(u,k)∈arcs v->u<n)(h:WK eo arcs s0 w0 E c v):v<n:=by
 induction h using WK.ind with
 |base=>exact hs
 |step _ k hzz=>exact ha _ _ _ k
theorem Pr (n:Nat):∀l:List Nat,l.Nodup->(∀x∈l,x<n)->l.length<=n:=by
 induction n with
 |zero=>
  intro l _ h
  cases l with
  |nil=>simp
  |cons x l=>exact absurd (h x (List.mem_cons_self ..)) (zK _)
 |succ n ih=>
  intro l hl h
  have h1:=ih (l.erase n) (hl.erase n) (λx hx=>by
   have:=(hl.mem_erase_iff).1 hx
   have:=h x this.2
   omega)
  have h2:l.length<=(l.erase n).length+1:=by
   rw[List.length_erase]
   split<;>omega
  omega
end
structure Wk where
 E:List Int
 c:Int
 key:List Int
structure Rt where
 code:Int
 cost:Int
 edges:List Int
def endsB (x:Wk)(t:Int):Bool:=decide (x.E.getLast?=some t)
def Qel (t:Int)(old:Rt)(x:Wk):Rt:=
 if endsB x t&&(decide (old.code≠0)||(decide (x.c<old.cost)||(decide (x.c=old.cost)&&Vh x.E old.edges))) then ⟨0,x.c,x.E⟩ else old
def bestW (t:Int)(old:Rt)(ws:List Wk):Rt:=ws.foldl (Qel t) old
structure Fl (t:Int)(P:Int->List Int->Prop)(r:Rt):Prop where
 none:r.code≠0->r=⟨1,0,[]⟩/\∀c E,¬P c E
 some:r.code=0->P r.cost r.edges/\∀c E,P c E->¬Qen c E r.cost r.edges
section
variable {eo:Nat->Int}{arcs:Nat->List (Nat×Int)}{s0:Nat}{w0:Int}
end
def upW {α:Type}(f:List Int->α)(k:List Int)(v:α):List Int->α:=λt=>if t=k then v else f t
theorem Qfk {α:Type}(f:List Int->α)(k:List Int)(v:α):upW f k v k=v:=by simp[upW]
theorem Qfj {α:Type}(f:List Int->α){k t:List Int}(v:α)(h:t≠k):upW f k v t=f t:=by simp[upW,h]
def muP (x:Ru)(mu:List Int->Int):List Int->Int:=if x.only=true then upW mu (x.seq.take (Py x)) (jm (mu (x.seq.take (Py x))) (iat x.seq (x.seq.length-1))) else mu
theorem Q53 (hu:U1 us)(hw:U1 ws)(h:∀y,inW us y->inW ws y)(i:Nat)(hi:i<us.length):∃k,i<=k/\k<ws.length/\wd ws k=wd us i:=by
 induction i with
 |zero=>
  obtain⟨k,hk,e⟩:=h (wd us 0) ⟨0,hi,rfl⟩
  exact⟨k,nZ,hk,e⟩
 |succ i ih=>
  obtain⟨k,h1,h2,h3⟩:=ih (by omega)
  obtain⟨k',hk',e⟩:=h (wd us (i+1)) ⟨i+1,hi,rfl⟩
  refine⟨k',?_,hk',e⟩
  have hb:=hu i (i+1) (by omega) hi
  rw[<-h3,<-e] at hb
  rcases Nat.lt_trichotomy k k' with c|c|c
  ·omega
  ·subst c;rw[Vt] at hb;cases hb
  ·have:=Zk hb (hw k' k c h2)
   rw[Vt] at this;cases this
theorem Fu (hu:U1 us)(hw:U1 ws)(h:∀y,inW us y->inW ws y):us.length<=ws.length:=by
 by_cases c:us.length=0
 ·omega
 ·obtain⟨k,h1,h2,_⟩:=Q53 hu hw h (us.length-1) (by omega)
  omega
theorem Q59 (hu:U1 us)(hw:U1 ws)(h:∀y,inW us y↔inW ws y):us=ws:=by
 have hl:=Nat.le_antisymm (Fu hu hw λy=>(h y).1) (Fu hw hu λy=>(h y).2)
 apply List.ext_getElem hl
 intro i h1 h2
 have key:wd us i=wd ws i:=by
  obtain⟨k,k1,k2,k3⟩:=Q53 hu hw (λy=>(h y).1) i h1
  obtain⟨m,m1,m2,m3⟩:=Q53 hw hu (λy=>(h y).2) i h2
  by_cases c:k=i
  ·rw[<-k3,c]
  ·have hb:=hw i k (by omega) k2
   rw[k3,<-m3] at hb
   by_cases d:m=i
   ·rw[d,Vt] at hb;cases hb
   ·have:=Zk hb (hu i m (by omega) m2)
    rw[Vt] at this;cases this
 unfold wd at key
 rw[zD,zH h1,zD,zH h2] at key
 exact key
def muK (rs:List Ru):Nat->List Int->Int
 |0=>λ_=>-1
 |k+1=>muP (J2 rs k) (muK rs k)
def mix {α:Type}(M m:Nat->α)(k s:Nat):α:=if s<k then M s else m s
def Qfr (rs:List Ru)(k:Nat)(y:List Int)(e:Int):Prop:=∃j,j<k/\(J2 rs j).only=true/\y=(J2 rs j).seq.take (Py (J2 rs j))/\e=iat (J2 rs j).seq ((J2 rs j).seq.length-1)
theorem Q1x (rs:List Ru)(k:Nat)(y:List Int)(e:Int):Qfr rs (k+1) y e↔Qfr rs k y e\/((J2 rs k).only=true/\y=(J2 rs k).seq.take (Py (J2 rs k))/\e=iat (J2 rs k).seq ((J2 rs k).seq.length-1)):=by
 constructor
 ·rintro⟨j,hj,h⟩
  by_cases c:j=k
  ·subst c;exact oR h
  ·exact oL ⟨j,by omega,h⟩
 ·rintro(⟨j,hj,h⟩|h)
  ·exact⟨j,by omega,h⟩
  ·exact⟨k,by omega,h⟩
theorem muK_is (hg:rgB rs=true)(hk:k<=rs.length)(y:List Int):Vi (Qfr rs k y) (muK rs k y):=by
 induction k with
 |zero=>exact Vi.none.congr λx=>⟨λh=>h.elim,λ⟨j,hj,_⟩=>by omega⟩
 |succ k ih=>
  have h1:=ih (by omega)
  have hr:=Uy hg (show k<rs.length by omega)
  show Vi _ (muP (J2 rs k) (muK rs k) y)
  unfold muP
  by_cases ho:(J2 rs k).only=true
  ·rw[if_pos ho]
   by_cases c:y=(J2 rs k).seq.take (Py (J2 rs k))
   ·rw[<-c,Qfk]
    refine(h1.join (Vi.one (hr.2.2 ((J2 rs k).seq.length-1) (by omega)).1)).congr λx=>?_
    rw[Q1x]
    exact⟨λh=>h.elim oL λh=>oR ⟨ho,c,h⟩,λh=>h.elim oL λh=>oR h.2.2⟩
   ·rw[Qfj _ _ c]
    refine h1.congr λx=>?_
    rw[Q1x]
    exact⟨Or.inl,λh=>h.elim id λh=>absurd h.2.1 c⟩
  ·rw[if_neg ho]
   refine h1.congr λx=>?_
   rw[Q1x]
   exact⟨Or.inl,λh=>h.elim id λh=>absurd h.1 ho⟩
def Qfl (rs:List Ru)(k:Nat)(xs:List Int)(e:Int):Prop:=∃j,j<k/\(J2 rs j).only=true/\(J2 rs j).seq.take (Py (J2 rs j)) <:+ xs/\e=iat (J2 rs j).seq ((J2 rs j).seq.length-1)
theorem Gq {x:Ru}(h:x.only=true):Py x=x.seq.length-1:=by unfold Py;rw[if_pos h]
theorem Q0r (hg:rgB rs=true)(hk:k<=rs.length)(xs:List Int):Vi (Qfl rs k xs) (V2 rs xs k):=by
 induction k with
 |zero=>exact Vi.none.congr λx=>⟨λh=>h.elim,λ⟨j,hj,_⟩=>by omega⟩
 |succ k ih=>
  have h1:=ih (by omega)
  have hr:=Uy hg (show k<rs.length by omega)
  have hup:∀e,Qfl rs (k+1) xs e↔Qfl rs k xs e\/((J2 rs k).only=true/\(J2 rs k).seq.take (Py (J2 rs k)) <:+ xs/\e=iat (J2 rs k).seq ((J2 rs k).seq.length-1)):=by
   intro e
   constructor
   ·rintro⟨j,hj,h⟩
    by_cases c:j=k
    ·subst c;exact oR h
    ·exact oL ⟨j,by omega,h⟩
   ·rintro(⟨j,hj,h⟩|h)
    ·exact⟨j,by omega,h⟩
    ·exact⟨k,by omega,h⟩
  rw[V2]
  by_cases c:Gp (J2 rs k) xs=true
  ·rw[if_pos c]
   have hc:=c
   unfold Gp at hc
   rw[zG,Ft] at hc
   rw[<-Qdv _ _ (hr.2.2 ((J2 rs k).seq.length-1) (by omega)).1]
   refine(h1.join (Vi.one (hr.2.2 ((J2 rs k).seq.length-1) (by omega)).1)).congr λx=>?_
   rw[hup]
   exact⟨λh=>h.elim oL λh=>oR ⟨hc.1,by rw[Gq hc.1];exact hc.2,h⟩,λh=>h.elim oL λh=>oR h.2.2⟩
  ·rw[if_neg c]
   refine h1.congr λx=>?_
   rw[hup]
   refine⟨Or.inl,λh=>h.elim id λh=>absurd ?_ c⟩
   unfold Gp
   rw[zG,Ft]
   exact⟨h.1,by rw[<-Gq h.1];exact h.2.1⟩
section
variable {rs:List Ru}{ws:List (List Int)}
end
end Go.Proofs.YtphiaobccollhaaGreat
