import Derived.Test.YtdpfdkihbgmapaaGreatXCB
import Derived.Test.YtdpfdkihbgmapaaGreatXBG
namespace Go.Proofs.YtdpfdkihbgmapaaGreat
open Go.RowKit Go.Maps
set_option linter.unusedVariables false
set_option maxRecDepth 1000000
set_option maxHeartbeats 16000000
structure WS (ws:List (List Int)):Prop where
 asc:AscW ws
 nil:inW ws []
 down:∀x e,inW ws (x++[e])->inW ws x
 edge:∀x e,inW ws (x++[e])->0<=e/\e<4000
def lastE (x:List Int):Int:=x.getLast?.getD (-1)
theorem lastE_snoc (x:List Int)(e:Int):lastE (x++[e])=e:=by simp[lastE]
theorem snoc_of {x:List Int}(h:x≠[]):x=x.dropLast++[lastE x]:=by
 have h1:=List.dropLast_concat_getLast h
 have h2:lastE x=x.getLast h:=by
  conv=>lhs;rw[<-h1]
  exact lastE_snoc _ _
 rw[h2];exact h1.symm
theorem asc_inj {ws:List (List Int)}(ha:AscW ws){i j:Nat}(hi:i<ws.length)(hj:j<ws.length)(e:wd ws i=wd ws j):i=j:=by
 rcases Nat.lt_trichotomy i j with h|h|h
 ·have:=ha i j h hj
  rw[e,bef_self] at this;cases this
 ·exact h
 ·have:=ha j i h hi
  rw[e,bef_self] at this;cases this
theorem st_at {ws:List (List Int)}(ha:AscW ws){j:Nat}{x:List Int}(hj:j<ws.length)(e:wd ws j=x):stW ws x=j:=by
 unfold stW
 exact findA_one (Nat.zero_le _) (by omega) (by simpa using e) (λb _ hb=>by
  simp
  intro e'
  have:=asc_inj ha (by omega) hj (e'.trans e.symm)
  omega)
theorem bef_len {x y:List Int}(h:befB x y=true):x.length<=y.length:=by
 unfold befB at h
 by_cases c:x.length=y.length
 ·omega
 ·rw[if_neg c] at h;simp at h;omega
theorem WS.pos {ws:List (List Int)}(h:WS ws):0<ws.length:=by
 obtain⟨j,hj,_⟩:=h.nil;omega
theorem WS.root {ws:List (List Int)}(h:WS ws):wd ws 0=[]:=by
 obtain⟨j,hj,e⟩:=h.nil
 by_cases h0:j=0
 ·subst h0;exact e
 ·have h1:=h.asc 0 j (by omega) hj
  rw[e] at h1
  have h2:=bef_len h1
  exact List.length_eq_zero_iff.1 (by simpa using h2)
theorem WS.ne {ws:List (List Int)}(h:WS ws){s:Nat}(h1:1<=s)(hs:s<ws.length):wd ws s≠[]:=λe=>by
 have:=asc_inj h.asc hs h.pos (e.trans h.root.symm)
 omega
theorem WS.par {ws:List (List Int)}(h:WS ws){s:Nat}(h1:1<=s)(hs:s<ws.length):∃t,t<s/\wd ws t=(wd ws s).dropLast/\stW ws (wd ws s).dropLast=t/\wd ws s=wd ws t++[lastE (wd ws s)]/\0<=lastE (wd ws s)/\lastE (wd ws s)<4000:=by
 have hn:=h.ne h1 hs
 have e:=snoc_of hn
 have hin:inW ws ((wd ws s).dropLast++[lastE (wd ws s)]):=⟨s,hs,e⟩
 obtain⟨t,ht,et⟩:=h.down _ _ hin
 refine⟨t,?_,et,st_at h.asc ht et,by rw[et];exact e,h.edge _ _ hin⟩
 rcases Nat.lt_trichotomy t s with c|c|c
 ·exact c
 ·subst c
  have:(wd ws t).length=(wd ws t).dropLast.length:=by rw[<-et]
  rw[List.length_dropLast] at this
  have:0<(wd ws t).length:=List.length_pos_iff.2 hn
  omega
 ·have:=bef_len (h.asc s t c ht)
  rw[et,List.length_dropLast] at this
  have:0<(wd ws s).length:=List.length_pos_iff.2 hn
  omega
def autoOf (ws:List (List Int))(mu:List Int->Int)(bd:List Int->Bool):Au:=
 ⟨ws.map (λx=>if x=[] then -1 else stW ws x.dropLast),ws.map lastE,ws.map (λx=>if x=[] then -1 else LW ws x 1),ws.map mu,ws.map bd⟩
theorem iat_mapA {ws:List (List Int)}(f:List Int->Int){s:Nat}(h:s<ws.length):iat (ws.map f) s=f (wd ws s):=by
 simp[iat,wd,List.getD,h]
theorem bat_map {ws:List (List Int)}(f:List Int->Bool){s:Nat}(h:s<ws.length):bat (ws.map f) s=f (wd ws s):=by
 simp[bat,wd,List.getD,h]
section
variable {ws:List (List Int)}{mu:List Int->Int}{bd:List Int->Bool}
theorem auto_pa (h:WS ws){s t:Nat}(h1:1<=s)(hs:s<ws.length)(ht:stW ws (wd ws s).dropLast=t):iat (autoOf ws mu bd).pa s=t:=by
 show iat (ws.map _) s=_
 rw[iat_mapA _ hs,if_neg (h.ne h1 hs),ht]
theorem auto_la {s:Nat}(hs:s<ws.length):iat (autoOf ws mu bd).la s=lastE (wd ws s):=iat_mapA _ hs
theorem auto_mu {s:Nat}(hs:s<ws.length):iat (autoOf ws mu bd).mu s=mu (wd ws s):=iat_mapA _ hs
theorem auto_bd {s:Nat}(hs:s<ws.length):bat (autoOf ws mu bd).bd s=bd (wd ws s):=bat_map _ hs
theorem auto_ok (h:WS ws){s:Nat}(h1:1<=s)(hs:s<ws.length):okR (autoOf ws mu bd) s=true:=by
 obtain⟨t,ht,_,hst,_,e0,e1⟩:=h.par h1 hs
 unfold okR
 rw[auto_pa h h1 hs hst,auto_la hs]
 simp
 omega
theorem auto_wd (h:WS ws){s:Nat}(hs:s<ws.length):Wd (autoOf ws mu bd) s=wd ws s:=by
 induction s using Nat.strongRecOn with
 |_ s ih=>
  by_cases h0:s=0
  ·subst h0;rw[Wd_zero,h.root]
  ·obtain⟨t,ht,et,hst,e,_⟩:=h.par (by omega) hs
   rw[Wd_step (auto_ok h (by omega) hs) (by omega),auto_pa h (by omega) hs hst,auto_la hs,Int.toNat_natCast,ih t ht (by omega)]
   exact e.symm
theorem auto_wl (h:WS ws):wl (autoOf ws mu bd) ws.length=ws:=by
 apply List.ext_getElem
 ·rw[wl_len]
 ·intro i h1 h2
  have e:=wl_wd (A:=autoOf ws mu bd) (m:=ws.length) (s:=i) h2
  rw[auto_wd h h2] at e
  unfold wd at e
  rw[List.getD_eq_getElem?_getD,List.getElem?_eq_getElem h1,List.getD_eq_getElem?_getD,List.getElem?_eq_getElem h2] at e
  exact e
theorem auto_trie (h:WS ws):Trie (autoOf ws mu bd) ws.length:=
 ⟨h.pos,λt h1 ht=>auto_ok h h1 ht,λi j hij hj=>by rw[auto_wd h (by omega),auto_wd h hj];exact h.asc i j hij hj⟩
theorem auto_asc (h:WS ws):∀t,1<=t->t<ws.length->pairAsc (autoOf ws mu bd) t=true:=by
 intro t h1 ht
 have T:Trie (autoOf ws mu bd) ws.length:=auto_trie h
 have h0:iat (autoOf ws mu bd).pa 0=-1:=by
  show iat (ws.map _) 0=_
  rw[iat_mapA _ h.pos,if_pos h.root]
 rw[<-bef_pair h0 (λu hu1 hu=>T.ok u hu1 (by omega)) (λi j hij hj=>T.asc i j hij (by omega)) h1,auto_wd h (by omega),auto_wd h ht]
 exact h.asc _ _ (by omega) ht
theorem auto_fail (h:WS ws){s:Nat}(h1:1<=s)(hs:s<ws.length):LW ws (wd ws s) 1=(failOf (autoOf ws mu bd) ws.length s:Int)/\failOf (autoOf ws mu bd) ws.length s<s:=by
 have:=fail_spec (auto_trie (mu:=mu) (bd:=bd) h) h1 hs
 rw[auto_wl h,auto_wd h hs] at this
 exact this
end
def isKid (x y:List Int):Bool:=decide (y≠[]/\y.dropLast=x)
def kidsW (ws:List (List Int))(bl:List Int->Nat)(x:List Int):List (Int×Nat):=(ws.filter (isKid x)).map (λy=>(lastE y,bl y))
theorem range_wd (ws:List (List Int)):(List.range ws.length).map (wd ws)=ws:=by
 apply List.ext_getElem
 ·simp
 ·intro i h1 h2
  simp[wd,List.getD,h2]
theorem kids_words {ws:List (List Int)}{mu:List Int->Int}{bd:List Int->Bool}(h:WS ws)(bl:List Int->Nat){s:Nat}(hs:s<ws.length):kidsL (autoOf ws mu bd) ws.length (λt=>bl (wd ws t)) s=kidsW ws bl (wd ws s):=by
 have e:kidsW ws bl (wd ws s)=(((List.range ws.length).map (wd ws)).filter (isKid (wd ws s))).map (λy=>(lastE y,bl y)):=by rw[range_wd];rfl
 rw[e,List.filter_map,List.map_map]
 unfold kidsL
 have hf:(List.range ws.length).filter (λt=>decide (1<=t/\iat (autoOf ws mu bd).pa t=s))=(List.range ws.length).filter (isKid (wd ws s) ∘ wd ws):=by
  apply List.filter_congr
  intro t ht
  rw[List.mem_range] at ht
  simp only[Function.comp,isKid]
  congr 1
  by_cases h0:t=0
  ·subst h0
   rw[h.root];simp
  ·obtain⟨p,hp,ep,hst,_⟩:=h.par (by omega) ht
   rw[auto_pa h (by omega) ht hst]
   apply propext
   constructor
   ·rintro⟨_,h2⟩
    have:p=s:=by omega
    subst this
    exact⟨h.ne (by omega) ht,ep.symm⟩
   ·rintro⟨_,h2⟩
    refine⟨by omega,?_⟩
    have:=asc_inj h.asc (by omega) hs (ep.trans h2)
    omega
 rw[hf]
 apply List.map_congr_left
 intro t ht
 rw[List.mem_filter,List.mem_range] at ht
 simp only[Function.comp]
 rw[auto_la ht.1]
def jm (a b:Int):Int:=if a=-1\/a=b then b else if b=-1 then a else -2
def MustIs (P:Int->Prop)(m:Int):Prop:=(m=-1/\∀e,¬P e)\/(0<=m/\P m/\∀e,P e->e=m)\/(m=-2/\∃e f,P e/\P f/\e≠f)
theorem MustIs.uniq {P:Int->Prop}{a b:Int}(h:MustIs P a)(k:MustIs P b):a=b:=by
 rcases h with⟨h1,h2⟩|⟨h1,h2,h3⟩|⟨h1,e,f,h2,h3,h4⟩
 ·rcases k with⟨k1,k2⟩|⟨k1,k2,k3⟩|⟨k1,e,f,k2,k3,k4⟩
  ·omega
  ·exact absurd k2 (h2 _)
  ·exact absurd k2 (h2 _)
 ·rcases k with⟨k1,k2⟩|⟨k1,k2,k3⟩|⟨k1,e,f,k2,k3,k4⟩
  ·exact absurd h2 (k2 _)
  ·exact(h3 _ k2).symm
  ·exact absurd ((h3 _ k2).trans (h3 _ k3).symm) k4
 ·rcases k with⟨k1,k2⟩|⟨k1,k2,k3⟩|⟨k1,e',f',k2,k3,k4⟩
  ·exact absurd h2 (k2 _)
  ·exact absurd ((k3 _ h2).trans (k3 _ h3).symm) h4
  ·omega
theorem MustIs.join {P Q:Int->Prop}{a b:Int}(h:MustIs P a)(k:MustIs Q b):MustIs (λe=>P e\/Q e) (jm a b):=by
 unfold jm
 rcases h with⟨h1,h2⟩|⟨h1,h2,h3⟩|⟨h1,e,f,h2,h3,h4⟩
 ·rw[if_pos (Or.inl h1)]
  rcases k with⟨k1,k2⟩|⟨k1,k2,k3⟩|⟨k1,e,f,k2,k3,k4⟩
  ·exact Or.inl ⟨k1,λe he=>he.elim (h2 e) (k2 e)⟩
  ·exact Or.inr (Or.inl ⟨k1,Or.inr k2,λe he=>he.elim (λh=>absurd h (h2 e)) (k3 e)⟩)
  ·exact Or.inr (Or.inr ⟨k1,e,f,Or.inr k2,Or.inr k3,k4⟩)
 ·rcases k with⟨k1,k2⟩|⟨k1,k2,k3⟩|⟨k1,e,f,k2,k3,k4⟩
  ·rw[if_neg (by omega),if_pos k1]
   exact Or.inr (Or.inl ⟨h1,Or.inl h2,λe he=>he.elim (h3 e) (λh=>absurd h (k2 e))⟩)
  ·by_cases c:a=b
   ·rw[if_pos (Or.inr c)]
    exact Or.inr (Or.inl ⟨k1,Or.inr k2,λe he=>he.elim (λh=>(h3 e h).trans c) (k3 e)⟩)
   ·rw[if_neg (by omega),if_neg (by omega)]
    exact Or.inr (Or.inr ⟨rfl,a,b,Or.inl h2,Or.inr k2,c⟩)
  ·rw[if_neg (by omega),if_neg (by omega)]
   exact Or.inr (Or.inr ⟨rfl,e,f,Or.inr k2,Or.inr k3,k4⟩)
 ·by_cases c:a=b
  ·rw[if_pos (Or.inr c)]
   exact Or.inr (Or.inr ⟨by omega,e,f,Or.inl h2,Or.inl h3,h4⟩)
  ·rw[if_neg (by omega)]
   by_cases d:b=-1
   ·rw[if_pos d];exact Or.inr (Or.inr ⟨h1,e,f,Or.inl h2,Or.inl h3,h4⟩)
   ·rw[if_neg d];exact Or.inr (Or.inr ⟨rfl,e,f,Or.inl h2,Or.inl h3,h4⟩)
theorem MustIs.congr {P Q:Int->Prop}{a:Int}(h:MustIs P a)(e:∀x,P x↔Q x):MustIs Q a:=by
 have:P=Q:=funext λx=>propext (e x)
 rw[<-this];exact h
theorem MustIs.one {e:Int}(h:0<=e):MustIs (λx=>x=e) e:=Or.inr (Or.inl ⟨h,rfl,λ_ h=>h⟩)
theorem MustIs.none:MustIs (λ_=>False) (-1):=Or.inl ⟨rfl,λ_ h=>h⟩
theorem jm_edge (m l:Int)(h:0<=l):jm m l=joinM m l:=by
 unfold jm joinM
 by_cases c:m=-1\/m=l
 ·rw[if_pos c,if_pos c]
 ·rw[if_neg c,if_neg c,if_neg (by omega)]
theorem suf_iff (q xs:List Int):sufB q xs=true↔q <:+ xs:=by
 unfold sufB
 constructor
 ·intro h
  rw[Bool.and_eq_true,decide_eq_true_eq] at h
  obtain⟨h1,h2⟩:=h
  have:q=xs.drop (xs.length-q.length):=by
   apply List.ext_getElem
   ·rw[List.length_drop];omega
   ·intro i hi hi'
    have h3:=(List.all_eq_true.1 h2) i (List.mem_range.2 hi)
    have h4:iat xs (xs.length-q.length+i)=iat q i:=by simpa using h3
    rw[iat_eq (by omega),iat_eq hi] at h4
    rw[List.getElem_drop]
    exact h4.symm
  rw[this]
  exact List.drop_suffix _ _
 ·rintro⟨p,rfl⟩
  rw[Bool.and_eq_true,decide_eq_true_eq]
  refine⟨by simp,allN_yes (Nat.le_refl _) λi hi=>?_⟩
  have:(p++q).length-q.length=p.length:=by simp
  rw[this]
  simp[iat,List.getD,List.getElem?_append_right (show p.length<=p.length+i by omega)]
theorem rg_at {rs:List Ru}(h:rgB rs=true){i:Nat}(hi:i<rs.length):2<=(ratA rs i).seq.length/\(ratA rs i).seq.length<=402/\∀j,j<(ratA rs i).seq.length->0<=iat (ratA rs i).seq j/\iat (ratA rs i).seq j<4000:=by
 unfold rgB at h
 rw[Bool.and_eq_true] at h
 have h1:=List.all_eq_true.1 h.2 i (List.mem_range.2 hi)
 unfold rgAt at h1
 rw[Bool.and_eq_true,Bool.and_eq_true,decide_eq_true_eq,decide_eq_true_eq] at h1
 refine⟨h1.1,h1.2.1,λj hj=>?_⟩
 have h2:=List.all_eq_true.1 h1.2.2 j (List.mem_range.2 hj)
 unfold edgeB at h2
 simpa using h2
theorem most_le (x:Ru):most x<=x.seq.length:=by unfold most;split<;>omega
theorem take_of_snoc {x s:List Int}{e:Int}{q:Nat}(hq:q<=s.length)(h:x++[e]=s.take q):1<=q/\x=s.take (q-1)/\e=iat s (q-1):=by
 have hl:x.length+1=q:=by
  have:=congrArg List.length h
  rw[List.length_append,List.length_take] at this
  simp at this;omega
 refine⟨by omega,?_,?_⟩
 ·have h1:=congrArg (List.take (q-1)) h
  rw[List.take_append_of_le_length (by omega),List.take_of_length_le (by omega),List.take_take] at h1
  rw[h1];congr 1;omega
 ·have h1:(x++[e])[x.length]?=(s.take q)[x.length]?:=by rw[h]
  rw[List.getElem?_append_right (Nat.le_refl _),List.getElem?_take_of_lt (by omega),Nat.sub_self,List.getElem?_eq_getElem (show x.length<s.length by omega)] at h1
  have h2:x.length=q-1:=by omega
  rw[<-h2,iat_eq (by omega)]
  simpa using h1
theorem ws_of_pw {rs:List Ru}{i k:Nat}{ws:List (List Int)}(hg:rgB rs=true)(hi:i<=rs.length)(hk:k<=1\/(i<rs.length/\k<=(ratA rs i).seq.length+1))(ha:AscW ws)(h:∀y,inW ws y↔PW rs i k y):WS ws:=by
 have key:∀x e,PW rs i k (x++[e])->PW rs i k x/\0<=e/\e<4000:=by
  rintro x e (h1|⟨j,hj,q,h1,h2,h3⟩|⟨q,h1,h2,h3⟩)
  ·simp at h1
  ·have hr:=rg_at hg (show j<rs.length by omega)
   have hm:=most_le (ratA rs j)
   obtain⟨_,e1,e2⟩:=take_of_snoc (by omega) h3
   refine⟨?_,by rw[e2];exact hr.2.2 _ (by omega)⟩
   by_cases c:q=1
   ·subst c;left;rw[e1];simp
   ·right;left;exact⟨j,hj,q-1,by omega,by omega,e1⟩
  ·rcases hk with hk|⟨hk1,hk2⟩
   ·omega
   ·have hr:=rg_at hg hk1
    obtain⟨_,e1,e2⟩:=take_of_snoc (by omega) h3
    refine⟨?_,by rw[e2];exact hr.2.2 _ (by omega)⟩
    by_cases c:q=1
    ·subst c;left;rw[e1];simp
    ·right;right;exact⟨q-1,by omega,by omega,e1⟩
 exact⟨ha,(h []).2 (Or.inl rfl),λx e hx=>(h x).2 (key x e ((h _).1 hx)).1,λx e hx=>(key x e ((h _).1 hx)).2⟩
theorem ws_of_wi {rs:List Ru}{ws:List (List Int)}(hg:rgB rs=true)(h:WI rs rs.length 1 ws)(hl:ws.length<=2000):WS ws:=
 ws_of_pw hg (Nat.le_refl _) (Or.inl (Nat.le_refl _)) h.asc λy=>⟨h.yes y,h.all hl y⟩
theorem pw_len {rs:List Ru}{i k:Nat}{y:List Int}(hg:rgB rs=true)(hi:i<=rs.length)(hk:k<=1\/i<rs.length)(h:PW rs i k y):y.length<=402:=by
 rcases h with h1|⟨j,hj,q,h1,h2,h3⟩|⟨q,h1,h2,h3⟩
 ·rw[h1];simp
 ·have hr:=rg_at hg (show j<rs.length by omega)
  rw[h3,List.length_take];omega
 ·rcases hk with hk|hk
  ·omega
  ·have hr:=rg_at hg hk
   rw[h3,List.length_take];omega
theorem wi_len {rs:List Ru}{ws:List (List Int)}(hg:rgB rs=true)(h:WI rs rs.length 1 ws){s:Nat}(hs:s<ws.length):(wd ws s).length<=402:=pw_len hg (Nat.le_refl _) (Or.inl (Nat.le_refl _)) (h.yes _ ⟨s,hs,rfl⟩)
theorem ins_mid (x:Lit×DataW Unit)(l1 l2:List (Lit×DataW Unit))(h1:∀p∈l1,x.1.before p.1=false)(h2:∀p∈l2,x.1.before p.1=true):DataW.insert x (l1++l2)=l1++x::l2:=by
 induction l1 with
 |nil=>
  cases l2 with
  |nil=>rfl
  |cons y l=>
   rw[List.nil_append,List.nil_append]
   unfold DataW.insert
   rw[h2 y (List.mem_cons_self ..)]
   simp
 |cons y l ih=>
  rw[List.cons_append]
  unfold DataW.insert
  rw[h1 y (List.mem_cons_self ..)]
  simp only[Bool.false_eq_true,if_false,List.cons_append]
  rw[ih λp hp=>h1 p (List.mem_cons_of_mem _ hp)]
theorem kids_put2 {k1 k2:List (Int×Nat)}{e:Int}(b:Nat)(h1:∀p∈k1,p.1<e)(h2:∀p∈k2,e<p.1):(kidsD (k1++k2)).put (.int .i64 e) (.lit (.int .i64 (b:Int)))=kidsD (k1++(e,b)::k2):=by
 unfold kidsD
 rw[DataW.put_eq]
 congr 1
 unfold ChangeMaps.putKey
 have hf:((k1++k2).map kidE).filter (ChangeMaps.notKey (.int .i64 e))=(k1++k2).map kidE:=by
  rw[List.filter_eq_self]
  intro p hp
  obtain⟨q,hq,rfl⟩:=List.mem_map.1 hp
  have:q.1≠e:=by
   rcases List.mem_append.1 hq with h|h
   ·have:=h1 q h;omega
   ·have:=h2 q h;omega
  simp[ChangeMaps.notKey,kidE,Lit.sameKey]
  omega
 rw[hf,List.map_append,ins_mid]
 ·simp[kidE]
 ·intro p hp
  obtain⟨q,hq,rfl⟩:=List.mem_map.1 hp
  have:=h1 q hq
  simp[kidE,Lit.before]
  omega
 ·intro p hp
  obtain⟨q,hq,rfl⟩:=List.mem_map.1 hp
  have:=h2 q hq
  simp[kidE,Lit.before]
  omega
theorem grow_mid (b mb:Nat)(num len last must:Int)(bad:Bool)(par fl:Value)(ka kb:List (Int×Nat))(e:Int)(w:World)(hb:Blk w b (node num len last must bad par fl (.map (some mb))))(hm:w.ownsMap Tryz.prog 2 ptrR mb (ka++kb).length (kidsD (ka++kb)))(he:(∀p∈ka,p.1<e)/\∀p∈kb,e<p.1)(hks:(ka++kb).length<=4000)(hl0:0<=len)(hl1:len<=100000)(hw:(Lit.int .i64 e).wf=true) :
  Calls Tryz.prog 41 #[ptr b,.int .i64 e] w λr w'=>r=.returned (ptr w.heap.size)/\Blk w' w.heap.size (node 0 (len+1) e (-1) false (ptr b) (.pointer none) (.map none))/\Blk w' b (node num len last must bad par fl (.map (some mb)))/\MK w' (.map (some mb)) (ka++(e,w.heap.size)::kb)/\But none (some mb) w w':=by
 have HB:Hid (Blk w b (node num len last must bad par fl (.map (some mb)))):=hb
 have HM:Hid (w.ownsMap Tryz.prog 2 ptrR mb (ka++kb).length (kidsD (ka++kb))):=hm
 have HE:Hid ((∀p∈ka,p.1<e)/\∀p∈kb,e<p.1):=he
 have HNE:Hid (b≠mb):=by
  intro e0
  subst e0
  obtain⟨t,h1⟩:=hb
  obtain⟨es,clock,h2,_⟩:=hm
  rw[h1] at h2
  simp at h2
 have HML:Hid (mb<w.heap.size):=hm.lt
 have k1:w.cell? ⟨b,1,none⟩=some (.int .i64 len):=hb.cell (i:=1) rfl
 have hlt:=hb.lt
 have hwl:IntKind.i64.wrap (len+1)=len+1:=by rw[IntKind.wrap_i64];omega
 clear hm he
 unfold ptr
 go_enter Tryz.func41,Tryz.ntmps41
 go_upto_region 2 with fail
 have HB1:Hid (Blk (w.alloc (.cells #[.int .i64 0,.int .i64 (len+1),.int .i64 e,.int .i64 (-1),.bool false,.pointer (some ⟨b,0,none⟩),.pointer none,.map none] 60)) b (node num len last must bad par fl (.map (some mb)))):=HB.out.alloc _
 have HBC:Hid (Blk (w.alloc (.cells #[.int .i64 0,.int .i64 (len+1),.int .i64 e,.int .i64 (-1),.bool false,.pointer (some ⟨b,0,none⟩),.pointer none,.map none] 60)) w.heap.size (node 0 (len+1) e (-1) false (ptr b) (.pointer none) (.map none))):=Blk.new w _ 60 _ rfl
 have HN1:Hid (Nx w (w.alloc (.cells #[.int .i64 0,.int .i64 (len+1),.int .i64 e,.int .i64 (-1),.bool false,.pointer (some ⟨b,0,none⟩),.pointer none,.map none] 60))):=box1 _ _
 have HM1:Hid ((w.alloc (.cells #[.int .i64 0,.int .i64 (len+1),.int .i64 e,.int .i64 (-1),.bool false,.pointer (some ⟨b,0,none⟩),.pointer none,.map none] 60)).ownsMap Tryz.prog 2 ptrR mb (ka++kb).length (kidsD (ka++kb))):=HM.out.alloc _
 clear hb k1
 generalize hw1:w.alloc (.cells #[.int .i64 0,.int .i64 (len+1),.int .i64 e,.int .i64 (-1),.bool false,.pointer (some ⟨b,0,none⟩),.pointer none,.map none] 60)=w1 at *
 clear hw1
 have k7:w1.cell? ⟨b,7,none⟩=some (.map (some mb)):=HB1.out.cell (i:=7) rfl
 have q53:∀(w:World) (r:Option Nat),(binOp .eql 58 (.map r) (.map none)).run Tryz.prog w=.ok (.bool r.isNone) w:=λw r=>run_eql_map_nil w _ _ _ r Tryz.underlying58
 go_wp2_with (at_mapUpdate;refine wpList_mapUpdate_own _ rfl _ _ _ 58 rfl 2 56 keyI Tryz.underlying58 ptrR mb (ka++kb).length (kidsD (ka++kb)) rfl HM1.out (by unfold maxLen;omega) (.int .i64 e) (.pointer (some ⟨w.heap.size,0,none⟩)) (.int .i64 e) rfl rfl (keyOf_int_mk Tryz.underlying2 hw) (.lit (.int .i64 (w.heap.size:Int))) [] rfl ?_)
 intro w4 hown hg
 have HM4:Hid (MK w4 (.map (some mb)) (ka++(e,w.heap.size)::kb)):=Or.inr ⟨_,rfl,by rw[kids_put2 _ HE.out.1 HE.out.2] at hown;rw[show(ka++(e,w.heap.size)::kb).length=ka.length+kb.length+1 by simp;omega];exact hown⟩
 have HC4:Hid (Blk w4 w.heap.size (node 0 (len+1) e (-1) false (ptr b) (.pointer none) (.map none))):=HBC.out.grownB hg (by intro e;have:=Option.some.inj e;have:=HML.out;omega)
 have HB4:Hid (Blk w4 b (node num len last must bad par fl (.map (some mb)))):=HB1.out.grownB hg (by intro e;exact HNE.out (Option.some.inj e))
 have HW4:Hid (But none (some mb) w w4):=(But.of_nx HN1.out).grow hg (λg hg=>Or.inr hg)
 clear hown hg k7
 go_wp2
 go_ret
 exact⟨rfl,HC4.out,HB4.out,HM4.out,HW4.out⟩
theorem growAt_any (b:Nat)(num len last must:Int)(bad:Bool)(par fl m:Value)(k1 k2:List (Int×Nat))(e:Int)(w:World)(hb:Blk w b (node num len last must bad par fl m))(hm:MK w m (k1++k2))(he:(∀p∈k1,p.1<e)/\∀p∈k2,e<p.1)(hks:(k1++k2).length<=4000)(hl0:0<=len)(hl1:len<=100000)(hw:(Lit.int .i64 e).wf=true) :
  Calls Tryz.prog 41 #[ptr b,.int .i64 e] w λr w'=>∃m',r=.returned (ptr w.heap.size)/\Blk w' w.heap.size (node 0 (len+1) e (-1) false (ptr b) (.pointer none) (.map none))/\Blk w' b (node num len last must bad par fl m')/\MK w' m' (k1++(e,w.heap.size)::k2)/\(mapBlk m'=mapBlk m\/mapBlk m'=some (w.heap.size+1))/\But (some b) (mapBlk m) w w':=by
 rcases hm with⟨rfl,hk⟩|⟨mb,rfl,hm⟩
 ·obtain⟨rfl,rfl⟩:=List.append_eq_nil_iff.1 hk
  refine(grow_nil b num len last must bad par fl e w hb hl0 hl1 hw).mono ?_
  rintro r w' ⟨h1,h2,h3,h4,h5⟩
  exact⟨_,h1,h2,h3,h4,Or.inr rfl,h5⟩
 ·refine(grow_mid b mb num len last must bad par fl k1 k2 e w hb hm he hks hl0 hl1 hw).mono ?_
  rintro r w' ⟨h1,h2,h3,h4,h5⟩
  exact⟨_,h1,h2,h3,h4,Or.inl rfl,⟨h5.os,h5.tape,h5.output,h5.size,λx hx _ hn=>h5.block x hx (by simp) hn⟩⟩
def upW {α:Type}(f:List Int->α)(k:List Int)(v:α):List Int->α:=λt=>if t=k then v else f t
theorem upW_at {α:Type}(f:List Int->α)(k:List Int)(v:α):upW f k v k=v:=by simp[upW]
theorem upW_ne {α:Type}(f:List Int->α){k t:List Int}(v:α)(h:t≠k):upW f k v t=f t:=by simp[upW,h]
theorem mem_in {ws:List (List Int)}{x:List Int}:x∈ws↔inW ws x:=by
 constructor
 ·intro h
  obtain⟨j,hj,e⟩:=List.mem_iff_getElem.1 h
  exact⟨j,hj,by simp[wd,List.getD,hj,e]⟩
 ·rintro⟨j,hj,e⟩
  rw[<-e]
  simp[wd,List.getD,hj]
structure PT (ws:List (List Int))(mu:List Int->Int)(bd:List Int->Bool)(B:Nat)(w:World)(bl:List Int->Nat)(mv:List Int->Value):Prop where
 nd:∀x,inW ws x->Blk w (bl x) (node 0 x.length (lastE x) (mu x) (bd x) (if x=[] then .pointer none else ptr (bl x.dropLast)) (.pointer none) (mv x))
 kd:∀x,inW ws x->MK w (mv x) (kidsW ws bl x)
 inj:∀x y,inW ws x->inW ws y->bl x=bl y->x=y
 ge:∀x,inW ws x->B<=bl x
 mge:∀x mb,inW ws x->mapBlk (mv x)=some mb->B<=mb
 ap:∀x y mb,inW ws x->inW ws y->mapBlk (mv x)=some mb->mapBlk (mv y)=some mb->x=y
theorem kidsW_congr {ws:List (List Int)}{bl bl':List Int->Nat}(h:∀x∈ws,bl' x=bl x)(x:List Int):kidsW ws bl' x=kidsW ws bl x:=by
 unfold kidsW
 exact List.map_congr_left λy hy=>by rw[h y (List.mem_filter.1 hy).1]
theorem kidsW_app (l1 l2:List (List Int))(bl:List Int->Nat)(x:List Int):kidsW (l1++l2) bl x=kidsW l1 bl x++kidsW l2 bl x:=by
 simp[kidsW,List.filter_append]
theorem kidsW_cons (y:List Int)(l:List (List Int))(bl:List Int->Nat)(x:List Int):kidsW (y::l) bl x=(if isKid x y then [(lastE y,bl y)] else [])++kidsW l bl x:=by
 unfold kidsW
 rw[List.filter_cons]
 by_cases h:isKid x y=true
 ·rw[if_pos h,if_pos h];rfl
 ·rw[if_neg h,if_neg h];rfl
theorem isKid_snoc (x z:List Int)(e:Int):isKid z (x++[e])=decide (z=x):=by
 unfold isKid
 rw[List.dropLast_concat]
 congr 1
 apply propext
 exact⟨λh=>h.2.symm,λh=>⟨by simp,h.symm⟩⟩
theorem kids_split {ws:List (List Int)}{bl:List Int->Nat}{x:List Int}{e:Int}{i:Nat}(hi:i<=ws.length)(hp:PlaceW ws (x++[e]) i i)(hn:¬inW ws (x++[e])) :
  kidsW ws bl x=kidsW (ws.take i) bl x++kidsW (ws.drop i) bl x/\(∀p∈kidsW (ws.take i) bl x,p.1<e)/\∀p∈kidsW (ws.drop i) bl x,e<p.1:=by
 refine⟨by rw[<-kidsW_app,List.take_append_drop],λp h=>?_,λp h=>?_⟩
 ·unfold kidsW at h
  obtain⟨y,hy,rfl⟩:=List.mem_map.1 h
  rw[List.mem_filter] at hy
  obtain⟨hy1,hy2⟩:=hy
  simp[isKid] at hy2
  obtain⟨j,hj,ej⟩:=List.mem_iff_getElem.1 hy1
  rw[List.length_take] at hj
  rw[List.getElem_take] at ej
  have hb:=hp.1 j (by omega)
  have e1:wd ws j=y:=by simp[wd,List.getD,show j<ws.length by omega,ej]
  rw[e1,snoc_of hy2.1,hy2.2,bef_snoc,bef_self] at hb
  simpa using hb
 ·unfold kidsW at h
  obtain⟨y,hy,rfl⟩:=List.mem_map.1 h
  rw[List.mem_filter] at hy
  obtain⟨hy1,hy2⟩:=hy
  simp[isKid] at hy2
  obtain⟨j,hj,ej⟩:=List.mem_iff_getElem.1 hy1
  rw[List.length_drop] at hj
  rw[List.getElem_drop] at ej
  have hb:=hp.2 (i+j) (by omega) (by omega)
  have e1:wd ws (i+j)=y:=by simp[wd,List.getD,show i+j<ws.length by omega,ej]
  have hne:y≠x++[e]:=λe'=>hn ⟨i+j,by omega,e1.trans e'⟩
  have hb2:=bef_tri hne (by rw[<-e1];exact hb)
  rw[snoc_of hy2.1,hy2.2,bef_snoc,bef_self] at hb2
  simpa using hb2
theorem kidsW_len (ws:List (List Int))(bl:List Int->Nat)(x:List Int):(kidsW ws bl x).length<=ws.length:=by
 unfold kidsW
 rw[List.length_map]
 exact List.length_filter_le _ _
theorem PT.grow {ws:List (List Int)}{mu:List Int->Int}{bd:List Int->Bool}{B:Nat}{w w':World}{bl:List Int->Nat}{mv:List Int->Value}(h:PT ws mu bd B w bl mv){x:List Int}{e:Int}{i:Nat}(hx:inW ws x)(hy:¬inW ws (x++[e]))(hd:∀x e,inW ws (x++[e])->inW ws x)(hi:i<=ws.length)(hp:PlaceW ws (x++[e]) i i)(hmu:mu (x++[e])=-1)(hbd:bd (x++[e])=false)(hB:B<=w.heap.size){m':Value}
  (b1:Blk w' w.heap.size (node 0 (x.length+1) e (-1) false (ptr (bl x)) (.pointer none) (.map none)))
  (b2:Blk w' (bl x) (node 0 x.length (lastE x) (mu x) (bd x) (if x=[] then .pointer none else ptr (bl x.dropLast)) (.pointer none) m'))
  (b3:MK w' m' (kidsW (ws.take i) bl x++(e,w.heap.size)::kidsW (ws.drop i) bl x)) (b4:mapBlk m'=mapBlk (mv x)\/mapBlk m'=some (w.heap.size+1)) (b5:But (some (bl x)) (mapBlk (mv x)) w w') :
  PT (insAt ws i (x++[e])) mu bd B w' (upW bl (x++[e]) w.heap.size) (upW (upW mv x m') (x++[e]) (.map none)):=by
 have hI:InsW ws (x++[e]) (insAt ws i (x++[e])):=Or.inr ⟨hy,i,hi,hp,rfl⟩
 have hxy:x≠x++[e]:=λe'=>by have:=congrArg List.length e';simp at this
 have hne:∀z,inW ws z->z≠x++[e]:=λz hz e'=>hy (e'▸hz)
 have hpar:∀z,inW ws z->z≠[]->inW ws z.dropLast:=λz hz h0=>hd _ (lastE z) (by rw[<-snoc_of h0];exact hz)
 have hlt:∀z,inW ws z->bl z<w.heap.size:=λz hz=>(h.nd z hz).lt
 have hbl:∀z∈ws,upW bl (x++[e]) w.heap.size z=bl z:=λz hz=>upW_ne _ _ (hne z (mem_in.1 hz))
 have hms:∀mb,mapBlk (upW (upW mv x m') (x++[e]) (.map none) (x++[e]))=some mb->False:=λmb e=>by rw[upW_at] at e;simp[mapBlk] at e
 have hmm:∀z mb,inW ws z->mapBlk (upW (upW mv x m') (x++[e]) (.map none) z)=some mb->mapBlk (mv z)=some mb\/(z=x/\mb=w.heap.size+1):=by
  intro z mb hz e1
  rw[upW_ne _ _ (hne z hz)] at e1
  by_cases hzx:z=x
  ·subst hzx
   rw[upW_at] at e1
   rcases b4 with b4|b4
   ·exact Or.inl (by rw[<-b4];exact e1)
   ·exact Or.inr ⟨rfl,by rw[b4] at e1;exact(Option.some.inj e1).symm⟩
  ·rw[upW_ne _ _ hzx] at e1
   exact Or.inl e1
 have hkid:∀z,kidsW (insAt ws i (x++[e])) (upW bl (x++[e]) w.heap.size) z=kidsW (ws.take i) bl z++((if z=x then [(e,w.heap.size)] else [])++kidsW (ws.drop i) bl z):=by
  intro z
  unfold insAt
  rw[kidsW_app,kidsW_cons,isKid_snoc,lastE_snoc,upW_at,kidsW_congr (λy hy=>hbl y (List.mem_of_mem_take hy)),kidsW_congr (λy hy=>hbl y (List.mem_of_mem_drop hy))]
  by_cases hz:z=x
  ·simp[hz]
  ·simp[hz]
 refine⟨λz hz=>?_,λz hz=>?_,λy z hy' hz e1=>?_,λz hz=>?_,λz mb hz e1=>?_,λy z mb hy' hz e1 e2=>?_⟩
 ·rcases (hI.mem z).1 hz with rfl|hz
  ·rw[upW_at,upW_at,if_neg (by simp),List.dropLast_concat,upW_ne _ _ hxy,hmu,hbd,lastE_snoc,List.length_append]
   exact b1
  ·have hq:(if z=[] then Value.pointer none else ptr (upW bl (x++[e]) w.heap.size z.dropLast))=(if z=[] then Value.pointer none else ptr (bl z.dropLast)):=by
    by_cases h0:z=[]
    ·rw[if_pos h0,if_pos h0]
    ·rw[if_neg h0,if_neg h0,upW_ne _ _ (hne _ (hpar z hz h0))]
   rw[hq,upW_ne _ _ (hne z hz),upW_ne _ _ (hne z hz)]
   by_cases hzx:z=x
   ·subst hzx
    rw[upW_at]
    exact b2
   ·rw[upW_ne _ _ hzx]
    exact(h.nd z hz).keep b5 (λe1=>hzx (h.inj z x hz hx (Option.some.inj e1))) (λe1=>(h.kd x hx).ne e1.symm (h.nd z hz) rfl)
 ·rw[hkid]
  rcases (hI.mem z).1 hz with rfl|hz
  ·rw[upW_at,if_neg (λe'=>hxy e'.symm)]
   refine Or.inl ⟨rfl,?_⟩
   have hno:∀l:List (List Int),(∀y∈l,y∈ws)->kidsW l bl (x++[e])=[]:=by
    intro l hl
    unfold kidsW
    rw[List.map_eq_nil_iff,List.filter_eq_nil_iff]
    intro y hy1 hy2
    simp[isKid] at hy2
    exact hy (hy2.2▸hpar y (mem_in.1 (hl y hy1)) hy2.1)
   rw[hno _ (λy hy=>List.mem_of_mem_take hy),hno _ (λy hy=>List.mem_of_mem_drop hy)]
   rfl
  ·rw[upW_ne _ _ (hne z hz)]
   by_cases hzx:z=x
   ·subst hzx
    rw[upW_at,if_pos rfl]
    exact b3
   ·rw[upW_ne _ _ hzx,if_neg hzx,List.nil_append,<-kidsW_app,List.take_append_drop]
    refine(h.kd z hz).keep b5 λmb e1=>⟨λe'=>?_,λe'=>?_⟩
    ·exact(h.kd z hz).ne e1 (h.nd x hx) (Option.some.inj e')
    ·exact hzx (h.ap z x mb hz hx e1 e'.symm)
 ·rcases (hI.mem y).1 hy' with rfl|hy'
  ·rcases (hI.mem z).1 hz with rfl|hz
   ·rfl
   ·rw[upW_at,upW_ne _ _ (hne z hz)] at e1
    have:=hlt z hz
    omega
  ·rcases (hI.mem z).1 hz with rfl|hz
   ·rw[upW_at,upW_ne _ _ (hne y hy')] at e1
    have:=hlt y hy'
    omega
   ·rw[upW_ne _ _ (hne z hz),upW_ne _ _ (hne y hy')] at e1
    exact h.inj y z hy' hz e1
 ·rcases (hI.mem z).1 hz with rfl|hz
  ·rw[upW_at];exact hB
  ·rw[upW_ne _ _ (hne z hz)];exact h.ge z hz
 ·rcases (hI.mem z).1 hz with rfl|hz
  ·exact(hms mb e1).elim
  ·rcases hmm z mb hz e1 with h2|⟨_,h2⟩
   ·exact h.mge z mb hz h2
   ·omega
 ·rcases (hI.mem y).1 hy' with rfl|hy'
  ·exact(hms mb e1).elim
  ·rcases (hI.mem z).1 hz with rfl|hz
   ·exact(hms mb e2).elim
   ·rcases hmm y mb hy' e1 with h2|⟨h2,h2'⟩
    ·rcases hmm z mb hz e2 with h3|⟨h3,h3'⟩
     ·exact h.ap y z mb hy' hz h2 h3
     ·have:=(h.kd y hy').lt h2
      omega
    ·rcases hmm z mb hz e2 with h3|⟨h3,h3'⟩
     ·have:=(h.kd z hz).lt h3
      omega
     ·rw[h2,h3]
theorem PT.ask {ws:List (List Int)}{mu:List Int->Int}{bd:List Int->Bool}{B:Nat}{w:World}{bl:List Int->Nat}{mv:List Int->Value}(h:PT ws mu bd B w bl mv){x:List Int}(hx:inW ws x)(z:Int):PT ws (upW mu x z) bd B (w.setCell ⟨bl x,3,none⟩ (.int .i64 z)) bl mv:=by
 refine⟨λy hy=>?_,λy hy=>(h.kd y hy).set (h.nd x hx) _ _,h.inj,h.ge,h.mge,h.ap⟩
 by_cases e:y=x
 ·subst e
  rw[upW_at]
  exact(h.nd y hy).set 3 _
 ·rw[upW_ne _ _ e]
  exact(h.nd y hy).setOther (λe'=>e (h.inj y x hy hx e')) _ _
theorem PT.ban {ws:List (List Int)}{mu:List Int->Int}{bd:List Int->Bool}{B:Nat}{w:World}{bl:List Int->Nat}{mv:List Int->Value}(h:PT ws mu bd B w bl mv){x:List Int}(hx:inW ws x)(z:Bool):PT ws mu (upW bd x z) B (w.setCell ⟨bl x,4,none⟩ (.bool z)) bl mv:=by
 refine⟨λy hy=>?_,λy hy=>(h.kd y hy).set (h.nd x hx) _ _,h.inj,h.ge,h.mge,h.ap⟩
 by_cases e:y=x
 ·subst e
  rw[upW_at]
  exact(h.nd y hy).set 4 _
 ·rw[upW_ne _ _ e]
  exact(h.nd y hy).setOther (λe'=>e (h.inj y x hy hx e')) _ _
theorem PT.next {ws:List (List Int)}{mu:List Int->Int}{bd:List Int->Bool}{B:Nat}{w w':World}{bl:List Int->Nat}{mv:List Int->Value}(h:PT ws mu bd B w bl mv)(k:Nx w w'):PT ws mu bd B w' bl mv:=
 ⟨λy hy=>(h.nd y hy).next k,λy hy=>(h.kd y hy).keep (o:=none) (o':=none) (But.of_nx k) (λmb _=>⟨by simp,by simp⟩),h.inj,h.ge,h.mge,h.ap⟩
theorem PT.trie {ws:List (List Int)}{mu:List Int->Int}{bd:List Int->Bool}{B:Nat}{w:World}{bl:List Int->Nat}{mv:List Int->Value}(h:PT ws mu bd B w bl mv)(hW:WS ws)(hm:mu []=-1)(hb:bd []=false) :
  TR (autoOf ws mu bd) ws.length 1 w (λs=>bl (wd ws s)) (λ_=>.pointer none) (λs=>mv (wd ws s)) (λ_=>0):=by
 refine⟨λs hs=>?_,λs hs=>?_,rfl,λs h1 h2=>by omega,λs t hs ht e=>?_⟩
 ·have hn:=h.nd (wd ws s) ⟨s,hs,rfl⟩
  rw[auto_wd hW hs,auto_la hs,auto_mu hs,auto_bd hs]
  by_cases h0:s=0
  ·subst h0
   rw[if_pos rfl,if_pos rfl,if_pos rfl]
   rw[hW.root] at hn ⊢
   rw[hm,hb,if_pos rfl] at hn
   exact hn
  ·obtain⟨t,ht,et,hst,_⟩:=hW.par (by omega) hs
   rw[if_neg h0,if_neg h0,if_neg h0,auto_pa hW (by omega) hs hst,Int.toNat_natCast,et]
   rw[if_neg (hW.ne (by omega) hs)] at hn
   exact hn
 ·rw[kids_words hW bl hs]
  exact h.kd _ ⟨s,hs,rfl⟩
 ·exact asc_inj hW.asc hs ht (h.inj _ _ ⟨s,hs,rfl⟩ ⟨t,ht,rfl⟩ e)
theorem joinMusts_any (a b:Int)(w:World):Calls Tryz.prog 55 #[.int .i64 a,.int .i64 b] w λr w'=>r=.returned (.int .i64 (jm a b))/\w'=w:=by
 have HJ:Hid (jm a b=if a=-1\/a=b then b else if b=-1 then a else -2):=rfl
 by_cases h1:a=-1
 ·have d1:(a==-1)=true:=by simpa using h1
  have HF:Hid (b=jm a b):=by unfold Hid;rw[HJ.out,if_pos (Or.inl h1)]
  clear h1
  go_enter Tryz.func55,Tryz.ntmps55
  go_wp2
  go_ret
  exact⟨ret_int HF.out,rfl⟩
 have d1:(a==-1)=false:=by simpa using h1
 by_cases h2:a=b
 ·have d2:(a==b)=true:=by simpa using h2
  have HF:Hid (b=jm a b):=by unfold Hid;rw[HJ.out,if_pos (Or.inr h2)]
  clear h1 h2
  go_enter Tryz.func55,Tryz.ntmps55
  go_wp2
  go_ret
  exact⟨ret_int HF.out,rfl⟩
 have d2:(a==b)=false:=by simpa using h2
 by_cases h3:b=-1
 ·have d3:(b==-1)=true:=by simpa using h3
  have HF:Hid (a=jm a b):=by unfold Hid;rw[HJ.out,if_neg (by rintro(h|h);exact h1 h;exact h2 h),if_pos h3]
  clear h1 h2 h3
  go_enter Tryz.func55,Tryz.ntmps55
  go_wp2
  go_ret
  exact⟨ret_int HF.out,rfl⟩
 have d3:(b==-1)=false:=by simpa using h3
 have HF:Hid (-2=jm a b):=by unfold Hid;rw[HJ.out,if_neg (by rintro(h|h);exact h1 h;exact h2 h),if_neg h3]
 clear h1 h2 h3
 go_enter Tryz.func55,Tryz.ntmps55
 go_wp2
 go_ret
 exact⟨ret_int HF.out,rfl⟩
theorem noE_edge (e:Int):noE e=!edgeB e:=by
 unfold noE edgeB
 by_cases h1:0<=e
 ·by_cases h2:e<4000
  ·simp[h1,h2]
  ·simp[h1,h2];omega
 ·simp[h1];omega
def allE (zs:List Int):Bool:=allN zs.length (λj=>edgeB (iat zs j))
theorem indexFunc_any (B:Nat)(v:Value)(zs:List Int)(w:World)(h0:HInts B w v zs) :
  Calls Tryz.prog 64 #[v,.func (.func 42) #[] #[]] w λe w'=>∃r:Int,e=.returned (.int .i64 r)/\decide (0<=r)=!allE zs/\w'=w:=by
 obtain⟨a,cap,rfl,hn,hk⟩:=h0
 unfold maxLen at hn
 generalize hz:zs.length=n at *
 have HZ:Hid (zs.length=n):=hz
 clear hz
 go_enter Tryz.func64,Tryz.ntmps64
 go_wp2
 go_loop [8] (λi=>∃k:Nat,k<=n/\i=.int .i64 k/\Hid (allTo (λi=>edgeB (iat zs i)) k)) (λi=>n-(intOf i).toNat)
 case atStart=>exact⟨0,Nat.zero_le _,rfl,allTo_zero _⟩
 case round=>
  obtain⟨k,hkn,rfl,hrel⟩:=hrel
  by_cases hlt:k<n
  ·obtain⟨b,off,rfl,hB,hb,hc⟩:=hk (by omega)
   have hcc:=hc k hlt
   clear hc hk
   by_cases hin:edgeB (iat zs k)=true
   ·have hno:noE (iat zs k)=false:=by rw[noE_edge,hin];rfl
    go_wp2_with (go_at_call 42;refine(noEdge_any _ _).mono ?_;rintro e w' ⟨rfl,rfl⟩)
    go_round
    case rel=>exact⟨k+1,by omega,by go_num,allTo_succ hrel hin⟩
    case measure=>simp[intOf];omega
   ·have hin':edgeB (iat zs k)=false:=by simpa using hin
    have hno:noE (iat zs k)=true:=by rw[noE_edge,hin'];rfl
    go_wp2_with (go_at_call 42;refine(noEdge_any _ _).mono ?_;rintro e w' ⟨rfl,rfl⟩)
    go_ret
    exact⟨k,rfl,by unfold allE;rw[allN_no (by rw[HZ.out];exact hlt) hin'];simp,rfl⟩
  ·go_wp2
   go_ret
   exact⟨-1,rfl,by unfold allE;rw[allN_yes (by rw[HZ.out];omega) hrel];rfl,rfl⟩
theorem containsFunc_any (B:Nat)(v:Value)(zs:List Int)(w:World)(h0:HInts B w v zs) :
  Calls Tryz.prog 49 #[v,.func (.func 42) #[] #[]] w λe w'=>e=.returned (.bool (!allE zs))/\w'=w:=by
 go_enter Tryz.func49,Tryz.ntmps49
 go_wp2_with fail
 refine(indexFunc_any B _ zs _ h0).mono ?_
 rintro e w' ⟨r,rfl,hr,rfl⟩
 go_wp2
 go_ret
 exact⟨rfl,rfl⟩
theorem validRules_any (B:Nat)(v:Value)(rs:List Ru)(w:World)(h0:HRules B w v rs) :
  Calls Tryz.prog 30 #[v] w λe w'=>e=.returned (.bool (rgB rs))/\Nx w w':=by
 obtain⟨a,cap,rfl,hn,hk⟩:=h0
 unfold maxLen at hn
 generalize hz:rs.length=n at *
 have HZ:Hid (rs.length=n):=hz
 clear hz
 by_cases e1:n<=1000
 case neg=>
  have d1:decide (1000<(n:Int))=true:=by simp;omega
  have HF:Hid (false=rgB rs):=rg_len (by rw[HZ.out];exact e1)
  go_enter Tryz.func30,Tryz.ntmps30
  go_wp2
  go_ret
  exact⟨ret_bool HF.out,Nx.refl _⟩
 have d1:decide (1000<(n:Int))=false:=by simp;omega
 go_enter Tryz.func30,Tryz.ntmps30
 go_wp2
 clear d1
 go_loopw [4,5,11] (λ_ _ i wr=>∃k:Nat,k<=n/\i=.int .i64 k/\Hid (allTo (λi=>rgAt (ratA rs i)) k)/\Hid (Nx w wr)) (λ_ _ i _=>n-(intOf i).toNat)
 case atStart=>exact⟨0,Nat.zero_le _,rfl,allTo_zero _,Nx.refl _⟩
 obtain⟨k,hkn,rfl,HA,HN⟩:=hrel
 by_cases hlt:k<n
 case neg=>
  have HF:Hid (true=rgB rs):=rg_yes HZ.out e1 (by omega) HA.out
  go_wp2
  go_ret
  exact⟨ret_bool HF.out,HN.out⟩
 obtain⟨b,off,rfl,_,hb,hc⟩:=hk (by omega)
 obtain⟨sa,sc,c0',c1',c2',hS,hcap⟩:=hc k hlt
 have c0:=cellq' HN.out c0'
 have c1:=cellq' HN.out c1'
 have c2:=cellq' HN.out c2'
 have hlt':(k:Int)<n:=by omega
 have HS:Hid (HInts B w (.slice sa (ratA rs k).seq.length sc) (ratA rs k).seq):=hS
 have HRG:Hid (rgAt (ratA rs k)=(decide (2<=(ratA rs k).seq.length)&&(decide ((ratA rs k).seq.length<=402)&&allE (ratA rs k).seq))):=rfl
 have HNA:Hid (allTo (λi=>rgAt (ratA rs i)) k):=HA
 clear hc hk c0' c1' c2' hS HA
 generalize hx:ratA rs k=x at *
 have HX:Hid (ratA rs k=x):=hx
 clear hx
 have hsn:x.seq.length<=maxLen:=by obtain⟨_,_,_,h,_⟩:=HS.out;exact h
 unfold maxLen at hsn
 generalize hm:x.seq.length=m at *
 have HM:Hid (x.seq.length=m):=hm
 clear hm
 have HB1:Hid (Nx wr (wr.alloc (.cells #[.int .i64 x.rel,.bool x.only,.slice sa m sc] 36))):=box1 _ _
 by_cases g1:2<=m
 case neg=>
  have f1:decide ((m:Int)<2)=true:=by simp;omega
  have HF:Hid (false=rgB rs):=rg_no HZ.out hlt (by rw[HX.out,HRG.out];simp[g1])
  go_wp2
  go_ret
  exact⟨ret_bool HF.out,HN.out.trans HB1.out⟩
 have f1:decide ((m:Int)<2)=false:=by simp;omega
 by_cases g2:m<=402
 case neg=>
  have f2:decide (402<(m:Int))=true:=by simp;omega
  have HF:Hid (false=rgB rs):=rg_no HZ.out hlt (by rw[HX.out,HRG.out];simp[g2])
  go_wp2
  go_ret
  exact⟨ret_bool HF.out,HN.out.trans HB1.out⟩
 have f2:decide (402<(m:Int))=false:=by simp;omega
 go_wp2_with fail
 refine(containsFunc_any B _ x.seq _ (by exact(HS.out.next HN.out).next HB1.out)).mono ?_
 rintro e w1 ⟨rfl,rfl⟩
 cases g3:allE x.seq
 case false=>
  have HF:Hid (false=rgB rs):=rg_no HZ.out hlt (by rw[HX.out,HRG.out,g3];simp)
  clear g3
  go_wp2
  go_ret
  exact⟨ret_bool HF.out,HN.out.trans HB1.out⟩
 case true=>
  have HF:Hid (rgAt x=true):=by unfold Hid;rw[HRG.out,g3];simp[g1,g2]
  clear g3
  go_wp2
  go_roundw
  case rel=>exact⟨k+1,by omega,by go_num,allTo_succ HNA.out (by show rgAt (ratA rs k)=true;rw[HX.out];exact HF.out),HN.out.trans HB1.out⟩
  case measure=>simp[intOf];omega
end Go.Proofs.YtdpfdkihbgmapaaGreat
