import Derived.Test.YtdpfdkihbgmapaaXCB
import Derived.Test.YtdpfdkihbgmapaaXBG
namespace Go.Proofs.Ytdpfdkihbgmapaa
open Go.RowKit Go.Maps
set_option linter.unusedVariables false
set_option maxRecDepth 1000000
set_option maxHeartbeats 16000000
structure WS (ws:List (List Int)):Prop where
 asc:AscW ws
 nil:inW ws []
 down:∀x e,inW ws (x++[e])->inW ws x
 edge:∀x e,inW ws (x++[e])->0<=e/\e<4000
def lastE (x:List Int):Int:=x.getLast?.getD (-1)
theorem lastE_snoc (x:List Int)(e:Int):lastE (x++[e])=e:=by simp[lastE]
theorem snoc_of {x:List Int}(h:x≠[]):x=x.dropLast++[lastE x]:=by
 have h1:=List.dropLast_concat_getLast h
 have h2:lastE x=x.getLast h:=by
  conv=>lhs;rw[<-h1]
  exact lastE_snoc _ _
 rw[h2];exact h1.symm
theorem asc_inj {ws:List (List Int)}(ha:AscW ws){i j:Nat}(hi:i<ws.length)(hj:j<ws.length)(e:wd ws i=wd ws j):i=j:=by
 rcases Nat.lt_trichotomy i j with h|h|h
 ·have:=ha i j h hj
  rw[e,bef_self] at this;cases this
 ·exact h
 ·have:=ha j i h hi
  rw[e,bef_self] at this;cases this
theorem st_at {ws:List (List Int)}(ha:AscW ws){j:Nat}{x:List Int}(hj:j<ws.length)(e:wd ws j=x):stW ws x=j:=by
 unfold stW
 exact findA_one (Nat.zero_le _) (by omega) (by simpa using e) (λb _ hb=>by
  simp
  intro e'
  have:=asc_inj ha (by omega) hj (e'.trans e.symm)
  omega)
theorem bef_len {x y:List Int}(h:befB x y=true):x.length<=y.length:=by
 unfold befB at h
 by_cases c:x.length=y.length
 ·omega
 ·rw[if_neg c] at h;simp at h;omega
theorem WS.pos {ws:List (List Int)}(h:WS ws):0<ws.length:=by
 obtain⟨j,hj,_⟩:=h.nil;omega
theorem WS.root {ws:List (List Int)}(h:WS ws):wd ws 0=[]:=by
 obtain⟨j,hj,e⟩:=h.nil
 by_cases h0:j=0
 ·subst h0;exact e
 ·have h1:=h.asc 0 j (by omega) hj
  rw[e] at h1
  have h2:=bef_len h1
  exact List.length_eq_zero_iff.1 (by simpa using h2)
theorem WS.ne {ws:List (List Int)}(h:WS ws){s:Nat}(h1:1<=s)(hs:s<ws.length):wd ws s≠[]:=λe=>by
 have:=asc_inj h.asc hs h.pos (e.trans h.root.symm)
 omega
theorem WS.par {ws:List (List Int)}(h:WS ws){s:Nat}(h1:1<=s)(hs:s<ws.length):∃t,t<s/\wd ws t=(wd ws s).dropLast/\stW ws (wd ws s).dropLast=t/\wd ws s=wd ws t++[lastE (wd ws s)]/\0<=lastE (wd ws s)/\lastE (wd ws s)<4000:=by
 have hn:=h.ne h1 hs
 have e:=snoc_of hn
 have hin:inW ws ((wd ws s).dropLast++[lastE (wd ws s)]):=⟨s,hs,e⟩
 obtain⟨t,ht,et⟩:=h.down _ _ hin
 refine⟨t,?_,et,st_at h.asc ht et,by rw[et];exact e,h.edge _ _ hin⟩
 rcases Nat.lt_trichotomy t s with c|c|c
 ·exact c
 ·subst c
  have:(wd ws t).length=(wd ws t).dropLast.length:=by rw[<-et]
  rw[List.length_dropLast] at this
  have:0<(wd ws t).length:=List.length_pos_iff.2 hn
  omega
 ·have:=bef_len (h.asc s t c ht)
  rw[et,List.length_dropLast] at this
  have:0<(wd ws s).length:=List.length_pos_iff.2 hn
  omega
def autoOf (ws:List (List Int))(mu:List Int->Int)(bd:List Int->Bool):Au:=
 ⟨ws.map (λx=>if x=[] then -1 else stW ws x.dropLast),ws.map lastE,ws.map (λx=>if x=[] then -1 else LW ws x 1),ws.map mu,ws.map bd⟩
section
variable {ws:List (List Int)}{mu:List Int->Int}{bd:List Int->Bool}
end
def jm (a b:Int):Int:=if a=-1\/a=b then b else if b=-1 then a else -2
def MustIs (P:Int->Prop)(m:Int):Prop:=(m=-1/\∀e,¬P e)\/(0<=m/\P m/\∀e,P e->e=m)\/(m=-2/\∃e f,P e/\P f/\e≠f)
theorem MustIs.join {P Q:Int->Prop}{a b:Int}(h:MustIs P a)(k:MustIs Q b):MustIs (λe=>P e\/Q e) (jm a b):=by
 unfold jm
 rcases h with⟨h1,h2⟩|⟨h1,h2,h3⟩|⟨h1,e,f,h2,h3,h4⟩
 ·rw[if_pos (Or.inl h1)]
  rcases k with⟨k1,k2⟩|⟨k1,k2,k3⟩|⟨k1,e,f,k2,k3,k4⟩
  ·exact Or.inl ⟨k1,λe he=>he.elim (h2 e) (k2 e)⟩
  ·exact Or.inr (Or.inl ⟨k1,Or.inr k2,λe he=>he.elim (λh=>absurd h (h2 e)) (k3 e)⟩)
  ·exact Or.inr (Or.inr ⟨k1,e,f,Or.inr k2,Or.inr k3,k4⟩)
 ·rcases k with⟨k1,k2⟩|⟨k1,k2,k3⟩|⟨k1,e,f,k2,k3,k4⟩
  ·rw[if_neg (by omega),if_pos k1]
   exact Or.inr (Or.inl ⟨h1,Or.inl h2,λe he=>he.elim (h3 e) (λh=>absurd h (k2 e))⟩)
  ·by_cases c:a=b
   ·rw[if_pos (Or.inr c)]
    exact Or.inr (Or.inl ⟨k1,Or.inr k2,λe he=>he.elim (λh=>(h3 e h).trans c) (k3 e)⟩)
   ·rw[if_neg (by omega),if_neg (by omega)]
    exact Or.inr (Or.inr ⟨rfl,a,b,Or.inl h2,Or.inr k2,c⟩)
  ·rw[if_neg (by omega),if_neg (by omega)]
   exact Or.inr (Or.inr ⟨rfl,e,f,Or.inr k2,Or.inr k3,k4⟩)
 ·by_cases c:a=b
  ·rw[if_pos (Or.inr c)]
   exact Or.inr (Or.inr ⟨by omega,e,f,Or.inl h2,Or.inl h3,h4⟩)
  ·rw[if_neg (by omega)]
   by_cases d:b=-1
   ·rw[if_pos d];exact Or.inr (Or.inr ⟨h1,e,f,Or.inl h2,Or.inl h3,h4⟩)
   ·rw[if_neg d];exact Or.inr (Or.inr ⟨rfl,e,f,Or.inl h2,Or.inl h3,h4⟩)
theorem MustIs.congr {P Q:Int->Prop}{a:Int}(h:MustIs P a)(e:∀x,P x↔Q x):MustIs Q a:=by
 have:P=Q:=funext λx=>propext (e x)
 rw[<-this];exact h
theorem MustIs.one {e:Int}(h:0<=e):MustIs (λx=>x=e) e:=Or.inr (Or.inl ⟨h,rfl,λ_ h=>h⟩)
theorem MustIs.none:MustIs (λ_=>False) (-1):=Or.inl ⟨rfl,λ_ h=>h⟩
theorem rg_at {rs:List Ru}(h:rgB rs=true){i:Nat}(hi:i<rs.length):2<=(ratA rs i).seq.length/\(ratA rs i).seq.length<=402/\∀j,j<(ratA rs i).seq.length->0<=iat (ratA rs i).seq j/\iat (ratA rs i).seq j<4000:=by
 unfold rgB at h
 rw[Bool.and_eq_true] at h
 have h1:=List.all_eq_true.1 h.2 i (List.mem_range.2 hi)
 unfold rgAt at h1
 rw[Bool.and_eq_true,Bool.and_eq_true,decide_eq_true_eq,decide_eq_true_eq] at h1
 refine⟨h1.1,h1.2.1,λj hj=>?_⟩
 have h2:=List.all_eq_true.1 h1.2.2 j (List.mem_range.2 hj)
 unfold edgeB at h2
 simpa using h2
theorem most_le (x:Ru):most x<=x.seq.length:=by unfold most;split<;>omega
theorem take_of_snoc {x s:List Int}{e:Int}{q:Nat}(hq:q<=s.length)(h:x++[e]=s.take q):1<=q/\x=s.take (q-1)/\e=iat s (q-1):=by
 have hl:x.length+1=q:=by
  have:=congrArg List.length h
  rw[List.length_append,List.length_take] at this
  simp at this;omega
 refine⟨by omega,?_,?_⟩
 ·have h1:=congrArg (List.take (q-1)) h
  rw[List.take_append_of_le_length (by omega),List.take_of_length_le (by omega),List.take_take] at h1
  rw[h1];congr 1;omega
 ·have h1:(x++[e])[x.length]?=(s.take q)[x.length]?:=by rw[h]
  rw[List.getElem?_append_right (Nat.le_refl _),List.getElem?_take_of_lt (by omega),Nat.sub_self,List.getElem?_eq_getElem (show x.length<s.length by omega)] at h1
  have h2:x.length=q-1:=by omega
  rw[<-h2,iat_eq (by omega)]
  simpa using h1
theorem ws_of_pw {rs:List Ru}{i k:Nat}{ws:List (List Int)}(hg:rgB rs=true)(hi:i<=rs.length)(hk:k<=1\/(i<rs.length/\k<=(ratA rs i).seq.length+1))(ha:AscW ws)(h:∀y,inW ws y↔PW rs i k y):WS ws:=by
 have key:∀x e,PW rs i k (x++[e])->PW rs i k x/\0<=e/\e<4000:=by
  rintro x e (h1|⟨j,hj,q,h1,h2,h3⟩|⟨q,h1,h2,h3⟩)
  ·simp at h1
  ·have hr:=rg_at hg (show j<rs.length by omega)
   have hm:=most_le (ratA rs j)
   obtain⟨_,e1,e2⟩:=take_of_snoc (by omega) h3
   refine⟨?_,by rw[e2];exact hr.2.2 _ (by omega)⟩
   by_cases c:q=1
   ·subst c;left;rw[e1];simp
   ·right;left;exact⟨j,hj,q-1,by omega,by omega,e1⟩
  ·rcases hk with hk|⟨hk1,hk2⟩
   ·omega
   ·have hr:=rg_at hg hk1
    obtain⟨_,e1,e2⟩:=take_of_snoc (by omega) h3
    refine⟨?_,by rw[e2];exact hr.2.2 _ (by omega)⟩
    by_cases c:q=1
    ·subst c;left;rw[e1];simp
    ·right;right;exact⟨q-1,by omega,by omega,e1⟩
 exact⟨ha,(h []).2 (Or.inl rfl),λx e hx=>(h x).2 (key x e ((h _).1 hx)).1,λx e hx=>(key x e ((h _).1 hx)).2⟩
theorem ws_of_wi {rs:List Ru}{ws:List (List Int)}(hg:rgB rs=true)(h:WI rs rs.length 1 ws)(hl:ws.length<=2000):WS ws:=
 ws_of_pw hg (Nat.le_refl _) (Or.inl (Nat.le_refl _)) h.asc λy=>⟨h.yes y,h.all hl y⟩
theorem pw_len {rs:List Ru}{i k:Nat}{y:List Int}(hg:rgB rs=true)(hi:i<=rs.length)(hk:k<=1\/i<rs.length)(h:PW rs i k y):y.length<=402:=by
 rcases h with h1|⟨j,hj,q,h1,h2,h3⟩|⟨q,h1,h2,h3⟩
 ·rw[h1];simp
 ·have hr:=rg_at hg (show j<rs.length by omega)
  rw[h3,List.length_take];omega
 ·rcases hk with hk|hk
  ·omega
  ·have hr:=rg_at hg hk
   rw[h3,List.length_take];omega
theorem wi_len {rs:List Ru}{ws:List (List Int)}(hg:rgB rs=true)(h:WI rs rs.length 1 ws){s:Nat}(hs:s<ws.length):(wd ws s).length<=402:=pw_len hg (Nat.le_refl _) (Or.inl (Nat.le_refl _)) (h.yes _ ⟨s,hs,rfl⟩)
end Go.Proofs.Ytdpfdkihbgmapaa
