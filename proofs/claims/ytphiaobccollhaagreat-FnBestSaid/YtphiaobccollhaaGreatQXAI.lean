import Derived.Test.YtphiaobccollhaaGreatQLB
import Derived.LaidEqlPtr
namespace Go.Proofs.YtphiaobccollhaaGreat
open Go.RowKit
set_option linter.unusedVariables false
set_option maxRecDepth 1000000
set_option maxHeartbeats 16000000
variable {A:Au}{k n s:Nat}{ws:List (List Int)}{x:List Int}
def wsA (A:Au):List (List Int):=(Qr A A.pa.length).1
theorem Q55 (h:Qr A (s+1)=(ws,true)):wd ws 0=[]:=by
 induction s generalizing ws with
 |zero=>
  rw[Qr] at h
  split at h
  ·obtain⟨rfl,_⟩:=Prod.mk.inj h
   rfl
  ·obtain⟨_,h2⟩:=Prod.mk.inj h
   simp at h2
 |succ s ih=>
  rw[Qr] at h
  split at h
  ·rename_i hc
   simp only[zG] at hc
   have h1:=ih (ws:=(Qr A (s+1)).1) (by rw[<-hc.1])
   have hl:=Gi.1 hc.1
   obtain⟨rfl,_⟩:=Prod.mk.inj h
   rw[Ut (by omega)]
   exact h1
  ·obtain⟨_,h2⟩:=Prod.mk.inj h
   simp at h2
theorem Q6t (h:Wb A=true):Qey A (wsA A) A.pa.length/\A.la.length=A.pa.length/\A.fa.length=A.pa.length/\1<=A.pa.length:=by
 unfold Wb at h
 simp only[zG] at h
 obtain⟨h1,h2,h3,h4,h5,h6⟩:=h
 unfold Gs at h1
 simp only[zG,decide_eq_true_eq,beq_iff_eq] at h1
 obtain⟨q1,q2,q3,q4,q5,q6⟩:=h1
 have hs:Qr A A.pa.length=(wsA A,true):=by rw[<-h2];rfl
 have hl:(wsA A).length=A.pa.length:=Gi.1 h2
 obtain⟨m,hm⟩:∃m,A.pa.length=m+1:=⟨A.pa.length-1,by omega⟩
 have hz:wd (wsA A) 0=[]:=by rw[hm] at hs;exact Q55 hs
 refine⟨⟨hl,q5,q6,q2,Q8p hs,Q0e hs,?_⟩,q3,q4,q1⟩
 have:stW (wsA A) []=((0:Nat):Int):=Wt lR (by omega) (by rw[hz];rfl) (λb _ hb=>absurd hb (zK _))
 rw[this]
 omega
def wl (A:Au):Nat->List (List Int)
 |0=>[]
 |s+1=>wl A s++[if s=0 then [] else nw A (wl A s) s]
theorem E9 (A:Au)(s:Nat):(wl A s).length=s:=by
 induction s with
 |zero=>rfl
 |succ s ih=>rw[wl,zA,ih];rfl
def Wd (A:Au)(s:Nat):List Int:=if s=0 then [] else nw A (wl A s) s
theorem I4 {m:Nat}(h:s<m):wd (wl A m) s=Wd A s:=by
 induction m with
 |zero=>omega
 |succ m ih=>
  rw[wl]
  by_cases e:s<m
  ·rw[Ut (by rw[E9];exact e)]
   exact ih e
  ·have:s=m:=by omega
   subst this
   rw[Ea (by rw[E9])]
   rfl
theorem Q2q (A:Au):Wd A 0=[]:=rfl
theorem Q5m (h:okR A s=true):0<=iat A.pa s/\iat A.pa s<s/\0<=iat A.la s/\iat A.la s<4000:=by
 simp only[okR,zG,decide_eq_true_eq] at h
 omega
theorem E6 (h:okR A s=true)(h0:1<=s):Wd A s=Wd A (iat A.pa s).toNat++[iat A.la s]:=by
 have:=Q5m h
 unfold Wd
 rw[if_neg (by omega)]
 unfold nw
 rw[I4 (by omega)]
 rfl
theorem Q0f (A:Au)(s:Nat):(Qr A s).2=Qo s (λt=>okS A (wl A t) t)/\((Qr A s).2=true->Qr A s=(wl A s,true)):=by
 induction s with
 |zero=>exact⟨rfl,λ_=>rfl⟩
 |succ s ih=>
  have ea:Qo (s+1) (λt=>okS A (wl A t) t)=(Qo s (λt=>okS A (wl A t) t)&&okS A (wl A s) s):=by
   unfold Qo
   rw[List.range_succ,List.all_append]
   simp
  rw[ea,<-ih.1]
  cases hf:(Qr A s).2 with
  |false=>
   rw[Qr,hf]
   simp
  |true=>
   have hs:=ih.2 hf
   rw[Qr,hs]
   simp only[Bool.true_and]
   by_cases ho:okS A (wl A s) s=true
   ·rw[if_pos ho]
    exact⟨ho.symm,λ_=>rfl⟩
   ·rw[if_neg ho]
    exact⟨by simp at ho;rw[ho],λh=>by simp at h⟩
theorem Qba {y:List Int}(a b:Int)(h:x.length=y.length):Zt (x++[a]) (y++[b])=(Zt x y||(decide (x=y)&&decide (a<b))):=by
 induction x generalizing y with
 |nil=>
  match y,h with
  |[],_=>
   simp only[List.nil_append,Zt]
   by_cases e:a=b
   ·subst e;simp
   ·rw[if_neg e];simp
 |cons c x ih=>
  match y,h with
  |d::y,h=>
   simp only[List.cons_append,Zt]
   by_cases e:c=d
   ·subst e
    rw[if_pos rfl,if_pos rfl,ih (by simpa using h)]
    simp
   ·rw[if_neg e,if_neg e]
    simp[e]
theorem Qcb (x y:List Int)(a b:Int):Vh (x++[a]) (y++[b])=(Vh x y||(decide (x=y)&&decide (a<b))):=by
 unfold Vh
 by_cases e:x.length=y.length
 ·rw[if_pos (by simp[e]),if_pos e]
  exact Qba a b e
 ·have:x≠y:=λh=>e (by rw[h])
  rw[if_neg (by simp[e]),if_neg e]
  simp[this]
def Pq (A:Au)(s:Nat):Bool:=decide (iat A.pa (s-1)<iat A.pa s)||(decide (iat A.pa (s-1)=iat A.pa s)&&decide (iat A.la (s-1)<iat A.la s))
def Ap (A:Au)(s:Nat):Prop:=∀i j,i<j->j<s->Vh (Wd A i) (Wd A j)=true
theorem Ap.ne {i j:Nat}(h:Ap A s)(hi:i<s)(hj:j<s):Vh (Wd A i) (Wd A j)=decide (i<j)/\decide (Wd A i=Wd A j)=decide (i=j):=by
 rcases Nat.lt_trichotomy i j with e|rfl|e
 ·have hb:=h i j e hj
  refine⟨by rw[hb];simp[e],?_⟩
  have:Wd A i≠Wd A j:=λh'=>by rw[h',Vt] at hb;simp at hb
  simp[this]
  omega
 ·exact⟨by rw[Vt];simp,by simp⟩
 ·have hb:=h j i e hi
  refine⟨?_,?_⟩
  ·cases e2:Vh (Wd A i) (Wd A j) with
   |false=>symm;simp;omega
   |true=>
    have:=Zk hb e2
    rw[Vt] at this
    simp at this
  ·have:Wd A i≠Wd A j:=λh'=>by rw[h',Vt] at hb;simp at hb
   simp[this]
   omega
theorem Q4l (hr:iat A.pa 0=-1)(ho:∀t,1<=t->t<=s->okR A t=true)(ha:Ap A s)(hs:1<=s):Vh (Wd A (s-1)) (Wd A s)=Pq A s:=by
 have h1:=Q5m (ho s hs lR)
 rw[E6 (ho s hs lR) hs]
 by_cases e:s=1
 ·subst e
  have hp:iat A.pa 1=0:=by omega
  have:Pq A 1=true:=by
   unfold Pq
   simp only[Nat.sub_self]
   rw[hr,hp]
   rfl
  rw[this,Nat.sub_self,Q2q,hp]
  show Vh [] ([]++[iat A.la 1])=true
  rfl
 ·have h2:=Q5m (ho (s-1) (by omega) (by omega))
  obtain⟨q1,q2⟩:=ha.ne (i:=(iat A.pa (s-1)).toNat) (j:=(iat A.pa s).toNat) (by omega) (by omega)
  rw[E6 (ho (s-1) (by omega) (by omega)) (by omega),Qcb,q1,q2]
  unfold Pq
  congr 1
  ·simp;omega
  ·congr 1
   simp
   omega
theorem Qgi (ha:Ap A s)(hb:1<=s->Vh (Wd A (s-1)) (Wd A s)=true):Ap A (s+1):=by
 intro i j hij hj
 by_cases e:j<s
 ·exact ha i j hij e
 ·have:j=s:=by omega
  subst this
  have h1:=hb (by omega)
  rcases Nat.lt_or_eq_of_le (show i<=j-1 by omega) with h2|h2
  ·exact Zk (ha i (j-1) h2 (by omega)) h1
  ·rw[h2];exact h1
def okI (A:Au)(s:Nat):Bool:=if s=0 then (iat A.pa 0==-1)&&(iat A.la 0==-1) else okR A s&&(decide ((Wd A s).length<=402)&&Pq A s)
theorem Gh (s:Nat):Qo s (λt=>okS A (wl A t) t)=Qo s (okI A)/\(Qo s (okI A)=true->Ap A s):=by
 induction s with
 |zero=>exact⟨rfl,λ_ i j h1 h2=>absurd h2 (zK _)⟩
 |succ s ih=>
  have e1:∀p:Nat->Bool,Qo (s+1) p=(Qo s p&&p s):=λp=>by
   unfold Qo
   rw[List.range_succ,List.all_append]
   simp
  rw[e1,e1,ih.1]
  cases hf:Qo s (okI A) with
  |false=>exact⟨rfl,λh=>by simp at h⟩
  |true=>
   have hasc:=ih.2 hf
   simp only[Bool.true_and]
   have ho:∀t,1<=t->t<s->okR A t=true:=λt h1 h2=>by
    have:=List.all_eq_true.1 hf t (List.mem_range.2 h2)
    unfold okI at this
    rw[if_neg (by omega)] at this
    simp only[zG] at this
    exact this.1
   have key:okS A (wl A s) s=okI A s:=by
    unfold okS okI
    by_cases e:s=0
    ·rw[if_pos e,if_pos e]
    ·rw[if_neg e,if_neg e]
     unfold okW
     have eW:nw A (wl A s) s=Wd A s:=by unfold Wd;rw[if_neg e]
     rw[eW,I4 (by omega)]
     cases hr:okR A s with
     |false=>rfl
     |true=>
      have hz:iat A.pa 0=-1:=by
       have:=List.all_eq_true.1 hf 0 (List.mem_range.2 (by omega))
       unfold okI at this
       rw[if_pos rfl] at this
       simp only[zG,beq_iff_eq] at this
       exact this.1
      rw[Q4l hz (λt h1 h2=>by rcases Nat.lt_or_eq_of_le h2 with h3|rfl;exact ho t h1 h3;exact hr) hasc (by omega)]
   refine⟨key,λh=>Qgi hasc λh1=>?_⟩
   rw[<-key] at h
   unfold okS okW at h
   rw[if_neg (by omega)] at h
   simp only[zG] at h
   have h3:=h.2.2
   rw[I4 (by omega)] at h3
   unfold Wd
   rw[if_neg (show ¬s=0 by omega)]
   exact h3
structure G3 (A:Au)(n:Nat):Prop where
 pos:1<=n
 ok:∀t,1<=t->t<n->okR A t=true
 asc:Ap A n
theorem G3.inj {i j:Nat}(h:G3 A n)(hi:i<n)(hj:j<n)(e:Wd A i=Wd A j):i=j:=by
 have:=(h.asc.ne hi hj).2
 rw[yB (by exact e)] at this
 simpa using this.symm
theorem Qd9 (h:G3 A n)(hs:s<n):stW (wl A n) (Wd A s)=s:=by
 unfold stW
 rw[E9]
 refine Wt nZ (by omega) ?_ λb _ hb=>?_
 ·rw[I4 hs];simp
 ·rw[I4 (by omega),decide_eq_false_iff_not]
  intro e
  have:=h.inj (by omega) hs e
  omega
theorem Qda (h:0<=stW (wl A n) x):∃s,s<n/\Wd A s=x/\stW (wl A n) x=s:=by
 unfold stW at h ⊢
 rw[E9] at h ⊢
 obtain⟨a,e,_,ha,hf⟩:=Kw h
 refine⟨a,by omega,?_,e⟩
 rw[I4 (by omega)] at hf
 simpa using hf
theorem Wd_ne (h:G3 A n)(h1:1<=s)(hs:s<n):Wd A s≠[]:=by
 rw[E6 (h.ok s h1 hs) h1]
 simp
def LW (ws:List (List Int))(x:List Int)(k:Nat):Int:=Zh ws x k (x.length+1-k)
theorem Qcq (hk:k<=x.length)(h:0<=stW ws (x.drop k)):LW ws x k=stW ws (x.drop k):=by
 unfold LW
 rw[show x.length+1-k=(x.length-k)+1 by omega,Zh,if_pos h]
theorem Qf0 (hk:k<=x.length)(h:¬0<=stW ws (x.drop k)):LW ws x k=LW ws x (k+1):=by
 unfold LW
 rw[show x.length+1-k=(x.length+1-(k+1))+1 by omega,Zh,if_neg h]
theorem Qab (h:G3 A n):stW (wl A n) []=((0:Nat):Int):=by
 have:=Qd9 h (s:=0) h.pos
 rwa [Q2q] at this
theorem Qgp (h:G3 A n)(x:List Int):LW (wl A n) x x.length=0:=by
 rw[Qcq lR (by rw[List.drop_length,Qab h];omega),List.drop_length,Qab h]
 rfl
theorem Ao (h:G3 A n)(x:List Int)(hk:k<=x.length):∃v j,v<n/\LW (wl A n) x k=v/\k<=j/\j<=x.length/\Wd A v=x.drop j:=by
 generalize hd:x.length-k=d
 induction d generalizing k with
 |zero=>
  have:k=x.length:=by omega
  subst this
  exact⟨0,x.length,h.pos,Qgp h x,lR,lR,by rw[List.drop_length];rfl⟩
 |succ d ih=>
  by_cases hp:0<=stW (wl A n) (x.drop k)
  ·obtain⟨s,hs,hw,hst⟩:=Qda hp
   exact⟨s,k,hs,by rw[Qcq hk hp,hst],lR,hk,hw⟩
  ·obtain⟨v,j,h1,h2,h3,h4,h5⟩:=ih (k:=k+1) (by omega) (by omega)
   exact⟨v,j,h1,by rw[Qf0 hk hp,h2],by omega,h4,h5⟩
def failOf (A:Au)(n s:Nat):Nat:=(LW (wl A n) (Wd A s) 1).toNat
theorem Q11 (h:G3 A n)(h1:1<=s)(hs:s<n):LW (wl A n) (Wd A s) 1=(failOf A n s:Int)/\failOf A n s<s:=by
 have hne:=Wd_ne h h1 hs
 have hl:1<=(Wd A s).length:=List.length_pos_iff.2 hne
 obtain⟨v,j,hv,e,hj,hj2,hw⟩:=Ao h (Wd A s) (k:=1) hl
 have ev:failOf A n s=v:=by unfold failOf;rw[e,zU]
 rw[ev]
 refine⟨e,?_⟩
 have hlen:(Wd A v).length<(Wd A s).length:=by rw[hw,List.length_drop];omega
 have hb:Vh (Wd A v) (Wd A s)=true:=by
  unfold Vh
  rw[if_neg (by omega)]
  simpa using hlen
 rw[(h.asc.ne hv hs).1] at hb
 simpa using hb
def goOf (A:Au)(n s:Nat)(e:Int):Nat:=(LW (wl A n) (Wd A s++[e]) 0).toNat
theorem Qfd (h:G3 A n)(hs:s<n)(e:Int):LW (wl A n) (Wd A s++[e]) 0=(goOf A n s e:Int)/\goOf A n s e<n:=by
 obtain⟨v,j,hv,e1,_⟩:=Ao h (Wd A s++[e]) (k:=0) nZ
 have:goOf A n s e=v:=by unfold goOf;rw[e1,zU]
 rw[this]
 exact⟨e1,hv⟩
theorem Q6y (hn:1<=n)(h:Qo n (okI A)=true):G3 A n:=by
 refine⟨hn,λt h1 h2=>?_,(Gh n).2 h⟩
 have:=List.all_eq_true.1 h t (List.mem_range.2 h2)
 unfold okI at this
 rw[if_neg (by omega)] at this
 simp only[zG] at this
 exact this.1
def muI (A:Au)(s:Nat):Bool:=if s=0 then (iat A.mu 0==-1)&&!bat A.bd 0 else decide (-2<=iat A.mu s)&&decide (iat A.mu s<4000)
def faI (A:Au)(n s:Nat):Bool:=iat A.fa s==(if s=0 then -1 else (failOf A n s:Int))
def Q1g (A:Au):Bool:=Gs A&&(Qo A.pa.length (okI A)&&(Qo A.pa.length (muI A)&&Qo A.pa.length (faI A A.pa.length)))
theorem Ak {p:Nat->Bool}(hn:1<=n):Qo n p=(p 0&&Qo n (λs=>s==0||p s)):=by
 unfold Qo
 rw[Bool.eq_iff_iff,zG,List.all_eq_true,List.all_eq_true]
 constructor
 ·intro h
  exact⟨h 0 (List.mem_range.2 hn),λs hs=>by rw[h s hs];simp⟩
 ·rintro⟨h0,h⟩ s hs
  by_cases e:s=0
  ·rw[e];exact h0
  ·have:=h s hs
   simpa [e] using this
theorem Q6k {p q:Nat->Bool}(h:∀s,s<n->p s=q s):Qo n p=Qo n q:=by
 unfold Qo
 rw[Bool.eq_iff_iff,List.all_eq_true,List.all_eq_true]
 constructor
 ·intro k s hs;rw[<-h s (List.mem_range.1 hs)];exact k s hs
 ·intro k s hs;rw[h s (List.mem_range.1 hs)];exact k s hs
theorem Eb (A:Au):Wb A=Q1g A:=by
 unfold Wb Q1g
 cases hl:Gs A with
 |false=>rfl
 |true=>
  simp only[Bool.true_and]
  have hn:1<=A.pa.length:=by
   unfold Gs at hl
   simp only[zG,decide_eq_true_eq] at hl
   exact hl.1
  obtain⟨s1,s2⟩:=Q0f A A.pa.length
  rw[(Gh A.pa.length).1] at s1
  cases ho:Qo A.pa.length (okI A) with
  |false=>rw[s1,ho];rfl
  |true=>
   rw[ho] at s1
   rw[s2 s1]
   simp only[Bool.true_and]
   have T:=Q6y hn ho
   rw[Ak (p:=muI A) hn,Ak (p:=faI A A.pa.length) hn]
   have e1:Qo A.pa.length (Qfn A (wl A A.pa.length))=(Qo A.pa.length (λs=>s==0||muI A s)&&Qo A.pa.length (λs=>s==0||faI A A.pa.length s)):=by
    rw[<-Wv]
    refine Q6k λs hs=>?_
    unfold Qfn muI faI
    by_cases e:s=0
    ·subst e;rfl
    ·have e':(s==0)=false:=by simpa using e
     rw[e',if_neg e,if_neg e]
     simp only[Bool.false_or]
     have:Zh (wl A A.pa.length) (wd (wl A A.pa.length) s) 1 ((wd (wl A A.pa.length) s).length+1-1)=(failOf A A.pa.length s:Int):=by
      rw[I4 hs]
      exact(Q11 T (by omega) hs).1
     rw[this,Bool.and_assoc]
   rw[e1]
   have m0:muI A 0=((iat A.mu 0==-1)&&!bat A.bd 0):=rfl
   have f0:faI A A.pa.length 0=(iat A.fa 0==-1):=rfl
   rw[m0,f0]
   cases (iat A.fa 0==-1)<;>cases (iat A.mu 0==-1)<;>cases bat A.bd 0<;>simp
theorem Qcu (h:Wb A=true):wsA A=wl A A.pa.length/\G3 A A.pa.length:=by
 have h1:=h
 rw[Eb] at h1
 unfold Q1g at h1
 simp only[zG] at h1
 have hn:=(Q6t h).2.2.2
 obtain⟨s1,s2⟩:=Q0f A A.pa.length
 rw[(Gh A.pa.length).1,h1.2.1] at s1
 refine⟨?_,Q6y hn h1.2.1⟩
 unfold wsA
 rw[s2 s1]
theorem Qdq (h:Wb A=true)(hs:s<A.pa.length)(e:Int):T6 (wsA A) s e=(goOf A A.pa.length s e:Int):=by
 obtain⟨e1,T⟩:=Qcu h
 unfold T6
 rw[e1,I4 hs]
 exact(Qfd T hs e).1
def Qaa (A:Au)(s:Nat)(e:Int):Int:=
 if e<0\/4000<=e then -1
 else if bat A.bd s=true\/(iat A.mu s≠-1/\iat A.mu s≠e) then -1
 else if bat A.bd (goOf A A.pa.length s e)=true then -1 else (goOf A A.pa.length s e:Int)
theorem Q8l (h:Wb A=true)(hs:s<A.pa.length)(e:Int):Q4 A (wsA A) (s:Int) e=Qaa A s e:=by
 have hl:=(Q6t h).1.l
 unfold Q4 Qaa
 rw[hl]
 by_cases g:e<0\/4000<=e
 ·rw[if_pos g,if_pos (by omega)]
 ·rw[if_neg g,if_neg (by omega),zU,Qdq h hs,zU]
open Go.Maps
def node (num len last must:Int)(bad:Bool)(par fl m:Value):Array Value:=#[iV num,iV len,iV last,iV must,.bool bad,par,fl,m]
open Go.Sort Go.Shelf
end Go.Proofs.YtphiaobccollhaaGreat
