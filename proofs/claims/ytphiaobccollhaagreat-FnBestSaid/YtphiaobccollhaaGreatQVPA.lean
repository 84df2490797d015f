import Derived.Test.YtphiaobccollhaaGreatQXDA
import Derived.Maps.Views
namespace Go.Proofs.YtphiaobccollhaaGreat
set_option linter.unusedVariables false
set_option maxHeartbeats 16000000
variable {k:Int}{L M O O' S:List Nat}{a b u v x:Nat}{F:List Int}{N:Nat->Int}
abbrev Rk:=Int×Int
def rlt (a b:Rk):Prop:=a.1<b.1\/(a.1=b.1/\a.2<b.2)
def aft (r:Rk)(k:Int):Rk:=(r.1+k,r.2+1)
theorem Ye (a:Rk):¬rlt a a:=by unfold rlt;omega
theorem Qai {a b c:Rk}(h:rlt a b)(k:rlt b c):rlt a c:=by unfold rlt at *;omega
theorem Zd {a b c:Rk}(h:¬rlt b a)(k:¬rlt c b):¬rlt c a:=by unfold rlt at *;omega
theorem Ek {a b c:Rk}(h:¬rlt b a)(k:rlt b c):rlt a c:=by unfold rlt at *;omega
theorem Q5c {a b c:Rk}(h:rlt a b)(k:¬rlt c b):rlt a c:=by unfold rlt at *;omega
theorem Q38 {a b:Rk}(h:¬rlt b a)(k:¬rlt a b):a=b:=by
 have h1:a.1=b.1:=by unfold rlt at *;omega
 have h2:a.2=b.2:=by unfold rlt at *;omega
 exact Prod.ext h1 h2
theorem Yq {a b:Rk}(h:rlt a b):¬rlt b a:=by unfold rlt at *;omega
theorem Th (a:Rk)(h:0<=k):rlt a (aft a k):=by unfold rlt aft;simp only;omega
theorem Qcm {a b:Rk}(k:Int)(h:¬rlt b a):¬rlt (aft b k) (aft a k):=by unfold rlt aft at *;simp only at *;omega
theorem Qgm {a b:Rk}(k:Int)(h:rlt a b):rlt (aft a k) (aft b k):=by unfold rlt aft at *;simp only at *;omega
section
variable {eo:Nat->Int}{arcs:Nat->List (Nat×Int)}{s0:Nat}{w0:Int}{t:Int}
structure DJ (eo:Nat->Int)(arcs:Nat->List (Nat×Int))(s0:Nat)(w0:Int)(t:Int)(A:Nat->List (Nat×Int))(K:Nat->Rk)(S O:List Nat):Prop where
 real:∀v,K v≠(0,0)->∃E c,WK eo arcs s0 w0 E c v/\K v=(c,(E.length:Int))
 st:K s0≠(0,0)/\¬rlt (w0,1) (K s0)
 dom:∀v,K v≠(0,0)↔v∈S\/v∈O
 nds:S.Nodup
 ndo:O.Nodup
 dis:∀v∈S,v∉O
 arc:∀u∈S,∀v k,(v,k)∈A u->K v≠(0,0)/\¬rlt (aft (K u) k) (K v)
 so:∀u∈S,∀x∈O,¬rlt (K x) (K u)
 asc:S.Pairwise (λu v=>¬rlt (K v) (K u))
 tg:∀u∈S,eo u≠t
 cn:(∀u∈S,(K u).2<=(S.length:Int))/\∀x∈O,(K x).2<=(S.length:Int)+1
theorem DJ.perm {A:Nat->List (Nat×Int)}{K:Nat->Rk}(h:DJ eo arcs s0 w0 t A K S O)(hn:O'.Nodup)(hm:∀y,y∈O'↔y∈O):DJ eo arcs s0 w0 t A K S O':=
 ⟨h.real,h.st,λv=>by rw[h.dom,hm],h.nds,hn,λv hv hv'=>h.dis v hv ((hm v).1 hv'),h.arc,λu hu x hx=>h.so u hu x ((hm x).1 hx),h.asc,h.tg,⟨h.cn.1,λx hx=>h.cn.2 x ((hm x).1 hx)⟩⟩
theorem DJ.arcs_to {A A':Nat->List (Nat×Int)}{K:Nat->Rk}(h:DJ eo arcs s0 w0 t A K S O)(ha:∀u∈S,∀x∈A' u,x∈A u):DJ eo arcs s0 w0 t A' K S O:=
 ⟨h.real,h.st,h.dom,h.nds,h.ndo,h.dis,λu hu v k hx=>h.arc u hu v k (ha u hu _ hx),h.so,h.asc,h.tg,h.cn⟩
theorem DJ.start (A:Nat->List (Nat×Int)){K:Nat->Rk}(h0:∀v,v≠s0->K v=(0,0))(h1:K s0=(w0,1)):DJ eo arcs s0 w0 t A K [] [s0]:=by
 have hs:K s0≠(0,0):=by rw[h1];intro e;have:=congrArg Prod.snd e;simp at this
 refine⟨λv hv=>?_,⟨hs,by rw[h1];exact Ye _⟩,λv=>?_,by simp,by simp,by simp,by simp,by simp,by simp,by simp,⟨by simp,λx hx=>by simp at hx;subst hx;rw[h1];simp⟩⟩
 ·by_cases e:v=s0
  ·subst e;exact⟨_,_,WK.base,by rw[h1];rfl⟩
  ·exact absurd (h0 v e) hv
 ·constructor
  ·intro hv
   by_cases e:v=s0
   ·subst e;simp
   ·exact absurd (h0 v e) hv
  ·intro h;simp at h;subst h;exact hs
theorem DJ.settle {A:Nat->List (Nat×Int)}{K:Nat->Rk}(h:DJ eo arcs s0 w0 t A K S O)(hv:v∈O)(hn:O'.Nodup)(hm:∀y,y∈O'↔y∈O/\y≠v)(hle:∀y∈O,¬rlt (K y) (K v))(ht:eo v≠t){A':Nat->List (Nat×Int)}(hA:∀u∈S,∀x∈A' u,x∈A u)(hA':A' v=[]):DJ eo arcs s0 w0 t A' K (S++[v]) O':=by
 have hvS:v∉S:=λg=>h.dis v g hv
 refine⟨h.real,h.st,λy=>?_,?_,hn,?_,?_,?_,?_,?_,⟨λu hu=>?_,λx hx=>?_⟩⟩
 ·rw[h.dom,yG,List.mem_singleton,hm]
  constructor
  ·rintro(g|g)
   ·exact oL (oL g)
   ·by_cases e:y=v
    ·exact oL (oR e)
    ·exact oR ⟨g,e⟩
  ·rintro((g|rfl)|g)
   ·exact oL g
   ·exact oR hv
   ·exact oR g.1
 ·rw[List.nodup_append]
  exact⟨h.nds,by simp,λa ha b hb e=>by simp at hb;subst hb;subst e;exact hvS ha⟩
 ·intro y hy hyO
  rcases List.mem_append.1 hy with g|g
  ·exact h.dis y g ((hm y).1 hyO).1
  ·exact((hm y).1 hyO).2 (by simpa using g)
 ·intro u hu x k hx
  rcases List.mem_append.1 hu with g|g
  ·exact h.arc u g x k (hA u g _ hx)
  ·have:u=v:=by simpa using g
   subst this
   rw[hA'] at hx
   simp at hx
 ·intro u hu x hx
  rcases List.mem_append.1 hu with g|g
  ·exact h.so u g x ((hm x).1 hx).1
  ·have:u=v:=by simpa using g
   subst this
   exact hle x ((hm x).1 hx).1
 ·rw[List.pairwise_append]
  exact⟨h.asc,by simp,λa ha b hb=>by simp at hb;subst hb;exact h.so a ha b hv⟩
 ·intro u hu
  rcases List.mem_append.1 hu with g|g
  ·exact h.tg u g
  ·have:u=v:=by simpa using g
   subst this
   exact ht
 ·rw[zA,List.length_singleton]
  rcases List.mem_append.1 hu with g|g
  ·have:=h.cn.1 u g;omega
  ·have e:u=v:=by simpa using g
   subst e
   have:=h.cn.2 u hv;omega
 ·rw[zA,List.length_singleton]
  have:=h.cn.2 x ((hm x).1 hx).1
  omega
theorem DJ.last {A:Nat->List (Nat×Int)}{K:Nat->Rk}(h:DJ eo arcs s0 w0 t A K (S++[v]) O):∀u∈S++[v],¬rlt (K v) (K u):=by
 intro u hu
 rcases List.mem_append.1 hu with g|g
 ·exact(List.pairwise_append.1 h.asc).2.2 u g v (by simp)
 ·have:u=v:=by simpa using g
  subst this
  exact Ye _
theorem DJ.better {A:Nat->List (Nat×Int)}{K:Nat->Rk}(hc:∀v u k,(u,k)∈arcs v->0<=k)(h:DJ eo arcs s0 w0 t A K (S++[v]) O)(hx:(x,k)∈arcs v)(hb:K x=(0,0)\/rlt (aft (K v) k) (K x)){K':Nat->Rk}(hK:K' x=aft (K v) k)(hK':∀y,y≠x->K' y=K y)(hn:O'.Nodup)(hm:∀y,y∈O'↔y∈O\/y=x){A':Nat->List (Nat×Int)}(hA:∀u∈S++[v],∀z∈A' u,z∈A u\/(u=v/\z=(x,k))):DJ eo arcs s0 w0 t A' K' (S++[v]) O':=by
 have hlast:=h.last
 have hxS:x∉S++[v]:=λg=>by
  rcases hb with hb|hb
  ·exact(h.dom x).2 (oL g) hb
  ·exact hlast x g (Qai (Th _ (hc _ _ _ hx)) hb)
 have hvx:v≠x:=λe=>hxS (by rw[<-e];simp)
 have hKv:=hK' v hvx
 have hv0:=(h.dom v).2 (oL (by simp))
 have hS:∀u∈S++[v],K' u=K u:=λu hu=>hK' u (λe=>hxS (e▸hu))
 have hreal:∃E c,WK eo arcs s0 w0 E c x/\aft (K v) k=(c,(E.length:Int)):=by
  obtain⟨E,c,hW,e⟩:=h.real v hv0
  exact⟨_,_,hW.step hx,by rw[e];unfold aft;simp⟩
 have hx0:K' x≠(0,0):=by
  rw[hK]
  obtain⟨E,c,hW,e⟩:=hreal
  rw[e]
  intro q
  have q1:=congrArg Prod.snd q
  have q2:=hW.pos
  simp only at q1
  omega
 have hdec:∀y,K y≠(0,0)->K' y≠(0,0)/\¬rlt (K y) (K' y):=λy hy=>by
  by_cases e:y=x
  ·subst e
   refine⟨hx0,?_⟩
   rcases hb with hb|hb
   ·exact absurd hb hy
   ·rw[hK];exact Yq hb
  ·rw[hK' y e];exact⟨hy,Ye _⟩
 refine⟨λy hy=>?_,?_,λy=>?_,h.nds,hn,λy hy hyO=>?_,λu hu y q hz=>?_,λu hu y hy=>?_,?_,h.tg,⟨λu hu=>?_,λy hy=>?_⟩⟩
 ·by_cases e:y=x
  ·subst e;rw[hK];exact hreal
  ·rw[hK' y e] at hy ⊢;exact h.real y hy
 ·have:=hdec s0 h.st.1
  exact⟨this.1,Zd this.2 h.st.2⟩
 ·rw[hm]
  by_cases e:y=x
  ·subst e;exact⟨λ_=>oR (oR rfl),λ_=>hx0⟩
  ·rw[hK' y e,h.dom]
   exact⟨λg=>g.elim oL (λg=>oR (oL g)),λg=>g.elim oL (λg=>g.elim oR (λg=>absurd g e))⟩
 ·rcases (hm y).1 hyO with g|rfl
  ·exact h.dis y hy g
  ·exact hxS hy
 ·rw[hS u hu]
  rcases hA u hu _ hz with g|⟨rfl,g⟩
  ·have h1:=h.arc u hu y q g
   have h2:=hdec y h1.1
   exact⟨h2.1,Zd h2.2 h1.2⟩
  ·have e1:y=x:=congrArg Prod.fst g
   have e2:q=k:=congrArg Prod.snd g
   subst e1 e2
   rw[hK]
   exact⟨by rw[<-hK];exact hx0,Ye _⟩
 ·rw[hS u hu]
  by_cases e:y=x
  ·subst e
   rw[hK]
   exact Yq (Ek (hlast u hu) (Th _ (hc _ _ _ hx)))
  ·rw[hK' y e]
   rcases (hm y).1 hy with g|g
   ·exact h.so u hu y g
   ·exact absurd g e
 ·exact List.Pairwise.imp_of_mem (λ{a b} ha hb hab=>by rw[hS a ha,hS b hb];exact hab) h.asc
 ·rw[hS u hu];exact h.cn.1 u hu
 ·by_cases e:y=x
  ·subst e
   rw[hK]
   have:=h.cn.1 v (by simp)
   simp only[aft]
   omega
  ·rw[hK' y e]
   rcases (hm y).1 hy with g|g
   ·exact h.cn.2 y g
   ·exact absurd g e
theorem DJ.keep {A:Nat->List (Nat×Int)}{K:Nat->Rk}(h:DJ eo arcs s0 w0 t A K (S++[v]) O)(hb:¬(K x=(0,0)\/rlt (aft (K v) k) (K x))){A':Nat->List (Nat×Int)}(hA:∀u∈S++[v],∀z∈A' u,z∈A u\/(u=v/\z=(x,k))):DJ eo arcs s0 w0 t A' K (S++[v]) O:=
 ⟨h.real,h.st,h.dom,h.nds,h.ndo,h.dis,λu hu y q hz=>by
  rcases hA u hu _ hz with g|⟨rfl,g⟩
  ·exact h.arc u hu y q g
  ·have e1:y=x:=congrArg Prod.fst g
   have e2:q=k:=congrArg Prod.snd g
   subst e1 e2
   exact⟨λe=>hb (oL e),λe=>hb (oR e)⟩,h.so,h.asc,h.tg,h.cn⟩
theorem DJ.cover {K:Nat->Rk}(hc:∀v u k,(u,k)∈arcs v->0<=k)(h:DJ eo arcs s0 w0 t arcs K S O){E:List Int}{c:Int}(hW:WK eo arcs s0 w0 E c v):(K v≠(0,0)/\¬rlt (c,(E.length:Int)) (K v))\/∃x∈O,¬rlt (c,(E.length:Int)) (K x):=by
 induction hW using WK.ind with
 |base=>exact oL h.st
 |step hW hk ih=>
  rename_i E0 c0 u v k
  have e:((c0+k,((E0++[eo v]).length:Int)):Rk)=aft (c0,(E0.length:Int)) k:=by unfold aft;simp
  rw[e]
  have hup:=Th (c0,(E0.length:Int)) (hc _ _ _ hk)
  rcases ih with⟨h1,h2⟩|⟨x,hx,h2⟩
  ·rcases (h.dom u).1 h1 with g|g
   ·have:=h.arc u g v k hk
    exact oL ⟨this.1,Zd this.2 (Qcm k h2)⟩
   ·exact oR ⟨u,g,Yq (Ek h2 hup)⟩
  ·exact oR ⟨x,hx,Yq (Ek h2 hup)⟩
theorem DJ.none {K:Nat->Rk}(hc:∀v u k,(u,k)∈arcs v->0<=k)(h:DJ eo arcs s0 w0 t arcs K S []):Fl t (λc E=>∃v,WK eo arcs s0 w0 E c v/\eo v=t) ⟨1,0,[]⟩:=by
 refine⟨λ_=>⟨rfl,λc E ⟨v,hW,e⟩=>?_⟩,λg=>absurd g (by decide)⟩
 rcases h.cover hc hW with⟨h1,_⟩|⟨x,hx,_⟩
 ·rcases (h.dom v).1 h1 with g|g
  ·exact h.tg v g e
  ·simp at g
 ·simp at hx
def Uq (eo:Nat->Int)(t:Int)(K:Nat->Rk)(b:Rk)(x:Nat):Prop:=eo x=t/\K x=b
def okA (eo:Nat->Int)(t:Int)(K:Nat->Rk)(b:Rk)(N:Nat->Int)(v:Nat)(q:Nat×Int):Prop:=K q.1=aft (K v) q.2/\(Uq eo t K b q.1\/N q.1≠-1)
structure NX (eo:Nat->Int)(arcs:Nat->List (Nat×Int))(t:Int)(K:Nat->Rk)(b:Rk)(S:List Nat)(N:Nat->Int):Prop where
 o:∀v,v∉S->N v=-1
 inn:∀v∈S,(∃pre y k post,arcs v=pre++(y,k)::post/\okA eo t K b N v (y,k)/\(∀q∈pre,¬okA eo t K b N v q)/\N v=(y:Int))\/(N v=-1/\∀q∈arcs v,¬okA eo t K b N v q)
def TC (eo:Nat->Int)(arcs:Nat->List (Nat×Int))(t:Int)(K:Nat->Rk)(b:Rk)(x:Nat)(F:List Int):Prop:=∀P:Nat->List Int->Prop,(∀x,Uq eo t K b x->P x [])->(∀x y k F,(y,k)∈arcs x->K y=aft (K x) k->P y F->P x (eo y::F))->P x F
theorem TC.nil {eo arcs t K b x}(h:Uq eo t K b x):TC eo arcs t K b x []:=λ_ n _=>n _ h
theorem TC.cons {eo arcs t K b x y k F}(m:(y,k)∈arcs x)(e:K y=aft (K x) k)(h:TC eo arcs t K b y F):TC eo arcs t K b x (eo y::F):=λP n s=>s _ _ _ _ m e (h P n s)
theorem TC.ind {eo arcs t K b}{motive:∀x F,TC eo arcs t K b x F->Prop}(nil:∀{x}(h:Uq eo t K b x),motive _ _ (TC.nil h))(cons:∀{x y k F}(m:(y,k)∈arcs x)(e:K y=aft (K x) k)(h:TC eo arcs t K b y F),motive y F h->motive _ _ (TC.cons m e h)){x F}(h:TC eo arcs t K b x F):motive x F h:=by
 obtain⟨_,i⟩:=h (λx F=>∃h,motive x F h) (λ_ h=>⟨_,nil h⟩) (λ_ _ _ _ m e ⟨h,i⟩=>⟨_,cons m e h i⟩)
 exact i
def TRV (eo:Nat->Int)(t:Int)(K:Nat->Rk)(b:Rk)(N:Nat->Int)(x:Nat)(F:List Int):Prop:=∀P:Nat->List Int->Prop,(∀x,Uq eo t K b x->P x [])->(∀x (y:Nat) F,¬Uq eo t K b x->N x=(y:Int)->P y F->P x (eo y::F))->P x F
theorem TRV.nil {eo t K b N x}(h:Uq eo t K b x):TRV eo t K b N x []:=λ_ n _=>n _ h
theorem TRV.cons {eo t K b N x}{y:Nat}{F}(m:¬Uq eo t K b x)(e:N x=(y:Int))(h:TRV eo t K b N y F):TRV eo t K b N x (eo y::F):=λP n s=>s _ _ _ m e (h P n s)
theorem TRV.ind {eo t K b N}{motive:∀x F,TRV eo t K b N x F->Prop}(nil:∀{x}(h:Uq eo t K b x),motive _ _ (TRV.nil h))(cons:∀{x}{y:Nat}{F}(m:¬Uq eo t K b x)(e:N x=(y:Int))(h:TRV eo t K b N y F),motive y F h->motive _ _ (TRV.cons m e h)){x F}(h:TRV eo t K b N x F):motive x F h:=by
 obtain⟨_,i⟩:=h (λx F=>∃h,motive x F h) (λ_ h=>⟨_,nil h⟩) (λ_ _ _ m e ⟨h,i⟩=>⟨_,cons m e h i⟩)
 exact i
theorem TC.le {K:Nat->Rk}{b:Rk}(hc:∀v u k,(u,k)∈arcs v->0<=k)(h:TC eo arcs t K b x F):¬rlt b (K x)/\b.2=(K x).2+F.length:=by
 induction h using TC.ind with
 |nil h=>exact⟨by rw[h.2];exact Ye _,by rw[h.2];simp⟩
 |cons h1 h2 h3 ih=>
  rename_i x y k F
  have:=Th (K x) (hc _ _ _ h1)
  rw[h2] at ih
  refine⟨λg=>ih.1 (Qai g this),?_⟩
  rw[ih.2,List.length_cons]
  simp only[aft]
  omega
theorem Qc6 (l:List Nat)(f:Nat->Int):∃M,∀v∈l,f v<=M:=by
 induction l with
 |nil=>exact⟨0,by simp⟩
 |cons a l ih=>
  obtain⟨M,hM⟩:=ih
  refine⟨max M (f a),λv hv=>?_⟩
  rcases List.mem_cons.1 hv with rfl|hv
  ·omega
  ·have:=hM v hv;omega
theorem NX.tr {K:Nat->Rk}{b:Rk}(h:NX eo arcs t K b S N)(hv:Uq eo t K b v\/N v≠-1):∃F,TRV eo t K b N v F/\b.2=(K v).2+F.length:=by
 obtain⟨M,hM⟩:=Qc6 S (λv=>(K v).2)
 generalize hm:(M-(K v).2).toNat=m
 induction m using Nat.strongRecOn generalizing v with
 |_ m ih=>
  by_cases he:Uq eo t K b v
  ·exact⟨[],TRV.nil he,by rw[he.2];simp⟩
  ·have hv':=hv.resolve_left he
   have hvS:=Classical.byContradiction λg=>hv' (h.o v g)
   rcases h.inn v hvS with⟨pre,y,k,post,_,hok,_,hN⟩|⟨g,_⟩
   ·have h2:(K y).2=(K v).2+1:=by rw[hok.1];rfl
    by_cases hy:Uq eo t K b y
    ·exact⟨[eo y],TRV.cons he hN (TRV.nil hy),by rw[<-hy.2,h2];simp⟩
    ·have hyN:=hok.2.resolve_left hy
     have hyS:=Classical.byContradiction λg=>hyN (h.o y g)
     have h3:=hM y hyS
     have h4:=hM v hvS
     obtain⟨F,hF,hl⟩:=ih (M-(K y).2).toNat (by omega) (oR hyN) rfl
     exact⟨eo y::F,TRV.cons he hN hF,by rw[hl,h2,List.length_cons];omega⟩
   ·exact absurd g hv'
theorem NX.first {K:Nat->Rk}{b:Rk}(h:NX eo arcs t K b S N)(hc:∀v u k,(u,k)∈arcs v->0<=k)(hasc:∀v,(arcs v).Pairwise (λp q=>eo p.1<eo q.1))(hS:∀v,K v≠(0,0)->rlt (K v) b->v∈S)(hpos:∀v k,K v≠(0,0)->aft (K v) k≠(0,0))(hT:TC eo arcs t K b v F)(hv:K v≠(0,0)):∃F',TRV eo t K b N v F'/\F'.length=F.length/\Zt F F'=false:=by
 induction hT using TC.ind with
 |nil he=>exact⟨[],TRV.nil he,rfl,rfl⟩
 |cons h1 h2 hT ih=>
  rename_i x y k F
  have hy0:K y≠(0,0):=by rw[h2];exact hpos x k hv
  obtain⟨F1,hR1,hl1,hx1⟩:=ih hy0
  have hyb:=hT.le hc
  have hlt:rlt (K x) (K y):=by rw[h2];exact Th _ (hc _ _ _ h1)
  have hxb:=Q5c hlt hyb.1
  have hne:¬Uq eo t K b x:=λe=>by rw[e.2] at hxb;exact Ye _ hxb
  have hxS:=hS x hv hxb
  have hok:okA eo t K b N x (y,k):=by
   refine⟨h2,?_⟩
   induction hR1 using TRV.ind with
   |nil he=>exact oL he
   |cons _ hN _ hzz=>exact oR (by simp only;rw[hN];omega)
  rcases h.inn x hxS with⟨pre,y',k',post,ha,hok',hpre,hN⟩|⟨_,g⟩
  ·have hmem:=ha▸h1
   rcases List.mem_append.1 hmem with g|g
   ·exact absurd hok (hpre _ g)
   ·rcases List.mem_cons.1 g with g|g
    ·have e1:y=y':=congrArg Prod.fst g
     subst e1
     refine⟨eo y::F1,TRV.cons hne hN hR1,by simp[hl1],?_⟩
     simp[Zt,hx1]
    ·have hp:=hasc x
     rw[ha,List.pairwise_append] at hp
     have hlt':eo y'<eo y:=(List.pairwise_cons.1 hp.2.1).1 _ g
     obtain⟨F2,hR2,hl2⟩:=h.tr hok'.2
     simp only at hl2
     have e3:(K y').2=(K x).2+1:=by rw[hok'.1];rfl
     have e4:(K y).2=(K x).2+1:=by rw[h2];rfl
     refine⟨eo y'::F2,TRV.cons hne hN hR2,?_,?_⟩
     ·rw[List.length_cons,List.length_cons]
      have:=hyb.2
      omega
     ·unfold Zt
      have a1:¬eo y<eo y':=by omega
      have a2:¬eo y=eo y':=by omega
      simp[a1,a2]
  ·exact absurd hok (g _ h1)
end
section
variable {eo:Nat->Int}{arcs:Nat->List (Nat×Int)}{s0:Nat}{w0:Int}{t:Int}
theorem WK.cge (hc:∀v u k,(u,k)∈arcs v->0<=k){E:List Int}{c:Int}(h:WK eo arcs s0 w0 E c v):w0<=c:=by
 induction h using WK.ind with
 |base=>exact Int.le_refl _
 |step h1 h2 ih=>have:=hc _ _ _ h2;omega
theorem TRV.uniq {K:Nat->Rk}{b:Rk}{F':List Int}(h:TRV eo t K b N x F)(k:TRV eo t K b N x F'):F=F':=by
 induction h using TRV.ind generalizing F' with
 |nil h=>
  induction k using TRV.ind with
  |nil _=>rfl
  |cons g _ _ hzz=>exact absurd h g
 |cons h1 h2 h3 ih=>
  induction k using TRV.ind with
  |nil g=>exact absurd g h1
  |cons g1 g2 g3 hzz=>
   rename_i y F x y' F'
   have e:y=y':=by have:=h2.symm.trans g2;omega
   subst e
   rw[ih g3]
theorem NX.start (eo:Nat->Int)(arcs:Nat->List (Nat×Int))(t:Int)(K:Nat->Rk)(b:Rk)(h:∀v,N v=-1):NX eo arcs t K b [] N:=⟨λv _=>h v,λv hv=>by simp at hv⟩
theorem NX.step {K:Nat->Rk}{b:Rk}{T:List Nat}{N':Nat->Int}(hc:∀v u k,(u,k)∈arcs v->0<=k)(h:NX eo arcs t K b T N)(hv:v∉T)(ha:∀u∈T,¬rlt (K u) (K v))(hN:∀y,y≠v->N' y=N y)
  (hs:(∃pre y k post,arcs v=pre++(y,k)::post/\okA eo t K b N v (y,k)/\(∀q∈pre,¬okA eo t K b N v q)/\N' v=(y:Int))\/(N' v=-1/\∀q∈arcs v,¬okA eo t K b N v q)):NX eo arcs t K b (v::T) N':=by
 have key:∀u,(u=v\/u∈T)->∀q,q∈arcs u->(okA eo t K b N' u q↔okA eo t K b N u q):=by
  intro u hu q hq
  unfold okA
  by_cases e:q.1=v
  ·have hne:K q.1≠aft (K u) q.2:=λg=>by
    have h1:rlt (K u) (K v):=by rw[<-e,g];exact Th _ (hc u q.1 q.2 hq)
    rcases hu with rfl|hu
    ·exact Ye _ h1
    ·exact ha u hu h1
   exact⟨λg=>absurd g.1 hne,λg=>absurd g.1 hne⟩
  ·rw[hN _ e]
 refine⟨λu hu=>?_,λu hu=>?_⟩
 ·have h1:u≠v:=λe=>hu (by rw[e];simp)
  rw[hN u h1]
  exact h.o u (λg=>hu (List.mem_cons_of_mem _ g))
 ·rcases List.mem_cons.1 hu with rfl|hu
  ·rcases hs with⟨pre,y,k,post,a1,a2,a3,a4⟩|⟨a1,a2⟩
   ·refine oL ⟨pre,y,k,post,a1,(key u (oL rfl) _ (by rw[a1];simp)).2 a2,λq hq g=>a3 q hq ((key u (oL rfl) q (by rw[a1];simp[hq])).1 g),a4⟩
   ·exact oR ⟨a1,λq hq g=>a2 q hq ((key u (oL rfl) q hq).1 g)⟩
  ·have hne:u≠v:=λe=>hv (e▸hu)
   rcases h.inn u hu with⟨pre,y,k,post,a1,a2,a3,a4⟩|⟨a1,a2⟩
   ·exact oL ⟨pre,y,k,post,a1,(key u (oR hu) _ (by rw[a1];simp)).2 a2,λq hq g=>a3 q hq ((key u (oR hu) q (by rw[a1];simp[hq])).1 g),by rw[hN u hne];exact a4⟩
   ·exact oR ⟨by rw[hN u hne];exact a1,λq hq g=>a2 q hq ((key u (oR hu) q hq).1 g)⟩
theorem NX.go {K:Nat->Rk}{b:Rk}(h:NX eo arcs t K b S N){y:Nat}(e:N u=(y:Int)):u∈S/\∃k,(y,k)∈arcs u/\K y=aft (K u) k/\(Uq eo t K b y\/N y≠-1):=by
 have hu:=Classical.byContradiction λg=>by have:=h.o u g;omega
 refine⟨hu,?_⟩
 rcases h.inn u hu with⟨pre,y',k,post,a1,a2,_,a4⟩|⟨a1,_⟩
 ·have:y=y':=by omega
  subst this
  exact⟨k,by rw[a1];simp,a2.1,a2.2⟩
 ·omega
theorem NX.walk {K:Nat->Rk}{b:Rk}(h:NX eo arcs t K b S N)(hT:TRV eo t K b N u F):∀E c,WK eo arcs s0 w0 E c u->K u=(c,(E.length:Int))->∃y,WK eo arcs s0 w0 (E++F) b.1 y/\eo y=t:=by
 induction hT using TRV.ind with
 |nil he=>
  intro E c hW hK
  rename_i x
  have:b.1=c:=by rw[<-he.2,hK]
  exact⟨x,by rw[List.append_nil,this];exact hW,he.1⟩
 |cons h1 h2 h3 ih=>
  intro E c hW hK
  rename_i x y F
  obtain⟨_,k,g1,g2,_⟩:=h.go h2
  obtain⟨z,q1,q2⟩:=ih _ _ (hW.step g1) (by rw[g2,hK];unfold aft;simp)
  exact⟨z,by simpa using q1,q2⟩
theorem DJ.found {K:Nat->Rk}{v0:Nat}(hc:∀v u k,(u,k)∈arcs v->0<=k)(hasc:∀v,(arcs v).Pairwise (λp q=>eo p.1<eo q.1))(h:DJ eo arcs s0 w0 t arcs K S O)(hv:v0∈O)(hle:∀y∈O,¬rlt (K y) (K v0))(ht:eo v0=t)(hN:NX eo arcs t K (K v0) S N) :
  ∃F,TRV eo t K (K v0) N s0 F/\Fl t (λc E=>∃v,WK eo arcs s0 w0 E c v/\eo v=t) ⟨0,(K v0).1,eo s0::F⟩:=by
 generalize hb:K v0=b at *
 have hS:∀v,K v≠(0,0)->rlt (K v) b->v∈S:=λv h0 hl=>by
  rcases (h.dom v).1 h0 with g|g
  ·exact g
  ·exact absurd hl (hle v g)
 have hpos:∀v k,K v≠(0,0)->aft (K v) k≠(0,0):=λv k h0 e=>by
  obtain⟨E,c,_,e2⟩:=h.real v h0
  rw[e2] at e
  have:=congrArg Prod.snd e
  simp only[aft] at this
  omega
 have hs1:K s0=(w0,1):=by
  obtain⟨E,c,hW,e⟩:=h.real s0 h.st.1
  have h1:=h.st.2
  have h2:=hW.pos
  have h3:=hW.cge hc
  rw[e] at h1 ⊢
  unfold rlt at h1
  simp only at h1
  refine Prod.ext ?_ ?_
  ·simp only;omega
  ·simp only;omega
 have hmin:∀E c y,WK eo arcs s0 w0 E c y->eo y=t->¬rlt (c,(E.length:Int)) b:=by
  intro E c y hW e
  rcases h.cover hc hW with⟨h1,h2⟩|⟨x,hx,h2⟩
  ·rcases (h.dom y).1 h1 with g|g
   ·exact absurd e (h.tg y g)
   ·exact Zd (hle y g) h2
  ·exact Zd (hle x hx) h2
 have hlow:∀E c u,WK eo arcs s0 w0 E c u->rlt (c,(E.length:Int)) b->u∈S/\¬rlt (c,(E.length:Int)) (K u):=by
  intro E c u hW hl
  rcases h.cover hc hW with⟨h1,h2⟩|⟨x,hx,h2⟩
  ·exact⟨hS u h1 (Ek h2 hl),h2⟩
  ·exact absurd (Ek h2 hl) (hle x hx)
 have hlast:∀E c y,WK eo arcs s0 w0 E c y->eo y=t->(c,(E.length:Int))=b->K y=b:=by
  intro E c y hW e hE
  have hin:K y≠(0,0)->K y=b\/rlt b (K y):=λh1=>by
   rcases (h.dom y).1 h1 with g|g
   ·exact absurd e (h.tg y g)
   ·by_cases q:rlt b (K y)
    ·exact oR q
    ·exact oL (Q38 q (hle y g))
  induction hW using WK.ind with
  |base=>
   rcases hin h.st.1 with g|g
   ·exact g
   ·rw[hs1] at g
    have:((w0,(([eo s0]:List Int).length:Int)):Rk)=(w0,1):=by simp
    rw[this] at hE
    rw[<-hE] at g
    exact absurd g (Ye _)
  |step h1 hk hzz=>
   rename_i E0 c0 u y k
   have ea:((c0+k,((E0++[eo y]).length:Int)):Rk)=aft (c0,(E0.length:Int)) k:=by unfold aft;simp
   rw[ea] at hE
   have hl:rlt (c0,(E0.length:Int)) b:=by rw[<-hE];exact Th _ (hc _ _ _ hk)
   obtain⟨hu,hle2⟩:=hlow _ _ _ h1 hl
   have:=h.arc u hu y k hk
   rcases hin this.1 with g|g
   ·exact g
   ·have h5:=Zd this.2 (Qcm k hle2)
    rw[hE] at h5
    exact absurd g h5
 have hback:∀E c u,WK eo arcs s0 w0 E c u->K u=(c,(E.length:Int))->∀F2,TC eo arcs t K b u F2->∃F,TC eo arcs t K b s0 F/\E++F2=eo s0::F:=by
  intro E c u hW
  induction hW using WK.ind with
  |base=>exact λ_ F2 hT=>⟨F2,hT,rfl⟩
  |step h1 hk ih=>
   rename_i E0 c0 u v k
   intro hK F2 hT
   have ea:((c0+k,((E0++[eo v]).length:Int)):Rk)=aft (c0,(E0.length:Int)) k:=by unfold aft;simp
   rw[ea] at hK
   have hl:rlt (c0,(E0.length:Int)) b:=by
    have h5:=(hT.le hc).1
    rw[hK] at h5
    exact Q5c (Th _ (hc _ _ _ hk)) h5
   obtain⟨hu,hle2⟩:=hlow _ _ _ h1 hl
   have hKu:K u=(c0,(E0.length:Int)):=by
    by_cases q:rlt (K u) (c0,(E0.length:Int))
    ·have h6:=(h.arc u hu v k hk).2
     rw[hK] at h6
     exact absurd (Qgm k q) h6
    ·exact Q38 hle2 q
   obtain⟨F,hF,e⟩:=ih hKu _ (TC.cons hk (by rw[hK,hKu]) hT)
   exact⟨F,hF,by rw[<-e];simp⟩
 obtain⟨E,c,hW,e⟩:=h.real v0 ((h.dom v0).2 (oR hv))
 obtain⟨F,hF,_⟩:=hback E c v0 hW e [] (TC.nil ⟨ht,hb⟩)
 obtain⟨F',hF',hl',_⟩:=hN.first hc hasc hS hpos hF h.st.1
 refine⟨F',hF',λg=>absurd rfl g,λ_=>⟨?_,λc E hP hbef=>?_⟩⟩
 ·have:=hN.walk hF' [eo s0] w0 WK.base (by rw[hs1];simp)
  exact this
 ·obtain⟨y,hWy,hy⟩:=hP
  have hm:=hmin _ _ _ hWy hy
  have hbl:=(hF.le hc).2
  rw[hs1] at hbl
  simp only at hbl
  unfold rlt at hm
  simp only at hm
  rcases hbef with g|⟨g1,g2⟩
  ·simp only at g;omega
  ·simp only at g1 g2
   have hlen:=Q2l g2
   rw[List.length_cons] at hlen
   have hE:(c,(E.length:Int))=b:=by
    refine Prod.ext g1 ?_
    simp only
    omega
   obtain⟨F2,hF2,e2⟩:=hback E c y hWy (by rw[hE];exact hlast _ _ _ hWy hy hE) [] (TC.nil ⟨hy,hlast _ _ _ hWy hy hE⟩)
   rw[List.append_nil] at e2
   obtain⟨F3,hF3,hl3,hx3⟩:=hN.first hc hasc hS hpos hF2 h.st.1
   have:=hF3.uniq hF'
   subst this
   rw[e2] at g2
   unfold Vh at g2
   rw[if_pos (by simp[hl3]),Zt,if_pos rfl,hx3] at g2
   cases g2
end
open Go Go.Maps
def lat (L:List Nat)(i:Nat):Nat:=L.getD i 0
theorem Qw (ha:a<L.length)(i:Nat):lat (L.set a x) i=if i=a then x else lat L i:=by
 unfold lat
 rw[zD,zD,List.getElem?_set]
 by_cases h:a=i
 ·subst h;simp[ha]
 ·rw[if_neg h,if_neg (λe=>h e.symm)]
theorem Jo {y:Nat}:y∈L↔∃i,i<L.length/\lat L i=y:=by
 rw[List.mem_iff_getElem]
 constructor
 ·rintro⟨i,hi,e⟩;exact⟨i,hi,by unfold lat;rw[zD,zH hi];exact e⟩
 ·rintro⟨i,hi,e⟩;exact⟨i,hi,by unfold lat at e;rw[zD,zH hi] at e;exact e⟩
theorem T7 {i:Nat}(h:i<L.length):lat L i∈L:=Jo.2 ⟨i,h,rfl⟩
def Inj (L:List Nat):Prop:=∀i j,i<L.length->j<L.length->lat L i=lat L j->i=j
theorem Inj.nodup (h:Inj L):L.Nodup:=by
 rw[List.nodup_iff_pairwise_ne,List.pairwise_iff_getElem]
 intro i j hi hj hij e
 have:=h i j hi hj (by unfold lat;rw[zD,zD,zH hi,zH hj];simp[e])
 omega
theorem Zv (ha:a<L.length)(hb:b<L.length)(i:Nat):lat ((L.set a (lat L b)).set b x) i=if i=b then x else if i=a then lat L b else lat L i:=by
 rw[Qw (by simpa using hb),Qw ha]
theorem Q33 (ha:a<L.length)(hb:b<L.length)(hab:a≠b)(y:Nat):y∈(L.set a (lat L b)).set b x↔y∈L.set a x:=by
 rw[Jo,Jo]
 simp only[List.length_set]
 constructor
 ·rintro⟨i,hi,e⟩
  rw[Zv ha hb] at e
  by_cases h1:i=b
  ·rw[if_pos h1] at e;exact⟨a,ha,by rw[Qw ha,if_pos rfl];exact e⟩
  ·rw[if_neg h1] at e
   by_cases h2:i=a
   ·rw[if_pos h2] at e;exact⟨b,hb,by rw[Qw ha,if_neg (λh=>hab h.symm)];exact e⟩
   ·rw[if_neg h2] at e;exact⟨i,hi,by rw[Qw ha,if_neg h2];exact e⟩
 ·rintro⟨i,hi,e⟩
  rw[Qw ha] at e
  by_cases h1:i=a
  ·rw[if_pos h1] at e;exact⟨b,hb,by rw[Zv ha hb,if_pos rfl];exact e⟩
  ·rw[if_neg h1] at e
   by_cases h2:i=b
   ·subst h2;exact⟨a,ha,by rw[Zv ha hb,if_neg hab,if_pos rfl];exact e⟩
   ·exact⟨i,hi,by rw[Zv ha hb,if_neg h2,if_neg h1];exact e⟩
theorem Qa8 (ha:a<L.length)(hb:b<L.length)(hab:a≠b)(h:Inj (L.set a x)):Inj ((L.set a (lat L b)).set b x):=by
 intro i j hi hj e
 simp only[List.length_set] at hi hj
 have key:∀i,i<L.length->∃s,s<L.length/\lat ((L.set a (lat L b)).set b x) i=lat (L.set a x) s/\((i=b/\s=a)\/(i=a/\s=b)\/(i≠a/\i≠b/\s=i)):=by
  intro i hi
  rw[Zv ha hb]
  by_cases h1:i=b
  ·exact⟨a,ha,by rw[if_pos h1,Qw ha,if_pos rfl],oL ⟨h1,rfl⟩⟩
  ·rw[if_neg h1]
   by_cases h2:i=a
   ·exact⟨b,hb,by rw[if_pos h2,Qw ha,if_neg (λh=>hab h.symm)],oR (oL ⟨h2,rfl⟩)⟩
   ·exact⟨i,hi,by rw[if_neg h2,Qw ha,if_neg h2],oR (oR ⟨h2,h1,rfl⟩)⟩
 obtain⟨s,hs,e1,c1⟩:=key i hi
 obtain⟨t,ht,e2,c2⟩:=key j hj
 have:=h s t (by simpa using hs) (by simpa using ht) (by rw[<-e1,<-e2];exact e)
 omega
def Up (K:Nat->Rk)(M:List Nat):Prop:=∀i,0<i->i<M.length->¬rlt (K (lat M i)) (K (lat M ((i-1)/2)))
structure UP (K:Nat->Rk)(M:List Nat)(a:Nat):Prop where
 h:∀i,0<i->i<M.length->i≠a->¬rlt (K (lat M i)) (K (lat M ((i-1)/2)))
 g:∀i,0<i->i<M.length->(i-1)/2=a->0<a->¬rlt (K (lat M i)) (K (lat M ((a-1)/2)))
structure DN (K:Nat->Rk)(M:List Nat)(a:Nat):Prop where
 h:∀i,0<i->i<M.length->(i-1)/2≠a->¬rlt (K (lat M i)) (K (lat M ((i-1)/2)))
 g:∀i,0<i->i<M.length->(i-1)/2=a->0<a->¬rlt (K (lat M i)) (K (lat M ((a-1)/2)))
theorem Up.root {K:Nat->Rk}(h:Up K M):∀i,i<M.length->¬rlt (K (lat M i)) (K (lat M 0)):=by
 intro i
 induction i using Nat.strongRecOn with
 |_ i ih=>
  intro hi
  by_cases h0:i=0
  ·subst h0;exact Ye _
  ·exact Zd (ih ((i-1)/2) (by omega) (by omega)) (h i (by omega) hi)
theorem UP.done {K:Nat->Rk}(h:UP K M a)(ha:a=0\/¬rlt (K (lat M a)) (K (lat M ((a-1)/2)))):Up K M:=by
 intro i h0 hi
 by_cases e:i=a
 ·subst e
  rcases ha with ha|ha
  ·omega
  ·exact ha
 ·exact h.h i h0 hi e
theorem UP.step {K:Nat->Rk}(ha:a<L.length)(h0:0<a)(h:UP K (L.set a x) a)(hx:rlt (K x) (K (lat L ((a-1)/2)))):UP K ((L.set a (lat L ((a-1)/2))).set ((a-1)/2) x) ((a-1)/2):=by
 have hb:(a-1)/2<L.length:=by omega
 have hab:a≠(a-1)/2:=by omega
 have e1:=λi=>Zv (x:=x) ha hb i
 have e2:=λi=>Qw (x:=x) ha i
 refine⟨λi hi hl hne=>?_,λi hi hl hp hb0=>?_⟩
 ·simp only[List.length_set] at hl
  rw[e1,e1,if_neg hne]
  by_cases c1:i=a
  ·subst c1
   rw[if_pos rfl,if_pos rfl]
   exact Yq hx
  ·rw[if_neg c1]
   have q:=h.h i hi (by simpa using hl) c1
   rw[e2,e2,if_neg c1] at q
   by_cases c2:(i-1)/2=(a-1)/2
   ·rw[if_pos c2]
    rw[c2,if_neg (λe=>hab e.symm)] at q
    exact Yq (Q5c hx q)
   ·rw[if_neg c2]
    by_cases c3:(i-1)/2=a
    ·rw[if_pos c3]
     have q2:=h.g i hi (by simpa using hl) c3 h0
     rw[e2,e2,if_neg c1,if_neg (λe=>hab e.symm)] at q2
     exact q2
    ·rw[if_neg c3]
     rw[if_neg c3] at q
     exact q
 ·simp only[List.length_set] at hl
  have n1:i≠(a-1)/2:=by omega
  have n2:((a-1)/2-1)/2≠(a-1)/2:=by omega
  have n3:((a-1)/2-1)/2≠a:=by omega
  have n4:(a-1)/2≠a:=by omega
  have q:=h.h ((a-1)/2) hb0 (by simpa using hb) n4
  rw[e2,e2,if_neg n4,if_neg n3] at q
  rw[e1,e1,if_neg n1,if_neg n2,if_neg n3]
  by_cases c1:i=a
  ·rw[if_pos c1];exact q
  ·rw[if_neg c1]
   have q2:=h.h i hi (by simpa using hl) c1
   rw[e2,e2,if_neg c1,hp,if_neg n4] at q2
   exact Zd q q2
theorem DN.done {K:Nat->Rk}(h:DN K M a)(ha:∀i,0<i->i<M.length->(i-1)/2=a->¬rlt (K (lat M i)) (K (lat M a))):Up K M:=by
 intro i h0 hi
 by_cases e:(i-1)/2=a
 ·rw[e];exact ha i h0 hi e
 ·exact h.h i h0 hi e
theorem DN.step {K:Nat->Rk}(ha:a<L.length)(hb:b<L.length)(hb0:0<b)(hp:(b-1)/2=a)(h:DN K (L.set a x) a)(hx:rlt (K (lat L b)) (K x))(hs:∀i,0<i->i<L.length->(i-1)/2=a->¬rlt (K (lat L i)) (K (lat L b))):DN K ((L.set a (lat L b)).set b x) b:=by
 have hab:a≠b:=by omega
 have e1:=λi=>Zv (x:=x) ha hb i
 have e2:=λi=>Qw (x:=x) ha i
 refine⟨λi hi hl hne=>?_,λi hi hl hpi hb0=>?_⟩
 ·simp only[List.length_set] at hl
  rw[e1,e1,if_neg hne]
  by_cases c1:i=b
  ·subst c1
   rw[if_pos rfl,if_pos hp]
   exact Yq hx
  ·rw[if_neg c1]
   by_cases c2:(i-1)/2=a
   ·rw[if_pos c2,if_neg (by omega)]
    exact hs i hi hl c2
   ·rw[if_neg c2]
    by_cases c3:i=a
    ·rw[if_pos c3]
     subst c3
     have q:=h.g b hb0 (by simpa using hb) hp hi
     rw[e2,e2,if_neg (λe=>hab e.symm),if_neg c2] at q
     exact q
    ·rw[if_neg c3]
     have q:=h.h i hi (by simpa using hl) c2
     rw[e2,e2,if_neg c3,if_neg c2] at q
     exact q
 ·simp only[List.length_set] at hl
  have q:=h.h i hi (by simpa using hl) (by omega)
  rw[e2,e2,if_neg (by omega),if_neg (by omega),hpi] at q
  rw[e1,e1,if_neg (by omega),if_neg (by omega),hp,if_neg hab,if_pos rfl]
  exact q
abbrev DM:=DataW Unit
def kv (v:Nat):Lit:=.int .i64 (v:Int)
theorem Uf (h:u≠v):kv u≠kv v:=by unfold kv;intro e;simp at e;omega
theorem Kt (v:Nat):WideAt.IsKeyLit (kv v):=by unfold kv WideAt.IsKeyLit;trivial
def pv (i:Nat):DM:=.lit (.int .i64 (i:Int))
structure PL (D:DM)(M:List Nat)(a:Nat)(X:Nat->Prop):Prop where
 m:IsMap D
 t:Tidy D
 p:∀i,i<M.length->i≠a->has D (kv (lat M i))=true/\D.atKey (kv (lat M i)) (.lit (.int .i64 0))=pv i
 k:∀v,has D (kv v)=true->v∈M\/X v
theorem PL.step {D:DM}{X:Nat->Prop}(ha:a<L.length)(hb:b<L.length)(hab:a≠b)(hj:Inj (L.set a x))(h:PL D (L.set a x) a X):PL (D.put (kv (lat L b)) (pv a)) ((L.set a (lat L b)).set b x) b X/\size (D.put (kv (lat L b)) (pv a))=size D:=by
 have hbm:=h.p b (by simpa using hb) (λe=>hab e.symm)
 rw[Qw ha,if_neg (λe=>hab e.symm)] at hbm
 refine⟨⟨h.m.put _ _,h.t.put (Kt _) _,λi hi hne=>?_,λv hv=>?_⟩,by rw[size_put h.t,hbm.1];simp⟩
 ·simp only[List.length_set] at hi
  rw[Zv ha hb,if_neg hne]
  by_cases c:i=a
  ·rw[if_pos c,c]
   exact⟨has_put_same h.m (Kt _) _,atKey_put_same h.m (Kt _) _ _⟩
  ·rw[if_neg c]
   have q:=h.p i (by simpa using hi) c
   rw[Qw ha,if_neg c] at q
   have hne':lat L i≠lat L b:=λe=>by
    have:=hj i b (by simpa using hi) (by simpa using hb) (by rw[Qw ha,Qw ha,if_neg c,if_neg (λe=>hab e.symm)];exact e)
    omega
   rw[has_put_other (Uf hne'),atKey_put_other (Uf hne')]
   exact q
 ·rw[Q33 ha hb hab]
  by_cases e:v=lat L b
  ·left
   rw[e,Jo]
   exact⟨b,by simpa using hb,by rw[Qw ha,if_neg (λe=>hab e.symm)]⟩
  ·rw[has_put_other (Uf e)] at hv
   exact h.k v hv
theorem PL.close {D:DM}{X:Nat->Prop}(ha:a<L.length)(hj:Inj (L.set a x))(h:PL D (L.set a x) a X):PL (D.put (kv x) (pv a)) (L.set a x) (L.set a x).length X/\size (D.put (kv x) (pv a))<=size D+1/\(has D (kv x)=true->size (D.put (kv x) (pv a))=size D):=by
 refine⟨⟨h.m.put _ _,h.t.put (Kt _) _,λi hi _=>?_,λv hv=>?_⟩,?_,λg=>by rw[size_put h.t,g];simp⟩
 ·by_cases c:i=a
  ·subst c
   rw[Qw ha,if_pos rfl]
   exact⟨has_put_same h.m (Kt _) _,atKey_put_same h.m (Kt _) _ _⟩
  ·have q:=h.p i hi c
   have hne':lat (L.set a x) i≠x:=λe=>by
    have:=hj i a hi (by simpa using ha) (by rw[e,Qw ha,if_pos rfl])
    omega
   rw[has_put_other (Uf hne'),atKey_put_other (Uf hne')]
   exact q
 ·by_cases e:v=x
  ·left
   rw[e,Jo]
   exact⟨a,by simpa using ha,by rw[Qw ha,if_pos rfl]⟩
  ·rw[has_put_other (Uf e)] at hv
   exact h.k v hv
 ·rw[size_put h.t];split<;>omega
end Go.Proofs.YtphiaobccollhaaGreat
