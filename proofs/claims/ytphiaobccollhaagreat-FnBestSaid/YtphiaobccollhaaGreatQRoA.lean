import Derived.Test.YtphiaobccollhaaGreatQLeaf
namespace Go.Proofs.YtphiaobccollhaaGreat
open Go.RowKit
set_option linter.unusedVariables false
set_option maxHeartbeats 16000000
variable {e i j:Nat}
structure Eg where
 tail:Int
 head:Int
 weight:Int
 way:Int
 seg:Int
 back:Bool
 twin:Int
def pos (zs:List Int)(t:Int):Nat:=zs.findIdx (λz=>z==t)
theorem Qar {zs:List Int}(hm:∀i j,i<j->j<zs.length->iat zs i<iat zs j)(hi:i<zs.length):pos zs (iat zs i)=i:=by
 unfold pos
 rw[List.findIdx_eq hi]
 refine⟨by rw[V5 hi];simp,λj hj=>?_⟩
 have h1:=hm j i hj hi
 rw[V5 (by omega),V5 hi] at h1
 rw[V5 hi]
 have:zs[j]≠zs[i]:=by omega
 simpa using this
section Lay
variable (sg:Nat->Nat->Nat->List Eg) (ns:Nat->Nat)
def Za (i:Nat)(L:List Eg):Nat->List Eg
 |0=>L
 |j+1=>Za i L j++sg i (Za i L j).length j
def lay:Nat->List Eg
 |0=>[]
 |i+1=>Za sg i (lay i) (ns i)
variable (bn:Nat->Nat)
def st:Nat->Nat
 |0=>0
 |i+1=>st i+bn i*ns i
end Lay
theorem Ts {sg:Nat->Nat->Nat->List Eg}{bn:Nat->Nat}(hl:∀i o j,(sg i o j).length=bn i)(i:Nat)(L:List Eg)(j:Nat):(Za sg i L j).length=L.length+bn i*j:=by
 induction j with
 |zero=>simp[Za]
 |succ j ih=>rw[Za,zA,hl,ih,Nat.mul_succ];omega
theorem Ps {sg:Nat->Nat->Nat->List Eg}{bn:Nat->Nat}(hl:∀i o j,(sg i o j).length=bn i)(ns:Nat->Nat)(i:Nat):(lay sg ns i).length=st ns bn i:=by
 induction i with
 |zero=>rfl
 |succ i ih=>rw[lay,Ts hl,ih,st]
theorem Q2w (sg:Nat->Nat->Nat->List Eg)(i:Nat)(L:List Eg)(j d:Nat):Za sg i L j <+: Za sg i L (j+d):=by
 induction d with
 |zero=>exact List.prefix_rfl
 |succ d ih=>exact ih.trans (by rw[<-Nat.add_assoc,Za];exact List.prefix_append _ _)
theorem Qds (sg:Nat->Nat->Nat->List Eg)(ns:Nat->Nat)(i d:Nat):lay sg ns i <+: lay sg ns (i+d):=by
 induction d with
 |zero=>exact List.prefix_rfl
 |succ d ih=>
  refine ih.trans ?_
  rw[<-Nat.add_assoc,lay]
  have:=Q2w sg (i+d) (lay sg ns (i+d)) 0 (ns (i+d))
  rwa [Nat.zero_add] at this
theorem Qbd {sg:Nat->Nat->Nat->List Eg}{bn:Nat->Nat}(hl:∀i o j,(sg i o j).length=bn i)(ns:Nat->Nat){K:Nat}(hi:i<K)(hj:j<ns i)(q:Nat)(hq:q<bn i) :
  (lay sg ns K)[st ns bn i+bn i*j+q]?=(sg i (st ns bn i+bn i*j) j)[q]?:=by
 have p1:Za sg i (lay sg ns i) (j+1) <+: lay sg ns K:=by
  have a:=Q2w sg i (lay sg ns i) (j+1) (ns i-(j+1))
  rw[show j+1+(ns i-(j+1))=ns i by omega] at a
  have b:=Qds sg ns (i+1) (K-(i+1))
  rw[show i+1+(K-(i+1))=K by omega] at b
  exact a.trans b
 have hlen:(Za sg i (lay sg ns i) j).length=st ns bn i+bn i*j:=by rw[Ts hl,Ps hl]
 have hq':q<(sg i (st ns bn i+bn i*j) j).length:=by rw[hl];exact hq
 have e:(Za sg i (lay sg ns i) (j+1))[st ns bn i+bn i*j+q]?=(sg i (st ns bn i+bn i*j) j)[q]?:=by
  rw[Za,hlen,yA (by omega),hlen]
  congr 1
  omega
 obtain⟨t,ht⟩:=p1
 rw[<-ht,zT,e]
 rw[Za,zA,hlen,hl]
 omega
theorem Kn {ns bn:Nat->Nat}(K:Nat)(he:e<st ns bn K):∃i j q,i<K/\j<ns i/\q<bn i/\e=st ns bn i+bn i*j+q:=by
 induction K with
 |zero=>simp[st] at he
 |succ K ih=>
  by_cases h:e<st ns bn K
  ·obtain⟨i,j,q,h1,h2⟩:=ih h
   exact⟨i,j,q,by omega,h2⟩
  ·rw[st] at he
   have hb:0<bn K:=by
    rcases Nat.eq_zero_or_pos (bn K) with z|z
    ·rw[z] at he;simp at he;omega
    ·exact z
   refine⟨K,(e-st ns bn K)/bn K,(e-st ns bn K)%bn K,by omega,?_,Nat.mod_lt _ hb,?_⟩
   ·rw[Nat.div_lt_iff_lt_mul hb,Nat.mul_comm];omega
   ·have:=Nat.div_add_mod (e-st ns bn K) (bn K);omega
theorem Q72 (ns bn:Nat->Nat)(i d:Nat):st ns bn i<=st ns bn (i+d):=by
 induction d with
 |zero=>exact lR
 |succ d ih=>rw[<-Nat.add_assoc,st];omega
theorem Qad {ns bn:Nat->Nat}{K q:Nat}(hi:i<K)(hj:j<ns i)(hq:q<bn i):st ns bn i+bn i*j+q<st ns bn K:=by
 have h1:=Q72 ns bn (i+1) (K-(i+1))
 rw[show i+1+(K-(i+1))=K by omega,st] at h1
 have h2:bn i*(j+1)<=bn i*ns i:=Nat.mul_le_mul_left _ hj
 rw[Nat.mul_succ] at h2
 omega
def eat (es:List Eg)(i:Nat):Eg:=es.getD i ⟨0,0,0,0,0,false,0⟩
theorem Q4e {es:List Eg}{x:Eg}(h:es[i]?=some x):eat es i=x:=by simp[eat,List.getD,h]
def bnN (N:Nt)(i:Nat):Nat:=if (wat N.ways i).both then 2 else 1
def nsN (N:Nt)(i:Nat):Nat:=(wat N.ways i).weights.length
def fwd (N:Nt)(i j:Nat)(tw:Int):Eg:=
 ⟨pos N.nodes (iat (wat N.ways i).nodes j),pos N.nodes (iat (wat N.ways i).nodes (j+1)),iat (wat N.ways i).weights j,i,j,false,tw⟩
def bwd (N:Nt)(i j:Nat)(tw:Int):Eg:=
 ⟨pos N.nodes (iat (wat N.ways i).nodes (j+1)),pos N.nodes (iat (wat N.ways i).nodes j),iat (wat N.ways i).weights j,i,j,true,tw⟩
def sg0 (N:Nt)(i o j:Nat):List Eg:=if (wat N.ways i).both then [fwd N i j (-1),bwd N i j (-1)] else [fwd N i j (-1)]
def sg1 (N:Nt)(i o j:Nat):List Eg:=if (wat N.ways i).both then [fwd N i j ((o:Int)+1),bwd N i j o] else [fwd N i j (-1)]
theorem Fv (N:Nt)(i o j:Nat):(sg0 N i o j).length=bnN N i:=by unfold sg0 bnN;split<;>rfl
theorem Pm (N:Nt)(i o j:Nat):(sg1 N i o j).length=bnN N i:=by unfold sg1 bnN;split<;>rfl
def E0 (N:Nt):List Eg:=lay (sg0 N) (nsN N) N.ways.length
def E1 (N:Nt):List Eg:=lay (sg1 N) (nsN N) N.ways.length
def mN (N:Nt):Nat:=st (nsN N) (bnN N) N.ways.length
theorem Qcr (N:Nt):(E0 N).length=mN N:=Ps (Fv N) _ _
theorem Ti (N:Nt):(E1 N).length=mN N:=Ps (Pm N) _ _
def mt (a b:Eg):Bool:=decide (a.way=b.way)&&(decide (a.seg=b.seg)&&(a.back !=b.back))
def Ga (E:List Eg)(e:Nat):Nat->Int
 |0=>-1
 |f+1=>if mt (eat E e) (eat E f) then f else Ga E e f
theorem Q8h {E:List Eg}{n:Nat}(h:∀f,f<n->mt (eat E e) (eat E f)=false):Ga E e n=-1:=by
 induction n with
 |zero=>rfl
 |succ n ih=>
  have h1:=h n (by omega)
  rw[Ga,if_neg (by simp[h1])]
  exact ih λf hf=>h f (by omega)
theorem Qa2 {E:List Eg}{n f0:Nat}(h0:f0<n)(hm:mt (eat E e) (eat E f0)=true)(h:∀f,f<n->mt (eat E e) (eat E f)=true->f=f0):Ga E e n=f0:=by
 induction n with
 |zero=>omega
 |succ n ih=>
  by_cases e1:f0=n
  ·subst e1
   rw[Ga,if_pos hm]
  ·have h1:¬mt (eat E e) (eat E n)=true:=λh2=>e1 (h n (by omega) h2).symm
   rw[Ga,if_neg h1]
   exact ih (by omega) λf hf=>h f (by omega)
def Tw (x:Eg)(t:Int):Eg:={ x with twin:=t }
theorem Yc {N:Nt}{q:Nat}(hi:i<N.ways.length)(hj:j<nsN N i)(hq:q<bnN N i) :
  eat (E0 N) (st (nsN N) (bnN N) i+bnN N i*j+q)=(if q=0 then fwd N i j (-1) else bwd N i j (-1)) /\
  eat (E1 N) (st (nsN N) (bnN N) i+bnN N i*j+q)=(if bnN N i=1 then fwd N i j (-1) else if q=0 then fwd N i j (((st (nsN N) (bnN N) i+bnN N i*j:Nat):Int)+1) else bwd N i j ((st (nsN N) (bnN N) i+bnN N i*j:Nat):Int)):=by
 have h0:=Qbd (Fv N) (nsN N) hi hj q hq
 have h1:=Qbd (Pm N) (nsN N) hi hj q hq
 constructor
 ·refine Q4e (h0.trans ?_)
  unfold bnN at hq
  unfold sg0
  by_cases hb:(wat N.ways i).both=true
  ·rw[if_pos hb] at hq ⊢
   rcases (show q=0\/q=1 by omega) with rfl|rfl<;>simp
  ·rw[if_neg hb] at hq ⊢
   obtain rfl:q=0:=by omega
   simp
 ·refine Q4e (h1.trans ?_)
  unfold bnN at hq
  have hbn:bnN N i=if (wat N.ways i).both then 2 else 1:=rfl
  generalize st (nsN N) (bnN N) i+bnN N i*j=o
  unfold sg1
  by_cases hb:(wat N.ways i).both=true
  ·rw[if_pos hb] at hq hbn ⊢
   rw[hbn]
   rcases (show q=0\/q=1 by omega) with rfl|rfl<;>simp
  ·rw[if_neg hb] at hq hbn ⊢
   rw[hbn]
   obtain rfl:q=0:=by omega
   simp
theorem Qd0 (N:Nt)(he:e<mN N):eat (E1 N) e=Tw (eat (E0 N) e) (Ga (E0 N) e (mN N)):=by
 obtain⟨i,j,q,hi,hj,hq,he1⟩:=Kn N.ways.length he
 obtain⟨a0,a1⟩:=Yc hi hj hq
 rw[<-he1] at a0 a1
 have key:∀f,f<mN N->mt (eat (E0 N) e) (eat (E0 N) f)=true->∃q',q'<bnN N i/\f=st (nsN N) (bnN N) i+bnN N i*j+q'/\((q=0)≠(q'=0)):=by
  intro f hf hm
  obtain⟨i',j',q',hi',hj',hq',hf1⟩:=Kn N.ways.length hf
  obtain⟨b0,_⟩:=Yc hi' hj' hq'
  rw[<-hf1] at b0
  rw[a0,b0] at hm
  simp only[mt,zG,decide_eq_true_eq] at hm
  obtain⟨m1,m2,m3⟩:=hm
  have w1:∀(t:Nat) (i j:Nat),(if t=0 then fwd N i j (-1) else bwd N i j (-1)).way=i:=λt i j=>by split<;>rfl
  have w2:∀(t:Nat) (i j:Nat),(if t=0 then fwd N i j (-1) else bwd N i j (-1)).seg=j:=λt i j=>by split<;>rfl
  rw[w1,w1] at m1
  rw[w2,w2] at m2
  have ei:i=i':=by omega
  have ej:j=j':=by omega
  subst ei ej
  refine⟨q',hq',hf1,λh=>?_⟩
  by_cases h0:q=0
  ·have h1:q'=0:=by rw[<-h];exact h0
   rw[if_pos h0,if_pos h1] at m3
   simp[fwd] at m3
  ·have h1:¬q'=0:=by rw[<-h];exact h0
   rw[if_neg h0,if_neg h1] at m3
   simp[bwd] at m3
 have hbv:bnN N i=2\/bnN N i=1:=by unfold bnN;split<;>simp
 rcases hbv with hb|hb
 ·
  rw[if_neg (by omega)] at a1
  have hq2:q<2:=by omega
  have oth:∀q',q'<bnN N i->((q=0)≠(q'=0))->q'=1-q:=by
   intro q' h1 h2
   rcases (show q=0\/q=1 by omega) with rfl|rfl<;>rcases (show q'=0\/q'=1 by omega) with rfl|rfl<;>simp_all
  have hq1:1-q<bnN N i:=by omega
  have hf0:st (nsN N) (bnN N) i+bnN N i*j+(1-q)<mN N:=Qad (ns:=nsN N) (bn:=bnN N) hi hj hq1
  obtain⟨c0,_⟩:=Yc hi hj hq1
  have hm:mt (eat (E0 N) e) (eat (E0 N) (st (nsN N) (bnN N) i+bnN N i*j+(1-q)))=true:=by
   rw[a0,c0]
   rcases (show q=0\/q=1 by omega) with rfl|rfl<;>simp[mt,fwd,bwd]
  rw[Qa2 hf0 hm (λf hf h=>by obtain⟨q',h1,h2,h3⟩:=key f hf h;rw[h2,oth q' h1 h3])]
  rw[a1,a0]
  rcases (show q=0\/q=1 by omega) with rfl|rfl
  ·simp[Tw,fwd]
  ·simp[Tw,bwd]
 ·rw[if_pos hb] at a1
  have hq0:q=0:=by omega
  rw[Q8h (λf hf=>by
   by_cases h:mt (eat (E0 N) e) (eat (E0 N) f)=true
   ·obtain⟨q',h1,_,h3⟩:=key f hf h
    exact absurd (show(q=0)=(q'=0) by have:q'=0:=by omega
                                      simp[hq0,this]) h3
   ·simpa using h)]
  rw[a1,a0,if_pos hq0]
  rfl
set_option maxRecDepth 1000000
abbrev Vx:=Int×Int
def Vlt (a b:Vx):Prop:=a.1<b.1\/(a.1=b.1/\a.2<b.2)
theorem Vlt.trans {a b c:Vx}(h:Vlt a b)(k:Vlt b c):Vlt a c:=by unfold Vlt at *;omega
theorem Vlt.irr {a:Vx}(h:Vlt a a):False:=by unfold Vlt at h;omega
theorem vtri (a b:Vx):Vlt a b\/a=b\/Vlt b a:=by
 obtain⟨a1,a2⟩:=a
 obtain⟨b1,b2⟩:=b
 unfold Vlt
 simp only[Prod.mk.injEq]
 omega
def Ww (l:List Vx):Prop:=l.Pairwise Vlt
def vtx (l:List Vx)(i:Nat):Vx:=l.getD i (0,0)
theorem Zx {l:List Vx}(h:i<l.length):vtx l i=l[i]:=by simp[vtx,List.getD_eq_getElem?_getD,h]
theorem Wz {l:List Vx}(h:i<l.length):vtx l i∈l:=by rw[Zx h];exact yH h
theorem Ix {l:List Vx}(h:Ww l)(hij:i<j)(hj:j<l.length):Vlt (vtx l i) (vtx l j):=by
 rw[Zx hj,Zx (by omega)]
 exact List.pairwise_iff_getElem.1 h i j (by omega) hj hij
theorem Qcg {l:List Vx}(h:Ww l)(hi:i<l.length)(hj:j<l.length)(e:vtx l i=vtx l j):i=j:=by
 rcases Nat.lt_trichotomy i j with k|k|k
 ·have:=Ix h k hj;rw[e] at this;exact this.irr.elim
 ·exact k
 ·have:=Ix h k hi;rw[e] at this;exact this.irr.elim
theorem Q16:∀{l m:List Vx},Ww l->Ww m->(∀x,x∈l↔x∈m)->l=m
 |[],[],_,_,_=>rfl
 |[],y::m,_,_,e=>by have:=(e y).2 (by simp);cases this
 |x::l,[],_,_,e=>by have:=(e x).1 (by simp);cases this
 |x::l,y::m,h,k,e=>by
  have h':=List.pairwise_cons.1 h
  have k':=List.pairwise_cons.1 k
  have exy:x=y:=by
   rcases List.mem_cons.1 ((e x).1 (by simp)) with a|a
   ·exact a
   ·rcases List.mem_cons.1 ((e y).2 (by simp)) with b|b
    ·exact b.symm
    ·exact((h'.1 y b).trans (k'.1 x a)).irr.elim
  subst exy
  rw[Q16 h'.2 k'.2 (λz=>?_)]
  have ez:=e z
  constructor
  ·intro hz
   rcases List.mem_cons.1 (ez.1 (List.mem_cons_of_mem _ hz)) with a|a
   ·subst a;exact((h'.1 _ hz).irr).elim
   ·exact a
  ·intro hz
   rcases List.mem_cons.1 (ez.2 (List.mem_cons_of_mem _ hz)) with a|a
   ·subst a;exact((k'.1 _ hz).irr).elim
   ·exact a
theorem Q21 {l:List Vx}{v:Vx}(h:v∈l):∃i,i<l.length/\vtx l i=v:=by
 obtain⟨i,hi,e⟩:=List.mem_iff_getElem.1 h
 exact⟨i,hi,by rw[Zx hi];exact e⟩
def Xv (l:List Vx)(v:Vx):Int:=if v∈l then (l.idxOf v:Int) else -1
theorem Q4a {l:List Vx}{v:Vx}(h:v∉l):Xv l v=-1:=if_neg h
theorem Qg2 {l:List Vx}(h:Ww l)(hi:i<l.length):Xv l (vtx l i)=(i:Int):=by
 have hm:=Wz hi
 unfold Xv
 rw[if_pos hm]
 have hlt:=List.idxOf_lt_length_of_mem hm
 have e:vtx l (l.idxOf (vtx l i))=vtx l i:=by rw[Zx hlt];exact List.getElem_idxOf hlt
 rw[Qcg h hlt hi e]
theorem Q9i {l:List Vx}(v:Vx):-1<=Xv l v/\Xv l v<l.length:=by
 unfold Xv
 split
 ·rename_i h
  have:=List.idxOf_lt_length_of_mem h
  omega
 ·omega
def Yh:List Vx->Vx->List Vx
 |[],v=>[v]
 |x::r,v=>if x=v then x::r else if v.1<x.1\/(v.1=x.1/\v.2<x.2) then v::x::r else x::Yh r v
theorem Q46 {v x:Vx}:∀{l:List Vx},x∈Yh l v↔x=v\/x∈l
 |[]=>by simp[Yh]
 |y::r=>by
  unfold Yh
  split
  ·rename_i e;subst e;simp
  ·split
   ·simp
   ·rw[List.mem_cons,Q46,List.mem_cons]
    constructor
    ·rintro(a|a|a)
     ·exact oR (oL a)
     ·exact oL a
     ·exact oR (oR a)
    ·rintro(a|a|a)
     ·exact oR (oL a)
     ·exact oL a
     ·exact oR (oR a)
theorem Q47 {v:Vx}:∀{l:List Vx},Ww l->Ww (Yh l v)
 |[],_=>by simp[Yh,Ww]
 |y::r,h=>by
  have h':=List.pairwise_cons.1 h
  unfold Yh
  split
  ·exact h
  ·rename_i hne
   split
   ·rename_i hl
    refine List.pairwise_cons.2 ⟨λz hz=>?_,h⟩
    rcases List.mem_cons.1 hz with a|a
    ·subst a;exact hl
    ·exact Vlt.trans hl (h'.1 z a)
   ·rename_i hl
    refine List.pairwise_cons.2 ⟨λz hz=>?_,Q47 h'.2⟩
    rcases Q46.1 hz with a|a
    ·subst a
     rcases vtri y z with b|b|b
     ·exact b
     ·exact absurd b hne
     ·exact absurd b hl
    ·exact h'.1 z a
theorem Q45 {v:Vx}:∀{l:List Vx},Ww l->v∈l->Yh l v=l
 |[],_,h=>by cases h
 |y::r,h,hv=>by
  have h':=List.pairwise_cons.1 h
  unfold Yh
  by_cases e:y=v
  ·rw[if_pos e]
  ·rw[if_neg e]
   rcases List.mem_cons.1 hv with a|a
   ·exact absurd a.symm e
   ·have k:=h'.1 v a
    rw[if_neg (show ¬(v.1<y.1\/(v.1=y.1/\v.2<y.2)) from λc=>(Vlt.trans k c).irr),Q45 h'.2 a]
theorem A6 {v:Vx}:∀{l:List Vx},(∀x∈l,Vlt x v)->Yh l v=l++[v]
 |[],_=>rfl
 |y::r,h=>by
  have k:=h y (by simp)
  unfold Yh
  rw[if_neg (λe=>by subst e;exact k.irr),if_neg (show ¬(v.1<y.1\/(v.1=y.1/\v.2<y.2)) from λc=>(Vlt.trans k c).irr),A6 (λx hx=>h x (by simp[hx]))]
  rfl
theorem Q0y {v y:Vx}(hv:Vlt v y):∀{l:List Vx},(∀x∈l,Vlt x v)->Yh (l++[y]) v=l++[v]++[y]
 |[],_=>by
  show Yh [y] v=_
  unfold Yh
  rw[if_neg (λe=>by subst e;exact hv.irr),if_pos (show v.1<y.1\/(v.1=y.1/\v.2<y.2) from hv)]
  rfl
 |z::r,h=>by
  have k:=h z (by simp)
  show Yh (z::(r++[y])) v=_
  unfold Yh
  rw[if_neg (λe=>by subst e;exact k.irr),if_neg (show ¬(v.1<z.1\/(v.1=z.1/\v.2<z.2)) from λc=>(Vlt.trans k c).irr),Q0y hv (λx hx=>h x (by simp[hx]))]
  rfl
theorem Q0x {v y:Vx}:∀{l:List Vx},(∃x∈l,Vlt v x)->Yh (l++[y]) v=Yh l v++[y]
 |[],h=>by obtain⟨x,hx,_⟩:=h;cases hx
 |z::r,h=>by
  show Yh (z::(r++[y])) v=_
  unfold Yh
  by_cases e:z=v
  ·rw[if_pos e,if_pos e];rfl
  ·rw[if_neg e,if_neg e]
   by_cases c:v.1<z.1\/(v.1=z.1/\v.2<z.2)
   ·rw[if_pos c,if_pos c];rfl
   ·rw[if_neg c,if_neg c,Q0x]
    ·rfl
    ·obtain⟨x,hx,k⟩:=h
     rcases List.mem_cons.1 hx with a|a
     ·subst a;exact absurd k c
     ·exact⟨x,a,k⟩
section
variable (es:List Eg) (st:Int->Int->Int)
def stV:Nat->List Vx
 |0=>[]
 |k+1=>stV k++[((k:Int),st 0 (k:Int))]
def Zy (v:Vx):Nat->List Vx
 |0=>[]
 |f+1=>Zy v f++(if (eat es f).tail=(eat es v.1.toNat).head/\0<=st v.2 (f:Int) then [((f:Int),st v.2 (f:Int))] else [])
def nxV (v:Vx):List Vx:=Zy es st v es.length
def Q4q (t:List Vx)(u:Vx):List Vx:=if u∈t then t else t++[u]
def V1 (t nx:List Vx):Nat->List Vx
 |0=>t
 |j+1=>Q4q (V1 t nx j) (vtx nx j)
def bf:Nat->List Vx×Nat
 |0=>(stV st es.length,0)
 |k+1=>if k<(bf k).1.length then (V1 (bf k).1 (nxV es st (vtx (bf k).1 k)) (nxV es st (vtx (bf k).1 k)).length,(bf k).2+(nxV es st (vtx (bf k).1 k)).length) else bf k
end
structure Q9v (st:Int->Int->Int)(m n:Nat):Prop where
 lt:∀s e,st s e<n
 ge:∀s e,-1<=st s e
 s0:∀e:Nat,e<m->0<=st 0 e
def OkV (m n:Nat)(v:Vx):Prop:=0<=v.1/\v.1<m/\0<=v.2/\v.2<n
section
variable {es:List Eg}{st:Int->Int->Int}{n:Nat}
theorem Yd:∀k,(stV st k).length=k
 |0=>rfl
 |k+1=>by rw[stV,zA,Yd k];rfl
theorem Ef {k:Nat}:∀{m:Nat},k<m->vtx (stV st m) k=((k:Int),st 0 (k:Int))
 |m+1,h=>by
  by_cases e:k=m
  ·subst e
   unfold vtx
   rw[stV,zD,yA (by rw[Yd];exact lR),Yd,Nat.sub_self]
   rfl
  ·have ih:=Ef (m:=m) (show k<m by omega)
   unfold vtx at ih ⊢
   rw[stV,zD,zT (by rw[Yd];omega),<-zD]
   exact ih
theorem Q73 {m:Nat}{v:Vx}(h:v∈stV st m):∃k:Nat,k<m/\v=((k:Int),st 0 (k:Int)):=by
 obtain⟨i,hi,rfl⟩:=Q21 h
 rw[Yd] at hi
 exact⟨i,hi,Ef hi⟩
theorem Q74 (m:Nat):Ww (stV st m):=List.pairwise_iff_getElem.2 λi j hi hj hij=>by
 have a:=Ef (st:=st) (m:=m) (k:=i) (by rw[Yd] at hi;exact hi)
 have b:=Ef (st:=st) (m:=m) (k:=j) (by rw[Yd] at hj;exact hj)
 rw[Zx hi] at a
 rw[Zx hj] at b
 rw[a,b]
 exact oL (by show(i:Int)<j;omega)
theorem Q7d (v:Vx):∀k,(Zy es st v k).length<=k
 |0=>lR
 |k+1=>by
  rw[Zy,zA]
  have:=Q7d v k
  split
  ·simp;omega
  ·simp;omega
theorem Qb2 {v u:Vx}:∀{k:Nat},u∈Zy es st v k->∃f:Nat,f<k/\u=((f:Int),st v.2 (f:Int))/\0<=st v.2 (f:Int)/\(eat es f).tail=(eat es v.1.toNat).head
 |0,h=>by cases h
 |k+1,h=>by
  rw[Zy,yG] at h
  rcases h with h|h
  ·obtain⟨f,hf,r⟩:=Qb2 h
   exact⟨f,by omega,r⟩
  ·split at h
   ·rename_i c
    have:=List.mem_singleton.1 h
    exact⟨k,by omega,this,c.2,c.1⟩
   ·cases h
theorem Qfa (hS:Q9v st es.length n){v u:Vx}(h:u∈nxV es st v):OkV es.length n u:=by
 obtain⟨f,hf,rfl,h0,-⟩:=Qb2 h
 exact⟨by show(0:Int)<=f;omega,by show(f:Int)<_;omega,h0,hS.lt _ _⟩
theorem Qex {t:List Vx}{u x:Vx}:x∈Q4q t u↔x∈t\/x=u:=by
 unfold Q4q
 split
 ·rename_i h
  constructor
  ·exact Or.inl
  ·rintro(a|a)
   ·exact a
   ·subst a;exact h
 ·simp
theorem Q1y {t nx:List Vx}{x:Vx}:∀{k:Nat},k<=nx.length->(x∈V1 t nx k↔x∈t\/x∈nx.take k)
 |0,_=>by simp[V1]
 |k+1,h=>by
  rw[V1,Qex,Q1y (by omega),zP (by omega),yG,List.mem_singleton,Zx (show k<nx.length by omega)]
  exact or_assoc
theorem Q1z {t nx:List Vx}:∀k,(V1 t nx k).length<=t.length+k/\t.length<=(V1 t nx k).length
 |0=>⟨lR,lR⟩
 |k+1=>by
  have ih:=Q1z (t:=t) (nx:=nx) k
  rw[V1]
  unfold Q4q
  split
  ·omega
  ·rw[zA];simp;omega
theorem Q7f {t nx:List Vx}:∀k,∃r,V1 t nx k=t++r
 |0=>⟨[],by simp[V1]⟩
 |k+1=>by
  obtain⟨r,hr⟩:=Q7f (t:=t) (nx:=nx) k
  rw[V1]
  unfold Q4q
  split
  ·exact⟨r,hr⟩
  ·exact⟨r++[vtx nx k],by rw[hr,zZ]⟩
theorem U5 {k:Nat}(h:k<(bf es st k).1.length):bf es st (k+1)=(V1 (bf es st k).1 (nxV es st (vtx (bf es st k).1 k)) (nxV es st (vtx (bf es st k).1 k)).length,(bf es st k).2+(nxV es st (vtx (bf es st k).1 k)).length):=by rw[bf,if_pos h]
theorem Q2k:∀k,(bf es st k).1.length<=es.length+(bf es st k).2
 |0=>by rw[bf];show(stV st es.length).length<=_;rw[Yd];omega
 |k+1=>by
  have ih:=Q2k k
  by_cases h:k<(bf es st k).1.length
  ·rw[U5 h]
   have:=(Q1z (t:=(bf es st k).1) (nx:=nxV es st (vtx (bf es st k).1 k)) (nxV es st (vtx (bf es st k).1 k)).length).1
   show(V1 _ _ _).length<=es.length+(_+_)
   omega
  ·rw[bf,if_neg h];exact ih
theorem Q4k (hS:Q9v st es.length n):∀k,∀v∈(bf es st k).1,OkV es.length n v
 |0,v,hv=>by
  obtain⟨i,hi,rfl⟩:=Q73 hv
  exact⟨by show(0:Int)<=i;omega,by show(i:Int)<_;omega,hS.s0 i hi,hS.lt _ _⟩
 |k+1,v,hv=>by
  by_cases h:k<(bf es st k).1.length
  ·rw[U5 h] at hv
   rcases (Q1y lR).1 hv with a|a
   ·exact Q4k hS k v a
   ·rw[zR] at a
    exact Qfa hS a
  ·rw[bf,if_neg h] at hv
   exact Q4k hS k v hv
theorem Q6f:∀k,∃r,(bf es st (k+1)).1=(bf es st k).1++r:=λk=>by
 by_cases h:k<(bf es st k).1.length
 ·rw[U5 h];exact Q7f _
 ·rw[bf,if_neg h];exact⟨[],by simp⟩
theorem Qej (k:Nat):(bf es st (k+1)).2<=(bf es st k).2+es.length:=by
 by_cases h:k<(bf es st k).1.length
 ·rw[U5 h]
  have:=Q7d (es:=es) (st:=st) (vtx (bf es st k).1 k) es.length
  show _+_<=_
  unfold nxV
  omega
 ·rw[bf,if_neg h];omega
def arcs (es:List Eg)(st:Int->Int->Int)(l:List Vx):Nat:=(l.map λv=>(nxV es st v).length).sum
theorem Q18 (l:List Vx)(v:Vx):arcs es st (l++[v])=arcs es st l+(nxV es st v).length:=by simp[arcs]
theorem Q9s {l m:List Vx}(h:l.Perm m):arcs es st l=arcs es st m:=(h.map _).sum_nat
theorem Q4n (l m:List Vx):arcs es st (l++m)=arcs es st l+arcs es st m:=by simp[arcs]
theorem Qc9:∀k,k<=(bf es st k).1.length->(bf es st k).2=arcs es st ((bf es st k).1.take k)
 |0,_=>rfl
 |k+1,hk=>by
  by_cases h:k<(bf es st k).1.length
  ·have ih:=Qc9 k (by omega)
   obtain⟨r,hr⟩:=Q6f (es:=es) (st:=st) k
   have e:(bf es st (k+1)).2=(bf es st k).2+(nxV es st (vtx (bf es st k).1 k)).length:=by rw[U5 h]
   rw[e,hr,List.take_append_of_le_length (by omega),zP h,Q18,<-ih,Zx h]
  ·rw[bf,if_neg h] at hk ⊢
   omega
end
def cE (tl:Nat->Nat)(p:Nat):Nat->Nat
 |0=>0
 |k+1=>cE tl p k+if tl k=p then 1 else 0
def cL (tl:Nat->Nat)(p:Nat):Nat->Nat
 |0=>0
 |k+1=>cL tl p k+if tl k<p then 1 else 0
theorem Qee (tl:Nat->Nat)(m:Nat):cL tl 0 m=0:=by
 induction m with
 |zero=>rfl
 |succ m ih=>rw[cL,ih,if_neg (by omega)]
theorem Qef (tl:Nat->Nat)(p m:Nat):cL tl (p+1) m=cL tl p m+cE tl p m:=by
 induction m with
 |zero=>rfl
 |succ m ih=>
  rw[cL,cL,cE,ih]
  by_cases h1:tl m<p
  ·rw[if_pos (by omega),if_pos h1,if_neg (by omega)];omega
  ·by_cases h2:tl m=p
   ·rw[if_pos (by omega),if_neg h1,if_pos h2];omega
   ·rw[if_neg (by omega),if_neg h1,if_neg h2];omega
theorem cE_le (tl:Nat->Nat)(p m:Nat):cE tl p m<=m:=by
 induction m with
 |zero=>exact lR
 |succ m ih=>rw[cE];split<;>omega
theorem Qfe (tl:Nat->Nat)(p m:Nat):cL tl p m<=m:=by
 induction m with
 |zero=>exact lR
 |succ m ih=>rw[cL];split<;>omega
def grp (tl:Nat->Nat)(p:Nat):Nat->List Nat
 |0=>[]
 |k+1=>grp tl p k++if tl k=p then [k] else []
def Q94 (tl:Nat->Nat)(m:Nat):Nat->List Nat
 |0=>[]
 |p+1=>Q94 tl m p++grp tl p m
theorem Q7t (tl:Nat->Nat)(p k:Nat):(grp tl p k).length=cE tl p k:=by
 induction k with
 |zero=>rfl
 |succ k ih=>rw[grp,cE,zA,ih];split<;>rfl
theorem Qay (tl:Nat->Nat)(m p:Nat):(Q94 tl m p).length=cL tl p m:=by
 induction p with
 |zero=>rw[Qee];rfl
 |succ p ih=>rw[Q94,zA,ih,Q7t,Qef]
def Qao (tl:Nat->Nat)(m e:Nat):Nat:=cL tl (tl e) m+cE tl (tl e) e
end Go.Proofs.YtphiaobccollhaaGreat
