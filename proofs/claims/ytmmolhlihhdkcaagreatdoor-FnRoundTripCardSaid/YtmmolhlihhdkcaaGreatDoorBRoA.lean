import Derived.Test.YtmmolhlihhdkcaaGreatDoorBLeaf
namespace Go.Proofs.YtmmolhlihhdkcaaGreatDoor
open Go.RowKit
set_option linter.unusedVariables false
set_option maxHeartbeats 16000000
structure Eg where
 tail:Int
 head:Int
 weight:Int
 way:Int
 seg:Int
 back:Bool
 twin:Int
def pos (zs:List Int)(t:Int):Nat:=zs.findIdx (λz=>z==t)
theorem Q95 {zs:List Int}(hm:∀i j,i<j->j<zs.length->iat zs i<iat zs j){i:Nat}(hi:i<zs.length):pos zs (iat zs i)=i:=by
 unfold pos
 rw[List.findIdx_eq hi]
 refine⟨by rw[V7 hi];simp,λj hj=>?_⟩
 have h1:=hm j i hj hi
 rw[V7 (by omega),V7 hi] at h1
 rw[V7 hi]
 have:zs[j]≠zs[i]:=by omega
 simpa using this
section Lay
variable (sg:Nat->Nat->Nat->List Eg) (ns:Nat->Nat)
def Yh (i:Nat)(L:List Eg):Nat->List Eg
 |0=>L
 |j+1=>Yh i L j++sg i (Yh i L j).length j
def lay:Nat->List Eg
 |0=>[]
 |i+1=>Yh sg i (lay i) (ns i)
variable (bn:Nat->Nat)
def st:Nat->Nat
 |0=>0
 |i+1=>st i+bn i*ns i
end Lay
theorem Wf {sg:Nat->Nat->Nat->List Eg}{bn:Nat->Nat}(hl:∀i o j,(sg i o j).length=bn i)(i:Nat)(L:List Eg)(j:Nat):(Yh sg i L j).length=L.length+bn i*j:=by
 induction j with
 |zero=>simp[Yh]
 |succ j ih=>rw[Yh,List.length_append,hl,ih,Nat.mul_succ];omega
theorem Th {sg:Nat->Nat->Nat->List Eg}{bn:Nat->Nat}(hl:∀i o j,(sg i o j).length=bn i)(ns:Nat->Nat)(i:Nat):(lay sg ns i).length=st ns bn i:=by
 induction i with
 |zero=>rfl
 |succ i ih=>rw[lay,Wf hl,ih,st]
theorem Q12 (sg:Nat->Nat->Nat->List Eg)(i:Nat)(L:List Eg)(j d:Nat):Yh sg i L j <+: Yh sg i L (j+d):=by
 induction d with
 |zero=>exact List.prefix_rfl
 |succ d ih=>exact ih.trans (by rw[<-Nat.add_assoc,Yh];exact List.prefix_append _ _)
theorem Qby (sg:Nat->Nat->Nat->List Eg)(ns:Nat->Nat)(i d:Nat):lay sg ns i <+: lay sg ns (i+d):=by
 induction d with
 |zero=>exact List.prefix_rfl
 |succ d ih=>
  refine ih.trans ?_
  rw[<-Nat.add_assoc,lay]
  have:=Q12 sg (i+d) (lay sg ns (i+d)) 0 (ns (i+d))
  rwa [Nat.zero_add] at this
theorem Q9n {sg:Nat->Nat->Nat->List Eg}{bn:Nat->Nat}(hl:∀i o j,(sg i o j).length=bn i)(ns:Nat->Nat){K i j:Nat}(hi:i<K)(hj:j<ns i)(q:Nat)(hq:q<bn i) :
  (lay sg ns K)[st ns bn i+bn i*j+q]?=(sg i (st ns bn i+bn i*j) j)[q]?:=by
 have p1:Yh sg i (lay sg ns i) (j+1) <+: lay sg ns K:=by
  have a:=Q12 sg i (lay sg ns i) (j+1) (ns i-(j+1))
  rw[show j+1+(ns i-(j+1))=ns i by omega] at a
  have b:=Qby sg ns (i+1) (K-(i+1))
  rw[show i+1+(K-(i+1))=K by omega] at b
  exact a.trans b
 have hlen:(Yh sg i (lay sg ns i) j).length=st ns bn i+bn i*j:=by rw[Wf hl,Th hl]
 have hq':q<(sg i (st ns bn i+bn i*j) j).length:=by rw[hl];exact hq
 have e:(Yh sg i (lay sg ns i) (j+1))[st ns bn i+bn i*j+q]?=(sg i (st ns bn i+bn i*j) j)[q]?:=by
  rw[Yh,hlen,List.getElem?_append_right (by omega),hlen]
  congr 1
  omega
 obtain⟨t,ht⟩:=p1
 rw[<-ht,List.getElem?_append_left,e]
 rw[Yh,List.length_append,hlen,hl]
 omega
theorem Ib {ns bn:Nat->Nat}(K:Nat){e:Nat}(he:e<st ns bn K):∃i j q,i<K/\j<ns i/\q<bn i/\e=st ns bn i+bn i*j+q:=by
 induction K with
 |zero=>simp[st] at he
 |succ K ih=>
  by_cases h:e<st ns bn K
  ·obtain⟨i,j,q,h1,h2⟩:=ih h
   exact⟨i,j,q,by omega,h2⟩
  ·rw[st] at he
   have hb:0<bn K:=by
    rcases Nat.eq_zero_or_pos (bn K) with z|z
    ·rw[z] at he;simp at he;omega
    ·exact z
   refine⟨K,(e-st ns bn K)/bn K,(e-st ns bn K)%bn K,by omega,?_,Nat.mod_lt _ hb,?_⟩
   ·rw[Nat.div_lt_iff_lt_mul hb,Nat.mul_comm];omega
   ·have:=Nat.div_add_mod (e-st ns bn K) (bn K);omega
theorem Q53 (ns bn:Nat->Nat)(i d:Nat):st ns bn i<=st ns bn (i+d):=by
 induction d with
 |zero=>exact Nat.le_refl _
 |succ d ih=>rw[<-Nat.add_assoc,st];omega
theorem Q8i {ns bn:Nat->Nat}{K i j q:Nat}(hi:i<K)(hj:j<ns i)(hq:q<bn i):st ns bn i+bn i*j+q<st ns bn K:=by
 have h1:=Q53 ns bn (i+1) (K-(i+1))
 rw[show i+1+(K-(i+1))=K by omega,st] at h1
 have h2:bn i*(j+1)<=bn i*ns i:=Nat.mul_le_mul_left _ hj
 rw[Nat.mul_succ] at h2
 omega
def eat (es:List Eg)(i:Nat):Eg:=es.getD i ⟨0,0,0,0,0,false,0⟩
theorem Q2f {es:List Eg}{i:Nat}{x:Eg}(h:es[i]?=some x):eat es i=x:=by simp[eat,List.getD,h]
def bnN (N:Nt)(i:Nat):Nat:=if (wat N.ways i).both then 2 else 1
def nsN (N:Nt)(i:Nat):Nat:=(wat N.ways i).weights.length
def fwd (N:Nt)(i j:Nat)(tw:Int):Eg:=
 ⟨pos N.nodes (iat (wat N.ways i).nodes j),pos N.nodes (iat (wat N.ways i).nodes (j+1)),iat (wat N.ways i).weights j,i,j,false,tw⟩
def bwd (N:Nt)(i j:Nat)(tw:Int):Eg:=
 ⟨pos N.nodes (iat (wat N.ways i).nodes (j+1)),pos N.nodes (iat (wat N.ways i).nodes j),iat (wat N.ways i).weights j,i,j,true,tw⟩
def sg0 (N:Nt)(i o j:Nat):List Eg:=if (wat N.ways i).both then [fwd N i j (-1),bwd N i j (-1)] else [fwd N i j (-1)]
def sg1 (N:Nt)(i o j:Nat):List Eg:=if (wat N.ways i).both then [fwd N i j ((o:Int)+1),bwd N i j o] else [fwd N i j (-1)]
theorem G9 (N:Nt)(i o j:Nat):(sg0 N i o j).length=bnN N i:=by unfold sg0 bnN;split<;>rfl
theorem Td (N:Nt)(i o j:Nat):(sg1 N i o j).length=bnN N i:=by unfold sg1 bnN;split<;>rfl
def E0 (N:Nt):List Eg:=lay (sg0 N) (nsN N) N.ways.length
def E1 (N:Nt):List Eg:=lay (sg1 N) (nsN N) N.ways.length
def mN (N:Nt):Nat:=st (nsN N) (bnN N) N.ways.length
theorem Qb0 (N:Nt):(E0 N).length=mN N:=Th (G9 N) _ _
theorem Tc (N:Nt):(E1 N).length=mN N:=Th (Td N) _ _
def mt (a b:Eg):Bool:=decide (a.way=b.way)&&(decide (a.seg=b.seg)&&(a.back !=b.back))
def Kt (E:List Eg)(e:Nat):Nat->Int
 |0=>-1
 |f+1=>if mt (eat E e) (eat E f) then f else Kt E e f
theorem Q6e {E:List Eg}{e n:Nat}(h:∀f,f<n->mt (eat E e) (eat E f)=false):Kt E e n=-1:=by
 induction n with
 |zero=>rfl
 |succ n ih=>
  have h1:=h n (by omega)
  rw[Kt,if_neg (by simp[h1])]
  exact ih λf hf=>h f (by omega)
theorem Q88 {E:List Eg}{e n f0:Nat}(h0:f0<n)(hm:mt (eat E e) (eat E f0)=true)(h:∀f,f<n->mt (eat E e) (eat E f)=true->f=f0):Kt E e n=f0:=by
 induction n with
 |zero=>omega
 |succ n ih=>
  by_cases e1:f0=n
  ·subst e1
   rw[Kt,if_pos hm]
  ·have h1:¬mt (eat E e) (eat E n)=true:=λh2=>e1 (h n (by omega) h2).symm
   rw[Kt,if_neg h1]
   exact ih (by omega) λf hf=>h f (by omega)
def Wj (x:Eg)(t:Int):Eg:={ x with twin:=t }
theorem Ye {N:Nt}{i j q:Nat}(hi:i<N.ways.length)(hj:j<nsN N i)(hq:q<bnN N i) :
  eat (E0 N) (st (nsN N) (bnN N) i+bnN N i*j+q)=(if q=0 then fwd N i j (-1) else bwd N i j (-1)) /\
  eat (E1 N) (st (nsN N) (bnN N) i+bnN N i*j+q)=(if bnN N i=1 then fwd N i j (-1) else if q=0 then fwd N i j (((st (nsN N) (bnN N) i+bnN N i*j:Nat):Int)+1) else bwd N i j ((st (nsN N) (bnN N) i+bnN N i*j:Nat):Int)):=by
 have h0:=Q9n (G9 N) (nsN N) hi hj q hq
 have h1:=Q9n (Td N) (nsN N) hi hj q hq
 constructor
 ·refine Q2f (h0.trans ?_)
  unfold bnN at hq
  unfold sg0
  by_cases hb:(wat N.ways i).both=true
  ·rw[if_pos hb] at hq ⊢
   rcases (show q=0\/q=1 by omega) with rfl|rfl<;>simp
  ·rw[if_neg hb] at hq ⊢
   obtain rfl:q=0:=by omega
   simp
 ·refine Q2f (h1.trans ?_)
  unfold bnN at hq
  have hbn:bnN N i=if (wat N.ways i).both then 2 else 1:=rfl
  generalize st (nsN N) (bnN N) i+bnN N i*j=o
  unfold sg1
  by_cases hb:(wat N.ways i).both=true
  ·rw[if_pos hb] at hq hbn ⊢
   rw[hbn]
   rcases (show q=0\/q=1 by omega) with rfl|rfl<;>simp
  ·rw[if_neg hb] at hq hbn ⊢
   rw[hbn]
   obtain rfl:q=0:=by omega
   simp
theorem Qb6 (N:Nt){e:Nat}(he:e<mN N):eat (E1 N) e=Wj (eat (E0 N) e) (Kt (E0 N) e (mN N)):=by
 obtain⟨i,j,q,hi,hj,hq,he1⟩:=Ib N.ways.length he
 obtain⟨a0,a1⟩:=Ye hi hj hq
 rw[<-he1] at a0 a1
 have key:∀f,f<mN N->mt (eat (E0 N) e) (eat (E0 N) f)=true->∃q',q'<bnN N i/\f=st (nsN N) (bnN N) i+bnN N i*j+q'/\((q=0)≠(q'=0)):=by
  intro f hf hm
  obtain⟨i',j',q',hi',hj',hq',hf1⟩:=Ib N.ways.length hf
  obtain⟨b0,_⟩:=Ye hi' hj' hq'
  rw[<-hf1] at b0
  rw[a0,b0] at hm
  simp only[mt,Bool.and_eq_true,decide_eq_true_eq] at hm
  obtain⟨m1,m2,m3⟩:=hm
  have w1:∀(t:Nat) (i j:Nat),(if t=0 then fwd N i j (-1) else bwd N i j (-1)).way=i:=λt i j=>by split<;>rfl
  have w2:∀(t:Nat) (i j:Nat),(if t=0 then fwd N i j (-1) else bwd N i j (-1)).seg=j:=λt i j=>by split<;>rfl
  rw[w1,w1] at m1
  rw[w2,w2] at m2
  have ei:i=i':=by omega
  have ej:j=j':=by omega
  subst ei ej
  refine⟨q',hq',hf1,λh=>?_⟩
  by_cases h0:q=0
  ·have h1:q'=0:=by rw[<-h];exact h0
   rw[if_pos h0,if_pos h1] at m3
   simp[fwd] at m3
  ·have h1:¬q'=0:=by rw[<-h];exact h0
   rw[if_neg h0,if_neg h1] at m3
   simp[bwd] at m3
 have hbv:bnN N i=2\/bnN N i=1:=by unfold bnN;split<;>simp
 rcases hbv with hb|hb
 ·
  rw[if_neg (by omega)] at a1
  have hq2:q<2:=by omega
  have oth:∀q',q'<bnN N i->((q=0)≠(q'=0))->q'=1-q:=by
   intro q' h1 h2
   rcases (show q=0\/q=1 by omega) with rfl|rfl<;>rcases (show q'=0\/q'=1 by omega) with rfl|rfl<;>simp_all
  have hq1:1-q<bnN N i:=by omega
  have hf0:st (nsN N) (bnN N) i+bnN N i*j+(1-q)<mN N:=Q8i (ns:=nsN N) (bn:=bnN N) hi hj hq1
  obtain⟨c0,_⟩:=Ye hi hj hq1
  have hm:mt (eat (E0 N) e) (eat (E0 N) (st (nsN N) (bnN N) i+bnN N i*j+(1-q)))=true:=by
   rw[a0,c0]
   rcases (show q=0\/q=1 by omega) with rfl|rfl<;>simp[mt,fwd,bwd]
  rw[Q88 hf0 hm (λf hf h=>by obtain⟨q',h1,h2,h3⟩:=key f hf h;rw[h2,oth q' h1 h3])]
  rw[a1,a0]
  rcases (show q=0\/q=1 by omega) with rfl|rfl
  ·simp[Wj,fwd]
  ·simp[Wj,bwd]
 ·rw[if_pos hb] at a1
  have hq0:q=0:=by omega
  rw[Q6e (λf hf=>by
   by_cases h:mt (eat (E0 N) e) (eat (E0 N) f)=true
   ·obtain⟨q',h1,_,h3⟩:=key f hf h
    exact absurd (show(q=0)=(q'=0) by have:q'=0:=by omega
                                      simp[hq0,this]) h3
   ·simpa using h)]
  rw[a1,a0,if_pos hq0]
  rfl
def cE (tl:Nat->Nat)(p:Nat):Nat->Nat
 |0=>0
 |k+1=>cE tl p k+if tl k=p then 1 else 0
def cL (tl:Nat->Nat)(p:Nat):Nat->Nat
 |0=>0
 |k+1=>cL tl p k+if tl k<p then 1 else 0
theorem Qce (tl:Nat->Nat)(m:Nat):cL tl 0 m=0:=by
 induction m with
 |zero=>rfl
 |succ m ih=>rw[cL,ih,if_neg (by omega)]
theorem Qcf (tl:Nat->Nat)(p m:Nat):cL tl (p+1) m=cL tl p m+cE tl p m:=by
 induction m with
 |zero=>rfl
 |succ m ih=>
  rw[cL,cL,cE,ih]
  by_cases h1:tl m<p
  ·rw[if_pos (by omega),if_pos h1,if_neg (by omega)];omega
  ·by_cases h2:tl m=p
   ·rw[if_pos (by omega),if_neg h1,if_pos h2];omega
   ·rw[if_neg (by omega),if_neg h1,if_neg h2];omega
theorem cE_le (tl:Nat->Nat)(p m:Nat):cE tl p m<=m:=by
 induction m with
 |zero=>exact Nat.le_refl _
 |succ m ih=>rw[cE];split<;>omega
theorem Qd5 (tl:Nat->Nat)(p m:Nat):cL tl p m<=m:=by
 induction m with
 |zero=>exact Nat.le_refl _
 |succ m ih=>rw[cL];split<;>omega
def grp (tl:Nat->Nat)(p:Nat):Nat->List Nat
 |0=>[]
 |k+1=>grp tl p k++if tl k=p then [k] else []
def Q76 (tl:Nat->Nat)(m:Nat):Nat->List Nat
 |0=>[]
 |p+1=>Q76 tl m p++grp tl p m
theorem Q5s (tl:Nat->Nat)(p k:Nat):(grp tl p k).length=cE tl p k:=by
 induction k with
 |zero=>rfl
 |succ k ih=>rw[grp,cE,List.length_append,ih];split<;>rfl
theorem Q9a (tl:Nat->Nat)(m p:Nat):(Q76 tl m p).length=cL tl p m:=by
 induction p with
 |zero=>rw[Qce];rfl
 |succ p ih=>rw[Q76,List.length_append,ih,Q5s,Qcf]
end Go.Proofs.YtmmolhlihhdkcaaGreatDoor
