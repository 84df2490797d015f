import Derived.Test.YtphiaobccollhaaGreatQRoR
namespace Go.Proofs.YtphiaobccollhaaGreat
open Go.RowKit Tryz
set_option linter.unusedVariables false
set_option maxRecDepth 1000000
set_option maxHeartbeats 16000000
variable {a:Option Addr}{B C D c i j k m n:Nat}{x zs:List Int}{w w':World}{u v v':Value}{ws:List (List Int)}{xs:List Value}{es:List Eg}{F l:List Nat}
def Q07 (a b:List Int)(k:Nat):Prop:=∀i,i<k->iat a i=iat b i
theorem F8 (a b:List Int):Q07 a b 0:=λi hi=>absurd hi (zK _)
theorem F9 {a b:List Int}(h:Q07 a b k)(hk:iat a k=iat b k):Q07 a b (k+1):=by
 intro i hi
 rcases Nat.lt_succ_iff_lt_or_eq.1 hi with h1|rfl
 ·exact h i h1
 ·exact hk
theorem Qcl {a b:List Int}(h:Q07 a b a.length)(hl:a.length=b.length):a=b:=by
 apply List.ext_getElem hl
 intro i h1 h2
 have:=h i h1
 rwa [V5 h1,V5 h2] at this
theorem Kp (B B':Nat)(v v':Value)(xs ys:List Int)(w:World)(h0:Qi B w v xs)(h1:Qi B' w v' ys) :
  Calls prog 95 #[v,v'] w λe w'=>e=.returned (.bool (decide (xs=ys)))/\Nx w w':=by
 obtain⟨a,cap,rfl,hn,hk⟩:=h0
 obtain⟨a',cap',rfl,hn',hk'⟩:=h1
 unfold maxLen at hn hn'
 generalize hz:xs.length=n at *
 have HZ:=mh hz
 clear hz
 generalize hz:ys.length=n' at *
 have HZ':=mh hz
 clear hz
 by_cases hl:n=n'
 case neg=>
  have hd:((n:Int) !=(n':Int))=true:=by simp;omega
  have HF:Z (false=decide (xs=ys)):=by
   unfold Z
   symm
   rw[decide_eq_false_iff_not]
   intro e
   apply hl
   rw[<-HZ.o,<-HZ'.o,e]
  clear hl
  go_enter func95,ntmps95
  go_wp2
  go_ret
  exact⟨Q3 HF.o,Nx.refl _⟩
 subst hl
 have hd:((n:Int) !=(n:Int))=false:=by simp
 go_enter func95,ntmps95
 go_wp2
 go_loopw [5] (λi wr=>∃k:Nat,k<=n/\i=iV k/\Z (Q07 xs ys k)/\Z (Nx w wr)) (λi _=>n-(intOf i).toNat)
 case atStart=>exact⟨0,nZ,rfl,F8 _ _,Nx.refl _⟩
 obtain⟨k,hkn,rfl,HA,HN⟩:=hrel
 by_cases hlt:k<n
 ·obtain⟨b,off,rfl,hB,hb,hc⟩:=hk (by omega)
  obtain⟨b',off',rfl,hB',hb',hc'⟩:=hk' (by omega)
  have c0:=Q2 HN.o hb (hc k hlt)
  have c1:=Q2 HN.o hb' (hc' k hlt)
  have hlt':(k:Int)<n:=by omega
  clear hc hk hc' hk'
  by_cases he:iat xs k=iat ys k
  ·have he':(iat xs k !=iat ys k)=false:=by simpa using he
   have HA':=mh (F9 HA.o he)
   clear he
   go_wp2
   go_quiet (fail)
   go_wp2
   go_roundw
   case rel=>exact⟨k+1,by omega,by go_num,HA',HN.o.trans ⟨rfl,rfl,rfl,lR,λ_ _=>rfl⟩⟩
   case measure=>simp[intOf];omega
  ·have he':(iat xs k !=iat ys k)=true:=by simpa using he
   have HF:Z (false=decide (xs=ys)):=by
    unfold Z
    symm
    rw[decide_eq_false_iff_not]
    intro e
    exact he (by rw[e])
   clear he
   go_wp2
   go_quiet (fail)
   go_wp2
   go_ret
   exact⟨Q3 HF.o,HN.o.trans ⟨rfl,rfl,rfl,lR,λ_ _=>rfl⟩⟩
 have ek:n=k:=by omega
 subst ek
 have HF:Z (true=decide (xs=ys)):=by
  unfold Z
  symm
  rw[decide_eq_true_iff]
  exact Qcl (by rw[HZ.o];exact HA.o) (by rw[HZ.o,HZ'.o])
 clear HA hlt hkn hk hk'
 go_wp2
 go_ret
 exact⟨Q3 HF.o,HN.o⟩
def tkI (zs:List Int)(k:Nat):List Int:=zs.take k
theorem Q2z (h:k<zs.length):tkI zs (k+1)=tkI zs k++[iat zs k]:=by
 unfold tkI
 rw[zP h,V5 h]
theorem Q6z (h:k<=zs.length):(tkI zs k).length=k:=by simp[tkI,h]
theorem Q70 (zs:List Int):tkI zs zs.length=zs:=by simp[tkI]
theorem Yg (B B':Nat)(v v':Value)(xs ys:List Int)(w:World)(h0:Qi B w v xs)(h1:Qi B' w v' ys)(ha:xs.length<=1048576)(hb:ys.length<=1048576) :
  Calls prog 55 #[v,v'] w λe w'=>(∃u,e=.returned u/\Q5 w.heap.size w' u (xs++ys))/\Nx w w':=by
 obtain⟨ii,hi,hz0,hz1,hz2⟩:=info_parts Zp
 obtain⟨a,cap,rfl,hn,hk⟩:=h0
 obtain⟨a',cap',rfl,hn',hk'⟩:=h1
 unfold maxLen at hn hn'
 generalize hz:xs.length=n at *
 have HZ:=mh hz
 clear hz
 generalize hz:ys.length=n' at *
 have HZ':=mh hz
 clear hz
 go_enter func55,ntmps55
 go_wp2
 go_loopw [5,6] (λu i wr=>∃k:Nat,k<=n/\i=iV k/\Z (Q5 w.heap.size wr u (tkI xs k))/\Z (Nx w wr)) (λ_ i _=>n-(intOf i).toNat)
 case atStart=>exact⟨0,nZ,rfl,Vq w.heap.size w lR,Qe _ _⟩
 obtain⟨k,hkn,rfl,HO,HN⟩:=hrel
 by_cases hlt:k<n
 ·obtain⟨b,off,rfl,hB,hb,hc⟩:=hk (by omega)
  have c0:=Q2 HN.o hb (hc k hlt)
  have hlt':(k:Int)<n:=by omega
  have HLK:=mh (Q6z (by rw[HZ.o];omega))
  have HES:=mh (Q2z (by rw[HZ.o];exact hlt))
  obtain⟨av,cv,hvs⟩:=HO.o.slice
  rw[HLK.o] at hvs
  subst hvs
  have HZ3:=mh HN.o.size
  clear hc hk hk'
  generalize iat xs k=es at *
  go_wp2_with (at_builtin;refine wpList_append_own_at _ rfl _ _ 23 rfl w.heap.size 2 ii (iV 0) 1 8 underlying23 hi hz0 hz1 hz2 rfl (by decide) _ _ _ rfl (zB HO.o _) (aD wr.heap.size 0) 1 1 [iV es] rfl rfl (λj u hj=>Qn wr _ _ _ rfl j u hj) ?c2 ?c3 ?c4 ?c5 ?_)
  case c2=>intro u hu;simp at hu;subst hu;rfl
  case c3=>rw[HLK.o];unfold maxLen;omega
  case c4=>rw[HLK.o];omega
  case c5=>have:=HZ3.o;simp;omega
  intro v7 w7 hown hgrow _ _
  have HO7:Z (Q5 w.heap.size w7 v7 (tkI xs (k+1))):=by rw[HES.o];exact Q5.snoc hown
  have HN7:Z (Nx w w7):=Below.grown (HN.o.alloc _) hgrow (by have:=HZ3.o;simp;omega) (λg hg=>(Q7 HO.o g hg).1)
  clear hown hgrow HO HN c0
  go_wp2
  go_roundw
  case rel=>exact⟨k+1,by omega,by go_num,HO7,HN7⟩
  case measure=>simp[intOf];omega
 have ek:n=k:=by omega
 subst ek
 have HO1:Z (Q5 w.heap.size wr u5 (xs++tkI ys 0)):=by
  have:=HO.o
  rw[show tkI xs n=xs by rw[<-HZ.o];exact Q70 xs] at this
  unfold Z
  rw[show tkI ys 0=[] from rfl,List.append_nil]
  exact this
 clear HO hlt hkn hk
 go_wp2
 go_loopw [5,7] (λu i wr=>∃k:Nat,k<=n'/\i=iV k/\Z (Q5 w.heap.size wr u (xs++tkI ys k))/\Z (Nx w wr)) (λ_ i _=>n'-(intOf i).toNat)
 case atStart=>exact⟨0,nZ,rfl,HO1,HN⟩
 clear HO1 HN
 obtain⟨k,hkn,rfl,HO,HN⟩:=hrel
 by_cases hlt:k<n'
 ·obtain⟨b,off,rfl,hB,hb,hc⟩:=hk' (by omega)
  have c0:=Q2 HN.o hb (hc k hlt)
  have hlt':(k:Int)<n':=by omega
  have HLK:Z ((xs++tkI ys k).length=n+k):=by unfold Z;rw[zA,HZ.o,Q6z (by rw[HZ'.o];omega)]
  have HES:Z (xs++tkI ys (k+1)=(xs++tkI ys k)++[iat ys k]):=by unfold Z;rw[Q2z (by rw[HZ'.o];exact hlt),zZ]
  obtain⟨av,cv,hvs⟩:=HO.o.slice
  rw[HLK.o] at hvs
  subst hvs
  have HZ3:=mh HN.o.size
  clear hc hk'
  generalize iat ys k=es at *
  go_wp2_with (at_builtin;refine wpList_append_own_at _ rfl _ _ 23 rfl w.heap.size 2 ii (iV 0) 1 8 underlying23 hi hz0 hz1 hz2 rfl (by decide) _ _ _ rfl (zB HO.o _) (aD wr.heap.size 0) 1 1 [iV es] rfl rfl (λj u hj=>Qn wr _ _ _ rfl j u hj) ?c2 ?c3 ?c4 ?c5 ?_)
  case c2=>intro u hu;simp at hu;subst hu;rfl
  case c3=>rw[HLK.o];unfold maxLen;omega
  case c4=>rw[HLK.o];omega
  case c5=>have:=HZ3.o;simp;omega
  intro v7 w7 hown hgrow _ _
  have HO7:Z (Q5 w.heap.size w7 v7 (xs++tkI ys (k+1))):=by rw[HES.o];exact Q5.snoc (by rw[zA];exact hown)
  have HN7:Z (Nx w w7):=Below.grown (HN.o.alloc _) hgrow (by have:=HZ3.o;simp;omega) (λg hg=>(Q7 HO.o g hg).1)
  clear hown hgrow HO HN c0
  go_wp2
  go_roundw
  case rel=>exact⟨k+1,by omega,by go_num,HO7,HN7⟩
  case measure=>simp[intOf];omega
 have ek:n'=k:=by omega
 subst ek
 have HF:Z (Q5 w.heap.size wr u5 (xs++ys)):=by
  have:=HO.o
  rw[show tkI ys n'=ys by rw[<-HZ'.o];exact Q70 ys] at this
  exact this
 clear HO hlt hkn hk'
 go_wp2
 go_ret
 exact⟨⟨_,rfl,HF.o⟩,HN.o⟩
def G6 (v:Value):Prop:=∃a n c,v=sL a n c/\n<=c
theorem Q5.capOk (h:Q5 B w v zs):G6 v:=by
 rcases h.2 with⟨rfl,_⟩|⟨g,cap,cur,rfl,_,_,hc,_⟩
 ·exact⟨_,_,_,rfl,lR⟩
 ·exact⟨_,_,_,rfl,hc⟩
def wd (ws:List (List Int))(i:Nat):List Int:=ws.getD i []
def Jm (B:Nat)(w:World)(v:Value)(ws:List (List Int)):Prop:=
 Jn B w v ws.length λb off i=>∃vi,w.cell? (aD b (off+i))=some vi/\Qi B w vi (wd ws i)/\G6 vi
theorem Jm.keep (h:Jm B w v ws)(k:Ym B w w'):Jm B w' v ws:=
 Jn.mono h lR k.1 λb off hb hs i hi hc=>by
  obtain⟨vi,h1,h2,h3⟩:=hc
  exact⟨vi,(k.2 b hb hs _).trans h1,h2.keep k,h3⟩
theorem Jm.next (h:Jm B w v ws)(k:Nx w w'):Jm B w' v ws:=h.keep (k.keeps B)
theorem Ut (h:i<ws.length):wd (ws++[x]) i=wd ws i:=by
 simp[wd,List.getD,List.getElem?_append_left h]
theorem Ea (h:i=ws.length):wd (ws++[x]) i=x:=by
 subst h
 simp[wd,List.getD]
theorem Pf:(prog.info? 143).map (λi=>(i.zero,i.size,i.bytes))=some (some (.agg #[sN]),1,24):=by kernel_rfl
def vat (cs:List Value)(i:Nat):Value:=cs.getD i (.bool false)
def Js (C:Nat)(w:World)(v:Value)(ws:List (List Int)):Prop:=
 ∃cs:List Value,w.ownsRow C 143 1 v ws.length cs/\∀i,i<ws.length->Q5 C w (vat cs i) (wd ws i)
theorem Yr {B' e e' size size' n':Nat}{xs':List Value}(h:w.ownsRow B e size v n xs)(h':w.ownsRow B' e' size' v' n' xs')(hne:e≠e'):v.ownBlock=none\/v.ownBlock≠v'.ownBlock:=by
 rcases h.2 with⟨rfl,_⟩|⟨g,cap,cur,rfl,_,hh,_⟩
 ·exact oL rfl
 ·rcases h'.2 with⟨rfl,_⟩|⟨g',cap',cur',rfl,_,hh',_⟩
  ·exact oR (by simp[Value.ownBlock])
  ·refine oR λe1=>?_
   simp[Value.ownBlock] at e1
   subst e1
   rw[hh] at hh'
   simp at hh'
   exact hne hh'.2
theorem Js.next (h:Js C w v ws)(k:Nx w w'):Js C w' v ws:=by
 obtain⟨cs,h1,h2⟩:=h
 refine⟨cs,?_,λi hi=>(h2 i hi).next k⟩
 obtain⟨h3,h4⟩:=h1
 refine⟨h3,?_⟩
 rcases h4 with h4|⟨g,cap,cur,hv,hg,hh,r⟩
 ·exact oL h4
 ·exact oR ⟨g,cap,cur,hv,hg,(k.block g (Array.getElem?_eq_some_iff.1 hh).1).trans hh,r⟩
theorem Js.slice (h:Js C w v ws):∃a c,v=sL a ws.length c:=by
 obtain⟨cs,h1,_⟩:=h
 rcases h1.2 with⟨rfl,h2⟩|⟨g,cap,cur,rfl,_⟩
 ·exact⟨none,0,by rw[h2]⟩
 ·exact⟨_,_,rfl⟩
theorem Js.held (h:Js C w v ws):Jm C w v ws:=by
 obtain⟨cs,h1,h2⟩:=h
 obtain⟨h3,h4⟩:=h1
 rw[Nat.mul_one] at h3
 rcases h4 with⟨rfl,h4⟩|⟨g,cap,cur,rfl,hg,hh,hc,hm,hs,ht⟩
 ·unfold Jm
  rw[h4]
  exact⟨_,_,rfl,by simp[maxLen],λh=>by omega⟩
 ·refine⟨_,_,rfl,by omega,λh0=>⟨g,0,rfl,hg,(Array.getElem?_eq_some_iff.1 hh).1,λi hi=>⟨vat cs i,?_,(h2 i hi).held,(h2 i hi).capOk⟩⟩⟩
  have e:(cur.toList.take (ws.length*1))[i]?=cs[i]?:=by rw[ht]
  rw[zQ (by omega),zN] at e
  show w.cell? (aD g (0+i))=_
  rw[Nat.zero_add]
  simp[World.cell?,hh,e,vat,List.getD,show i<cs.length by omega]
theorem Js.lt (h:Js C w v ws):∀g,v.ownBlock=some g->C<=g:=by
 obtain⟨cs,h1,_⟩:=h
 exact λg hg=>(Q7 h1 g hg).1
theorem Gm (B:Nat)(w:World)(h:B<=w.heap.size):Js B (w.alloc (.cells #[] 143)) (sL (sA w.heap.size) 0 0) []:=
 ⟨[],⟨rfl,.inr ⟨w.heap.size,0,#[],rfl,h,by show(w.heap.push _)[w.heap.size]?=_;simp,lR,by simp[maxLen],by simp,by simp⟩⟩,λi hi=>absurd hi (zK _)⟩
theorem Js.snoc {cs:List Value}(h1:w.ownsRow C 143 1 v ws.length cs)(h2:∀i,i<ws.length->Q5 C w (vat cs i) (wd ws i))
  (hu:Q5 C w u x) (ho:Obj) (hg:(w.alloc ho).grownBy w' v.ownBlock) (hn:w'.ownsRow C 143 1 v' (ws.length+1) (cs++[u])):Js C w' v' (ws++[x]):=by
 have hl:cs.length=ws.length:=by have:=h1.1;omega
 have hne:(2:Nat)≠3:=by decide
 have kept:∀{z:Value}{zs:List Int},Q5 C w z zs->Q5 C w' z zs:=λ{z zs} hz=>zL (zB hz ho) hg (Yr hz h1 (by decide))
 refine⟨cs++[u],by rw[zA];exact hn,λi hi=>?_⟩
 rw[zA,List.length_singleton] at hi
 by_cases e:i<ws.length
 ·rw[Ut e]
  have:vat (cs++[u]) i=vat cs i:=by simp[vat,List.getD,List.getElem?_append_left (show i<cs.length by omega)]
  rw[this]
  exact kept (h2 i e)
 ·have e':i=ws.length:=by omega
  rw[Ea e']
  have:vat (cs++[u]) i=u:=by rw[e',<-hl];simp[vat,List.getD]
  rw[this]
  exact kept hu
theorem Q0 (k:Nx w w'){b o:Nat}(h:w.cell? (aD b o)=some v):w'.cell? (aD b o)=some v:=Q2 k (Jk h) h
def Uu (es:List Eg)(i:Int)(e:Nat):Bool:=decide ((eat es e).way=i)
def Zg (es:List Eg)(i:Int)(k:Nat):List Nat:=(List.range k).filter (Uu es i)
theorem Qb1 {i:Int}(h:(eat es k).way=i):Zg es i (k+1)=Zg es i k++[k]:=by
 unfold Zg
 rw[List.range_succ,zV]
 simp[Uu,h]
theorem Qdh {i:Int}(h:(eat es k).way≠i):Zg es i (k+1)=Zg es i k:=by
 unfold Zg
 rw[List.range_succ,zV]
 simp[Uu,h]
theorem Ih (es:List Eg)(i:Int)(k:Nat):(Zg es i k).length<=k:=by
 unfold Zg
 have:=zW (Uu es i) (List.range k)
 simpa using this
def Qp (l:List Nat):List Int:=l.map λe:Nat=>(e:Int)
def ones (l:List Nat):List (List Int):=l.map λe:Nat=>[(e:Int)]
theorem Q96 (l:List Nat)(k:Nat):ones (l++[k])=ones l++[[(k:Int)]]:=by simp[ones]
theorem Q3n (l:List Nat):(ones l).length=l.length:=by simp[ones]
theorem Ws (B:Nat)(w:World)(z:Int)(h:B<=w.heap.size):Q5 B (w.alloc (.cells #[iV z] 2)) (sL (sA w.heap.size) 1 1) [z]:=
 ⟨rfl,.inr ⟨w.heap.size,1,#[iV z],rfl,h,by show(w.heap.push _)[w.heap.size]?=_;simp,lR,by simp[maxLen],by simp,by simp[J0]⟩⟩
theorem Js.base {B':Nat}(h:Js B w v ws)(hB:B'<=B):Js B' w v ws:=by
 obtain⟨cs,h1,h2⟩:=h
 refine⟨cs,?_,λi hi=>(h2 i hi).base hB⟩
 obtain⟨h3,h4⟩:=h1
 refine⟨h3,?_⟩
 rcases h4 with h4|⟨g,cap,cur,hv,hg,r⟩
 ·exact oL h4
 ·exact oR ⟨g,cap,cur,hv,by omega,r⟩
theorem Q40 (B:Nat)(v0 v1 v2 v3:Value)(R:Rd)(wi:Int)(w:World)(h0:Vy B w v0 v1 v2 v3 R)(hm:R.edges.length<=4000) :
  Calls prog 107 #[.agg #[v0,v1,v2,v3],iV wi] w λe w'=>(∃u,e=.returned u/\Js w.heap.size w' u (ones (Zg R.edges wi R.edges.length)))/\Nx w w':=by
 obtain⟨ii,hi,hz0,hz1,hz2⟩:=info_parts Pf
 obtain⟨a,cap,rfl,hml,hk⟩:=h0.2.1
 clear h0
 generalize hes:R.edges=es at *
 clear hes
 generalize hz:es.length=m at *
 have HZ:=mh hz
 clear hz hml
 have HB0:Z (Blk (w.alloc (.cells #[v0,sL a m cap,v2,v3] 86)) w.heap.size #[v0,sL a m cap,v2,v3]):=Blk.new w _ _ _ rfl
 have HX0:Z (Nx w (w.alloc (.cells #[v0,sL a m cap,v2,v3] 86))):=Qe _ _
 have HS0:Z ((w.alloc (.cells #[v0,sL a m cap,v2,v3] 86)).heap.size=w.heap.size+1):=Q1 _ _
 go_enter func107,ntmps107
 go_upto_region 1 with fail
 generalize w.alloc (.cells #[v0,sL a m cap,v2,v3] 86)=w1 at *
 go_wp2
 go_loopw [5,6] (λu i wr=>∃k:Nat,k<=m/\i=iV k/\Z (Js w1.heap.size wr u (ones (Zg es wi k)))/\Z (Nx w1 wr)) (λ_ i _=>m-(intOf i).toNat)
 case atStart=>exact⟨0,nZ,rfl,Gm w1.heap.size w1 lR,Qe _ _⟩
 obtain⟨k,hkm,rfl,HO,HN⟩:=hrel
 have BW:=HB0.o.next HN.o
 have k1:=BW.c 1 rfl
 by_cases hlt:k<m
 ·obtain⟨b,off,rfl,hB,hb,hc⟩:=hk (by omega)
  obtain⟨d0,d1,d2,d3,d4,d5,d6⟩:=hc k hlt
  have d3:=Q2 (HX0.o.trans HN.o) hb d3
  have hlt':(k:Int)<m:=by omega
  clear d0 d1 d2 d4 d5 d6 hc hk
  by_cases hw:(eat es k).way=wi
  ·have g1:((eat es k).way==wi)=true:=by simpa using hw
   have HES:Z (ones (Zg es wi (k+1))=ones (Zg es wi k)++[[(k:Int)]]):=by unfold Z;rw[Qb1 hw,Q96]
   have HL:Z ((ones (Zg es wi k)).length<=4000):=by unfold Z;rw[Q3n];have:=Ih es wi k;omega
   generalize ones (Zg es wi k)=ws at *
   generalize (eat es k).way=wy at *
   have HO2:=HO.o.next (Qe wr (.cells #[iV (k:Int)] 2))
   obtain⟨cs,hrow,hwords⟩:=HO2
   have HROW:=mh hrow
   have HWD:=mh hwords
   have HZ3:=mh HN.o.size
   have HU:Z (Q5 w1.heap.size (wr.alloc (.cells #[iV (k:Int)] 2)) (sL (sA wr.heap.size) 1 1) [(k:Int)]):=Ws _ _ _ HZ3.o
   have HX2:Z (Nx w1 (wr.alloc (.cells #[iV (k:Int)] 2))):=HN.o.trans (Qe _ _)
   have HS2:Z ((wr.alloc (.cells #[iV (k:Int)] 2)).heap.size=wr.heap.size+1):=Q1 _ _
   obtain⟨av,cv,hvs⟩:=HO.o.slice
   subst hvs
   generalize hwl:ws.length=wl at *
   have HWL:=mh hwl
   have hwl4:=HL.o
   clear hrow hwords hw hwl
   go_wp2_with (at_builtin;refine wpList_append_own_at _ rfl _ _ 107 rfl w1.heap.size 143 ii (.agg #[sN]) 1 24 underlying107 hi hz0 hz1 hz2 rfl (by decide) _ _ _ rfl (zB HROW.o _) (aD (wr.heap.size+1) 0) 1 1 [sL (sA wr.heap.size) 1 1] rfl rfl ?c1 ?c2 ?c3 ?c4 ?c5 ?_)
   case c1=>intro j u hj;rw[<-HS2.o];exact Qn _ _ _ _ rfl j u hj
   case c2=>intro u hu;simp at hu;subst hu;rfl
   case c3=>unfold maxLen;omega
   case c4=>omega
   case c5=>rw[Q1];have:=HX2.o.size;omega
   intro v7 w7 hown hgrow _ _
   have HO7:Z (Js w1.heap.size w7 v7 (ones (Zg es wi (k+1)))):=by rw[HES.o];exact Js.snoc (by rw[HWL.o];exact HROW.o) (λi hi=>HWD.o i (by rw[<-HWL.o];exact hi)) HU.o _ hgrow (by rw[HWL.o];exact hown)
   have HN7:Z (Nx w1 w7):=Below.grown (HX2.o.alloc _) hgrow (by rw[Q1];have:=HX2.o.size;omega) (λg hg=>(Q7 HROW.o g hg).1)
   clear hown hgrow HO HN k1 d3 BW
   go_wp2
   go_roundw
   case rel=>exact⟨k+1,by omega,by go_num,HO7,HN7⟩
   case measure=>simp[intOf];omega
  ·have g1:((eat es k).way==wi)=false:=by simpa using hw
   have HES:=mh (Qdh hw)
   generalize (eat es k).way=wy at *
   clear hw
   go_wp2
   go_roundw
   case rel=>exact⟨k+1,by omega,by go_num,by rw[HES.o];exact HO.o,HN⟩
   case measure=>simp[intOf];omega
 have ek:m=k:=by omega
 subst ek
 have HF:=mh HO.o
 clear HO hlt hkm hk
 go_wp2
 go_ret
 refine⟨⟨_,rfl,?_⟩,HX0.o.trans HN.o⟩
 exact HF.o.base HX0.o.size
def Vv (es:List Eg)(i:Int)(k:Nat):List Nat:=(List.range k).filter λe=>Uu es i e&&!(eat es e).back
def Xs (es:List Eg)(i:Int)(k:Nat):List Nat:=((List.range k).filter λe=>Uu es i e&&(eat es e).back).reverse
theorem Qa7 {i:Int}(h:(eat es k).way=i)(hb:(eat es k).back=false):Vv es i (k+1)=Vv es i k++[k]:=by
 unfold Vv;rw[List.range_succ,zV];simp[Uu,h,hb]
theorem Q8k {i:Int}(hb:(eat es k).back=true):Vv es i (k+1)=Vv es i k:=by
 unfold Vv;rw[List.range_succ,zV];simp[hb]
theorem Qd5 {i:Int}(h:(eat es k).way≠i):Vv es i (k+1)=Vv es i k:=by
 unfold Vv;rw[List.range_succ,zV];simp[Uu,h]
theorem Qc8 {i:Int}(h:(eat es k).way=i)(hb:(eat es k).back=true):Xs es i (k+1)=k::Xs es i k:=by
 unfold Xs;rw[List.range_succ,zV];simp[Uu,h,hb]
theorem Q6e {i:Int}(hb:(eat es k).back=false):Xs es i (k+1)=Xs es i k:=by
 unfold Xs;rw[List.range_succ,zV];simp[hb]
theorem Qei {i:Int}(h:(eat es k).way≠i):Xs es i (k+1)=Xs es i k:=by
 unfold Xs;rw[List.range_succ,zV];simp[Uu,h]
theorem Q30 (es:List Eg)(i:Int)(k:Nat):(Qp (Vv es i k)).length<=k:=by
 unfold Vv Qp
 have:=zW (λe=>Uu es i e&&!(eat es e).back) (List.range k)
 simpa using this
theorem Q4j (es:List Eg)(i:Int)(k:Nat):(Qp (Xs es i k)).length<=k:=by
 unfold Xs Qp
 have:=zW (λe=>Uu es i e&&(eat es e).back) (List.range k)
 simpa using this
def Jt (N:Nt)(es:List Eg)(i:Nat):List (List Nat):=[Vv es i es.length]++(if (wat N.ways i).both then [Xs es i es.length] else [])
theorem Q97 (l:List Nat)(k:Nat):Qp (l++[k])=Qp l++[(k:Int)]:=by simp[Qp]
theorem Q3l (B:Nat)(w:World)(h:B<=w.heap.size):Q5 B (w.alloc (.cells #[] 2)) (sL (sA w.heap.size) 0 0) (Qp []):=Vq B w h
theorem Qau (hB:B<=w.heap.size)(h:Q5 B w u x):Js B (w.alloc (.cells #[u] 143)) (sL (sA w.heap.size) 1 1) [x]:=
 ⟨[u],⟨rfl,.inr ⟨w.heap.size,1,#[u],rfl,hB,by show(w.heap.push _)[w.heap.size]?=_;simp,lR,by simp[maxLen],by simp,by simp⟩⟩,λi hi=>by
  have:i=0:=by simpa using hi
  subst this
  exact h.next (Qe _ _)⟩
theorem Zi (B0 B:Nat)(n0 n1 n2 n3:Value)(N:Nt)(v0 v1 v2 v3:Value)(R:Rd)(wi:Nat)(w:World)(hN:U0 B0 w n0 n1 n2 n3 N)(h0:Vy B w v0 v1 v2 v3 R)(hm:R.edges.length<=4000)(hwi:wi<N.ways.length) :
  Calls prog 83 #[.agg #[n0,n1,n2,n3,iV N.uturn],.agg #[v0,v1,v2,v3],iV (wi:Int)] w λe w'=>(∃u,e=.returned u/\Js w.heap.size w' u ((Jt N R.edges wi).map Qp))/\Nx w w':=by
 obtain⟨ii,hi,hz0,hz1,hz2⟩:=info_parts Pf
 obtain⟨a,cap,rfl,hml,hk⟩:=h0.2.1
 obtain⟨aw,capw,rfl,hmw,hkw⟩:=hN.2.1
 unfold maxLen at hmw
 have HTR:Z ((Jt N R.edges wi).map Qp=[Qp (Vv R.edges wi R.edges.length)]++(if (wat N.ways wi).both then [Qp (Xs R.edges wi R.edges.length)] else [])):=by
  unfold Z Jt
  rw[yF]
  congr 1
  split<;>rfl
 obtain⟨bw,ow,haw,hBw,hbw,hcw⟩:=hkw (by omega)
 obtain⟨vn,vw,wd0,wd1,wd2,wd3,wd4⟩:=hcw wi hwi
 have HW1:=mh wd1
 have HBW:=mh hbw
 subst haw
 clear h0 hN hkw hcw wd4 wd0 wd1 wd2 wd3 vn vw
 generalize hes:R.edges=es at *
 clear hes
 generalize hz:es.length=m at *
 have HZ:=mh hz
 clear hz hml
 generalize hzw:N.ways.length=nw at *
 clear hzw
 generalize (wat N.ways wi).both=both at *
 generalize hW1:(w.alloc (.cells #[n0,sL (some (aD bw ow)) nw capw,n2,n3,iV N.uturn] 60)).alloc (.cells #[v0,sL a m cap,v2,v3] 86)=w1
 have HB0:Z (Blk w1 (w.heap.size+1) #[v0,sL a m cap,v2,v3]):=by rw[<-hW1];exact Blk.new _ _ _ _ (by rw[Q1])
 have HBN:Z (Blk w1 w.heap.size #[n0,sL (some (aD bw ow)) nw capw,n2,n3,iV N.uturn]):=by rw[<-hW1];exact(Blk.new w _ _ _ rfl).alloc _
 have HX0:Z (Nx w w1):=by rw[<-hW1];exact Uk _ _ _
 go_enter func83,ntmps83
 go_upto_region 1 with fail
 clear hW1
 go_wp2
 go_loopw [7,8,9] (λut ub i wr=>∃k:Nat,k<=m/\i=iV k/\Z (Q5 w1.heap.size wr ut (Qp (Vv es wi k)))/\Z (Q5 w1.heap.size wr ub (Qp (Xs es wi k)))/\Z (Nx w1 wr)) (λ_ _ i _=>m-(intOf i).toNat)
 case atStart=>exact⟨0,nZ,rfl,Q5.next (Q3l w1.heap.size w1 lR) (Qe _ _),by have:=Q3l w1.heap.size (w1.alloc (.cells #[] 2)) (by rw[Q1];omega);rw[Q1] at this;exact this,Uk _ _ _⟩
 obtain⟨k,hkm,rfl,HT,HK,HN⟩:=hrel
 have BW:=HB0.o.next HN.o
 have k1:=BW.c 1 rfl
 by_cases hlt:k<m
 ·obtain⟨b,off,rfl,hB,hb,hc⟩:=hk (by omega)
  obtain⟨d0,d1,d2,d3,d4,d5,d6⟩:=hc k hlt
  have d3:=Q2 (HX0.o.trans HN.o) hb d3
  have d5:=Q2 (HX0.o.trans HN.o) hb d5
  have hlt':(k:Int)<m:=by omega
  clear d0 d1 d2 d4 d6 hc hk
  have HLT:Z ((Qp (Vv es wi k)).length<=4000):=by unfold Z;have:=Q30 es wi k;omega
  have HLB:Z ((Qp (Xs es wi k)).length<=4000):=by unfold Z;have:=Q4j es wi k;omega
  by_cases hw:(eat es k).way=wi
  ·have g1:((eat es k).way==(wi:Int))=true:=by simpa using hw
   have HU:Z (Q5 w1.heap.size (wr.alloc (.cells #[iV (k:Int)] 2)) (sL (sA wr.heap.size) 1 1) [(k:Int)]):=Ws _ _ _ HN.o.size
   have HX2:Z (Nx wr (wr.alloc (.cells #[iV (k:Int)] 2))):=Qe _ _
   cases hbk:(eat es k).back
   ·have HE1:Z (Qp (Vv es wi (k+1))=Qp (Vv es wi k)++[(k:Int)]):=by unfold Z;rw[Qa7 hw hbk,Q97]
    have HE2:Z (Xs es wi (k+1)=Xs es wi k):=Q6e hbk
    rw[hbk] at d5
    generalize (eat es k).way=wy at *
    clear hw hbk
    go_wp2_with fail
    refine(Yg w1.heap.size w1.heap.size _ _ (Qp (Vv es wi k)) [(k:Int)] _ (by exact(HT.o.next HX2.o).held) (by exact HU.o.held) (by have:=HLT.o;omega) (by simp)).mono ?_
    rintro e w4 ⟨⟨u,rfl,hO⟩,hx⟩
    have HN4:=mh ((HN.o.trans HX2.o).trans hx)
    have HT4:Z (Q5 w1.heap.size w4 u (Qp (Vv es wi (k+1)))):=by rw[HE1.o];exact hO.base (HN.o.trans HX2.o).size
    have HK4:Z (Q5 w1.heap.size w4 u8 (Qp (Xs es wi (k+1)))):=by rw[HE2.o];exact(HK.o.next HX2.o).next hx
    clear hO hx k1 d3 d5 BW HT HK HN
    go_wp2
    go_roundw
    case rel=>exact⟨k+1,by omega,by go_num,HT4,HK4,HN4⟩
    case measure=>simp[intOf];omega
   ·have HE1:Z (Vv es wi (k+1)=Vv es wi k):=Q8k hbk
    have HE2:Z (Qp (Xs es wi (k+1))=[(k:Int)]++Qp (Xs es wi k)):=by unfold Z;rw[Qc8 hw hbk];rfl
    rw[hbk] at d5
    generalize (eat es k).way=wy at *
    clear hw hbk
    go_wp2_with fail
    refine(Yg w1.heap.size w1.heap.size _ _ [(k:Int)] (Qp (Xs es wi k)) _ (by exact HU.o.held) (by exact(HK.o.next HX2.o).held) (by simp) (by have:=HLB.o;omega)).mono ?_
    rintro e w4 ⟨⟨u,rfl,hO⟩,hx⟩
    have HN4:=mh ((HN.o.trans HX2.o).trans hx)
    have HK4:Z (Q5 w1.heap.size w4 u (Qp (Xs es wi (k+1)))):=by rw[HE2.o];exact hO.base (HN.o.trans HX2.o).size
    have HT4:Z (Q5 w1.heap.size w4 u7 (Qp (Vv es wi (k+1)))):=by rw[HE1.o];exact(HT.o.next HX2.o).next hx
    clear hO hx k1 d3 d5 BW HT HK HN
    go_wp2
    go_roundw
    case rel=>exact⟨k+1,by omega,by go_num,HT4,HK4,HN4⟩
    case measure=>simp[intOf];omega
  ·have g1:((eat es k).way==(wi:Int))=false:=by simpa using hw
   have HE1:=mh (Qd5 hw)
   have HE2:=mh (Qei hw)
   generalize (eat es k).way=wy at *
   clear hw
   go_wp2
   go_roundw
   case rel=>exact⟨k+1,by omega,by go_num,by rw[HE1.o];exact HT.o,by rw[HE2.o];exact HK.o,HN⟩
   case measure=>simp[intOf];omega
 have ek:m=k:=by omega
 subst ek
 obtain⟨a7,c7,e7⟩:=HT.o.slice
 obtain⟨a8,c8,e8⟩:=HK.o.slice
 generalize (Qp (Vv es wi m)).length=n7 at e7
 generalize (Qp (Xs es wi m)).length=n8 at e8
 subst e7 e8
 have c1:=(HBN.o.next HN.o).c 1 rfl
 have c2:=Q2 (HX0.o.trans HN.o) HBW.o HW1.o
 have hwi':(wi:Int)<nw:=by omega
 have HO1:=mh (Qau HN.o.size HT.o)
 have HX1:Z (Nx w1 (wr.alloc (.cells #[(sL a7 n7 c7)] 143))):=HN.o.trans (Qe _ _)
 have HK1:Z (Q5 w1.heap.size (wr.alloc (.cells #[(sL a7 n7 c7)] 143)) (sL a8 n8 c8) (Qp (Xs es wi m))):=HK.o.next (Qe _ _)
 have HS1:Z ((wr.alloc (.cells #[(sL a7 n7 c7)] 143)).heap.size=wr.heap.size+1):=Q1 _ _
 have c1a:=Q0 (Qe wr (.cells #[(sL a7 n7 c7)] 143)) c1
 have c2a:=Q0 (Qe wr (.cells #[(sL a7 n7 c7)] 143)) c2
 clear hlt hkm hk BW HT HK
 cases both
 ·have HF:Z ((Jt N es wi).map Qp=[Qp (Vv es wi m)]):=by unfold Z;rw[HTR.o];simp
  go_wp2
  go_ret
  refine⟨⟨_,rfl,?_⟩,HX0.o.trans HX1.o⟩
  rw[HF.o]
  exact HO1.o.base HX0.o.size
 ·have HF:Z ((Jt N es wi).map Qp=[Qp (Vv es wi m)]++[Qp (Xs es wi m)]):=by unfold Z;rw[HTR.o];simp
  obtain⟨cs,hrow,hwords⟩:=HO1.o
  have HROW:Z ((wr.alloc (.cells #[(sL a7 n7 c7)] 143)).ownsRow w1.heap.size 143 1 (sL (sA wr.heap.size) 1 1) 1 cs):=hrow
  have HWD:Z (∀i,i<1->Q5 w1.heap.size (wr.alloc (.cells #[(sL a7 n7 c7)] 143)) (vat cs i) (wd [Qp (Vv es wi m)] i)):=hwords
  clear hrow hwords
  go_wp2_with (at_builtin;refine wpList_append_own_at _ rfl _ _ 107 rfl w1.heap.size 143 ii (.agg #[sN]) 1 24 underlying107 hi hz0 hz1 hz2 rfl (by decide) _ _ _ rfl (zB HROW.o _) (aD (wr.heap.size+1) 0) 1 1 [sL a8 n8 c8] rfl rfl ?e1 ?e2 ?e3 ?e4 ?e5 ?_)
  case e2=>rfl
  case e3=>unfold maxLen;omega
  case e5=>have:=HX1.o.size;have:=HS1.o;omega
  intro v7 w7 hown hgrow _ _
  have HO7:=mh (Js.snoc (ws:=[Qp (Vv es wi m)]) HROW.o (λi hi=>HWD.o i (by simpa using hi)) HK1.o _ hgrow hown)
  have HN7:Z (Nx w1 w7):=Below.grown (HX1.o.alloc _) hgrow (by rw[Q1];have:=HX1.o.size;omega) (λg hg=>(Q7 HROW.o g hg).1)
  clear hown hgrow
  go_wp2
  go_ret
  refine⟨⟨_,rfl,?_⟩,HX0.o.trans HN7.o⟩
  rw[HF.o]
  exact HO7.o.base HX0.o.size
theorem Jh {P:Program}{ops:Array Oper}{o:Oper}{a:Act}{K:Act->World->Prop}{Q:Exit->Act->World->Prop}{E:Prop}
  (hg:o.guard=none) (s x:Operand) (t:TypeId) (hop:o.op=Op.call { callee:=Callee.builtin Builtin.append,args:=#[s,x],argTypes:=#[t,t] })
  (e:TypeId) (i:TypeInfo) (z:Value) (size bytes:Nat) (h1:P.underlying t=some (.slice e)) (h2:P.info? e=some i) (h3:i.zero=some z) (h4:i.size=size) (h5:i.bytes=bytes) (h6:z.cells.size=size) (h7:0<size)
  (B:Nat) (v:Value) (n:Nat) (olds:List Value) (hs:a.eval s=v) (hown:w.ownsRow B e size v n olds)
  (ad:Addr) (m c:Nat) (news:List Value) (hx:a.eval x=sL (some ad) m c) (hn:news.length=m*size) (hc:∀j u,news[j]?=some u->w.cell? (ad.add j)=some u) (h1c:∀u∈news,u.oneCell'=true)
  (b1:n+m<=maxLen) (b2:(n+m)*bytes<=140737488355328) (hB:B<=w.heap.size)
  (hK:∀v' w',w'.ownsRow B e size v' (n+m) (olds++news)->w.grownBy w' v.ownBlock->(v'.ownBlock=v.ownBlock\/v'.ownBlock=some w.heap.size)->K (a.put o.dst v') w') :
  if Region.wanted o (yielded ops a.tmps)=true then Oper.wp P o a w K Q else E:=by
 have hw:Region.wanted o (yielded ops a.tmps)=true:=by simp[Region.wanted,hg]
 rw[if_pos hw]
 obtain⟨v',w',hrun,r1,r2,_,r4⟩:=run_append_own_at (P:=P) w B t o.type e i z size bytes h1 h2 h3 h4 h5 h6 h7 v n olds hown ad m c news hn hc h1c b1 b2 hB
 unfold Oper.wp
 simp[execOp,hop,resolve,invoke,builtin,hs,hx,hrun,Result.andThen]
 exact hK v' w' r1 r2 r4
def Xz (ls:List (List Nat))(i:Nat):List Nat:=ls.getD i []
theorem Q3t {ls:List (List Nat)}(h:i<ls.length):Xz ls i∈ls:=by
 simp only[Xz,zD,zH h]
 exact yH h
theorem Q1e {ls:List (List Nat)}(h:i<ls.length):wd (ls.map Qp) i=Qp (Xz ls i):=by
 simp[wd,Xz,List.getD_eq_getElem?_getD,h]
theorem Gf {ls:List (List Nat)}(h:i<ls.length):ls.take (i+1)=ls.take i++[Xz ls i]:=by
 rw[zP h]
 simp[Xz,List.getD_eq_getElem?_getD,h]
def V6 (es:List Eg)(ls ps:List (List Nat))(i j:Nat):List (List Nat):=Ve es (ls.take i) ps++Ve es [Xz ls i] (ps.take j)
theorem Fe (es:List Eg)(ls ps:List (List Nat))(i:Nat):V6 es ls ps i 0=Ve es (ls.take i) ps:=by simp[V6,Ve]
theorem Q60 {ls ps:List (List Nat)}(hj:j<ps.length)(h:hdL es (Xz ls i)=tlL es (Xz ps j)):V6 es ls ps i (j+1)=V6 es ls ps i j++[Xz ls i++Xz ps j]:=by
 unfold V6
 rw[Gf hj,zZ]
 simp[Ve,h]
theorem Q9k {ls ps:List (List Nat)}(hj:j<ps.length)(h:hdL es (Xz ls i)≠tlL es (Xz ps j)):V6 es ls ps i (j+1)=V6 es ls ps i j:=by
 unfold V6
 rw[Gf hj]
 simp[Ve,h]
theorem Q62 {ls ps:List (List Nat)}(hi:i<ls.length):V6 es ls ps i ps.length=V6 es ls ps (i+1) 0:=by
 rw[Fe,Gf hi,Q0z]
 unfold V6
 rw[zR]
theorem Gv (es:List Eg)(ls ps:List (List Nat)):(Ve es ls ps).length<=ls.length*ps.length:=by
 induction ls with
 |nil=>simp[Ve]
 |cons l ls ih=>
  rw[show l::ls=[l]++ls from rfl,Q0z,zA,zA,Nat.add_mul]
  have:(Ve es [l] ps).length<=ps.length:=by
   simp only[Ve,List.flatMap_cons,List.flatMap_nil,List.append_nil,zF]
   exact zW _ _
  simp only[List.length_cons,List.length_nil]
  omega
theorem Q61 (es:List Eg){ls ps:List (List Nat)}(hi:i<ls.length)(hj:j<=ps.length):(V6 es ls ps i j).length<=ls.length*ps.length:=by
 unfold V6
 rw[zA]
 have h1:=Gv es (ls.take i) ps
 have h2:=Gv es [Xz ls i] (ps.take j)
 rw[zX,Nat.min_eq_left (by omega)] at h1
 rw[zX,Nat.min_eq_left (by omega),List.length_singleton,Nat.one_mul] at h2
 have h3:(i+1)*ps.length<=ls.length*ps.length:=Nat.mul_le_mul_right _ hi
 rw[Nat.add_mul] at h3
 omega
def W8 (m:Nat)(l:List Nat):Prop:=l≠[]/\l.length<=100000/\∀e∈l,e<m
theorem Zs (l:List Nat):(Qp l).length=l.length:=by simp[Qp]
theorem Qb4 (l p:List Nat):Qp (l++p)=Qp l++Qp p:=by simp[Qp]
theorem Qbp (h:l≠[]):iat (Qp l) (l.length-1)=((l.getLastD 0:Nat):Int):=by
 have hp:=List.length_pos_iff.2 h
 rw[V5 (by rw[Zs];omega)]
 simp only[Qp,List.getElem_map]
 rw[List.getLastD_eq_getLast?,List.getLast?_eq_getElem?,zH (by omega)]
 rfl
theorem Q9j (h:l≠[]):iat (Qp l) 0=((l.headD 0:Nat):Int):=by
 cases l with
 |nil=>exact absurd rfl h
 |cons a l=>rfl
theorem Qdt (h:W8 m l):l.getLastD 0<m:=by
 refine h.2.2 _ ?_
 rw[List.getLastD_eq_getLast?]
 cases e:l.getLast? with
 |none=>exact absurd (List.getLast?_eq_none_iff.1 e) h.1
 |some x=>exact List.mem_of_getLast? e
theorem Qdy (h:W8 m l):l.headD 0<m:=by
 cases l with
 |nil=>exact absurd rfl h.1
 |cons a l=>exact h.2.2 a (by simp)
theorem Jm.at' (h:Jm B w v ws)(hi:i<ws.length):∃b off c,v=sL (some (aD b off)) ws.length c/\b<w.heap.size/\∃vi,w.cell? (aD b (off+i))=some vi/\Qi B w vi (wd ws i)/\G6 vi:=by
 obtain⟨a,cap,e,_,hk⟩:=h
 obtain⟨b,off,rfl,_,hb,hc⟩:=hk (by omega)
 exact⟨b,off,cap,e,hb,hc i hi⟩
theorem J3 (w:World)(n:Nat):Nx w (w.drewN n):=below_drewN (Below.refl _ w) n
theorem Jw.at' (h:Jw B w (sL a n c) es)(hp:0<es.length):n=es.length/\∃b off,a=some (aD b off)/\b<w.heap.size/\∀i,i<es.length->Kl w b (off+i*7) (eat es i):=by
 obtain⟨a',cap,e,_,hk⟩:=h
 simp only[zC] at e
 obtain⟨rfl,rfl,rfl⟩:=e
 obtain⟨b,off,e,_,hb,hc⟩:=hk hp
 exact⟨rfl,b,off,e,hb,hc⟩
theorem Kr (B B1 B2:Nat)(v0 v1 v2 v3 vl vp:Value)(R:Rd)(ls ps:List (List Nat))(w:World)(h0:Vy B w v0 v1 v2 v3 R)(hm:R.edges.length<=4000)(hl:Jm B1 w vl (ls.map Qp))(hp:Jm B2 w vp (ps.map Qp))(hgl:∀l∈ls,W8 R.edges.length l)(hgp:∀l∈ps,W8 R.edges.length l)(hL:ls.length<=1000000)(hP:ps.length<=10000) :
  Calls prog 108 #[.agg #[v0,v1,v2,v3],vl,vp] w λe w'=>(∃u,e=.returned u/\Js w.heap.size w' u ((Ve R.edges ls ps).map Qp))/\Nx w w':=by
 obtain⟨ii,hi,hz0,hz1,hz2⟩:=info_parts Pf
 obtain⟨a,cap,rfl,hml,hk⟩:=h0.2.1
 have HE:=mh h0.2.1
 clear h0 hk hml
 have HLW:=mh hl
 have HPW:=mh hp
 obtain⟨la,lc,rfl,_,_⟩:=hl
 obtain⟨pa,pc,rfl,_,_⟩:=hp
 have HGL:=mh hgl
 have HGP:=mh hgp
 clear hgl hgp
 generalize hes:R.edges=es at *
 clear hes
 simp only[zF] at *
 generalize hz:es.length=m at *
 have HZ:=mh hz
 generalize hnl:ls.length=nl at *
 have HNL:=mh hnl
 generalize hnp:ps.length=np at *
 have HNP:=mh hnp
 have HPROD:Z (nl*np<=10000000000):=zM (Nat.mul_le_mul hL hP) (by decide)
 clear hz hnl hnp
 have HB0:Z (Blk (w.alloc (.cells #[v0,sL a m cap,v2,v3] 86)) w.heap.size #[v0,sL a m cap,v2,v3]):=Blk.new w _ _ _ rfl
 have HX0:Z (Nx w (w.alloc (.cells #[v0,sL a m cap,v2,v3] 86))):=Qe _ _
 go_enter func108,ntmps108
 go_upto_region 1 with fail
 generalize w.alloc (.cells #[v0,sL a m cap,v2,v3] 86)=w1 at *
 go_wp2
 go_loopw [7,8] (λu i wr=>∃k:Nat,k<=nl/\i=iV k/\Z (Js w1.heap.size wr u ((V6 es ls ps k 0).map Qp))/\Z (Nx w1 wr)) (λ_ i _=>nl-(intOf i).toNat)
 case atStart=>exact⟨0,nZ,rfl,Gm w1.heap.size w1 lR,Qe _ _⟩
 obtain⟨k,hkm,rfl,HO,HN⟩:=hrel
 by_cases hlt:k<nl
 case neg=>
  have ek:nl=k:=by omega
  subst ek
  have HF:Z (Js w1.heap.size wr u7 ((Ve es ls ps).map Qp)):=by
   have:=HO.o
   rw[Fe,<-HNL.o,zR] at this
   exact this
  clear HO hlt hkm
  go_wp2
  go_ret
  exact⟨⟨_,rfl,HF.o.base HX0.o.size⟩,HX0.o.trans HN.o⟩
 have hlt':(k:Int)<nl:=by omega
 have HKL:Z (k<ls.length):=by rw[HNL.o];exact hlt
 go_wp2
 go_loopw [7,9] (λu j wr=>∃q:Nat,q<=np/\j=iV q/\Z (Js w1.heap.size wr u ((V6 es ls ps k q).map Qp))/\Z (Nx w1 wr)) (λ_ j _=>np-(intOf j).toNat)
 case atStart=>exact⟨0,nZ,rfl,HO,HN⟩
 clear HO HN
 obtain⟨q,hqm,rfl,HO,HN⟩:=hrel
 by_cases hq:q<np
 case neg=>
  have eq:np=q:=by omega
  subst eq
  have HF:Z (Js w1.heap.size wr u7 ((V6 es ls ps (k+1) 0).map Qp)):=by
   have:=HO.o
   rw[<-HNP.o,Q62 HKL.o] at this
   exact this
  clear HO hq hqm
  go_wp2
  go_roundw
  case rel=>exact⟨k+1,by omega,by go_num,HF,HN⟩
  case measure=>simp[intOf];omega
 have hq':(q:Int)<np:=by omega
 have HQP:Z (q<ps.length):=by rw[HNP.o];exact hq
 have HGk:=HGL.o _ (Q3t HKL.o)
 have HGq:=HGP.o _ (Q3t HQP.o)
 have HLEN:Z (((V6 es ls ps k q).map Qp).length<=10000000000):=by
  unfold Z
  rw[zF]
  have h1:=Q61 es (ls:=ls) (ps:=ps) (i:=k) (j:=q) HKL.o (by rw[HNP.o];omega)
  rw[HNL.o,HNP.o] at h1
  exact zM h1 HPROD.o
 have HYES:Z (hdL es (Xz ls k)=tlL es (Xz ps q)->(V6 es ls ps k (q+1)).map Qp=(V6 es ls ps k q).map Qp++[Qp (Xz ls k)++Qp (Xz ps q)]):=λh=>by rw[Q60 HQP.o h,yF,<-Qb4];rfl
 have HNO:Z (hdL es (Xz ls k)≠tlL es (Xz ps q)->V6 es ls ps k (q+1)=V6 es ls ps k q):=λh=>Q9k HQP.o h
 have HHD:Z (hdL es (Xz ls k)=(eat es ((Xz ls k).getLastD 0)).head):=rfl
 have HTL:Z (tlL es (Xz ps q)=(eat es ((Xz ps q).headD 0)).tail):=rfl
 generalize hll:Xz ls k=l at *
 generalize hpp:Xz ps q=p at *
 obtain⟨bl,ol,cl,el,hbl,vi,hvi,hvI,hcI⟩:=HLW.o.at' (i:=k) (by rw[zF,HNL.o];exact hlt)
 obtain⟨bp,op,cp,ep,hbp,vj,hvj,hvJ,hcJ⟩:=HPW.o.at' (i:=q) (by rw[zF,HNP.o];exact hq)
 rw[Q1e HKL.o,hll] at hvI
 rw[Q1e HQP.o,hpp] at hvJ
 simp only[zC] at el ep
 obtain⟨rfl,el2,rfl⟩:=el
 obtain⟨rfl,ep2,rfl⟩:=ep
 clear el2 ep2
 have HVI:=mh hvI
 have HVJ:=mh hvJ
 obtain⟨lm,hlm⟩:∃lm,l.length=lm+1:=⟨l.length-1,by have:=List.length_pos_iff.2 HGk.1;omega⟩
 obtain⟨pm,hpm⟩:∃pm,p.length=pm+1:=⟨p.length-1,by have:=List.length_pos_iff.2 HGq.1;omega⟩
 have hlm5:lm<=100000:=by have:=HGk.2.1;omega
 obtain⟨ai,ci,rfl,hmi,hki⟩:=hvI
 obtain⟨aj,cj,rfl,hmj,hkj⟩:=hvJ
 rw[Zs] at hki hkj hvi hvj
 obtain⟨bi,oi,rfl,_,hbi,hci⟩:=hki (by omega)
 obtain⟨bj,oj,rfl,_,hbj,hcj⟩:=hkj (by omega)
 have HLI:=Qdt HGk
 have HHJ:=Qdy HGq
 have y1:w.cell? (aD bi (oi+lm))=some (iV ((l.getLastD 0:Nat):Int)):=by
  have:=hci lm (by omega)
  rw[show lm=l.length-1 by omega,Qbp HGk.1] at this
  rw[show lm=l.length-1 by omega]
  exact this
 have y2:w.cell? (aD bj oj)=some (iV ((p.headD 0:Nat):Int)):=by
  have:=hcj 0 (by omega)
  dsimp only at this
  rw[Q9j HGq.1] at this
  exact this
 obtain⟨ez2,be,oe,rfl,hbe,hce⟩:=HE.o.at' (by rw[HZ.o];omega)
 clear ez2
 have z1:=(hce _ (by rw[HZ.o];exact HLI)).2.1
 have z2:=(hce _ (by rw[HZ.o];exact HHJ)).1
 generalize l.getLastD 0=x at *
 generalize p.headD 0=y at *
 rw[hlm] at hvi
 rw[hpm] at hvj
 have HVI2:Z (Qi B1 w (sL (some (aD bi oi)) (lm+1) ci) (Qp l)):=by have:=HVI.o;rw[Zs,hlm] at this;exact this
 have HVJ2:Z (Qi B2 w (sL (some (aD bj oj)) (pm+1) cj) (Qp p)):=by have:=HVJ.o;rw[Zs,hpm] at this;exact this
 have HLL:Z ((Qp l).length<=100000/\(Qp p).length<=100000):=⟨by rw[Zs];exact HGk.2.1,by rw[Zs];exact HGq.2.1⟩
 clear hci hcj hki hkj hce hmi hmj HVI HVJ hcI hcJ hlm hpm hll hpp HGk HGq hbl hbp hbi hbj hbe
 have HXw:=mh (HX0.o.trans HN.o)
 have r0:=(HB0.o.next HN.o).c 1 rfl
 have a1:=Q0 HXw.o hvi
 have a2:=Q0 HXw.o hvj
 have a3:=Q0 HXw.o y1
 have a4:=Q0 HXw.o y2
 have a5:=Q0 HXw.o z1
 have a6:=Q0 HXw.o z2
 have hx':(x:Int)<m:=by omega
 have hy':(y:Int)<m:=by omega
 have hlm':(lm:Int)<(lm:Int)+1:=by omega
 have hpm':(0:Int)<(pm:Int)+1:=by omega
 have HC1:=mh hvi
 have HC2:=mh hvj
 clear hvi hvj y1 y2 z1 z2
 go_upto_region 8 with fail
 go_quiet (fail)
 have HDQ:Z (Nx wr (wr.drewN nq)):=J3 _ _
 generalize wr.drewN nq=wq at *
 have b0:=Q0 HDQ.o r0
 have b1:=Q0 HDQ.o a1
 have b2:=Q0 HDQ.o a2
 have b4:=Q0 HDQ.o a4
 have b5:=Q0 HDQ.o a5
 have b6:=Q0 HDQ.o a6
 have HOQ:=mh (HO.o.next HDQ.o)
 have HNQ:=mh (HN.o.trans HDQ.o)
 have HXQ:=mh (HXw.o.trans HDQ.o)
 clear r0 a1 a2 a3 a4 a5 a6 HO HN
 generalize (eat es x).head=hd at *
 generalize (eat es y).tail=td at *
 by_cases hj:hd=td
 case neg=>
  have g1:(hd==td)=false:=by simpa using hj
  have HE2:=mh (HNO.o (by rw[HHD.o,HTL.o];exact hj))
  clear hj
  go_upto_region 10 with fail
  go_quiet (fail)
  have HDQ2:Z (Nx wq (wq.drewN nq)):=J3 _ _
  generalize wq.drewN nq=wz at *
  clear b0 b1 b2 b4 b5 b6
  go_wp2
  go_roundw
  case rel=>exact⟨q+1,by omega,by go_num,by rw[HE2.o];exact HOQ.o.next HDQ2.o,HNQ.o.trans HDQ2.o⟩
  case measure=>simp[intOf];omega
 have g1:(hd==td)=true:=by simpa using hj
 have HES:=mh (HYES.o (by rw[HHD.o,HTL.o];exact hj))
 clear hj
 go_upto_region 10 with fail
 go_quiet (fail)
 have HDQ2:Z (Nx wq (wq.drewN nq)):=J3 _ _
 generalize wq.drewN nq=wz at *
 have c1:=Q0 HDQ2.o b1
 have c2:=Q0 HDQ2.o b2
 have HOZ:=mh (HOQ.o.next HDQ2.o)
 have HNZ:=mh (HNQ.o.trans HDQ2.o)
 have HXZ:=mh (HXQ.o.trans HDQ2.o)
 have HSZ:=mh HNZ.o.size
 clear b0 b1 b2 b4 b5 b6 HOQ HNQ HXQ HDQ HDQ2
 generalize (V6 es ls ps k q).map Qp=ws at *
 obtain⟨ua,uc,hus⟩:=HOZ.o.slice
 subst hus
 generalize hwl:ws.length=wl at *
 have HWL:=mh hwl
 have hwl4:=HLEN.o
 clear hwl
 have HVIZ:=mh (HVI2.o.next HXZ.o)
 have HVJZ:=mh (HVJ2.o.next HXZ.o)
 go_wp2
 go_region_held3 (λw'=>w'.cell? (aD bl (ol+k))=some (sL (some (aD bi oi)) (lm+1) ci)/\w'.cell? (aD bp (op+q))=some (sL (some (aD bj oj)) (pm+1) cj)) (first|exact⟨t1,t2⟩|exact⟨Q0 (Qe _ _) t1,Q0 (Qe _ _) t2⟩|(go_keep;done)) (first|(go_at_call 55;refine(Yg B1 B2 _ _ (Qp l) (Qp p) _ (by exact HVIZ.o.next (Below.refl _ _).drew) (by exact HVJZ.o.next (Below.refl _ _).drew) (by have:=HLL.o;omega) (by have:=HLL.o;omega)).mono ?_;rintro e w5 ⟨⟨u5,rfl,hO5⟩,hx5⟩;have HX5:Z (Nx wz w5):=(Below.refl _ _).drew.trans hx5;have HO5:Z (Q5 w1.heap.size w5 u5 (Qp l++Qp p)):=hO5.base HSZ.o;have HOZ5:Z (Js w1.heap.size w5 (sL ua wl uc) ws):=HOZ.o.next HX5.o;have t1:=Q0 HX5.o c1;have t2:=Q0 HX5.o c2;obtain⟨ub,ud,hub⟩:=HO5.o.slice;generalize (Qp l++Qp p).length=un at hub;subst hub;obtain⟨cs5,hrow5,hwd5⟩:=HOZ5.o;have HROW5:Z (w5.ownsRow w1.heap.size 143 1 (sL ua wl uc) ws.length cs5):=hrow5;have HWD5:Z (∀i,i<ws.length->Q5 w1.heap.size w5 (vat cs5 i) (wd ws i)):=hwd5;have HS5:Z (w1.heap.size<=w5.heap.size):=zM HSZ.o HX5.o.size;have HN5:Z (Nx w1 w5):=HNZ.o.trans HX5.o;clear hO5 hx5 hrow5 hwd5)|(refine Jh rfl (.tmp 59) (.tmp 72) 107 rfl 143 ii (.agg #[sN]) 1 24 underlying107 hi hz0 hz1 hz2 rfl (by decide) w1.heap.size (sL ua wl uc) ws.length cs5 (by simp[Act.eval]) (zB HROW5.o _) (aD w5.heap.size 0) 1 1 [sL ub un ud] (by simp[Act.eval]) rfl (λj u hj=>Qn w5 _ _ _ rfl j u hj) (by intro u hu;simp at hu;subst hu;rfl) (by rw[HWL.o];unfold maxLen;omega) (by rw[HWL.o];omega) (by rw[Q1];have:=HS5.o;omega) ?_;intro v7 w7 hown hgrow hat;have HO7:Z (Js w1.heap.size w7 v7 (ws++[Qp l++Qp p])):=Js.snoc HROW5.o HWD5.o HO5.o _ hgrow hown;have HN7:Z (Nx w1 w7):=Below.grown (HN5.o.alloc _) hgrow (by rw[Q1];have:=HS5.o;omega) (λg hg=>(Q7 HROW5.o g hg).1);have t1:=Q0 (HX0.o.trans HN7.o) HC1.o;have t2:=Q0 (HX0.o.trans HN7.o) HC2.o;clear hown hgrow hat))
 all_goals
  go_wp2
  go_roundw
  case rel=>exact⟨q+1,by omega,by go_num,by rw[HES.o];exact HO7.o,HN7⟩
  case measure=>simp[intOf];omega
def wpos (xs:List Wy)(id:Int):Nat:=xs.findIdx λx=>x.id==id
theorem Qcv {xs:List Wy}{id:Int}(hk:k<xs.length)(h:(wat xs k).id=id)(hn:Q5n xs id k):wpos xs id=k:=by
 unfold wpos
 rw[List.findIdx_eq hk]
 refine⟨by rw[<-Q1f hk];simpa using h,λj hj=>?_⟩
 have:=hn j hj
 rw[Q1f (by omega)] at this
 simpa using this
theorem Q6u {xs:List Wy}{id:Int}(h:Xw xs id=true):wpos xs id<xs.length:=by
 unfold wpos Xw at *
 exact List.findIdx_lt_length.2 (by simpa using List.any_eq_true.1 h)
theorem Qaj {a b:Nat}(h:b=a):Ending.returned (iV (a:Int))=.returned (iV (b:Int)):=by rw[h]
theorem Pe (B:Nat)(v0 v1 v2 v3:Value)(u id:Int)(xs:List Wy)(w:World)(h0:Pj B w v1 xs)(hh:Xw xs id=true) :
  Calls prog 87 #[.agg #[v0,v1,v2,v3,iV u],iV id] w λe w'=>e=.returned (iV (wpos xs id:Int))/\Nx w w':=by
 obtain⟨a,cap,rfl,hn,hk⟩:=h0
 unfold maxLen at hn
 have HH:=mh hh
 clear hh
 generalize hz:xs.length=n at *
 have HZ:=mh hz
 clear hz
 go_enter func87,ntmps87
 go_wp2
 go_loop [5] (λi=>∃k:Nat,k<=n/\i=iV k/\Z (Q5n xs id k)) (λi=>n-(intOf i).toNat)
 case atStart=>exact⟨0,nZ,rfl,Q0p _ _⟩
 case round=>
  obtain⟨k,hkn,rfl,hrel⟩:=hrel
  by_cases hlt:k<n
  ·obtain⟨b,off,rfl,hB,hb,hc⟩:=hk (by omega)
   obtain⟨vn,vw,hcc,_⟩:=hc k hlt
   clear hc hk
   go_wp2
   ·go_ret
    exact⟨Qaj (Qcv (by rw[HZ.o];exact hlt) (by simpa using(show((wat xs k).id==id)=true by assumption)) hrel.o),(Below.refl _ _).alloc lR _⟩
   ·go_round
    case rel=>exact⟨k+1,by omega,by go_num,Q0q hrel (by assumption)⟩
    case measure=>simp[intOf];omega
  ·exfalso
   have:=Q7s (xs:=xs) (id:=id) (k:=k) (by rw[HZ.o];omega) hrel.o
   rw[HH.o] at this
   cases this
def Vb (l:List Nat):List (List Nat):=l.map λe=>[e]
theorem Q0o (l:List Nat):ones l=(Vb l).map Qp:=by simp[ones,Vb,Qp]
theorem Gj {i:Int}:∀l∈Vb (Zg es i es.length),W8 es.length l:=by
 intro l hl
 obtain⟨e,he,rfl⟩:=List.mem_map.1 hl
 refine⟨by simp,by simp,λx hx=>?_⟩
 have:x=e:=by simpa using hx
 subst this
 unfold Zg at he
 exact List.mem_range.1 (List.mem_filter.1 he).1
theorem Uc (l:List Nat):(Vb l).length=l.length:=by simp[Vb]
theorem Ee {N:Nt}(hm:es.length<=4000)(h1:Vv es i es.length≠[])(h2:(wat N.ways i).both=true->Xs es i es.length≠[]):∀l∈Jt N es i,W8 es.length l/\l.length<=4000:=by
 have a1:W8 es.length (Vv es i es.length)/\(Vv es i es.length).length<=4000:=by
  have:=Q30 es i es.length
  rw[Zs] at this
  exact⟨⟨h1,by omega,λe he=>by unfold Vv at he;exact List.mem_range.1 (List.mem_filter.1 he).1⟩,by omega⟩
 intro l hl
 unfold Jt at hl
 rcases List.mem_append.1 hl with g|g
 ·have:l=Vv es i es.length:=by simpa using g
  rw[this];exact a1
 ·by_cases hb:(wat N.ways i).both=true
  ·rw[if_pos hb] at g
   have:l=Xs es i es.length:=by simpa using g
   have hl:=Q4j es i es.length
   rw[Zs] at hl
   rw[this]
   exact⟨⟨h2 hb,by omega,λe he=>by unfold Xs at he;exact List.mem_range.1 (List.mem_filter.1 (List.mem_reverse.1 he)).1⟩,by omega⟩
  ·rw[if_neg hb] at g
   simp at g
theorem Pl (N:Nt)(es:List Eg)(i:Nat):(Jt N es i).length<=2:=by
 unfold Jt
 split<;>simp
theorem Q63 {d:Nat}{ls ps:List (List Nat)}(h1:∀l∈ls,W8 m l/\l.length<=c)(h2:∀l∈ps,W8 m l/\l.length<=d)(hc:c+d<=100000):∀l∈Ve es ls ps,W8 m l/\l.length<=c+d:=by
 intro q hq
 unfold Ve at hq
 obtain⟨l,hl,hq⟩:=List.mem_flatMap.1 hq
 obtain⟨p,hp,rfl⟩:=List.mem_map.1 hq
 have hp':=(List.mem_filter.1 hp).1
 have e1:=h1 l hl
 have e2:=h2 p hp'
 refine⟨⟨by simp[e1.1.1],by rw[zA];omega,λe he=>?_⟩,by rw[zA];omega⟩
 rcases List.mem_append.1 he with g|g
 ·exact e1.1.2.2 e g
 ·exact e2.1.2.2 e g
def Vf (N:Nt)(es:List Eg)(r:Rl):List Nat:=Zg es (wpos N.ways r.frm) es.length
def Y7 (N:Nt)(es:List Eg)(r:Rl):List Nat:=Zg es (wpos N.ways r.to) es.length
def Vu (nodes:List Int)(es:List Eg)(node:Int)(e:Nat):Bool:=decide (iat nodes (eat es e).head.toNat=node)
def Yw (N:Nt)(es:List Eg)(r:Rl)(k:Nat):List (List Nat):=Q7u es (Vb (Vf N es r)) ((r.ways.take k).map λid=>Jt N es (wpos N.ways id))
def U4 (N:Nt)(nodes:List Int)(es:List Eg)(r:Rl):List (List Nat):=
 if r.via then Ve es (Vb ((Vf N es r).filter (Vu nodes es r.node))) (Vb (Y7 N es r)) else Ve es (Yw N es r r.ways.length) (Vb (Y7 N es r))
theorem A9 {N:Nt}{r:Rl}(hk:k<r.ways.length):Yw N es r (k+1)=Ve es (Yw N es r k) (Jt N es (wpos N.ways (iat r.ways k))):=by
 unfold Yw Q7u
 rw[zP hk,yF,List.foldl_append,V5 hk]
 rfl
theorem Js.at (h:Js C w (sL a n c) ws)(hi:i<ws.length):∃g u,a=some (aD g 0)/\w.cell? (aD g i)=some u/\Q5 C w u (wd ws i):=by
 obtain⟨cs,h1,h2⟩:=h
 obtain⟨h3,h4⟩:=h1
 rw[Nat.mul_one] at h3
 rcases h4 with⟨_,h4⟩|⟨g,cap,cur,e,hg,hh,hc,hm,hs,ht⟩
 ·omega
 ·simp only[zC] at e
  refine⟨g,vat cs i,e.1,?_,h2 i hi⟩
  have e:(cur.toList.take (ws.length*1))[i]?=cs[i]?:=by rw[ht]
  rw[zQ (by omega),zN] at e
  simp[World.cell?,hh,e,vat,List.getD,show i<cs.length by omega]
theorem Pj.next {xs:List Wy}(h:Pj B w v xs)(k:Nx w w'):Pj B w' v xs:=h.keep (k.keeps B)
def Al (C D:Nat)(w:World)(v:Value)(ws:List (List Int)):Prop:=
 ∃cs:List Value,w.ownsRow C 143 1 v ws.length cs/\∀i,i<ws.length->Q5 D w (vat cs i) (wd ws i)
theorem Al.next (h:Al C D w v ws)(k:Nx w w'):Al C D w' v ws:=by
 obtain⟨cs,h1,h2⟩:=h
 refine⟨cs,?_,λi hi=>(h2 i hi).next k⟩
 obtain⟨h3,h4⟩:=h1
 refine⟨h3,?_⟩
 rcases h4 with h4|⟨g,cap,cur,hv,hg,hh,r⟩
 ·exact oL h4
 ·exact oR ⟨g,cap,cur,hv,hg,(k.block g (Array.getElem?_eq_some_iff.1 hh).1).trans hh,r⟩
theorem Al.own (h:Al C D w v ws)(hD:D<=C):Js D w v ws:=by
 obtain⟨cs,h1,h2⟩:=h
 refine⟨cs,?_,h2⟩
 obtain⟨h3,h4⟩:=h1
 refine⟨h3,?_⟩
 rcases h4 with h4|⟨g,cap,cur,hv,hg,r⟩
 ·exact oL h4
 ·exact oR ⟨g,cap,cur,hv,by omega,r⟩
theorem Q92 (D:Nat)(w:World):Al w.heap.size D (w.alloc (.cells #[] 143)) (sL (sA w.heap.size) 0 0) []:=
 ⟨[],⟨rfl,.inr ⟨w.heap.size,0,#[],rfl,lR,by show(w.heap.push _)[w.heap.size]?=_;simp,lR,by simp[maxLen],by simp,by simp⟩⟩,λi hi=>absurd hi (zK _)⟩
theorem Al.snoc {cs:List Value}(h1:w.ownsRow C 143 1 v ws.length cs)(h2:∀i,i<ws.length->Q5 D w (vat cs i) (wd ws i))
  (hu:Q5 D w u x) (ho:Obj) (hg:(w.alloc ho).grownBy w' v.ownBlock) (hn:w'.ownsRow C 143 1 v' (ws.length+1) (cs++[u])):Al C D w' v' (ws++[x]):=by
 have hl:cs.length=ws.length:=by have:=h1.1;omega
 have kept:∀{z:Value}{zs:List Int},Q5 D w z zs->Q5 D w' z zs:=λ{z zs} hz=>zL (zB hz ho) hg (Yr hz h1 (by decide))
 refine⟨cs++[u],by rw[zA];exact hn,λi hi=>?_⟩
 rw[zA,List.length_singleton] at hi
 by_cases e:i<ws.length
 ·rw[Ut e]
  have:vat (cs++[u]) i=vat cs i:=by simp[vat,List.getD,List.getElem?_append_left (show i<cs.length by omega)]
  rw[this]
  exact kept (h2 i e)
 ·have e':i=ws.length:=by omega
  rw[Ea e']
  have:vat (cs++[u]) i=u:=by rw[e',<-hl];simp[vat,List.getD]
  rw[this]
  exact kept hu
theorem Qdc (hk:k<F.length):wd ((Vb F).map Qp) k=[((F.getD k 0:Nat):Int)]:=by
 simp[wd,Vb,Qp,List.getD_eq_getElem?_getD,hk]
theorem Qbx {p:Nat->Bool}(hk:k<F.length)(h:p (F.getD k 0)=true):(Vb ((F.take (k+1)).filter p)).map Qp=(Vb ((F.take k).filter p)).map Qp++[[((F.getD k 0:Nat):Int)]]:=by
 have e:F.getD k 0=F[k]:=by simp[List.getD_eq_getElem?_getD,hk]
 rw[e] at h ⊢
 rw[zP hk,zV]
 simp[Vb,Qp,h]
theorem Qe3 {p:Nat->Bool}(hk:k<F.length)(h:p (F.getD k 0)=false):(F.take (k+1)).filter p=(F.take k).filter p:=by
 have e:F.getD k 0=F[k]:=by simp[List.getD_eq_getElem?_getD,hk]
 rw[e] at h
 rw[zP hk,zV]
 simp[h]
structure Qcp (N:Nt)(R:Rd)(r:Rl):Prop where
 frm:Xw N.ways r.frm=true
 dst:Xw N.ways r.to=true
 len:r.ways.length<=4
 ways:∀k,k<r.ways.length->Xw N.ways (iat r.ways k)=true
 th:∀i,i<N.ways.length->Vv R.edges i R.edges.length≠[]/\((wat N.ways i).both=true->Xs R.edges i R.edges.length≠[])
 hd:∀e,e<R.edges.length->0<=(eat R.edges e).head/\(eat R.edges e).head<R.nodes.length
theorem Aa {N:Nt}{R:Rd}{r:Rl}(h:Qcp N R r)(hm:R.edges.length<=4000):∀k,k<=r.ways.length->(∀l∈Yw N R.edges r k,W8 R.edges.length l/\l.length<=1+4000*k)/\(Yw N R.edges r k).length<=4000*2 ^ k
 |0,_=>by
  refine⟨λl hl=>?_,?_⟩
  ·have hl':l∈Vb (Vf N R.edges r):=hl
   refine⟨Gj l hl',?_⟩
   obtain⟨e,_,rfl⟩:=List.mem_map.1 hl'
   simp
  ·show(Vb (Vf N R.edges r)).length<=_
   rw[Uc]
   have:=Ih R.edges (wpos N.ways r.frm) R.edges.length
   unfold Vf
   omega
 |k+1,hk=>by
  obtain⟨h1,h2⟩:=Aa h hm k (by omega)
  have hw:=Q6u (h.ways k (by omega))
  have ht:=h.th _ hw
  have h3:=Ee (N:=N) hm ht.1 ht.2
  have hk4:=h.len
  rw[A9 (by omega)]
  refine⟨λl hl=>?_,?_⟩
  ·have:=Q63 h1 h3 (by omega) l hl
   exact⟨this.1,by omega⟩
  ·have a1:=Gv R.edges (Yw N R.edges r k) (Jt N R.edges (wpos N.ways (iat r.ways k)))
   have a2:=Pl N R.edges (wpos N.ways (iat r.ways k))
   have a3:=Nat.mul_le_mul h2 a2
   rw[Nat.pow_succ]
   omega
theorem Q22 (B0 B Bw:Nat)(n0 n1 n2 n3:Value)(N:Nt)(v0 v1 v2 v3:Value)(R:Rd)(r:Rl)(vw:Value)(w:World)(hN:U0 B0 w n0 n1 n2 n3 N)(h0:Vy B w v0 v1 v2 v3 R)(hw:Qi Bw w vw r.ways)(hm:R.edges.length<=4000)(hR:Qcp N R r) :
  Calls prog 94 #[.agg #[n0,n1,n2,n3,iV N.uturn],.agg #[v0,v1,v2,v3],.agg #[iV r.id,.bool r.only,iV r.frm,iV r.to,.bool r.via,iV r.node,vw]] w λe w'=>(∃u,e=.returned u/\Js w.heap.size w' u ((U4 N R.nodes R.edges r).map Qp))/\Nx w w':=by
 obtain⟨ii,hi,hz0,hz1,hz2⟩:=info_parts Pf
 have HNET:=mh hN
 have HROAD:=mh h0
 have HW:=mh hw
 have HR:=mh hR
 clear hN h0 hR
 obtain⟨a0,q0,e0,jm,jk⟩:=HNET.o.1
 clear jm jk
 obtain⟨a1,q1,e1,jm,jk⟩:=HNET.o.2.1
 clear jm jk
 obtain⟨a2,q2,e2,jm,jk⟩:=HNET.o.2.2.1
 clear jm jk
 obtain⟨a3,q3,e3,jm,jk⟩:=HNET.o.2.2.2
 clear jm jk
 generalize N.nodes.length=l0 at e0
 generalize N.ways.length=l1 at e1
 generalize N.rels.length=l2 at e2
 generalize N.turns.length=l3 at e3
 obtain⟨a4,q4,e4,jm,jk⟩:=HROAD.o.1
 clear jm jk
 obtain⟨a5,q5,e5,jm,jk⟩:=HROAD.o.2.1
 clear jm jk
 obtain⟨a6,q6,e6,jm,jk⟩:=HROAD.o.2.2.1
 clear jm jk
 obtain⟨a7,q7,e7,jm,jk⟩:=HROAD.o.2.2.2
 clear jm jk
 generalize R.nodes.length=l4 at e4
 generalize R.edges.length=l5 at e5
 generalize R.first.length=l6 at e6
 generalize R.o.length=l7 at e7
 obtain⟨aw,qw,ew,jm,jk⟩:=hw
 clear jm jk
 generalize r.ways.length=lw at ew
 subst e0 e1 e2 e3 e4 e5 e6 e7 ew
 generalize hW1:((w.alloc (.cells #[sL a0 l0 q0,sL a1 l1 q1,sL a2 l2 q2,sL a3 l3 q3,iV N.uturn] 60)).alloc (.cells #[sL a4 l4 q4,sL a5 l5 q5,sL a6 l6 q6,sL a7 l7 q7] 86)).alloc (.cells #[iV r.id,.bool r.only,iV r.frm,iV r.to,.bool r.via,iV r.node,sL aw lw qw] 89)=w1
 have HX1:Z (Nx w w1):=by rw[<-hW1];exact(Uk _ _ _).alloc _
 have BN:Z (Blk w1 w.heap.size #[sL a0 l0 q0,sL a1 l1 q1,sL a2 l2 q2,sL a3 l3 q3,iV N.uturn]):=by rw[<-hW1];exact((Blk.new w _ _ _ rfl).alloc _).alloc _
 have BR:Z (Blk w1 (w.heap.size+1) #[sL a4 l4 q4,sL a5 l5 q5,sL a6 l6 q6,sL a7 l7 q7]):=by rw[<-hW1];exact(Blk.new _ _ _ _ (by rw[Q1])).alloc _
 have BL:Z (Blk w1 (w.heap.size+2) #[iV r.id,.bool r.only,iV r.frm,iV r.to,.bool r.via,iV r.node,sL aw lw qw]):=by rw[<-hW1];exact Blk.new _ _ _ _ (by rw[Q1,Q1])
 go_enter func94,ntmps94
 go_upto_region 1 with fail
 clear hW1
 have HFR:=HR.o.frm
 have HTO:=HR.o.dst
 have HX11:Z (Nx w1 w1):=Below.refl _ _
 have k0:w1.cell? (aD w.heap.size 0)=some (sL a0 l0 q0):=(BN.o.next (Below.refl _ _)).c 0 rfl
 have k1:w1.cell? (aD w.heap.size 1)=some (sL a1 l1 q1):=(BN.o.next (Below.refl _ _)).c 1 rfl
 have k2:w1.cell? (aD w.heap.size 2)=some (sL a2 l2 q2):=(BN.o.next (Below.refl _ _)).c 2 rfl
 have k3:w1.cell? (aD w.heap.size 3)=some (sL a3 l3 q3):=(BN.o.next (Below.refl _ _)).c 3 rfl
 have k4:w1.cell? (aD w.heap.size 4)=some (iV N.uturn):=(BN.o.next (Below.refl _ _)).c 4 rfl
 have k5:w1.cell? (aD (w.heap.size+1) 0)=some (sL a4 l4 q4):=(BR.o.next (Below.refl _ _)).c 0 rfl
 have k6:w1.cell? (aD (w.heap.size+1) 1)=some (sL a5 l5 q5):=(BR.o.next (Below.refl _ _)).c 1 rfl
 have k7:w1.cell? (aD (w.heap.size+1) 2)=some (sL a6 l6 q6):=(BR.o.next (Below.refl _ _)).c 2 rfl
 have k8:w1.cell? (aD (w.heap.size+1) 3)=some (sL a7 l7 q7):=(BR.o.next (Below.refl _ _)).c 3 rfl
 have kf:=BL.o.c 2 rfl
 go_region_held3 (λw'=>w'.cell? (aD w.heap.size 0)=some (sL a0 l0 q0)/\w'.cell? (aD w.heap.size 1)=some (sL a1 l1 q1)/\w'.cell? (aD w.heap.size 2)=some (sL a2 l2 q2)/\w'.cell? (aD w.heap.size 3)=some (sL a3 l3 q3)/\w'.cell? (aD w.heap.size 4)=some (iV N.uturn)/\w'.cell? (aD (w.heap.size+1) 0)=some (sL a4 l4 q4)/\w'.cell? (aD (w.heap.size+1) 1)=some (sL a5 l5 q5)/\w'.cell? (aD (w.heap.size+1) 2)=some (sL a6 l6 q6)/\w'.cell? (aD (w.heap.size+1) 3)=some (sL a7 l7 q7)/\w'.cell? (aD (w.heap.size+2) 2)=some (iV r.frm)) (first|exact⟨Q0 HXbw2.o k0,Q0 HXbw2.o k1,Q0 HXbw2.o k2,Q0 HXbw2.o k3,Q0 HXbw2.o k4,Q0 HXbw2.o k5,Q0 HXbw2.o k6,Q0 HXbw2.o k7,Q0 HXbw2.o k8,Q0 HXbw2.o kf⟩|exact⟨Q0 HXaw2.o k0,Q0 HXaw2.o k1,Q0 HXaw2.o k2,Q0 HXaw2.o k3,Q0 HXaw2.o k4,Q0 HXaw2.o k5,Q0 HXaw2.o k6,Q0 HXaw2.o k7,Q0 HXaw2.o k8,Q0 HXaw2.o kf⟩|(go_keep;done)) (first|(go_at_call 87;refine(Pe B0 _ _ _ _ _ _ N.ways _ (by exact HNET.o.2.1.next (HX1.o.trans (Below.refl _ _).drew)) HFR).mono ?_;rintro e waw2 ⟨rfl,hxa⟩;have HXaw2:Z (Nx w1 waw2):=(Below.refl _ _).drew.trans hxa;clear hxa)|(go_at_call 107;refine(Q40 B _ _ _ _ R _ _ (by exact HROAD.o.next (HX1.o.trans HXaw2.o)) hm).mono ?_;rintro e w2 ⟨⟨uf,rfl,hOuf⟩,hxb⟩;have HXbw2:Z (Nx w1 w2):=HXaw2.o.trans hxb;have HOuf:Z (Js w1.heap.size w2 uf (ones (Zg R.edges (wpos N.ways r.frm) R.edges.length))):=hOuf.base (by have:=HX11.o.size;have:=HXaw2.o.size;omega);clear hOuf hxb))
 have HXw2:=mh (HX1.o.trans HXbw2.o)
 have HX1w2:=mh HXbw2.o
 have HLF:Z (ones (Zg R.edges (wpos N.ways r.frm) R.edges.length)=(Vb (Vf N R.edges r)).map Qp):=Q0o _
 have HLT:Z (ones (Zg R.edges (wpos N.ways r.to) R.edges.length)=(Vb (Y7 N R.edges r)).map Qp):=Q0o _
 obtain⟨fa,fc,hfe⟩:=HOuf.o.slice
 generalize hfl:(ones (Zg R.edges (wpos N.ways r.frm) R.edges.length)).length=fl at hfe
 have HFL:=mh hfl
 subst hfe
 clear k0 k1 k2 k3 k4 k5 k6 k7 k8 kf hfl
 have k0:w2.cell? (aD w.heap.size 0)=some (sL a0 l0 q0):=(BN.o.next HX1w2.o).c 0 rfl
 have k1:w2.cell? (aD w.heap.size 1)=some (sL a1 l1 q1):=(BN.o.next HX1w2.o).c 1 rfl
 have k2:w2.cell? (aD w.heap.size 2)=some (sL a2 l2 q2):=(BN.o.next HX1w2.o).c 2 rfl
 have k3:w2.cell? (aD w.heap.size 3)=some (sL a3 l3 q3):=(BN.o.next HX1w2.o).c 3 rfl
 have k4:w2.cell? (aD w.heap.size 4)=some (iV N.uturn):=(BN.o.next HX1w2.o).c 4 rfl
 have k5:w2.cell? (aD (w.heap.size+1) 0)=some (sL a4 l4 q4):=(BR.o.next HX1w2.o).c 0 rfl
 have k6:w2.cell? (aD (w.heap.size+1) 1)=some (sL a5 l5 q5):=(BR.o.next HX1w2.o).c 1 rfl
 have k7:w2.cell? (aD (w.heap.size+1) 2)=some (sL a6 l6 q6):=(BR.o.next HX1w2.o).c 2 rfl
 have k8:w2.cell? (aD (w.heap.size+1) 3)=some (sL a7 l7 q7):=(BR.o.next HX1w2.o).c 3 rfl
 have kf:=(BL.o.next HX1w2.o).c 3 rfl
 go_wp2
 go_region_held3 (λw'=>w'.cell? (aD w.heap.size 0)=some (sL a0 l0 q0)/\w'.cell? (aD w.heap.size 1)=some (sL a1 l1 q1)/\w'.cell? (aD w.heap.size 2)=some (sL a2 l2 q2)/\w'.cell? (aD w.heap.size 3)=some (sL a3 l3 q3)/\w'.cell? (aD w.heap.size 4)=some (iV N.uturn)/\w'.cell? (aD (w.heap.size+1) 0)=some (sL a4 l4 q4)/\w'.cell? (aD (w.heap.size+1) 1)=some (sL a5 l5 q5)/\w'.cell? (aD (w.heap.size+1) 2)=some (sL a6 l6 q6)/\w'.cell? (aD (w.heap.size+1) 3)=some (sL a7 l7 q7)/\w'.cell? (aD (w.heap.size+2) 3)=some (iV r.to)) (first|exact⟨Q0 HXbw3.o k0,Q0 HXbw3.o k1,Q0 HXbw3.o k2,Q0 HXbw3.o k3,Q0 HXbw3.o k4,Q0 HXbw3.o k5,Q0 HXbw3.o k6,Q0 HXbw3.o k7,Q0 HXbw3.o k8,Q0 HXbw3.o kf⟩|exact⟨Q0 HXaw3.o k0,Q0 HXaw3.o k1,Q0 HXaw3.o k2,Q0 HXaw3.o k3,Q0 HXaw3.o k4,Q0 HXaw3.o k5,Q0 HXaw3.o k6,Q0 HXaw3.o k7,Q0 HXaw3.o k8,Q0 HXaw3.o kf⟩|(go_keep;done)) (first|(go_at_call 87;refine(Pe B0 _ _ _ _ _ _ N.ways _ (by exact HNET.o.2.1.next (HXw2.o.trans (Below.refl _ _).drew)) HTO).mono ?_;rintro e waw3 ⟨rfl,hxa⟩;have HXaw3:Z (Nx w2 waw3):=(Below.refl _ _).drew.trans hxa;clear hxa)|(go_at_call 107;refine(Q40 B _ _ _ _ R _ _ (by exact HROAD.o.next (HXw2.o.trans HXaw3.o)) hm).mono ?_;rintro e w3 ⟨⟨ut,rfl,hOut⟩,hxb⟩;have HXbw3:Z (Nx w2 w3):=HXaw3.o.trans hxb;have HOut:Z (Js w1.heap.size w3 ut (ones (Zg R.edges (wpos N.ways r.to) R.edges.length))):=hOut.base (by have:=HX1w2.o.size;have:=HXaw3.o.size;omega);clear hOut hxb))
 have HXw3:=mh (HXw2.o.trans HXbw3.o)
 have HX1w3:=mh (HX1w2.o.trans HXbw3.o)
 have HOF:Z (Js w1.heap.size w3 (sL fa fl fc) ((Vb (Vf N R.edges r)).map Qp)):=by have:=HOuf.o.next HXbw3.o;rw[HLF.o] at this;exact this
 have HOT:Z (Js w1.heap.size w3 ut ((Vb (Y7 N R.edges r)).map Qp)):=by have:=HOut.o;rw[HLT.o] at this;exact this
 have hfl4:fl<=4000:=by rw[<-HFL.o,Q3n];have:=Ih R.edges (wpos N.ways r.frm) R.edges.length;omega
 have HFLS:Z ((Vb (Vf N R.edges r)).length=fl):=by have:=HFL.o;rw[HLF.o,zF] at this;exact this
 obtain⟨ta,tc,hte⟩:=HOT.o.slice
 generalize htl:((Vb (Y7 N R.edges r)).map Qp).length=tl at hte
 have HTL:Z ((Vb (Y7 N R.edges r)).length=tl):=by rw[zF] at htl;exact htl
 have htl4:tl<=4000:=by rw[<-HTL.o,Uc];have:=Ih R.edges (wpos N.ways r.to) R.edges.length;unfold Y7;omega
 subst hte
 clear k0 k1 k2 k3 k4 k5 k6 k7 k8 kf htl HOuf HOut HLF HLT HFL
 have kv:=(BL.o.next HX1w3.o).c 4 rfl
 have HCH:Z (U4 N R.nodes R.edges r=if r.via then Ve R.edges (Vb ((Vf N R.edges r).filter (Vu R.nodes R.edges r.node))) (Vb (Y7 N R.edges r)) else Ve R.edges (Yw N R.edges r r.ways.length) (Vb (Y7 N R.edges r))):=rfl
 cases hvia:r.via
 ·rw[hvia] at kv HCH
  have HCH2:Z (U4 N R.nodes R.edges r=Ve R.edges (Yw N R.edges r r.ways.length) (Vb (Y7 N R.edges r))):=by unfold Z;rw[HCH.o];rfl
  clear HCH hvia
  have HWL:=mh (Q42 HW.o)
  have hlw4:lw<=4:=by rw[<-HWL.o];exact HR.o.len
  go_wp2
  go_loopw [7,11] (λu i wr=>∃k:Nat,k<=lw/\i=iV k/\Z (Js w1.heap.size wr u ((Yw N R.edges r k).map Qp))/\Z (Nx w1 wr)/\Z (Js w1.heap.size wr (sL ta tl tc) ((Vb (Y7 N R.edges r)).map Qp))) (λ_ i _=>lw-(intOf i).toNat)
  case atStart=>exact⟨0,nZ,rfl,HOF,HX1w3,HOT⟩
  clear HOF HOT kv
  obtain⟨k,hkm,rfl,HO,HN,HOT⟩:=hrel
  have HXr:=mh (HX1.o.trans HN.o)
  obtain⟨ga,gc,hge⟩:=HO.o.slice
  generalize hgl:((Yw N R.edges r k).map Qp).length=gl at hge
  subst hge
  have HGG:=Aa HR.o hm k (by rw[HWL.o];exact hkm)
  have HGL:Z ((Yw N R.edges r k).length<=1000000/\∀l∈Yw N R.edges r k,W8 R.edges.length l):=by
   refine⟨?_,λl hl=>(HGG.1 l hl).1⟩
   have h1:=HGG.2
   have h2:2 ^ k<=2 ^ 4:=Nat.pow_le_pow_right (by decide) (by omega)
   omega
  clear hgl HGG
  have kl:=(BL.o.next HN.o).c 6 rfl
  have k0:wr.cell? (aD w.heap.size 0)=some (sL a0 l0 q0):=(BN.o.next HN.o).c 0 rfl
  have k1:wr.cell? (aD w.heap.size 1)=some (sL a1 l1 q1):=(BN.o.next HN.o).c 1 rfl
  have k2:wr.cell? (aD w.heap.size 2)=some (sL a2 l2 q2):=(BN.o.next HN.o).c 2 rfl
  have k3:wr.cell? (aD w.heap.size 3)=some (sL a3 l3 q3):=(BN.o.next HN.o).c 3 rfl
  have k4:wr.cell? (aD w.heap.size 4)=some (iV N.uturn):=(BN.o.next HN.o).c 4 rfl
  have k5:wr.cell? (aD (w.heap.size+1) 0)=some (sL a4 l4 q4):=(BR.o.next HN.o).c 0 rfl
  have k6:wr.cell? (aD (w.heap.size+1) 1)=some (sL a5 l5 q5):=(BR.o.next HN.o).c 1 rfl
  have k7:wr.cell? (aD (w.heap.size+1) 2)=some (sL a6 l6 q6):=(BR.o.next HN.o).c 2 rfl
  have k8:wr.cell? (aD (w.heap.size+1) 3)=some (sL a7 l7 q7):=(BR.o.next HN.o).c 3 rfl
  by_cases hlt:k<lw
  ·have hlt':(k:Int)<lw:=by omega
   have HKW:Z (k<r.ways.length):=by rw[HWL.o];exact hlt
   have HES:Z (Yw N R.edges r (k+1)=Ve R.edges (Yw N R.edges r k) (Jt N R.edges (wpos N.ways (iat r.ways k)))):=A9 HKW.o
   have hway:=HR.o.ways k HKW.o
   have HWP:=mh (Q6u hway)
   have HTG:Z (∀l∈Jt N R.edges (wpos N.ways (iat r.ways k)),W8 R.edges.length l):=λl hl=>(Ee hm (HR.o.th _ HWP.o).1 (HR.o.th _ HWP.o).2 l hl).1
   obtain⟨bw,ow,haw,hbw,hcw⟩:=Uj HW.o HXr.o hlt
   subst haw
   have kw:=hcw
   have HWAY:=mh hway
   clear hcw hway
   generalize iat r.ways k=wid at *
   go_wp2
   go_region_held3 (λw'=>w'.cell? (aD w.heap.size 0)=some (sL a0 l0 q0)/\w'.cell? (aD w.heap.size 1)=some (sL a1 l1 q1)/\w'.cell? (aD w.heap.size 2)=some (sL a2 l2 q2)/\w'.cell? (aD w.heap.size 3)=some (sL a3 l3 q3)/\w'.cell? (aD w.heap.size 4)=some (iV N.uturn)/\w'.cell? (aD (w.heap.size+1) 0)=some (sL a4 l4 q4)/\w'.cell? (aD (w.heap.size+1) 1)=some (sL a5 l5 q5)/\w'.cell? (aD (w.heap.size+1) 2)=some (sL a6 l6 q6)/\w'.cell? (aD (w.heap.size+1) 3)=some (sL a7 l7 q7)/\w'.cell? (aD (w.heap.size+2) 6)=some (sL (some (aD bw ow)) lw qw)/\w'.cell? (aD bw (ow+k))=some (iV wid)) (first|exact⟨Q0 HXc.o k0,Q0 HXc.o k1,Q0 HXc.o k2,Q0 HXc.o k3,Q0 HXc.o k4,Q0 HXc.o k5,Q0 HXc.o k6,Q0 HXc.o k7,Q0 HXc.o k8,Q0 HXc.o kl,Q0 HXc.o kw⟩|exact⟨Q0 HXb.o k0,Q0 HXb.o k1,Q0 HXb.o k2,Q0 HXb.o k3,Q0 HXb.o k4,Q0 HXb.o k5,Q0 HXb.o k6,Q0 HXb.o k7,Q0 HXb.o k8,Q0 HXb.o kl,Q0 HXb.o kw⟩|exact⟨Q0 HXa.o k0,Q0 HXa.o k1,Q0 HXa.o k2,Q0 HXa.o k3,Q0 HXa.o k4,Q0 HXa.o k5,Q0 HXa.o k6,Q0 HXa.o k7,Q0 HXa.o k8,Q0 HXa.o kl,Q0 HXa.o kw⟩|(go_keep;done)) (first|(go_at_call 87;refine(Pe B0 _ _ _ _ _ _ N.ways _ (by exact HNET.o.2.1.next (HXr.o.trans (Below.refl _ _).drew)) HWAY.o).mono ?_;rintro e wa ⟨rfl,hxa⟩;have HXa:Z (Nx wr wa):=(Below.refl _ _).drew.trans hxa;clear hxa)|(go_at_call 83;refine(Zi B0 B _ _ _ _ N _ _ _ _ R _ _ (by exact HNET.o.next (HXr.o.trans HXa.o)) (by exact HROAD.o.next (HXr.o.trans HXa.o)) hm HWP.o).mono ?_;rintro e wb ⟨⟨ub,rfl,hOb⟩,hxb⟩;have HXb:Z (Nx wr wb):=HXa.o.trans hxb;have HOb:Z (Js wa.heap.size wb ub ((Jt N R.edges (wpos N.ways wid)).map Qp)):=hOb;clear hOb hxb)|(go_at_call 108;refine(Kr B w1.heap.size wa.heap.size _ _ _ _ _ _ R (Yw N R.edges r k) (Jt N R.edges (wpos N.ways wid)) _ (by exact HROAD.o.next (HXr.o.trans HXb.o)) hm (by exact(HO.o.next HXb.o).held) (by exact HOb.o.held) HGL.o.2 HTG.o HGL.o.1 (by have:=Pl N R.edges (wpos N.ways wid);omega)).mono ?_;rintro e wc ⟨⟨uc,rfl,hOc⟩,hxc⟩;have HXc:Z (Nx wr wc):=HXb.o.trans hxc;have HOc:Z (Js w1.heap.size wc uc ((Yw N R.edges r (k+1)).map Qp)):=(by rw[HES.o];exact hOc.base (by have:=HN.o.size;have:=HXb.o.size;omega));clear hOc hxc))
   all_goals
    clear k0 k1 k2 k3 k4 k5 k6 k7 k8 kl kw
    go_wp2
    go_roundw
    case rel=>exact⟨k+1,by omega,by go_num,HOc,HN.o.trans HXc.o,HOT.o.next HXc.o⟩
    case measure=>simp[intOf];omega
  ·have ek:lw=k:=by omega
   subst ek
   have HF:Z (Ve R.edges (Yw N R.edges r lw) (Vb (Y7 N R.edges r))=U4 N R.nodes R.edges r):=by unfold Z;rw[HCH2.o,HWL.o]
   clear hlt hkm
   go_wp2_with fail
   refine(Kr B w1.heap.size w1.heap.size _ _ _ _ _ _ R (Yw N R.edges r lw) (Vb (Y7 N R.edges r)) _ (by exact HROAD.o.next HXr.o) hm (by exact HO.o.held) (by exact HOT.o.held) HGL.o.2 (λl hl=>Gj l hl) HGL.o.1 (by rw[HTL.o];omega)).mono ?_
   rintro e wc ⟨⟨uc,rfl,hOc⟩,hxc⟩
   rw[HF.o] at hOc
   have HOc:=mh (hOc.base (HXr.o.size))
   have HXc:=mh (HXr.o.trans hxc)
   clear hOc hxc k0 k1 k2 k3 k4 k5 k6 k7 k8 kl
   go_wp2
   go_ret
   exact⟨⟨_,rfl,HOc.o⟩,HXc.o⟩
 ·rw[hvia] at kv HCH
  have HCH2:Z (U4 N R.nodes R.edges r=Ve R.edges (Vb ((Vf N R.edges r).filter (Vu R.nodes R.edges r.node))) (Vb (Y7 N R.edges r))):=by unfold Z;rw[HCH.o];rfl
  clear HCH hvia
  have HFM:Z (∀k,k<fl->(Vf N R.edges r).getD k 0<R.edges.length):=λk hk=>by
   have hk':k<(Vf N R.edges r).length:=by have:=HFLS.o;rw[Uc] at this;omega
   have e:(Vf N R.edges r).getD k 0=(Vf N R.edges r)[k]:=by simp[List.getD_eq_getElem?_getD,hk']
   rw[e]
   have:=yH hk'
   unfold Vf Zg at this
   exact List.mem_range.1 (List.mem_filter.1 this).1
  have HFN:Z ((Vf N R.edges r).length=fl):=by have:=HFLS.o;rw[Uc] at this;exact this
  generalize Vf N R.edges r=F at *
  go_wp2
  go_loopw [9,10] (λu i wr=>∃k:Nat,k<=fl/\i=iV k/\Z (Al w3.heap.size w1.heap.size wr u ((Vb ((F.take k).filter (Vu R.nodes R.edges r.node))).map Qp))/\Z (Nx w3 wr)) (λ_ i _=>fl-(intOf i).toNat)
  case atStart=>exact⟨0,nZ,rfl,Q92 w1.heap.size w3,Qe _ _⟩
  clear kv
  obtain⟨k,hkm,rfl,HO,HN3⟩:=hrel
  have HN:=mh (HX1w3.o.trans HN3.o)
  have HXr:=mh (HX1.o.trans HN.o)
  have HOFr:=mh (HOF.o.next HN3.o)
  have HOTr:=mh (HOT.o.next HN3.o)
  have k0:wr.cell? (aD w.heap.size 0)=some (sL a0 l0 q0):=(BN.o.next HN.o).c 0 rfl
  have k1:wr.cell? (aD w.heap.size 1)=some (sL a1 l1 q1):=(BN.o.next HN.o).c 1 rfl
  have k2:wr.cell? (aD w.heap.size 2)=some (sL a2 l2 q2):=(BN.o.next HN.o).c 2 rfl
  have k3:wr.cell? (aD w.heap.size 3)=some (sL a3 l3 q3):=(BN.o.next HN.o).c 3 rfl
  have k4:wr.cell? (aD w.heap.size 4)=some (iV N.uturn):=(BN.o.next HN.o).c 4 rfl
  have k5:wr.cell? (aD (w.heap.size+1) 0)=some (sL a4 l4 q4):=(BR.o.next HN.o).c 0 rfl
  have k6:wr.cell? (aD (w.heap.size+1) 1)=some (sL a5 l5 q5):=(BR.o.next HN.o).c 1 rfl
  have k7:wr.cell? (aD (w.heap.size+1) 2)=some (sL a6 l6 q6):=(BR.o.next HN.o).c 2 rfl
  have k8:wr.cell? (aD (w.heap.size+1) 3)=some (sL a7 l7 q7):=(BR.o.next HN.o).c 3 rfl
  by_cases hlt:k<fl
  case neg=>
   have ek:fl=k:=by omega
   subst ek
   have HO:=HO.o.own HX1w3.o.size
   have HO:=mh HO
   obtain⟨ua,uc,hue⟩:=HO.o.slice
   generalize hul:((Vb ((F.take fl).filter (Vu R.nodes R.edges r.node))).map Qp).length=ul at hue
   subst hue
   have HTA:Z (F.take fl=F):=by unfold Z;rw[<-HFN.o,zR]
   have HUL:Z ((Vb ((F.take fl).filter (Vu R.nodes R.edges r.node))).length<=1000000/\∀l∈Vb ((F.take fl).filter (Vu R.nodes R.edges r.node)),W8 R.edges.length l):=by
    rw[HTA.o]
    refine⟨?_,λl hl=>?_⟩
    ·rw[Uc]
     have:=zW (Vu R.nodes R.edges r.node) F
     have:=HFN.o
     omega
    ·obtain⟨e,he,rfl⟩:=List.mem_map.1 hl
     refine⟨by simp,by simp,λx hx=>?_⟩
     have hxe:x=e:=by simpa using hx
     subst hxe
     obtain⟨j,hj,hje⟩:=List.mem_iff_getElem.1 (List.mem_filter.1 he).1
     have:=HFM.o j (by rw[<-HFN.o];exact hj)
     rw[show F.getD j 0=F[j] by simp[List.getD_eq_getElem?_getD,hj],hje] at this
     exact this
   have HF:Z (Ve R.edges (Vb ((F.take fl).filter (Vu R.nodes R.edges r.node))) (Vb (Y7 N R.edges r))=U4 N R.nodes R.edges r):=by unfold Z;rw[HCH2.o,HTA.o]
   clear hlt hkm hul
   go_wp2_with fail
   refine(Kr B w1.heap.size w1.heap.size _ _ _ _ _ _ R _ (Vb (Y7 N R.edges r)) _ (by exact HROAD.o.next HXr.o) hm (by exact HO.o.held) (by exact HOTr.o.held) HUL.o.2 (λl hl=>Gj l hl) HUL.o.1 (by rw[HTL.o];omega)).mono ?_
   rintro e wc ⟨⟨uc,rfl,hOc⟩,hxc⟩
   rw[HF.o] at hOc
   have HOc:=mh (hOc.base (HXr.o.size))
   have HXc:=mh (HXr.o.trans hxc)
   clear hOc hxc k0 k1 k2 k3 k4 k5 k6 k7 k8
   go_wp2
   go_ret
   exact⟨⟨_,rfl,HOc.o⟩,HXc.o⟩
  have hlt':(k:Int)<fl:=by omega
  have HKF:Z (k<F.length):=by rw[HFN.o];exact hlt
  have HFE:=HFM.o k hlt
  have HYES:Z (Vu R.nodes R.edges r.node (F.getD k 0)=true->(Vb ((F.take (k+1)).filter (Vu R.nodes R.edges r.node))).map Qp=(Vb ((F.take k).filter (Vu R.nodes R.edges r.node))).map Qp++[[((F.getD k 0:Nat):Int)]]):=λh=>Qbx HKF.o h
  have HNO:Z (Vu R.nodes R.edges r.node (F.getD k 0)=false->(F.take (k+1)).filter (Vu R.nodes R.edges r.node)=(F.take k).filter (Vu R.nodes R.edges r.node)):=λh=>Qe3 HKF.o h
  obtain⟨gf,uk,hfa,hck,hOk⟩:=HOFr.o.at (i:=k) (by rw[zF,Uc];exact HKF.o)
  rw[Qdc HKF.o] at hOk
  subst hfa
  have HOK:=mh hOk
  obtain⟨wa,wcp,hue⟩:=hOk.slice
  simp only[List.length_singleton] at hue
  subst hue
  obtain⟨gw,hwa,hc0⟩:∃gw,wa=some (aD gw 0)/\wr.cell? (aD gw 0)=some (iV ((F.getD k 0:Nat):Int)):=by
   rcases hOk.opened with⟨e,h2⟩|⟨g,cap,e,_,_,hr⟩
   ·simp at h2
   ·simp only[zC] at e
    exact⟨g,e.1,hr.cell (i:=0) (by simp)⟩
  subst hwa
  obtain⟨ez,be,oe,ha5,hbe,hce⟩:=Jw.at' HROAD.o.2.1 (by omega)
  subst ha5
  have z1:=(hce _ HFE).2.1
  have hh:=HR.o.hd _ HFE
  have HAT:Z (Vu R.nodes R.edges r.node (F.getD k 0)=decide (iat R.nodes (eat R.edges (F.getD k 0)).head.toNat=r.node)):=rfl
  generalize F.getD k 0=fe at *
  obtain⟨hn,hhn⟩:∃hn:Nat,(eat R.edges fe).head=(hn:Int):=⟨(eat R.edges fe).head.toNat,by omega⟩
  rw[hhn] at z1 HAT hh
  rw[zU] at HAT
  have HNL:=mh (Q42 HROAD.o.1)
  have hn4:hn<l4:=by have:=HNL.o;omega
  obtain⟨bn,on,ha4,hbn,hcn⟩:=Uj HROAD.o.1 HXr.o hn4
  subst ha4
  have hm5:(fe:Int)<l5:=by omega
  have hn4':(hn:Int)<l4:=by omega
  have a1:=Q0 HXr.o z1
  have kn:=(BL.o.next HN.o).c 5 rfl
  clear hce z1 hh ez hhn hOk
  generalize iat R.nodes hn=nd at *
  by_cases hat:nd=r.node
  case neg=>
   have g1:(nd==r.node)=false:=by simpa using hat
   have HE2:=HNO.o (by rw[HAT.o];simpa using hat)
   have HE3:=mh HE2
   clear hat HE2
   go_upto_region 8 with fail
   go_quiet (fail)
   have HDQ:Z (Nx wr (wr.drewN nq)):=J3 _ _
   generalize wr.drewN nq=wq at *
   clear k0 k1 k2 k3 k4 k5 k6 k7 k8 a1 kn hcn hc0 hck
   go_wp2
   go_roundw
   case rel=>exact⟨k+1,by omega,by go_num,by rw[HE3.o];exact HO.o.next HDQ.o,HN3.o.trans HDQ.o⟩
   case measure=>simp[intOf];omega
  have g1:(nd==r.node)=true:=by simpa using hat
  have HES:=mh (HYES.o (by rw[HAT.o];simpa using hat))
  have HLN:Z (((Vb ((F.take k).filter (Vu R.nodes R.edges r.node))).map Qp).length<=4000):=by
   unfold Z
   rw[zF,Uc]
   have:=zW (Vu R.nodes R.edges r.node) (F.take k)
   rw[zX] at this
   omega
  clear hat
  go_upto_region 8 with fail
  go_quiet (fail)
  have HDQ:Z (Nx wr (wr.drewN nq)):=J3 _ _
  generalize wr.drewN nq=wq at *
  have hckq:=Q0 HDQ.o hck
  have HOKq:=mh (HOK.o.next HDQ.o)
  have HOq:=mh (HO.o.next HDQ.o)
  have HNq:=mh (HN.o.trans HDQ.o)
  have HN3q:=mh (HN3.o.trans HDQ.o)
  clear k0 k1 k2 k3 k4 k5 k6 k7 k8 a1 kn hcn hc0 hck HOK HO
  generalize (Vb ((F.take k).filter (Vu R.nodes R.edges r.node))).map Qp=ws at *
  obtain⟨cs,hrow,hwords⟩:=HOq.o
  have HROW:=mh hrow
  have HWD:=mh hwords
  obtain⟨ua,uc,hue⟩:=(HOq.o.own HX1w3.o.size).slice
  subst hue
  generalize hwl:ws.length=wl at *
  have HWL2:=mh hwl
  have hwl4:=HLN.o
  have HSQ:=mh HN3q.o.size
  clear hrow hwords hwl
  go_wp2_with (at_builtin;refine wpList_append_own_at _ rfl _ _ 107 rfl w3.heap.size 143 ii (.agg #[sN]) 1 24 underlying107 hi hz0 hz1 hz2 rfl (by decide) _ _ _ rfl (zB HROW.o _) (aD wq.heap.size 0) 1 1 [sL (sA gw) 1 wcp] rfl rfl ?e1 ?e2 ?e3 ?e4 ?e5 ?_)
  case e1=>intro j u hj;exact Qn _ _ _ _ rfl j u hj
  case e2=>intro u hu;simp at hu;subst hu;rfl
  case e3=>unfold maxLen;omega
  case e4=>omega
  case e5=>rw[Q1];have:=HSQ.o;omega
  intro v7 w7 hown hgrow _ hat7
  have HO7:Z (Al w3.heap.size w1.heap.size w7 v7 ((Vb ((F.take (k+1)).filter (Vu R.nodes R.edges r.node))).map Qp)):=by rw[HES.o];exact Al.snoc (by rw[HWL2.o];exact HROW.o) (λi hi=>HWD.o i (by rw[<-HWL2.o];exact hi)) HOKq.o _ hgrow (by rw[HWL2.o];exact hown)
  have HN7:Z (Nx w3 w7):=Below.grown (HN3q.o.alloc _) hgrow (by rw[Q1];have:=HSQ.o;omega) (λg hg=>(Q7 HROW.o g hg).1)
  clear hown hgrow hat7 hckq
  go_wp2
  go_roundw
  case rel=>exact⟨k+1,by omega,by go_num,HO7,HN7⟩
  case measure=>simp[intOf];omega
structure Ru where
 rel:Int
 only:Bool
 seq:List Int
structure Dp where
 rel:Int
 reason:Int
structure Rs where
 rules:List Ru
 drops:List Dp
def Zr (xs:List Ru)(i:Nat):Ru:=xs.getD i ⟨0,false,[]⟩
theorem Q76 {xs:List Ru}(h:i<xs.length):Zr xs i=xs[i]:=by simp[Zr,List.getD,h]
def rpt (rules:List Ru)(only:Bool)(seq:List Int):Bool:=rules.any λu=>u.only==only&&decide (u.seq=seq)
def reason (rules:List Ru)(only:Bool)(ch:List (List Nat)):Int:=
 if ch.length=0 then 1 else if 1<ch.length then 2 else if rpt rules only (Qp (Xz ch 0)) then 3 else 0
def Zo (S:Rs)(r:Rl)(ch:List (List Nat)):Rs:=
 if reason S.rules r.only ch=0 then ⟨S.rules++[⟨r.id,r.only,Qp (Xz ch 0)⟩],S.drops⟩ else ⟨S.rules,S.drops++[⟨r.id,reason S.rules r.only ch⟩]⟩
def Xx (ch:Rl->List (List Nat))(rels:List Rl):Nat->Rs
 |0=>⟨[],[]⟩
 |k+1=>Zo (Xx ch rels k) (rat rels k) (ch (rat rels k))
theorem Q8w (ch:Rl->List (List Nat))(rels:List Rl)(k:Nat):(Xx ch rels k).rules.length<=k/\(Xx ch rels k).drops.length<=k:=by
 induction k with
 |zero=>simp[Xx]
 |succ k ih=>
  show(Zo _ _ _).rules.length<=_/\(Zo _ _ _).drops.length<=_
  unfold Zo
  split
  ·simp;omega
  ·simp;omega
theorem Qbi:(prog.info? 156).map (λi=>(i.zero,i.size,i.bytes))=some (some (.agg #[iV 0,.bool false,sN]),3,40):=by kernel_rfl
theorem Qbl:(prog.info? 159).map (λi=>(i.zero,i.size,i.bytes))=some (some (.agg #[iV 0,iV 0]),2,16):=by kernel_rfl
def Qam (x:Ru×Value):List Value:=[iV x.1.rel,.bool x.1.only,x.2]
def Wc (xs:List Ru)(vs:List Value):List Value:=(xs.zip vs).flatMap Qam
def Uo (C D:Nat)(w:World)(v:Value)(xs:List Ru):Prop:=
 ∃vs:List Value,vs.length=xs.length/\w.ownsRow C 156 3 v xs.length (Wc xs vs)/\∀i,i<xs.length->Q5 D w (vat vs i) (Zr xs i).seq
def Gw (xs:List Dp):List Value:=xs.flatMap λx=>[iV x.rel,iV x.reason]
def Am (C:Nat)(w:World)(v:Value)(xs:List Dp):Prop:=w.ownsRow C 159 2 v xs.length (Gw xs)
theorem Vc {ty sz:Nat}(h:w.ownsRow C ty sz v n xs)(k:Nx w w'):w'.ownsRow C ty sz v n xs:=by
 obtain⟨h1,h2⟩:=h
 refine⟨h1,?_⟩
 rcases h2 with h2|⟨g,cap,cur,hv,hg,hh,r⟩
 ·exact oL h2
 ·exact oR ⟨g,cap,cur,hv,hg,(k.block g (Array.getElem?_eq_some_iff.1 hh).1).trans hh,r⟩
theorem Qd {ty sz:Nat}(h:w.ownsRow C ty sz v n xs):∃a c,v=sL a n c:=by
 rcases h.2 with⟨rfl,h2⟩|⟨g,cap,cur,rfl,_⟩
 ·exact⟨none,0,by rw[h2]⟩
 ·exact⟨_,_,rfl⟩
theorem Uo.next {xs:List Ru}(h:Uo C D w v xs)(k:Nx w w'):Uo C D w' v xs:=by
 obtain⟨vs,h1,h2,h3⟩:=h
 exact⟨vs,h1,Vc h2 k,λi hi=>(h3 i hi).next k⟩
theorem Am.next {xs:List Dp}(h:Am C w v xs)(k:Nx w w'):Am C w' v xs:=Vc h k
theorem Q3e {xs:List Ru}{vs:List Value}(h:vs.length=xs.length)(x:Ru)(u:Value):Wc (xs++[x]) (vs++[u])=Wc xs vs++[iV x.rel,.bool x.only,u]:=by
 unfold Wc
 rw[List.zip_append h.symm,List.flatMap_append]
 rfl
theorem Q8s {xs:List Ru}{x:Ru}(h:i<xs.length):Zr (xs++[x]) i=Zr xs i:=by simp[Zr,List.getD,List.getElem?_append_left h]
theorem Qah {xs:List Ru}{x:Ru}(h:i=xs.length):Zr (xs++[x]) i=x:=by subst h;simp[Zr,List.getD]
theorem Uo.snoc {xs:List Ru}{x:Ru}{vs:List Value}(h0:vs.length=xs.length)(h1:w.ownsRow C 156 3 v xs.length (Wc xs vs))(h2:∀i,i<xs.length->Q5 D w (vat vs i) (Zr xs i).seq)
  (hu:Q5 D w u x.seq) (ho:Obj) (hg:(w.alloc ho).grownBy w' v.ownBlock) (hn:w'.ownsRow C 156 3 v' (xs.length+1) (Wc xs vs++[iV x.rel,.bool x.only,u])):Uo C D w' v' (xs++[x]):=by
 have kept:∀{z:Value}{zs:List Int},Q5 D w z zs->Q5 D w' z zs:=λ{z zs} hz=>zL (zB hz ho) hg (Yr hz h1 (by decide))
 refine⟨vs++[u],by simp[h0],by rw[zA,Q3e h0];exact hn,λi hi=>?_⟩
 rw[zA,List.length_singleton] at hi
 by_cases e:i<xs.length
 ·rw[Q8s e]
  have:vat (vs++[u]) i=vat vs i:=by simp[vat,List.getD,List.getElem?_append_left (show i<vs.length by omega)]
  rw[this]
  exact kept (h2 i e)
 ·have e':i=xs.length:=by omega
  rw[Qah e']
  have:vat (vs++[u]) i=u:=by rw[e',<-h0];simp[vat,List.getD]
  rw[this]
  exact kept hu
theorem Q4h (xs:List Dp)(x:Dp):Gw (xs++[x])=Gw xs++[iV x.rel,iV x.reason]:=by simp[Gw]
theorem Am.snoc {xs:List Dp}{x:Dp}(h:w.ownsRow C 159 2 v (xs.length+1) (Gw xs++[iV x.rel,iV x.reason])):Am C w v (xs++[x]):=by
 unfold Am
 rw[zA,Q4h]
 exact h
theorem flat3 {α:Type}(l:List α)(f:α->List Value)(hf:∀x,(f x).length=3)(i q:Nat)(hq:q<3)(x:α)(hx:l[i]?=some x):(l.flatMap f)[i*3+q]?=(f x)[q]?:=by
 induction l generalizing i with
 |nil=>simp at hx
 |cons a l ih=>
  cases i with
  |zero=>
   have:a=x:=by simpa using hx
   subst this
   rw[List.flatMap_cons,Nat.zero_mul,Nat.zero_add,zT (by rw[hf];exact hq)]
  |succ i=>
   rw[List.flatMap_cons,yA (by rw[hf];omega),hf,show(i+1)*3+q-3=i*3+q by omega]
   exact ih i (by simpa using hx)
theorem Uo.at {xs:List Ru}(h:Uo C D w (sL a n c) xs)(hi:i<xs.length):∃g u,a=some (aD g 0)/\w.cell? (aD g (i*3))=some (iV (Zr xs i).rel)/\w.cell? (aD g (i*3+1))=some (.bool (Zr xs i).only)/\w.cell? (aD g (i*3+2))=some u/\Q5 D w u (Zr xs i).seq:=by
 obtain⟨vs,h0,h1,h2⟩:=h
 obtain⟨h3,h4⟩:=h1
 rcases h4 with⟨_,h4⟩|⟨g,cap,cur,e,hg,hh,hc,hm,hs,ht⟩
 ·omega
 ·simp only[zC] at e
  have hz:(xs.zip vs)[i]?=some (Zr xs i,vat vs i):=by
   rw[List.getElem?_zip_eq_some]
   exact⟨by rw[Q76 hi];exact zH hi,by simp[vat,List.getD,List.getElem?_eq_getElem (show i<vs.length by omega)]⟩
  have key:∀q,q<3->w.cell? (aD g (i*3+q))=(Qam (Zr xs i,vat vs i))[q]?:=λq hq=>by
   have e1:(cur.toList.take (xs.length*3))[i*3+q]?=(Wc xs vs)[i*3+q]?:=by rw[ht]
   rw[zQ (by omega),zN] at e1
   have e2:=flat3 (xs.zip vs) Qam (λ_=>rfl) i q hq _ hz
   unfold Wc at e1
   rw[e2] at e1
   have hlt:i*3+q<cur.size:=by omega
   simp only[World.cell?,hh,e1]
   rfl
  exact⟨g,vat vs i,e.1,key 0 (by omega),key 1 (by omega),key 2 (by omega),h2 i hi⟩
end Go.Proofs.YtphiaobccollhaaGreat
