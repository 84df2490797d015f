import Derived.Test.YtphiaobccollhaaGreatQRoA
import Derived.Test.YtphiaobccollhaaGreatQImA
import Derived.Test.YtphiaobccollhaaGreatQToA
import Derived.OwnWalk
import Derived.Lib.OthersKept
import Derived.Lib.SliceRun
namespace Go.Proofs.YtphiaobccollhaaGreat
open Go.RowKit Tryz
set_option linter.unusedVariables false
set_option maxRecDepth 1000000
set_option maxHeartbeats 16000000
variable {es:List Eg}{B b g i n:Nat}{a w w':World}{v:Value}{cs:Array Value}{zs:List Int}{F:Nat->Int}
theorem Qbk:(prog.info? 117).map (λi=>(i.zero,i.size,i.bytes))=some (some (.agg #[iV 0,iV 0,iV 0,iV 0,iV 0,.bool false,iV 0]),7,56):=by kernel_rfl
def Ya (x:Eg):List Value:=[iV x.tail,iV x.head,iV x.weight,iV x.way,iV x.seg,.bool x.back,iV x.twin]
def Yx (es:List Eg):List Value:=es.flatMap Ya
theorem Q13 {q:Nat}(hi:i<es.length)(hq:q<7):(Yx es)[i*7+q]?=(Ya (eat es i))[q]?:=by
 induction es generalizing i with
 |nil=>simp at hi
 |cons x es ih=>
  have hl:(Ya x).length=7:=rfl
  match i with
  |0=>
   rw[Yx,List.flatMap_cons,zT (by omega)]
   simp[eat]
  |i+1=>
   rw[Yx,List.flatMap_cons,yA (by omega),hl,show(i+1)*7+q-7=i*7+q by omega]
   have:=ih (i:=i) (by simpa using hi)
   rw[Yx] at this
   rw[this]
   simp[eat]
theorem Q04 (es fs:List Eg):Yx (es++fs)=Yx es++Yx fs:=by simp[Yx]
def Yz (B:Nat)(w:World)(v:Value)(es:List Eg):Prop:=w.ownsRow B 117 7 v es.length (Yx es)
def Ge (B:Nat)(w w':World):Prop:=Below B w w'/\Lib.OthersKept 117 none w w'
theorem Ge.refl (B:Nat)(w:World):Ge B w w:=⟨Below.refl _ _,Lib.OthersKept.refl _ _ _⟩
theorem Ge.trans {b c:World}(h:Ge B a b)(k:Ge B b c):Ge B a c:=⟨h.1.trans k.1,h.2.trans k.2⟩
theorem Ge.alloc (h:Ge B a w)(hB:B<=w.heap.size)(o:Obj):Ge B a (w.alloc o):=⟨h.1.alloc hB o,h.2.alloc o⟩
theorem Ge.of_nx (h:Nx w w')(hB:B<=w.heap.size):Ge B w w':=
 ⟨Below.mono h hB,λk o hk _ _=>(h.block k (Array.getElem?_eq_some_iff.1 hk).1).trans hk⟩
theorem Qaw (h:Yz B w v es):∀g,v.ownBlock=some g->∃c fz,w.heap[g]?=some (.cells c 117 fz):=by
 intro g hg
 rcases h.2 with⟨rfl,_⟩|⟨g',cap,cur,rfl,_,hh,_⟩
 ·simp[Value.ownBlock] at hg
 ·simp[Value.ownBlock] at hg;subst hg;exact⟨_,_,hh⟩
theorem Ge.grown (h:Ge B a w)(hown:Yz B w v es)(hg:w.grownBy w' v.ownBlock)(hB:B<=w.heap.size):Ge B a w':=by
 refine⟨h.1.grown hg hB (λk hk=>(World.ownsRow.lt hown k hk).1),h.2.trans ?_⟩
 intro k o hk hb ho
 have hlt:=(Array.getElem?_eq_some_iff.1 hk).1
 rw[hg.block k hlt (λe=>by
  obtain⟨c,fz,hh⟩:=Qaw hown k e.symm
  rw[hk] at hh
  exact ho c fz (by simpa using hh))]
 exact hk
theorem Yz.alloc (h:Yz B w v es)(o:Obj):Yz B (w.alloc o) v es:=zB h o
theorem Yz.next (h:Yz B w v es)(k:Nx w w'):Yz B w' v es:=by
 obtain⟨h1,h2⟩:=h
 refine⟨h1,?_⟩
 rcases h2 with h2|⟨g,cap,cur,hv,hg,hh,r⟩
 ·exact oL h2
 ·exact oR ⟨g,cap,cur,hv,hg,(k.block g (Array.getElem?_eq_some_iff.1 hh).1).trans hh,r⟩
theorem Yz.one {x:Eg}(h:w.ownsRow B 117 7 v (es.length+1) (Yx es++Ya x)):Yz B w v (es++[x]):=by
 unfold Yz
 rw[zA,Q04]
 simpa [Yx] using h
def G7 (w:World)(b:Nat)(cs:Array Value):Prop:=∃t,t≠117/\w.heap[b]?=some (.cells cs t (0,0))
theorem G7.blk (h:G7 w b cs):Blk w b cs:=by obtain⟨t,_,h⟩:=h;exact⟨t,h⟩
theorem G7.c (h:G7 w b cs)(i:Nat)(hi:cs[i]?=some v):w.cell? ⟨b,i,none⟩=some v:=h.blk.cell hi
theorem G7.keep (h:G7 w b cs)(k:Ge B w w'):G7 w' b cs:=by
 obtain⟨t,ht,h⟩:=h
 exact⟨t,ht,k.2 b _ h (by simp) (λc' fz' e=>ht (by simp at e;exact e.2.1))⟩
theorem G7.new (w:World)(cs:Array Value)(t n:Nat)(ht:t≠117)(hn:n=w.heap.size):G7 (w.alloc (.cells cs t)) n cs:=by
 subst hn
 exact⟨t,ht,by show(w.heap.push _)[w.heap.size]?=_;simp⟩
def Kl (w:World)(b o:Nat)(x:Eg):Prop:=
 w.cell? (aD b o)=some (iV x.tail)/\w.cell? (aD b (o+1))=some (iV x.head)/\w.cell? (aD b (o+2))=some (iV x.weight)/\w.cell? (aD b (o+3))=some (iV x.way) /\
  w.cell? (aD b (o+4))=some (iV x.seg)/\w.cell? (aD b (o+5))=some (.bool x.back)/\w.cell? (aD b (o+6))=some (iV x.twin)
def Jw (B:Nat)(w:World)(v:Value)(es:List Eg):Prop:=Jn B w v es.length λb off i=>Kl w b (off+i*7) (eat es i)
theorem Kl.keep {o:Nat}{x:Eg}(h:Kl w b o x)(k:Ym B w w')(hB:B<=b)(hs:b<w.heap.size):Kl w' b o x:=by
 obtain⟨h0,h1,h2,h3,h4,h5,h6⟩:=h
 exact⟨(k.2 b hB hs _).trans h0,(k.2 b hB hs _).trans h1,(k.2 b hB hs _).trans h2,(k.2 b hB hs _).trans h3,(k.2 b hB hs _).trans h4,(k.2 b hB hs _).trans h5,(k.2 b hB hs _).trans h6⟩
theorem Jw.keep (h:Jw B w v es)(k:Ym B w w'):Jw B w' v es:=
 Jn.mono h lR k.1 λb off hb hs i hi hc=>hc.keep k hb hs
theorem Jw.next (h:Jw B w v es)(k:Nx w w'):Jw B w' v es:=h.keep (k.keeps B)
theorem Yz.held (h:Yz B w v es):Jw B w v es:=by
 obtain⟨h1,h2⟩:=h
 rcases h2 with⟨rfl,h2⟩|⟨g,cap,cur,rfl,hg,hh,hc,hm,hs,ht⟩
 ·unfold Jw
  rw[h2]
  exact⟨_,_,rfl,by simp[maxLen],λh=>by omega⟩
 ·refine⟨_,_,rfl,by omega,λh0=>⟨g,0,rfl,hg,(Array.getElem?_eq_some_iff.1 hh).1,λi hi=>?_⟩⟩
  have e:∀q v,q<7->(Ya (eat es i))[q]?=some v->w.cell? (aD g (0+i*7+q))=some v:=by
   intro q v hq hv
   have h3:(cur.toList.take (es.length*7))[i*7+q]?=(Yx es)[i*7+q]?:=by rw[ht]
   rw[zQ (by omega),Q13 hi hq,hv] at h3
   unfold World.cell?
   simp only[hh]
   rw[zN] at h3
   simpa using h3
  exact⟨e 0 _ (by omega) rfl,e 1 _ (by omega) rfl,e 2 _ (by omega) rfl,e 3 _ (by omega) rfl,e 4 _ (by omega) rfl,e 5 _ (by omega) rfl,e 6 _ (by omega) rfl⟩
theorem Q26 {t:Int}(h:Ta zs t=true):∃i,i<zs.length/\iat zs i=t:=by
 unfold Ta at h
 rw[List.any_eq_true] at h
 obtain⟨y,hy,e⟩:=h
 obtain⟨i,hi,rfl⟩:=List.getElem_of_mem hy
 exact⟨i,hi,by rw[V5 hi];simpa using e⟩
theorem Zp:(prog.info? 2).map (λi=>(i.zero,i.size,i.bytes))=some (some (iV 0),1,8):=by kernel_rfl
def RW (w:World)(g n:Nat)(F:Nat->Int):Prop:=∃c:Array Value,w.heap[g]?=some (.cells c 2 (0,0))/\n<=c.size/\∀i,i<n->c[i]?=some (iV (F i))
theorem RW.lt (h:RW w g n F):g<w.heap.size:=by
 obtain⟨c,h1,_⟩:=h
 exact(Array.getElem?_eq_some_iff.1 h1).1
theorem RW.cell (h:RW w g n F)(hi:i<n):w.cell? (aD g i)=some (iV (F i)):=by
 obtain⟨c,hb,_,hc⟩:=h
 simp[World.cell?,hb,hc i hi]
theorem RW.held {c:Nat}(h:RW w g n F)(hz:zs.length=n)(hm:n<=maxLen)(he:∀i,i<n->F i=iat zs i)(hB:B<=g):Qi B w (sL (sA g) n c) zs:=by
 subst hz
 refine⟨_,_,rfl,hm,λh0=>⟨g,0,rfl,hB,h.lt,λi hi=>?_⟩⟩
 show w.cell? (aD g (0+i))=_
 rw[Nat.zero_add,h.cell hi,he i hi]
def J0 (zs:List Int):List Value:=zs.map λz=>iV z
def Q5 (C:Nat)(w:World)(v:Value)(zs:List Int):Prop:=w.ownsRow C 2 1 v zs.length (J0 zs)
theorem Q5.next (h:Q5 B w v zs)(k:Nx w w'):Q5 B w' v zs:=by
 obtain⟨h1,h2⟩:=h
 refine⟨h1,?_⟩
 rcases h2 with h2|⟨g,cap,cur,hv,hg,hh,r⟩
 ·exact oL h2
 ·exact oR ⟨g,cap,cur,hv,hg,(k.block g (Array.getElem?_eq_some_iff.1 hh).1).trans hh,r⟩
theorem Pt (hi:i<zs.length):(J0 zs)[i]?=some (iV (iat zs i)):=by rw[V5 hi];simp[J0,hi]
theorem Q5.opened (h:Q5 B w v zs):(v=sN/\zs.length=0)\/∃g cap,v=sL (sA g) zs.length cap/\B<=g/\zs.length<=maxLen/\RW w g zs.length (iat zs):=by
 obtain⟨h1,h2⟩:=h
 rcases h2 with⟨h2,h3⟩|⟨g,cap,cur,hv,hg,hh,hc,hm,hs,ht⟩
 ·exact oL ⟨h2,h3⟩
 ·refine oR ⟨g,cap,hv,hg,by omega,cur,hh,by omega,λi hi=>?_⟩
  have e:(cur.toList.take (zs.length*1))[i]?=(J0 zs)[i]?:=by rw[ht]
  rw[zQ (by omega),Pt hi] at e
  rw[<-zN,e]
theorem Q5.held (h:Q5 B w v zs):Qi B w v zs:=by
 rcases h.opened with⟨rfl,h2⟩|⟨g,cap,rfl,hg,hm,hr⟩
 ·unfold Qi
  rw[h2]
  exact⟨_,_,rfl,by simp[maxLen],λh=>by omega⟩
 ·exact hr.held rfl hm (λi _=>rfl) hg
theorem Vq (B:Nat)(w:World)(h:B<=w.heap.size):Q5 B (w.alloc (.cells #[] 2)) (sL (sA w.heap.size) 0 0) []:=
 ⟨rfl,.inr ⟨w.heap.size,0,#[],rfl,h,by show(w.heap.push _)[w.heap.size]?=_;simp,lR,by simp[maxLen],by simp,by simp[J0]⟩⟩
def tlE (es:List Eg)(e:Nat):Nat:=(eat es e).tail.toNat
def F1 (tl:Nat->Nat)(k q:Nat):Int:=if q=0 then 0 else (cE tl (q-1) k:Nat)
def F2 (tl:Nat->Nat)(m p q:Nat):Int:=if q<=p then (cL tl q m:Nat) else F1 tl m q
def F3 (tl:Nat->Nat)(m k p:Nat):Int:=((cL tl p m+cE tl p k:Nat):Int)
structure Xt (o:Option Nat)(w w':World):Prop where
 os:w'.os=w.os
 tape:w'.tape=w.tape
 output:w'.output=w.output
 size:w.heap.size<=w'.heap.size
 block:∀b,b<w.heap.size->some b≠o->w'.heap[b]?=w.heap[b]?
theorem Xt.refl (o:Option Nat)(w:World):Xt o w w:=⟨rfl,rfl,rfl,lR,λ_ _ _=>rfl⟩
theorem Xt.set {o:Option Nat}(h:Xt o w w')(hg:o=some g)(u:Value):Xt o w (w'.setCell (aD g i) u):=
 ⟨h.os,h.tape,h.output,by simpa [World.setCell] using h.size,λb hb hn=>(Below.heap_setCell _ _ _ _ (λe=>hn (by rw[hg,e]))).trans (h.block b hb hn)⟩
theorem Xt.below {o:Option Nat}(h:Xt o w w')(hB:∀g,o=some g->B<=g)(hs:B<=w.heap.size):Below B w w':=
 ⟨h.os,h.tape,h.output,h.size,λk hk=>h.block k (by omega) (λe=>by have:=hB k e.symm;omega)⟩
def RE (w:World)(g n:Nat)(V:Nat->Nat->Value):Prop:=∃c:Array Value,w.heap[g]?=some (.cells c 117 (0,0))/\n*7<=c.size/\∀i j,i<n->j<7->c[i*7+j]?=some (V i j)
theorem RE.cell {V:Nat->Nat->Value}(h:RE w g n V){j:Nat}(hi:i<n)(hj:j<7):w.cell? (aD g (i*7+j))=some (V i j):=by
 obtain⟨c,hb,_,hc⟩:=h
 simp[World.cell?,hb,hc i j hi hj]
theorem RE.frozen {V:Nat->Nat->Value}(h:RE w g n V)(o:Nat):w.frozen? (aD g o)=false:=by
 obtain⟨c,hb,_,_⟩:=h
 simp[World.frozen?,hb]
theorem RE.set {V:Nat->Nat->Value}(h:RE w g n V){j:Nat}(hi:i<n)(hj:j<7)(u:Value):RE (w.setCell (aD g (i*7+j)) u) g n (λi' j'=>if i'=i/\j'=j then u else V i' j'):=by
 obtain⟨c,hb,hn,hc⟩:=h
 have hm:(i+1)*7<=n*7:=Nat.mul_le_mul_right 7 hi
 refine⟨c.setIfInBounds (i*7+j) u,by simp[World.setCell,Array.getElem?_modify,hb],by simpa using hn,λi' j' hi' hj'=>?_⟩
 by_cases e:i'=i/\j'=j
 ·obtain⟨rfl,rfl⟩:=e
  rw[Array.getElem?_setIfInBounds]
  simp[show i'*7+j'<c.size by omega]
 ·have hne:i*7+j≠i'*7+j':=by omega
  rw[Array.getElem?_setIfInBounds,if_neg hne]
  show c[i'*7+j']?=some (if i'=i/\j'=j then u else V i' j')
  rw[if_neg e]
  exact hc i' j' hi' hj'
def SE (w:World)(v:Value)(n:Nat)(V:Nat->Nat->Value):Prop:=∃a c,v=sL a n c/\(0<n->∃g,a=some (aD g 0)/\RE w g n V)
theorem RE.congr {V U:Nat->Nat->Value}(h:RE w g n V)(e:∀i j,i<n->j<7->V i j=U i j):RE w g n U:=by
 obtain⟨c,hb,hn,hc⟩:=h
 exact⟨c,hb,hn,λi j hi hj=>by rw[hc i j hi hj,e i j hi hj]⟩
theorem Q8z {t:Int}{k:Nat}(hk:k<zs.length)(h:iat zs k=t)(hn:∀i,i<k->iat zs i≠t):pos zs t=k:=by
 unfold pos
 rw[List.findIdx_eq hk]
 refine⟨by rw[V5 hk] at h;simpa using h,λj hj=>?_⟩
 have:=hn j hj
 rw[V5 (by omega)] at this
 simpa using this
theorem Qde {a:Nat}(h:b=a):Ending.returned (iV (a:Int))=.returned (iV (b:Int)):=by rw[h]
theorem Pd (B:Nat)(v0 v1 v2 v3:Value)(u id:Int)(zs:List Int)(w:World)(h0:Qi B w v0 zs)(hh:Ta zs id=true) :
  Calls prog 102 #[.agg #[v0,v1,v2,v3,iV u],iV id] w λe w'=>e=.returned (iV (pos zs id))/\Nx w w':=by
 have HH:=mh (Q26 hh)
 clear hh
 obtain⟨a,cap,rfl,hn,hk⟩:=h0
 unfold maxLen at hn
 generalize hz:zs.length=n at *
 have HZ:=mh hz
 clear hz
 go_enter func102,ntmps102
 go_wp2
 go_loopw [5] (λi wr=>∃k:Nat,k<=n/\i=iV k/\Z (∀j,j<k->iat zs j≠id)/\wr=w.alloc (.cells #[sL a n cap,v1,v2,v3,iV u] 60)) (λi _=>n-(intOf i).toNat)
 case atStart=>exact⟨0,nZ,rfl,λj hj=>absurd hj (zK _),rfl⟩
 obtain⟨k,hkn,rfl,HK,rfl⟩:=hrel
 by_cases hlt:k<n
 ·obtain⟨b,off,rfl,hB,hb,hc⟩:=hk (by omega)
  have hcc:=hc k hlt
  have hlt':(k:Int)<n:=by omega
  clear hc hk
  by_cases he:iat zs k=id
  ·have HP:=mh (Q8z (by rw[HZ.o];exact hlt) he HK.o)
   have hd:(iat zs k==id)=true:=by simpa using he
   clear he
   go_wp2
   go_ret
   exact⟨Qde HP.o,Qe _ _⟩
  ·have HK':Z (∀j,j<k+1->iat zs j≠id):=λj hj=>by
    by_cases e:j=k
    ·subst e;exact he
    ·exact HK.o j (by omega)
   have hd:(iat zs k==id)=false:=by simpa using he
   clear he
   go_wp2
   go_roundw
   case rel=>exact⟨k+1,by omega,by go_num,HK',trivial⟩
   case measure=>simp[intOf];omega
 ·obtain⟨i,hi,he⟩:=HH.o
  exact absurd he (HK.o i (by omega))
end Go.Proofs.YtphiaobccollhaaGreat
