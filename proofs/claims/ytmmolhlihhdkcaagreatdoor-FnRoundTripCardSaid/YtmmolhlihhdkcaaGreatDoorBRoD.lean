import Derived.Test.YtmmolhlihhdkcaaGreatDoorBRoA
import Derived.Test.YtmmolhlihhdkcaaGreatDoorBImE
import Derived.Test.YtmmolhlihhdkcaaGreatDoorBToA
import Derived.OwnWalk
import Derived.Lib.OthersKept
import Derived.Lib.SliceRun
namespace Go.Proofs.YtmmolhlihhdkcaaGreatDoor
open Go.RowKit
set_option linter.unusedVariables false
set_option maxRecDepth 1000000
set_option maxHeartbeats 16000000
theorem Q9t:(Tryz.prog.info? 158).map (λi=>(i.zero,i.size,i.bytes))=some (some (.agg #[.int .i64 0,.int .i64 0,.int .i64 0,.int .i64 0,.int .i64 0,.bool false,.int .i64 0]),7,56):=by kernel_rfl
def Vl (x:Eg):List Value:=[.int .i64 x.tail,.int .i64 x.head,.int .i64 x.weight,.int .i64 x.way,.int .i64 x.seg,.bool x.back,.int .i64 x.twin]
def Xo (es:List Eg):List Value:=es.flatMap Vl
theorem Al {es:List Eg}{i q:Nat}(hi:i<es.length)(hq:q<7):(Xo es)[i*7+q]?=(Vl (eat es i))[q]?:=by
 induction es generalizing i with
 |nil=>simp at hi
 |cons x es ih=>
  have hl:(Vl x).length=7:=rfl
  match i with
  |0=>
   rw[Xo,List.flatMap_cons,List.getElem?_append_left (by omega)]
   simp[eat]
  |i+1=>
   rw[Xo,List.flatMap_cons,List.getElem?_append_right (by omega),hl,show(i+1)*7+q-7=i*7+q by omega]
   have:=ih (i:=i) (by simpa using hi)
   rw[Xo] at this
   rw[this]
   simp[eat]
theorem P7 (es fs:List Eg):Xo (es++fs)=Xo es++Xo fs:=by simp[Xo]
def Vx (B:Nat)(w:World)(v:Value)(es:List Eg):Prop:=w.ownsRow B 158 7 v es.length (Xo es)
def Ge (B:Nat)(w w':World):Prop:=Below B w w'/\Lib.OthersKept 158 none w w'
theorem Ge.refl (B:Nat)(w:World):Ge B w w:=⟨Below.refl _ _,Lib.OthersKept.refl _ _ _⟩
theorem Ge.trans {B:Nat}{a b c:World}(h:Ge B a b)(k:Ge B b c):Ge B a c:=⟨h.1.trans k.1,h.2.trans k.2⟩
theorem Ge.alloc {B:Nat}{a w:World}(h:Ge B a w)(hB:B<=w.heap.size)(o:Obj):Ge B a (w.alloc o):=⟨h.1.alloc hB o,h.2.alloc o⟩
theorem Ge.drew {B:Nat}{a b:World}(h:Ge B a b):Ge B a b.drew:=⟨Below.drew h.1,h.2⟩
theorem Ge.of_nx {B:Nat}{w w':World}(h:Nx w w')(hB:B<=w.heap.size):Ge B w w':=
 ⟨Below.mono h hB,λk o hk _ _=>(h.block k (Array.getElem?_eq_some_iff.1 hk).1).trans hk⟩
theorem Q99 {B:Nat}{w:World}{v:Value}{es:List Eg}(h:Vx B w v es):∀g,v.ownBlock=some g->∃c fz,w.heap[g]?=some (.cells c 158 fz):=by
 intro g hg
 rcases h.2 with⟨rfl,_⟩|⟨g',cap,cur,rfl,_,hh,_⟩
 ·simp[Value.ownBlock] at hg
 ·simp[Value.ownBlock] at hg;subst hg;exact⟨_,_,hh⟩
theorem Ge.grown {B:Nat}{a w w':World}{v:Value}{es:List Eg}(h:Ge B a w)(hown:Vx B w v es)(hg:w.grownBy w' v.ownBlock)(hB:B<=w.heap.size):Ge B a w':=by
 refine⟨h.1.grown hg hB (λk hk=>(World.ownsRow.lt hown k hk).1),h.2.trans ?_⟩
 intro k o hk hb ho
 have hlt:k<w.heap.size:=(Array.getElem?_eq_some_iff.1 hk).1
 rw[hg.block k hlt (λe=>by
  obtain⟨c,fz,hh⟩:=Q99 hown k e.symm
  rw[hk] at hh
  exact ho c fz (by simpa using hh))]
 exact hk
theorem Vx.alloc {B:Nat}{w:World}{v:Value}{es:List Eg}(h:Vx B w v es)(o:Obj):Vx B (w.alloc o) v es:=World.ownsRow.alloc h o
theorem Vx.next {B:Nat}{w w':World}{v:Value}{es:List Eg}(h:Vx B w v es)(k:Nx w w'):Vx B w' v es:=by
 obtain⟨h1,h2⟩:=h
 refine⟨h1,?_⟩
 rcases h2 with h2|⟨g,cap,cur,hv,hg,hh,r⟩
 ·exact Or.inl h2
 ·exact Or.inr ⟨g,cap,cur,hv,hg,(k.block g (Array.getElem?_eq_some_iff.1 hh).1).trans hh,r⟩
theorem Vx.one {B:Nat}{w:World}{v:Value}{es:List Eg}{x:Eg}(h:w.ownsRow B 158 7 v (es.length+1) (Xo es++Vl x)):Vx B w v (es++[x]):=by
 unfold Vx
 rw[List.length_append,P7]
 simpa [Xo] using h
theorem Vx.two {B:Nat}{w:World}{v:Value}{es:List Eg}{x y:Eg}(h:w.ownsRow B 158 7 v (es.length+2) (Xo es++(Vl x++Vl y))):Vx B w v (es++[x,y]):=by
 unfold Vx
 rw[List.length_append,P7]
 simpa [Xo] using h
def Pp (w:World)(b:Nat)(cs:Array Value):Prop:=∃t,t≠158/\w.heap[b]?=some (.cells cs t (0,0))
theorem Pp.blk {w:World}{b:Nat}{cs:Array Value}(h:Pp w b cs):Blk w b cs:=by obtain⟨t,_,h⟩:=h;exact⟨t,h⟩
theorem Pp.keep {B:Nat}{w w':World}{b:Nat}{cs:Array Value}(h:Pp w b cs)(k:Ge B w w'):Pp w' b cs:=by
 obtain⟨t,ht,h⟩:=h
 exact⟨t,ht,k.2 b _ h (by simp) (λc' fz' e=>ht (by simp at e;exact e.2.1))⟩
theorem Pp.new (w:World)(cs:Array Value)(t n:Nat)(ht:t≠158)(hn:n=w.heap.size):Pp (w.alloc (.cells cs t)) n cs:=by
 subst hn
 exact⟨t,ht,by show(w.heap.push _)[w.heap.size]?=_;simp⟩
def It (w:World)(b o:Nat)(x:Eg):Prop:=
 w.cell? ⟨b,o,none⟩=some (.int .i64 x.tail)/\w.cell? ⟨b,o+1,none⟩=some (.int .i64 x.head)/\w.cell? ⟨b,o+2,none⟩=some (.int .i64 x.weight)/\w.cell? ⟨b,o+3,none⟩=some (.int .i64 x.way) /\
  w.cell? ⟨b,o+4,none⟩=some (.int .i64 x.seg)/\w.cell? ⟨b,o+5,none⟩=some (.bool x.back)/\w.cell? ⟨b,o+6,none⟩=some (.int .i64 x.twin)
def Y1 (B:Nat)(w:World)(v:Value)(es:List Eg):Prop:=Jl B w v es.length λb off i=>It w b (off+i*7) (eat es i)
theorem It.keep {B:Nat}{w w':World}{b o:Nat}{x:Eg}(h:It w b o x)(k:Xs B w w')(hB:B<=b)(hs:b<w.heap.size):It w' b o x:=by
 obtain⟨h0,h1,h2,h3,h4,h5,h6⟩:=h
 exact⟨(k.2 b hB hs _).trans h0,(k.2 b hB hs _).trans h1,(k.2 b hB hs _).trans h2,(k.2 b hB hs _).trans h3,(k.2 b hB hs _).trans h4,(k.2 b hB hs _).trans h5,(k.2 b hB hs _).trans h6⟩
theorem Y1.keep {B:Nat}{w w':World}{v:Value}{es:List Eg}(h:Y1 B w v es)(k:Xs B w w'):Y1 B w' v es:=
 Jl.mono h (Nat.le_refl _) k.1 λb off hb hs i hi hc=>hc.keep k hb hs
theorem Y1.next {B:Nat}{w w':World}{v:Value}{es:List Eg}(h:Y1 B w v es)(k:Nx w w'):Y1 B w' v es:=h.keep (k.keeps B)
theorem Vx.held {B:Nat}{w:World}{v:Value}{es:List Eg}(h:Vx B w v es):Y1 B w v es:=by
 obtain⟨h1,h2⟩:=h
 rcases h2 with⟨rfl,h2⟩|⟨g,cap,cur,rfl,hg,hh,hc,hm,hs,ht⟩
 ·unfold Y1
  rw[h2]
  exact⟨_,_,rfl,by simp[maxLen],λh=>by omega⟩
 ·refine⟨_,_,rfl,by omega,λh0=>⟨g,0,rfl,hg,(Array.getElem?_eq_some_iff.1 hh).1,λi hi=>?_⟩⟩
  have e:∀q v,q<7->(Vl (eat es i))[q]?=some v->w.cell? ⟨g,0+i*7+q,none⟩=some v:=by
   intro q v hq hv
   have h3:(cur.toList.take (es.length*7))[i*7+q]?=(Xo es)[i*7+q]?:=by rw[ht]
   rw[List.getElem?_take_of_lt (by omega),Al hi hq,hv] at h3
   unfold World.cell?
   simp only[hh]
   rw[Array.getElem?_toList] at h3
   simpa using h3
  exact⟨e 0 _ (by omega) rfl,e 1 _ (by omega) rfl,e 2 _ (by omega) rfl,e 3 _ (by omega) rfl,e 4 _ (by omega) rfl,e 5 _ (by omega) rfl,e 6 _ (by omega) rfl⟩
theorem Q0s {zs:List Int}{t:Int}(h:Vw zs t=true):∃i,i<zs.length/\iat zs i=t:=by
 unfold Vw at h
 rw[List.any_eq_true] at h
 obtain⟨y,hy,e⟩:=h
 obtain⟨i,hi,rfl⟩:=List.getElem_of_mem hy
 exact⟨i,hi,by rw[V7 hi];simpa using e⟩
theorem Zt:(Tryz.prog.info? 2).map (λi=>(i.zero,i.size,i.bytes))=some (some (.int .i64 0),1,8):=by kernel_rfl
def RW (w:World)(g n:Nat)(F:Nat->Int):Prop:=∃c:Array Value,w.heap[g]?=some (.cells c 2 (0,0))/\n<=c.size/\∀i,i<n->c[i]?=some (.int .i64 (F i))
theorem RW.lt {w:World}{g n:Nat}{F:Nat->Int}(h:RW w g n F):g<w.heap.size:=by
 obtain⟨c,h1,_⟩:=h
 exact(Array.getElem?_eq_some_iff.1 h1).1
theorem RW.cell {w:World}{g n:Nat}{F:Nat->Int}(h:RW w g n F){i:Nat}(hi:i<n):w.cell? ⟨g,i,none⟩=some (.int .i64 (F i)):=by
 obtain⟨c,hb,_,hc⟩:=h
 simp[World.cell?,hb,hc i hi]
theorem RW.frozen {w:World}{g n:Nat}{F:Nat->Int}(h:RW w g n F)(i:Nat):w.frozen? ⟨g,i,none⟩=false:=by
 obtain⟨c,hb,_,_⟩:=h
 simp[World.frozen?,hb]
theorem RW.congr {w:World}{g n:Nat}{F G:Nat->Int}(h:RW w g n F)(e:∀i,i<n->F i=G i):RW w g n G:=by
 obtain⟨c,hb,hn,hc⟩:=h
 exact⟨c,hb,hn,λi hi=>by rw[hc i hi,e i hi]⟩
theorem RW.of_block {w w':World}{g n:Nat}{F:Nat->Int}(h:RW w g n F)(e:w'.heap[g]?=w.heap[g]?):RW w' g n F:=by
 obtain⟨c,hb,hn,hc⟩:=h
 exact⟨c,e.trans hb,hn,hc⟩
theorem RW.next {w w':World}{g n:Nat}{F:Nat->Int}(h:RW w g n F)(k:Nx w w'):RW w' g n F:=h.of_block (k.block g h.lt)
theorem RW.alloc {w:World}{g n:Nat}{F:Nat->Int}(h:RW w g n F)(o:Obj):RW (w.alloc o) g n F:=h.next (Qd _ _)
theorem RW.set {w:World}{g n:Nat}{F:Nat->Int}(h:RW w g n F)(i:Nat)(z:Int):RW (w.setCell ⟨g,i,none⟩ (.int .i64 z)) g n (λj=>if j=i then z else F j):=by
 obtain⟨c,hb,hn,hc⟩:=h
 refine⟨c.setIfInBounds i (.int .i64 z),?_,by simpa using hn,λj hj=>?_⟩
 ·simp[World.setCell,Array.getElem?_modify,hb]
 ·rw[Array.getElem?_setIfInBounds]
  by_cases e:j=i
  ·subst e
   simp[show j<c.size by omega]
  ·rw[if_neg (λh=>e h.symm)]
   show c[j]?=some (.int .i64 (if j=i then z else F j))
   rw[if_neg e]
   exact hc j hj
theorem RW.setOther {w:World}{g n:Nat}{F:Nat->Int}(h:RW w g n F){a:Addr}(ha:g≠a.block)(v:Value):RW (w.setCell a v) g n F:=h.of_block (Below.heap_setCell _ _ _ _ ha)
theorem RW.held {w:World}{g n c:Nat}{F:Nat->Int}{zs:List Int}(h:RW w g n F)(hz:zs.length=n)(hm:n<=maxLen)(he:∀i,i<n->F i=iat zs i){B:Nat}(hB:B<=g):Qr B w (.slice (some ⟨g,0,none⟩) n c) zs:=by
 subst hz
 refine⟨_,_,rfl,hm,λh0=>⟨g,0,rfl,hB,h.lt,λi hi=>?_⟩⟩
 show w.cell? ⟨g,0+i,none⟩=_
 rw[Nat.zero_add,h.cell hi,he i hi]
def Qx (zs:List Int):List Value:=zs.map λz=>.int .i64 z
def Qb (C:Nat)(w:World)(v:Value)(zs:List Int):Prop:=w.ownsRow C 2 1 v zs.length (Qx zs)
theorem Qb.next {B:Nat}{w w':World}{v:Value}{zs:List Int}(h:Qb B w v zs)(k:Nx w w'):Qb B w' v zs:=by
 obtain⟨h1,h2⟩:=h
 refine⟨h1,?_⟩
 rcases h2 with h2|⟨g,cap,cur,hv,hg,hh,r⟩
 ·exact Or.inl h2
 ·exact Or.inr ⟨g,cap,cur,hv,hg,(k.block g (Array.getElem?_eq_some_iff.1 hh).1).trans hh,r⟩
theorem Id {zs:List Int}{i:Nat}(hi:i<zs.length):(Qx zs)[i]?=some (.int .i64 (iat zs i)):=by rw[V7 hi];simp[Qx,hi]
theorem Qb.opened {B:Nat}{w:World}{v:Value}{zs:List Int}(h:Qb B w v zs):(v=.slice none 0 0/\zs.length=0)\/∃g cap,v=.slice (some ⟨g,0,none⟩) zs.length cap/\B<=g/\zs.length<=maxLen/\RW w g zs.length (iat zs):=by
 obtain⟨h1,h2⟩:=h
 rcases h2 with⟨h2,h3⟩|⟨g,cap,cur,hv,hg,hh,hc,hm,hs,ht⟩
 ·exact Or.inl ⟨h2,h3⟩
 ·refine Or.inr ⟨g,cap,hv,hg,by omega,cur,hh,by omega,λi hi=>?_⟩
  have e:(cur.toList.take (zs.length*1))[i]?=(Qx zs)[i]?:=by rw[ht]
  rw[List.getElem?_take_of_lt (by omega),Id hi] at e
  rw[<-Array.getElem?_toList,e]
theorem Qb.held {B:Nat}{w:World}{v:Value}{zs:List Int}(h:Qb B w v zs):Qr B w v zs:=by
 rcases h.opened with⟨rfl,h2⟩|⟨g,cap,rfl,hg,hm,hr⟩
 ·unfold Qr
  rw[h2]
  exact⟨_,_,rfl,by simp[maxLen],λh=>by omega⟩
 ·exact hr.held rfl hm (λi _=>rfl) hg
theorem I7 (B:Nat)(w:World)(h:B<=w.heap.size):Qb B (w.alloc (.cells #[] 2)) (.slice (some ⟨w.heap.size,0,none⟩) 0 0) []:=
 ⟨rfl,.inr ⟨w.heap.size,0,#[],rfl,h,by show(w.heap.push _)[w.heap.size]?=_;simp,Nat.le_refl _,by simp[maxLen],by simp,by simp[Qx]⟩⟩
def tlE (es:List Eg)(e:Nat):Nat:=(eat es e).tail.toNat
def F1 (tl:Nat->Nat)(k q:Nat):Int:=if q=0 then 0 else (cE tl (q-1) k:Nat)
def F2 (tl:Nat->Nat)(m p q:Nat):Int:=if q<=p then (cL tl q m:Nat) else F1 tl m q
def F3 (tl:Nat->Nat)(m k p:Nat):Int:=((cL tl p m+cE tl p k:Nat):Int)
structure Ve (o:Option Nat)(w w':World):Prop where
 os:w'.os=w.os
 tape:w'.tape=w.tape
 output:w'.output=w.output
 size:w.heap.size<=w'.heap.size
 block:∀b,b<w.heap.size->some b≠o->w'.heap[b]?=w.heap[b]?
theorem Ve.refl (o:Option Nat)(w:World):Ve o w w:=⟨rfl,rfl,rfl,Nat.le_refl _,λ_ _ _=>rfl⟩
theorem Ve.set {o:Option Nat}{w w':World}(h:Ve o w w'){g i:Nat}(hg:o=some g)(u:Value):Ve o w (w'.setCell ⟨g,i,none⟩ u):=
 ⟨h.os,h.tape,h.output,by simpa [World.setCell] using h.size,λb hb hn=>(Below.heap_setCell _ _ _ _ (λe=>hn (by rw[hg,e]))).trans (h.block b hb hn)⟩
theorem Ve.below {o:Option Nat}{w w':World}(h:Ve o w w'){B:Nat}(hB:∀g,o=some g->B<=g)(hs:B<=w.heap.size):Below B w w':=
 ⟨h.os,h.tape,h.output,h.size,λk hk=>h.block k (by omega) (λe=>by have:=hB k e.symm;omega)⟩
def SI (w:World)(v:Value)(n:Nat)(F:Nat->Int):Prop:=∃a c,v=.slice a n c/\(0<n->∃g,a=some ⟨g,0,none⟩/\RW w g n F)
def RE (w:World)(g n:Nat)(V:Nat->Nat->Value):Prop:=∃c:Array Value,w.heap[g]?=some (.cells c 158 (0,0))/\n*7<=c.size/\∀i j,i<n->j<7->c[i*7+j]?=some (V i j)
theorem RE.cell {w:World}{g n:Nat}{V:Nat->Nat->Value}(h:RE w g n V){i j:Nat}(hi:i<n)(hj:j<7):w.cell? ⟨g,i*7+j,none⟩=some (V i j):=by
 obtain⟨c,hb,_,hc⟩:=h
 simp[World.cell?,hb,hc i j hi hj]
theorem RE.frozen {w:World}{g n:Nat}{V:Nat->Nat->Value}(h:RE w g n V)(o:Nat):w.frozen? ⟨g,o,none⟩=false:=by
 obtain⟨c,hb,_,_⟩:=h
 simp[World.frozen?,hb]
theorem RE.set {w:World}{g n:Nat}{V:Nat->Nat->Value}(h:RE w g n V){i j:Nat}(hi:i<n)(hj:j<7)(u:Value):RE (w.setCell ⟨g,i*7+j,none⟩ u) g n (λi' j'=>if i'=i/\j'=j then u else V i' j'):=by
 obtain⟨c,hb,hn,hc⟩:=h
 have hm:(i+1)*7<=n*7:=Nat.mul_le_mul_right 7 hi
 refine⟨c.setIfInBounds (i*7+j) u,by simp[World.setCell,Array.getElem?_modify,hb],by simpa using hn,λi' j' hi' hj'=>?_⟩
 by_cases e:i'=i/\j'=j
 ·obtain⟨rfl,rfl⟩:=e
  rw[Array.getElem?_setIfInBounds]
  simp[show i'*7+j'<c.size by omega]
 ·have hne:i*7+j≠i'*7+j':=by omega
  rw[Array.getElem?_setIfInBounds,if_neg hne]
  show c[i'*7+j']?=some (if i'=i/\j'=j then u else V i' j')
  rw[if_neg e]
  exact hc i' j' hi' hj'
def SE (w:World)(v:Value)(n:Nat)(V:Nat->Nat->Value):Prop:=∃a c,v=.slice a n c/\(0<n->∃g,a=some ⟨g,0,none⟩/\RE w g n V)
theorem RE.congr {w:World}{g n:Nat}{V U:Nat->Nat->Value}(h:RE w g n V)(e:∀i j,i<n->j<7->V i j=U i j):RE w g n U:=by
 obtain⟨c,hb,hn,hc⟩:=h
 exact⟨c,hb,hn,λi j hi hj=>by rw[hc i j hi hj,e i j hi hj]⟩
theorem Q72 {zs:List Int}{t:Int}{k:Nat}(hk:k<zs.length)(h:iat zs k=t)(hn:∀i,i<k->iat zs i≠t):pos zs t=k:=by
 unfold pos
 rw[List.findIdx_eq hk]
 refine⟨by rw[V7 hk] at h;simpa using h,λj hj=>?_⟩
 have:=hn j hj
 rw[V7 (by omega)] at this
 simpa using this
theorem Qbj {a b:Nat}(h:b=a):Ending.returned (.int .i64 (a:Int))=.returned (.int .i64 (b:Int)):=by rw[h]
theorem Wq (B:Nat)(v0 v1 v2 v3:Value)(u id:Int)(zs:List Int)(w:World)(h0:Qr B w v0 zs)(hh:Vw zs id=true) :
  Calls Tryz.prog 113 #[.agg #[v0,v1,v2,v3,.int .i64 u],.int .i64 id] w λe w'=>e=.returned (.int .i64 (pos zs id))/\Nx w w':=by
 have HH:Hid (∃i,i<zs.length/\iat zs i=id):=Q0s hh
 clear hh
 obtain⟨a,cap,rfl,hn,hk⟩:=h0
 unfold maxLen at hn
 generalize hz:zs.length=n at *
 have HZ:Hid (zs.length=n):=hz
 clear hz
 go_enter Tryz.func113,Tryz.ntmps113
 go_wp2
 go_loopw [5] (λi wr=>∃k:Nat,k<=n/\i=.int .i64 k/\Hid (∀j,j<k->iat zs j≠id)/\wr=w.alloc (.cells #[.slice a n cap,v1,v2,v3,.int .i64 u] 28)) (λi _=>n-(intOf i).toNat)
 case atStart=>exact⟨0,Nat.zero_le _,rfl,λj hj=>absurd hj (Nat.not_lt_zero _),rfl⟩
 obtain⟨k,hkn,rfl,HK,rfl⟩:=hrel
 by_cases hlt:k<n
 ·obtain⟨b,off,rfl,hB,hb,hc⟩:=hk (by omega)
  have hcc:=hc k hlt
  have hlt':(k:Int)<n:=by omega
  clear hc hk
  by_cases he:iat zs k=id
  ·have HP:Hid (pos zs id=k):=Q72 (by rw[HZ.out];exact hlt) he HK.out
   have hd:(iat zs k==id)=true:=by simpa using he
   clear he
   go_wp2
   go_ret
   exact⟨Qbj HP.out,Qd _ _⟩
  ·have HK':Hid (∀j,j<k+1->iat zs j≠id):=λj hj=>by
    by_cases e:j=k
    ·subst e;exact he
    ·exact HK.out j (by omega)
   have hd:(iat zs k==id)=false:=by simpa using he
   clear he
   go_wp2
   go_roundw
   case rel=>exact⟨k+1,by omega,by go_num,HK',trivial⟩
   case measure=>simp[intOf];omega
 ·obtain⟨i,hi,he⟩:=HH.out
  exact absurd he (HK.out i (by omega))
end Go.Proofs.YtmmolhlihhdkcaaGreatDoor
