import Derived.Test.YtdpfdkihbgmapaaGreatRoA
import Derived.Test.YtdpfdkihbgmapaaGreatImA
import Derived.Test.YtdpfdkihbgmapaaGreatToA
import Derived.OwnWalk
import Derived.Lib.OthersKept
import Derived.Deep.OwnRows
import Derived.Lib.SliceRun
namespace Go.Proofs.YtdpfdkihbgmapaaGreat
open Go.RowKit
set_option linter.unusedVariables false
set_option maxRecDepth 1000000
set_option maxHeartbeats 16000000
theorem infoEdge:(Tryz.prog.info? 128).map (λi=>(i.zero,i.size,i.bytes))=some (some (.agg #[.int .i64 0,.int .i64 0,.int .i64 0,.int .i64 0,.int .i64 0,.bool false,.int .i64 0]),7,56):=by kernel_rfl
def cells7 (x:Eg):List Value:=[.int .i64 x.tail,.int .i64 x.head,.int .i64 x.weight,.int .i64 x.way,.int .i64 x.seg,.bool x.back,.int .i64 x.twin]
def ecells (es:List Eg):List Value:=es.flatMap cells7
theorem ecells_at {es:List Eg}{i q:Nat}(hi:i<es.length)(hq:q<7):(ecells es)[i*7+q]?=(cells7 (eat es i))[q]?:=by
 induction es generalizing i with
 |nil=>simp at hi
 |cons x es ih=>
  have hl:(cells7 x).length=7:=rfl
  match i with
  |0=>
   rw[ecells,List.flatMap_cons,List.getElem?_append_left (by omega)]
   simp[eat]
  |i+1=>
   rw[ecells,List.flatMap_cons,List.getElem?_append_right (by omega),hl,show(i+1)*7+q-7=i*7+q by omega]
   have:=ih (i:=i) (by simpa using hi)
   rw[ecells] at this
   rw[this]
   simp[eat]
theorem ecells_append (es fs:List Eg):ecells (es++fs)=ecells es++ecells fs:=by simp[ecells]
def OwnE (B:Nat)(w:World)(v:Value)(es:List Eg):Prop:=w.ownsRow B 128 7 v es.length (ecells es)
def Ge (B:Nat)(w w':World):Prop:=Below B w w'/\Lib.OthersKept 128 none w w'
theorem Ge.refl (B:Nat)(w:World):Ge B w w:=⟨Below.refl _ _,Lib.OthersKept.refl _ _ _⟩
theorem Ge.trans {B:Nat}{a b c:World}(h:Ge B a b)(k:Ge B b c):Ge B a c:=⟨h.1.trans k.1,h.2.trans k.2⟩
theorem Ge.alloc {B:Nat}{a w:World}(h:Ge B a w)(hB:B<=w.heap.size)(o:Obj):Ge B a (w.alloc o):=⟨h.1.alloc hB o,h.2.alloc o⟩
theorem Ge.drew {B:Nat}{a b:World}(h:Ge B a b):Ge B a b.drew:=⟨Below.drew h.1,h.2⟩
theorem Ge.of_nx {B:Nat}{w w':World}(h:Nx w w')(hB:B<=w.heap.size):Ge B w w':=
 ⟨Below.mono h hB,λk o hk _ _=>(h.block k (Array.getElem?_eq_some_iff.1 hk).1).trans hk⟩
theorem ownE_row {B:Nat}{w:World}{v:Value}{es:List Eg}(h:OwnE B w v es):∀g,v.ownBlock=some g->∃c fz,w.heap[g]?=some (.cells c 128 fz):=by
 intro g hg
 rcases h.2 with⟨rfl,_⟩|⟨g',cap,cur,rfl,_,hh,_⟩
 ·simp[Value.ownBlock] at hg
 ·simp[Value.ownBlock] at hg;subst hg;exact⟨_,_,hh⟩
theorem Ge.grown {B:Nat}{a w w':World}{v:Value}{es:List Eg}(h:Ge B a w)(hown:OwnE B w v es)(hg:w.grownBy w' v.ownBlock)(hB:B<=w.heap.size):Ge B a w':=by
 refine⟨h.1.grown hg hB (λk hk=>(World.ownsRow.lt hown k hk).1),h.2.trans ?_⟩
 intro k o hk hb ho
 have hlt:k<w.heap.size:=(Array.getElem?_eq_some_iff.1 hk).1
 rw[hg.block k hlt (λe=>by
  obtain⟨c,fz,hh⟩:=ownE_row hown k e.symm
  rw[hk] at hh
  exact ho c fz (by simpa using hh))]
 exact hk
theorem OwnE.alloc {B:Nat}{w:World}{v:Value}{es:List Eg}(h:OwnE B w v es)(o:Obj):OwnE B (w.alloc o) v es:=World.ownsRow.alloc h o
theorem OwnE.next {B:Nat}{w w':World}{v:Value}{es:List Eg}(h:OwnE B w v es)(k:Nx w w'):OwnE B w' v es:=by
 obtain⟨h1,h2⟩:=h
 refine⟨h1,?_⟩
 rcases h2 with h2|⟨g,cap,cur,hv,hg,hh,r⟩
 ·exact Or.inl h2
 ·exact Or.inr ⟨g,cap,cur,hv,hg,(k.block g (Array.getElem?_eq_some_iff.1 hh).1).trans hh,r⟩
theorem OwnE.one {B:Nat}{w:World}{v:Value}{es:List Eg}{x:Eg}(h:w.ownsRow B 128 7 v (es.length+1) (ecells es++cells7 x)):OwnE B w v (es++[x]):=by
 unfold OwnE
 rw[List.length_append,ecells_append]
 simpa [ecells] using h
theorem OwnE.two {B:Nat}{w:World}{v:Value}{es:List Eg}{x y:Eg}(h:w.ownsRow B 128 7 v (es.length+2) (ecells es++(cells7 x++cells7 y))):OwnE B w v (es++[x,y]):=by
 unfold OwnE
 rw[List.length_append,ecells_append]
 simpa [ecells] using h
def BlkE (w:World)(b:Nat)(cs:Array Value):Prop:=∃t,t≠128/\w.heap[b]?=some (.cells cs t (0,0))
theorem BlkE.blk {w:World}{b:Nat}{cs:Array Value}(h:BlkE w b cs):Blk w b cs:=by obtain⟨t,_,h⟩:=h;exact⟨t,h⟩
theorem BlkE.keep {B:Nat}{w w':World}{b:Nat}{cs:Array Value}(h:BlkE w b cs)(k:Ge B w w'):BlkE w' b cs:=by
 obtain⟨t,ht,h⟩:=h
 exact⟨t,ht,k.2 b _ h (by simp) (λc' fz' e=>ht (by simp at e;exact e.2.1))⟩
theorem BlkE.new (w:World)(cs:Array Value)(t n:Nat)(ht:t≠128)(hn:n=w.heap.size):BlkE (w.alloc (.cells cs t)) n cs:=by
 subst hn
 exact⟨t,ht,by show(w.heap.push _)[w.heap.size]?=_;simp⟩
def HEdge (w:World)(b o:Nat)(x:Eg):Prop:=
 w.cell? ⟨b,o,none⟩=some (.int .i64 x.tail)/\w.cell? ⟨b,o+1,none⟩=some (.int .i64 x.head)/\w.cell? ⟨b,o+2,none⟩=some (.int .i64 x.weight)/\w.cell? ⟨b,o+3,none⟩=some (.int .i64 x.way) /\
  w.cell? ⟨b,o+4,none⟩=some (.int .i64 x.seg)/\w.cell? ⟨b,o+5,none⟩=some (.bool x.back)/\w.cell? ⟨b,o+6,none⟩=some (.int .i64 x.twin)
def HEdges (B:Nat)(w:World)(v:Value)(es:List Eg):Prop:=HSlice B w v es.length λb off i=>HEdge w b (off+i*7) (eat es i)
theorem HEdge.keep {B:Nat}{w w':World}{b o:Nat}{x:Eg}(h:HEdge w b o x)(k:Keeps B w w')(hB:B<=b)(hs:b<w.heap.size):HEdge w' b o x:=by
 obtain⟨h0,h1,h2,h3,h4,h5,h6⟩:=h
 exact⟨(k.2 b hB hs _).trans h0,(k.2 b hB hs _).trans h1,(k.2 b hB hs _).trans h2,(k.2 b hB hs _).trans h3,(k.2 b hB hs _).trans h4,(k.2 b hB hs _).trans h5,(k.2 b hB hs _).trans h6⟩
theorem HEdges.keep {B:Nat}{w w':World}{v:Value}{es:List Eg}(h:HEdges B w v es)(k:Keeps B w w'):HEdges B w' v es:=
 HSlice.mono h (Nat.le_refl _) k.1 λb off hb hs i hi hc=>hc.keep k hb hs
theorem HEdges.next {B:Nat}{w w':World}{v:Value}{es:List Eg}(h:HEdges B w v es)(k:Nx w w'):HEdges B w' v es:=h.keep (k.keeps B)
theorem OwnE.held {B:Nat}{w:World}{v:Value}{es:List Eg}(h:OwnE B w v es):HEdges B w v es:=by
 obtain⟨h1,h2⟩:=h
 rcases h2 with⟨rfl,h2⟩|⟨g,cap,cur,rfl,hg,hh,hc,hm,hs,ht⟩
 ·unfold HEdges
  rw[h2]
  exact⟨_,_,rfl,by simp[maxLen],λh=>by omega⟩
 ·refine⟨_,_,rfl,by omega,λh0=>⟨g,0,rfl,hg,(Array.getElem?_eq_some_iff.1 hh).1,λi hi=>?_⟩⟩
  have e:∀q v,q<7->(cells7 (eat es i))[q]?=some v->w.cell? ⟨g,0+i*7+q,none⟩=some v:=by
   intro q v hq hv
   have h3:(cur.toList.take (es.length*7))[i*7+q]?=(ecells es)[i*7+q]?:=by rw[ht]
   rw[List.getElem?_take_of_lt (by omega),ecells_at hi hq,hv] at h3
   unfold World.cell?
   simp only[hh]
   rw[Array.getElem?_toList] at h3
   simpa using h3
  exact⟨e 0 _ (by omega) rfl,e 1 _ (by omega) rfl,e 2 _ (by omega) rfl,e 3 _ (by omega) rfl,e 4 _ (by omega) rfl,e 5 _ (by omega) rfl,e 6 _ (by omega) rfl⟩
theorem hasI_at {zs:List Int}{t:Int}(h:hasI zs t=true):∃i,i<zs.length/\iat zs i=t:=by
 unfold hasI at h
 rw[List.any_eq_true] at h
 obtain⟨y,hy,e⟩:=h
 obtain⟨i,hi,rfl⟩:=List.getElem_of_mem hy
 exact⟨i,hi,by rw[iat_eq hi];simpa using e⟩
theorem infoInt:(Tryz.prog.info? 2).map (λi=>(i.zero,i.size,i.bytes))=some (some (.int .i64 0),1,8):=by kernel_rfl
def RW (w:World)(g n:Nat)(F:Nat->Int):Prop:=∃c:Array Value,w.heap[g]?=some (.cells c 2 (0,0))/\n<=c.size/\∀i,i<n->c[i]?=some (.int .i64 (F i))
theorem RW.lt {w:World}{g n:Nat}{F:Nat->Int}(h:RW w g n F):g<w.heap.size:=by
 obtain⟨c,h1,_⟩:=h
 exact(Array.getElem?_eq_some_iff.1 h1).1
theorem RW.cell {w:World}{g n:Nat}{F:Nat->Int}(h:RW w g n F){i:Nat}(hi:i<n):w.cell? ⟨g,i,none⟩=some (.int .i64 (F i)):=by
 obtain⟨c,hb,_,hc⟩:=h
 simp[World.cell?,hb,hc i hi]
theorem RW.frozen {w:World}{g n:Nat}{F:Nat->Int}(h:RW w g n F)(i:Nat):w.frozen? ⟨g,i,none⟩=false:=by
 obtain⟨c,hb,_,_⟩:=h
 simp[World.frozen?,hb]
theorem RW.congr {w:World}{g n:Nat}{F G:Nat->Int}(h:RW w g n F)(e:∀i,i<n->F i=G i):RW w g n G:=by
 obtain⟨c,hb,hn,hc⟩:=h
 exact⟨c,hb,hn,λi hi=>by rw[hc i hi,e i hi]⟩
theorem RW.of_block {w w':World}{g n:Nat}{F:Nat->Int}(h:RW w g n F)(e:w'.heap[g]?=w.heap[g]?):RW w' g n F:=by
 obtain⟨c,hb,hn,hc⟩:=h
 exact⟨c,e.trans hb,hn,hc⟩
theorem RW.next {w w':World}{g n:Nat}{F:Nat->Int}(h:RW w g n F)(k:Nx w w'):RW w' g n F:=h.of_block (k.block g h.lt)
theorem RW.alloc {w:World}{g n:Nat}{F:Nat->Int}(h:RW w g n F)(o:Obj):RW (w.alloc o) g n F:=h.next (box1 _ _)
theorem RW.set {w:World}{g n:Nat}{F:Nat->Int}(h:RW w g n F)(i:Nat)(z:Int):RW (w.setCell ⟨g,i,none⟩ (.int .i64 z)) g n (λj=>if j=i then z else F j):=by
 obtain⟨c,hb,hn,hc⟩:=h
 refine⟨c.setIfInBounds i (.int .i64 z),?_,by simpa using hn,λj hj=>?_⟩
 ·simp[World.setCell,Array.getElem?_modify,hb]
 ·rw[Array.getElem?_setIfInBounds]
  by_cases e:j=i
  ·subst e
   simp[show j<c.size by omega]
  ·rw[if_neg (λh=>e h.symm)]
   show c[j]?=some (.int .i64 (if j=i then z else F j))
   rw[if_neg e]
   exact hc j hj
theorem RW.setOther {w:World}{g n:Nat}{F:Nat->Int}(h:RW w g n F){a:Addr}(ha:g≠a.block)(v:Value):RW (w.setCell a v) g n F:=h.of_block (Below.heap_setCell _ _ _ _ ha)
theorem RW.held {w:World}{g n c:Nat}{F:Nat->Int}{zs:List Int}(h:RW w g n F)(hz:zs.length=n)(hm:n<=maxLen)(he:∀i,i<n->F i=iat zs i){B:Nat}(hB:B<=g):HInts B w (.slice (some ⟨g,0,none⟩) n c) zs:=by
 subst hz
 refine⟨_,_,rfl,hm,λh0=>⟨g,0,rfl,hB,h.lt,λi hi=>?_⟩⟩
 show w.cell? ⟨g,0+i,none⟩=_
 rw[Nat.zero_add,h.cell hi,he i hi]
def icells (zs:List Int):List Value:=zs.map λz=>.int .i64 z
def OwnI (C:Nat)(w:World)(v:Value)(zs:List Int):Prop:=w.ownsRow C 2 1 v zs.length (icells zs)
theorem OwnI.next {B:Nat}{w w':World}{v:Value}{zs:List Int}(h:OwnI B w v zs)(k:Nx w w'):OwnI B w' v zs:=by
 obtain⟨h1,h2⟩:=h
 refine⟨h1,?_⟩
 rcases h2 with h2|⟨g,cap,cur,hv,hg,hh,r⟩
 ·exact Or.inl h2
 ·exact Or.inr ⟨g,cap,cur,hv,hg,(k.block g (Array.getElem?_eq_some_iff.1 hh).1).trans hh,r⟩
theorem icells_at {zs:List Int}{i:Nat}(hi:i<zs.length):(icells zs)[i]?=some (.int .i64 (iat zs i)):=by rw[iat_eq hi];simp[icells,hi]
theorem OwnI.opened {B:Nat}{w:World}{v:Value}{zs:List Int}(h:OwnI B w v zs):(v=.slice none 0 0/\zs.length=0)\/∃g cap,v=.slice (some ⟨g,0,none⟩) zs.length cap/\B<=g/\zs.length<=maxLen/\RW w g zs.length (iat zs):=by
 obtain⟨h1,h2⟩:=h
 rcases h2 with⟨h2,h3⟩|⟨g,cap,cur,hv,hg,hh,hc,hm,hs,ht⟩
 ·exact Or.inl ⟨h2,h3⟩
 ·refine Or.inr ⟨g,cap,hv,hg,by omega,cur,hh,by omega,λi hi=>?_⟩
  have e:(cur.toList.take (zs.length*1))[i]?=(icells zs)[i]?:=by rw[ht]
  rw[List.getElem?_take_of_lt (by omega),icells_at hi] at e
  rw[<-Array.getElem?_toList,e]
theorem OwnI.held {B:Nat}{w:World}{v:Value}{zs:List Int}(h:OwnI B w v zs):HInts B w v zs:=by
 rcases h.opened with⟨rfl,h2⟩|⟨g,cap,rfl,hg,hm,hr⟩
 ·unfold HInts
  rw[h2]
  exact⟨_,_,rfl,by simp[maxLen],λh=>by omega⟩
 ·exact hr.held rfl hm (λi _=>rfl) hg
theorem ownI_none (B:Nat)(w:World)(h:B<=w.heap.size):OwnI B (w.alloc (.cells #[] 2)) (.slice (some ⟨w.heap.size,0,none⟩) 0 0) []:=
 ⟨rfl,.inr ⟨w.heap.size,0,#[],rfl,h,by show(w.heap.push _)[w.heap.size]?=_;simp,Nat.le_refl _,by simp[maxLen],by simp,by simp[icells]⟩⟩
def tlE (es:List Eg)(e:Nat):Nat:=(eat es e).tail.toNat
def F1 (tl:Nat->Nat)(k q:Nat):Int:=if q=0 then 0 else (cE tl (q-1) k:Nat)
def F2 (tl:Nat->Nat)(m p q:Nat):Int:=if q<=p then (cL tl q m:Nat) else F1 tl m q
def F3 (tl:Nat->Nat)(m k p:Nat):Int:=((cL tl p m+cE tl p k:Nat):Int)
theorem pos_first {zs:List Int}{t:Int}{k:Nat}(hk:k<zs.length)(h:iat zs k=t)(hn:∀i,i<k->iat zs i≠t):pos zs t=k:=by
 unfold pos
 rw[List.findIdx_eq hk]
 refine⟨by rw[iat_eq hk] at h;simpa using h,λj hj=>?_⟩
 have:=hn j hj
 rw[iat_eq (by omega)] at this
 simpa using this
theorem ret_nat {a b:Nat}(h:b=a):Ending.returned (.int .i64 (a:Int))=.returned (.int .i64 (b:Int)):=by rw[h]
theorem l2Position_any (B:Nat)(v0 v1 v2 v3:Value)(u id:Int)(zs:List Int)(w:World)(h0:HInts B w v0 zs)(hh:hasI zs id=true) :
  Calls Tryz.prog 87 #[.agg #[v0,v1,v2,v3,.int .i64 u],.int .i64 id] w λe w'=>e=.returned (.int .i64 (pos zs id))/\Nx w w':=by
 have HH:Hid (∃i,i<zs.length/\iat zs i=id):=hasI_at hh
 clear hh
 obtain⟨a,cap,rfl,hn,hk⟩:=h0
 unfold maxLen at hn
 generalize hz:zs.length=n at *
 have HZ:Hid (zs.length=n):=hz
 clear hz
 go_enter Tryz.func87,Tryz.ntmps87
 go_wp2
 go_loopw [5] (λi wr=>∃k:Nat,k<=n/\i=.int .i64 k/\Hid (∀j,j<k->iat zs j≠id)/\wr=w.alloc (.cells #[.slice a n cap,v1,v2,v3,.int .i64 u] 86)) (λi _=>n-(intOf i).toNat)
 case atStart=>exact⟨0,Nat.zero_le _,rfl,λj hj=>absurd hj (Nat.not_lt_zero _),rfl⟩
 obtain⟨k,hkn,rfl,HK,rfl⟩:=hrel
 by_cases hlt:k<n
 ·obtain⟨b,off,rfl,hB,hb,hc⟩:=hk (by omega)
  have hcc:=hc k hlt
  have hlt':(k:Int)<n:=by omega
  clear hc hk
  by_cases he:iat zs k=id
  ·have HP:Hid (pos zs id=k):=pos_first (by rw[HZ.out];exact hlt) he HK.out
   have hd:(iat zs k==id)=true:=by simpa using he
   clear he
   go_wp2
   go_ret
   exact⟨ret_nat HP.out,box1 _ _⟩
  ·have HK':Hid (∀j,j<k+1->iat zs j≠id):=λj hj=>by
    by_cases e:j=k
    ·subst e;exact he
    ·exact HK.out j (by omega)
   have hd:(iat zs k==id)=false:=by simpa using he
   clear he
   go_wp2
   go_roundw
   case rel=>exact⟨k+1,by omega,by go_num,HK',trivial⟩
   case measure=>simp[intOf];omega
 ·obtain⟨i,hi,he⟩:=HH.out
  exact absurd he (HK.out i (by omega))
structure Only (o:Option Nat)(w w':World):Prop where
 os:w'.os=w.os
 tape:w'.tape=w.tape
 output:w'.output=w.output
 size:w.heap.size<=w'.heap.size
 block:∀b,b<w.heap.size->some b≠o->w'.heap[b]?=w.heap[b]?
theorem Only.refl (o:Option Nat)(w:World):Only o w w:=⟨rfl,rfl,rfl,Nat.le_refl _,λ_ _ _=>rfl⟩
theorem Only.set {o:Option Nat}{w w':World}(h:Only o w w'){g i:Nat}(hg:o=some g)(u:Value):Only o w (w'.setCell ⟨g,i,none⟩ u):=
 ⟨h.os,h.tape,h.output,by simpa [World.setCell] using h.size,λb hb hn=>(Below.heap_setCell _ _ _ _ (λe=>hn (by rw[hg,e]))).trans (h.block b hb hn)⟩
theorem Only.below {o:Option Nat}{w w':World}(h:Only o w w'){B:Nat}(hB:∀g,o=some g->B<=g)(hs:B<=w.heap.size):Below B w w':=
 ⟨h.os,h.tape,h.output,h.size,λk hk=>h.block k (by omega) (λe=>by have:=hB k e.symm;omega)⟩
def SI (w:World)(v:Value)(n:Nat)(F:Nat->Int):Prop:=∃a c,v=.slice a n c/\(0<n->∃g,a=some ⟨g,0,none⟩/\RW w g n F)
def RE (w:World)(g n:Nat)(V:Nat->Nat->Value):Prop:=∃c:Array Value,w.heap[g]?=some (.cells c 128 (0,0))/\n*7<=c.size/\∀i j,i<n->j<7->c[i*7+j]?=some (V i j)
theorem RE.cell {w:World}{g n:Nat}{V:Nat->Nat->Value}(h:RE w g n V){i j:Nat}(hi:i<n)(hj:j<7):w.cell? ⟨g,i*7+j,none⟩=some (V i j):=by
 obtain⟨c,hb,_,hc⟩:=h
 simp[World.cell?,hb,hc i j hi hj]
theorem RE.frozen {w:World}{g n:Nat}{V:Nat->Nat->Value}(h:RE w g n V)(o:Nat):w.frozen? ⟨g,o,none⟩=false:=by
 obtain⟨c,hb,_,_⟩:=h
 simp[World.frozen?,hb]
theorem RE.set {w:World}{g n:Nat}{V:Nat->Nat->Value}(h:RE w g n V){i j:Nat}(hi:i<n)(hj:j<7)(u:Value):RE (w.setCell ⟨g,i*7+j,none⟩ u) g n (λi' j'=>if i'=i/\j'=j then u else V i' j'):=by
 obtain⟨c,hb,hn,hc⟩:=h
 have hm:(i+1)*7<=n*7:=Nat.mul_le_mul_right 7 hi
 refine⟨c.setIfInBounds (i*7+j) u,by simp[World.setCell,Array.getElem?_modify,hb],by simpa using hn,λi' j' hi' hj'=>?_⟩
 by_cases e:i'=i/\j'=j
 ·obtain⟨rfl,rfl⟩:=e
  rw[Array.getElem?_setIfInBounds]
  simp[show i'*7+j'<c.size by omega]
 ·have hne:i*7+j≠i'*7+j':=by omega
  rw[Array.getElem?_setIfInBounds,if_neg hne]
  show c[i'*7+j']?=some (if i'=i/\j'=j then u else V i' j')
  rw[if_neg e]
  exact hc i' j' hi' hj'
def SE (w:World)(v:Value)(n:Nat)(V:Nat->Nat->Value):Prop:=∃a c,v=.slice a n c/\(0<n->∃g,a=some ⟨g,0,none⟩/\RE w g n V)
theorem RE.congr {w:World}{g n:Nat}{V U:Nat->Nat->Value}(h:RE w g n V)(e:∀i j,i<n->j<7->V i j=U i j):RE w g n U:=by
 obtain⟨c,hb,hn,hc⟩:=h
 exact⟨c,hb,hn,λi j hi hj=>by rw[hc i j hi hj,e i j hi hj]⟩
end Go.Proofs.YtdpfdkihbgmapaaGreat
