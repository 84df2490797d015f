import Derived.Test.YthhbdfiopjclcaaGreatDoorRoA
import Derived.Test.YthhbdfiopjclcaaGreatDoorImE
import Derived.Test.YthhbdfiopjclcaaGreatDoorToA
import Derived.OwnWalk
import Derived.Lib.OthersKept
import Derived.Deep.OwnRows
import Derived.Lib.SliceRun
namespace Go.Proofs.YthhbdfiopjclcaaGreatDoor
open Go.RowKit
set_option linter.unusedVariables false
set_option maxRecDepth 1000000
set_option maxHeartbeats 16000000
theorem infoEdge:(Tryz.prog.info? 49).map (λi=>(i.zero,i.size,i.bytes))=some (some (.agg #[.int .i64 0,.int .i64 0,.int .i64 0,.int .i64 0,.int .i64 0,.bool false,.int .i64 0]),7,56):=by kernel_rfl
def Ve (x:Eg):List Value:=[.int .i64 x.tail,.int .i64 x.head,.int .i64 x.weight,.int .i64 x.way,.int .i64 x.seg,.bool x.back,.int .i64 x.twin]
def Y5 (es:List Eg):List Value:=es.flatMap Ve
theorem ecells_at {es:List Eg}{i q:Nat}(hi:i<es.length)(hq:q<7):(Y5 es)[i*7+q]?=(Ve (eat es i))[q]?:=by
 induction es generalizing i with
 |nil=>simp at hi
 |cons x es ih=>
  have hl:(Ve x).length=7:=rfl
  match i with
  |0=>
   rw[Y5,List.flatMap_cons,List.getElem?_append_left (by omega)]
   simp[eat]
  |i+1=>
   rw[Y5,List.flatMap_cons,List.getElem?_append_right (by omega),hl,show(i+1)*7+q-7=i*7+q by omega]
   have:=ih (i:=i) (by simpa using hi)
   rw[Y5] at this
   rw[this]
   simp[eat]
theorem ecells_append (es fs:List Eg):Y5 (es++fs)=Y5 es++Y5 fs:=by simp[Y5]
def V5 (B:Nat)(w:World)(v:Value)(es:List Eg):Prop:=w.ownsRow B 49 7 v es.length (Y5 es)
def Ge (B:Nat)(w w':World):Prop:=Below B w w'/\Lib.OthersKept 49 none w w'
theorem Ge.refl (B:Nat)(w:World):Ge B w w:=⟨Below.refl _ _,Lib.OthersKept.refl _ _ _⟩
theorem Ge.trans {B:Nat}{a b c:World}(h:Ge B a b)(k:Ge B b c):Ge B a c:=⟨h.1.trans k.1,h.2.trans k.2⟩
theorem Ge.alloc {B:Nat}{a w:World}(h:Ge B a w)(hB:B<=w.heap.size)(o:Obj):Ge B a (w.alloc o):=⟨h.1.alloc hB o,h.2.alloc o⟩
theorem Ge.drew {B:Nat}{a b:World}(h:Ge B a b):Ge B a b.drew:=⟨Below.drew h.1,h.2⟩
theorem Ge.of_nx {B:Nat}{w w':World}(h:Nx w w')(hB:B<=w.heap.size):Ge B w w':=
 ⟨Below.mono h hB,λk o hk _ _=>(h.block k (Array.getElem?_eq_some_iff.1 hk).1).trans hk⟩
theorem ownE_row {B:Nat}{w:World}{v:Value}{es:List Eg}(h:V5 B w v es):∀g,v.ownBlock=some g->∃c fz,w.heap[g]?=some (.cells c 49 fz):=by
 intro g hg
 rcases h.2 with⟨rfl,_⟩|⟨g',cap,cur,rfl,_,hh,_⟩
 ·simp[Value.ownBlock] at hg
 ·simp[Value.ownBlock] at hg;subst hg;exact⟨_,_,hh⟩
theorem Ge.grown {B:Nat}{a w w':World}{v:Value}{es:List Eg}(h:Ge B a w)(hown:V5 B w v es)(hg:w.grownBy w' v.ownBlock)(hB:B<=w.heap.size):Ge B a w':=by
 refine⟨h.1.grown hg hB (λk hk=>(World.ownsRow.lt hown k hk).1),h.2.trans ?_⟩
 intro k o hk hb ho
 have hlt:k<w.heap.size:=(Array.getElem?_eq_some_iff.1 hk).1
 rw[hg.block k hlt (λe=>by
  obtain⟨c,fz,hh⟩:=ownE_row hown k e.symm
  rw[hk] at hh
  exact ho c fz (by simpa using hh))]
 exact hk
theorem V5.alloc {B:Nat}{w:World}{v:Value}{es:List Eg}(h:V5 B w v es)(o:Obj):V5 B (w.alloc o) v es:=World.ownsRow.alloc h o
theorem V5.next {B:Nat}{w w':World}{v:Value}{es:List Eg}(h:V5 B w v es)(k:Nx w w'):V5 B w' v es:=by
 obtain⟨h1,h2⟩:=h
 refine⟨h1,?_⟩
 rcases h2 with h2|⟨g,cap,cur,hv,hg,hh,r⟩
 ·exact Or.inl h2
 ·exact Or.inr ⟨g,cap,cur,hv,hg,(k.block g (Array.getElem?_eq_some_iff.1 hh).1).trans hh,r⟩
theorem V5.one {B:Nat}{w:World}{v:Value}{es:List Eg}{x:Eg}(h:w.ownsRow B 49 7 v (es.length+1) (Y5 es++Ve x)):V5 B w v (es++[x]):=by
 unfold V5
 rw[List.length_append,ecells_append]
 simpa [Y5] using h
theorem V5.two {B:Nat}{w:World}{v:Value}{es:List Eg}{x y:Eg}(h:w.ownsRow B 49 7 v (es.length+2) (Y5 es++(Ve x++Ve y))):V5 B w v (es++[x,y]):=by
 unfold V5
 rw[List.length_append,ecells_append]
 simpa [Y5] using h
def BlkE (w:World)(b:Nat)(cs:Array Value):Prop:=∃t,t≠49/\w.heap[b]?=some (.cells cs t (0,0))
theorem BlkE.blk {w:World}{b:Nat}{cs:Array Value}(h:BlkE w b cs):Blk w b cs:=by obtain⟨t,_,h⟩:=h;exact⟨t,h⟩
theorem BlkE.keep {B:Nat}{w w':World}{b:Nat}{cs:Array Value}(h:BlkE w b cs)(k:Ge B w w'):BlkE w' b cs:=by
 obtain⟨t,ht,h⟩:=h
 exact⟨t,ht,k.2 b _ h (by simp) (λc' fz' e=>ht (by simp at e;exact e.2.1))⟩
theorem BlkE.new (w:World)(cs:Array Value)(t n:Nat)(ht:t≠49)(hn:n=w.heap.size):BlkE (w.alloc (.cells cs t)) n cs:=by
 subst hn
 exact⟨t,ht,by show(w.heap.push _)[w.heap.size]?=_;simp⟩
def HEdge (w:World)(b o:Nat)(x:Eg):Prop:=
 w.cell? ⟨b,o,none⟩=some (.int .i64 x.tail)/\w.cell? ⟨b,o+1,none⟩=some (.int .i64 x.head)/\w.cell? ⟨b,o+2,none⟩=some (.int .i64 x.weight)/\w.cell? ⟨b,o+3,none⟩=some (.int .i64 x.way) /\
  w.cell? ⟨b,o+4,none⟩=some (.int .i64 x.seg)/\w.cell? ⟨b,o+5,none⟩=some (.bool x.back)/\w.cell? ⟨b,o+6,none⟩=some (.int .i64 x.twin)
def V4 (B:Nat)(w:World)(v:Value)(es:List Eg):Prop:=Jz B w v es.length λb off i=>HEdge w b (off+i*7) (eat es i)
theorem HEdge.keep {B:Nat}{w w':World}{b o:Nat}{x:Eg}(h:HEdge w b o x)(k:Yc B w w')(hB:B<=b)(hs:b<w.heap.size):HEdge w' b o x:=by
 obtain⟨h0,h1,h2,h3,h4,h5,h6⟩:=h
 exact⟨(k.2 b hB hs _).trans h0,(k.2 b hB hs _).trans h1,(k.2 b hB hs _).trans h2,(k.2 b hB hs _).trans h3,(k.2 b hB hs _).trans h4,(k.2 b hB hs _).trans h5,(k.2 b hB hs _).trans h6⟩
theorem V4.keep {B:Nat}{w w':World}{v:Value}{es:List Eg}(h:V4 B w v es)(k:Yc B w w'):V4 B w' v es:=
 Jz.mono h (Nat.le_refl _) k.1 λb off hb hs i hi hc=>hc.keep k hb hs
theorem V4.next {B:Nat}{w w':World}{v:Value}{es:List Eg}(h:V4 B w v es)(k:Nx w w'):V4 B w' v es:=h.keep (k.keeps B)
theorem V5.held {B:Nat}{w:World}{v:Value}{es:List Eg}(h:V5 B w v es):V4 B w v es:=by
 obtain⟨h1,h2⟩:=h
 rcases h2 with⟨rfl,h2⟩|⟨g,cap,cur,rfl,hg,hh,hc,hm,hs,ht⟩
 ·unfold V4
  rw[h2]
  exact⟨_,_,rfl,by simp[maxLen],λh=>by omega⟩
 ·refine⟨_,_,rfl,by omega,λh0=>⟨g,0,rfl,hg,(Array.getElem?_eq_some_iff.1 hh).1,λi hi=>?_⟩⟩
  have e:∀q v,q<7->(Ve (eat es i))[q]?=some v->w.cell? ⟨g,0+i*7+q,none⟩=some v:=by
   intro q v hq hv
   have h3:(cur.toList.take (es.length*7))[i*7+q]?=(Y5 es)[i*7+q]?:=by rw[ht]
   rw[List.getElem?_take_of_lt (by omega),ecells_at hi hq,hv] at h3
   unfold World.cell?
   simp only[hh]
   rw[Array.getElem?_toList] at h3
   simpa using h3
  exact⟨e 0 _ (by omega) rfl,e 1 _ (by omega) rfl,e 2 _ (by omega) rfl,e 3 _ (by omega) rfl,e 4 _ (by omega) rfl,e 5 _ (by omega) rfl,e 6 _ (by omega) rfl⟩
theorem hasI_at {zs:List Int}{t:Int}(h:Vt zs t=true):∃i,i<zs.length/\iat zs i=t:=by
 unfold Vt at h
 rw[List.any_eq_true] at h
 obtain⟨y,hy,e⟩:=h
 obtain⟨i,hi,rfl⟩:=List.getElem_of_mem hy
 exact⟨i,hi,by rw[Vp hi];simpa using e⟩
theorem mid_pos {zs:List Int}{t:Int}{lo:Nat}(hm:∀i j,i<j->j<zs.length->iat zs i<iat zs j)(H:Mid (iat zs) zs.length t lo lo)(h:Vt zs t=true):lo<zs.length/\iat zs lo=t/\pos zs t=lo:=by
 have h1:=hasI_mid hm H
 rw[h] at h1
 simp only[Bool.true_eq,Bool.and_eq_true,decide_eq_true_eq,beq_iff_eq] at h1
 obtain⟨h2,h3⟩:=h1
 exact⟨h2,h3,by rw[<-h3];exact pos_at hm h2⟩
theorem ret_pos {n m:Nat}(h:n=m):Ending.returned (.tuple #[.int .i64 (m:Int),.bool true])=.returned (.tuple #[.int .i64 (n:Int),.bool true]):=by rw[h]
theorem binSearch_at (B:Nat)(v:Value)(zs:List Int)(t:Int)(w:World)(h0:Qo B w v zs)(ha:Yh zs=true)(hh:Vt zs t=true) :
  Calls Tryz.prog 72 #[v,.int .i64 t] w λe w'=>e=.returned (.tuple #[.int .i64 (pos zs t),.bool true])/\w'=w:=by
 have hm:Hid (∀i j,i<j->j<zs.length->iat zs i<iat zs j):=Yv (λi j=>rfl) ha
 have HH:Hid (Vt zs t=true):=hh
 clear ha hh
 obtain⟨a,cap,rfl,hn,hk⟩:=h0
 unfold maxLen at hn
 generalize hz:zs.length=n at *
 have HZ:Hid (zs.length=n):=hz
 clear hz
 go_enter Tryz.func72,Tryz.ntmps72
 go_wp2
 go_loop [7,8,9] (λi j h=>∃lo hi:Nat,lo<=hi/\hi<=n/\i=.int .i64 lo/\j=.int .i64 hi/\Hid (Mid (iat zs) n t lo hi)) (λi j _=>(intOf j).toNat-(intOf i).toNat)
 case atStart=>exact⟨0,n,Nat.zero_le _,Nat.le_refl _,rfl,rfl,mid_start _ _ _⟩
 case round=>
  obtain⟨lo,hi,h1,h2,rfl,rfl,hrel⟩:=hrel
  by_cases hlt:lo<hi
  ·obtain⟨b,off,rfl,hB,hb,hc⟩:=hk (by omega)
   obtain⟨h,hh,hh1,hh2⟩:=halve lo hi hlt (by omega)
   have hcc:=hc h (by omega)
   have hhn:(h:Int)<n:=by omega
   clear hc hk
   by_cases hab:iat zs h<t
   ·have HM:Hid (Mid (iat zs) n t (h+1) hi):=mid_up hm.out hrel.out hh2 hab hh1
    go_wp2_with (go_at_call 90;refine(less_any _ _ _).mono ?_;rintro e w' ⟨rfl,rfl⟩)
    go_round
    case rel=>exact⟨h+1,hi,by omega,by omega,by go_num,rfl,HM⟩
    case measure=>simp[intOf];omega
   ·have HM:Hid (Mid (iat zs) n t lo h):=mid_down hm.out hrel.out hh2 hab hh1
    have hd:decide (iat zs h<t)=false:=by simpa using hab
    go_wp2_with (go_at_call 90;refine(less_any _ _ _).mono ?_;rintro e w' ⟨rfl,rfl⟩)
    go_round
    case rel=>exact⟨lo,h,by omega,by omega,rfl,rfl,HM⟩
    case measure=>simp[intOf];omega
  ·have e:hi=lo:=by omega
   subst e
   have hp:hi<n/\iat zs hi=t/\pos zs t=hi:=by have z:=HZ.out;subst z;exact mid_pos hm.out hrel.out HH.out
   obtain⟨hl,he,hp⟩:=hp
   have HP:Hid (pos zs t=hi):=hp
   clear hp
   obtain⟨b,off,rfl,hB,hb,hc⟩:=hk (by omega)
   have hcc:=hc hi hl
   have hln:(hi:Int)<n:=by omega
   clear hc hk
   have hd:(iat zs hi==t)=true:=by simpa using he
   clear he
   go_wp2_with (go_at_call 91;refine(slNaN_any _ _).mono ?_;rintro e w' ⟨rfl,rfl⟩)
   go_ret2
   exact⟨ret_pos HP.out,rfl⟩
theorem Xx (B:Nat)(v0 v1 v2 v3:Value)(u id:Int)(zs:List Int)(w:World)(h0:Qo B w v0 zs)(ha:Yh zs=true)(hh:Vt zs id=true) :
  Calls Tryz.prog 42 #[.agg #[v0,v1,v2,v3,.int .i64 u],.int .i64 id] w λe w'=>e=.returned (.int .i64 (pos zs id))/\Nx w w':=by
 have HA:Hid (Yh zs=true/\Vt zs id=true):=⟨ha,hh⟩
 clear ha hh
 go_enter Tryz.func42,Tryz.ntmps42
 go_wp2_with (go_at_call 72;refine(binSearch_at B _ zs _ _ (by exact h0.next (Qc _ _)) HA.out.1 HA.out.2).mono ?_;rintro e w' ⟨rfl,rfl⟩)
 go_ret
 exact⟨rfl,Qc _ _⟩
theorem Xm:(Tryz.prog.info? 2).map (λi=>(i.zero,i.size,i.bytes))=some (some (.int .i64 0),1,8):=by kernel_rfl
def RW (w:World)(g n:Nat)(F:Nat->Int):Prop:=∃c:Array Value,w.heap[g]?=some (.cells c 2 (0,0))/\n<=c.size/\∀i,i<n->c[i]?=some (.int .i64 (F i))
theorem RW.of_rowIs {w:World}{g n:Nat}{F:Nat->Int}(h:w.rowIs g 2 n (λi=>.int .i64 (F i))):RW w g n F:=by
 obtain⟨c,h1,h2,h3⟩:=h
 exact⟨c,h1,by omega,h3⟩
theorem RW.lt {w:World}{g n:Nat}{F:Nat->Int}(h:RW w g n F):g<w.heap.size:=by
 obtain⟨c,h1,_⟩:=h
 exact(Array.getElem?_eq_some_iff.1 h1).1
theorem RW.cell {w:World}{g n:Nat}{F:Nat->Int}(h:RW w g n F){i:Nat}(hi:i<n):w.cell? ⟨g,i,none⟩=some (.int .i64 (F i)):=by
 obtain⟨c,hb,_,hc⟩:=h
 simp[World.cell?,hb,hc i hi]
theorem RW.frozen {w:World}{g n:Nat}{F:Nat->Int}(h:RW w g n F)(i:Nat):w.frozen? ⟨g,i,none⟩=false:=by
 obtain⟨c,hb,_,_⟩:=h
 simp[World.frozen?,hb]
theorem RW.congr {w:World}{g n:Nat}{F G:Nat->Int}(h:RW w g n F)(e:∀i,i<n->F i=G i):RW w g n G:=by
 obtain⟨c,hb,hn,hc⟩:=h
 exact⟨c,hb,hn,λi hi=>by rw[hc i hi,e i hi]⟩
theorem RW.of_block {w w':World}{g n:Nat}{F:Nat->Int}(h:RW w g n F)(e:w'.heap[g]?=w.heap[g]?):RW w' g n F:=by
 obtain⟨c,hb,hn,hc⟩:=h
 exact⟨c,e.trans hb,hn,hc⟩
theorem RW.next {w w':World}{g n:Nat}{F:Nat->Int}(h:RW w g n F)(k:Nx w w'):RW w' g n F:=h.of_block (k.block g h.lt)
theorem RW.alloc {w:World}{g n:Nat}{F:Nat->Int}(h:RW w g n F)(o:Obj):RW (w.alloc o) g n F:=h.next (Qc _ _)
theorem RW.set {w:World}{g n:Nat}{F:Nat->Int}(h:RW w g n F)(i:Nat)(z:Int):RW (w.setCell ⟨g,i,none⟩ (.int .i64 z)) g n (λj=>if j=i then z else F j):=by
 obtain⟨c,hb,hn,hc⟩:=h
 refine⟨c.setIfInBounds i (.int .i64 z),?_,by simpa using hn,λj hj=>?_⟩
 ·simp[World.setCell,Array.getElem?_modify,hb]
 ·rw[Array.getElem?_setIfInBounds]
  by_cases e:j=i
  ·subst e
   simp[show j<c.size by omega]
  ·rw[if_neg (λh=>e h.symm)]
   show c[j]?=some (.int .i64 (if j=i then z else F j))
   rw[if_neg e]
   exact hc j hj
theorem RW.setOther {w:World}{g n:Nat}{F:Nat->Int}(h:RW w g n F){a:Addr}(ha:g≠a.block)(v:Value):RW (w.setCell a v) g n F:=h.of_block (Below.heap_setCell _ _ _ _ ha)
theorem RW.held {w:World}{g n c:Nat}{F:Nat->Int}{zs:List Int}(h:RW w g n F)(hz:zs.length=n)(hm:n<=maxLen)(he:∀i,i<n->F i=iat zs i){B:Nat}(hB:B<=g):Qo B w (.slice (some ⟨g,0,none⟩) n c) zs:=by
 subst hz
 refine⟨_,_,rfl,hm,λh0=>⟨g,0,rfl,hB,h.lt,λi hi=>?_⟩⟩
 show w.cell? ⟨g,0+i,none⟩=_
 rw[Nat.zero_add,h.cell hi,he i hi]
def Qs (zs:List Int):List Value:=zs.map λz=>.int .i64 z
def Q6 (C:Nat)(w:World)(v:Value)(zs:List Int):Prop:=w.ownsRow C 2 1 v zs.length (Qs zs)
theorem Q6.next {B:Nat}{w w':World}{v:Value}{zs:List Int}(h:Q6 B w v zs)(k:Nx w w'):Q6 B w' v zs:=by
 obtain⟨h1,h2⟩:=h
 refine⟨h1,?_⟩
 rcases h2 with h2|⟨g,cap,cur,hv,hg,hh,r⟩
 ·exact Or.inl h2
 ·exact Or.inr ⟨g,cap,cur,hv,hg,(k.block g (Array.getElem?_eq_some_iff.1 hh).1).trans hh,r⟩
theorem icells_at {zs:List Int}{i:Nat}(hi:i<zs.length):(Qs zs)[i]?=some (.int .i64 (iat zs i)):=by rw[Vp hi];simp[Qs,hi]
theorem Q6.opened {B:Nat}{w:World}{v:Value}{zs:List Int}(h:Q6 B w v zs):(v=.slice none 0 0/\zs.length=0)\/∃g cap,v=.slice (some ⟨g,0,none⟩) zs.length cap/\B<=g/\zs.length<=maxLen/\RW w g zs.length (iat zs):=by
 obtain⟨h1,h2⟩:=h
 rcases h2 with⟨h2,h3⟩|⟨g,cap,cur,hv,hg,hh,hc,hm,hs,ht⟩
 ·exact Or.inl ⟨h2,h3⟩
 ·refine Or.inr ⟨g,cap,hv,hg,by omega,cur,hh,by omega,λi hi=>?_⟩
  have e:(cur.toList.take (zs.length*1))[i]?=(Qs zs)[i]?:=by rw[ht]
  rw[List.getElem?_take_of_lt (by omega),icells_at hi] at e
  rw[<-Array.getElem?_toList,e]
theorem Q6.held {B:Nat}{w:World}{v:Value}{zs:List Int}(h:Q6 B w v zs):Qo B w v zs:=by
 rcases h.opened with⟨rfl,h2⟩|⟨g,cap,rfl,hg,hm,hr⟩
 ·unfold Qo
  rw[h2]
  exact⟨_,_,rfl,by simp[maxLen],λh=>by omega⟩
 ·exact hr.held rfl hm (λi _=>rfl) hg
theorem ownI_none (B:Nat)(w:World)(h:B<=w.heap.size):Q6 B (w.alloc (.cells #[] 2)) (.slice (some ⟨w.heap.size,0,none⟩) 0 0) []:=
 ⟨rfl,.inr ⟨w.heap.size,0,#[],rfl,h,by show(w.heap.push _)[w.heap.size]?=_;simp,Nat.le_refl _,by simp[maxLen],by simp,by simp[Qs]⟩⟩
theorem clone_any (B:Nat)(v:Value)(zs:List Int)(w:World)(h0:Qo B w v zs)(hs:zs.length<=1048576) :
  Calls Tryz.prog 23 #[v] w λe w'=>(∃v',e=.returned v'/\Q6 w.heap.size w' v' zs)/\Nx w w':=by
 obtain⟨ii,hi,hz0,hz1,hz2⟩:=info_parts Xm
 have q22:∀(w:World) (a:Option Addr) (n c n' c':Nat),(binOp .eql 23 (.slice a n c) (.slice none n' c')).run Tryz.prog w=.ok (.bool a.isNone) w:=λw a n c n' c'=>Lib.run_eql_slice_nil w _ _ a n c n' c' Tryz.underlying23
 obtain⟨a,cap,rfl,hn,hk⟩:=h0
 cases a with
 |none=>
  have hz:zs.length=0:=by
   rcases Nat.eq_zero_or_pos zs.length with h|h
   ·exact h
   ·obtain⟨b,off,e,_⟩:=hk h
    simp at e
  rw[hz]
  go_enter Tryz.func23,Tryz.ntmps23
  go_wp2
  go_ret
  exact⟨⟨_,rfl,by simp[Qs,hz],Or.inl ⟨rfl,hz⟩⟩,Nx.refl _⟩
 |some ad=>
  have HI:Hid (∀j u,(Qs zs)[j]?=some u->w.cell? (ad.add j)=some u):=by
   intro j u hj
   have hjl:j<zs.length:=by have:=(List.getElem?_eq_some_iff.1 hj).1;simpa [Qs] using this
   obtain⟨b,off,e,_,_,hc⟩:=hk (by omega)
   obtain rfl:=Option.some.inj e
   rw[icells_at hjl] at hj
   rw[<-Option.some.inj hj]
   have h3:=hc j hjl
   cases j<;>simpa [Addr.add] using h3
  have HL:Hid ((Qs zs).length=zs.length):=by unfold Hid;simp[Qs]
  clear hk
  go_enter Tryz.func23,Tryz.ntmps23
  go_wp2_with (at_builtin;refine wpList_append_own _ rfl _ _ 23 rfl w.heap.size 2 ii (.int .i64 0) 1 8 Tryz.underlying23 hi hz0 hz1 hz2 rfl (by decide) _ _ _ rfl (ownI_none w.heap.size w (Nat.le_refl _)) ad zs.length cap (Qs zs) rfl ?c0 ?c1 ?c2 ?c3 ?c4 ?c5 ?_)
  case c0=>rw[Nat.mul_one];exact HL.out
  case c1=>
   intro j u hj
   exact Lib.cell?_alloc_some _ (HI.out j u hj)
  case c2=>intro u hu;simp[Qs] at hu;obtain⟨z,_,rfl⟩:=hu;rfl
  case c3=>unfold maxLen;simp;omega
  case c4=>simp;omega
  case c5=>simp
  intro v7 w7 hown' hgrow _
  have HV7:Hid (Q6 w.heap.size w7 v7 zs):=by
   unfold Hid Q6
   simpa [show Qs []=[] from rfl] using hown'
  have HN7:Hid (Nx w w7):=Below.grown (Qc _ _) hgrow (by simp) (λg hg=>(World.ownsRow.lt (ownI_none w.heap.size w (Nat.le_refl _)) g hg).1)
  clear hown' hgrow
  go_wp2
  go_ret
  exact⟨⟨_,rfl,HV7.out⟩,HN7.out⟩
def tlE (es:List Eg)(e:Nat):Nat:=(eat es e).tail.toNat
def F1 (tl:Nat->Nat)(k q:Nat):Int:=if q=0 then 0 else (cE tl (q-1) k:Nat)
def F2 (tl:Nat->Nat)(m p q:Nat):Int:=if q<=p then (cL tl q m:Nat) else F1 tl m q
def F3 (tl:Nat->Nat)(m k p:Nat):Int:=((cL tl p m+cE tl p k:Nat):Int)
theorem iat_map (f:Nat->Int){k i:Nat}(h:i<k):iat ((List.range k).map f) i=f i:=by rw[Vp (by simpa using h)];simp
theorem F1_zero (tl:Nat->Nat)(q:Nat):F1 tl 0 q=0:=by unfold F1;split<;>simp[cE]
theorem F1_at (tl:Nat->Nat)(k T:Nat):F1 tl k (T+1)=(cE tl T k:Nat):=by unfold F1;rw[if_neg (by omega)];rfl
theorem F1_step (tl:Nat->Nat)(k q:Nat):(if q=tl k+1 then ((cE tl (tl k) k:Nat):Int)+1 else F1 tl k q)=F1 tl (k+1) q:=by
 by_cases h:q=tl k+1
 ·subst h
  rw[if_pos rfl,F1_at,cE,if_pos rfl]
  omega
 ·rw[if_neg h]
  unfold F1
  by_cases h0:q=0
  ·rw[if_pos h0,if_pos h0]
  ·rw[if_neg h0,if_neg h0,cE,if_neg (by omega)]
   rfl
theorem F2_zero (tl:Nat->Nat)(m q:Nat):F1 tl m q=F2 tl m 0 q:=by
 unfold F2
 by_cases h:q<=0
 ·obtain rfl:q=0:=by omega
  rw[if_pos h,cL_zero]
  rfl
 ·rw[if_neg h]
theorem F2_here (tl:Nat->Nat)(m p:Nat):F2 tl m p p=(cL tl p m:Nat):=by unfold F2;rw[if_pos (Nat.le_refl _)]
theorem F2_up (tl:Nat->Nat)(m p:Nat):F2 tl m p (p+1)=(cE tl p m:Nat):=by unfold F2;rw[if_neg (by omega),F1_at]
theorem F2_step (tl:Nat->Nat)(m p q:Nat):(if q=p+1 then ((cE tl p m:Nat):Int)+(cL tl p m:Nat) else F2 tl m p q)=F2 tl m (p+1) q:=by
 by_cases h:q=p+1
 ·subst h
  rw[if_pos rfl,F2_here,cL_succ]
  omega
 ·rw[if_neg h]
  unfold F2
  by_cases h0:q<=p
  ·rw[if_pos h0,if_pos (by omega)]
  ·rw[if_neg h0,if_neg (by omega)]
theorem F2_end (tl:Nat->Nat)(m n q:Nat)(h:q<n+1):F2 tl m n q=(cL tl q m:Nat):=by unfold F2;rw[if_pos (by omega)]
theorem F3_zero (tl:Nat->Nat)(m p:Nat):((cL tl p m:Nat):Int)=F3 tl m 0 p:=by simp[F3,cE]
theorem F3_here (tl:Nat->Nat)(m k:Nat):F3 tl m k (tl k)=(rank tl m k:Nat):=rfl
theorem F3_step (tl:Nat->Nat)(m k q:Nat):(if q=tl k then ((rank tl m k:Nat):Int)+1 else F3 tl m k q)=F3 tl m (k+1) q:=by
 unfold F3
 by_cases h:q=tl k
 ·subst h
  rw[if_pos rfl,cE,if_pos rfl]
  unfold rank
  omega
 ·rw[if_neg h,cE,if_neg (λe=>h e.symm)]
  rfl
theorem group_any (B:Nat)(v:Value)(es:List Eg)(n:Nat)(w:World)(h0:V4 B w v es)(hn:n<=2000)(hm:es.length<=4000)(ht:∀e,e<es.length->0<=(eat es e).tail/\(eat es e).tail<n) :
  Calls Tryz.prog 22 #[.int .i64 n,v] w λe w'=>(∃gF gO c F,e=.returned (.tuple #[.slice (some ⟨gF,0,none⟩) (n+1) (n+1),.slice (some ⟨gO,0,none⟩) es.length c])/\w.heap.size<=gF/\gF<gO /\
   RW w' gF (n+1) (λq=>(cL (tlE es) q es.length:Nat))/\RW w' gO es.length F/\∀e,e<es.length->F (rank (tlE es) es.length e)=e)/\Nx w w':=by
 obtain⟨a,cap,rfl,hml,hk⟩:=h0
 have HTL:Hid (∀e,e<es.length->tlE es e<n):=λe he=>by have:=ht e he;unfold tlE;omega
 have HTI:Hid (∀e,e<es.length->(eat es e).tail=(tlE es e:Nat)):=λe he=>by have:=ht e he;unfold tlE;omega
 clear ht
 generalize htl:tlE es=tl at *
 generalize hz:es.length=m at *
 clear htl hz hml
 have hmk:=run_make_row' (P:=Tryz.prog) 23 2 (.int .i64 0) 8 Tryz.underlying23 Xm rfl .i64 .i64 (n+1) (by omega) (by omega)
 have hmk2:=run_make_row' (P:=Tryz.prog) 23 2 (.int .i64 0) 8 Tryz.underlying23 Xm rfl .i64 .i64 m (by omega) (by omega)
 have hcast:((n+1:Nat):Int)=(n:Int)+1:=by omega
 rw[hcast] at hmk
 go_enter Tryz.func22,Tryz.ntmps22
 go_wp2
 go_loopw [7,17] (λp i wr=>∃k:Nat,k<=m/\i=.int .i64 k/\Hid (RW wr w.heap.size (n+1) (F1 tl k))/\Hid (Nx w wr)) (λ_ i _=>m-(intOf i).toNat)
 case atStart=>exact⟨0,Nat.zero_le _,rfl,(RW.of_rowIs (World.rowIs_made _ _ _ _)).congr (λi _=>(F1_zero tl i).symm),Qc _ _⟩
 obtain⟨k,hkm,rfl,HR,HN⟩:=hrel
 by_cases hlt:k<m
 ·obtain⟨b,off,rfl,hB,hb,hc⟩:=hk (by omega)
  obtain⟨d0,d1,d2,d3,d4,d5,d6⟩:=hc k hlt
  have d0:=Q0 HN.out hb d0
  have d1:=Q0 HN.out hb d1
  have d2:=Q0 HN.out hb d2
  have d3:=Q0 HN.out hb d3
  have d4:=Q0 HN.out hb d4
  have d5:=Q0 HN.out hb d5
  have d6:=Q0 HN.out hb d6
  rw[HTI.out k hlt] at d0
  have hT:=HTL.out k hlt
  have HST:=mh (F1_step tl k)
  have r0:=HR.out.cell (i:=tl k+1) (by omega)
  rw[F1_at] at r0
  have r1:=HR.out.frozen (tl k+1)
  have hcE:=cE_le tl (tl k) k
  have hlt':(k:Int)<m:=by omega
  have hsz:=HR.out.lt
  generalize tl k=T at *
  generalize cE tl T k=c at *
  have hT':(T:Int)+1<(n:Int)+1:=by omega
  clear hc hk hmk hmk2
  go_wp2
  go_roundw
  case rel=>exact⟨k+1,by omega,by go_num,((HR.out.set (T+1) _).congr (λi _=>HST.out i)).alloc _,Nx.alloc (Below.setCell HN.out (Nat.le_refl _) _) _⟩
  case measure=>simp[intOf];omega
 have e:m=k:=by omega
 subst e
 have HR2:Hid (RW wr w.heap.size (n+1) (F2 tl m 0)):=HR.out.congr (λi _=>F2_zero tl m i)
 clear HR hkm hlt hmk
 go_wp2
 go_loopw [8,31] (λp i wr=>∃k:Nat,k<=n/\i=.int .i64 k/\Hid (RW wr w.heap.size (n+1) (F2 tl m k))/\Hid (Nx w wr)) (λ_ i _=>n-(intOf i).toNat)
 case atStart=>exact⟨0,Nat.zero_le _,rfl,HR2,HN⟩
 clear HR2 HN
 obtain⟨k,hkn,rfl,HR,HN⟩:=hrel
 by_cases hlt:k<n
 ·have HST:=mh (F2_step tl m k)
  have r0:=HR.out.cell (i:=k) (by omega)
  have r1:=HR.out.cell (i:=k+1) (by omega)
  rw[F2_here] at r0
  rw[F2_up] at r1
  have f1:=HR.out.frozen (k+1)
  have hcE:=cE_le tl k m
  have hcL:=cL_le tl k m
  have hlt':(k:Int)<n:=by omega
  have hlt2:(k:Int)+1<(n:Int)+1:=by omega
  have hlt3:(k:Int)<(n:Int)+1:=by omega
  have hsz:=HR.out.lt
  generalize cE tl k m=c at *
  generalize cL tl k m=d at *
  have hw1:IntKind.i64.wrap ((k:Int)+1)=(k:Int)+1:=by rw[IntKind.wrap_i64];omega
  have hw2:IntKind.i64.wrap ((c:Int)+(d:Int))=(c:Int)+(d:Int):=by rw[IntKind.wrap_i64];omega
  have hw3:((k:Int)+1).toNat=k+1:=by omega
  have hw4:(k:Int)+1<((n+1:Nat):Int):=by omega
  have hw5:(k:Int)<((n+1:Nat):Int):=by omega
  have hw6:¬(k:Int)+1<0:=by omega
  clear hk hmk2
  go_wp2
  go_region_with (fail)
  all_goals go_wp2
  all_goals
   go_roundw
   case rel=>exact⟨k+1,by omega,by go_num,(HR.out.set (k+1) _).congr (λi _=>HST.out i),Nx.drew (Below.setCell (p:=⟨w.heap.size,k+1,none⟩) HN.out (Nat.le_refl _) _)⟩
   case measure=>simp[intOf];omega
 have e:n=k:=by omega
 subst e
 have HRF:Hid (RW wr w.heap.size (n+1) (λq=>(cL tl q m:Nat))):=HR.out.congr (λi hi=>F2_end tl m n i hi)
 have HIN:Hid (Qo 0 wr (.slice (some ⟨w.heap.size,0,none⟩) (n+1) (n+1)) ((List.range (n+1)).map λq=>((cL tl q m:Nat):Int))):=
  HRF.out.held (by simp) (by unfold maxLen;omega) (λi hi=>(iat_map (λq=>((cL tl q m:Nat):Int)) hi).symm) (Nat.zero_le _)
 clear HR hkn hlt
 go_wp2_with fail
 refine(clone_any 0 _ ((List.range (n+1)).map λq=>((cL tl q m:Nat):Int)) _ HIN.out (by simp;omega)).mono ?_
 rintro e w3 ⟨⟨v',rfl,ho⟩,hx⟩
 rcases ho.opened with⟨_,h2⟩|⟨gN,cN,hv,hg,_,hr⟩
 ·simp at h2
 simp only[List.length_map,List.length_range] at hv hr
 subst hv
 have HRN:Hid (RW w3 gN (n+1) (F3 tl m 0)):=hr.congr (λi hi=>by rw[iat_map (λq=>((cL tl q m:Nat):Int)) hi];exact F3_zero tl m i)
 have HRF3:=mh (HRF.out.next hx)
 have HN3:Hid (Nx w w3):=HN.out.trans hx
 have hg1:w.heap.size<gN:=Nat.lt_of_lt_of_le HRF.out.lt hg
 have hg2:gN<w3.heap.size:=HRN.out.lt
 have HG:Hid (w.heap.size<gN/\gN<w3.heap.size):=⟨hg1,hg2⟩
 clear ho hr hx HRF HIN HN hg
 go_wp2
 go_loopw [10,11,53] (λp q i wr=>∃k:Nat,k<=m/\i=.int .i64 k/\Hid (RW wr w.heap.size (n+1) (λq=>(cL tl q m:Nat)))/\Hid (RW wr gN (n+1) (F3 tl m k))/\Hid (∃F,RW wr w3.heap.size m F/\∀e,e<k->F (rank tl m e)=e)/\Hid (Nx w wr)) (λ_ _ i _=>m-(intOf i).toNat)
 case atStart=>exact⟨0,Nat.zero_le _,rfl,HRF3.out.alloc _,HRN.out.alloc _,⟨λ_=>0,RW.of_rowIs (World.rowIs_made _ _ _ _),λe he=>absurd he (Nat.not_lt_zero _)⟩,HN3.out.alloc _⟩
 clear HRF3 HRN HN3 hmk2
 obtain⟨k,hkm,rfl,HRF,HRN,HRO,HN⟩:=hrel
 by_cases hlt:k<m
 ·obtain⟨b,off,rfl,hB,hb,hc⟩:=hk (by omega)
  obtain⟨d0,d1,d2,d3,d4,d5,d6⟩:=hc k hlt
  have d0:=Q0 HN.out hb d0
  have d1:=Q0 HN.out hb d1
  have d2:=Q0 HN.out hb d2
  have d3:=Q0 HN.out hb d3
  have d4:=Q0 HN.out hb d4
  have d5:=Q0 HN.out hb d5
  have d6:=Q0 HN.out hb d6
  rw[HTI.out k hlt] at d0
  have hT:=HTL.out k hlt
  have HST:=mh (F3_step tl m k)
  have r0:=HRN.out.cell (i:=tl k) (by omega)
  rw[F3_here] at r0
  have r1:=HRN.out.frozen (tl k)
  have hrk:rank tl m k<m:=rank_lt hlt HTL.out
  obtain⟨F,hF1,hF2⟩:=HRO.out
  have o0:=hF1.cell hrk
  have o1:=hF1.frozen (rank tl m k)
  have HO':Hid (∃F,RW (wr.setCell ⟨w3.heap.size,rank tl m k,none⟩ (.int .i64 k)) w3.heap.size m F/\∀e,e<k+1->F (rank tl m e)=e):=by
   refine⟨_,hF1.set (rank tl m k) k,λe he=>?_⟩
   by_cases ee:e=k
   ·subst ee
    simp
   ·have:rank tl m e≠rank tl m k:=λh=>ee (rank_inj (by omega) hlt HTL.out h)
    simp only[if_neg this]
    exact hF2 e (by omega)
  have hlt':(k:Int)<m:=by omega
  have hg1:=HG.out.1
  have hg2:=HG.out.2
  have hne1:gN≠w3.heap.size:=by omega
  have hne2:w3.heap.size≠gN:=by omega
  have hne3:w.heap.size≠gN:=by omega
  have hne4:w.heap.size≠w3.heap.size:=by omega
  have hrk':((rank tl m k:Nat):Int)<m:=by omega
  have hsN:=HRN.out.lt
  have hsO:=hF1.lt
  clear hF1 hF2
  generalize rank tl m k=R at *
  generalize F R=fr at *
  generalize tl k=T at *
  have hT':(T:Int)<(n:Int)+1:=by omega
  clear hc hk
  go_wp2
  go_roundw
  case rel=>exact⟨k+1,by omega,by go_num,((HRF.out.setOther hne4 _).setOther hne3 _).alloc _,(((HRN.out.setOther hne1 _).set T _).congr (λi _=>HST.out i)).alloc _,(by obtain⟨F,h1,h2⟩:=HO'.out;exact⟨F,(h1.setOther hne2 _).alloc _,h2⟩),Nx.alloc (Below.setCell (Below.setCell HN.out (by show w.heap.size<=w3.heap.size;omega) _) (by show w.heap.size<=gN;omega) _) _⟩
  case measure=>simp[intOf];omega
 have e:m=k:=by omega
 subst e
 go_wp2
 go_ret2
 obtain⟨F,h1,h2⟩:=HRO.out
 exact⟨⟨_,_,_,F,rfl,Nat.le_refl _,Nat.lt_trans HG.out.1 HG.out.2,HRF.out,h1,h2⟩,HN.out⟩
structure Ja (o:Option Nat)(w w':World):Prop where
 os:w'.os=w.os
 tape:w'.tape=w.tape
 output:w'.output=w.output
 size:w.heap.size<=w'.heap.size
 block:∀b,b<w.heap.size->some b≠o->w'.heap[b]?=w.heap[b]?
theorem Ja.refl (o:Option Nat)(w:World):Ja o w w:=⟨rfl,rfl,rfl,Nat.le_refl _,λ_ _ _=>rfl⟩
theorem Ja.set {o:Option Nat}{w w':World}(h:Ja o w w'){g i:Nat}(hg:o=some g)(u:Value):Ja o w (w'.setCell ⟨g,i,none⟩ u):=
 ⟨h.os,h.tape,h.output,by simpa [World.setCell] using h.size,λb hb hn=>(Below.heap_setCell _ _ _ _ (λe=>hn (by rw[hg,e]))).trans (h.block b hb hn)⟩
theorem Ja.below {o:Option Nat}{w w':World}(h:Ja o w w'){B:Nat}(hB:∀g,o=some g->B<=g)(hs:B<=w.heap.size):Below B w w':=
 ⟨h.os,h.tape,h.output,h.size,λk hk=>h.block k (by omega) (λe=>by have:=hB k e.symm;omega)⟩
def SI (w:World)(v:Value)(n:Nat)(F:Nat->Int):Prop:=∃a c,v=.slice a n c/\(0<n->∃g,a=some ⟨g,0,none⟩/\RW w g n F)
def RE (w:World)(g n:Nat)(V:Nat->Nat->Value):Prop:=∃c:Array Value,w.heap[g]?=some (.cells c 49 (0,0))/\n*7<=c.size/\∀i j,i<n->j<7->c[i*7+j]?=some (V i j)
theorem RE.cell {w:World}{g n:Nat}{V:Nat->Nat->Value}(h:RE w g n V){i j:Nat}(hi:i<n)(hj:j<7):w.cell? ⟨g,i*7+j,none⟩=some (V i j):=by
 obtain⟨c,hb,_,hc⟩:=h
 simp[World.cell?,hb,hc i j hi hj]
theorem RE.frozen {w:World}{g n:Nat}{V:Nat->Nat->Value}(h:RE w g n V)(o:Nat):w.frozen? ⟨g,o,none⟩=false:=by
 obtain⟨c,hb,_,_⟩:=h
 simp[World.frozen?,hb]
theorem RE.set {w:World}{g n:Nat}{V:Nat->Nat->Value}(h:RE w g n V){i j:Nat}(hi:i<n)(hj:j<7)(u:Value):RE (w.setCell ⟨g,i*7+j,none⟩ u) g n (λi' j'=>if i'=i/\j'=j then u else V i' j'):=by
 obtain⟨c,hb,hn,hc⟩:=h
 have hm:(i+1)*7<=n*7:=Nat.mul_le_mul_right 7 hi
 refine⟨c.setIfInBounds (i*7+j) u,by simp[World.setCell,Array.getElem?_modify,hb],by simpa using hn,λi' j' hi' hj'=>?_⟩
 by_cases e:i'=i/\j'=j
 ·obtain⟨rfl,rfl⟩:=e
  rw[Array.getElem?_setIfInBounds]
  simp[show i'*7+j'<c.size by omega]
 ·have hne:i*7+j≠i'*7+j':=by omega
  rw[Array.getElem?_setIfInBounds,if_neg hne]
  show c[i'*7+j']?=some (if i'=i/\j'=j then u else V i' j')
  rw[if_neg e]
  exact hc i' j' hi' hj'
def SE (w:World)(v:Value)(n:Nat)(V:Nat->Nat->Value):Prop:=∃a c,v=.slice a n c/\(0<n->∃g,a=some ⟨g,0,none⟩/\RE w g n V)
def mV (z:Int):Nat->Value
 |0=>.int .i64 z
 |1=>.int .i64 (z+1)
 |2=>.int .i64 (z+1+1)
 |3=>.int .i64 (z+1+1+1)
 |4=>.int .i64 (z+1+1+1+1)
 |5=>.bool ((z+1+1+1+1+1)%3==0)
 |_=>.int .i64 (z+1+1+1+1+1+1)
theorem RE.congr {w:World}{g n:Nat}{V U:Nat->Nat->Value}(h:RE w g n V)(e:∀i j,i<n->j<7->V i j=U i j):RE w g n U:=by
 obtain⟨c,hb,hn,hc⟩:=h
 exact⟨c,hb,hn,λi j hi hj=>by rw[hc i j hi hj,e i j hi hj]⟩
theorem RE.mark {w:World}{g n:Nat}{V:Nat->Nat->Value}(h:RE w g n V){i:Nat}(hi:i<n)(z:Int) :
  RE (((((((w.setCell ⟨g,i*7,none⟩ (.int .i64 z)).setCell ⟨g,i*7+1,none⟩ (.int .i64 (z+1))).setCell ⟨g,i*7+2,none⟩ (.int .i64 (z+1+1))).setCell ⟨g,i*7+3,none⟩ (.int .i64 (z+1+1+1))).setCell ⟨g,i*7+4,none⟩ (.int .i64 (z+1+1+1+1))).setCell ⟨g,i*7+5,none⟩ (.bool ((z+1+1+1+1+1)%3==0))).setCell ⟨g,i*7+6,none⟩ (.int .i64 (z+1+1+1+1+1+1))) g n (λi' j'=>if i'=i then mV z j' else V i' j'):=by
 have h':=((((((h.set hi (j:=0) (by omega) (.int .i64 z)).set hi (j:=1) (by omega) (.int .i64 (z+1))).set hi (j:=2) (by omega) (.int .i64 (z+1+1))).set hi (j:=3) (by omega) (.int .i64 (z+1+1+1))).set hi (j:=4) (by omega) (.int .i64 (z+1+1+1+1))).set hi (j:=5) (by omega) (.bool ((z+1+1+1+1+1)%3==0))).set hi (j:=6) (by omega) (.int .i64 (z+1+1+1+1+1+1))
 refine RE.congr h' λi' j' _ hj'=>?_
 by_cases e:i'=i
 ·subst e
  rcases (show j'=0\/j'=1\/j'=2\/j'=3\/j'=4\/j'=5\/j'=6 by omega) with rfl|rfl|rfl|rfl|rfl|rfl|rfl<;>simp[mV]
 ·simp[e]
theorem pos_first {zs:List Int}{t:Int}{k:Nat}(hk:k<zs.length)(h:iat zs k=t)(hn:∀i,i<k->iat zs i≠t):pos zs t=k:=by
 unfold pos
 rw[List.findIdx_eq hk]
 refine⟨by rw[Vp hk] at h;simpa using h,λj hj=>?_⟩
 have:=hn j hj
 rw[Vp (by omega)] at this
 simpa using this
theorem ret_nat {a b:Nat}(h:b=a):Ending.returned (.int .i64 (a:Int))=.returned (.int .i64 (b:Int)):=by rw[h]
theorem l2Position_any (B:Nat)(v0 v1 v2 v3:Value)(u id:Int)(zs:List Int)(w:World)(h0:Qo B w v0 zs)(hh:Vt zs id=true) :
  Calls Tryz.prog 43 #[.agg #[v0,v1,v2,v3,.int .i64 u],.int .i64 id] w λe w'=>e=.returned (.int .i64 (pos zs id))/\Nx w w':=by
 have HH:Hid (∃i,i<zs.length/\iat zs i=id):=hasI_at hh
 clear hh
 obtain⟨a,cap,rfl,hn,hk⟩:=h0
 unfold maxLen at hn
 generalize hz:zs.length=n at *
 have HZ:Hid (zs.length=n):=hz
 clear hz
 go_enter Tryz.func43,Tryz.ntmps43
 go_wp2
 go_loopw [5] (λi wr=>∃k:Nat,k<=n/\i=.int .i64 k/\Hid (∀j,j<k->iat zs j≠id)/\wr=w.alloc (.cells #[.slice a n cap,v1,v2,v3,.int .i64 u] 28)) (λi _=>n-(intOf i).toNat)
 case atStart=>exact⟨0,Nat.zero_le _,rfl,λj hj=>absurd hj (Nat.not_lt_zero _),rfl⟩
 obtain⟨k,hkn,rfl,HK,rfl⟩:=hrel
 by_cases hlt:k<n
 ·obtain⟨b,off,rfl,hB,hb,hc⟩:=hk (by omega)
  have hcc:=hc k hlt
  have hlt':(k:Int)<n:=by omega
  clear hc hk
  by_cases he:iat zs k=id
  ·have HP:Hid (pos zs id=k):=pos_first (by rw[HZ.out];exact hlt) he HK.out
   have hd:(iat zs k==id)=true:=by simpa using he
   clear he
   go_wp2
   go_ret
   exact⟨ret_nat HP.out,Qc _ _⟩
  ·have HK':Hid (∀j,j<k+1->iat zs j≠id):=λj hj=>by
    by_cases e:j=k
    ·subst e;exact he
    ·exact HK.out j (by omega)
   have hd:(iat zs k==id)=false:=by simpa using he
   clear he
   go_wp2
   go_roundw
   case rel=>exact⟨k+1,by omega,by go_num,HK',trivial⟩
   case measure=>simp[intOf];omega
 ·obtain⟨i,hi,he⟩:=HH.out
  exact absurd he (HK.out i (by omega))
end Go.Proofs.YthhbdfiopjclcaaGreatDoor
