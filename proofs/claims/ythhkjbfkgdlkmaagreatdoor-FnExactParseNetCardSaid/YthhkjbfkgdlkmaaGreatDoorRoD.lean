import Derived.Test.YthhkjbfkgdlkmaaGreatDoorRoA
import Derived.Test.YthhkjbfkgdlkmaaGreatDoorImA
import Derived.Test.YthhkjbfkgdlkmaaGreatDoorToA
import Derived.OwnWalk
import Derived.Lib.OthersKept
import Derived.Deep.OwnRows
import Derived.Lib.SliceRun
namespace Go.Proofs.YthhkjbfkgdlkmaaGreatDoor
open Go.RowKit
set_option linter.unusedVariables false
set_option maxRecDepth 1000000
set_option maxHeartbeats 16000000
def cells7 (x:Eg):List Value:=[.int .i64 x.tail,.int .i64 x.head,.int .i64 x.weight,.int .i64 x.way,.int .i64 x.seg,.bool x.back,.int .i64 x.twin]
def HEdge (w:World)(b o:Nat)(x:Eg):Prop:=
 w.cell? ⟨b,o,none⟩=some (.int .i64 x.tail)/\w.cell? ⟨b,o+1,none⟩=some (.int .i64 x.head)/\w.cell? ⟨b,o+2,none⟩=some (.int .i64 x.weight)/\w.cell? ⟨b,o+3,none⟩=some (.int .i64 x.way) /\
  w.cell? ⟨b,o+4,none⟩=some (.int .i64 x.seg)/\w.cell? ⟨b,o+5,none⟩=some (.bool x.back)/\w.cell? ⟨b,o+6,none⟩=some (.int .i64 x.twin)
def HEdges (B:Nat)(w:World)(v:Value)(es:List Eg):Prop:=HSlice B w v es.length λb off i=>HEdge w b (off+i*7) (eat es i)
theorem HEdge.keep {B:Nat}{w w':World}{b o:Nat}{x:Eg}(h:HEdge w b o x)(k:Keeps B w w')(hB:B<=b)(hs:b<w.heap.size):HEdge w' b o x:=by
 obtain⟨h0,h1,h2,h3,h4,h5,h6⟩:=h
 exact⟨(k.2 b hB hs _).trans h0,(k.2 b hB hs _).trans h1,(k.2 b hB hs _).trans h2,(k.2 b hB hs _).trans h3,(k.2 b hB hs _).trans h4,(k.2 b hB hs _).trans h5,(k.2 b hB hs _).trans h6⟩
theorem HEdges.keep {B:Nat}{w w':World}{v:Value}{es:List Eg}(h:HEdges B w v es)(k:Keeps B w w'):HEdges B w' v es:=
 HSlice.mono h (Nat.le_refl _) k.1 λb off hb hs i hi hc=>hc.keep k hb hs
theorem HEdges.next {B:Nat}{w w':World}{v:Value}{es:List Eg}(h:HEdges B w v es)(k:Nx w w'):HEdges B w' v es:=h.keep (k.keeps B)
theorem infoInt:(Tryz.prog.info? 2).map (λi=>(i.zero,i.size,i.bytes))=some (some (.int .i64 0),1,8):=by kernel_rfl
def RW (w:World)(g n:Nat)(F:Nat->Int):Prop:=∃c:Array Value,w.heap[g]?=some (.cells c 2 (0,0))/\n<=c.size/\∀i,i<n->c[i]?=some (.int .i64 (F i))
theorem RW.lt {w:World}{g n:Nat}{F:Nat->Int}(h:RW w g n F):g<w.heap.size:=by
 obtain⟨c,h1,_⟩:=h
 exact(Array.getElem?_eq_some_iff.1 h1).1
theorem RW.cell {w:World}{g n:Nat}{F:Nat->Int}(h:RW w g n F){i:Nat}(hi:i<n):w.cell? ⟨g,i,none⟩=some (.int .i64 (F i)):=by
 obtain⟨c,hb,_,hc⟩:=h
 simp[World.cell?,hb,hc i hi]
theorem RW.frozen {w:World}{g n:Nat}{F:Nat->Int}(h:RW w g n F)(i:Nat):w.frozen? ⟨g,i,none⟩=false:=by
 obtain⟨c,hb,_,_⟩:=h
 simp[World.frozen?,hb]
theorem RW.congr {w:World}{g n:Nat}{F G:Nat->Int}(h:RW w g n F)(e:∀i,i<n->F i=G i):RW w g n G:=by
 obtain⟨c,hb,hn,hc⟩:=h
 exact⟨c,hb,hn,λi hi=>by rw[hc i hi,e i hi]⟩
theorem RW.of_block {w w':World}{g n:Nat}{F:Nat->Int}(h:RW w g n F)(e:w'.heap[g]?=w.heap[g]?):RW w' g n F:=by
 obtain⟨c,hb,hn,hc⟩:=h
 exact⟨c,e.trans hb,hn,hc⟩
theorem RW.next {w w':World}{g n:Nat}{F:Nat->Int}(h:RW w g n F)(k:Nx w w'):RW w' g n F:=h.of_block (k.block g h.lt)
theorem RW.alloc {w:World}{g n:Nat}{F:Nat->Int}(h:RW w g n F)(o:Obj):RW (w.alloc o) g n F:=h.next (box1 _ _)
theorem RW.set {w:World}{g n:Nat}{F:Nat->Int}(h:RW w g n F)(i:Nat)(z:Int):RW (w.setCell ⟨g,i,none⟩ (.int .i64 z)) g n (λj=>if j=i then z else F j):=by
 obtain⟨c,hb,hn,hc⟩:=h
 refine⟨c.setIfInBounds i (.int .i64 z),?_,by simpa using hn,λj hj=>?_⟩
 ·simp[World.setCell,Array.getElem?_modify,hb]
 ·rw[Array.getElem?_setIfInBounds]
  by_cases e:j=i
  ·subst e
   simp[show j<c.size by omega]
  ·rw[if_neg (λh=>e h.symm)]
   show c[j]?=some (.int .i64 (if j=i then z else F j))
   rw[if_neg e]
   exact hc j hj
theorem RW.setOther {w:World}{g n:Nat}{F:Nat->Int}(h:RW w g n F){a:Addr}(ha:g≠a.block)(v:Value):RW (w.setCell a v) g n F:=h.of_block (Below.heap_setCell _ _ _ _ ha)
theorem RW.held {w:World}{g n c:Nat}{F:Nat->Int}{zs:List Int}(h:RW w g n F)(hz:zs.length=n)(hm:n<=maxLen)(he:∀i,i<n->F i=iat zs i){B:Nat}(hB:B<=g):HInts B w (.slice (some ⟨g,0,none⟩) n c) zs:=by
 subst hz
 refine⟨_,_,rfl,hm,λh0=>⟨g,0,rfl,hB,h.lt,λi hi=>?_⟩⟩
 show w.cell? ⟨g,0+i,none⟩=_
 rw[Nat.zero_add,h.cell hi,he i hi]
def icells (zs:List Int):List Value:=zs.map λz=>.int .i64 z
def OwnI (C:Nat)(w:World)(v:Value)(zs:List Int):Prop:=w.ownsRow C 2 1 v zs.length (icells zs)
theorem OwnI.next {B:Nat}{w w':World}{v:Value}{zs:List Int}(h:OwnI B w v zs)(k:Nx w w'):OwnI B w' v zs:=by
 obtain⟨h1,h2⟩:=h
 refine⟨h1,?_⟩
 rcases h2 with h2|⟨g,cap,cur,hv,hg,hh,r⟩
 ·exact Or.inl h2
 ·exact Or.inr ⟨g,cap,cur,hv,hg,(k.block g (Array.getElem?_eq_some_iff.1 hh).1).trans hh,r⟩
theorem icells_at {zs:List Int}{i:Nat}(hi:i<zs.length):(icells zs)[i]?=some (.int .i64 (iat zs i)):=by rw[iat_eq hi];simp[icells,hi]
theorem OwnI.opened {B:Nat}{w:World}{v:Value}{zs:List Int}(h:OwnI B w v zs):(v=.slice none 0 0/\zs.length=0)\/∃g cap,v=.slice (some ⟨g,0,none⟩) zs.length cap/\B<=g/\zs.length<=maxLen/\RW w g zs.length (iat zs):=by
 obtain⟨h1,h2⟩:=h
 rcases h2 with⟨h2,h3⟩|⟨g,cap,cur,hv,hg,hh,hc,hm,hs,ht⟩
 ·exact Or.inl ⟨h2,h3⟩
 ·refine Or.inr ⟨g,cap,hv,hg,by omega,cur,hh,by omega,λi hi=>?_⟩
  have e:(cur.toList.take (zs.length*1))[i]?=(icells zs)[i]?:=by rw[ht]
  rw[List.getElem?_take_of_lt (by omega),icells_at hi] at e
  rw[<-Array.getElem?_toList,e]
theorem OwnI.held {B:Nat}{w:World}{v:Value}{zs:List Int}(h:OwnI B w v zs):HInts B w v zs:=by
 rcases h.opened with⟨rfl,h2⟩|⟨g,cap,rfl,hg,hm,hr⟩
 ·unfold HInts
  rw[h2]
  exact⟨_,_,rfl,by simp[maxLen],λh=>by omega⟩
 ·exact hr.held rfl hm (λi _=>rfl) hg
theorem ownI_none (B:Nat)(w:World)(h:B<=w.heap.size):OwnI B (w.alloc (.cells #[] 2)) (.slice (some ⟨w.heap.size,0,none⟩) 0 0) []:=
 ⟨rfl,.inr ⟨w.heap.size,0,#[],rfl,h,by show(w.heap.push _)[w.heap.size]?=_;simp,Nat.le_refl _,by simp[maxLen],by simp,by simp[icells]⟩⟩
def F1 (tl:Nat->Nat)(k q:Nat):Int:=if q=0 then 0 else (cE tl (q-1) k:Nat)
structure Only (o:Option Nat)(w w':World):Prop where
 os:w'.os=w.os
 tape:w'.tape=w.tape
 output:w'.output=w.output
 size:w.heap.size<=w'.heap.size
 block:∀b,b<w.heap.size->some b≠o->w'.heap[b]?=w.heap[b]?
theorem Only.refl (o:Option Nat)(w:World):Only o w w:=⟨rfl,rfl,rfl,Nat.le_refl _,λ_ _ _=>rfl⟩
theorem Only.set {o:Option Nat}{w w':World}(h:Only o w w'){g i:Nat}(hg:o=some g)(u:Value):Only o w (w'.setCell ⟨g,i,none⟩ u):=
 ⟨h.os,h.tape,h.output,by simpa [World.setCell] using h.size,λb hb hn=>(Below.heap_setCell _ _ _ _ (λe=>hn (by rw[hg,e]))).trans (h.block b hb hn)⟩
theorem Only.below {o:Option Nat}{w w':World}(h:Only o w w'){B:Nat}(hB:∀g,o=some g->B<=g)(hs:B<=w.heap.size):Below B w w':=
 ⟨h.os,h.tape,h.output,h.size,λk hk=>h.block k (by omega) (λe=>by have:=hB k e.symm;omega)⟩
def SI (w:World)(v:Value)(n:Nat)(F:Nat->Int):Prop:=∃a c,v=.slice a n c/\(0<n->∃g,a=some ⟨g,0,none⟩/\RW w g n F)
theorem markI_any (v:Value)(n:Nat)(F:Nat->Int)(w:World)(k:Int)(h0:SI w v n F)(hs:n<=1048576)(hk0:0<=k)(hk1:k<=4611686018427387904) :
  Calls Tryz.prog 41 #[v,.int .i64 k] w λe w'=>e=.returned (.int .i64 (k+n))/\SI w' v n (λi=>k+i)/\Only v.ownBlock w w':=by
 obtain⟨a,c,rfl,hk⟩:=h0
 go_enter Tryz.func41,Tryz.ntmps41
 go_wp2
 go_loopw [1,5] (λm i wr=>∃j:Nat,j<=n/\i=.int .i64 j/\m=.int .i64 (k+j)/\Hid (∃G,SI wr (.slice a n c) n G/\∀i,i<j->G i=k+i)/\Hid (Only (Value.slice a n c).ownBlock w wr)) (λ_ i _=>n-(intOf i).toNat)
 case atStart=>exact⟨0,Nat.zero_le _,rfl,by simp,⟨F,⟨a,c,rfl,hk⟩,λi hi=>absurd hi (Nat.not_lt_zero _)⟩,Only.refl _ _⟩
 obtain⟨j,hjn,rfl,rfl,HM,HO⟩:=hrel
 clear hk
 by_cases hlt:j<n
 ·obtain⟨G,⟨a',c',e0,hk⟩,hG⟩:=HM.out
  simp only[Value.slice.injEq,true_and] at e0
  obtain⟨rfl,rfl⟩:=e0
  obtain⟨g,rfl,hr⟩:=hk (by omega)
  have c0:=hr.cell hlt
  have f0:=hr.frozen j
  have HM':Hid (∃G,SI (wr.setCell ⟨g,j,none⟩ (.int .i64 (k+j))) (.slice (some ⟨g,0,none⟩) n c) n G/\∀i,i<j+1->G i=k+i):=by
   refine⟨_,⟨_,_,rfl,λ_=>⟨g,rfl,hr.set j (k+j)⟩⟩,λi hi=>?_⟩
   by_cases e:i=j
   ·subst e;simp
   ·simp only[if_neg e]
    exact hG i (by omega)
  have HO':Hid (Only (Value.slice (some ⟨g,0,none⟩) n c).ownBlock w (wr.setCell ⟨g,j,none⟩ (.int .i64 (k+j)))):=HO.out.set rfl _
  have hlt':(j:Int)<n:=by omega
  clear hk hr hG HM HO
  generalize G j=gj at *
  go_wp2
  go_roundw
  case rel=>exact⟨j+1,by omega,by go_num,by go_num,HM',HO'⟩
  case measure=>simp[intOf];omega
 ·have e:j=n:=by omega
  subst e
  go_wp2
  go_ret
  refine⟨rfl,?_,HO.out⟩
  obtain⟨G,⟨a',c',e0,hk⟩,hG⟩:=HM.out
  refine⟨a',c',e0,λh0=>?_⟩
  obtain⟨g,e1,hr⟩:=hk h0
  exact⟨g,e1,hr.congr λi hi=>hG i hi⟩
theorem heldI_any (v:Value)(n:Nat)(w:World)(k:Int)(h0:SI w v n (λi=>k+i))(hs:n<=1048576)(hk0:0<=k)(hk1:k<=4611686018427387904) :
  Calls Tryz.prog 45 #[v,.int .i64 k] w λe w'=>e=.returned (.int .i64 (k+n))/\w'=w:=by
 obtain⟨a,c,rfl,hk⟩:=h0
 go_enter Tryz.func45,Tryz.ntmps45
 go_wp2
 go_loopw [1,5] (λm i wr=>∃j:Nat,j<=n/\i=.int .i64 j/\m=.int .i64 (k+j)/\wr=w) (λ_ i _=>n-(intOf i).toNat)
 case atStart=>exact⟨0,Nat.zero_le _,rfl,by simp,rfl⟩
 obtain⟨j,hjn,rfl,rfl,rfl⟩:=hrel
 by_cases hlt:j<n
 ·obtain⟨g,rfl,hr⟩:=hk (by omega)
  have c0:=hr.cell hlt
  have hlt':(j:Int)<n:=by omega
  have hne:(k+(j:Int) !=k+(j:Int))=false:=by simp
  clear hk hr
  go_wp2
  go_roundw
  case rel=>exact⟨j+1,by omega,by go_num,by go_num,trivial⟩
  case measure=>simp[intOf];omega
 ·have e:j=n:=by omega
  subst e
  go_wp2
  go_ret
  exact⟨rfl,rfl⟩
end Go.Proofs.YthhkjbfkgdlkmaaGreatDoor
