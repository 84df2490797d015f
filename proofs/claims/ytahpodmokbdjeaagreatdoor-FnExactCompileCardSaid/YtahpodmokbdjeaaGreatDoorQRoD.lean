import Derived.Test.YtahpodmokbdjeaaGreatDoorQRoA
import Derived.Test.YtahpodmokbdjeaaGreatDoorQImA
import Derived.Test.YtahpodmokbdjeaaGreatDoorQToA
import Derived.OwnWalk
import Derived.Lib.OthersKept
import Derived.Lib.SliceRun
namespace Go.Proofs.YtahpodmokbdjeaaGreatDoor
open Go.RowKit Tryz
set_option linter.unusedVariables false
set_option maxRecDepth 1000000
set_option maxHeartbeats 16000000
theorem Q4t:(prog.info? 75).map (λi=>(i.zero,i.size,i.bytes))=some (some (.agg #[iV 0,iV 0,iV 0,iV 0,iV 0,.bool false,iV 0]),7,56):=by kernel_rfl
def Vg (x:Eg):List Value:=[iV x.tail,iV x.head,iV x.weight,iV x.way,iV x.seg,.bool x.back,iV x.twin]
def Yp (es:List Eg):List Value:=es.flatMap Vg
theorem Q1d {es:List Eg}{i q:Nat}(hi:i<es.length)(hq:q<7):(Yp es)[i*7+q]?=(Vg (eat es i))[q]?:=by
 induction es generalizing i with
 |nil=>simp at hi
 |cons x es ih=>
  have hl:(Vg x).length=7:=rfl
  match i with
  |0=>
   rw[Yp,List.flatMap_cons,zW (by omega)]
   simp[eat]
  |i+1=>
   rw[Yp,List.flatMap_cons,yG (by omega),hl,show(i+1)*7+q-7=i*7+q by omega]
   have:=ih (i:=i) (by simpa using hi)
   rw[Yp] at this
   rw[this]
   simp[eat]
theorem Pv (es fs:List Eg):Yp (es++fs)=Yp es++Yp fs:=by simp[Yp]
def Vc (B:Nat)(w:World)(v:Value)(es:List Eg):Prop:=w.ownsRow B 75 7 v es.length (Yp es)
def Ge (B:Nat)(w w':World):Prop:=Below B w w'/\Lib.OthersKept 75 none w w'
theorem Ge.refl (B:Nat)(w:World):Ge B w w:=⟨Below.refl _ _,Lib.OthersKept.refl _ _ _⟩
theorem Ge.trans {B:Nat}{a b c:World}(h:Ge B a b)(k:Ge B b c):Ge B a c:=⟨h.1.trans k.1,h.2.trans k.2⟩
theorem Ge.alloc {B:Nat}{a w:World}(h:Ge B a w)(hB:B<=w.heap.size)(o:Obj):Ge B a (w.alloc o):=⟨h.1.alloc hB o,h.2.alloc o⟩
theorem Ge.of_nx {B:Nat}{w w':World}(h:Nx w w')(hB:B<=w.heap.size):Ge B w w':=
 ⟨Below.mono h hB,λk o hk _ _=>(h.block k (Array.getElem?_eq_some_iff.1 hk).1).trans hk⟩
theorem Qbw {B:Nat}{w:World}{v:Value}{es:List Eg}(h:Vc B w v es):∀g,v.ownBlock=some g->∃c fz,w.heap[g]?=some (.cells c 75 fz):=by
 intro g hg
 rcases h.2 with⟨rfl,_⟩|⟨g',cap,cur,rfl,_,hh,_⟩
 ·simp[Value.ownBlock] at hg
 ·simp[Value.ownBlock] at hg;subst hg;exact⟨_,_,hh⟩
theorem Ge.grown {B:Nat}{a w w':World}{v:Value}{es:List Eg}(h:Ge B a w)(hown:Vc B w v es)(hg:w.grownBy w' v.ownBlock)(hB:B<=w.heap.size):Ge B a w':=by
 refine⟨h.1.grown hg hB (λk hk=>(World.ownsRow.lt hown k hk).1),h.2.trans ?_⟩
 intro k o hk hb ho
 have hlt:k<w.heap.size:=(Array.getElem?_eq_some_iff.1 hk).1
 rw[hg.block k hlt (λe=>by
  obtain⟨c,fz,hh⟩:=Qbw hown k e.symm
  rw[hk] at hh
  exact ho c fz (by simpa using hh))]
 exact hk
theorem Vc.alloc {B:Nat}{w:World}{v:Value}{es:List Eg}(h:Vc B w v es)(o:Obj):Vc B (w.alloc o) v es:=zB h o
theorem Vc.next {B:Nat}{w w':World}{v:Value}{es:List Eg}(h:Vc B w v es)(k:Nx w w'):Vc B w' v es:=by
 obtain⟨h1,h2⟩:=h
 refine⟨h1,?_⟩
 rcases h2 with h2|⟨g,cap,cur,hv,hg,hh,r⟩
 ·exact oL h2
 ·exact oR ⟨g,cap,cur,hv,hg,(k.block g (Array.getElem?_eq_some_iff.1 hh).1).trans hh,r⟩
theorem Vc.one {B:Nat}{w:World}{v:Value}{es:List Eg}{x:Eg}(h:w.ownsRow B 75 7 v (es.length+1) (Yp es++Vg x)):Vc B w v (es++[x]):=by
 unfold Vc
 rw[zA,Pv]
 simpa [Yp] using h
theorem Vc.two {B:Nat}{w:World}{v:Value}{es:List Eg}{x y:Eg}(h:w.ownsRow B 75 7 v (es.length+2) (Yp es++(Vg x++Vg y))):Vc B w v (es++[x,y]):=by
 unfold Vc
 rw[zA,Pv]
 simpa [Yp] using h
def Ux (w:World)(b:Nat)(cs:Array Value):Prop:=∃t,t≠75/\w.heap[b]?=some (.cells cs t (0,0))
theorem Ux.blk {w:World}{b:Nat}{cs:Array Value}(h:Ux w b cs):Blk w b cs:=by obtain⟨t,_,h⟩:=h;exact⟨t,h⟩
theorem Ux.c {w:World}{b:Nat}{cs:Array Value}(h:Ux w b cs)(i:Nat){v:Value}(hi:cs[i]?=some v):w.cell? ⟨b,i,none⟩=some v:=h.blk.cell hi
theorem Ux.keep {B:Nat}{w w':World}{b:Nat}{cs:Array Value}(h:Ux w b cs)(k:Ge B w w'):Ux w' b cs:=by
 obtain⟨t,ht,h⟩:=h
 exact⟨t,ht,k.2 b _ h (by simp) (λc' fz' e=>ht (by simp at e;exact e.2.1))⟩
theorem Ux.new (w:World)(cs:Array Value)(t n:Nat)(ht:t≠75)(hn:n=w.heap.size):Ux (w.alloc (.cells cs t)) n cs:=by
 subst hn
 exact⟨t,ht,by show(w.heap.push _)[w.heap.size]?=_;simp⟩
def Ij (w:World)(b o:Nat)(x:Eg):Prop:=
 w.cell? (aD b o)=some (iV x.tail)/\w.cell? (aD b (o+1))=some (iV x.head)/\w.cell? (aD b (o+2))=some (iV x.weight)/\w.cell? (aD b (o+3))=some (iV x.way) /\
  w.cell? (aD b (o+4))=some (iV x.seg)/\w.cell? (aD b (o+5))=some (.bool x.back)/\w.cell? (aD b (o+6))=some (iV x.twin)
def Vh (B:Nat)(w:World)(v:Value)(es:List Eg):Prop:=Ji B w v es.length λb off i=>Ij w b (off+i*7) (eat es i)
theorem Ij.keep {B:Nat}{w w':World}{b o:Nat}{x:Eg}(h:Ij w b o x)(k:Xh B w w')(hB:B<=b)(hs:b<w.heap.size):Ij w' b o x:=by
 obtain⟨h0,h1,h2,h3,h4,h5,h6⟩:=h
 exact⟨(k.2 b hB hs _).trans h0,(k.2 b hB hs _).trans h1,(k.2 b hB hs _).trans h2,(k.2 b hB hs _).trans h3,(k.2 b hB hs _).trans h4,(k.2 b hB hs _).trans h5,(k.2 b hB hs _).trans h6⟩
theorem Vh.keep {B:Nat}{w w':World}{v:Value}{es:List Eg}(h:Vh B w v es)(k:Xh B w w'):Vh B w' v es:=
 Ji.mono h lR k.1 λb off hb hs i hi hc=>hc.keep k hb hs
theorem Vh.next {B:Nat}{w w':World}{v:Value}{es:List Eg}(h:Vh B w v es)(k:Nx w w'):Vh B w' v es:=h.keep (k.keeps B)
theorem Vc.held {B:Nat}{w:World}{v:Value}{es:List Eg}(h:Vc B w v es):Vh B w v es:=by
 obtain⟨h1,h2⟩:=h
 rcases h2 with⟨rfl,h2⟩|⟨g,cap,cur,rfl,hg,hh,hc,hm,hs,ht⟩
 ·unfold Vh
  rw[h2]
  exact⟨_,_,rfl,by simp[maxLen],λh=>by omega⟩
 ·refine⟨_,_,rfl,by omega,λh0=>⟨g,0,rfl,hg,(Array.getElem?_eq_some_iff.1 hh).1,λi hi=>?_⟩⟩
  have e:∀q v,q<7->(Vg (eat es i))[q]?=some v->w.cell? (aD g (0+i*7+q))=some v:=by
   intro q v hq hv
   have h3:(cur.toList.take (es.length*7))[i*7+q]?=(Yp es)[i*7+q]?:=by rw[ht]
   rw[zT (by omega),Q1d hi hq,hv] at h3
   unfold World.cell?
   simp only[hh]
   rw[zQ] at h3
   simpa using h3
  exact⟨e 0 _ (by omega) rfl,e 1 _ (by omega) rfl,e 2 _ (by omega) rfl,e 3 _ (by omega) rfl,e 4 _ (by omega) rfl,e 5 _ (by omega) rfl,e 6 _ (by omega) rfl⟩
theorem Q2j {zs:List Int}{t:Int}(h:Vs zs t=true):∃i,i<zs.length/\iat zs i=t:=by
 unfold Vs at h
 rw[List.any_eq_true] at h
 obtain⟨y,hy,e⟩:=h
 obtain⟨i,hi,rfl⟩:=List.getElem_of_mem hy
 exact⟨i,hi,by rw[Vl hi];simpa using e⟩
theorem Qez {zs:List Int}{t:Int}{lo:Nat}(hm:∀i j,i<j->j<zs.length->iat zs i<iat zs j)(H:Mid (iat zs) zs.length t lo lo)(h:Vs zs t=true):lo<zs.length/\iat zs lo=t/\pos zs t=lo:=by
 have h1:=Q4y hm H
 rw[h] at h1
 simp only[Bool.true_eq,zH,decide_eq_true_eq,beq_iff_eq] at h1
 obtain⟨h2,h3⟩:=h1
 exact⟨h2,h3,by rw[<-h3];exact Q23 hm h2⟩
theorem Qek {n m:Nat}(h:n=m):Ending.returned (.tuple #[iV (m:Int),.bool true])=.returned (.tuple #[iV (n:Int),.bool true]):=by rw[h]
theorem Q2v (B:Nat)(v:Value)(zs:List Int)(t:Int)(w:World)(h0:Q8 B w v zs)(ha:Z4 zs=true)(hh:Vs zs t=true) :
  Calls prog 149 #[v,iV t] w λe w'=>e=.returned (.tuple #[iV (pos zs t),.bool true])/\w'=w:=by
 have hm:Z (∀i j,i<j->j<zs.length->iat zs i<iat zs j):=Uq (λi j=>rfl) ha
 have HH:Z (Vs zs t=true):=hh
 clear ha hh
 obtain⟨a,cap,rfl,hn,hk⟩:=h0
 unfold maxLen at hn
 generalize hz:zs.length=n at *
 have HZ:Z (zs.length=n):=hz
 clear hz
 go_enter func149,ntmps149
 go_wp2
 go_loop [7,8,9] (λi j h=>∃lo hi:Nat,lo<=hi/\hi<=n/\i=iV lo/\j=iV hi/\Z (Mid (iat zs) n t lo hi)) (λi j _=>(intOf j).toNat-(intOf i).toNat)
 case atStart=>exact⟨0,n,nZ,lR,rfl,rfl,Ph _ _ _⟩
 case round=>
  obtain⟨lo,hi,h1,h2,rfl,rfl,hrel⟩:=hrel
  by_cases hlt:lo<hi
  ·obtain⟨b,off,rfl,hB,hb,hc⟩:=hk (by omega)
   obtain⟨h,hh,hh1,hh2⟩:=Q8k lo hi hlt (by omega)
   have hcc:=hc h (by omega)
   have hhn:(h:Int)<n:=by omega
   clear hc hk
   by_cases hab:iat zs h<t
   ·have HM:Z (Mid (iat zs) n t (h+1) hi):=Q28 hm.o hrel.o hh2 hab hh1
    go_wp2_with (go_at_call 169;refine(Kw _ _ _).mono ?_;rintro e w' ⟨rfl,rfl⟩)
    go_round
    case rel=>exact⟨h+1,hi,by omega,by omega,by go_num,rfl,HM⟩
    case measure=>simp[intOf];omega
   ·have HM:Z (Mid (iat zs) n t lo h):=Kv hm.o hrel.o hh2 hab hh1
    have hd:decide (iat zs h<t)=false:=by simpa using hab
    go_wp2_with (go_at_call 169;refine(Kw _ _ _).mono ?_;rintro e w' ⟨rfl,rfl⟩)
    go_round
    case rel=>exact⟨lo,h,by omega,by omega,rfl,rfl,HM⟩
    case measure=>simp[intOf];omega
  ·have e:hi=lo:=by omega
   subst e
   have hp:hi<n/\iat zs hi=t/\pos zs t=hi:=by have z:=HZ.o;subst z;exact Qez hm.o hrel.o HH.o
   obtain⟨hl,he,hp⟩:=hp
   have HP:Z (pos zs t=hi):=hp
   clear hp
   obtain⟨b,off,rfl,hB,hb,hc⟩:=hk (by omega)
   have hcc:=hc hi hl
   have hln:(hi:Int)<n:=by omega
   clear hc hk
   have hd:(iat zs hi==t)=true:=by simpa using he
   clear he
   go_wp2_with (go_at_call 170;refine(Iu _ _).mono ?_;rintro e w' ⟨rfl,rfl⟩)
   go_ret2
   exact⟨Qek HP.o,rfl⟩
theorem Yf (B:Nat)(v0 v1 v2 v3:Value)(u id:Int)(zs:List Int)(w:World)(h0:Q8 B w v0 zs)(ha:Z4 zs=true)(hh:Vs zs id=true) :
  Calls prog 119 #[.agg #[v0,v1,v2,v3,iV u],iV id] w λe w'=>e=.returned (iV (pos zs id))/\Nx w w':=by
 have HA:Z (Z4 zs=true/\Vs zs id=true):=⟨ha,hh⟩
 clear ha hh
 go_enter func119,ntmps119
 go_wp2_with (go_at_call 149;refine(Q2v B _ zs _ _ (by exact h0.next (Q4 _ _)) HA.o.1 HA.o.2).mono ?_;rintro e w' ⟨rfl,rfl⟩)
 go_ret
 exact⟨rfl,Q4 _ _⟩
theorem U0:(prog.info? 2).map (λi=>(i.zero,i.size,i.bytes))=some (some (iV 0),1,8):=by kernel_rfl
def RW (w:World)(g n:Nat)(F:Nat->Int):Prop:=∃c:Array Value,w.heap[g]?=some (.cells c 2 (0,0))/\n<=c.size/\∀i,i<n->c[i]?=some (iV (F i))
theorem RW.lt {w:World}{g n:Nat}{F:Nat->Int}(h:RW w g n F):g<w.heap.size:=by
 obtain⟨c,h1,_⟩:=h
 exact(Array.getElem?_eq_some_iff.1 h1).1
theorem RW.cell {w:World}{g n:Nat}{F:Nat->Int}(h:RW w g n F){i:Nat}(hi:i<n):w.cell? (aD g i)=some (iV (F i)):=by
 obtain⟨c,hb,_,hc⟩:=h
 simp[World.cell?,hb,hc i hi]
theorem RW.frozen {w:World}{g n:Nat}{F:Nat->Int}(h:RW w g n F)(i:Nat):w.frozen? (aD g i)=false:=by
 obtain⟨c,hb,_,_⟩:=h
 simp[World.frozen?,hb]
theorem RW.congr {w:World}{g n:Nat}{F G:Nat->Int}(h:RW w g n F)(e:∀i,i<n->F i=G i):RW w g n G:=by
 obtain⟨c,hb,hn,hc⟩:=h
 exact⟨c,hb,hn,λi hi=>by rw[hc i hi,e i hi]⟩
theorem RW.of_block {w w':World}{g n:Nat}{F:Nat->Int}(h:RW w g n F)(e:w'.heap[g]?=w.heap[g]?):RW w' g n F:=by
 obtain⟨c,hb,hn,hc⟩:=h
 exact⟨c,e.trans hb,hn,hc⟩
theorem RW.set {w:World}{g n:Nat}{F:Nat->Int}(h:RW w g n F)(i:Nat)(z:Int):RW (w.setCell (aD g i) (iV z)) g n (λj=>if j=i then z else F j):=by
 obtain⟨c,hb,hn,hc⟩:=h
 refine⟨c.setIfInBounds i (iV z),?_,by simpa using hn,λj hj=>?_⟩
 ·simp[World.setCell,Array.getElem?_modify,hb]
 ·rw[Array.getElem?_setIfInBounds]
  by_cases e:j=i
  ·subst e
   simp[show j<c.size by omega]
  ·rw[if_neg (λh=>e h.symm)]
   show c[j]?=some (iV (if j=i then z else F j))
   rw[if_neg e]
   exact hc j hj
theorem RW.held {w:World}{g n c:Nat}{F:Nat->Int}{zs:List Int}(h:RW w g n F)(hz:zs.length=n)(hm:n<=maxLen)(he:∀i,i<n->F i=iat zs i){B:Nat}(hB:B<=g):Q8 B w (sL (sA g) n c) zs:=by
 subst hz
 refine⟨_,_,rfl,hm,λh0=>⟨g,0,rfl,hB,h.lt,λi hi=>?_⟩⟩
 show w.cell? (aD g (0+i))=_
 rw[Nat.zero_add,h.cell hi,he i hi]
def Jr (zs:List Int):List Value:=zs.map λz=>iV z
def Qd (C:Nat)(w:World)(v:Value)(zs:List Int):Prop:=w.ownsRow C 2 1 v zs.length (Jr zs)
theorem Qd.next {B:Nat}{w w':World}{v:Value}{zs:List Int}(h:Qd B w v zs)(k:Nx w w'):Qd B w' v zs:=by
 obtain⟨h1,h2⟩:=h
 refine⟨h1,?_⟩
 rcases h2 with h2|⟨g,cap,cur,hv,hg,hh,r⟩
 ·exact oL h2
 ·exact oR ⟨g,cap,cur,hv,hg,(k.block g (Array.getElem?_eq_some_iff.1 hh).1).trans hh,r⟩
theorem Q1b {zs:List Int}{i:Nat}(hi:i<zs.length):(Jr zs)[i]?=some (iV (iat zs i)):=by rw[Vl hi];simp[Jr,hi]
theorem Qd.opened {B:Nat}{w:World}{v:Value}{zs:List Int}(h:Qd B w v zs):(v=sN/\zs.length=0)\/∃g cap,v=sL (sA g) zs.length cap/\B<=g/\zs.length<=maxLen/\RW w g zs.length (iat zs):=by
 obtain⟨h1,h2⟩:=h
 rcases h2 with⟨h2,h3⟩|⟨g,cap,cur,hv,hg,hh,hc,hm,hs,ht⟩
 ·exact oL ⟨h2,h3⟩
 ·refine oR ⟨g,cap,hv,hg,by omega,cur,hh,by omega,λi hi=>?_⟩
  have e:(cur.toList.take (zs.length*1))[i]?=(Jr zs)[i]?:=by rw[ht]
  rw[zT (by omega),Q1b hi] at e
  rw[<-zQ,e]
theorem Qd.held {B:Nat}{w:World}{v:Value}{zs:List Int}(h:Qd B w v zs):Q8 B w v zs:=by
 rcases h.opened with⟨rfl,h2⟩|⟨g,cap,rfl,hg,hm,hr⟩
 ·unfold Q8
  rw[h2]
  exact⟨_,_,rfl,by simp[maxLen],λh=>by omega⟩
 ·exact hr.held rfl hm (λi _=>rfl) hg
theorem G4 (B:Nat)(w:World)(h:B<=w.heap.size):Qd B (w.alloc (.cells #[] 2)) (sL (sA w.heap.size) 0 0) []:=
 ⟨rfl,.inr ⟨w.heap.size,0,#[],rfl,h,by show(w.heap.push _)[w.heap.size]?=_;simp,lR,by simp[maxLen],by simp,by simp[Jr]⟩⟩
end Go.Proofs.YtahpodmokbdjeaaGreatDoor
namespace Go.Proofs.YtahpodmokbdjeaaGreatDoor
open Go.RowKit
set_option linter.unusedVariables false
set_option maxRecDepth 1000000
set_option maxHeartbeats 16000000
def tlE (es:List Eg)(e:Nat):Nat:=(eat es e).tail.toNat
def F1 (tl:Nat->Nat)(k q:Nat):Int:=if q=0 then 0 else (cE tl (q-1) k:Nat)
def F2 (tl:Nat->Nat)(m p q:Nat):Int:=if q<=p then (cL tl q m:Nat) else F1 tl m q
def F3 (tl:Nat->Nat)(m k p:Nat):Int:=((cL tl p m+cE tl p k:Nat):Int)
end Go.Proofs.YtahpodmokbdjeaaGreatDoor
namespace Go.Proofs.YtahpodmokbdjeaaGreatDoor
open Go.RowKit Tryz
set_option linter.unusedVariables false
set_option maxRecDepth 1000000
set_option maxHeartbeats 16000000
theorem Q9u {zs:List Int}{t:Int}{k:Nat}(hk:k<zs.length)(h:iat zs k=t)(hn:∀i,i<k->iat zs i≠t):pos zs t=k:=by
 unfold pos
 rw[List.findIdx_eq hk]
 refine⟨by rw[Vl hk] at h;simpa using h,λj hj=>?_⟩
 have:=hn j hj
 rw[Vl (by omega)] at this
 simpa using this
theorem Qel {a b:Nat}(h:b=a):Ending.returned (iV (a:Int))=.returned (iV (b:Int)):=by rw[h]
theorem Tz (B:Nat)(v0 v1 v2 v3:Value)(u id:Int)(zs:List Int)(w:World)(h0:Q8 B w v0 zs)(hh:Vs zs id=true) :
  Calls prog 98 #[.agg #[v0,v1,v2,v3,iV u],iV id] w λe w'=>e=.returned (iV (pos zs id))/\Nx w w':=by
 have HH:Z (∃i,i<zs.length/\iat zs i=id):=Q2j hh
 clear hh
 obtain⟨a,cap,rfl,hn,hk⟩:=h0
 unfold maxLen at hn
 generalize hz:zs.length=n at *
 have HZ:Z (zs.length=n):=hz
 clear hz
 go_enter func98,ntmps98
 go_wp2
 go_loopw [5] (λi wr=>∃k:Nat,k<=n/\i=iV k/\Z (∀j,j<k->iat zs j≠id)/\wr=w.alloc (.cells #[sL a n cap,v1,v2,v3,iV u] 38)) (λi _=>n-(intOf i).toNat)
 case atStart=>exact⟨0,nZ,rfl,λj hj=>absurd hj (zM _),rfl⟩
 obtain⟨k,hkn,rfl,HK,rfl⟩:=hrel
 by_cases hlt:k<n
 ·obtain⟨b,off,rfl,hB,hb,hc⟩:=hk (by omega)
  have hcc:=hc k hlt
  have hlt':(k:Int)<n:=by omega
  clear hc hk
  by_cases he:iat zs k=id
  ·have HP:Z (pos zs id=k):=Q9u (by rw[HZ.o];exact hlt) he HK.o
   have hd:(iat zs k==id)=true:=by simpa using he
   clear he
   go_wp2
   go_ret
   exact⟨Qel HP.o,Q4 _ _⟩
  ·have HK':Z (∀j,j<k+1->iat zs j≠id):=λj hj=>by
    by_cases e:j=k
    ·subst e;exact he
    ·exact HK.o j (by omega)
   have hd:(iat zs k==id)=false:=by simpa using he
   clear he
   go_wp2
   go_roundw
   case rel=>exact⟨k+1,by omega,by go_num,HK',trivial⟩
   case measure=>simp[intOf];omega
 ·obtain⟨i,hi,he⟩:=HH.o
  exact absurd he (HK.o i (by omega))
structure J1 (o:Option Nat)(w w':World):Prop where
 os:w'.os=w.os
 tape:w'.tape=w.tape
 output:w'.output=w.output
 size:w.heap.size<=w'.heap.size
 block:∀b,b<w.heap.size->some b≠o->w'.heap[b]?=w.heap[b]?
theorem J1.refl (o:Option Nat)(w:World):J1 o w w:=⟨rfl,rfl,rfl,lR,λ_ _ _=>rfl⟩
theorem J1.set {o:Option Nat}{w w':World}(h:J1 o w w'){g i:Nat}(hg:o=some g)(u:Value):J1 o w (w'.setCell (aD g i) u):=
 ⟨h.os,h.tape,h.output,by simpa [World.setCell] using h.size,λb hb hn=>(Below.heap_setCell _ _ _ _ (λe=>hn (by rw[hg,e]))).trans (h.block b hb hn)⟩
theorem J1.below {o:Option Nat}{w w':World}(h:J1 o w w'){B:Nat}(hB:∀g,o=some g->B<=g)(hs:B<=w.heap.size):Below B w w':=
 ⟨h.os,h.tape,h.output,h.size,λk hk=>h.block k (by omega) (λe=>by have:=hB k e.symm;omega)⟩
def SI (w:World)(v:Value)(n:Nat)(F:Nat->Int):Prop:=∃a c,v=sL a n c/\(0<n->∃g,a=some (aD g 0)/\RW w g n F)
theorem Zw (v:Value)(n:Nat)(F:Nat->Int)(w:World)(k:Int)(h0:SI w v n F)(hs:n<=1048576)(hk0:0<=k)(hk1:k<=4611686018427387904) :
  Calls prog 43 #[v,iV k] w λe w'=>e=.returned (iV (k+n))/\SI w' v n (λi=>k+i)/\J1 v.ownBlock w w':=by
 obtain⟨a,c,rfl,hk⟩:=h0
 go_enter func43,ntmps43
 go_wp2
 go_loopw [1,5] (λm i wr=>∃j:Nat,j<=n/\i=iV j/\m=iV (k+j)/\Z (∃G,SI wr (sL a n c) n G/\∀i,i<j->G i=k+i)/\Z (J1 (sL a n c).ownBlock w wr)) (λ_ i _=>n-(intOf i).toNat)
 case atStart=>exact⟨0,nZ,rfl,by simp,⟨F,⟨a,c,rfl,hk⟩,λi hi=>absurd hi (zM _)⟩,J1.refl _ _⟩
 obtain⟨j,hjn,rfl,rfl,HM,HO⟩:=hrel
 clear hk
 by_cases hlt:j<n
 ·obtain⟨G,⟨a',c',e0,hk⟩,hG⟩:=HM.o
  simp only[zC,true_and] at e0
  obtain⟨rfl,rfl⟩:=e0
  obtain⟨g,rfl,hr⟩:=hk (by omega)
  have c0:=hr.cell hlt
  have f0:=hr.frozen j
  have HM':Z (∃G,SI (wr.setCell (aD g j) (iV (k+j))) (sL (sA g) n c) n G/\∀i,i<j+1->G i=k+i):=by
   refine⟨_,⟨_,_,rfl,λ_=>⟨g,rfl,hr.set j (k+j)⟩⟩,λi hi=>?_⟩
   by_cases e:i=j
   ·subst e;simp
   ·simp only[if_neg e]
    exact hG i (by omega)
  have HO':Z (J1 (sL (sA g) n c).ownBlock w (wr.setCell (aD g j) (iV (k+j)))):=HO.o.set rfl _
  have hlt':(j:Int)<n:=by omega
  clear hk hr hG HM HO
  generalize G j=gj at *
  go_wp2
  go_roundw
  case rel=>exact⟨j+1,by omega,by go_num,by go_num,HM',HO'⟩
  case measure=>simp[intOf];omega
 ·have e:j=n:=by omega
  subst e
  go_wp2
  go_ret
  refine⟨rfl,?_,HO.o⟩
  obtain⟨G,⟨a',c',e0,hk⟩,hG⟩:=HM.o
  refine⟨a',c',e0,λh0=>?_⟩
  obtain⟨g,e1,hr⟩:=hk h0
  exact⟨g,e1,hr.congr λi hi=>hG i hi⟩
theorem Zy (v:Value)(n:Nat)(w:World)(k:Int)(h0:SI w v n (λi=>k+i))(hs:n<=1048576)(hk0:0<=k)(hk1:k<=4611686018427387904) :
  Calls prog 96 #[v,iV k] w λe w'=>e=.returned (iV (k+n))/\w'=w:=by
 obtain⟨a,c,rfl,hk⟩:=h0
 go_enter func96,ntmps96
 go_wp2
 go_loopw [1,5] (λm i wr=>∃j:Nat,j<=n/\i=iV j/\m=iV (k+j)/\wr=w) (λ_ i _=>n-(intOf i).toNat)
 case atStart=>exact⟨0,nZ,rfl,by simp,rfl⟩
 obtain⟨j,hjn,rfl,rfl,rfl⟩:=hrel
 by_cases hlt:j<n
 ·obtain⟨g,rfl,hr⟩:=hk (by omega)
  have c0:=hr.cell hlt
  have hlt':(j:Int)<n:=by omega
  have hne:(k+(j:Int) !=k+(j:Int))=false:=by simp
  clear hk hr
  go_wp2
  go_roundw
  case rel=>exact⟨j+1,by omega,by go_num,by go_num,trivial⟩
  case measure=>simp[intOf];omega
 ·have e:j=n:=by omega
  subst e
  go_wp2
  go_ret
  exact⟨rfl,rfl⟩
end Go.Proofs.YtahpodmokbdjeaaGreatDoor
namespace Go.Proofs.YtahpodmokbdjeaaGreatDoor
open Go.RowKit
set_option linter.unusedVariables false
set_option maxRecDepth 1000000
set_option maxHeartbeats 16000000
def RE (w:World)(g n:Nat)(V:Nat->Nat->Value):Prop:=∃c:Array Value,w.heap[g]?=some (.cells c 75 (0,0))/\n*7<=c.size/\∀i j,i<n->j<7->c[i*7+j]?=some (V i j)
theorem RE.cell {w:World}{g n:Nat}{V:Nat->Nat->Value}(h:RE w g n V){i j:Nat}(hi:i<n)(hj:j<7):w.cell? (aD g (i*7+j))=some (V i j):=by
 obtain⟨c,hb,_,hc⟩:=h
 simp[World.cell?,hb,hc i j hi hj]
theorem RE.frozen {w:World}{g n:Nat}{V:Nat->Nat->Value}(h:RE w g n V)(o:Nat):w.frozen? (aD g o)=false:=by
 obtain⟨c,hb,_,_⟩:=h
 simp[World.frozen?,hb]
theorem RE.set {w:World}{g n:Nat}{V:Nat->Nat->Value}(h:RE w g n V){i j:Nat}(hi:i<n)(hj:j<7)(u:Value):RE (w.setCell (aD g (i*7+j)) u) g n (λi' j'=>if i'=i/\j'=j then u else V i' j'):=by
 obtain⟨c,hb,hn,hc⟩:=h
 have hm:(i+1)*7<=n*7:=Nat.mul_le_mul_right 7 hi
 refine⟨c.setIfInBounds (i*7+j) u,by simp[World.setCell,Array.getElem?_modify,hb],by simpa using hn,λi' j' hi' hj'=>?_⟩
 by_cases e:i'=i/\j'=j
 ·obtain⟨rfl,rfl⟩:=e
  rw[Array.getElem?_setIfInBounds]
  simp[show i'*7+j'<c.size by omega]
 ·have hne:i*7+j≠i'*7+j':=by omega
  rw[Array.getElem?_setIfInBounds,if_neg hne]
  show c[i'*7+j']?=some (if i'=i/\j'=j then u else V i' j')
  rw[if_neg e]
  exact hc i' j' hi' hj'
def SE (w:World)(v:Value)(n:Nat)(V:Nat->Nat->Value):Prop:=∃a c,v=sL a n c/\(0<n->∃g,a=some (aD g 0)/\RE w g n V)
theorem RE.congr {w:World}{g n:Nat}{V U:Nat->Nat->Value}(h:RE w g n V)(e:∀i j,i<n->j<7->V i j=U i j):RE w g n U:=by
 obtain⟨c,hb,hn,hc⟩:=h
 exact⟨c,hb,hn,λi j hi hj=>by rw[hc i j hi hj,e i j hi hj]⟩
end Go.Proofs.YtahpodmokbdjeaaGreatDoor
