import Derived.Test.YtahpodmokbdjeaaGreatDoorQToA
namespace Go.Proofs.YtahpodmokbdjeaaGreatDoor
open Go.RowKit Tryz
set_option linter.unusedVariables false
set_option maxHeartbeats 16000000
def Q32 (a b:Value):Prop:=a=b\/(∃x y,a=iV x/\b=iV y)\/(∃x y,a=.bool x/\b=.bool y)
theorem Q32.int {x:Int}{b:Value}(h:Q32 (iV x) b):∃y,b=iV y:=by
 rcases h with h|⟨_,y,_,h⟩|⟨_,_,h,_⟩
 ·exact⟨x,h.symm⟩
 ·exact⟨y,h⟩
 ·simp at h
theorem Q32.bool {x:Bool}{b:Value}(h:Q32 (.bool x) b):∃y,b=.bool y:=by
 rcases h with h|⟨_,_,h,_⟩|⟨_,y,_,h⟩
 ·exact⟨x,h.symm⟩
 ·simp at h
 ·exact⟨y,h⟩
theorem Q32.slice {a:Option Addr}{n c:Nat}{b:Value}(h:Q32 (sL a n c) b):b=sL a n c:=by
 rcases h with h|⟨_,_,h,_⟩|⟨_,_,h,_⟩
 ·exact h.symm
 ·simp at h
 ·simp at h
structure Mk (B:Nat)(w0 w1 w:World):Prop where
 os:w.os=w1.os
 tape:w.tape=w1.tape
 output:w.output=w1.output
 size:w1.heap.size<=w.heap.size
 le:w0.heap.size<=w1.heap.size
 same:∀b,b<w1.heap.size->¬(B<=b/\b<w0.heap.size)->w.heap[b]?=w1.heap[b]?
 like:∀b,B<=b->b<w0.heap.size->∃(cs:Array Value) (t:TypeId) (cs':Array Value),w0.heap[b]?=some (.cells cs t (0,0))/\w.heap[b]?=some (.cells cs' t (0,0))/\∀(i:Nat) (v:Value),cs[i]?=some v->∃v',cs'[i]?=some v'/\Q32 v v'
theorem Mk.start {B:Nat}{w0 w1:World}(h:Nx w0 w1)(ho:∀b,B<=b->b<w0.heap.size->Opn w0 b):Mk B w0 w1 w1:=by
 refine⟨rfl,rfl,rfl,lR,h.size,λ_ _ _=>rfl,λb hb hs=>?_⟩
 obtain⟨cs,t,h0⟩:=ho b hb hs
 exact⟨cs,t,cs,h0,(h.block b hs).trans h0,λi v hv=>⟨v,hv,oL rfl⟩⟩
theorem Mk.cell {B:Nat}{w0 w1 w:World}(h:Mk B w0 w1 w){b o:Nat}(hb:B<=b)(hs:b<w0.heap.size){v:Value}(hc:w0.cell? (aD b o)=some v) :
  ∃v',Q32 v v'/\w.cell? (aD b o)=some v'/\w.frozen? (aD b o)=false:=by
 obtain⟨cs,t,cs',h0,h1,h2⟩:=h.like b hb hs
 have e:cs[o]?=some v:=by simpa [World.cell?,h0] using hc
 obtain⟨v',e',hl⟩:=h2 o v e
 exact⟨v',hl,by simp[World.cell?,h1,e'],by simp[World.frozen?,h1]⟩
theorem Mk.int {B:Nat}{w0 w1 w:World}(h:Mk B w0 w1 w){b o:Nat}(hb:B<=b)(hs:b<w0.heap.size){x:Int}(hc:w0.cell? (aD b o)=some (iV x)) :
  ∃y,w.cell? (aD b o)=some (iV y)/\w.frozen? (aD b o)=false:=by
 obtain⟨v',hl,h1,h2⟩:=h.cell hb hs hc
 obtain⟨y,rfl⟩:=hl.int
 exact⟨y,h1,h2⟩
theorem Mk.bool {B:Nat}{w0 w1 w:World}(h:Mk B w0 w1 w){b o:Nat}(hb:B<=b)(hs:b<w0.heap.size){x:Bool}(hc:w0.cell? (aD b o)=some (.bool x)) :
  ∃y,w.cell? (aD b o)=some (.bool y)/\w.frozen? (aD b o)=false:=by
 obtain⟨v',hl,h1,h2⟩:=h.cell hb hs hc
 obtain⟨y,rfl⟩:=hl.bool
 exact⟨y,h1,h2⟩
theorem Mk.slice {B:Nat}{w0 w1 w:World}(h:Mk B w0 w1 w){b o:Nat}(hb:B<=b)(hs:b<w0.heap.size){a:Option Addr}{n c:Nat}(hc:w0.cell? (aD b o)=some (sL a n c)) :
  w.cell? (aD b o)=some (sL a n c):=by
 obtain⟨v',hl,h1,h2⟩:=h.cell hb hs hc
 rw[hl.slice] at h1
 exact h1
theorem Mk.set {B:Nat}{w0 w1 w:World}(h:Mk B w0 w1 w){b o:Nat}(hb:B<=b)(hs:b<w0.heap.size){v u:Value}(hc:w0.cell? (aD b o)=some v)(hl:Q32 v u):Mk B w0 w1 (w.setCell (aD b o) u):=by
 refine⟨h.os,h.tape,h.output,by simpa [World.setCell] using h.size,h.le,λk hk hn=>?_,λk hk hn=>?_⟩
 ·rw[<-h.same k hk hn]
  exact Below.heap_setCell _ _ _ _ (λe=>hn (by subst e;exact⟨hb,hs⟩))
 ·obtain⟨cs,t,cs',h0,h1,h2⟩:=h.like k hk hn
  by_cases e:k=b
  ·subst e
   refine⟨cs,t,cs'.setIfInBounds o u,h0,by simp[World.setCell,Array.getElem?_modify,h1],λi z hz=>?_⟩
   obtain⟨z',hz',hzl⟩:=h2 i z hz
   by_cases ei:o=i
   ·subst ei
    have e2:cs[o]?=some v:=by simpa [World.cell?,h0] using hc
    rw[e2] at hz
    obtain rfl:=zF hz
    exact⟨u,by rw[Array.getElem?_setIfInBounds];simp[(Array.getElem?_eq_some_iff.1 hz').1],hl⟩
   ·exact⟨z',by rw[Array.getElem?_setIfInBounds,if_neg ei];exact hz',hzl⟩
  ·exact⟨cs,t,cs',h0,(Below.heap_setCell _ _ _ _ e).trans h1,h2⟩
theorem Mk.setI {B:Nat}{w0 w1 w:World}(h:Mk B w0 w1 w){b o:Nat}(hb:B<=b)(hs:b<w0.heap.size){x:Int}(hc:w0.cell? (aD b o)=some (iV x))(y:Int):Mk B w0 w1 (w.setCell (aD b o) (iV y)):=
 h.set hb hs hc (oR (oL ⟨x,y,rfl,rfl⟩))
theorem Mk.setB {B:Nat}{w0 w1 w:World}(h:Mk B w0 w1 w){b o:Nat}(hb:B<=b)(hs:b<w0.heap.size){x:Bool}(hc:w0.cell? (aD b o)=some (.bool x))(y:Bool):Mk B w0 w1 (w.setCell (aD b o) (.bool y)):=
 h.set hb hs hc (oR (oR ⟨x,y,rfl,rfl⟩))
theorem Mk.alloc {B:Nat}{w0 w1 w:World}(h:Mk B w0 w1 w)(o:Obj):Mk B w0 w1 (w.alloc o):=by
 have hz:w.heap.size<=(w.alloc o).heap.size:=by simp
 have hk:∀k,k<w.heap.size->(w.alloc o).heap[k]?=w.heap[k]?:=λk hk=>by
  show(w.heap.push _)[k]?=_
  rw[Array.getElem?_push,if_neg (by omega)]
 refine⟨h.os,h.tape,h.output,zP h.size hz,h.le,λk hk' hn=>(hk k (by have:=h.size;omega)).trans (h.same k hk' hn),λk hb hs=>?_⟩
 obtain⟨cs,t,cs',h0,h1,h2⟩:=h.like k hb hs
 exact⟨cs,t,cs',h0,(hk k (Array.getElem?_eq_some_iff.1 h1).1).trans h1,h2⟩
theorem Ud (B:Nat)(w0 w1:World)(v:Value)(zs:List Int)(w:World)(k:Int)(h0:Q8 B w0 v zs)(hm:Mk B w0 w1 w)(hs:zs.length<=1048576)(hk0:0<=k)(hk1:k<=4611686018427387904) :
  Calls prog 43 #[v,iV k] w λe w'=>e=.returned (iV (k+zs.length))/\Mk B w0 w1 w':=by
 obtain⟨a,cap,rfl,hn,hk⟩:=h0
 generalize hz:zs.length=n at *
 clear hz hn
 go_enter func43,ntmps43
 go_wp2
 go_loopw [1,5] (λc i wr=>∃j:Nat,j<=n/\i=iV j/\c=iV (k+j)/\Z (Mk B w0 w1 wr)) (λ_ i _=>n-(intOf i).toNat)
 case atStart=>exact⟨0,nZ,rfl,by simp,hm⟩
 case round=>
  obtain⟨j,hjn,rfl,rfl,HM⟩:=hrel
  clear hm
  by_cases hlt:j<n
  ·obtain⟨b,off,rfl,hB,hb,hc⟩:=hk (by omega)
   obtain⟨y,c0,f0⟩:=HM.o.int hB hb (hc j hlt)
   have HM':Z (Mk B w0 w1 (wr.setCell (aD b (off+j)) (iV (k+j)))):=HM.o.setI hB hb (hc j hlt) _
   have hlt':(j:Int)<n:=by omega
   clear hc hk
   go_wp2
   go_roundw
   case rel=>exact⟨j+1,by omega,by go_num,by go_num,HM'⟩
   case measure=>simp[intOf];omega
  ·go_wp2
   go_ret
   have e:j=n:=by omega
   subst e
   exact⟨rfl,HM.o⟩
theorem Q03 (B:Nat)(w0 w1:World)(v:Value)(zs:List Tn)(w:World)(k:Int)(h0:V5 B w0 v zs)(hm:Mk B w0 w1 w)(hs:zs.length<=1048576)(hk0:0<=k)(hk1:k<=1152921504606846976) :
  Calls prog 46 #[v,iV k] w λe w'=>(∃r:Int,e=.returned (iV r)/\k<=r/\r<=k+zs.length*4194304)/\Mk B w0 w1 w':=by
 obtain⟨a,cap,rfl,hn,hk⟩:=h0
 generalize hz:zs.length=n at *
 clear hz hn
 go_enter func46,ntmps46
 go_wp2
 go_loopw [1,5] (λc i wr=>∃j:Nat,∃r:Int,j<=n/\i=iV j/\c=iV r/\(k<=r/\r<=k+j*4194304)/\Z (Mk B w0 w1 wr)) (λ_ i _=>n-(intOf i).toNat)
 case atStart=>exact⟨0,k,nZ,rfl,rfl,by omega,hm⟩
 case round=>
  obtain⟨j,r,hjn,rfl,rfl,⟨hr0,hr1⟩,HM⟩:=hrel
  clear hm
  by_cases hlt:j<n
  ·obtain⟨b,off,rfl,hB,hb,hc⟩:=hk (by omega)
   obtain⟨a0,a1,a2⟩:=hc j hlt
   obtain⟨y0,c0,f0⟩:=HM.o.int hB hb a0
   obtain⟨y1,c1,f1⟩:=HM.o.int hB hb a1
   obtain⟨y2,c2,f2⟩:=HM.o.int hB hb a2
   have HM':Z (∀x0 x1 x2:Int,Mk B w0 w1 (((wr.setCell (aD b (off+j*3)) (iV x0)).setCell (aD b (off+j*3+1)) (iV x1)).setCell (aD b (off+j*3+2)) (iV x2))):=
    λx0 x1 x2=>(((HM.o.setI hB hb a0 x0).setI hB hb a1 x1).setI hB hb a2 x2)
   have hlt':(j:Int)<n:=by omega
   have hr2:r+3<=9223372036854775807:=by omega
   clear hc hk a0 a1 a2
   go_wp2
   go_roundw
   case rel=>exact⟨j+1,_,by omega,by go_num,rfl,⟨by go_num,by go_num⟩,HM'.o _ _ _⟩
   case measure=>simp[intOf];omega
  ·go_wp2
   go_ret
   have e:j=n:=by omega
   subst e
   exact⟨⟨r,rfl,hr0,hr1⟩,HM.o⟩
end Go.Proofs.YtahpodmokbdjeaaGreatDoor
