import Derived.Test.YtmmolhlihhdkcaaGreatDoorAShAI
import Derived.Test.YtmmolhlihhdkcaaGreatDoorAEnA
import Derived.Lib.AppendIntMem
import Derived.Lib.ItoaLen
import Derived.Lib.AppendStr
namespace Go.Proofs.YtmmolhlihhdkcaaGreatDoor
open Go.RowKit
set_option linter.unusedVariables false
set_option maxRecDepth 1000000
set_option maxHeartbeats 16000000
def Tab (B:Nat)(w:World):Prop:=Lib.TabBelow Tryz.prog B w "internal/strconv.uint64pow10" .u64 Lib.pow10Tab
theorem Own.str {B:Nat}{w:World}{v:Value}{bs:List UInt8}{s:ByteArray}(h:w.ownsRow B 5 1 v (bs.length+s.size) (Lib.byteCells bs++Lib.strCells s)):Own B w v (bs++s.data.toList):=by
 unfold Own
 rw[List.length_append,Lib.byteCells_append,<-Lib.strCells_eq]
 have e:s.data.toList.length=s.size:=by simp
 rw[e]
 exact h
def Zx (w:World)(b:Nat)(cs:Array Value):Prop:=∃t,t≠5/\w.heap[b]?=some (.cells cs t (0,0))
theorem Zx.blk {w:World}{b:Nat}{cs:Array Value}(h:Zx w b cs):Blk w b cs:=by obtain⟨t,_,h⟩:=h;exact⟨t,h⟩
theorem Zx.keep {B:Nat}{w w':World}{b:Nat}{cs:Array Value}(h:Zx w b cs)(k:Gx B w w'):Zx w' b cs:=by
 obtain⟨t,ht,h⟩:=h
 exact⟨t,ht,k.2 b _ h (by simp) (λc' fz' e=>ht (by simp at e;exact e.2.1))⟩
theorem Zx.new (w:World)(cs:Array Value)(t n:Nat)(ht:t≠5)(hn:n=w.heap.size):Zx (w.alloc (.cells cs t)) n cs:=by
 subst hn
 exact⟨t,ht,by show(w.heap.push _)[w.heap.size]?=_;simp⟩
theorem nums1 (B:Nat)(w:World)(x:Int):Z4 B (w.alloc (.cells #[.int .i64 x] 2)) (.slice (some ⟨w.heap.size,0,none⟩) 1 1) [x]:=by
 refine⟨_,_,rfl,by simp[maxLen],λ_=>⟨w.heap.size,0,rfl,Nat.zero_le _,by simp,λi hi=>⟨Or.inr ⟨#[.int .i64 x],2,(0,0),by decide,by show(w.heap.push _)[w.heap.size]?=_;simp⟩,?_⟩⟩⟩
 simp only[List.length_cons,List.length_nil] at hi
 have:i=0:=by omega
 subst this
 simp[iat]
theorem Qdl (B:Nat)(w:World)(x y:Int):Z4 B (w.alloc (.cells #[.int .i64 x,.int .i64 y] 2)) (.slice (some ⟨w.heap.size,0,none⟩) 2 2) [x,y]:=by
 refine⟨_,_,rfl,by simp[maxLen],λ_=>⟨w.heap.size,0,rfl,Nat.zero_le _,by simp,λi hi=>⟨Or.inr ⟨#[.int .i64 x,.int .i64 y],2,(0,0),by decide,by show(w.heap.push _)[w.heap.size]?=_;simp⟩,?_⟩⟩⟩
 simp only[List.length_cons,List.length_nil] at hi
 rcases (show i=0\/i=1 by omega) with rfl|rfl<;>simp[iat]
theorem Wj {x:Int}(h:0<=x/\x<=1048576):small [x]:=by
 intro i hi
 simp only[List.length_cons,List.length_nil] at hi
 have:i=0:=by omega
 subst this
 simpa [iat] using h
theorem Q3k {x y:Int}(h:0<=x/\x<=1048576)(h':0<=y/\y<=1048576):small [x,y]:=by
 intro i hi
 simp only[List.length_cons,List.length_nil] at hi
 rcases (show i=0\/i=1 by omega) with rfl|rfl
 ·simpa [iat] using h
 ·simpa [iat] using h'
def K5 (x:Wy):List Int:=(List.range x.weights.length).flatMap λi=>[iat x.weights i,iat x.nodes (i+1)]
theorem Q00 (f g:Nat->Int)(n:Nat):((List.range n).flatMap λi=>[f i,g i]).length=2*n:=by
 induction n with
 |zero=>rfl
 |succ n ih=>rw[List.range_succ,List.flatMap_append,List.length_append,ih];simp;omega
theorem I6 (x:Wy):(K5 x).length=2*x.weights.length:=Q00 _ _ _
theorem Qal (f g:Nat->Int)(n:Nat):∀i,i<n->iat ((List.range n).flatMap λi=>[f i,g i]) (2*i)=f i/\iat ((List.range n).flatMap λi=>[f i,g i]) (2*i+1)=g i:=by
 induction n with
 |zero=>intro i hi;omega
 |succ n ih=>
  intro i hi
  have hl:=Q00 f g n
  rw[List.range_succ,List.flatMap_append]
  unfold iat at ih ⊢
  simp only[List.getD_eq_getElem?_getD] at ih ⊢
  by_cases e:i=n
  ·subst e
   constructor
   ·rw[List.getElem?_append_right (by omega),hl];simp
   ·rw[List.getElem?_append_right (by omega),hl,show 2*i+1-2*i=1 by omega];simp
  ·have h:=ih i (by omega)
   rw[List.getElem?_append_left (by omega),List.getElem?_append_left (by omega)]
   exact h
theorem Q1y {x:Wy}{k:Nat}(h:k<x.weights.length):iat (K5 x) (2*k)=iat x.weights k/\iat (K5 x) (2*k+1)=iat x.nodes (k+1):=Qal _ _ _ k h
theorem Il {x:Wy}(hn:small x.nodes)(hw:small x.weights)(hl:x.nodes.length=x.weights.length+1):small (K5 x):=by
 intro i hi
 rw[I6] at hi
 rcases (show ∃k,(i=2*k\/i=2*k+1)/\k<x.weights.length from⟨i/2,by omega,by omega⟩) with⟨k,hk|hk,hlt⟩
 ·subst hk;rw[(Q1y hlt).1];exact hw k hlt
 ·subst hk;rw[(Q1y hlt).2];exact hn (k+1) (by omega)
theorem Zg {B:Nat}{w w':World}{a:Option Addr}{n c:Nat}{zs:List Int}(h:Z4 B w (.slice a n c) zs)(g:Gx B w w'){k:Nat}(hk:k<zs.length):∃b off,a=some ⟨b,off,none⟩/\w'.cell? ⟨b,off+k,none⟩=some (.int .i64 (iat zs k)):=by
 obtain⟨a',c',e,_,hc⟩:=h.keep g
 simp at e
 obtain⟨b,off,ha,_,_,hx⟩:=hc (by omega)
 exact⟨b,off,e.1.trans ha,(hx k hk).2⟩
end Go.Proofs.YtmmolhlihhdkcaaGreatDoor
