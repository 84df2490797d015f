import Derived.Test.YtphiaobccollhaaGreatQLeaf
import Derived.Deep.OwnRows
namespace Go.Proofs.YtphiaobccollhaaGreat
open Go.RowKit Tryz
set_option linter.unusedVariables false
set_option maxHeartbeats 16000000
variable {w:World}{v:Value}{b:Nat}{cs:Array Value}
theorem info2:(prog.info? 2).map (λi=>(i.zero,i.size,i.bytes))=some (some (iV 0),1,8):=by kernel_rfl
theorem Qi.base {B B':Nat}{zs:List Int}(h:Qi B w v zs)(hB:B'<=B):Qi B' w v zs:=
 Jn.mono h hB lR λb off hb hs i hi hc=>hc
def Blk (w:World)(b:Nat)(cs:Array Value):Prop:=∃t,w.heap[b]?=some (.cells cs t (0,0))
theorem Blk.lt (h:Blk w b cs):b<w.heap.size:=by
 obtain⟨t,h⟩:=h
 exact(Array.getElem?_eq_some_iff.1 h).1
theorem Blk.cell (h:Blk w b cs){i:Nat}(hi:cs[i]?=some v):w.cell? (aD b i)=some v:=by
 obtain⟨t,h⟩:=h
 simp[World.cell?,h,hi]
theorem Blk.c (h:Blk w b cs)(i:Nat)(hi:cs[i]?=some v):w.cell? ⟨b,i,none⟩=some v:=h.cell hi
theorem Blk.frozen (h:Blk w b cs)(i:Nat):w.frozen? (aD b i)=false:=by
 obtain⟨t,h⟩:=h
 simp[World.frozen?,h]
theorem Blk.next {w':World}(h:Blk w b cs)(k:Nx w w'):Blk w' b cs:=by
 have hl:=h.lt
 obtain⟨t,h⟩:=h
 exact⟨t,(k.block b hl).trans h⟩
theorem Blk.drew (h:Blk w b cs):Blk w.drew b cs:=h
theorem Blk.new (w:World)(cs:Array Value)(t:TypeId)(n:Nat)(hn:n=w.heap.size):Blk (w.alloc (.cells cs t)) n cs:=by
 subst hn
 exact⟨t,by show(w.heap.push _)[w.heap.size]?=_;simp⟩
theorem Blk.alloc (h:Blk w b cs)(o:Obj):Blk (w.alloc o) b cs:=h.next (by exact Below.alloc (Below.refl _ _) lR _)
theorem Blk.set (h:Blk w b cs)(i:Nat)(v:Value):Blk (w.setCell (aD b i) v) b (cs.setIfInBounds i v):=by
 obtain⟨t,h⟩:=h
 exact⟨t,by simp[World.setCell,Array.getElem?_modify,h]⟩
end Go.Proofs.YtphiaobccollhaaGreat
