import Derived.Test.YthhkjbfkgdlkmaaGreatDoorRoD
import Derived.Test.YthhkjbfkgdlkmaaGreatDoorPure
import Derived.Deep.RegionHeld3
import Derived.Deep.CutRange
namespace Go.Proofs.YthhkjbfkgdlkmaaGreatDoor
open Go.RowKit
set_option linter.unusedVariables false
set_option maxRecDepth 1000000
set_option maxHeartbeats 16000000
def FB (w:World)(g:Nat)(x:Eg):Prop:=∃cs:Array Value,Blk w g cs/\cs.toList=cells7 x
theorem FB.cell {w:World}{g:Nat}{x:Eg}(h:FB w g x){i:Nat}{v:Value}(hi:(cells7 x)[i]?=some v):w.cell? ⟨g,i,none⟩=some v:=by
 obtain⟨cs,h1,h2⟩:=h
 exact h1.cell (by rw[<-Array.getElem?_toList,h2];exact hi)
theorem FB.frozen {w:World}{g:Nat}{x:Eg}(h:FB w g x)(i:Nat):w.frozen? ⟨g,i,none⟩=false:=by
 obtain⟨cs,h1,_⟩:=h
 exact h1.frozen i
theorem FB.lt {w:World}{g:Nat}{x:Eg}(h:FB w g x):g<w.heap.size:=by
 obtain⟨cs,h1,_⟩:=h
 exact h1.lt
theorem new_cells (w:World)(cs:Array Value)(t:TypeId)(l:List Value)(h:cs.toList=l)(j:Nat)(u:Value)(hj:l[j]?=some u):(w.alloc (.cells cs t)).cell? ((⟨w.heap.size,0,none⟩:Addr).add j)=some u:=by
 have e:(w.alloc (.cells cs t)).heap[w.heap.size]?=some (.cells cs t (0,0)):=by show(w.heap.push _)[w.heap.size]?=_;simp
 have hc:cs[j]?=some u:=by rw[<-Array.getElem?_toList,h];exact hj
 rw[Addr.add_lit]
 simp only[World.cell?,e]
 simpa using hc
end Go.Proofs.YthhkjbfkgdlkmaaGreatDoor
