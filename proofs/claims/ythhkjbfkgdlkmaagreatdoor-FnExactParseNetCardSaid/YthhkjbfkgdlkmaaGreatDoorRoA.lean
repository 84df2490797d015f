import Derived.Test.YthhkjbfkgdlkmaaGreatDoorLeaf
namespace Go.Proofs.YthhkjbfkgdlkmaaGreatDoor
open Go.RowKit
set_option linter.unusedVariables false
set_option maxHeartbeats 16000000
structure Eg where
 tail:Int
 head:Int
 weight:Int
 way:Int
 seg:Int
 back:Bool
 twin:Int
def pos (zs:List Int)(t:Int):Nat:=zs.findIdx (λz=>z==t)
section Lay
variable (sg:Nat->Nat->Nat->List Eg) (ns:Nat->Nat)
def wlay (i:Nat)(L:List Eg):Nat->List Eg
 |0=>L
 |j+1=>wlay i L j++sg i (wlay i L j).length j
def lay:Nat->List Eg
 |0=>[]
 |i+1=>wlay sg i (lay i) (ns i)
variable (bn:Nat->Nat)
def st:Nat->Nat
 |0=>0
 |i+1=>st i+bn i*ns i
end Lay
def eat (es:List Eg)(i:Nat):Eg:=es.getD i ⟨0,0,0,0,0,false,0⟩
def bnN (N:Nt)(i:Nat):Nat:=if (wat N.ways i).both then 2 else 1
def nsN (N:Nt)(i:Nat):Nat:=(wat N.ways i).weights.length
def mN (N:Nt):Nat:=st (nsN N) (bnN N) N.ways.length
def cE (tl:Nat->Nat)(p:Nat):Nat->Nat
 |0=>0
 |k+1=>cE tl p k+if tl k=p then 1 else 0
def cL (tl:Nat->Nat)(p:Nat):Nat->Nat
 |0=>0
 |k+1=>cL tl p k+if tl k<p then 1 else 0
end Go.Proofs.YthhkjbfkgdlkmaaGreatDoor
