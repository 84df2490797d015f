import Derived.Test.YtphiaobccollhaaGreatQVGA
namespace Go.Proofs.YtphiaobccollhaaGreat
open Go.RowKit
set_option linter.unusedVariables false
set_option maxRecDepth 1000000
set_option maxHeartbeats 16000000
open Go.Sort
def HRt (C:Nat)(w:World)(rc rk:Int)(oa:Option Addr)(on oc:Nat)(r:Rt):Prop:=rc=r.code/\rk=r.cost/\Q5 C w (sL oa on oc) r.edges
structure BW (C j:Nat)(t:Int)(w0 w:World)(old:Rt)(ws:List Wk)(rc rk:Int)(oa:Option Addr)(on oc:Nat):Prop where
 b0:Blk w w0.heap.size #[iV rc,iV rk,sL oa on oc]
 b1:Blk w (w0.heap.size+1) #[iV 0,iV 0,sN]
 rt:HRt C w0 rc rk oa on oc (bestW t old (ws.take j))
 nx:Nx w0 w
end Go.Proofs.YtphiaobccollhaaGreat
