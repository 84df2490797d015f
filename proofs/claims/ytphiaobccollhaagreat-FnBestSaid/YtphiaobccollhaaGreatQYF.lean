import Derived.Test.YtphiaobccollhaaGreatQYD
import Derived.Test.YtphiaobccollhaaGreatQLD
namespace Go.Proofs.YtphiaobccollhaaGreat
open Go.RowKit Go.Sort Tryz
set_option linter.unusedVariables false
set_option maxRecDepth 1000000
set_option maxHeartbeats 16000000
structure Gc where
 eo:List Int
 so:List Int
 fi:List Int
 tt:List Int
 co:List Int
 sa:List Int
 we:List Int
def gcZ:Gc:=⟨[],[],[],[],[],[],[]⟩
section
variable (N:Nt) (es:List Eg) (st:Int->Int->Int) (vs:List Vx)
def gTo:Nat->List Int
 |0=>[]
 |i+1=>gTo i++(nxV es st (vtx vs i)).map (Xv vs)
def Q06 (v u:Vx):Int:=Tt N es v.1.toNat u.1.toNat+(eat es u.1.toNat).weight
def gCo:Nat->List Int
 |0=>[]
 |i+1=>gCo i++(nxV es st (vtx vs i)).map (Q06 N es (vtx vs i))
def gEo:Nat->List Int
 |0=>[]
 |i+1=>gEo i++[(vtx vs i).1]
def gSo:Nat->List Int
 |0=>[]
 |i+1=>gSo i++[(vtx vs i).2]
def gFi:Nat->List Int
 |0=>[]
 |i+1=>gFi i++[((gTo es st vs i).length:Int)]
def gSa:Nat->List Int
 |0=>[]
 |e+1=>gSa e++[Xv vs ((e:Int),st 0 (e:Int))]
def gWe:Nat->List Int
 |0=>[]
 |e+1=>gWe e++[(eat es e).weight]
def Q64:Gc:=⟨gEo vs vs.length,gSo vs vs.length,gFi es st vs (vs.length+1),gTo es st vs vs.length,gCo N es st vs vs.length,gSa st vs es.length,gWe es es.length⟩
end
section
variable {N:Nt}{es:List Eg}{st:Int->Int->Int}{vs:List Vx}
theorem E4:∀k,k<=vs.length->(gTo es st vs k).length=arcs es st (vs.take k)
 |0,_=>rfl
 |k+1,h=>by rw[gTo,zA,E4 k (by omega),zF,Tu (by omega),Q18]
theorem Q2b:∀k,(gCo N es st vs k).length=(gTo es st vs k).length
 |0=>rfl
 |k+1=>by rw[gTo,gCo,zA,zA,Q2b k,zF,zF]
theorem Q2a:∀k,(gEo vs k).length=k
 |0=>rfl
 |k+1=>by rw[gEo,zA,Q2a k];rfl
theorem Q28:∀k,(gSo vs k).length=k
 |0=>rfl
 |k+1=>by rw[gSo,zA,Q28 k];rfl
theorem E5:∀k,(gFi es st vs k).length=k
 |0=>rfl
 |k+1=>by rw[gFi,zA,E5 k];rfl
theorem Q29:∀k,(gSa st vs k).length=k
 |0=>rfl
 |k+1=>by rw[gSa,zA,Q29 k];rfl
theorem Q27:∀k,(gWe es k).length=k
 |0=>rfl
 |k+1=>by rw[gWe,zA,Q27 k];rfl
end
theorem Q7g {f:Vx->Int}{l:List Vx}{j:Nat}(h:j<l.length):(l.take (j+1)).map f=(l.take j).map f++[f (vtx l j)]:=by rw[Tu h,yF];rfl
theorem Qg0:(prog.info? 63).map (·.size)=some 8:=by kernel_rfl
theorem Zm {ops:Array Oper}{rest:List Oper}{o:Oper}{a:Act}{Q:Exit->Act->World->Prop}{w:World}{b t:Nat}{cs cs':Array Value}(hgd:o.guard=none)(p v:Operand)(ho:o.op=.store 63 p v)(hp:a.eval p=pT b)(hv:a.eval v=.agg cs')(hb:BT w b cs t)(hs:cs.size=8)(hs':cs'.size=8)(h1:(cs'.toList.all λv=>v.oneCell')=true)
  (h:∀w',BT w' b cs' t->Chg (λx=>x=b) w w'->wpList prog ops Q rest (a.put o.dst undef) w'):wpList prog ops Q (o::rest) a w:=
 wpList_store_row hgd _ p v ho b cs' hp hv t cs hb (by rw[Qg0,hs']) (by rw[hs,hs']) (by rw[<-Array.all_toList];exact h1) (h _ (U9 hb).1 (U9 hb).2)
theorem Q8v {ts:Array Value}{w:World}{b:Nat}{x0 x1 x2 x3 x4 x5 x6 x7:Value}(h:ts[2]?.getD undef=pT b)(p0:w.cell? (aD b 0)=some x0)(p1:w.cell? (aD b 1)=some x1)(p2:w.cell? (aD b 2)=some x2)(p3:w.cell? (aD b 3)=some x3)(p4:w.cell? (aD b 4)=some x4)(p5:w.cell? (aD b 5)=some x5)(p6:w.cell? (aD b 6)=some x6)(p7:w.cell? (aD b 7)=some x7) :
  (results Tryz.f34 ts).run prog w=.ok (.agg #[x0,x1,x2,x3,x4,x5,x6,x7]) w:=by
 simp[results,results34,h,go_sem,p0,p1,p2,p3,p4,p5,p6,p7]
theorem Po {R:Ending->World->Prop}{a:Act}{w:World}{b t:Nat}{x0 x1 x2 x3 x4 x5 x6 x7:Value}(h2:a.tmps[2]?.getD undef=pT b)(hd:a.defers=[])(hb:BT w b #[x0,x1,x2,x3,x4,x5,x6,x7] t)(hR:R (.returned (.agg #[x0,x1,x2,x3,x4,x5,x6,x7])) w):bodyPost prog Tryz.f34 R .ret a w:=
 bodyPost_ret (Q8v h2 (hb.c 0 rfl) (hb.c 1 rfl) (hb.c 2 rfl) (hb.c 3 rfl) (hb.c 4 rfl) (hb.c 5 rfl) (hb.c 6 rfl) (hb.c 7 rfl)) hd hR
end Go.Proofs.YtphiaobccollhaaGreat
