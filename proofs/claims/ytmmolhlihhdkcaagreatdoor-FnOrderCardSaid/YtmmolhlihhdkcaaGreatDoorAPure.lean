import Derived.Test.YtmmolhlihhdkcaaGreatDoorAImN
import Derived.Test.YtmmolhlihhdkcaaGreatDoorASpC
namespace Go.Proofs.YtmmolhlihhdkcaaGreatDoor
open Go.RowKit
set_option linter.unusedVariables false
set_option maxHeartbeats 16000000
def Z6 (zs:List Int)(i:Nat):Bool:=inB (iat zs i)&&Vn (ltI zs) i
def Wc (N:Nt)(i:Nat):Bool:=Qs N.nodes (wat N.ways i)&&Vn (ltW N.ways) i
def Wd (N:Nt)(i:Nat):Bool:=Qz N (rat N.rels i)&&Vn (ltR N.rels) i
def Xc (N:Nt)(i:Nat):Bool:=(inB (tat N.turns i).cost&&(Ju N.ways (tat N.turns i).frm&&Ju N.ways (tat N.turns i).to))&&Vn (ltT N.turns) i
def V5 (N:Nt):Bool:=inB N.uturn&&(decide (N.nodes.length<=2000)&&(decide (N.ways.length<=2000)&&(decide (N.rels.length<=1000)&&decide (N.turns.length<=2000))))
def J3 (N:Nt):Bool:=
 V5 N&&(Jo N.nodes.length (Z6 N.nodes)&&(Jo N.ways.length (Wc N)&&(decide (edTo N.ways N.ways.length<=4000)&&(Jo N.rels.length (Wd N)&&Jo N.turns.length (Xc N)))))
theorem Ko (n:Nat)(p q:Nat->Bool):Jo n (λi=>p i&&q i)=(Jo n p&&Jo n q):=by
 unfold Jo
 rw[Bool.eq_iff_iff]
 simp only[Bool.and_eq_true,List.all_eq_true,List.mem_range]
 constructor
 ·intro h;exact⟨λi hi=>(h i hi).1,λi hi=>(h i hi).2⟩
 ·rintro⟨h1,h2⟩ i hi;exact⟨h1 i hi,h2 i hi⟩
theorem Gt (N:Nt):Ql N=J3 N:=by
 have n1:Jo N.nodes.length (Z6 N.nodes)=(Ur N.nodes&&Ys N.nodes):=Ko _ _ _
 have w1:Jo N.ways.length (Wc N)=(Zj N&&Zr N.ways):=Ko _ _ _
 have r1:Jo N.rels.length (Wd N)=(Z5 N&&Ii N.rels):=Ko _ _ _
 have t1:Jo N.turns.length (Xc N)=(Vj N&&T8 N.turns):=by
  have h:Jo N.turns.length (Xc N)=Jo N.turns.length (λi=>Xb N (tat N.turns i)&&Vn (ltT N.turns) i):=by
   unfold Jo
   congr 1
   funext i
   unfold Xc Xb
   cases inB (tat N.turns i).cost<;>cases Ju N.ways (tat N.turns i).frm<;>cases Ju N.ways (tat N.turns i).to<;>rfl
  rw[h]
  exact Ko _ _ _
 unfold Ql J3 Xg V5
 rw[n1,w1,r1,t1]
 generalize Ur N.nodes=b1
 generalize Ys N.nodes=b2
 generalize (Zj N&&Zr N.ways)=b3
 generalize (Z5 N&&Ii N.rels)=b4
 generalize (Vj N&&T8 N.turns)=b5
 generalize inB N.uturn=b6
 generalize decide (N.nodes.length<=2000)=b7
 generalize decide (N.ways.length<=2000)=b8
 generalize decide (N.rels.length<=1000)=b9
 generalize decide (N.turns.length<=2000)=b10
 generalize decide (edTo N.ways N.ways.length<=4000)=b11
 revert b1 b2 b3 b4 b5 b6 b7 b8 b9 b10 b11
 decide
end Go.Proofs.YtmmolhlihhdkcaaGreatDoor
