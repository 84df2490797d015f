import Derived.Test.YtmmolhlihhdkcaaGreatDoorBImN
import Derived.Test.YtmmolhlihhdkcaaGreatDoorBSpC
namespace Go.Proofs.YtmmolhlihhdkcaaGreatDoor
open Go.RowKit
set_option linter.unusedVariables false
set_option maxHeartbeats 16000000
def Z3 (zs:List Int)(i:Nat):Bool:=inB (iat zs i)&&Vm (ltI zs) i
def W9 (N:Nt)(i:Nat):Bool:=Qu N.nodes (wat N.ways i)&&Vm (ltW N.ways) i
def Wc (N:Nt)(i:Nat):Bool:=J1 N (rat N.rels i)&&Vm (ltR N.rels) i
def Xd (N:Nt)(i:Nat):Bool:=(inB (tat N.turns i).cost&&(Ju N.ways (tat N.turns i).frm&&Ju N.ways (tat N.turns i).to))&&Vm (ltT N.turns) i
def V5 (N:Nt):Bool:=inB N.uturn&&(decide (N.nodes.length<=2000)&&(decide (N.ways.length<=2000)&&(decide (N.rels.length<=1000)&&decide (N.turns.length<=2000))))
def Qz (N:Nt):Bool:=
 V5 N&&(Jp N.nodes.length (Z3 N.nodes)&&(Jp N.ways.length (W9 N)&&(decide (edTo N.ways N.ways.length<=4000)&&(Jp N.rels.length (Wc N)&&Jp N.turns.length (Xd N)))))
theorem Kp (n:Nat)(p q:Nat->Bool):Jp n (λi=>p i&&q i)=(Jp n p&&Jp n q):=by
 unfold Jp
 rw[Bool.eq_iff_iff]
 simp only[Bool.and_eq_true,List.all_eq_true,List.mem_range]
 constructor
 ·intro h;exact⟨λi hi=>(h i hi).1,λi hi=>(h i hi).2⟩
 ·rintro⟨h1,h2⟩ i hi;exact⟨h1 i hi,h2 i hi⟩
theorem Gu (N:Nt):Qn N=Qz N:=by
 have n1:Jp N.nodes.length (Z3 N.nodes)=(Uo N.nodes&&Ys N.nodes):=Kp _ _ _
 have w1:Jp N.ways.length (W9 N)=(Ze N&&Zm N.ways):=Kp _ _ _
 have r1:Jp N.rels.length (Wc N)=(Z2 N&&Ii N.rels):=Kp _ _ _
 have t1:Jp N.turns.length (Xd N)=(Vj N&&T9 N.turns):=by
  have h:Jp N.turns.length (Xd N)=Jp N.turns.length (λi=>Xc N (tat N.turns i)&&Vm (ltT N.turns) i):=by
   unfold Jp
   congr 1
   funext i
   unfold Xd Xc
   cases inB (tat N.turns i).cost<;>cases Ju N.ways (tat N.turns i).frm<;>cases Ju N.ways (tat N.turns i).to<;>rfl
  rw[h]
  exact Kp _ _ _
 unfold Qn Qz Xg V5
 rw[n1,w1,r1,t1]
 generalize Uo N.nodes=b1
 generalize Ys N.nodes=b2
 generalize (Ze N&&Zm N.ways)=b3
 generalize (Z2 N&&Ii N.rels)=b4
 generalize (Vj N&&T9 N.turns)=b5
 generalize inB N.uturn=b6
 generalize decide (N.nodes.length<=2000)=b7
 generalize decide (N.ways.length<=2000)=b8
 generalize decide (N.rels.length<=1000)=b9
 generalize decide (N.turns.length<=2000)=b10
 generalize decide (edTo N.ways N.ways.length<=4000)=b11
 revert b1 b2 b3 b4 b5 b6 b7 b8 b9 b10 b11
 decide
end Go.Proofs.YtmmolhlihhdkcaaGreatDoor
