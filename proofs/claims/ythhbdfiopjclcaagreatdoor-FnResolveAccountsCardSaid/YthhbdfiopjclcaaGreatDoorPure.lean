import Derived.Test.YthhbdfiopjclcaaGreatDoorImN
import Derived.Test.YthhbdfiopjclcaaGreatDoorSpC
namespace Go.Proofs.YthhbdfiopjclcaaGreatDoor
open Go.RowKit
set_option linter.unusedVariables false
set_option maxHeartbeats 16000000
def Zj (zs:List Int)(i:Nat):Bool:=inB (iat zs i)&&Vv (ltI zs) i
def wayAt (N:Nt)(i:Nat):Bool:=Qy N.nodes (wat N.ways i)&&Vv (ltW N.ways) i
def relAt (N:Nt)(i:Nat):Bool:=J9 N (rat N.rels i)&&Vv (ltR N.rels) i
def Xq (N:Nt)(i:Nat):Bool:=(inB (tat N.turns i).cost&&(Ji N.ways (tat N.turns i).frm&&Ji N.ways (tat N.turns i).to))&&Vv (ltT N.turns) i
def Vc (N:Nt):Bool:=inB N.uturn&&(decide (N.nodes.length<=2000)&&(decide (N.ways.length<=2000)&&(decide (N.rels.length<=1000)&&decide (N.turns.length<=2000))))
def Jc (N:Nt):Bool:=
 Vc N&&(Xg N.nodes.length (Zj N.nodes)&&(Xg N.ways.length (wayAt N)&&(decide (edTo N.ways N.ways.length<=4000)&&(Xg N.rels.length (relAt N)&&Xg N.turns.length (Xq N)))))
theorem allN_and (n:Nat)(p q:Nat->Bool):Xg n (λi=>p i&&q i)=(Xg n p&&Xg n q):=by
 unfold Xg
 rw[Bool.eq_iff_iff]
 simp only[Bool.and_eq_true,List.all_eq_true,List.mem_range]
 constructor
 ·intro h;exact⟨λi hi=>(h i hi).1,λi hi=>(h i hi).2⟩
 ·rintro⟨h1,h2⟩ i hi;exact⟨h1 i hi,h2 i hi⟩
theorem same_valid (N:Nt):Qh N=Jc N:=by
 have n1:Xg N.nodes.length (Zj N.nodes)=(allIn N.nodes&&Yh N.nodes):=allN_and _ _ _
 have w1:Xg N.ways.length (wayAt N)=(Zr N&&U2 N.ways):=allN_and _ _ _
 have r1:Xg N.rels.length (relAt N)=(Zi N&&ascR N.rels):=allN_and _ _ _
 have t1:Xg N.turns.length (Xq N)=(Vr N&&ascT N.turns):=by
  have h:Xg N.turns.length (Xq N)=Xg N.turns.length (λi=>Yp N (tat N.turns i)&&Vv (ltT N.turns) i):=by
   unfold Xg
   congr 1
   funext i
   unfold Xq Yp
   cases inB (tat N.turns i).cost<;>cases Ji N.ways (tat N.turns i).frm<;>cases Ji N.ways (tat N.turns i).to<;>rfl
  rw[h]
  exact allN_and _ _ _
 unfold Qh Jc counts Vc
 rw[n1,w1,r1,t1]
 generalize allIn N.nodes=b1
 generalize Yh N.nodes=b2
 generalize (Zr N&&U2 N.ways)=b3
 generalize (Zi N&&ascR N.rels)=b4
 generalize (Vr N&&ascT N.turns)=b5
 generalize inB N.uturn=b6
 generalize decide (N.nodes.length<=2000)=b7
 generalize decide (N.ways.length<=2000)=b8
 generalize decide (N.rels.length<=1000)=b9
 generalize decide (N.turns.length<=2000)=b10
 generalize decide (edTo N.ways N.ways.length<=4000)=b11
 revert b1 b2 b3 b4 b5 b6 b7 b8 b9 b10 b11
 decide
end Go.Proofs.YthhbdfiopjclcaaGreatDoor
