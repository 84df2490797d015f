import Derived.Test.YtahpodmokbdjeaaGreatDoorQSzA
import Derived.Test.YtahpodmokbdjeaaGreatDoorQToA
import Derived.Test.YtahpodmokbdjeaaGreatDoorQEqA
namespace Go.Proofs.YtahpodmokbdjeaaGreatDoor
open Go.RowKit Tryz
set_option linter.unusedVariables false
set_option maxHeartbeats 16000000
theorem Q8.slice {B:Nat}{w:World}{v:Value}{zs:List Int}(h:Q8 B w v zs):∃a c,v=sL a zs.length c/\zs.length<=maxLen:=by
 obtain⟨a,c,h1,h2,_⟩:=h;exact⟨a,c,h1,h2⟩
theorem V5.slice {B:Nat}{w:World}{v:Value}{zs:List Tn}(h:V5 B w v zs):∃a c,v=sL a zs.length c/\zs.length<=maxLen:=by
 obtain⟨a,c,h1,h2,_⟩:=h;exact⟨a,c,h1,h2⟩
theorem Q9i (B:Nat)(v0 v1 v2 v3:Value)(N:Nt)(w:World)(h0:Ye B w v0 v1 v2 v3 N) :
  Calls prog 4 #[.agg #[v0,v1,v2,v3,iV N.uturn],iV 1048576] w λe w'=>(∃r:Int,e=.returned (iV r)/\(r<0\/(0<=r/\Q92 N/\wsum N.ways N.ways.length<=1048576)))/\Nx w w':=by
 obtain⟨i0,i1,i2,i3⟩:=h0
 obtain⟨a0,c0,rfl,hn0⟩:=i0.slice
 obtain⟨a3,c3,rfl,hn3⟩:=i3.slice
 have b1:=E8 1048576 N.nodes.length (by omega)
 obtain⟨b1,b2,b3⟩:=b1
 have HB3:Z (0<=szI 1048576 N.nodes.length->szI 1048576 N.nodes.length+N.nodes.length=1048576):=b3
 clear b3
 generalize hr1:szI 1048576 N.nodes.length=r1 at *
 have HR1:Z (szI 1048576 N.nodes.length=r1):=hr1
 clear hr1
 go_enter func4,ntmps4
 go_wp2_with fail
 refine(Wr _ _ _ _ _ hn0 (by omega) (by omega)).mono ?_
 rintro e w1 ⟨rfl,rfl⟩
 rw[HR1.o]
 by_cases hneg:r1<0
 ·go_wp2
  go_ret
  exact⟨⟨-1,rfl,oL (by omega)⟩,Q4 _ _⟩
 have hp1:0<=r1:=by omega
 have HS0:Z (N.nodes.length<=1048576):=by have:=HB3.o hp1;unfold Z;omega
 go_wp2_with fail
 refine(Q65 B _ N.ways _ _ (by exact i1.keep ((Q4 _ _).keeps B)) hp1 (by omega)).mono ?_
 rintro e w1 ⟨⟨r2,rfl,hr2⟩,hx⟩
 have BA:Blk w1 w.heap.size #[sL a0 N.nodes.length c0,v1,v2,sL a3 N.turns.length c3,iV N.uturn]:=(Blk.new w _ 27 _ rfl).next hx
 have HX:Z (Nx w w1):=(Q4 _ _).trans hx
 clear hx
 have k0:=BA.c 2 rfl
 rcases hr2 with hr2|⟨hr2,hr2',hw,hf⟩
 ·go_wp2
  go_ret
  exact⟨⟨-1,rfl,oL (by omega)⟩,HX.o⟩
 have HS1:Z (N.ways.length<=1048576/\Q30 N.ways N.ways.length 1048576):=⟨hw,hf⟩
 clear hw hf
 go_wp2_with fail
 refine(Q66 B _ N.rels _ _ (by exact i2.keep (HX.o.keeps B)) hr2 (by omega)).mono ?_
 rintro e w2 ⟨⟨r3,rfl,hr3⟩,hx⟩
 have BA2:=BA.next hx
 have HX2:Z (Nx w w2):=HX.o.trans hx
 clear hx BA k0 HX
 have k0:=BA2.c 3 rfl
 rcases hr3 with hr3|⟨hr3,hr3',hw,hf⟩
 ·go_wp2
  go_ret
  exact⟨⟨-1,rfl,oL (by omega)⟩,HX2.o⟩
 have HS2:Z (N.rels.length<=1048576/\∀i,i<N.rels.length->(rat N.rels i).ways.length<=1048576):=⟨hw,hf⟩
 clear hw hf
 have d1:=E8 r3 N.turns.length hr3
 obtain⟨d1,d2,d3⟩:=d1
 have HD3:Z (0<=szI r3 N.turns.length->szI r3 N.turns.length+N.turns.length=r3):=d3
 clear d3
 generalize hr4:szI r3 N.turns.length=r4 at *
 have HR4:Z (szI r3 N.turns.length=r4):=hr4
 clear hr4
 go_wp2_with fail
 refine(Q3h _ _ _ _ _ hn3 hr3 (by omega)).mono ?_
 rintro e w3 ⟨rfl,rfl⟩
 rw[HR4.o]
 by_cases hneg4:r4<0
 ·go_wp2
  go_ret
  exact⟨⟨-1,rfl,oL (by omega)⟩,HX2.o⟩
 have HS3:Z (N.turns.length<=1048576):=by have:=HD3.o (by omega);unfold Z;omega
 go_wp2
 go_ret
 exact⟨⟨r4,rfl,oR ⟨by omega,⟨HS0.o,HS1.o.1,HS1.o.2.1,HS2.o.1,HS2.o.2,HS3.o⟩,by have:=HS1.o.2.2;omega⟩⟩,HX2.o⟩
theorem Q70 (B B':Nat)(v0 v1 v2 v3 u0 u1 u2 u3:Value)(N:Nt)(w:World)(h0:Ye B w v0 v1 v2 v3 N)(h1:Ye B' w u0 u1 u2 u3 N) :
  Calls prog 9 #[.agg #[v0,v1,v2,v3,iV N.uturn],.agg #[u0,u1,u2,u3,iV N.uturn]] w λe w'=>e=.returned (.bool true)/\Nx w w':=by
 have hd:(N.uturn !=N.uturn)=false:=by simp
 go_enter func9,ntmps9
 go_wp2_with fail
 refine(Vb B B' _ _ N.nodes _ (by exact(h0.next (Zk _ _ _)).1) (by exact(h1.next (Zk _ _ _)).1)).mono ?_
 rintro e w1 ⟨rfl,hx⟩
 have HX:Z (Nx w w1):=(Zk _ _ _).trans hx
 have BA:Blk w1 w.heap.size #[v0,v1,v2,v3,iV N.uturn]:=((Blk.new w _ 38 _ rfl).alloc _).next hx
 have BB:Blk w1 (w.heap.size+1) #[u0,u1,u2,u3,iV N.uturn]:=(Blk.new _ _ 38 _ (by simp)).next hx
 clear hx
 have k0:=BA.c 1 rfl
 have k1:=BB.c 1 rfl
 go_wp2_with fail
 refine(Q58 B B' _ _ N.ways _ (by exact(h0.next HX.o).2.1) (by exact(h1.next HX.o).2.1)).mono ?_
 rintro e w2 ⟨rfl,hx⟩
 have HX2:Z (Nx w w2):=HX.o.trans hx
 have BA2:=BA.next hx
 have BB2:=BB.next hx
 clear hx BA BB k0 k1 HX
 have k0:=BA2.c 2 rfl
 have k1:=BB2.c 2 rfl
 go_wp2_with fail
 refine(Q5a B B' _ _ N.rels _ (by exact(h0.next HX2.o).2.2.1) (by exact(h1.next HX2.o).2.2.1)).mono ?_
 rintro e w3 ⟨rfl,hx⟩
 have HX3:Z (Nx w w3):=HX2.o.trans hx
 have BA3:=BA2.next hx
 have BB3:=BB2.next hx
 clear hx BA2 BB2 k0 k1 HX2
 have k0:=BA3.c 3 rfl
 have k1:=BB3.c 3 rfl
 go_wp2_with fail
 refine(Q2o B B' _ _ N.turns _ (by exact(h0.next HX3.o).2.2.2) (by exact(h1.next HX3.o).2.2.2)).mono ?_
 rintro e w4 ⟨rfl,hx⟩
 have HX4:Z (Nx w w4):=HX3.o.trans hx
 have BA4:=BA3.next hx
 have BB4:=BB3.next hx
 clear hx BA3 BB3 k0 k1 HX3
 have k0:=BA4.c 4 rfl
 have k1:=BB4.c 4 rfl
 go_wp2
 go_ret
 exact⟨rfl,HX4.o⟩
end Go.Proofs.YtahpodmokbdjeaaGreatDoor
