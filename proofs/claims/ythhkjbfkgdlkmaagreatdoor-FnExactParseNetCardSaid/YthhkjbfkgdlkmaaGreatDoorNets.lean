import Derived.Test.YthhkjbfkgdlkmaaGreatDoorSzA
import Derived.Test.YthhkjbfkgdlkmaaGreatDoorToA
import Derived.Test.YthhkjbfkgdlkmaaGreatDoorEqA
namespace Go.Proofs.YthhkjbfkgdlkmaaGreatDoor
open Go.RowKit
set_option linter.unusedVariables false
set_option maxHeartbeats 16000000
theorem HInts.slice {B:Nat}{w:World}{v:Value}{zs:List Int}(h:HInts B w v zs):∃a c,v=.slice a zs.length c/\zs.length<=maxLen:=by
 obtain⟨a,c,h1,h2,_⟩:=h;exact⟨a,c,h1,h2⟩
theorem HTurns.slice {B:Nat}{w:World}{v:Value}{zs:List Tn}(h:HTurns B w v zs):∃a c,v=.slice a zs.length c/\zs.length<=maxLen:=by
 obtain⟨a,c,h1,h2,_⟩:=h;exact⟨a,c,h1,h2⟩
theorem eqNet_same (B B':Nat)(v0 v1 v2 v3 u0 u1 u2 u3:Value)(N:Nt)(w:World)(h0:HNet B w v0 v1 v2 v3 N)(h1:HNet B' w u0 u1 u2 u3 N) :
  Calls Tryz.prog 23 #[.agg #[v0,v1,v2,v3,.int .i64 N.uturn],.agg #[u0,u1,u2,u3,.int .i64 N.uturn]] w λe w'=>e=.returned (.bool true)/\Nx w w':=by
 have hd:(N.uturn !=N.uturn)=false:=by simp
 go_enter Tryz.func23,Tryz.ntmps23
 go_wp2_with fail
 refine(eqInts_same B B' _ _ N.nodes _ (by exact(h0.next (box2 _ _ _)).1) (by exact(h1.next (box2 _ _ _)).1)).mono ?_
 rintro e w1 ⟨rfl,hx⟩
 have HX:Hid (Nx w w1):=(box2 _ _ _).trans hx
 have BA:Blk w1 w.heap.size #[v0,v1,v2,v3,.int .i64 N.uturn]:=((Blk.new w _ 28 _ rfl).alloc _).next hx
 have BB:Blk w1 (w.heap.size+1) #[u0,u1,u2,u3,.int .i64 N.uturn]:=(Blk.new _ _ 28 _ (by simp)).next hx
 clear hx
 have k0:=BA.cell (i:=1) rfl
 have k1:=BB.cell (i:=1) rfl
 go_wp2_with fail
 refine(eqWays_same B B' _ _ N.ways _ (by exact(h0.next HX.out).2.1) (by exact(h1.next HX.out).2.1)).mono ?_
 rintro e w2 ⟨rfl,hx⟩
 have HX2:Hid (Nx w w2):=HX.out.trans hx
 have BA2:=BA.next hx
 have BB2:=BB.next hx
 clear hx BA BB k0 k1 HX
 have k0:=BA2.cell (i:=2) rfl
 have k1:=BB2.cell (i:=2) rfl
 go_wp2_with fail
 refine(eqRels_same B B' _ _ N.rels _ (by exact(h0.next HX2.out).2.2.1) (by exact(h1.next HX2.out).2.2.1)).mono ?_
 rintro e w3 ⟨rfl,hx⟩
 have HX3:Hid (Nx w w3):=HX2.out.trans hx
 have BA3:=BA2.next hx
 have BB3:=BB2.next hx
 clear hx BA2 BB2 k0 k1 HX2
 have k0:=BA3.cell (i:=3) rfl
 have k1:=BB3.cell (i:=3) rfl
 go_wp2_with fail
 refine(eqTurns_same B B' _ _ N.turns _ (by exact(h0.next HX3.out).2.2.2) (by exact(h1.next HX3.out).2.2.2)).mono ?_
 rintro e w4 ⟨rfl,hx⟩
 have HX4:Hid (Nx w w4):=HX3.out.trans hx
 have BA4:=BA3.next hx
 have BB4:=BB3.next hx
 clear hx BA3 BB3 k0 k1 HX3
 have k0:=BA4.cell (i:=4) rfl
 have k1:=BB4.cell (i:=4) rfl
 go_wp2
 go_ret
 exact⟨rfl,HX4.out⟩
end Go.Proofs.YthhkjbfkgdlkmaaGreatDoor
