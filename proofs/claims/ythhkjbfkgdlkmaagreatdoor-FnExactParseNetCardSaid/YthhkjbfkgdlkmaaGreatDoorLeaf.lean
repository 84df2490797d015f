import Derived.Test.YthhkjbfkgdlkmaaGreatDoorChecked
import Derived.WalkKit
import Derived.WalkSpells
import Derived.WalkLawsBesides
import Derived.Deep.QuietTactic
import Derived.BigQuiet
import Derived.Deep.RegionWith
import Derived.BigRegion
namespace Go.Proofs.YthhkjbfkgdlkmaaGreatDoor
open Go.RowKit
set_option linter.unusedVariables false
set_option maxHeartbeats 16000000
theorem ret_bool {a b:Bool}(h:a=b):Ending.returned (.bool a)=.returned (.bool b):=by rw[h]
theorem ret_int {k:IntKind}{a b:Int}(h:a=b):Ending.returned (.int k a)=.returned (.int k b):=by rw[h]
def cmpI (x y:Int):Int:=if x<y then -1 else if y<x then 1 else 0
theorem cmpI_lt {x y:Int}(h:x<y):-1=cmpI x y:=by simp[cmpI,h]
theorem cmpI_gt {x y:Int}(h:y<x):1=cmpI x y:=by unfold cmpI;rw[if_neg (by omega),if_pos h]
theorem cmpI_eq {x y:Int}(h:¬x<y)(h':¬y<x):0=cmpI x y:=by unfold cmpI;rw[if_neg h,if_neg h']
theorem cmpNaN_any (v:Int)(w:World) :
  Calls Tryz.prog 113 #[.int .i64 v] w λe w'=>e=.returned (.bool false)/\w'=w:=by
 go_enter Tryz.func113,Tryz.ntmps113
 go_wp2
 go_ret
 exact⟨rfl,rfl⟩
theorem cmp_any (x y:Int)(w:World) :
  Calls Tryz.prog 84 #[.int .i64 x,.int .i64 y] w λe w'=>e=.returned (.int .i64 (cmpI x y))/\w'=w:=by
 by_cases h1:x<y
 ·go_enter Tryz.func84,Tryz.ntmps84
  go_wp2_with (go_at_call 113;refine(cmpNaN_any _ _).mono ?_;rintro e w' ⟨rfl,rfl⟩)
  go_ret
  exact⟨ret_int (cmpI_lt h1),rfl⟩
 ·by_cases h2:y<x
  ·go_enter Tryz.func84,Tryz.ntmps84
   go_wp2_with (go_at_call 113;refine(cmpNaN_any _ _).mono ?_;rintro e w' ⟨rfl,rfl⟩)
   go_ret
   exact⟨ret_int (cmpI_gt h2),rfl⟩
  ·go_enter Tryz.func84,Tryz.ntmps84
   go_wp2_with (go_at_call 113;refine(cmpNaN_any _ _).mono ?_;rintro e w' ⟨rfl,rfl⟩)
   go_ret
   exact⟨ret_int (cmpI_eq (by omega) (by omega)),rfl⟩
structure Wy where
 id:Int
 both:Bool
 nodes:List Int
 weights:List Int
structure Rl where
 id:Int
 only:Bool
 frm:Int
 to:Int
 via:Bool
 node:Int
 ways:List Int
structure Tn where
 frm:Int
 to:Int
 cost:Int
structure Nt where
 nodes:List Int
 ways:List Wy
 rels:List Rl
 turns:List Tn
 uturn:Int
def iat (zs:List Int)(i:Nat):Int:=zs.getD i 0
def wat (xs:List Wy)(i:Nat):Wy:=xs.getD i ⟨0,false,[],[]⟩
def rat (xs:List Rl)(i:Nat):Rl:=xs.getD i ⟨0,false,0,0,false,0,[]⟩
def tat (xs:List Tn)(i:Nat):Tn:=xs.getD i ⟨0,0,0⟩
theorem iat_eq {zs:List Int}{i:Nat}(h:i<zs.length):iat zs i=zs[i]:=by simp[iat,List.getD,h]
def HSlice (B:Nat)(w:World)(v:Value)(n:Nat)(P:Nat->Nat->Nat->Prop):Prop:=
 ∃a cap,v=.slice a n cap/\n<=maxLen/\(0<n->∃b off,a=some ⟨b,off,none⟩/\B<=b/\b<w.heap.size/\∀i,i<n->P b off i)
def HInts (B:Nat)(w:World)(v:Value)(zs:List Int):Prop:=
 HSlice B w v zs.length λb off i=>w.cell? ⟨b,off+i,none⟩=some (.int .i64 (iat zs i))
def HWay (B:Nat)(w:World)(b o:Nat)(x:Wy):Prop:=
 ∃vn vw,w.cell? ⟨b,o,none⟩=some (.int .i64 x.id)/\w.cell? ⟨b,o+1,none⟩=some (.bool x.both)/\w.cell? ⟨b,o+2,none⟩=some vn/\w.cell? ⟨b,o+3,none⟩=some vw /\
  HInts B w vn x.nodes/\HInts B w vw x.weights
def HWays (B:Nat)(w:World)(v:Value)(xs:List Wy):Prop:=
 HSlice B w v xs.length λb off i=>HWay B w b (off+i*4) (wat xs i)
def HRel (B:Nat)(w:World)(b o:Nat)(x:Rl):Prop:=
 ∃vw,w.cell? ⟨b,o,none⟩=some (.int .i64 x.id)/\w.cell? ⟨b,o+1,none⟩=some (.bool x.only)/\w.cell? ⟨b,o+2,none⟩=some (.int .i64 x.frm)/\w.cell? ⟨b,o+3,none⟩=some (.int .i64 x.to) /\
  w.cell? ⟨b,o+4,none⟩=some (.bool x.via)/\w.cell? ⟨b,o+5,none⟩=some (.int .i64 x.node)/\w.cell? ⟨b,o+6,none⟩=some vw/\HInts B w vw x.ways
def HRels (B:Nat)(w:World)(v:Value)(xs:List Rl):Prop:=
 HSlice B w v xs.length λb off i=>HRel B w b (off+i*7) (rat xs i)
def HTurn (w:World)(b o:Nat)(x:Tn):Prop:=
 w.cell? ⟨b,o,none⟩=some (.int .i64 x.frm)/\w.cell? ⟨b,o+1,none⟩=some (.int .i64 x.to)/\w.cell? ⟨b,o+2,none⟩=some (.int .i64 x.cost)
def HTurns (B:Nat)(w:World)(v:Value)(xs:List Tn):Prop:=
 HSlice B w v xs.length λb off i=>HTurn w b (off+i*3) (tat xs i)
def HNet (B:Nat)(w:World)(v0 v1 v2 v3:Value)(N:Nt):Prop:=
 HInts B w v0 N.nodes/\HWays B w v1 N.ways/\HRels B w v2 N.rels/\HTurns B w v3 N.turns
abbrev Nx (w w':World):Prop:=Below w.heap.size w w'
theorem Nx.trans {a b c:World}(h:Nx a b)(k:Nx b c):Nx a c:=Below.trans h (Below.mono k h.size)
theorem Nx.drew {a b:World}(h:Nx a b):Nx a b.drew:=Below.drew h
theorem Nx.alloc {a b:World}(h:Nx a b)(o:Obj):Nx a (b.alloc o):=Below.alloc h h.size o
theorem cell_lt {w:World}{b o:Nat}{v:Value}(h:w.cell? ⟨b,o,none⟩=some v):b<w.heap.size:=by
 rcases Nat.lt_or_ge b w.heap.size with hlt|hge
 ·exact hlt
 ·have hn:w.heap[b]?=none:=Array.getElem?_eq_none hge
  simp[World.cell?,hn] at h
theorem cell_next {B:Nat}{w w':World}(hx:Below B w w'){b o:Nat}(hB:b<B){v:Value}(h:w.cell? ⟨b,o,none⟩=some v):w'.cell? ⟨b,o,none⟩=some v:=
 (hx.cell (p:=⟨b,o,none⟩) hB).trans h
def Keeps (B:Nat)(w w':World):Prop:=w.heap.size<=w'.heap.size/\∀b,B<=b->b<w.heap.size->∀o,w'.cell? ⟨b,o,none⟩=w.cell? ⟨b,o,none⟩
theorem Nx.keeps {w w':World}(h:Nx w w')(B:Nat):Keeps B w w':=⟨h.size,λb _ hb o=>h.cell (p:=⟨b,o,none⟩) hb⟩
theorem HSlice.mono {B B':Nat}{w w':World}{v:Value}{n:Nat}{P Q:Nat->Nat->Nat->Prop}(h:HSlice B w v n P)(hB:B'<=B)(hw:w.heap.size<=w'.heap.size)
  (hPQ:∀b off,B<=b->b<w.heap.size->∀i,i<n->P b off i->Q b off i):HSlice B' w' v n Q:=by
 obtain⟨a,cap,hv,hn,hk⟩:=h
 refine⟨a,cap,hv,hn,λh0=>?_⟩
 obtain⟨b,off,ha,hb,hs,hc⟩:=hk h0
 exact⟨b,off,ha,by omega,by omega,λi hi=>hPQ b off hb hs i hi (hc i hi)⟩
theorem HInts.keep {B:Nat}{w w':World}{v:Value}{zs:List Int}(h:HInts B w v zs)(k:Keeps B w w'):HInts B w' v zs:=
 HSlice.mono h (Nat.le_refl _) k.1 λb off hb hs i hi hc=>(k.2 b hb hs _).trans hc
theorem HWay.keep {B:Nat}{w w':World}{b o:Nat}{x:Wy}(h:HWay B w b o x)(k:Keeps B w w')(hB:B<=b)(hs:b<w.heap.size):HWay B w' b o x:=by
 obtain⟨vn,vw,h0,h1,h2,h3,h4,h5⟩:=h
 exact⟨vn,vw,(k.2 b hB hs _).trans h0,(k.2 b hB hs _).trans h1,(k.2 b hB hs _).trans h2,(k.2 b hB hs _).trans h3,h4.keep k,h5.keep k⟩
theorem HWays.keep {B:Nat}{w w':World}{v:Value}{xs:List Wy}(h:HWays B w v xs)(k:Keeps B w w'):HWays B w' v xs:=
 HSlice.mono h (Nat.le_refl _) k.1 λb off hb hs i hi hc=>hc.keep k hb hs
theorem HRel.keep {B:Nat}{w w':World}{b o:Nat}{x:Rl}(h:HRel B w b o x)(k:Keeps B w w')(hB:B<=b)(hs:b<w.heap.size):HRel B w' b o x:=by
 obtain⟨vw,h0,h1,h2,h3,h4,h5,h6,h7⟩:=h
 exact⟨vw,(k.2 b hB hs _).trans h0,(k.2 b hB hs _).trans h1,(k.2 b hB hs _).trans h2,(k.2 b hB hs _).trans h3,(k.2 b hB hs _).trans h4,(k.2 b hB hs _).trans h5,(k.2 b hB hs _).trans h6,h7.keep k⟩
theorem HRels.keep {B:Nat}{w w':World}{v:Value}{xs:List Rl}(h:HRels B w v xs)(k:Keeps B w w'):HRels B w' v xs:=
 HSlice.mono h (Nat.le_refl _) k.1 λb off hb hs i hi hc=>hc.keep k hb hs
theorem HTurn.keep {B:Nat}{w w':World}{b o:Nat}{x:Tn}(h:HTurn w b o x)(k:Keeps B w w')(hB:B<=b)(hs:b<w.heap.size):HTurn w' b o x:=
 ⟨(k.2 b hB hs _).trans h.1,(k.2 b hB hs _).trans h.2.1,(k.2 b hB hs _).trans h.2.2⟩
theorem HTurns.keep {B:Nat}{w w':World}{v:Value}{xs:List Tn}(h:HTurns B w v xs)(k:Keeps B w w'):HTurns B w' v xs:=
 HSlice.mono h (Nat.le_refl _) k.1 λb off hb hs i hi hc=>hc.keep k hb hs
theorem HNet.keep {B:Nat}{w w':World}{v0 v1 v2 v3:Value}{N:Nt}(h:HNet B w v0 v1 v2 v3 N)(k:Keeps B w w'):HNet B w' v0 v1 v2 v3 N:=
 ⟨h.1.keep k,h.2.1.keep k,h.2.2.1.keep k,h.2.2.2.keep k⟩
theorem HNet.next {B:Nat}{w w':World}{v0 v1 v2 v3:Value}{N:Nt}(h:HNet B w v0 v1 v2 v3 N)(k:Nx w w'):HNet B w' v0 v1 v2 v3 N:=h.keep (k.keeps B)
theorem HInts.next {B:Nat}{w w':World}{v:Value}{zs:List Int}(h:HInts B w v zs)(k:Nx w w'):HInts B w' v zs:=h.keep (k.keeps B)
def edgeN (x:Wy):Nat:=if x.both then 2*x.weights.length else x.weights.length
theorem l1WayEdges_any (id:Int)(both:Bool)(vn vw:Value)(B:Nat)(zs:List Int)(w:World)(h0:HInts B w vw zs)(hs:zs.length<=1048576) :
  Calls Tryz.prog 18 #[.agg #[.int .i64 id,.bool both,vn,vw]] w λe w'=>e=.returned (.int .i64 (if both then 2*zs.length else zs.length:Nat))/\Nx w w':=by
 obtain⟨a,cap,rfl,hn,hk⟩:=h0
 clear hk hn
 cases both
 all_goals
  go_enter Tryz.func18,Tryz.ntmps18
  go_wp2
  go_ret
  exact⟨ret_int (by simp),(Below.refl _ _).alloc (Nat.le_refl _) _⟩
theorem bcell {W w1:World}(hb:Below W.heap.size W w1):(∀b o,b<W.heap.size->w1.cell? ⟨b,o,none⟩=W.cell? ⟨b,o,none⟩)/\(∀b o,b<W.heap.size->w1.frozen? ⟨b,o,none⟩=W.frozen? ⟨b,o,none⟩):=
 ⟨λb o h=>hb.cell (p:=⟨b,o,none⟩) h,λb o h=>hb.frozen (p:=⟨b,o,none⟩) h⟩
theorem Nx.refl (w:World):Nx w w:=Below.refl _ _
theorem box1 (w:World)(o:Obj):Nx w (w.alloc o):=(Nx.refl w).alloc o
theorem box2 (w:World)(o o':Obj):Nx w ((w.alloc o).alloc o'):=(box1 w o).alloc o'
def allN (n:Nat)(p:Nat->Bool):Bool:=(List.range n).all p
def allTo (p:Nat->Bool)(k:Nat):Prop:=∀i,i<k->p i=true
theorem allTo_zero (p:Nat->Bool):allTo p 0:=λi hi=>absurd hi (Nat.not_lt_zero _)
theorem allTo_succ {p:Nat->Bool}{k:Nat}(h:allTo p k)(hk:p k=true):allTo p (k+1):=by
 intro i hi
 rcases Nat.lt_succ_iff_lt_or_eq.1 hi with h1|rfl
 ·exact h i h1
 ·exact hk
theorem allN_yes {n k:Nat}{p:Nat->Bool}(hk:n<=k)(h:allTo p k):allN n p=true:=by
 unfold allN;rw[List.all_eq_true];intro i hi;exact h i (by have:=List.mem_range.1 hi;omega)
theorem allN_no {n k:Nat}{p:Nat->Bool}(hk:k<n)(h:p k=false):allN n p=false:=by
 unfold allN;rw[List.all_eq_false];exact⟨k,List.mem_range.2 hk,by simp[h]⟩
end Go.Proofs.YthhkjbfkgdlkmaaGreatDoor
