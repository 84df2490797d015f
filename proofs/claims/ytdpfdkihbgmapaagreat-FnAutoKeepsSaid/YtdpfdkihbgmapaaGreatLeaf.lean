import Derived.Test.YtdpfdkihbgmapaaGreatChecked
import Derived.WalkKit
import Derived.WalkSpells
import Derived.WalkLawsBesides
import Derived.Deep.QuietTactic
import Derived.BigQuiet
import Derived.Deep.RegionWith
import Derived.BigRegion
namespace Go.Proofs.YtdpfdkihbgmapaaGreat
open Go.RowKit
set_option linter.unusedVariables false
set_option maxHeartbeats 16000000
theorem ret_bool {a b:Bool}(h:a=b):Ending.returned (.bool a)=.returned (.bool b):=by rw[h]
theorem ret_int {k:IntKind}{a b:Int}(h:a=b):Ending.returned (.int k a)=.returned (.int k b):=by rw[h]
def inB (v:Int):Bool:=decide (0<=v/\v<=1048576)
theorem inB_yes {v:Int}(h1:0<=v)(h2:v<=1048576):true=inB v:=by simp[inB,h1,h2]
theorem inB_no1 {v:Int}(h1:v<0):false=inB v:=by unfold inB;rw[eq_comm,decide_eq_false_iff_not];omega
theorem inB_no2 {v:Int}(h2:1048576<v):false=inB v:=by unfold inB;rw[eq_comm,decide_eq_false_iff_not];omega
def cmpI (x y:Int):Int:=if x<y then -1 else if y<x then 1 else 0
theorem cmpI_lt {x y:Int}(h:x<y):-1=cmpI x y:=by simp[cmpI,h]
theorem cmpI_gt {x y:Int}(h:y<x):1=cmpI x y:=by unfold cmpI;rw[if_neg (by omega),if_pos h]
theorem cmpI_eq {x y:Int}(h:¬x<y)(h':¬y<x):0=cmpI x y:=by unfold cmpI;rw[if_neg h,if_neg h']
theorem l1In_any (v:Int)(w:World) :
  Calls Tryz.prog 69 #[.int .i64 v] w λe w'=>e=.returned (.bool (inB v))/\w'=w:=by
 by_cases h1:0<=v
 ·by_cases h2:v<=1048576
  ·go_enter Tryz.func69,Tryz.ntmps69
   go_wp2
   go_ret
   exact⟨ret_bool (inB_yes h1 h2),rfl⟩
  ·go_enter Tryz.func69,Tryz.ntmps69
   go_wp2
   go_ret
   exact⟨ret_bool (inB_no2 h2),rfl⟩
 ·go_enter Tryz.func69,Tryz.ntmps69
  go_wp2
  go_ret
  exact⟨ret_bool (inB_no1 h1),rfl⟩
theorem cmpNaN_any (v:Int)(w:World) :
  Calls Tryz.prog 68 #[.int .i64 v] w λe w'=>e=.returned (.bool false)/\w'=w:=by
 go_enter Tryz.func68,Tryz.ntmps68
 go_wp2
 go_ret
 exact⟨rfl,rfl⟩
theorem cmp_any (x y:Int)(w:World) :
  Calls Tryz.prog 58 #[.int .i64 x,.int .i64 y] w λe w'=>e=.returned (.int .i64 (cmpI x y))/\w'=w:=by
 by_cases h1:x<y
 ·go_enter Tryz.func58,Tryz.ntmps58
  go_wp2_with (go_at_call 68;refine(cmpNaN_any _ _).mono ?_;rintro e w' ⟨rfl,rfl⟩)
  go_ret
  exact⟨ret_int (cmpI_lt h1),rfl⟩
 ·by_cases h2:y<x
  ·go_enter Tryz.func58,Tryz.ntmps58
   go_wp2_with (go_at_call 68;refine(cmpNaN_any _ _).mono ?_;rintro e w' ⟨rfl,rfl⟩)
   go_ret
   exact⟨ret_int (cmpI_gt h2),rfl⟩
  ·go_enter Tryz.func58,Tryz.ntmps58
   go_wp2_with (go_at_call 68;refine(cmpNaN_any _ _).mono ?_;rintro e w' ⟨rfl,rfl⟩)
   go_ret
   exact⟨ret_int (cmpI_eq (by omega) (by omega)),rfl⟩
structure Wy where
 id:Int
 both:Bool
 nodes:List Int
 weights:List Int
structure Rl where
 id:Int
 only:Bool
 frm:Int
 to:Int
 via:Bool
 node:Int
 ways:List Int
structure Tn where
 frm:Int
 to:Int
 cost:Int
structure Nt where
 nodes:List Int
 ways:List Wy
 rels:List Rl
 turns:List Tn
 uturn:Int
def iat (zs:List Int)(i:Nat):Int:=zs.getD i 0
def wat (xs:List Wy)(i:Nat):Wy:=xs.getD i ⟨0,false,[],[]⟩
def rat (xs:List Rl)(i:Nat):Rl:=xs.getD i ⟨0,false,0,0,false,0,[]⟩
def tat (xs:List Tn)(i:Nat):Tn:=xs.getD i ⟨0,0,0⟩
theorem iat_eq {zs:List Int}{i:Nat}(h:i<zs.length):iat zs i=zs[i]:=by simp[iat,List.getD,h]
theorem wat_eq {zs:List Wy}{i:Nat}(h:i<zs.length):wat zs i=zs[i]:=by simp[wat,List.getD,h]
theorem rat_eq {zs:List Rl}{i:Nat}(h:i<zs.length):rat zs i=zs[i]:=by simp[rat,List.getD,h]
def HSlice (B:Nat)(w:World)(v:Value)(n:Nat)(P:Nat->Nat->Nat->Prop):Prop:=
 ∃a cap,v=.slice a n cap/\n<=maxLen/\(0<n->∃b off,a=some ⟨b,off,none⟩/\B<=b/\b<w.heap.size/\∀i,i<n->P b off i)
def HInts (B:Nat)(w:World)(v:Value)(zs:List Int):Prop:=
 HSlice B w v zs.length λb off i=>w.cell? ⟨b,off+i,none⟩=some (.int .i64 (iat zs i))
def HWay (B:Nat)(w:World)(b o:Nat)(x:Wy):Prop:=
 ∃vn vw,w.cell? ⟨b,o,none⟩=some (.int .i64 x.id)/\w.cell? ⟨b,o+1,none⟩=some (.bool x.both)/\w.cell? ⟨b,o+2,none⟩=some vn/\w.cell? ⟨b,o+3,none⟩=some vw /\
  HInts B w vn x.nodes/\HInts B w vw x.weights
def HWays (B:Nat)(w:World)(v:Value)(xs:List Wy):Prop:=
 HSlice B w v xs.length λb off i=>HWay B w b (off+i*4) (wat xs i)
def HRel (B:Nat)(w:World)(b o:Nat)(x:Rl):Prop:=
 ∃vw,w.cell? ⟨b,o,none⟩=some (.int .i64 x.id)/\w.cell? ⟨b,o+1,none⟩=some (.bool x.only)/\w.cell? ⟨b,o+2,none⟩=some (.int .i64 x.frm)/\w.cell? ⟨b,o+3,none⟩=some (.int .i64 x.to) /\
  w.cell? ⟨b,o+4,none⟩=some (.bool x.via)/\w.cell? ⟨b,o+5,none⟩=some (.int .i64 x.node)/\w.cell? ⟨b,o+6,none⟩=some vw/\HInts B w vw x.ways
def HRels (B:Nat)(w:World)(v:Value)(xs:List Rl):Prop:=
 HSlice B w v xs.length λb off i=>HRel B w b (off+i*7) (rat xs i)
def HTurn (w:World)(b o:Nat)(x:Tn):Prop:=
 w.cell? ⟨b,o,none⟩=some (.int .i64 x.frm)/\w.cell? ⟨b,o+1,none⟩=some (.int .i64 x.to)/\w.cell? ⟨b,o+2,none⟩=some (.int .i64 x.cost)
def HTurns (B:Nat)(w:World)(v:Value)(xs:List Tn):Prop:=
 HSlice B w v xs.length λb off i=>HTurn w b (off+i*3) (tat xs i)
def HNet (B:Nat)(w:World)(v0 v1 v2 v3:Value)(N:Nt):Prop:=
 HInts B w v0 N.nodes/\HWays B w v1 N.ways/\HRels B w v2 N.rels/\HTurns B w v3 N.turns
abbrev Nx (w w':World):Prop:=Below w.heap.size w w'
theorem Nx.trans {a b c:World}(h:Nx a b)(k:Nx b c):Nx a c:=Below.trans h (Below.mono k h.size)
theorem Nx.drew {a b:World}(h:Nx a b):Nx a b.drew:=Below.drew h
theorem Nx.alloc {a b:World}(h:Nx a b)(o:Obj):Nx a (b.alloc o):=Below.alloc h h.size o
theorem cell_lt {w:World}{b o:Nat}{v:Value}(h:w.cell? ⟨b,o,none⟩=some v):b<w.heap.size:=by
 rcases Nat.lt_or_ge b w.heap.size with hlt|hge
 ·exact hlt
 ·have hn:w.heap[b]?=none:=Array.getElem?_eq_none hge
  simp[World.cell?,hn] at h
theorem cell_next {B:Nat}{w w':World}(hx:Below B w w'){b o:Nat}(hB:b<B){v:Value}(h:w.cell? ⟨b,o,none⟩=some v):w'.cell? ⟨b,o,none⟩=some v:=
 (hx.cell (p:=⟨b,o,none⟩) hB).trans h
def Keeps (B:Nat)(w w':World):Prop:=w.heap.size<=w'.heap.size/\∀b,B<=b->b<w.heap.size->∀o,w'.cell? ⟨b,o,none⟩=w.cell? ⟨b,o,none⟩
theorem Nx.keeps {w w':World}(h:Nx w w')(B:Nat):Keeps B w w':=⟨h.size,λb _ hb o=>h.cell (p:=⟨b,o,none⟩) hb⟩
theorem HSlice.mono {B B':Nat}{w w':World}{v:Value}{n:Nat}{P Q:Nat->Nat->Nat->Prop}(h:HSlice B w v n P)(hB:B'<=B)(hw:w.heap.size<=w'.heap.size)
  (hPQ:∀b off,B<=b->b<w.heap.size->∀i,i<n->P b off i->Q b off i):HSlice B' w' v n Q:=by
 obtain⟨a,cap,hv,hn,hk⟩:=h
 refine⟨a,cap,hv,hn,λh0=>?_⟩
 obtain⟨b,off,ha,hb,hs,hc⟩:=hk h0
 exact⟨b,off,ha,by omega,by omega,λi hi=>hPQ b off hb hs i hi (hc i hi)⟩
theorem HInts.keep {B:Nat}{w w':World}{v:Value}{zs:List Int}(h:HInts B w v zs)(k:Keeps B w w'):HInts B w' v zs:=
 HSlice.mono h (Nat.le_refl _) k.1 λb off hb hs i hi hc=>(k.2 b hb hs _).trans hc
theorem HWay.keep {B:Nat}{w w':World}{b o:Nat}{x:Wy}(h:HWay B w b o x)(k:Keeps B w w')(hB:B<=b)(hs:b<w.heap.size):HWay B w' b o x:=by
 obtain⟨vn,vw,h0,h1,h2,h3,h4,h5⟩:=h
 exact⟨vn,vw,(k.2 b hB hs _).trans h0,(k.2 b hB hs _).trans h1,(k.2 b hB hs _).trans h2,(k.2 b hB hs _).trans h3,h4.keep k,h5.keep k⟩
theorem HWays.keep {B:Nat}{w w':World}{v:Value}{xs:List Wy}(h:HWays B w v xs)(k:Keeps B w w'):HWays B w' v xs:=
 HSlice.mono h (Nat.le_refl _) k.1 λb off hb hs i hi hc=>hc.keep k hb hs
theorem HRel.keep {B:Nat}{w w':World}{b o:Nat}{x:Rl}(h:HRel B w b o x)(k:Keeps B w w')(hB:B<=b)(hs:b<w.heap.size):HRel B w' b o x:=by
 obtain⟨vw,h0,h1,h2,h3,h4,h5,h6,h7⟩:=h
 exact⟨vw,(k.2 b hB hs _).trans h0,(k.2 b hB hs _).trans h1,(k.2 b hB hs _).trans h2,(k.2 b hB hs _).trans h3,(k.2 b hB hs _).trans h4,(k.2 b hB hs _).trans h5,(k.2 b hB hs _).trans h6,h7.keep k⟩
theorem HRels.keep {B:Nat}{w w':World}{v:Value}{xs:List Rl}(h:HRels B w v xs)(k:Keeps B w w'):HRels B w' v xs:=
 HSlice.mono h (Nat.le_refl _) k.1 λb off hb hs i hi hc=>hc.keep k hb hs
theorem HTurn.keep {B:Nat}{w w':World}{b o:Nat}{x:Tn}(h:HTurn w b o x)(k:Keeps B w w')(hB:B<=b)(hs:b<w.heap.size):HTurn w' b o x:=
 ⟨(k.2 b hB hs _).trans h.1,(k.2 b hB hs _).trans h.2.1,(k.2 b hB hs _).trans h.2.2⟩
theorem HTurns.keep {B:Nat}{w w':World}{v:Value}{xs:List Tn}(h:HTurns B w v xs)(k:Keeps B w w'):HTurns B w' v xs:=
 HSlice.mono h (Nat.le_refl _) k.1 λb off hb hs i hi hc=>hc.keep k hb hs
theorem HNet.keep {B:Nat}{w w':World}{v0 v1 v2 v3:Value}{N:Nt}(h:HNet B w v0 v1 v2 v3 N)(k:Keeps B w w'):HNet B w' v0 v1 v2 v3 N:=
 ⟨h.1.keep k,h.2.1.keep k,h.2.2.1.keep k,h.2.2.2.keep k⟩
theorem HNet.next {B:Nat}{w w':World}{v0 v1 v2 v3:Value}{N:Nt}(h:HNet B w v0 v1 v2 v3 N)(k:Nx w w'):HNet B w' v0 v1 v2 v3 N:=h.keep (k.keeps B)
theorem HInts.next {B:Nat}{w w':World}{v:Value}{zs:List Int}(h:HInts B w v zs)(k:Nx w w'):HInts B w' v zs:=h.keep (k.keeps B)
def hasI (zs:List Int)(id:Int):Bool:=zs.any (·==id)
def notTo (zs:List Int)(id:Int)(k:Nat):Prop:=∀i,i<k->iat zs i≠id
theorem notTo_zero (zs:List Int)(id:Int):notTo zs id 0:=λi hi=>absurd hi (Nat.not_lt_zero _)
theorem notTo_succ {zs:List Int}{id:Int}{k:Nat}(h:notTo zs id k)(hk:(iat zs k==id)=false):notTo zs id (k+1):=by
 intro i hi
 rcases Nat.lt_succ_iff_lt_or_eq.1 hi with h1|rfl
 ·exact h i h1
 ·simpa using hk
theorem hasI_yes {zs:List Int}{id:Int}{k:Nat}(hk:k<zs.length)(h:(iat zs k==id)=true):true=hasI zs id:=by
 symm;unfold hasI;rw[List.any_eq_true]
 exact⟨zs[k],List.getElem_mem hk,by rw[<-iat_eq hk];exact h⟩
theorem hasI_no {zs:List Int}{id:Int}{k:Nat}(hk:zs.length<=k)(h:notTo zs id k):false=hasI zs id:=by
 symm;unfold hasI;rw[List.any_eq_false]
 intro x hx
 obtain⟨i,hi,rfl⟩:=List.mem_iff_getElem.1 hx
 have:=h i (by omega)
 rw[<-iat_eq hi];simpa using this
theorem l1HasNode_any (B:Nat)(v0 v1 v2 v3:Value)(u id:Int)(zs:List Int)(w:World)(h0:HInts B w v0 zs) :
  Calls Tryz.prog 84 #[.agg #[v0,v1,v2,v3,.int .i64 u],.int .i64 id] w λe w'=>e=.returned (.bool (hasI zs id))/\Nx w w':=by
 obtain⟨a,cap,rfl,hn,hk⟩:=h0
 unfold maxLen at hn
 generalize hz:zs.length=n at *
 have HZ:Hid (zs.length=n):=hz
 clear hz
 go_enter Tryz.func84,Tryz.ntmps84
 go_wp2
 go_loop [5] (λi=>∃k:Nat,k<=n/\i=.int .i64 k/\Hid (notTo zs id k)) (λi=>n-(intOf i).toNat)
 case atStart=>exact⟨0,Nat.zero_le _,rfl,notTo_zero _ _⟩
 case round=>
  obtain⟨k,hkn,rfl,hrel⟩:=hrel
  by_cases hlt:k<n
  ·obtain⟨b,off,rfl,hB,hb,hc⟩:=hk (by omega)
   have hcc:=hc k hlt
   clear hc hk
   go_wp2
   ·go_ret
    exact⟨ret_bool (hasI_yes (by rw[HZ.out];exact hlt) (by assumption)),(Below.refl _ _).alloc (Nat.le_refl _) _⟩
   ·go_round
    case rel=>exact⟨k+1,by omega,by go_num,notTo_succ hrel (by assumption)⟩
    case measure=>simp[intOf];omega
  ·go_wp2
   go_ret
   exact⟨ret_bool (hasI_no (by rw[HZ.out];omega) hrel),(Below.refl _ _).alloc (Nat.le_refl _) _⟩
def hasW (xs:List Wy)(id:Int):Bool:=xs.any (·.id==id)
def notW (xs:List Wy)(id:Int)(k:Nat):Prop:=∀i,i<k->(wat xs i).id≠id
theorem notW_zero (xs:List Wy)(id:Int):notW xs id 0:=λi hi=>absurd hi (Nat.not_lt_zero _)
theorem notW_succ {xs:List Wy}{id:Int}{k:Nat}(h:notW xs id k)(hk:((wat xs k).id==id)=false):notW xs id (k+1):=by
 intro i hi
 rcases Nat.lt_succ_iff_lt_or_eq.1 hi with h1|rfl
 ·exact h i h1
 ·simpa using hk
theorem hasW_yes {xs:List Wy}{id:Int}{k:Nat}(hk:k<xs.length)(h:((wat xs k).id==id)=true):hasW xs id=true:=by
 unfold hasW;rw[List.any_eq_true]
 exact⟨xs[k],List.getElem_mem hk,by rw[<-wat_eq hk];exact h⟩
theorem hasW_no {xs:List Wy}{id:Int}{k:Nat}(hk:xs.length<=k)(h:notW xs id k):hasW xs id=false:=by
 unfold hasW;rw[List.any_eq_false]
 intro x hx
 obtain⟨i,hi,rfl⟩:=List.mem_iff_getElem.1 hx
 have:=h i (by omega)
 rw[<-wat_eq hi];simpa using this
theorem l1WayAt_any (B:Nat)(v0 v1 v2 v3:Value)(u id:Int)(xs:List Wy)(w:World)(h0:HWays B w v1 xs) :
  Calls Tryz.prog 73 #[.agg #[v0,v1,v2,v3,.int .i64 u],.int .i64 id] w λe w'=>∃r:Int,e=.returned (.int .i64 r)/\decide (r<0)=!hasW xs id/\Nx w w':=by
 obtain⟨a,cap,rfl,hn,hk⟩:=h0
 unfold maxLen at hn
 generalize hz:xs.length=n at *
 have HZ:Hid (xs.length=n):=hz
 clear hz
 go_enter Tryz.func73,Tryz.ntmps73
 go_wp2
 go_loop [5] (λi=>∃k:Nat,k<=n/\i=.int .i64 k/\Hid (notW xs id k)) (λi=>n-(intOf i).toNat)
 case atStart=>exact⟨0,Nat.zero_le _,rfl,notW_zero _ _⟩
 case round=>
  obtain⟨k,hkn,rfl,hrel⟩:=hrel
  by_cases hlt:k<n
  ·obtain⟨b,off,rfl,hB,hb,hc⟩:=hk (by omega)
   obtain⟨vn,vw,hcc,_⟩:=hc k hlt
   clear hc hk
   go_wp2
   ·go_ret
    exact⟨_,rfl,by rw[hasW_yes (by rw[HZ.out];exact hlt) (by assumption)];simp,(Below.refl _ _).alloc (Nat.le_refl _) _⟩
   ·go_round
    case rel=>exact⟨k+1,by omega,by go_num,notW_succ hrel (by assumption)⟩
    case measure=>simp[intOf];omega
  ·go_wp2
   go_ret
   exact⟨-1,rfl,by rw[hasW_no (by rw[HZ.out];omega) hrel];rfl,(Below.refl _ _).alloc (Nat.le_refl _) _⟩
def edgeN (x:Wy):Nat:=if x.both then 2*x.weights.length else x.weights.length
theorem l1WayEdges_any (id:Int)(both:Bool)(vn vw:Value)(B:Nat)(zs:List Int)(w:World)(h0:HInts B w vw zs)(hs:zs.length<=1048576) :
  Calls Tryz.prog 71 #[.agg #[.int .i64 id,.bool both,vn,vw]] w λe w'=>e=.returned (.int .i64 (if both then 2*zs.length else zs.length:Nat))/\Nx w w':=by
 obtain⟨a,cap,rfl,hn,hk⟩:=h0
 clear hk hn
 cases both
 all_goals
  go_enter Tryz.func71,Tryz.ntmps71
  go_wp2
  go_ret
  exact⟨ret_int (by simp),(Below.refl _ _).alloc (Nat.le_refl _) _⟩
theorem bcell {W w1:World}(hb:Below W.heap.size W w1):(∀b o,b<W.heap.size->w1.cell? ⟨b,o,none⟩=W.cell? ⟨b,o,none⟩)/\(∀b o,b<W.heap.size->w1.frozen? ⟨b,o,none⟩=W.frozen? ⟨b,o,none⟩):=
 ⟨λb o h=>hb.cell (p:=⟨b,o,none⟩) h,λb o h=>hb.frozen (p:=⟨b,o,none⟩) h⟩
theorem Nx.refl (w:World):Nx w w:=Below.refl _ _
theorem box1 (w:World)(o:Obj):Nx w (w.alloc o):=(Nx.refl w).alloc o
theorem box2 (w:World)(o o':Obj):Nx w ((w.alloc o).alloc o'):=(box1 w o).alloc o'
def allN (n:Nat)(p:Nat->Bool):Bool:=(List.range n).all p
def allTo (p:Nat->Bool)(k:Nat):Prop:=∀i,i<k->p i=true
theorem allTo_zero (p:Nat->Bool):allTo p 0:=λi hi=>absurd hi (Nat.not_lt_zero _)
theorem allTo_succ {p:Nat->Bool}{k:Nat}(h:allTo p k)(hk:p k=true):allTo p (k+1):=by
 intro i hi
 rcases Nat.lt_succ_iff_lt_or_eq.1 hi with h1|rfl
 ·exact h i h1
 ·exact hk
theorem allN_yes {n k:Nat}{p:Nat->Bool}(hk:n<=k)(h:allTo p k):allN n p=true:=by
 unfold allN;rw[List.all_eq_true];intro i hi;exact h i (by have:=List.mem_range.1 hi;omega)
theorem allN_no {n k:Nat}{p:Nat->Bool}(hk:k<n)(h:p k=false):allN n p=false:=by
 unfold allN;rw[List.all_eq_false];exact⟨k,List.mem_range.2 hk,by simp[h]⟩
def ascAt (lt:Nat->Nat->Bool)(i:Nat):Bool:=i==0||lt (i-1) i
def ascN (n:Nat)(lt:Nat->Nat->Bool):Bool:=allN n (ascAt lt)
theorem ascAt_succ (lt:Nat->Nat->Bool)(j:Nat):ascAt lt (j+1)=lt j (j+1):=by simp[ascAt]
theorem wrapJ (j:Nat)(h:j<=9223372036854775807):IntKind.i64.wrap (j:Int)=(j:Int):=by rw[IntKind.wrap_i64];omega
def wsum (xs:List Wy):Nat->Nat
 |0=>0
 |k+1=>wsum xs k+(wat xs k).weights.length
def WFit (xs:List Wy)(k:Nat)(used:Int):Prop:=(∀i,i<k->(wat xs i).nodes.length<=1048576/\(wat xs i).weights.length<=1048576)/\(wsum xs k:Int)<=used
theorem WFit.zero (xs:List Wy)(used:Int)(h:0<=used):WFit xs 0 used:=⟨λi hi=>absurd hi (Nat.not_lt_zero _),by simpa [wsum] using h⟩
theorem WFit.succ {xs:List Wy}{k:Nat}{left l r:Int}(h:WFit xs k (left-l))(hl:l<=1048576)(hr:0<=r)(e:r+(wat xs k).nodes.length+(wat xs k).weights.length=l):WFit xs (k+1) (left-r):=by
 refine⟨λi hi=>?_,?_⟩
 ·rcases Nat.lt_succ_iff_lt_or_eq.1 hi with h1|rfl
  ·exact h.1 i h1
  ·omega
 ·have:=h.2;simp only[wsum];omega
end Go.Proofs.YtdpfdkihbgmapaaGreat
