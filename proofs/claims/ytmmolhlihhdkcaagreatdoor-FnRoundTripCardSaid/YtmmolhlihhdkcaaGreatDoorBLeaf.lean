import Derived.Test.YtmmolhlihhdkcaaGreatDoorChecked
import Derived.WalkKit
import Derived.WalkSpells
import Derived.WalkLawsBesides
import Derived.Deep.QuietTactic
import Derived.BigQuiet
import Derived.Deep.RegionWith
import Derived.BigRegion
namespace Go.Proofs.YtmmolhlihhdkcaaGreatDoor
open Go.RowKit
set_option linter.unusedVariables false
set_option maxHeartbeats 16000000
theorem Qa {a b:Bool}(h:a=b):Ending.returned (.bool a)=.returned (.bool b):=by rw[h]
theorem Ut {k:IntKind}{a b:Int}(h:a=b):Ending.returned (.int k a)=.returned (.int k b):=by rw[h]
def inB (v:Int):Bool:=decide (0<=v/\v<=1048576)
theorem Q5m {v:Int}(h1:0<=v)(h2:v<=1048576):true=inB v:=by simp[inB,h1,h2]
theorem Q5o {v:Int}(h1:v<0):false=inB v:=by unfold inB;rw[eq_comm,decide_eq_false_iff_not];omega
theorem Q5n {v:Int}(h2:1048576<v):false=inB v:=by unfold inB;rw[eq_comm,decide_eq_false_iff_not];omega
def V1 (x y:Int):Int:=if x<y then -1 else if y<x then 1 else 0
theorem Qca {x y:Int}(h:x<y):-1=V1 x y:=by simp[V1,h]
theorem Qcb {x y:Int}(h:y<x):1=V1 x y:=by unfold V1;rw[if_neg (by omega),if_pos h]
theorem Qcc {x y:Int}(h:¬x<y)(h':¬y<x):0=V1 x y:=by unfold V1;rw[if_neg h,if_neg h']
theorem J9 (v:Int)(w:World) :
  Calls Tryz.prog 19 #[.int .i64 v] w λe w'=>e=.returned (.bool (inB v))/\w'=w:=by
 by_cases h1:0<=v
 ·by_cases h2:v<=1048576
  ·go_enter Tryz.func19,Tryz.ntmps19
   go_wp2
   go_ret
   exact⟨Qa (Q5m h1 h2),rfl⟩
  ·go_enter Tryz.func19,Tryz.ntmps19
   go_wp2
   go_ret
   exact⟨Qa (Q5n h2),rfl⟩
 ·go_enter Tryz.func19,Tryz.ntmps19
  go_wp2
  go_ret
  exact⟨Qa (Q5o h1),rfl⟩
theorem Jj (v:Int)(w:World) :
  Calls Tryz.prog 25 #[.int .i64 v] w λe w'=>e=.returned (.bool (inB v))/\w'=w:=by
 by_cases h1:0<=v
 ·by_cases h2:v<=1048576
  ·go_enter Tryz.func25,Tryz.ntmps25
   go_wp2
   go_ret
   exact⟨Qa (Q5m h1 h2),rfl⟩
  ·go_enter Tryz.func25,Tryz.ntmps25
   go_wp2
   go_ret
   exact⟨Qa (Q5n h2),rfl⟩
 ·go_enter Tryz.func25,Tryz.ntmps25
  go_wp2
  go_ret
  exact⟨Qa (Q5o h1),rfl⟩
theorem Wm (v:Int)(w:World) :
  Calls Tryz.prog 46 #[.int .i64 v] w λe w'=>e=.returned (.bool (!inB v))/\w'=w:=by
 go_enter Tryz.func46,Tryz.ntmps46
 go_wp2_with (go_at_call 25;refine(Jj _ _).mono ?_;rintro e w' ⟨rfl,rfl⟩)
 go_ret
 exact⟨rfl,rfl⟩
theorem W1 (v:Int)(w:World) :
  Calls Tryz.prog 70 #[.int .i64 v] w λe w'=>e=.returned (.bool false)/\w'=w:=by
 go_enter Tryz.func70,Tryz.ntmps70
 go_wp2
 go_ret
 exact⟨rfl,rfl⟩
theorem A1 (v:Int)(w:World) :
  Calls Tryz.prog 116 #[.int .i64 v] w λe w'=>e=.returned (.bool false)/\w'=w:=by
 go_enter Tryz.func116,Tryz.ntmps116
 go_wp2
 go_ret
 exact⟨rfl,rfl⟩
theorem Zw (x y:Int)(w:World) :
  Calls Tryz.prog 44 #[.int .i64 x,.int .i64 y] w λe w'=>e=.returned (.int .i64 (V1 x y))/\w'=w:=by
 by_cases h1:x<y
 ·go_enter Tryz.func44,Tryz.ntmps44
  go_wp2_with (go_at_call 70;refine(W1 _ _).mono ?_;rintro e w' ⟨rfl,rfl⟩)
  go_ret
  exact⟨Ut (Qca h1),rfl⟩
 ·by_cases h2:y<x
  ·go_enter Tryz.func44,Tryz.ntmps44
   go_wp2_with (go_at_call 70;refine(W1 _ _).mono ?_;rintro e w' ⟨rfl,rfl⟩)
   go_ret
   exact⟨Ut (Qcb h2),rfl⟩
  ·go_enter Tryz.func44,Tryz.ntmps44
   go_wp2_with (go_at_call 70;refine(W1 _ _).mono ?_;rintro e w' ⟨rfl,rfl⟩)
   go_ret
   exact⟨Ut (Qcc (by omega) (by omega)),rfl⟩
theorem Q22 (x y:Int)(w:World) :
  Calls Tryz.prog 115 #[.int .i64 x,.int .i64 y] w λe w'=>e=.returned (.bool (decide (x<y)))/\w'=w:=by
 go_enter Tryz.func115,Tryz.ntmps115
 go_wp2_with (go_at_call 70;refine(W1 _ _).mono ?_;rintro e w' ⟨rfl,rfl⟩)
 go_ret
 exact⟨rfl,rfl⟩
structure Wy where
 id:Int
 both:Bool
 nodes:List Int
 weights:List Int
structure Rl where
 id:Int
 only:Bool
 frm:Int
 to:Int
 via:Bool
 node:Int
 ways:List Int
structure Tn where
 frm:Int
 to:Int
 cost:Int
structure Nt where
 nodes:List Int
 ways:List Wy
 rels:List Rl
 turns:List Tn
 uturn:Int
def iat (zs:List Int)(i:Nat):Int:=zs.getD i 0
def wat (xs:List Wy)(i:Nat):Wy:=xs.getD i ⟨0,false,[],[]⟩
def rat (xs:List Rl)(i:Nat):Rl:=xs.getD i ⟨0,false,0,0,false,0,[]⟩
def tat (xs:List Tn)(i:Nat):Tn:=xs.getD i ⟨0,0,0⟩
theorem V7 {zs:List Int}{i:Nat}(h:i<zs.length):iat zs i=zs[i]:=by simp[iat,List.getD,h]
theorem Us {zs:List Wy}{i:Nat}(h:i<zs.length):wat zs i=zs[i]:=by simp[wat,List.getD,h]
theorem Pe {zs:List Rl}{i:Nat}(h:i<zs.length):rat zs i=zs[i]:=by simp[rat,List.getD,h]
theorem Ay {zs:List Tn}{i:Nat}(h:i<zs.length):tat zs i=zs[i]:=by simp[tat,List.getD,h]
def Jl (B:Nat)(w:World)(v:Value)(n:Nat)(P:Nat->Nat->Nat->Prop):Prop:=
 ∃a cap,v=.slice a n cap/\n<=maxLen/\(0<n->∃b off,a=some ⟨b,off,none⟩/\B<=b/\b<w.heap.size/\∀i,i<n->P b off i)
def Qr (B:Nat)(w:World)(v:Value)(zs:List Int):Prop:=
 Jl B w v zs.length λb off i=>w.cell? ⟨b,off+i,none⟩=some (.int .i64 (iat zs i))
def Qcm (B:Nat)(w:World)(b o:Nat)(x:Wy):Prop:=
 ∃vn vw,w.cell? ⟨b,o,none⟩=some (.int .i64 x.id)/\w.cell? ⟨b,o+1,none⟩=some (.bool x.both)/\w.cell? ⟨b,o+2,none⟩=some vn/\w.cell? ⟨b,o+3,none⟩=some vw /\
  Qr B w vn x.nodes/\Qr B w vw x.weights
def Vh (B:Nat)(w:World)(v:Value)(xs:List Wy):Prop:=
 Jl B w v xs.length λb off i=>Qcm B w b (off+i*4) (wat xs i)
def Qcn (B:Nat)(w:World)(b o:Nat)(x:Rl):Prop:=
 ∃vw,w.cell? ⟨b,o,none⟩=some (.int .i64 x.id)/\w.cell? ⟨b,o+1,none⟩=some (.bool x.only)/\w.cell? ⟨b,o+2,none⟩=some (.int .i64 x.frm)/\w.cell? ⟨b,o+3,none⟩=some (.int .i64 x.to) /\
  w.cell? ⟨b,o+4,none⟩=some (.bool x.via)/\w.cell? ⟨b,o+5,none⟩=some (.int .i64 x.node)/\w.cell? ⟨b,o+6,none⟩=some vw/\Qr B w vw x.ways
def Zx (B:Nat)(w:World)(v:Value)(xs:List Rl):Prop:=
 Jl B w v xs.length λb off i=>Qcn B w b (off+i*7) (rat xs i)
def Kr (w:World)(b o:Nat)(x:Tn):Prop:=
 w.cell? ⟨b,o,none⟩=some (.int .i64 x.frm)/\w.cell? ⟨b,o+1,none⟩=some (.int .i64 x.to)/\w.cell? ⟨b,o+2,none⟩=some (.int .i64 x.cost)
def Vn (B:Nat)(w:World)(v:Value)(xs:List Tn):Prop:=
 Jl B w v xs.length λb off i=>Kr w b (off+i*3) (tat xs i)
def Yf (B:Nat)(w:World)(v0 v1 v2 v3:Value)(N:Nt):Prop:=
 Qr B w v0 N.nodes/\Vh B w v1 N.ways/\Zx B w v2 N.rels/\Vn B w v3 N.turns
abbrev Nx (w w':World):Prop:=Below w.heap.size w w'
theorem Nx.trans {a b c:World}(h:Nx a b)(k:Nx b c):Nx a c:=Below.trans h (Below.mono k h.size)
theorem Nx.drew {a b:World}(h:Nx a b):Nx a b.drew:=Below.drew h
theorem Nx.alloc {a b:World}(h:Nx a b)(o:Obj):Nx a (b.alloc o):=Below.alloc h h.size o
theorem Zc {w:World}{b o:Nat}{v:Value}(h:w.cell? ⟨b,o,none⟩=some v):b<w.heap.size:=by
 rcases Nat.lt_or_ge b w.heap.size with hlt|hge
 ·exact hlt
 ·have hn:w.heap[b]?=none:=Array.getElem?_eq_none hge
  simp[World.cell?,hn] at h
theorem Q1 {B:Nat}{w w':World}(hx:Below B w w'){b o:Nat}(hB:b<B){v:Value}(h:w.cell? ⟨b,o,none⟩=some v):w'.cell? ⟨b,o,none⟩=some v:=
 (hx.cell (p:=⟨b,o,none⟩) hB).trans h
def Xs (B:Nat)(w w':World):Prop:=w.heap.size<=w'.heap.size/\∀b,B<=b->b<w.heap.size->∀o,w'.cell? ⟨b,o,none⟩=w.cell? ⟨b,o,none⟩
theorem Nx.keeps {w w':World}(h:Nx w w')(B:Nat):Xs B w w':=⟨h.size,λb _ hb o=>h.cell (p:=⟨b,o,none⟩) hb⟩
theorem Jl.mono {B B':Nat}{w w':World}{v:Value}{n:Nat}{P Q:Nat->Nat->Nat->Prop}(h:Jl B w v n P)(hB:B'<=B)(hw:w.heap.size<=w'.heap.size)
  (hPQ:∀b off,B<=b->b<w.heap.size->∀i,i<n->P b off i->Q b off i):Jl B' w' v n Q:=by
 obtain⟨a,cap,hv,hn,hk⟩:=h
 refine⟨a,cap,hv,hn,λh0=>?_⟩
 obtain⟨b,off,ha,hb,hs,hc⟩:=hk h0
 exact⟨b,off,ha,by omega,by omega,λi hi=>hPQ b off hb hs i hi (hc i hi)⟩
theorem Qr.keep {B:Nat}{w w':World}{v:Value}{zs:List Int}(h:Qr B w v zs)(k:Xs B w w'):Qr B w' v zs:=
 Jl.mono h (Nat.le_refl _) k.1 λb off hb hs i hi hc=>(k.2 b hb hs _).trans hc
theorem Qcm.keep {B:Nat}{w w':World}{b o:Nat}{x:Wy}(h:Qcm B w b o x)(k:Xs B w w')(hB:B<=b)(hs:b<w.heap.size):Qcm B w' b o x:=by
 obtain⟨vn,vw,h0,h1,h2,h3,h4,h5⟩:=h
 exact⟨vn,vw,(k.2 b hB hs _).trans h0,(k.2 b hB hs _).trans h1,(k.2 b hB hs _).trans h2,(k.2 b hB hs _).trans h3,h4.keep k,h5.keep k⟩
theorem Vh.keep {B:Nat}{w w':World}{v:Value}{xs:List Wy}(h:Vh B w v xs)(k:Xs B w w'):Vh B w' v xs:=
 Jl.mono h (Nat.le_refl _) k.1 λb off hb hs i hi hc=>hc.keep k hb hs
theorem Qcn.keep {B:Nat}{w w':World}{b o:Nat}{x:Rl}(h:Qcn B w b o x)(k:Xs B w w')(hB:B<=b)(hs:b<w.heap.size):Qcn B w' b o x:=by
 obtain⟨vw,h0,h1,h2,h3,h4,h5,h6,h7⟩:=h
 exact⟨vw,(k.2 b hB hs _).trans h0,(k.2 b hB hs _).trans h1,(k.2 b hB hs _).trans h2,(k.2 b hB hs _).trans h3,(k.2 b hB hs _).trans h4,(k.2 b hB hs _).trans h5,(k.2 b hB hs _).trans h6,h7.keep k⟩
theorem Zx.keep {B:Nat}{w w':World}{v:Value}{xs:List Rl}(h:Zx B w v xs)(k:Xs B w w'):Zx B w' v xs:=
 Jl.mono h (Nat.le_refl _) k.1 λb off hb hs i hi hc=>hc.keep k hb hs
theorem Kr.keep {B:Nat}{w w':World}{b o:Nat}{x:Tn}(h:Kr w b o x)(k:Xs B w w')(hB:B<=b)(hs:b<w.heap.size):Kr w' b o x:=
 ⟨(k.2 b hB hs _).trans h.1,(k.2 b hB hs _).trans h.2.1,(k.2 b hB hs _).trans h.2.2⟩
theorem Vn.keep {B:Nat}{w w':World}{v:Value}{xs:List Tn}(h:Vn B w v xs)(k:Xs B w w'):Vn B w' v xs:=
 Jl.mono h (Nat.le_refl _) k.1 λb off hb hs i hi hc=>hc.keep k hb hs
theorem Yf.keep {B:Nat}{w w':World}{v0 v1 v2 v3:Value}{N:Nt}(h:Yf B w v0 v1 v2 v3 N)(k:Xs B w w'):Yf B w' v0 v1 v2 v3 N:=
 ⟨h.1.keep k,h.2.1.keep k,h.2.2.1.keep k,h.2.2.2.keep k⟩
theorem Yf.next {B:Nat}{w w':World}{v0 v1 v2 v3:Value}{N:Nt}(h:Yf B w v0 v1 v2 v3 N)(k:Nx w w'):Yf B w' v0 v1 v2 v3 N:=h.keep (k.keeps B)
theorem Qr.next {B:Nat}{w w':World}{v:Value}{zs:List Int}(h:Qr B w v zs)(k:Nx w w'):Qr B w' v zs:=h.keep (k.keeps B)
def Vw (zs:List Int)(id:Int):Bool:=zs.any (·==id)
def Q1y (zs:List Int)(id:Int)(k:Nat):Prop:=∀i,i<k->iat zs i≠id
theorem Q3t (zs:List Int)(id:Int):Q1y zs id 0:=λi hi=>absurd hi (Nat.not_lt_zero _)
theorem Q3u {zs:List Int}{id:Int}{k:Nat}(h:Q1y zs id k)(hk:(iat zs k==id)=false):Q1y zs id (k+1):=by
 intro i hi
 rcases Nat.lt_succ_iff_lt_or_eq.1 hi with h1|rfl
 ·exact h i h1
 ·simpa using hk
theorem Q29 {zs:List Int}{id:Int}{k:Nat}(hk:k<zs.length)(h:(iat zs k==id)=true):true=Vw zs id:=by
 symm;unfold Vw;rw[List.any_eq_true]
 exact⟨zs[k],List.getElem_mem hk,by rw[<-V7 hk];exact h⟩
theorem Q0r {zs:List Int}{id:Int}{k:Nat}(hk:zs.length<=k)(h:Q1y zs id k):false=Vw zs id:=by
 symm;unfold Vw;rw[List.any_eq_false]
 intro x hx
 obtain⟨i,hi,rfl⟩:=List.mem_iff_getElem.1 hx
 have:=h i (by omega)
 rw[<-V7 hi];simpa using this
theorem U1 (B:Nat)(v0 v1 v2 v3:Value)(u id:Int)(zs:List Int)(w:World)(h0:Qr B w v0 zs) :
  Calls Tryz.prog 41 #[.agg #[v0,v1,v2,v3,.int .i64 u],.int .i64 id] w λe w'=>e=.returned (.bool (Vw zs id))/\Nx w w':=by
 obtain⟨a,cap,rfl,hn,hk⟩:=h0
 unfold maxLen at hn
 generalize hz:zs.length=n at *
 have HZ:Hid (zs.length=n):=hz
 clear hz
 go_enter Tryz.func41,Tryz.ntmps41
 go_wp2
 go_loop [5] (λi=>∃k:Nat,k<=n/\i=.int .i64 k/\Hid (Q1y zs id k)) (λi=>n-(intOf i).toNat)
 case atStart=>exact⟨0,Nat.zero_le _,rfl,Q3t _ _⟩
 case round=>
  obtain⟨k,hkn,rfl,hrel⟩:=hrel
  by_cases hlt:k<n
  ·obtain⟨b,off,rfl,hB,hb,hc⟩:=hk (by omega)
   have hcc:=hc k hlt
   clear hc hk
   go_wp2
   ·go_ret
    exact⟨Qa (Q29 (by rw[HZ.out];exact hlt) (by assumption)),(Below.refl _ _).alloc (Nat.le_refl _) _⟩
   ·go_round
    case rel=>exact⟨k+1,by omega,by go_num,Q3u hrel (by assumption)⟩
    case measure=>simp[intOf];omega
  ·go_wp2
   go_ret
   exact⟨Qa (Q0r (by rw[HZ.out];omega) hrel),(Below.refl _ _).alloc (Nat.le_refl _) _⟩
def Ju (xs:List Wy)(id:Int):Bool:=xs.any (·.id==id)
def Q9h (xs:List Wy)(id:Int)(k:Nat):Prop:=∀i,i<k->(wat xs i).id≠id
theorem Q78 (xs:List Wy)(id:Int):Q9h xs id 0:=λi hi=>absurd hi (Nat.not_lt_zero _)
theorem Q79 {xs:List Wy}{id:Int}{k:Nat}(h:Q9h xs id k)(hk:((wat xs k).id==id)=false):Q9h xs id (k+1):=by
 intro i hi
 rcases Nat.lt_succ_iff_lt_or_eq.1 hi with h1|rfl
 ·exact h i h1
 ·simpa using hk
theorem Q27 {xs:List Wy}{id:Int}{k:Nat}(hk:k<xs.length)(h:((wat xs k).id==id)=true):Ju xs id=true:=by
 unfold Ju;rw[List.any_eq_true]
 exact⟨xs[k],List.getElem_mem hk,by rw[<-Us hk];exact h⟩
theorem Q0q {xs:List Wy}{id:Int}{k:Nat}(hk:xs.length<=k)(h:Q9h xs id k):Ju xs id=false:=by
 unfold Ju;rw[List.any_eq_false]
 intro x hx
 obtain⟨i,hi,rfl⟩:=List.mem_iff_getElem.1 hx
 have:=h i (by omega)
 rw[<-Us hi];simpa using this
theorem Xe (B:Nat)(v0 v1 v2 v3:Value)(u id:Int)(xs:List Wy)(w:World)(h0:Vh B w v1 xs) :
  Calls Tryz.prog 23 #[.agg #[v0,v1,v2,v3,.int .i64 u],.int .i64 id] w λe w'=>∃r:Int,e=.returned (.int .i64 r)/\decide (r<0)=!Ju xs id/\Nx w w':=by
 obtain⟨a,cap,rfl,hn,hk⟩:=h0
 unfold maxLen at hn
 generalize hz:xs.length=n at *
 have HZ:Hid (xs.length=n):=hz
 clear hz
 go_enter Tryz.func23,Tryz.ntmps23
 go_wp2
 go_loop [5] (λi=>∃k:Nat,k<=n/\i=.int .i64 k/\Hid (Q9h xs id k)) (λi=>n-(intOf i).toNat)
 case atStart=>exact⟨0,Nat.zero_le _,rfl,Q78 _ _⟩
 case round=>
  obtain⟨k,hkn,rfl,hrel⟩:=hrel
  by_cases hlt:k<n
  ·obtain⟨b,off,rfl,hB,hb,hc⟩:=hk (by omega)
   obtain⟨vn,vw,hcc,_⟩:=hc k hlt
   clear hc hk
   go_wp2
   ·go_ret
    exact⟨_,rfl,by rw[Q27 (by rw[HZ.out];exact hlt) (by assumption)];simp,(Below.refl _ _).alloc (Nat.le_refl _) _⟩
   ·go_round
    case rel=>exact⟨k+1,by omega,by go_num,Q79 hrel (by assumption)⟩
    case measure=>simp[intOf];omega
  ·go_wp2
   go_ret
   exact⟨-1,rfl,by rw[Q0q (by rw[HZ.out];omega) hrel];rfl,(Below.refl _ _).alloc (Nat.le_refl _) _⟩
def Tz (x:Wy):Nat:=if x.both then 2*x.weights.length else x.weights.length
theorem Fe (id:Int)(both:Bool)(vn vw:Value)(B:Nat)(zs:List Int)(w:World)(h0:Qr B w vw zs)(hs:zs.length<=1048576) :
  Calls Tryz.prog 21 #[.agg #[.int .i64 id,.bool both,vn,vw]] w λe w'=>e=.returned (.int .i64 (if both then 2*zs.length else zs.length:Nat))/\Nx w w':=by
 obtain⟨a,cap,rfl,hn,hk⟩:=h0
 clear hk hn
 cases both
 all_goals
  go_enter Tryz.func21,Tryz.ntmps21
  go_wp2
  go_ret
  exact⟨Ut (by simp),(Below.refl _ _).alloc (Nat.le_refl _) _⟩
theorem bcell {W w1:World}(hb:Below W.heap.size W w1):(∀b o,b<W.heap.size->w1.cell? ⟨b,o,none⟩=W.cell? ⟨b,o,none⟩)/\(∀b o,b<W.heap.size->w1.frozen? ⟨b,o,none⟩=W.frozen? ⟨b,o,none⟩):=
 ⟨λb o h=>hb.cell (p:=⟨b,o,none⟩) h,λb o h=>hb.frozen (p:=⟨b,o,none⟩) h⟩
theorem Nx.refl (w:World):Nx w w:=Below.refl _ _
theorem Qd (w:World)(o:Obj):Nx w (w.alloc o):=(Nx.refl w).alloc o
theorem G0 (w:World)(o o':Obj):Nx w ((w.alloc o).alloc o'):=(Qd w o).alloc o'
def Jp (n:Nat)(p:Nat->Bool):Bool:=(List.range n).all p
def Vq (p:Nat->Bool)(k:Nat):Prop:=∀i,i<k->p i=true
theorem Jh (p:Nat->Bool):Vq p 0:=λi hi=>absurd hi (Nat.not_lt_zero _)
theorem Qv {p:Nat->Bool}{k:Nat}(h:Vq p k)(hk:p k=true):Vq p (k+1):=by
 intro i hi
 rcases Nat.lt_succ_iff_lt_or_eq.1 hi with h1|rfl
 ·exact h i h1
 ·exact hk
theorem Jn {n k:Nat}{p:Nat->Bool}(hk:n<=k)(h:Vq p k):Jp n p=true:=by
 unfold Jp;rw[List.all_eq_true];intro i hi;exact h i (by have:=List.mem_range.1 hi;omega)
theorem J7 {n k:Nat}{p:Nat->Bool}(hk:k<n)(h:p k=false):Jp n p=false:=by
 unfold Jp;rw[List.all_eq_false];exact⟨k,List.mem_range.2 hk,by simp[h]⟩
def Vm (lt:Nat->Nat->Bool)(i:Nat):Bool:=i==0||lt (i-1) i
def Pl (n:Nat)(lt:Nat->Nat->Bool):Bool:=Jp n (Vm lt)
theorem Tj (lt:Nat->Nat->Bool):Vq (Vm lt) 1:=by intro i hi;have:i=0:=by omega
                                                subst this;rfl
theorem J3 (lt:Nat->Nat->Bool)(j:Nat):Vm lt (j+1)=lt j (j+1):=by simp[Vm]
theorem Y7 (a b:Int):decide (0<=V1 a b)=!decide (a<b):=by
 unfold V1;by_cases h:a<b
 ·simp[h]
 ·by_cases h':b<a<;>simp[h,h']
theorem Q2q (a b:Int):decide (V1 a b<0)=decide (a<b):=by
 unfold V1;by_cases h:a<b
 ·simp[h]
 ·by_cases h':b<a<;>simp[h,h']
theorem An (a b:Int):(V1 a b==0)=(a==b):=by
 unfold V1;by_cases h:a<b
 ·simp[h];omega
 ·by_cases h':b<a
  ·simp[h,h'];omega
  ·simp[h,h'];omega
theorem W8 (j:Nat)(h:j<=9223372036854775807):IntKind.i64.wrap (j:Int)=(j:Int):=by rw[IntKind.wrap_i64];omega
def wsum (xs:List Wy):Nat->Nat
 |0=>0
 |k+1=>wsum xs k+(wat xs k).weights.length
def Qax (xs:List Wy)(k:Nat)(used:Int):Prop:=(∀i,i<k->(wat xs i).nodes.length<=1048576/\(wat xs i).weights.length<=1048576)/\(wsum xs k:Int)<=used
theorem Qax.zero (xs:List Wy)(used:Int)(h:0<=used):Qax xs 0 used:=⟨λi hi=>absurd hi (Nat.not_lt_zero _),by simpa [wsum] using h⟩
theorem Qax.succ {xs:List Wy}{k:Nat}{left l r:Int}(h:Qax xs k (left-l))(hl:l<=1048576)(hr:0<=r)(e:r+(wat xs k).nodes.length+(wat xs k).weights.length=l):Qax xs (k+1) (left-r):=by
 refine⟨λi hi=>?_,?_⟩
 ·rcases Nat.lt_succ_iff_lt_or_eq.1 hi with h1|rfl
  ·exact h.1 i h1
  ·omega
 ·have:=h.2;simp only[wsum];omega
end Go.Proofs.YtmmolhlihhdkcaaGreatDoor
