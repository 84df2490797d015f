import Derived.Test.YtphiaobccollhaaGreatChecked
import Derived.WalkKit
import Derived.WalkSpells
import Derived.WalkLawsBesides
import Derived.Deep.QuietTactic
import Derived.BigQuiet
import Derived.Deep.RegionWith
import Derived.BigRegion
namespace Go.Proofs.YtphiaobccollhaaGreat
open Go.RowKit Tryz
set_option linter.unusedVariables false
set_option maxHeartbeats 16000000
variable {B b i k n:Nat}{a w w':World}{v:Value}{x y:Int}{zs:List Int}
def Z (p:Prop):Prop:=p
theorem Z.o {p:Prop}(h:Z p):p:=h
theorem lR:n<=n:=Nat.le_refl n
theorem nZ:0<=n:=Nat.zero_le n
theorem oL {a b:Prop}(h:a):a\/b:=Or.inl h
theorem oR {a b:Prop}(h:b):a\/b:=Or.inr h
abbrev zA:=@List.length_append
abbrev zB:=@World.ownsRow.alloc
abbrev zC:=@Value.slice.injEq
abbrev zD:=@List.getD_eq_getElem?_getD
abbrev zE:=@Option.some.inj
abbrev zF:=@List.length_map
abbrev zG:=@Bool.and_eq_true
abbrev zH:=@List.getElem?_eq_getElem
abbrev zJ:=@Nat.lt_of_lt_of_le
abbrev zK:=@Nat.not_lt_zero
abbrev zL:=@World.ownsRow.kept
abbrev zM:=@Nat.le_trans
abbrev zN:=@Array.getElem?_toList
abbrev zP:=@List.take_succ_eq_append_getElem
abbrev zQ:=@List.getElem?_take_of_lt
abbrev zR:=@List.take_length
abbrev zT:=@List.getElem?_append_left
abbrev zU:=@Int.toNat_natCast
abbrev zV:=@List.filter_append
abbrev zW:=@List.length_filter_le
abbrev zX:=@List.length_take
abbrev zY:=@List.getElem?_map
abbrev zZ:=@List.append_assoc
abbrev yA:=@List.getElem?_append_right
abbrev yB:=@decide_eq_true
abbrev yC:=@decide_eq_false
abbrev yE:=@Nat.lt_irrefl
abbrev yF:=@List.map_append
abbrev yG:=@List.mem_append
abbrev yH:=@List.getElem_mem
abbrev yJ:=@List.mem_of_getElem?
abbrev aD (b o:Nat):Addr:=⟨b,o,none⟩
abbrev sA (b:Nat):Option Addr:=some ⟨b,0,none⟩
abbrev pT (b:Nat):Value:=.pointer (some ⟨b,0,none⟩)
abbrev sN:Value:=.slice none 0 0
abbrev iV (x:Int):Value:=.int .i64 x
abbrev sL (a:Option Addr) (n c:Nat):Value:=.slice a n c
theorem mh {p:Prop}(h:p):Z p:=h
theorem Q3 {a b:Bool}(h:a=b):Ending.returned (.bool a)=.returned (.bool b):=by rw[h]
theorem Qu {k:IntKind}{a b:Int}(h:a=b):Ending.returned (.int k a)=.returned (.int k b):=by rw[h]
def inB (v:Int):Bool:=decide (0<=v/\v<=1048576)
theorem Q7p {v:Int}(h1:0<=v)(h2:v<=1048576):true=inB v:=by simp[inB,h1,h2]
theorem Q7r {v:Int}(h1:v<0):false=inB v:=by unfold inB;rw[eq_comm,decide_eq_false_iff_not];omega
theorem Q7q {v:Int}(h2:1048576<v):false=inB v:=by unfold inB;rw[eq_comm,decide_eq_false_iff_not];omega
def Y9 (x y:Int):Int:=if x<y then -1 else if y<x then 1 else 0
theorem Qe8 (h:x<y):-1=Y9 x y:=by simp[Y9,h]
theorem Qe9 (h:y<x):1=Y9 x y:=by unfold Y9;rw[if_neg (by omega),if_pos h]
theorem Qea (h:¬x<y)(h':¬y<x):0=Y9 x y:=by unfold Y9;rw[if_neg h,if_neg h']
theorem J8 (v:Int)(w:World) :
  Calls prog 14 #[iV v] w λe w'=>e=.returned (.bool (inB v))/\w'=w:=by
 by_cases h1:0<=v
 ·by_cases h2:v<=1048576
  ·go_enter func14,ntmps14
   go_wp2
   go_ret
   exact⟨Q3 (Q7p h1 h2),rfl⟩
  ·go_enter func14,ntmps14
   go_wp2
   go_ret
   exact⟨Q3 (Q7q h2),rfl⟩
 ·go_enter func14,ntmps14
  go_wp2
  go_ret
  exact⟨Q3 (Q7r h1),rfl⟩
theorem Q49 (v:Int)(w:World) :
  Calls prog 67 #[iV v] w λe w'=>e=.returned (.bool (inB v))/\w'=w:=by
 by_cases h1:0<=v
 ·by_cases h2:v<=1048576
  ·go_enter func67,ntmps67
   go_wp2
   go_ret
   exact⟨Q3 (Q7p h1 h2),rfl⟩
  ·go_enter func67,ntmps67
   go_wp2
   go_ret
   exact⟨Q3 (Q7q h2),rfl⟩
 ·go_enter func67,ntmps67
  go_wp2
  go_ret
  exact⟨Q3 (Q7r h1),rfl⟩
theorem Tz (v:Int)(w:World) :
  Calls prog 36 #[iV v] w λe w'=>e=.returned (.bool (!inB v))/\w'=w:=by
 go_enter func36,ntmps36
 go_wp2_with (go_at_call 67;refine(Q49 _ _).mono ?_;rintro e w' ⟨rfl,rfl⟩)
 go_ret
 exact⟨rfl,rfl⟩
theorem Tc (v:Int)(w:World) :
  Calls prog 70 #[iV v] w λe w'=>e=.returned (.bool false)/\w'=w:=by
 go_enter func70,ntmps70
 go_wp2
 go_ret
 exact⟨rfl,rfl⟩
theorem Tb (x y:Int)(w:World) :
  Calls prog 41 #[iV x,iV y] w λe w'=>e=.returned (iV (Y9 x y))/\w'=w:=by
 by_cases h1:x<y
 ·go_enter func41,ntmps41
  go_wp2_with (go_at_call 70;refine(Tc _ _).mono ?_;rintro e w' ⟨rfl,rfl⟩)
  go_ret
  exact⟨Qu (Qe8 h1),rfl⟩
 ·by_cases h2:y<x
  ·go_enter func41,ntmps41
   go_wp2_with (go_at_call 70;refine(Tc _ _).mono ?_;rintro e w' ⟨rfl,rfl⟩)
   go_ret
   exact⟨Qu (Qe9 h2),rfl⟩
  ·go_enter func41,ntmps41
   go_wp2_with (go_at_call 70;refine(Tc _ _).mono ?_;rintro e w' ⟨rfl,rfl⟩)
   go_ret
   exact⟨Qu (Qea (by omega) (by omega)),rfl⟩
theorem Q3w (x y:Int)(w:World) :
  Calls prog 69 #[iV x,iV y] w λe w'=>e=.returned (.bool (decide (x<y)))/\w'=w:=by
 go_enter func69,ntmps69
 go_wp2_with (go_at_call 70;refine(Tc _ _).mono ?_;rintro e w' ⟨rfl,rfl⟩)
 go_ret
 exact⟨rfl,rfl⟩
structure Wy where
 id:Int
 both:Bool
 nodes:List Int
 weights:List Int
structure Rl where
 id:Int
 only:Bool
 frm:Int
 to:Int
 via:Bool
 node:Int
 ways:List Int
structure Tn where
 frm:Int
 to:Int
 cost:Int
structure Nt where
 nodes:List Int
 ways:List Wy
 rels:List Rl
 turns:List Tn
 uturn:Int
def iat (zs:List Int)(i:Nat):Int:=zs.getD i 0
def wat (xs:List Wy)(i:Nat):Wy:=xs.getD i ⟨0,false,[],[]⟩
def rat (xs:List Rl)(i:Nat):Rl:=xs.getD i ⟨0,false,0,0,false,0,[]⟩
def tat (xs:List Tn)(i:Nat):Tn:=xs.getD i ⟨0,0,0⟩
theorem V5 (h:i<zs.length):iat zs i=zs[i]:=by simp[iat,List.getD,h]
theorem Q1f {zs:List Wy}(h:i<zs.length):wat zs i=zs[i]:=by simp[wat,List.getD,h]
theorem Qan {zs:List Rl}(h:i<zs.length):rat zs i=zs[i]:=by simp[rat,List.getD,h]
def Jn (B:Nat)(w:World)(v:Value)(n:Nat)(P:Nat->Nat->Nat->Prop):Prop:=
 ∃a cap,v=sL a n cap/\n<=maxLen/\(0<n->∃b off,a=some (aD b off)/\B<=b/\b<w.heap.size/\∀i,i<n->P b off i)
def Qi (B:Nat)(w:World)(v:Value)(zs:List Int):Prop:=
 Jn B w v zs.length λb off i=>w.cell? (aD b (off+i))=some (iV (iat zs i))
def Qf1 (B:Nat)(w:World)(b o:Nat)(x:Wy):Prop:=
 ∃vn vw,w.cell? (aD b o)=some (iV x.id)/\w.cell? (aD b (o+1))=some (.bool x.both)/\w.cell? (aD b (o+2))=some vn/\w.cell? (aD b (o+3))=some vw /\
  Qi B w vn x.nodes/\Qi B w vw x.weights
def Pj (B:Nat)(w:World)(v:Value)(xs:List Wy):Prop:=
 Jn B w v xs.length λb off i=>Qf1 B w b (off+i*4) (wat xs i)
def Qf2 (B:Nat)(w:World)(b o:Nat)(x:Rl):Prop:=
 ∃vw,w.cell? (aD b o)=some (iV x.id)/\w.cell? (aD b (o+1))=some (.bool x.only)/\w.cell? (aD b (o+2))=some (iV x.frm)/\w.cell? (aD b (o+3))=some (iV x.to) /\
  w.cell? (aD b (o+4))=some (.bool x.via)/\w.cell? (aD b (o+5))=some (iV x.node)/\w.cell? (aD b (o+6))=some vw/\Qi B w vw x.ways
def Q4w (B:Nat)(w:World)(v:Value)(xs:List Rl):Prop:=
 Jn B w v xs.length λb off i=>Qf2 B w b (off+i*7) (rat xs i)
def Fk (w:World)(b o:Nat)(x:Tn):Prop:=
 w.cell? (aD b o)=some (iV x.frm)/\w.cell? (aD b (o+1))=some (iV x.to)/\w.cell? (aD b (o+2))=some (iV x.cost)
def Wm (B:Nat)(w:World)(v:Value)(xs:List Tn):Prop:=
 Jn B w v xs.length λb off i=>Fk w b (off+i*3) (tat xs i)
def U0 (B:Nat)(w:World)(v0 v1 v2 v3:Value)(N:Nt):Prop:=
 Qi B w v0 N.nodes/\Pj B w v1 N.ways/\Q4w B w v2 N.rels/\Wm B w v3 N.turns
abbrev Nx (w w':World):Prop:=Below w.heap.size w w'
theorem Nx.trans {b c:World}(h:Nx a b)(k:Nx b c):Nx a c:=Below.trans h (Below.mono k h.size)
theorem Nx.drew {b:World}(h:Nx a b):Nx a b.drew:=Below.drew h
theorem Nx.alloc {b:World}(h:Nx a b)(o:Obj):Nx a (b.alloc o):=Below.alloc h h.size o
theorem Jk {o:Nat}(h:w.cell? (aD b o)=some v):b<w.heap.size:=by
 rcases Nat.lt_or_ge b w.heap.size with hlt|hge
 ·exact hlt
 ·have hn:=Array.getElem?_eq_none hge
  simp[World.cell?,hn] at h
theorem Q2 (hx:Below B w w'){o:Nat}(hB:b<B)(h:w.cell? (aD b o)=some v):w'.cell? (aD b o)=some v:=
 (hx.cell (p:=(aD b o)) hB).trans h
def Ym (B:Nat)(w w':World):Prop:=w.heap.size<=w'.heap.size/\∀b,B<=b->b<w.heap.size->∀o,w'.cell? (aD b o)=w.cell? (aD b o)
theorem Nx.keeps (h:Nx w w')(B:Nat):Ym B w w':=⟨h.size,λb _ hb o=>h.cell (p:=(aD b o)) hb⟩
theorem Jn.mono {B':Nat}{P Q:Nat->Nat->Nat->Prop}(h:Jn B w v n P)(hB:B'<=B)(hw:w.heap.size<=w'.heap.size)
  (hPQ:∀b off,B<=b->b<w.heap.size->∀i,i<n->P b off i->Q b off i):Jn B' w' v n Q:=by
 obtain⟨a,cap,hv,hn,hk⟩:=h
 refine⟨a,cap,hv,hn,λh0=>?_⟩
 obtain⟨b,off,ha,hb,hs,hc⟩:=hk h0
 exact⟨b,off,ha,by omega,by omega,λi hi=>hPQ b off hb hs i hi (hc i hi)⟩
theorem Qi.keep (h:Qi B w v zs)(k:Ym B w w'):Qi B w' v zs:=
 Jn.mono h lR k.1 λb off hb hs i hi hc=>(k.2 b hb hs _).trans hc
theorem Qf1.keep {o:Nat}{x:Wy}(h:Qf1 B w b o x)(k:Ym B w w')(hB:B<=b)(hs:b<w.heap.size):Qf1 B w' b o x:=by
 obtain⟨vn,vw,h0,h1,h2,h3,h4,h5⟩:=h
 exact⟨vn,vw,(k.2 b hB hs _).trans h0,(k.2 b hB hs _).trans h1,(k.2 b hB hs _).trans h2,(k.2 b hB hs _).trans h3,h4.keep k,h5.keep k⟩
theorem Pj.keep {xs:List Wy}(h:Pj B w v xs)(k:Ym B w w'):Pj B w' v xs:=
 Jn.mono h lR k.1 λb off hb hs i hi hc=>hc.keep k hb hs
theorem Qf2.keep {o:Nat}{x:Rl}(h:Qf2 B w b o x)(k:Ym B w w')(hB:B<=b)(hs:b<w.heap.size):Qf2 B w' b o x:=by
 obtain⟨vw,h0,h1,h2,h3,h4,h5,h6,h7⟩:=h
 exact⟨vw,(k.2 b hB hs _).trans h0,(k.2 b hB hs _).trans h1,(k.2 b hB hs _).trans h2,(k.2 b hB hs _).trans h3,(k.2 b hB hs _).trans h4,(k.2 b hB hs _).trans h5,(k.2 b hB hs _).trans h6,h7.keep k⟩
theorem Q4w.keep {xs:List Rl}(h:Q4w B w v xs)(k:Ym B w w'):Q4w B w' v xs:=
 Jn.mono h lR k.1 λb off hb hs i hi hc=>hc.keep k hb hs
theorem Fk.keep {o:Nat}{x:Tn}(h:Fk w b o x)(k:Ym B w w')(hB:B<=b)(hs:b<w.heap.size):Fk w' b o x:=
 ⟨(k.2 b hB hs _).trans h.1,(k.2 b hB hs _).trans h.2.1,(k.2 b hB hs _).trans h.2.2⟩
theorem Wm.keep {xs:List Tn}(h:Wm B w v xs)(k:Ym B w w'):Wm B w' v xs:=
 Jn.mono h lR k.1 λb off hb hs i hi hc=>hc.keep k hb hs
theorem U0.keep {v0 v1 v2 v3:Value}{N:Nt}(h:U0 B w v0 v1 v2 v3 N)(k:Ym B w w'):U0 B w' v0 v1 v2 v3 N:=
 ⟨h.1.keep k,h.2.1.keep k,h.2.2.1.keep k,h.2.2.2.keep k⟩
theorem U0.next {v0 v1 v2 v3:Value}{N:Nt}(h:U0 B w v0 v1 v2 v3 N)(k:Nx w w'):U0 B w' v0 v1 v2 v3 N:=h.keep (k.keeps B)
theorem Qi.next (h:Qi B w v zs)(k:Nx w w'):Qi B w' v zs:=h.keep (k.keeps B)
def Ta (zs:List Int)(id:Int):Bool:=zs.any (·==id)
def Q3o (zs:List Int)(id:Int)(k:Nat):Prop:=∀i,i<k->iat zs i≠id
theorem Q5o (zs:List Int)(id:Int):Q3o zs id 0:=λi hi=>absurd hi (zK _)
theorem Q5p {id:Int}(h:Q3o zs id k)(hk:(iat zs k==id)=false):Q3o zs id (k+1):=by
 intro i hi
 rcases Nat.lt_succ_iff_lt_or_eq.1 hi with h1|rfl
 ·exact h i h1
 ·simpa using hk
theorem Qbs {id:Int}(hk:k<zs.length)(h:(iat zs k==id)=true):true=Ta zs id:=by
 symm;unfold Ta;rw[List.any_eq_true]
 exact⟨zs[k],yH hk,by rw[<-V5 hk];exact h⟩
theorem Qe0 {id:Int}(hk:zs.length<=k)(h:Q3o zs id k):false=Ta zs id:=by
 symm;unfold Ta;rw[List.any_eq_false]
 intro x hx
 obtain⟨i,hi,rfl⟩:=List.mem_iff_getElem.1 hx
 have:=h i (by omega)
 rw[<-V5 hi];simpa using this
theorem Wh (B:Nat)(v0 v1 v2 v3:Value)(u id:Int)(zs:List Int)(w:World)(h0:Qi B w v0 zs) :
  Calls prog 103 #[.agg #[v0,v1,v2,v3,iV u],iV id] w λe w'=>e=.returned (.bool (Ta zs id))/\Nx w w':=by
 obtain⟨a,cap,rfl,hn,hk⟩:=h0
 unfold maxLen at hn
 generalize hz:zs.length=n at *
 have HZ:=mh hz
 clear hz
 go_enter func103,ntmps103
 go_wp2
 go_loop [5] (λi=>∃k:Nat,k<=n/\i=iV k/\Z (Q3o zs id k)) (λi=>n-(intOf i).toNat)
 case atStart=>exact⟨0,nZ,rfl,Q5o _ _⟩
 case round=>
  obtain⟨k,hkn,rfl,hrel⟩:=hrel
  by_cases hlt:k<n
  ·obtain⟨b,off,rfl,hB,hb,hc⟩:=hk (by omega)
   have hcc:=hc k hlt
   clear hc hk
   go_wp2
   ·go_ret
    exact⟨Q3 (Qbs (by rw[HZ.o];exact hlt) (by assumption)),(Below.refl _ _).alloc lR _⟩
   ·go_round
    case rel=>exact⟨k+1,by omega,by go_num,Q5p hrel (by assumption)⟩
    case measure=>simp[intOf];omega
  ·go_wp2
   go_ret
   exact⟨Q3 (Qe0 (by rw[HZ.o];omega) hrel),(Below.refl _ _).alloc lR _⟩
def Xw (xs:List Wy)(id:Int):Bool:=xs.any (·.id==id)
def Q5n (xs:List Wy)(id:Int)(k:Nat):Prop:=∀i,i<k->(wat xs i).id≠id
theorem Q0p (xs:List Wy)(id:Int):Q5n xs id 0:=λi hi=>absurd hi (zK _)
theorem Q0q {xs:List Wy}{id:Int}(h:Q5n xs id k)(hk:((wat xs k).id==id)=false):Q5n xs id (k+1):=by
 intro i hi
 rcases Nat.lt_succ_iff_lt_or_eq.1 hi with h1|rfl
 ·exact h i h1
 ·simpa using hk
theorem Qbr {xs:List Wy}{id:Int}(hk:k<xs.length)(h:((wat xs k).id==id)=true):Xw xs id=true:=by
 unfold Xw;rw[List.any_eq_true]
 exact⟨xs[k],yH hk,by rw[<-Q1f hk];exact h⟩
theorem Q7s {xs:List Wy}{id:Int}(hk:xs.length<=k)(h:Q5n xs id k):Xw xs id=false:=by
 unfold Xw;rw[List.any_eq_false]
 intro x hx
 obtain⟨i,hi,rfl⟩:=List.mem_iff_getElem.1 hx
 have:=h i (by omega)
 rw[<-Q1f hi];simpa using this
theorem Xq (B:Nat)(v0 v1 v2 v3:Value)(u id:Int)(xs:List Wy)(w:World)(h0:Pj B w v1 xs) :
  Calls prog 87 #[.agg #[v0,v1,v2,v3,iV u],iV id] w λe w'=>∃r:Int,e=.returned (iV r)/\decide (r<0)=!Xw xs id/\Nx w w':=by
 obtain⟨a,cap,rfl,hn,hk⟩:=h0
 unfold maxLen at hn
 generalize hz:xs.length=n at *
 have HZ:=mh hz
 clear hz
 go_enter func87,ntmps87
 go_wp2
 go_loop [5] (λi=>∃k:Nat,k<=n/\i=iV k/\Z (Q5n xs id k)) (λi=>n-(intOf i).toNat)
 case atStart=>exact⟨0,nZ,rfl,Q0p _ _⟩
 case round=>
  obtain⟨k,hkn,rfl,hrel⟩:=hrel
  by_cases hlt:k<n
  ·obtain⟨b,off,rfl,hB,hb,hc⟩:=hk (by omega)
   obtain⟨vn,vw,hcc,_⟩:=hc k hlt
   clear hc hk
   go_wp2
   ·go_ret
    exact⟨_,rfl,by rw[Qbr (by rw[HZ.o];exact hlt) (by assumption)];simp,(Below.refl _ _).alloc lR _⟩
   ·go_round
    case rel=>exact⟨k+1,by omega,by go_num,Q0q hrel (by assumption)⟩
    case measure=>simp[intOf];omega
  ·go_wp2
   go_ret
   exact⟨-1,rfl,by rw[Q7s (by rw[HZ.o];omega) hrel];rfl,(Below.refl _ _).alloc lR _⟩
def Q12 (x:Wy):Nat:=if x.both then 2*x.weights.length else x.weights.length
theorem A0 (id:Int)(both:Bool)(vn vw:Value)(B:Nat)(zs:List Int)(w:World)(h0:Qi B w vw zs)(hs:zs.length<=1048576) :
  Calls prog 85 #[.agg #[iV id,.bool both,vn,vw]] w λe w'=>e=.returned (iV (if both then 2*zs.length else zs.length:Nat))/\Nx w w':=by
 obtain⟨a,cap,rfl,hn,hk⟩:=h0
 clear hk hn
 cases both
 all_goals
  go_enter func85,ntmps85
  go_wp2
  go_ret
  exact⟨Qu (by simp),(Below.refl _ _).alloc lR _⟩
theorem bcell {W w1:World}(hb:Below W.heap.size W w1):(∀b o,b<W.heap.size->w1.cell? (aD b o)=W.cell? (aD b o))/\(∀b o,b<W.heap.size->w1.frozen? (aD b o)=W.frozen? (aD b o)):=
 ⟨λb o h=>hb.cell (p:=(aD b o)) h,λb o h=>hb.frozen (p:=(aD b o)) h⟩
theorem Nx.refl (w:World):Nx w w:=Below.refl _ _
theorem Qe (w:World)(o:Obj):Nx w (w.alloc o):=(Nx.refl w).alloc o
theorem Uk (w:World)(o o':Obj):Nx w ((w.alloc o).alloc o'):=(Qe w o).alloc o'
def Qo (n:Nat)(p:Nat->Bool):Bool:=(List.range n).all p
def Jz (p:Nat->Bool)(k:Nat):Prop:=∀i,i<k->p i=true
theorem Qy (p:Nat->Bool):Jz p 0:=λi hi=>absurd hi (zK _)
theorem Qm {p:Nat->Bool}(h:Jz p k)(hk:p k=true):Jz p (k+1):=by
 intro i hi
 rcases Nat.lt_succ_iff_lt_or_eq.1 hi with h1|rfl
 ·exact h i h1
 ·exact hk
theorem Qt {p:Nat->Bool}(hk:n<=k)(h:Jz p k):Qo n p=true:=by
 unfold Qo;rw[List.all_eq_true];intro i hi;exact h i (by have:=List.mem_range.1 hi;omega)
theorem Qx {p:Nat->Bool}(hk:k<n)(h:p k=false):Qo n p=false:=by
 unfold Qo;rw[List.all_eq_false];exact⟨k,List.mem_range.2 hk,by simp[h]⟩
def Xy (lt:Nat->Nat->Bool)(i:Nat):Bool:=i==0||lt (i-1) i
def Tg (n:Nat)(lt:Nat->Nat->Bool):Bool:=Qo n (Xy lt)
theorem Q17 (lt:Nat->Nat->Bool):Jz (Xy lt) 1:=by intro i hi;have:i=0:=by omega
                                                 subst this;rfl
theorem Ji (lt:Nat->Nat->Bool)(j:Nat):Xy lt (j+1)=lt j (j+1):=by simp[Xy]
theorem Fh (a b:Int):decide (0<=Y9 a b)=!decide (a<b):=by
 unfold Y9;by_cases h:a<b
 ·simp[h]
 ·by_cases h':b<a<;>simp[h,h']
theorem Va (j:Nat)(h:j<=9223372036854775807):IntKind.i64.wrap (j:Int)=(j:Int):=by rw[IntKind.wrap_i64];omega
def Yn (x:Wy):Bool:=inB x.id&&decide (1<=x.weights.length)&&decide (x.weights.length<=100)&&decide (x.nodes.length=x.weights.length+1)
def Jg (nodes:List Int)(x:Wy):Bool:=
 Yn x&&Qo x.weights.length (λi=>inB (iat x.weights i))&&Qo x.nodes.length (λi=>Ta nodes (iat x.nodes i))
theorem Az (B:Nat)(v0 v1 v2 v3:Value)(u:Int)(nodes:List Int)(x:Wy)(vn vw:Value)(w:World)(h0:Qi B w v0 nodes)(hN:Qi B w vn x.nodes)(hW:Qi B w vw x.weights) :
  Calls prog 84 #[.agg #[v0,v1,v2,v3,iV u],.agg #[iV x.id,.bool x.both,vn,vw]] w λe w'=>e=.returned (.bool (Jg nodes x))/\Nx w w':=by
 obtain⟨a1,cap1,rfl,hn1,hk1⟩:=hN
 obtain⟨a2,cap2,rfl,hn2,hk2⟩:=hW
 unfold maxLen at hn1 hn2
 generalize hz1:x.nodes.length=n1 at *
 generalize hz2:x.weights.length=n2 at *
 have HZ1:=mh hz1
 have HZ2:=mh hz2
 clear hz1 hz2
 have two:Nx w ((w.alloc (.cells #[v0,v1,v2,v3,iV u] 60)).alloc (.cells #[iV x.id,.bool x.both,sL a1 n1 cap1,sL a2 n2 cap2] 93)):=
  ((Below.refl _ _).alloc lR _).alloc (by simp) _
 by_cases e1:inB x.id=true
 case neg=>
  have e1':inB x.id=false:=by simpa using e1
  have hg:false=Jg nodes x:=by simp[Jg,Yn,e1']
  have HG:=mh hg
  clear hg e1
  go_enter func84,ntmps84
  go_wp2_with (go_at_call 14;refine(J8 _ _).mono ?_;rintro e w' ⟨rfl,rfl⟩)
  go_ret
  exact⟨Q3 HG.o,two⟩
 by_cases e2:1<=n2
 case neg=>
  have HG:Z (false=Jg nodes x):=by unfold Z;simp[Jg,Yn,HZ2.o];omega
  go_enter func84,ntmps84
  go_wp2_with (go_at_call 14;refine(J8 _ _).mono ?_;rintro e w' ⟨rfl,rfl⟩)
  go_ret
  exact⟨Q3 HG.o,two⟩
 have d2:decide ((n2:Int)<1)=false:=by simp;omega
 by_cases e3:n2<=100
 case neg=>
  have HG:Z (false=Jg nodes x):=by unfold Z;simp[Jg,Yn,HZ2.o];omega
  go_enter func84,ntmps84
  go_wp2_with (go_at_call 14;refine(J8 _ _).mono ?_;rintro e w' ⟨rfl,rfl⟩)
  go_ret
  exact⟨Q3 HG.o,two⟩
 have d3:decide (100<(n2:Int))=false:=by simp;omega
 by_cases e4:n1=n2+1
 case neg=>
  have HG:Z (false=Jg nodes x):=by unfold Z;simp[Jg,Yn,HZ2.o,HZ1.o];omega
  have d4:((n1:Int) !=(n2:Int)+1)=true:=by rw[bne_iff_ne];omega
  go_enter func84,ntmps84
  go_wp2_with (go_at_call 14;refine(J8 _ _).mono ?_;rintro e w' ⟨rfl,rfl⟩)
  go_ret
  exact⟨Q3 HG.o,two⟩
 have d4:((n1:Int) !=(n2:Int)+1)=false:=by simp;omega
 have e4a:n1<=n2+1:=by omega
 have e4b:n2+1<=n1:=by omega
 clear e4
 have HH:Z (Yn x=true):=by unfold Z;simp[Yn,HZ1.o,HZ2.o,e1];omega
 go_enter func84,ntmps84
 go_wp2_with (go_at_call 14;refine(J8 _ _).mono ?_;rintro e w' ⟨rfl,rfl⟩)
 go_loop [5] (λi=>∃k:Nat,k<=n2/\i=iV k/\Z (Jz (λi=>inB (iat x.weights i)) k)) (λi=>n2-(intOf i).toNat)
 case atStart=>exact⟨0,nZ,rfl,Qy _⟩
 case round=>
  obtain⟨k,hkn,rfl,hrel⟩:=hrel
  by_cases hlt:k<n2
  ·obtain⟨b,off,rfl,hB,hb,hc⟩:=hk2 (by omega)
   have hcc:=hc k hlt
   clear hc hk2 hk1
   by_cases hin:inB (iat x.weights k)=true
   ·go_wp2_with (go_at_call 14;refine(J8 _ _).mono ?_;rintro e w' ⟨rfl,rfl⟩)
    go_round
    case rel=>exact⟨k+1,by omega,by go_num,Qm hrel hin⟩
    case measure=>simp[intOf];omega
   ·have hin':inB (iat x.weights k)=false:=by simpa using hin
    go_wp2_with (go_at_call 14;refine(J8 _ _).mono ?_;rintro e w' ⟨rfl,rfl⟩)
    go_ret
    exact⟨Q3 (by unfold Jg;rw[Qx (by rw[HZ2.o];exact hlt) hin'];simp),two⟩
  ·have HA:Z (Qo x.weights.length (λi=>inB (iat x.weights i))=true):=Qt (by rw[HZ2.o];omega) hrel
   go_wp2
   go_loopw [6] (λi wr=>∃k:Nat,k<=n1/\i=iV k/\Z (Jz (λi=>Ta nodes (iat x.nodes i)) k)/\Nx ((w.alloc (.cells #[v0,v1,v2,v3,iV u] 60)).alloc (.cells #[iV x.id,.bool x.both,sL a1 n1 cap1,sL a2 n2 cap2] 93)) wr) (λi _=>n1-(intOf i).toNat)
   case atStart=>exact⟨0,nZ,rfl,Qy _,Below.refl _ _⟩
   case round=>
    obtain⟨k',hkn',rfl,hrel',hnx⟩:=hrel
    have HN:=mh hnx
    obtain⟨hcl,hfr⟩:=bcell hnx
    clear hnx
    by_cases hlt':k'<n1
    ·obtain⟨b,off,rfl,hB,hb,hc⟩:=hk1 (by omega)
     have hcc:=Q2 HN.o (by simp;omega) (Q2 two hb (hc k' hlt'))
     clear hc hk1 hk2
     by_cases hin:Ta nodes (iat x.nodes k')=true
     ·go_wp2
      go_region_with (go_at_call 103;refine(Wh B _ _ _ _ _ _ nodes _ (by exact(h0.next two).next (by first|exact HN.o|exact HN.o.drew))).mono ?_;rintro e w' ⟨rfl,hx⟩)
      all_goals go_wp2
      all_goals
       go_roundw
       case rel=>exact⟨k'+1,by omega,by go_num,Qm hrel' hin,Nx.trans HN.o.drew hx⟩
       case measure=>simp[intOf];omega
     ·have hin':Ta nodes (iat x.nodes k')=false:=by simpa using hin
      go_wp2
      go_region_with (go_at_call 103;refine(Wh B _ _ _ _ _ _ nodes _ (by exact(h0.next two).next (by first|exact HN.o|exact HN.o.drew))).mono ?_;rintro e w' ⟨rfl,hx⟩)
      all_goals go_wp2
      all_goals
       go_ret
       exact⟨Q3 (by unfold Jg;rw[Qx (n:=x.nodes.length) (by rw[HZ1.o];exact hlt') hin'];simp),Nx.trans two (Nx.trans HN.o.drew hx)⟩
    ·go_wp2
     go_ret
     exact⟨Q3 (by unfold Jg;rw[HH.o,HA.o,Qt (n:=x.nodes.length) (by rw[HZ1.o];omega) hrel'];rfl),Nx.trans two HN.o⟩
def Wx (xs:List Wy):Nat->Nat
 |0=>0
 |k+1=>Wx xs k+(wat xs k).weights.length
end Go.Proofs.YtphiaobccollhaaGreat
