import Derived.Test.YtahpodmokbdjeaaGreatDoorChecked
import Derived.WalkKit
import Derived.WalkSpells
import Derived.WalkLawsBesides
import Derived.Deep.QuietTactic
import Derived.BigQuiet
import Derived.Deep.RegionWith
import Derived.BigRegion
namespace Go.Proofs.YtahpodmokbdjeaaGreatDoor
open Go.RowKit Tryz
set_option linter.unusedVariables false
set_option maxHeartbeats 16000000
def Z (p:Prop):Prop:=p
theorem Z.o {p:Prop}(h:Z p):p:=h
theorem lR {n:Nat}:n<=n:=Nat.le_refl n
theorem nZ {n:Nat}:0<=n:=Nat.zero_le n
theorem oL {a b:Prop}(h:a):a\/b:=Or.inl h
theorem oR {a b:Prop}(h:b):a\/b:=Or.inr h
abbrev zA:=@List.length_append
abbrev zB:=@World.ownsRow.alloc
abbrev zC:=@Value.slice.injEq
abbrev zD:=@List.getD_eq_getElem?_getD
abbrev zF:=@Option.some.inj
abbrev zG:=@List.length_map
abbrev zH:=@Bool.and_eq_true
abbrev zJ:=@List.getElem?_eq_getElem
abbrev zK:=@Nat.lt_of_lt_of_le
abbrev zL:=@Array.getElem?_eq_getElem
abbrev zM:=@Nat.not_lt_zero
abbrev zN:=@World.ownsRow.kept
abbrev zP:=@Nat.le_trans
abbrev zQ:=@Array.getElem?_toList
abbrev zR:=@List.take_succ_eq_append_getElem
abbrev zT:=@List.getElem?_take_of_lt
abbrev zU:=@List.take_length
abbrev zV:=@List.mem_range
abbrev zW:=@List.getElem?_append_left
abbrev zX:=@Int.toNat_natCast
abbrev zY:=@List.length_range
abbrev zZ:=@List.filter_append
abbrev yA:=@List.length_filter_le
abbrev yB:=@List.mem_filter
abbrev yC:=@List.length_take
abbrev yD:=@List.getElem?_map
abbrev yE:=@List.append_assoc
abbrev yF:=@List.take_append_drop
abbrev yG:=@List.getElem?_append_right
abbrev yH:=@decide_eq_true
abbrev yJ:=@decide_eq_false
abbrev yK:=@Nat.lt_irrefl
abbrev yL:=@List.map_append
abbrev yM:=@List.mem_append
abbrev yN:=@List.getElem_mem
abbrev yP:=@List.mem_of_getElem?
abbrev aD (b o:Nat):Addr:=⟨b,o,none⟩
abbrev sA (b:Nat):Option Addr:=some ⟨b,0,none⟩
abbrev pT (b:Nat):Value:=.pointer (some ⟨b,0,none⟩)
abbrev sN:Value:=.slice none 0 0
abbrev iV (x:Int):Value:=.int .i64 x
abbrev sL (a:Option Addr) (n c:Nat):Value:=.slice a n c
theorem Q6 {a b:Bool}(h:a=b):Ending.returned (.bool a)=.returned (.bool b):=by rw[h]
theorem Qv {k:IntKind}{a b:Int}(h:a=b):Ending.returned (.int k a)=.returned (.int k b):=by rw[h]
def inB (v:Int):Bool:=decide (0<=v/\v<=1048576)
theorem Q8h {v:Int}(h1:0<=v)(h2:v<=1048576):true=inB v:=by simp[inB,h1,h2]
theorem Q8j {v:Int}(h1:v<0):false=inB v:=by unfold inB;rw[eq_comm,decide_eq_false_iff_not];omega
theorem Q8i {v:Int}(h2:1048576<v):false=inB v:=by unfold inB;rw[eq_comm,decide_eq_false_iff_not];omega
def Xy (x y:Int):Int:=if x<y then -1 else if y<x then 1 else 0
theorem Qfh {x y:Int}(h:x<y):-1=Xy x y:=by simp[Xy,h]
theorem Qfi {x y:Int}(h:y<x):1=Xy x y:=by unfold Xy;rw[if_neg (by omega),if_pos h]
theorem Qfj {x y:Int}(h:¬x<y)(h':¬y<x):0=Xy x y:=by unfold Xy;rw[if_neg h,if_neg h']
theorem Jj (v:Int)(w:World) :
  Calls prog 51 #[iV v] w λe w'=>e=.returned (.bool (inB v))/\w'=w:=by
 by_cases h1:0<=v
 ·by_cases h2:v<=1048576
  ·go_enter func51,ntmps51
   go_wp2
   go_ret
   exact⟨Q6 (Q8h h1 h2),rfl⟩
  ·go_enter func51,ntmps51
   go_wp2
   go_ret
   exact⟨Q6 (Q8i h2),rfl⟩
 ·go_enter func51,ntmps51
  go_wp2
  go_ret
  exact⟨Q6 (Q8j h1),rfl⟩
theorem V1 (v:Int)(w:World) :
  Calls prog 72 #[iV v] w λe w'=>e=.returned (.bool (inB v))/\w'=w:=by
 by_cases h1:0<=v
 ·by_cases h2:v<=1048576
  ·go_enter func72,ntmps72
   go_wp2
   go_ret
   exact⟨Q6 (Q8h h1 h2),rfl⟩
  ·go_enter func72,ntmps72
   go_wp2
   go_ret
   exact⟨Q6 (Q8i h2),rfl⟩
 ·go_enter func72,ntmps72
  go_wp2
  go_ret
  exact⟨Q6 (Q8j h1),rfl⟩
theorem Tv (v:Int)(w:World) :
  Calls prog 109 #[iV v] w λe w'=>e=.returned (.bool (!inB v))/\w'=w:=by
 go_enter func109,ntmps109
 go_wp2_with (go_at_call 72;refine(V1 _ _).mono ?_;rintro e w' ⟨rfl,rfl⟩)
 go_ret
 exact⟨rfl,rfl⟩
theorem T5 (v:Int)(w:World) :
  Calls prog 145 #[iV v] w λe w'=>e=.returned (.bool false)/\w'=w:=by
 go_enter func145,ntmps145
 go_wp2
 go_ret
 exact⟨rfl,rfl⟩
theorem Iu (v:Int)(w:World) :
  Calls prog 170 #[iV v] w λe w'=>e=.returned (.bool false)/\w'=w:=by
 go_enter func170,ntmps170
 go_wp2
 go_ret
 exact⟨rfl,rfl⟩
theorem Pk (x y:Int)(w:World) :
  Calls prog 107 #[iV x,iV y] w λe w'=>e=.returned (iV (Xy x y))/\w'=w:=by
 by_cases h1:x<y
 ·go_enter func107,ntmps107
  go_wp2_with (go_at_call 145;refine(T5 _ _).mono ?_;rintro e w' ⟨rfl,rfl⟩)
  go_ret
  exact⟨Qv (Qfh h1),rfl⟩
 ·by_cases h2:y<x
  ·go_enter func107,ntmps107
   go_wp2_with (go_at_call 145;refine(T5 _ _).mono ?_;rintro e w' ⟨rfl,rfl⟩)
   go_ret
   exact⟨Qv (Qfi h2),rfl⟩
  ·go_enter func107,ntmps107
   go_wp2_with (go_at_call 145;refine(T5 _ _).mono ?_;rintro e w' ⟨rfl,rfl⟩)
   go_ret
   exact⟨Qv (Qfj (by omega) (by omega)),rfl⟩
theorem Kw (x y:Int)(w:World) :
  Calls prog 169 #[iV x,iV y] w λe w'=>e=.returned (.bool (decide (x<y)))/\w'=w:=by
 go_enter func169,ntmps169
 go_wp2_with (go_at_call 145;refine(T5 _ _).mono ?_;rintro e w' ⟨rfl,rfl⟩)
 go_ret
 exact⟨rfl,rfl⟩
def szI (left:Int)(n:Nat):Int:=if left-n<0 then -1 else left-n
theorem Wr (a:Option Addr)(n c:Nat)(left:Int)(w:World)(hn:n<=maxLen)(h0:0<=left)(h1:left<=1048576) :
  Calls prog 13 #[sL a n c,iV left] w λe w'=>e=.returned (iV (szI left n))/\w'=w:=by
 unfold maxLen at hn
 by_cases h:left-n<0
 ·go_enter func13,ntmps13
  go_wp2
  go_ret
  exact⟨Qv (by unfold szI;split<;>omega),rfl⟩
 ·go_enter func13,ntmps13
  go_wp2
  go_ret
  exact⟨Qv (by unfold szI;split<;>omega),rfl⟩
theorem Q3h (a:Option Addr)(n c:Nat)(left:Int)(w:World)(hn:n<=maxLen)(h0:0<=left)(h1:left<=1048576) :
  Calls prog 16 #[sL a n c,iV left] w λe w'=>e=.returned (iV (szI left n))/\w'=w:=by
 unfold maxLen at hn
 by_cases h:left-n<0
 ·go_enter func16,ntmps16
  go_wp2
  go_ret
  exact⟨Qv (by unfold szI;split<;>omega),rfl⟩
 ·go_enter func16,ntmps16
  go_wp2
  go_ret
  exact⟨Qv (by unfold szI;split<;>omega),rfl⟩
end Go.Proofs.YtahpodmokbdjeaaGreatDoor
namespace Go.Proofs.YtahpodmokbdjeaaGreatDoor
open Go.RowKit
set_option linter.unusedVariables false
set_option maxHeartbeats 16000000
structure Wy where
 id:Int
 both:Bool
 nodes:List Int
 weights:List Int
structure Rl where
 id:Int
 only:Bool
 frm:Int
 to:Int
 via:Bool
 node:Int
 ways:List Int
structure Tn where
 frm:Int
 to:Int
 cost:Int
structure Nt where
 nodes:List Int
 ways:List Wy
 rels:List Rl
 turns:List Tn
 uturn:Int
def iat (zs:List Int)(i:Nat):Int:=zs.getD i 0
def wat (xs:List Wy)(i:Nat):Wy:=xs.getD i ⟨0,false,[],[]⟩
def rat (xs:List Rl)(i:Nat):Rl:=xs.getD i ⟨0,false,0,0,false,0,[]⟩
def tat (xs:List Tn)(i:Nat):Tn:=xs.getD i ⟨0,0,0⟩
theorem Vl {zs:List Int}{i:Nat}(h:i<zs.length):iat zs i=zs[i]:=by simp[iat,List.getD,h]
theorem Im {zs:List Wy}{i:Nat}(h:i<zs.length):wat zs i=zs[i]:=by simp[wat,List.getD,h]
theorem Qgo {zs:List Rl}{i:Nat}(h:i<zs.length):rat zs i=zs[i]:=by simp[rat,List.getD,h]
theorem Qgj {zs:List Tn}{i:Nat}(h:i<zs.length):tat zs i=zs[i]:=by simp[tat,List.getD,h]
def Ji (B:Nat)(w:World)(v:Value)(n:Nat)(P:Nat->Nat->Nat->Prop):Prop:=
 ∃a cap,v=sL a n cap/\n<=maxLen/\(0<n->∃b off,a=some (aD b off)/\B<=b/\b<w.heap.size/\∀i,i<n->P b off i)
def Q8 (B:Nat)(w:World)(v:Value)(zs:List Int):Prop:=
 Ji B w v zs.length λb off i=>w.cell? (aD b (off+i))=some (iV (iat zs i))
def Qdw (B:Nat)(w:World)(b o:Nat)(x:Wy):Prop:=
 ∃vn vw,w.cell? (aD b o)=some (iV x.id)/\w.cell? (aD b (o+1))=some (.bool x.both)/\w.cell? (aD b (o+2))=some vn/\w.cell? (aD b (o+3))=some vw /\
  Q8 B w vn x.nodes/\Q8 B w vw x.weights
def Jy (B:Nat)(w:World)(v:Value)(xs:List Wy):Prop:=
 Ji B w v xs.length λb off i=>Qdw B w b (off+i*4) (wat xs i)
def Qdx (B:Nat)(w:World)(b o:Nat)(x:Rl):Prop:=
 ∃vw,w.cell? (aD b o)=some (iV x.id)/\w.cell? (aD b (o+1))=some (.bool x.only)/\w.cell? (aD b (o+2))=some (iV x.frm)/\w.cell? (aD b (o+3))=some (iV x.to) /\
  w.cell? (aD b (o+4))=some (.bool x.via)/\w.cell? (aD b (o+5))=some (iV x.node)/\w.cell? (aD b (o+6))=some vw/\Q8 B w vw x.ways
def Ut (B:Nat)(w:World)(v:Value)(xs:List Rl):Prop:=
 Ji B w v xs.length λb off i=>Qdx B w b (off+i*7) (rat xs i)
def Q5w (w:World)(b o:Nat)(x:Tn):Prop:=
 w.cell? (aD b o)=some (iV x.frm)/\w.cell? (aD b (o+1))=some (iV x.to)/\w.cell? (aD b (o+2))=some (iV x.cost)
def V5 (B:Nat)(w:World)(v:Value)(xs:List Tn):Prop:=
 Ji B w v xs.length λb off i=>Q5w w b (off+i*3) (tat xs i)
def Ye (B:Nat)(w:World)(v0 v1 v2 v3:Value)(N:Nt):Prop:=
 Q8 B w v0 N.nodes/\Jy B w v1 N.ways/\Ut B w v2 N.rels/\V5 B w v3 N.turns
abbrev Nx (w w':World):Prop:=Below w.heap.size w w'
theorem Nx.trans {a b c:World}(h:Nx a b)(k:Nx b c):Nx a c:=Below.trans h (Below.mono k h.size)
theorem Nx.drew {a b:World}(h:Nx a b):Nx a b.drew:=Below.drew h
theorem Nx.alloc {a b:World}(h:Nx a b)(o:Obj):Nx a (b.alloc o):=Below.alloc h h.size o
theorem Zj {w:World}{b o:Nat}{v:Value}(h:w.cell? (aD b o)=some v):b<w.heap.size:=by
 rcases Nat.lt_or_ge b w.heap.size with hlt|hge
 ·exact hlt
 ·have hn:w.heap[b]?=none:=Array.getElem?_eq_none hge
  simp[World.cell?,hn] at h
theorem Q0 {B:Nat}{w w':World}(hx:Below B w w'){b o:Nat}(hB:b<B){v:Value}(h:w.cell? (aD b o)=some v):w'.cell? (aD b o)=some v:=
 (hx.cell (p:=(aD b o)) hB).trans h
def Xh (B:Nat)(w w':World):Prop:=w.heap.size<=w'.heap.size/\∀b,B<=b->b<w.heap.size->∀o,w'.cell? (aD b o)=w.cell? (aD b o)
theorem Nx.keeps {w w':World}(h:Nx w w')(B:Nat):Xh B w w':=⟨h.size,λb _ hb o=>h.cell (p:=(aD b o)) hb⟩
theorem Ji.mono {B B':Nat}{w w':World}{v:Value}{n:Nat}{P Q:Nat->Nat->Nat->Prop}(h:Ji B w v n P)(hB:B'<=B)(hw:w.heap.size<=w'.heap.size)
  (hPQ:∀b off,B<=b->b<w.heap.size->∀i,i<n->P b off i->Q b off i):Ji B' w' v n Q:=by
 obtain⟨a,cap,hv,hn,hk⟩:=h
 refine⟨a,cap,hv,hn,λh0=>?_⟩
 obtain⟨b,off,ha,hb,hs,hc⟩:=hk h0
 exact⟨b,off,ha,by omega,by omega,λi hi=>hPQ b off hb hs i hi (hc i hi)⟩
theorem Q8.keep {B:Nat}{w w':World}{v:Value}{zs:List Int}(h:Q8 B w v zs)(k:Xh B w w'):Q8 B w' v zs:=
 Ji.mono h lR k.1 λb off hb hs i hi hc=>(k.2 b hb hs _).trans hc
theorem Qdw.keep {B:Nat}{w w':World}{b o:Nat}{x:Wy}(h:Qdw B w b o x)(k:Xh B w w')(hB:B<=b)(hs:b<w.heap.size):Qdw B w' b o x:=by
 obtain⟨vn,vw,h0,h1,h2,h3,h4,h5⟩:=h
 exact⟨vn,vw,(k.2 b hB hs _).trans h0,(k.2 b hB hs _).trans h1,(k.2 b hB hs _).trans h2,(k.2 b hB hs _).trans h3,h4.keep k,h5.keep k⟩
theorem Jy.keep {B:Nat}{w w':World}{v:Value}{xs:List Wy}(h:Jy B w v xs)(k:Xh B w w'):Jy B w' v xs:=
 Ji.mono h lR k.1 λb off hb hs i hi hc=>hc.keep k hb hs
theorem Qdx.keep {B:Nat}{w w':World}{b o:Nat}{x:Rl}(h:Qdx B w b o x)(k:Xh B w w')(hB:B<=b)(hs:b<w.heap.size):Qdx B w' b o x:=by
 obtain⟨vw,h0,h1,h2,h3,h4,h5,h6,h7⟩:=h
 exact⟨vw,(k.2 b hB hs _).trans h0,(k.2 b hB hs _).trans h1,(k.2 b hB hs _).trans h2,(k.2 b hB hs _).trans h3,(k.2 b hB hs _).trans h4,(k.2 b hB hs _).trans h5,(k.2 b hB hs _).trans h6,h7.keep k⟩
theorem Ut.keep {B:Nat}{w w':World}{v:Value}{xs:List Rl}(h:Ut B w v xs)(k:Xh B w w'):Ut B w' v xs:=
 Ji.mono h lR k.1 λb off hb hs i hi hc=>hc.keep k hb hs
theorem Q5w.keep {B:Nat}{w w':World}{b o:Nat}{x:Tn}(h:Q5w w b o x)(k:Xh B w w')(hB:B<=b)(hs:b<w.heap.size):Q5w w' b o x:=
 ⟨(k.2 b hB hs _).trans h.1,(k.2 b hB hs _).trans h.2.1,(k.2 b hB hs _).trans h.2.2⟩
theorem V5.keep {B:Nat}{w w':World}{v:Value}{xs:List Tn}(h:V5 B w v xs)(k:Xh B w w'):V5 B w' v xs:=
 Ji.mono h lR k.1 λb off hb hs i hi hc=>hc.keep k hb hs
theorem Ye.keep {B:Nat}{w w':World}{v0 v1 v2 v3:Value}{N:Nt}(h:Ye B w v0 v1 v2 v3 N)(k:Xh B w w'):Ye B w' v0 v1 v2 v3 N:=
 ⟨h.1.keep k,h.2.1.keep k,h.2.2.1.keep k,h.2.2.2.keep k⟩
theorem Ye.next {B:Nat}{w w':World}{v0 v1 v2 v3:Value}{N:Nt}(h:Ye B w v0 v1 v2 v3 N)(k:Nx w w'):Ye B w' v0 v1 v2 v3 N:=h.keep (k.keeps B)
theorem Q8.next {B:Nat}{w w':World}{v:Value}{zs:List Int}(h:Q8 B w v zs)(k:Nx w w'):Q8 B w' v zs:=h.keep (k.keeps B)
end Go.Proofs.YtahpodmokbdjeaaGreatDoor
namespace Go.Proofs.YtahpodmokbdjeaaGreatDoor
open Go.RowKit Tryz
set_option linter.unusedVariables false
set_option maxHeartbeats 16000000
def Vs (zs:List Int)(id:Int):Bool:=zs.any (·==id)
def Q45 (zs:List Int)(id:Int)(k:Nat):Prop:=∀i,i<k->iat zs i≠id
theorem Q6i (zs:List Int)(id:Int):Q45 zs id 0:=λi hi=>absurd hi (zM _)
theorem Q6j {zs:List Int}{id:Int}{k:Nat}(h:Q45 zs id k)(hk:(iat zs k==id)=false):Q45 zs id (k+1):=by
 intro i hi
 rcases Nat.lt_succ_iff_lt_or_eq.1 hi with h1|rfl
 ·exact h i h1
 ·simpa using hk
theorem Q4x {zs:List Int}{id:Int}{k:Nat}(hk:k<zs.length)(h:(iat zs k==id)=true):true=Vs zs id:=by
 symm;unfold Vs;rw[List.any_eq_true]
 exact⟨zs[k],yN hk,by rw[<-Vl hk];exact h⟩
theorem Q2i {zs:List Int}{id:Int}{k:Nat}(hk:zs.length<=k)(h:Q45 zs id k):false=Vs zs id:=by
 symm;unfold Vs;rw[List.any_eq_false]
 intro x hx
 obtain⟨i,hi,rfl⟩:=List.mem_iff_getElem.1 hx
 have:=h i (by omega)
 rw[<-Vl hi];simpa using this
theorem W9 (B:Nat)(v0 v1 v2 v3:Value)(u id:Int)(zs:List Int)(w:World)(h0:Q8 B w v0 zs) :
  Calls prog 97 #[.agg #[v0,v1,v2,v3,iV u],iV id] w λe w'=>e=.returned (.bool (Vs zs id))/\Nx w w':=by
 obtain⟨a,cap,rfl,hn,hk⟩:=h0
 unfold maxLen at hn
 generalize hz:zs.length=n at *
 have HZ:Z (zs.length=n):=hz
 clear hz
 go_enter func97,ntmps97
 go_wp2
 go_loop [5] (λi=>∃k:Nat,k<=n/\i=iV k/\Z (Q45 zs id k)) (λi=>n-(intOf i).toNat)
 case atStart=>exact⟨0,nZ,rfl,Q6i _ _⟩
 case round=>
  obtain⟨k,hkn,rfl,hrel⟩:=hrel
  by_cases hlt:k<n
  ·obtain⟨b,off,rfl,hB,hb,hc⟩:=hk (by omega)
   have hcc:=hc k hlt
   clear hc hk
   go_wp2
   ·go_ret
    exact⟨Q6 (Q4x (by rw[HZ.o];exact hlt) (by assumption)),(Below.refl _ _).alloc lR _⟩
   ·go_round
    case rel=>exact⟨k+1,by omega,by go_num,Q6j hrel (by assumption)⟩
    case measure=>simp[intOf];omega
  ·go_wp2
   go_ret
   exact⟨Q6 (Q2i (by rw[HZ.o];omega) hrel),(Below.refl _ _).alloc lR _⟩
def Ju (xs:List Wy)(id:Int):Bool:=xs.any (·.id==id)
def Q6h (xs:List Wy)(id:Int)(k:Nat):Prop:=∀i,i<k->(wat xs i).id≠id
theorem Q11 (xs:List Wy)(id:Int):Q6h xs id 0:=λi hi=>absurd hi (zM _)
theorem Q12 {xs:List Wy}{id:Int}{k:Nat}(h:Q6h xs id k)(hk:((wat xs k).id==id)=false):Q6h xs id (k+1):=by
 intro i hi
 rcases Nat.lt_succ_iff_lt_or_eq.1 hi with h1|rfl
 ·exact h i h1
 ·simpa using hk
theorem Q4w {xs:List Wy}{id:Int}{k:Nat}(hk:k<xs.length)(h:((wat xs k).id==id)=true):Ju xs id=true:=by
 unfold Ju;rw[List.any_eq_true]
 exact⟨xs[k],yN hk,by rw[<-Im hk];exact h⟩
theorem Fm {xs:List Wy}{id:Int}{k:Nat}(hk:xs.length<=k)(h:Q6h xs id k):Ju xs id=false:=by
 unfold Ju;rw[List.any_eq_false]
 intro x hx
 obtain⟨i,hi,rfl⟩:=List.mem_iff_getElem.1 hx
 have:=h i (by omega)
 rw[<-Im hi];simpa using this
theorem Y7 (B:Nat)(v0 v1 v2 v3:Value)(u id:Int)(xs:List Wy)(w:World)(h0:Jy B w v1 xs) :
  Calls prog 55 #[.agg #[v0,v1,v2,v3,iV u],iV id] w λe w'=>∃r:Int,e=.returned (iV r)/\decide (r<0)=!Ju xs id/\Nx w w':=by
 obtain⟨a,cap,rfl,hn,hk⟩:=h0
 unfold maxLen at hn
 generalize hz:xs.length=n at *
 have HZ:Z (xs.length=n):=hz
 clear hz
 go_enter func55,ntmps55
 go_wp2
 go_loop [5] (λi=>∃k:Nat,k<=n/\i=iV k/\Z (Q6h xs id k)) (λi=>n-(intOf i).toNat)
 case atStart=>exact⟨0,nZ,rfl,Q11 _ _⟩
 case round=>
  obtain⟨k,hkn,rfl,hrel⟩:=hrel
  by_cases hlt:k<n
  ·obtain⟨b,off,rfl,hB,hb,hc⟩:=hk (by omega)
   obtain⟨vn,vw,hcc,_⟩:=hc k hlt
   clear hc hk
   go_wp2
   ·go_ret
    exact⟨_,rfl,by rw[Q4w (by rw[HZ.o];exact hlt) (by assumption)];simp,(Below.refl _ _).alloc lR _⟩
   ·go_round
    case rel=>exact⟨k+1,by omega,by go_num,Q12 hrel (by assumption)⟩
    case measure=>simp[intOf];omega
  ·go_wp2
   go_ret
   exact⟨-1,rfl,by rw[Fm (by rw[HZ.o];omega) hrel];rfl,(Below.refl _ _).alloc lR _⟩
def Ag (x:Wy):Nat:=if x.both then 2*x.weights.length else x.weights.length
theorem Eu (id:Int)(both:Bool)(vn vw:Value)(B:Nat)(zs:List Int)(w:World)(h0:Q8 B w vw zs)(hs:zs.length<=1048576) :
  Calls prog 53 #[.agg #[iV id,.bool both,vn,vw]] w λe w'=>e=.returned (iV (if both then 2*zs.length else zs.length:Nat))/\Nx w w':=by
 obtain⟨a,cap,rfl,hn,hk⟩:=h0
 clear hk hn
 cases both
 all_goals
  go_enter func53,ntmps53
  go_wp2
  go_ret
  exact⟨Qv (by simp),(Below.refl _ _).alloc lR _⟩
end Go.Proofs.YtahpodmokbdjeaaGreatDoor
namespace Go.Proofs.YtahpodmokbdjeaaGreatDoor
open Go.RowKit
set_option linter.unusedVariables false
set_option maxHeartbeats 16000000
theorem Qgf {W w1:World}(hb:Below W.heap.size W w1):(∀b o,b<W.heap.size->w1.cell? (aD b o)=W.cell? (aD b o))/\(∀b o,b<W.heap.size->w1.frozen? (aD b o)=W.frozen? (aD b o)):=
 ⟨λb o h=>hb.cell (p:=(aD b o)) h,λb o h=>hb.frozen (p:=(aD b o)) h⟩
theorem Nx.refl (w:World):Nx w w:=Below.refl _ _
theorem Q4 (w:World)(o:Obj):Nx w (w.alloc o):=(Nx.refl w).alloc o
theorem Zk (w:World)(o o':Obj):Nx w ((w.alloc o).alloc o'):=(Q4 w o).alloc o'
def Je (n:Nat)(p:Nat->Bool):Bool:=(List.range n).all p
def Vn (p:Nat->Bool)(k:Nat):Prop:=∀i,i<k->p i=true
theorem J4 (p:Nat->Bool):Vn p 0:=λi hi=>absurd hi (zM _)
theorem Qr {p:Nat->Bool}{k:Nat}(h:Vn p k)(hk:p k=true):Vn p (k+1):=by
 intro i hi
 rcases Nat.lt_succ_iff_lt_or_eq.1 hi with h1|rfl
 ·exact h i h1
 ·exact hk
theorem Qz {n k:Nat}{p:Nat->Bool}(hk:n<=k)(h:Vn p k):Je n p=true:=by
 unfold Je;rw[List.all_eq_true];intro i hi;exact h i (by have:=List.mem_range.1 hi;omega)
theorem J2 {n k:Nat}{p:Nat->Bool}(hk:k<n)(h:p k=false):Je n p=false:=by
 unfold Je;rw[List.all_eq_false];exact⟨k,List.mem_range.2 hk,by simp[h]⟩
def X9 (lt:Nat->Nat->Bool)(i:Nat):Bool:=i==0||lt (i-1) i
def Kd (n:Nat)(lt:Nat->Nat->Bool):Bool:=Je n (X9 lt)
theorem Pn (lt:Nat->Nat->Bool):Vn (X9 lt) 1:=by intro i hi;have:i=0:=by omega
                                                subst this;rfl
theorem Jk (lt:Nat->Nat->Bool)(j:Nat):X9 lt (j+1)=lt j (j+1):=by simp[X9]
theorem Z9 (a b:Int):decide (0<=Xy a b)=!decide (a<b):=by
 unfold Xy;by_cases h:a<b
 ·simp[h]
 ·by_cases h':b<a<;>simp[h,h']
theorem Q5g (a b:Int):decide (Xy a b<0)=decide (a<b):=by
 unfold Xy;by_cases h:a<b
 ·simp[h]
 ·by_cases h':b<a<;>simp[h,h']
theorem Q1g (a b:Int):(Xy a b==0)=(a==b):=by
 unfold Xy;by_cases h:a<b
 ·simp[h];omega
 ·by_cases h':b<a
  ·simp[h,h'];omega
  ·simp[h,h'];omega
theorem Yk (j:Nat)(h:j<=9223372036854775807):IntKind.i64.wrap (j:Int)=(j:Int):=by rw[IntKind.wrap_i64];omega
end Go.Proofs.YtahpodmokbdjeaaGreatDoor
namespace Go.Proofs.YtahpodmokbdjeaaGreatDoor
open Go.RowKit Tryz
set_option linter.unusedVariables false
set_option maxHeartbeats 16000000
def Vp (x:Wy):Bool:=inB x.id&&decide (1<=x.weights.length)&&decide (x.weights.length<=100)&&decide (x.nodes.length=x.weights.length+1)
def Qu (nodes:List Int)(x:Wy):Bool:=
 Vp x&&Je x.weights.length (λi=>inB (iat x.weights i))&&Je x.nodes.length (λi=>Vs nodes (iat x.nodes i))
theorem Q06 (B:Nat)(v0 v1 v2 v3:Value)(u:Int)(nodes:List Int)(x:Wy)(vn vw:Value)(w:World)(h0:Q8 B w v0 nodes)(hN:Q8 B w vn x.nodes)(hW:Q8 B w vw x.weights) :
  Calls prog 52 #[.agg #[v0,v1,v2,v3,iV u],.agg #[iV x.id,.bool x.both,vn,vw]] w λe w'=>e=.returned (.bool (Qu nodes x))/\Nx w w':=by
 obtain⟨a1,cap1,rfl,hn1,hk1⟩:=hN
 obtain⟨a2,cap2,rfl,hn2,hk2⟩:=hW
 unfold maxLen at hn1 hn2
 generalize hz1:x.nodes.length=n1 at *
 generalize hz2:x.weights.length=n2 at *
 have HZ1:Z (x.nodes.length=n1):=hz1
 have HZ2:Z (x.weights.length=n2):=hz2
 clear hz1 hz2
 have two:Nx w ((w.alloc (.cells #[v0,v1,v2,v3,iV u] 38)).alloc (.cells #[iV x.id,.bool x.both,sL a1 n1 cap1,sL a2 n2 cap2] 108)):=
  ((Below.refl _ _).alloc lR _).alloc (by simp) _
 by_cases e1:inB x.id=true
 case neg=>
  have e1':inB x.id=false:=by simpa using e1
  have hg:false=Qu nodes x:=by simp[Qu,Vp,e1']
  have HG:Z (false=Qu nodes x):=hg
  clear hg e1
  go_enter func52,ntmps52
  go_wp2_with (go_at_call 51;refine(Jj _ _).mono ?_;rintro e w' ⟨rfl,rfl⟩)
  go_ret
  exact⟨Q6 HG.o,two⟩
 by_cases e2:1<=n2
 case neg=>
  have HG:Z (false=Qu nodes x):=by unfold Z;simp[Qu,Vp,HZ2.o];omega
  go_enter func52,ntmps52
  go_wp2_with (go_at_call 51;refine(Jj _ _).mono ?_;rintro e w' ⟨rfl,rfl⟩)
  go_ret
  exact⟨Q6 HG.o,two⟩
 have d2:decide ((n2:Int)<1)=false:=by simp;omega
 by_cases e3:n2<=100
 case neg=>
  have HG:Z (false=Qu nodes x):=by unfold Z;simp[Qu,Vp,HZ2.o];omega
  go_enter func52,ntmps52
  go_wp2_with (go_at_call 51;refine(Jj _ _).mono ?_;rintro e w' ⟨rfl,rfl⟩)
  go_ret
  exact⟨Q6 HG.o,two⟩
 have d3:decide (100<(n2:Int))=false:=by simp;omega
 by_cases e4:n1=n2+1
 case neg=>
  have HG:Z (false=Qu nodes x):=by unfold Z;simp[Qu,Vp,HZ2.o,HZ1.o];omega
  have d4:((n1:Int) !=(n2:Int)+1)=true:=by rw[bne_iff_ne];omega
  go_enter func52,ntmps52
  go_wp2_with (go_at_call 51;refine(Jj _ _).mono ?_;rintro e w' ⟨rfl,rfl⟩)
  go_ret
  exact⟨Q6 HG.o,two⟩
 have d4:((n1:Int) !=(n2:Int)+1)=false:=by simp;omega
 have e4a:n1<=n2+1:=by omega
 have e4b:n2+1<=n1:=by omega
 clear e4
 have HH:Z (Vp x=true):=by unfold Z;simp[Vp,HZ1.o,HZ2.o,e1];omega
 go_enter func52,ntmps52
 go_wp2_with (go_at_call 51;refine(Jj _ _).mono ?_;rintro e w' ⟨rfl,rfl⟩)
 go_loop [5] (λi=>∃k:Nat,k<=n2/\i=iV k/\Z (Vn (λi=>inB (iat x.weights i)) k)) (λi=>n2-(intOf i).toNat)
 case atStart=>exact⟨0,nZ,rfl,J4 _⟩
 case round=>
  obtain⟨k,hkn,rfl,hrel⟩:=hrel
  by_cases hlt:k<n2
  ·obtain⟨b,off,rfl,hB,hb,hc⟩:=hk2 (by omega)
   have hcc:=hc k hlt
   clear hc hk2 hk1
   by_cases hin:inB (iat x.weights k)=true
   ·go_wp2_with (go_at_call 51;refine(Jj _ _).mono ?_;rintro e w' ⟨rfl,rfl⟩)
    go_round
    case rel=>exact⟨k+1,by omega,by go_num,Qr hrel hin⟩
    case measure=>simp[intOf];omega
   ·have hin':inB (iat x.weights k)=false:=by simpa using hin
    go_wp2_with (go_at_call 51;refine(Jj _ _).mono ?_;rintro e w' ⟨rfl,rfl⟩)
    go_ret
    exact⟨Q6 (by unfold Qu;rw[J2 (by rw[HZ2.o];exact hlt) hin'];simp),two⟩
  ·have HA:Z (Je x.weights.length (λi=>inB (iat x.weights i))=true):=Qz (by rw[HZ2.o];omega) hrel
   go_wp2
   go_loopw [6] (λi wr=>∃k:Nat,k<=n1/\i=iV k/\Z (Vn (λi=>Vs nodes (iat x.nodes i)) k)/\Nx ((w.alloc (.cells #[v0,v1,v2,v3,iV u] 38)).alloc (.cells #[iV x.id,.bool x.both,sL a1 n1 cap1,sL a2 n2 cap2] 108)) wr) (λi _=>n1-(intOf i).toNat)
   case atStart=>exact⟨0,nZ,rfl,J4 _,Below.refl _ _⟩
   case round=>
    obtain⟨k',hkn',rfl,hrel',hnx⟩:=hrel
    have HN:Z (Nx ((w.alloc (.cells #[v0,v1,v2,v3,iV u] 38)).alloc (.cells #[iV x.id,.bool x.both,sL a1 n1 cap1,sL a2 n2 cap2] 108)) wr):=hnx
    obtain⟨hcl,hfr⟩:=Qgf hnx
    clear hnx
    by_cases hlt':k'<n1
    ·obtain⟨b,off,rfl,hB,hb,hc⟩:=hk1 (by omega)
     have hcc:=Q0 HN.o (by simp;omega) (Q0 two hb (hc k' hlt'))
     clear hc hk1 hk2
     by_cases hin:Vs nodes (iat x.nodes k')=true
     ·go_wp2
      go_region_with (go_at_call 97;refine(W9 B _ _ _ _ _ _ nodes _ (by exact(h0.next two).next (by first|exact HN.o|exact HN.o.drew))).mono ?_;rintro e w' ⟨rfl,hx⟩)
      all_goals go_wp2
      all_goals
       go_roundw
       case rel=>exact⟨k'+1,by omega,by go_num,Qr hrel' hin,Nx.trans HN.o.drew hx⟩
       case measure=>simp[intOf];omega
     ·have hin':Vs nodes (iat x.nodes k')=false:=by simpa using hin
      go_wp2
      go_region_with (go_at_call 97;refine(W9 B _ _ _ _ _ _ nodes _ (by exact(h0.next two).next (by first|exact HN.o|exact HN.o.drew))).mono ?_;rintro e w' ⟨rfl,hx⟩)
      all_goals go_wp2
      all_goals
       go_ret
       exact⟨Q6 (by unfold Qu;rw[J2 (n:=x.nodes.length) (by rw[HZ1.o];exact hlt') hin'];simp),Nx.trans two (Nx.trans HN.o.drew hx)⟩
    ·go_wp2
     go_ret
     exact⟨Q6 (by unfold Qu;rw[HH.o,HA.o,Qz (n:=x.nodes.length) (by rw[HZ1.o];omega) hrel'];rfl),Nx.trans two HN.o⟩
end Go.Proofs.YtahpodmokbdjeaaGreatDoor
