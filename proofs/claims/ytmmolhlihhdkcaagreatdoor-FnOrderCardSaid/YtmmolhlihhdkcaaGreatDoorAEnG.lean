import Derived.Test.YtmmolhlihhdkcaaGreatDoorAEnD
import Derived.Lib.SlBytesConst
namespace Go.Proofs.YtmmolhlihhdkcaaGreatDoor
open Go.RowKit
set_option linter.unusedVariables false
set_option maxRecDepth 1000000
set_option maxHeartbeats 16000000
end Go.Proofs.YtmmolhlihhdkcaaGreatDoor
namespace Go.Proofs.YtmmolhlihhdkcaaGreatDoor
open Go.RowKit Go.Lib
set_option linter.unusedVariables false
set_option maxRecDepth 1000000
set_option maxHeartbeats 16000000
def Qfk (w:World)(g:Nat)(bs:List UInt8):Prop:=∀j u,(byteCells bs)[j]?=some u->w.cell? ((⟨g,0,none⟩:Addr).add j)=some u
end Go.Proofs.YtmmolhlihhdkcaaGreatDoor
namespace Go.Proofs.YtmmolhlihhdkcaaGreatDoor
open Go.RowKit
set_option linter.unusedVariables false
set_option maxHeartbeats 16000000
def U2 (z:Int):List UInt8:=[110,111,100,101]++J0 [z] [z].length++[10]
def U8 (x:Wy):List UInt8:=[119,97,121]++(J0 [x.id] [x.id].length++((if x.both then [32,98] else [32,102])++(J0 [iat x.nodes 0] [iat x.nodes 0].length++(J0 (K5 x) (2*x.weights.length)++[10]))))
def Uf (x:Rl):List UInt8:=(if x.only then [111,110,108,121] else [110,111])++(J0 [x.id,x.frm] [x.id,x.frm].length ++
 (if x.via then [32,97,116]++(J0 [x.node] [x.node].length++(J0 [x.to] [x.to].length++[10])) else [32,98,121]++(J0 x.ways x.ways.length++(J0 [x.to] [x.to].length++[10]))))
def Zn (x:Tn):List UInt8:=[116,117,114,110]++J0 [x.frm,x.to,x.cost] [x.frm,x.to,x.cost].length++[10]
def Ad:List UInt8:=[114,111,97,100,110,101,116,32,49,10]
def Pi (u:Int):List UInt8:=Ad++[117,116,117,114,110]++J0 [u] [u].length++[10]
def Pa (f:Nat->List UInt8):Nat->List UInt8
 |0=>[]
 |k+1=>Pa f k++f k
def Gb (zs:List Int)(k:Nat):List UInt8:=Pa (λi=>U2 (iat zs i)) k
def Ay (xs:List Wy)(k:Nat):List UInt8:=Pa (λi=>U8 (wat xs i)) k
def Q0e (xs:List Rl)(k:Nat):List UInt8:=Pa (λi=>Uf (rat xs i)) k
def G0 (xs:List Tn)(k:Nat):List UInt8:=Pa (λi=>Zn (tat xs i)) k
def t0 (N:Nt):List UInt8:=Pi N.uturn
def t1 (N:Nt)(k:Nat):List UInt8:=t0 N++Gb N.nodes k
def t2 (N:Nt)(k:Nat):List UInt8:=t1 N N.nodes.length++Ay N.ways k
def t3 (N:Nt)(k:Nat):List UInt8:=t2 N N.ways.length++Q0e N.rels k
def t4 (N:Nt)(k:Nat):List UInt8:=t3 N N.rels.length++G0 N.turns k
def F8 (N:Nt):List UInt8:=t4 N N.turns.length
def Ja (N:Nt):List UInt8:=if Ql N then F8 N else []
theorem Q5d (N:Nt):t1 N 0=t0 N:=by simp[t1,Gb,Pa]
theorem Q5b (N:Nt):t2 N 0=t1 N N.nodes.length:=by simp[t2,Ay,Pa]
theorem Q59 (N:Nt):t3 N 0=t2 N N.ways.length:=by simp[t3,Q0e,Pa]
theorem Q57 (N:Nt):t4 N 0=t3 N N.rels.length:=by simp[t4,G0,Pa]
theorem Q5e (N:Nt)(k:Nat):t1 N (k+1)=t1 N k++U2 (iat N.nodes k):=by simp[t1,Gb,Pa]
theorem Q5c (N:Nt)(k:Nat):t2 N (k+1)=t2 N k++U8 (wat N.ways k):=by simp[t2,Ay,Pa]
theorem Q5a (N:Nt)(k:Nat):t3 N (k+1)=t3 N k++Uf (rat N.rels k):=by simp[t3,Q0e,Pa]
theorem Q58 (N:Nt)(k:Nat):t4 N (k+1)=t4 N k++Zn (tat N.turns k):=by simp[t4,G0,Pa]
def In (x:Int):Prop:=0<=x/\x<=1048576
theorem Fh {x:Int}(h:inB x=true):In x:=by simpa [inB,In] using h
theorem Q67 {zs:List Int}{x:Int}(ha:∀i,i<zs.length->In (iat zs i))(h:Vx zs x=true):In x:=by
 unfold Vx at h
 rw[List.any_eq_true] at h
 obtain⟨y,hy,e⟩:=h
 obtain⟨i,hi,rfl⟩:=List.getElem_of_mem hy
 have:=ha i hi
 rw[Jm hi] at this
 rwa [<-(beq_iff_eq.1 e)]
theorem W1 {xs:List Wy}{x:Int}(ha:∀i,i<xs.length->In (wat xs i).id)(h:Ju xs x=true):In x:=by
 unfold Ju at h
 rw[List.any_eq_true] at h
 obtain⟨y,hy,e⟩:=h
 obtain⟨i,hi,rfl⟩:=List.getElem_of_mem hy
 have:=ha i hi
 rw[Uu hi] at this
 rwa [<-(beq_iff_eq.1 e)]
structure At (x:Wy):Prop where
 id:In x.id
 nodes:small x.nodes
 weights:small x.weights
 len:x.nodes.length=x.weights.length+1
 seg:x.weights.length<=100
structure Q12 (x:Rl):Prop where
 id:In x.id
 frm:In x.frm
 tt:In x.to
 node:In x.node
 ways:small x.ways
 len:x.ways.length<=4
structure Q4o (x:Tn):Prop where
 frm:In x.frm
 tt:In x.to
 cost:In x.cost
structure E3 (N:Nt):Prop where
 ut:In N.uturn
 c0:N.nodes.length<=2000
 c1:N.ways.length<=2000
 c2:N.rels.length<=1000
 c3:N.turns.length<=2000
 ed:edTo N.ways N.ways.length<=4000
 nodes:∀i,i<N.nodes.length->In (iat N.nodes i)
 ways:∀i,i<N.ways.length->At (wat N.ways i)
 rels:∀i,i<N.rels.length->Q12 (rat N.rels i)
 turns:∀i,i<N.turns.length->Q4o (tat N.turns i)
theorem Q9z {N:Nt}(h:Ql N=true):E3 N:=by
 simp only[Ql,Xg,Bool.and_eq_true,decide_eq_true_eq] at h
 obtain⟨⟨c0,c1,ed,c2,c3⟩,hu,⟨_,hn⟩,⟨hw,_⟩,⟨hr,_⟩,ht,_⟩:=h
 have an:∀i,i<N.nodes.length->In (iat N.nodes i):=λi hi=>Fh (Xu hn hi)
 have aw:∀i,i<N.ways.length->At (wat N.ways i):=λi hi=>by
  have:=Xu hw hi
  simp only[Qs,Jz,Bool.and_eq_true,decide_eq_true_eq] at this
  obtain⟨⟨⟨⟨⟨g0,g1⟩,g2⟩,g3⟩,g4⟩,g5⟩:=this
  exact⟨Fh g0,λj hj=>Q67 an (Xu g5 hj),λj hj=>Fh (Xu g4 hj),g3,g2⟩
 have ai:∀i,i<N.ways.length->In (wat N.ways i).id:=λi hi=>(aw i hi).id
 refine⟨Fh hu,c0,c1,c2,c3,ed,an,aw,λi hi=>?_,λi hi=>?_⟩
 ·have:=Xu hr hi
  simp only[Qz,Qx,Bool.and_eq_true] at this
  obtain⟨g0,g1,g2,g3⟩:=this
  by_cases hv:(rat N.rels i).via=true
  ·rw[if_pos hv] at g3
   simp only[Bool.and_eq_true,decide_eq_true_eq] at g3
   exact⟨Fh g0,W1 ai g1,W1 ai g2,Q67 an g3.2,λj hj=>by omega,by omega⟩
  ·rw[if_neg hv] at g3
   simp only[Bool.and_eq_true,decide_eq_true_eq,beq_iff_eq] at g3
   exact⟨Fh g0,W1 ai g1,W1 ai g2,by rw[g3.1];exact⟨by omega,by omega⟩,λj hj=>W1 ai (Xu g3.2.2.2 hj),g3.2.2.1⟩
 ·have:=Xu ht hi
  simp only[Xb,Bool.and_eq_true] at this
  exact⟨W1 ai this.1,W1 ai this.2.1,Fh this.2.2⟩
theorem Q90 {x y z:Int}(h:In x)(h':In y)(h'':In z):small [x,y,z]:=by
 intro i hi
 match i,hi with
 |0,_=>exact h
 |1,_=>exact h'
 |2,_=>exact h''
theorem Q45 {z:Int}(h:In z):(U2 z).length<=13:=by
 have:=V6 (Wj h) [z].length (Nat.le_refl _)
 simp only[U2,List.length_append,List.length_cons,List.length_nil] at *;omega
theorem Q48 {z:Int}(h:In z):(Pi z).length<=24:=by
 have:=V6 (Wj h) [z].length (Nat.le_refl _)
 simp only[Pi,Ad,List.length_append,List.length_cons,List.length_nil] at *;omega
theorem Q3g {x:Tn}(h:Q4o x):(Zn x).length<=29:=by
 have:=V6 (Q90 h.frm h.tt h.cost) [x.frm,x.to,x.cost].length (Nat.le_refl _)
 simp only[Zn,List.length_append,List.length_cons,List.length_nil] at *;omega
theorem Q6s {x:Wy}(h:At x):(U8 x).length<=22+16*x.weights.length:=by
 have a:=V6 (Wj h.id) [x.id].length (Nat.le_refl _)
 have b:=V6 (Wj (h.nodes 0 (by rw[h.len];omega))) [iat x.nodes 0].length (Nat.le_refl _)
 have c:=V6 (Il h.nodes h.weights h.len) (2*x.weights.length) (by rw[I6];exact Nat.le_refl _)
 have d:(if x.both then [32,98] else [32,102]:List UInt8).length=2:=by split<;>rfl
 simp only[U8,List.length_append,List.length_cons,List.length_nil] at *;omega
theorem Q7c {x:Rl}(h:Q12 x):(Uf x).length<=64:=by
 have a:=V6 (Q3k h.id h.frm) [x.id,x.frm].length (Nat.le_refl _)
 have b:=V6 (Wj h.node) [x.node].length (Nat.le_refl _)
 have c:=V6 (Wj h.tt) [x.to].length (Nat.le_refl _)
 have d:=V6 h.ways x.ways.length (Nat.le_refl _)
 have l:=h.len
 have e:(if x.only then [111,110,108,121] else [110,111]:List UInt8).length<=4:=by split<;>simp
 cases hv:x.via
 all_goals
  simp only[Uf,hv,if_true,Bool.false_eq_true,if_false,List.length_append,List.length_cons,List.length_nil] at *
  omega
theorem Q8v {N:Nt}(h:E3 N)(k:Nat)(hk:k<=N.nodes.length):(t1 N k).length<=24+13*k:=by
 induction k with
 |zero=>rw[Q5d];exact Q48 h.ut
 |succ k ih=>rw[Q5e,List.length_append];have:=ih (by omega);have:=Q45 (h.nodes k (by omega));omega
theorem Qe6 {N:Nt}(h:E3 N)(k:Nat)(hk:k<=N.ways.length):(t2 N k).length<=26024+22*k+16*edTo N.ways k:=by
 induction k with
 |zero=>rw[Q5b];have:=Q8v h _ (Nat.le_refl _);have:=h.c0;omega
 |succ k ih=>
  rw[Q5c,List.length_append]
  have:=ih (by omega)
  have:=Q6s (h.ways k (by omega))
  have:(wat N.ways k).weights.length<=Tx (wat N.ways k):=by unfold Tx;split<;>omega
  simp only[edTo]
  omega
theorem Q4b (xs:List Wy){j k:Nat}(h:j<=k):edTo xs j<=edTo xs k:=by
 induction k with
 |zero=>simp at h;subst h;exact Nat.le_refl _
 |succ k ih=>
  rcases Nat.lt_succ_iff_lt_or_eq.1 (Nat.lt_succ_of_le h) with h1|rfl
  ·have:=ih (by omega);simp only[edTo];omega
  ·exact Nat.le_refl _
theorem Q8u {N:Nt}(h:E3 N)(k:Nat)(hk:k<=N.ways.length):(t2 N k).length<=134024:=by
 have:=Qe6 h k hk
 have:=Q4b N.ways hk
 have:=h.ed
 have:=h.c1
 omega
theorem Q8t {N:Nt}(h:E3 N)(k:Nat)(hk:k<=N.rels.length):(t3 N k).length<=134024+64*k:=by
 induction k with
 |zero=>rw[Q59];exact Q8u h _ (Nat.le_refl _)
 |succ k ih=>rw[Q5a,List.length_append];have:=ih (by omega);have:=Q7c (h.rels k (by omega));omega
theorem Q8s {N:Nt}(h:E3 N)(k:Nat)(hk:k<=N.turns.length):(t4 N k).length<=198024+29*k:=by
 induction k with
 |zero=>rw[Q57];have:=Q8t h _ (Nat.le_refl _);have:=h.c2;omega
 |succ k ih=>rw[Q58,List.length_append];have:=ih (by omega);have:=Q3g (h.turns k (by omega));omega
end Go.Proofs.YtmmolhlihhdkcaaGreatDoor
namespace Go.Proofs.YtmmolhlihhdkcaaGreatDoor
open Go.RowKit
set_option linter.unusedVariables false
set_option maxRecDepth 1000000
set_option maxHeartbeats 16000000
theorem nums3 (B:Nat)(w:World)(x y z:Int):Z4 B (w.alloc (.cells #[.int .i64 x,.int .i64 y,.int .i64 z] 2)) (.slice (some ⟨w.heap.size,0,none⟩) 3 3) [x,y,z]:=by
 refine⟨_,_,rfl,by simp[maxLen],λ_=>⟨w.heap.size,0,rfl,Nat.zero_le _,by simp,λi hi=>⟨Or.inr ⟨#[.int .i64 x,.int .i64 y,.int .i64 z],2,(0,0),by decide,by show(w.heap.push _)[w.heap.size]?=_;simp⟩,?_⟩⟩⟩
 simp only[List.length_cons,List.length_nil] at hi
 rcases (show i=0\/i=1\/i=2 by omega) with rfl|rfl|rfl<;>simp[iat]
theorem Q7q (b:List UInt8)(z:Int):b++(⟨#[110,111,100,101]⟩:ByteArray).data.toList++J0 [z] [z].length++[10]=b++U2 z:=by simp[U2]
theorem Q7p (b:List UInt8)(x:Tn):b++(⟨#[116,117,114,110]⟩:ByteArray).data.toList++J0 [x.frm,x.to,x.cost] [x.frm,x.to,x.cost].length++[10]=b++Zn x:=by simp[Zn]
theorem A2 (B:Nat)(w:World)(h:B<=w.heap.size):Own B (w.alloc (.cells #[] 5)) (.slice (some ⟨w.heap.size,0,none⟩) 0 0) []:=by
 refine⟨rfl,.inr ⟨w.heap.size,0,#[],rfl,h,by show(w.heap.push _)[w.heap.size]?=_;simp,Nat.le_refl _,by simp[maxLen],by simp,by simp[Lib.byteCells]⟩⟩
theorem Qfk.alloc {w:World}{g:Nat}{bs:List UInt8}(h:Qfk w g bs)(o:Obj):Qfk (w.alloc o) g bs:=λj u hj=>Lib.cell?_alloc_marked o (h j u hj)
theorem Q9u (B:Nat)(w:World)(x:Int)(n:Nat)(h:n=w.heap.size):Z4 B (w.alloc (.cells #[.int .i64 x] 2)) (.slice (some ⟨n,0,none⟩) 1 1) [x]:=by subst h;exact nums1 B w x
theorem Qex (B:Nat)(w:World)(x y z:Int)(n:Nat)(h:n=w.heap.size):Z4 B (w.alloc (.cells #[.int .i64 x,.int .i64 y,.int .i64 z] 2)) (.slice (some ⟨n,0,none⟩) 3 3) [x,y,z]:=by subst h;exact nums3 B w x y z
theorem Own.cast {B:Nat}{w:World}{v:Value}{a b:List UInt8}(h:Own B w v a)(e:a=b):Own B w v b:=e▸h
theorem Qap {N:Nt}(h:Ql N=false):Ja N=[]:=by simp[Ja,h]
theorem Q7v {N:Nt}(h:Ql N=true):Ja N=F8 N:=by simp[Ja,h]
theorem Qcj (u:Int):Ad++(⟨#[117,116,117,114,110]⟩:ByteArray).data.toList++J0 [u] [u].length++[10]=Pi u:=by simp[Pi]
def nm (z:Int):List UInt8:=32::Lib.decDigits z.toNat
theorem Q26 (zs:List Int)(k:Nat)(h:k<=zs.length):J0 zs k=(zs.take k).flatMap nm:=by
 induction k with
 |zero=>simp[J0]
 |succ k ih=>
  rw[J0,ih (by omega),List.take_succ_eq_append_getElem (by omega),List.flatMap_append,Jm (by omega)]
  simp[nm]
theorem Qv (zs:List Int):J0 zs zs.length=zs.flatMap nm:=by rw[Q26 zs _ (Nat.le_refl _),List.take_length]
theorem Ka (x:Wy):J0 (K5 x) (2*x.weights.length)=(K5 x).flatMap nm:=by rw[<-I6,Qv]
theorem Q6.alloc {B:Nat}{w:World}{v:Value}{zs:List Int}(h:Q6 B w v zs)(o:Obj):Q6 B (w.alloc o) v zs:=World.ownsRow.alloc h o
theorem Q6.nums {C B:Nat}{w:World}{v:Value}{zs:List Int}(h:Q6 C w v zs):Z4 B w v zs:=by
 obtain⟨h1,h2⟩:=h
 rcases h2 with⟨rfl,h2⟩|⟨g,cap,cur,rfl,hg,hh,hc,hm,hs,ht⟩
 ·have:zs.length=0:=by first|exact h2|exact h2.symm|omega
  exact⟨none,0,by rw[this],by rw[this];simp[maxLen],λh=>by omega⟩
 ·refine⟨_,_,rfl,by omega,λh0=>⟨g,0,rfl,Nat.zero_le _,(Array.getElem?_eq_some_iff.1 hh).1,λi hi=>⟨Or.inr ⟨cur,2,_,by decide,hh⟩,?_⟩⟩⟩
  have e:cur[i]?=some (.int .i64 (iat zs i)):=by
   have:(cur.toList.take (zs.length*1))[i]?=(Qw zs)[i]?:=by rw[ht]
   rw[List.getElem?_take_of_lt (by omega)] at this
   rw[<-Array.getElem?_toList,this,Jm hi]
   simp[Qw,hi]
  unfold World.cell?
  simp only[hh]
  simpa using e
def wv (x:Wy)(k:Nat):List Int:=iat x.nodes 0::(List.range k).flatMap λi=>[iat x.weights i,iat x.nodes (i+1)]
theorem Q4v (x:Wy)(k:Nat):wv x (k+1)=wv x k++[iat x.weights k]++[iat x.nodes (k+1)]:=by simp[wv,List.range_succ,List.flatMap_append]
theorem Q89 (x:Wy)(k:Nat):(wv x k).length=1+2*k:=by rw[wv,List.length_cons,Q00];omega
theorem Q8a (x:Wy):wv x x.weights.length=iat x.nodes 0::K5 x:=rfl
theorem Q15 {x:Wy}(h:At x):small (wv x x.weights.length):=by
 intro i hi
 rw[Q8a] at hi ⊢
 have hp:=Il h.nodes h.weights h.len
 match i with
 |0=>exact h.nodes 0 (by rw[h.len];omega)
 |i+1=>
  have:=hp i (by simpa using hi)
  simpa [iat] using this
def Wb (x:Wy):ByteArray:=⟨#[119,97,121,32]⟩++⟨(Lib.decDigits x.id.toNat).toArray⟩++⟨if x.both then #[32,98] else #[32,102]⟩
theorem Gj (x:Wy):(Wb x).data.toList=[119,97,121,32]++Lib.decDigits x.id.toNat++(if x.both then [32,98] else [32,102]):=by
 unfold Wb
 simp only[ByteArray.data_append,Array.toList_append]
 cases x.both<;>simp
theorem Q2c (b:List UInt8)(x:Wy):b++(Wb x).data.toList++J0 (wv x x.weights.length) (wv x x.weights.length).length++[10]=b++U8 x:=by
 rw[Gj,Qv,Q8a]
 unfold U8
 rw[Qv,Qv,Ka]
 simp[nm]
theorem Q6n (s:ByteArray):s.size=s.data.toList.length:=by simp
theorem Gi {x:Wy}(h:At x):(Wb x).size<=13:=by
 have:=Vk 6 x.id.toNat (by have:=h.id;unfold In at this;omega)
 have d:(if x.both then [32,98] else [32,102]:List UInt8).length=2:=by split<;>rfl
 rw[Q6n,Gj]
 simp only[List.length_append,List.length_cons,List.length_nil,d]
 omega
def Z1 (x:Rl)(tl:List UInt8):ByteArray:=⟨if x.only then #[111,110,108,121,32] else #[110,111,32]⟩++(⟨(Lib.decDigits x.id.toNat).toArray⟩++⟨#[32]⟩++⟨(Lib.decDigits x.frm.toNat).toArray⟩)++⟨tl.toArray⟩
theorem Pb (x:Rl)(tl:List UInt8):(Z1 x tl).data.toList=(if x.only then [111,110,108,121,32] else [110,111,32])++(Lib.decDigits x.id.toNat++[32]++Lib.decDigits x.frm.toNat)++tl:=by
 unfold Z1
 simp only[ByteArray.data_append,Array.toList_append]
 cases x.only<;>simp
theorem Uv {x:Rl}(h:Q12 x)(tl:List UInt8)(hl:tl.length<=3):(Z1 x tl).size<=23:=by
 have:=Vk 6 x.id.toNat (by have:=h.id;unfold In at this;omega)
 have:=Vk 6 x.frm.toNat (by have:=h.frm;unfold In at this;omega)
 have e:(if x.only then [111,110,108,121,32] else [110,111,32]:List UInt8).length<=5:=by split<;>simp
 rw[Q6n,Pb]
 simp only[List.length_append,List.length_cons,List.length_nil]
 omega
theorem Q5x (b:List UInt8)(x:Rl)(hv:x.via=true):b++(Z1 x [32,97,116]).data.toList++J0 [x.node,x.to] [x.node,x.to].length++[10]=b++Uf x:=by
 rw[Pb,Qv]
 unfold Uf
 rw[if_pos hv,Qv,Qv,Qv]
 cases x.only<;>simp[nm]
theorem Q5w (b:List UInt8)(x:Rl)(hv:x.via=false):b++(Z1 x [32,98,121]).data.toList++J0 (x.ways++[x.to]) (x.ways++[x.to]).length++[10]=b++Uf x:=by
 rw[Pb,Qv]
 unfold Uf
 rw[if_neg (show ¬x.via=true by simp[hv]),Qv,Qv,Qv]
 cases x.only<;>simp[nm]
end Go.Proofs.YtmmolhlihhdkcaaGreatDoor
