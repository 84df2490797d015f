import Derived.Test.YtmmolhlihhdkcaaGreatDoorBRoS
import Derived.Lib.ItoaNum
import Derived.Laws.IdiomStrings
import Derived.Lib.UnsafeStr
import Derived.Lib.Slices
namespace Go.Proofs.YtmmolhlihhdkcaaGreatDoor
open Go.RowKit
set_option linter.unusedVariables false
set_option maxRecDepth 1000000
set_option maxHeartbeats 16000000
theorem Qc7 (k:Nat):∀n,n<10 ^ (k+1)->(Lib.decDigits n).length<=k+1:=by
 induction k with
 |zero=>intro n hn;rw[Lib.decDigits,dif_pos (by simpa using hn)];simp
 |succ k ih=>
  intro n hn
  rw[Lib.decDigits]
  by_cases h:n<10
  ·rw[dif_pos h];simp
  ·rw[dif_neg h,List.length_append]
   have:=ih (n/10) (by rw[Nat.pow_succ] at hn;omega)
   simp;omega
theorem Yd:(Tryz.prog.info? 5).map (λi=>(i.zero,i.size,i.bytes))=some (some (.int .u8 0),1,1):=by kernel_rfl
def Own (B:Nat)(w:World)(v:Value)(bs:List UInt8):Prop:=w.ownsRow B 5 1 v bs.length (Lib.byteCells bs)
def Gx (B:Nat)(w w':World):Prop:=Below B w w'/\Lib.OthersKept 5 none w w'
theorem Gx.refl (B:Nat)(w:World):Gx B w w:=⟨Below.refl _ _,Lib.OthersKept.refl _ _ _⟩
theorem Gx.trans {B:Nat}{a b c:World}(h:Gx B a b)(k:Gx B b c):Gx B a c:=⟨h.1.trans k.1,h.2.trans k.2⟩
theorem Gx.alloc {B:Nat}{a w:World}(h:Gx B a w)(hB:B<=w.heap.size)(o:Obj):Gx B a (w.alloc o):=⟨h.1.alloc hB o,h.2.alloc o⟩
theorem Qbn {B:Nat}{w:World}{v:Value}{bs:List UInt8}(h:Own B w v bs):∀g,v.ownBlock=some g->∃c fz,w.heap[g]?=some (.cells c 5 fz):=by
 intro g hg
 rcases h.2 with⟨rfl,_⟩|⟨g',cap,cur,rfl,_,hh,_⟩
 ·simp[Value.ownBlock] at hg
 ·simp[Value.ownBlock] at hg;subst hg;exact⟨_,_,hh⟩
theorem Gx.grown {B:Nat}{a w w':World}{v:Value}{bs:List UInt8}(h:Gx B a w)(hown:Own B w v bs)(hg:w.grownBy w' v.ownBlock)(hB:B<=w.heap.size):Gx B a w':=by
 refine⟨h.1.grown hg hB (λk hk=>(hown.lt k hk).1),h.2.trans ?_⟩
 intro k o hk hb ho
 have hlt:k<w.heap.size:=(Array.getElem?_eq_some_iff.1 hk).1
 rw[hg.block k hlt (λe=>by
  obtain⟨c,fz,hh⟩:=Qbn hown k e.symm
  rw[hk] at hh
  exact ho c fz (by simpa using hh))]
 exact hk
theorem Own.alloc {B:Nat}{w:World}{v:Value}{bs:List UInt8}(h:Own B w v bs)(o:Obj):Own B (w.alloc o) v bs:=World.ownsRow.alloc h o
theorem Own.snoc {B:Nat}{w:World}{v:Value}{bs:List UInt8}{b:UInt8}(h:w.ownsRow B 5 1 v (bs.length+1) (Lib.byteCells bs++[.int .u8 (b.toNat:Int)])):Own B w v (bs++[b]):=by
 unfold Own
 rw[List.length_append,Lib.byteCells_append]
 exact h
def pre (s:ByteArray)(k:Nat):List UInt8:=s.data.toList.take k
theorem Gx.of_nx {B:Nat}{w w':World}(h:Nx w w')(hB:B<=w.heap.size):Gx B w w':=
 ⟨Below.mono h hB,λk o hk _ _=>(h.block k (Array.getElem?_eq_some_iff.1 hk).1).trans hk⟩
theorem Own.next {B:Nat}{w w':World}{v:Value}{bs:List UInt8}(h:Own B w v bs)(k:Nx w w'):Own B w' v bs:=by
 obtain⟨h1,h2⟩:=h
 refine⟨h1,?_⟩
 rcases h2 with h2|⟨g,cap,cur,hv,hg,hh,r⟩
 ·exact Or.inl h2
 ·exact Or.inr ⟨g,cap,cur,hv,hg,(k.block g (Array.getElem?_eq_some_iff.1 hh).1).trans hh,r⟩
def Ji (B:Nat)(w:World)(v:Value)(zs:List Int):Prop:=
 Jl 0 w v zs.length λb off i=>(b<B\/∃c t fz,t≠5/\w.heap[b]?=some (.cells c t fz))/\w.cell? ⟨b,off+i,none⟩=some (.int .i64 (iat zs i))
theorem Ji.keep {B:Nat}{w w':World}{v:Value}{zs:List Int}(h:Ji B w v zs)(k:Gx B w w'):Ji B w' v zs:=
 Jl.mono h (Nat.le_refl _) k.1.size λb off hb hs i hi hc=>by
  obtain⟨h1,h2⟩:=hc
  rcases h1 with h1|⟨c,t,fz,ht,hh⟩
  ·exact⟨Or.inl h1,(k.1.cell (p:=⟨b,off+i,none⟩) h1).trans h2⟩
  ·have e:=k.2 b _ hh (by simp) (λc' fz' e=>ht (by simp at e;exact e.2.1))
   exact⟨Or.inr ⟨c,t,fz,ht,e⟩,(World.cell?_of_block (w:=w) (a:=⟨b,off+i,none⟩) (e.trans hh.symm)).trans h2⟩
theorem Qr.nums {B0 B:Nat}{w:World}{v:Value}{zs:List Int}(h:Qr B0 w v zs)(hB:w.heap.size<=B):Ji B w v zs:=
 Jl.mono h (Nat.zero_le _) (Nat.le_refl _) λb off hb hs i hi hc=>⟨Or.inl (by omega),hc⟩
def Q6 (zs:List Int):Nat->List UInt8
 |0=>[]
 |k+1=>Q6 zs k++(32::Lib.decDigits (iat zs k).toNat)
def small (zs:List Int):Prop:=∀i,i<zs.length->0<=iat zs i/\iat zs i<=1048576
theorem Qq {zs:List Int}(h:small zs)(k:Nat)(hk:k<=zs.length):(Q6 zs k).length<=8*k:=by
 induction k with
 |zero=>simp[Q6]
 |succ k ih=>
  have h1:=ih (by omega)
  have h2:(Lib.decDigits (iat zs k).toNat).length<=7:=Qc7 6 _ (by have:=h k (by omega);omega)
  simp only[Q6,List.length_append,List.length_cons]
  omega
end Go.Proofs.YtmmolhlihhdkcaaGreatDoor
