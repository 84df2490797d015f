import Derived.Test.YtmmolhlihhdkcaaGreatDoorBRoE
import Derived.Test.YtmmolhlihhdkcaaGreatDoorBRoL
namespace Go.Proofs.YtmmolhlihhdkcaaGreatDoor
open Go.RowKit
set_option linter.unusedVariables false
set_option maxRecDepth 1000000
set_option maxHeartbeats 16000000
def tlN (N:Nt):Nat->Nat:=tlE (E1 N)
def Qcu (N:Nt):Rd:=⟨N.nodes,E1 N,(List.range (N.nodes.length+1)).map (λq=>((cL (tlN N) q (mN N):Nat):Int)),(Q76 (tlN N) (mN N) (N.nodes.length+1)).map (λe:Nat=>(e:Int))⟩
def Vb (N:Nt):Rd:=if Qn N then Qcu N else ⟨[],[],[],[]⟩
def Kq (B:Nat)(w:World)(v0 v1 v2 v3:Value)(R:Rd):Prop:=
 (v0=.slice none 0 0/\v1=.slice none 0 0/\v2=.slice none 0 0/\v3=.slice none 0 0/\R=⟨[],[],[],[]⟩) \/
 ∃gF gO cF cO,v2=.slice (some ⟨gF,0,none⟩) R.first.length cF/\v3=.slice (some ⟨gO,0,none⟩) R.out.length cO/\gF<gO/\Vx B w v1 R.edges/\(∀g,v1.ownBlock=some g->g<gF)/\RW w gF R.first.length (iat R.first)/\RW w gO R.out.length (iat R.out)/\Qb (gO+1) w v0 R.nodes/\B<=gF/\R.first.length<=maxLen/\R.out.length<=maxLen
theorem Qb.slice {B:Nat}{w:World}{v:Value}{zs:List Int}(h:Qb B w v zs):∃a c,v=.slice a zs.length c:=by
 rcases h.2 with⟨rfl,h2⟩|⟨g,cap,cur,rfl,_⟩
 ·exact⟨none,0,by rw[h2]⟩
 ·exact⟨_,_,rfl⟩
theorem Qb.base {B B':Nat}{w:World}{v:Value}{zs:List Int}(h:Qb B w v zs)(hB:B'<=B):Qb B' w v zs:=by
 obtain⟨h1,h2⟩:=h
 refine⟨h1,?_⟩
 rcases h2 with h2|⟨g,cap,cur,hv,hg,r⟩
 ·exact Or.inl h2
 ·exact Or.inr ⟨g,cap,cur,hv,by omega,r⟩
theorem J6 {B:Nat}{w:World}{ty sz:Nat}{v:Value}{n:Nat}{xs:List Value}(h:w.ownsRow B ty sz v n xs){g:Nat}(hg:g<B)(o:Nat)(u:Value):(w.setCell ⟨g,o,none⟩ u).ownsRow B ty sz v n xs:=by
 obtain⟨h1,h2⟩:=h
 refine⟨h1,?_⟩
 rcases h2 with h2|⟨g',cap,cur,hv,hg',hh,r⟩
 ·exact Or.inl h2
 ·exact Or.inr ⟨g',cap,cur,hv,hg',(Below.heap_setCell _ _ _ _ (by simp;omega)).trans hh,r⟩
theorem Vx.base {B B':Nat}{w:World}{v:Value}{es:List Eg}(h:Vx B w v es)(hB:B'<=B):Vx B' w v es:=by
 obtain⟨h1,h2⟩:=h
 refine⟨h1,?_⟩
 rcases h2 with h2|⟨g,cap,cur,hv,hg,r⟩
 ·exact Or.inl h2
 ·exact Or.inr ⟨g,cap,cur,hv,by omega,r⟩
theorem Kq.held {B:Nat}{w:World}{v0 v1 v2 v3:Value}{R:Rd}(h:Kq B w v0 v1 v2 v3 R):Y8 B w v0 v1 v2 v3 R:=by
 rcases h with⟨rfl,rfl,rfl,rfl,rfl⟩|⟨gF,gO,cF,cO,rfl,rfl,h1,h2,h3,h4,h5,h6,h7,h8,h9⟩
 ·exact⟨⟨_,_,rfl,by simp[maxLen],λh=>absurd h (Nat.lt_irrefl _)⟩,⟨_,_,rfl,by simp[maxLen],λh=>absurd h (Nat.lt_irrefl _)⟩,⟨_,_,rfl,by simp[maxLen],λh=>absurd h (Nat.lt_irrefl _)⟩,⟨_,_,rfl,by simp[maxLen],λh=>absurd h (Nat.lt_irrefl _)⟩⟩
 ·exact⟨(h6.base (by omega)).held,h2.held,h4.held rfl h8 (λi _=>rfl) h7,h5.held rfl h9 (λi _=>rfl) (by omega)⟩
theorem Qco {N:Nt}(h:U5 N){e:Nat}(he:e<(E1 N).length):0<=(eat (E1 N) e).tail/\(eat (E1 N) e).tail<N.nodes.length:=by
 rw[Tc] at he
 obtain⟨i,j,q,hi,hj,hq,he1⟩:=Ib N.ways.length he
 obtain⟨_,a1⟩:=Ye hi hj hq
 rw[<-he1] at a1
 have hm:=Z1 (λi j=>rfl) h.asc
 have hp:∀t,Vw N.nodes t=true->pos N.nodes t<N.nodes.length:=by
  intro t ht
  obtain⟨k,hk,rfl⟩:=Q0s ht
  rw[Q95 hm hk]
  exact hk
 have hl:=h.len i hi
 have hns:nsN N i=(wat N.ways i).weights.length:=rfl
 have p0:=hp _ (h.has i j hi (by omega))
 have p1:=hp _ (h.has i (j+1) hi (by omega))
 rw[a1]
 split
 ·exact⟨by simp[fwd],by simp[fwd];omega⟩
 ·split
  ·exact⟨by simp[fwd],by simp[fwd];omega⟩
  ·exact⟨by simp[bwd],by simp[bwd];omega⟩
end Go.Proofs.YtmmolhlihhdkcaaGreatDoor
namespace Go.Proofs.YtmmolhlihhdkcaaGreatDoor
set_option linter.unusedVariables false
set_option maxHeartbeats 16000000
section
end
section
variable (es:List Eg)
def tlL (l:List Nat):Int:=(eat es (l.headD 0)).tail
def hdL (l:List Nat):Int:=(eat es (l.getLastD 0)).head
def growL (ls ps:List (List Nat)):List (List Nat):=ls.flatMap λl=>(ps.filter λp=>decide (hdL es l=tlL es p)).map λp=>l++p
def Qc2 (ls:List (List Nat))(ts:List (List (List Nat))):List (List Nat):=ts.foldl (growL es) ls
end
end Go.Proofs.YtmmolhlihhdkcaaGreatDoor
namespace Go.Proofs.YtmmolhlihhdkcaaGreatDoor
open Go.RowKit
set_option linter.unusedVariables false
set_option maxRecDepth 1000000
set_option maxHeartbeats 16000000
theorem SI.keep {w w':World}{v:Value}{n:Nat}{F:Nat->Int}(h:SI w v n F)(k:∀g,v.ownBlock=some g->w'.heap[g]?=w.heap[g]?):SI w' v n F:=by
 obtain⟨a,c,rfl,hk⟩:=h
 refine⟨a,c,rfl,λh0=>?_⟩
 obtain⟨g,rfl,hr⟩:=hk h0
 exact⟨g,rfl,hr.of_block (k g rfl)⟩
theorem SE.keep {w w':World}{v:Value}{n:Nat}{V:Nat->Nat->Value}(h:SE w v n V)(k:∀g,v.ownBlock=some g->w'.heap[g]?=w.heap[g]?):SE w' v n V:=by
 obtain⟨a,c,rfl,hk⟩:=h
 refine⟨a,c,rfl,λh0=>?_⟩
 obtain⟨g,rfl,cs,hb,r⟩:=hk h0
 exact⟨g,rfl,cs,(k g rfl).trans hb,r⟩
theorem Vx.se {B:Nat}{w:World}{v:Value}{es:List Eg}(h:Vx B w v es):SE w v es.length (λi j=>((Vl (eat es i))[j]?).getD (.bool false)):=by
 rcases h.2 with⟨rfl,h2⟩|⟨g,cap,cur,rfl,hg,hh,hc,hm,hs,ht⟩
 ·rw[h2];exact⟨none,0,rfl,λh=>absurd h (Nat.lt_irrefl _)⟩
 ·refine⟨_,_,rfl,λ_=>⟨g,rfl,cur,hh,by rw[hs];exact Nat.mul_le_mul_right 7 hc,λi j hi hj=>?_⟩⟩
  have h3:(cur.toList.take (es.length*7))[i*7+j]?=(Xo es)[i*7+j]?:=by rw[ht]
  rw[List.getElem?_take_of_lt (by omega),Al hi hj] at h3
  rw[<-Array.getElem?_toList,h3]
  have:j<(Vl (eat es i)).length:=hj
  show(Vl (eat es i))[j]?=some (((Vl (eat es i))[j]?).getD (.bool false))
  rw[List.getElem?_eq_getElem this]
  rfl
theorem Qb.si {B:Nat}{w:World}{v:Value}{zs:List Int}(h:Qb B w v zs):SI w v zs.length (iat zs):=by
 rcases h.opened with⟨rfl,h2⟩|⟨g,cap,rfl,hg,hm,hr⟩
 ·rw[h2];exact⟨none,0,rfl,λh=>absurd h (Nat.lt_irrefl _)⟩
 ·exact⟨_,_,rfl,λ_=>⟨g,rfl,hr⟩⟩
structure Four (B:Nat)(w:World)(v0 v1 v2 v3:Value)(n0 n1 n2 n3:Nat)(F0:Nat->Int)(V:Nat->Nat->Value)(F2 F3:Nat->Int):Prop where
 s0:SI w v0 n0 F0
 s1:SE w v1 n1 V
 s2:SI w v2 n2 F2
 s3:SI w v3 n3 F3
 b0:∀g,v0.ownBlock=some g->B<=g/\g<w.heap.size
 b1:∀g,v1.ownBlock=some g->B<=g/\g<w.heap.size
 b2:∀g,v2.ownBlock=some g->B<=g/\g<w.heap.size
 b3:∀g,v3.ownBlock=some g->B<=g/\g<w.heap.size
 d01:∀g,v0.ownBlock=some g->v1.ownBlock≠some g
 d02:∀g,v0.ownBlock=some g->v2.ownBlock≠some g
 d03:∀g,v0.ownBlock=some g->v3.ownBlock≠some g
 d12:∀g,v1.ownBlock=some g->v2.ownBlock≠some g
 d13:∀g,v1.ownBlock=some g->v3.ownBlock≠some g
 d23:∀g,v2.ownBlock=some g->v3.ownBlock≠some g
theorem Ql {B:Nat}{w:World}{ty sz:Nat}{v:Value}{n:Nat}{xs:List Value}(h:w.ownsRow B ty sz v n xs):∀g,v.ownBlock=some g->B<=g/\g<w.heap.size:=by
 intro g hg
 rcases h.2 with⟨rfl,_⟩|⟨g',cap,cur,rfl,hb,hh,_⟩
 ·simp[Value.ownBlock] at hg
 ·simp[Value.ownBlock] at hg;subst hg;exact⟨hb,(Array.getElem?_eq_some_iff.1 hh).1⟩
theorem Kq.four {B:Nat}{w:World}{v0 v1 v2 v3:Value}{R:Rd}(h:Kq B w v0 v1 v2 v3 R):∃F0 V F2 F3,Four B w v0 v1 v2 v3 R.nodes.length R.edges.length R.first.length R.out.length F0 V F2 F3:=by
 rcases h with⟨rfl,rfl,rfl,rfl,rfl⟩|⟨gF,gO,cF,cO,rfl,rfl,h1,h2,h3,h4,h5,h6,h7,h8,h9⟩
 ·refine⟨λ_=>0,λ_ _=>.bool false,λ_=>0,λ_=>0,⟨none,0,rfl,λh=>absurd h (Nat.lt_irrefl _)⟩,⟨none,0,rfl,λh=>absurd h (Nat.lt_irrefl _)⟩,⟨none,0,rfl,λh=>absurd h (Nat.lt_irrefl _)⟩,⟨none,0,rfl,λh=>absurd h (Nat.lt_irrefl _)⟩,?_,?_,?_,?_,?_,?_,?_,?_,?_,?_⟩<;>intro g hg<;>simp[Value.ownBlock] at hg
 ·have z4:=h4.lt
  have z5:=h5.lt
  have l0:=Ql h6
  have l1:=Ql h2
  have e2:(Value.slice (some ⟨gF,0,none⟩) R.first.length cF).ownBlock=some gF:=rfl
  have e3:(Value.slice (some ⟨gO,0,none⟩) R.out.length cO).ownBlock=some gO:=rfl
  refine⟨_,_,_,_,h6.si,h2.se,⟨_,_,rfl,λ_=>⟨gF,rfl,h4⟩⟩,⟨_,_,rfl,λ_=>⟨gO,rfl,h5⟩⟩,?_,l1,?_,?_,?_,?_,?_,?_,?_,?_⟩
  ·intro g hg;have:=l0 g hg;omega
  ·intro g hg;rw[e2] at hg;have:=Option.some.inj hg;omega
  ·intro g hg;rw[e3] at hg;have:=Option.some.inj hg;omega
  ·intro g hg hg';have:=l0 g hg;have:=h3 g hg';omega
  ·intro g hg hg';rw[e2] at hg';have:=l0 g hg;have:=Option.some.inj hg';omega
  ·intro g hg hg';rw[e3] at hg';have:=l0 g hg;have:=Option.some.inj hg';omega
  ·intro g hg hg';rw[e2] at hg';have:=h3 g hg;have:=Option.some.inj hg';omega
  ·intro g hg hg';rw[e3] at hg';have:=h3 g hg;have:=Option.some.inj hg';omega
  ·intro g hg hg';rw[e2] at hg;rw[e3] at hg';have:=Option.some.inj hg;have:=Option.some.inj hg';omega
end Go.Proofs.YtmmolhlihhdkcaaGreatDoor
