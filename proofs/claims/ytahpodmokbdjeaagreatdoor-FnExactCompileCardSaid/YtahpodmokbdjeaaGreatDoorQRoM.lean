import Derived.Test.YtahpodmokbdjeaaGreatDoorQRoH
import Derived.Test.YtahpodmokbdjeaaGreatDoorQRoL
namespace Go.Proofs.YtahpodmokbdjeaaGreatDoor
open Go.RowKit
set_option linter.unusedVariables false
set_option maxRecDepth 1000000
set_option maxHeartbeats 16000000
def tlN (N:Nt):Nat->Nat:=tlE (E1 N)
def Ul (N:Nt):Rd:=⟨N.nodes,E1 N,(List.range (N.nodes.length+1)).map (λq=>((cL (tlN N) q (mN N):Nat):Int)),(Q9x (tlN N) (mN N) (N.nodes.length+1)).map (λe:Nat=>(e:Int))⟩
def Iw (N:Nt):Rd:=if Qe N then Ul N else ⟨[],[],[],[]⟩
def Q31 (B:Nat)(w:World)(v0 v1 v2 v3:Value)(R:Rd):Prop:=
 (v0=sN/\v1=sN/\v2=sN/\v3=sN/\R=⟨[],[],[],[]⟩) \/
 ∃gF gO cF cO,v2=sL (sA gF) R.first.length cF/\v3=sL (sA gO) R.o.length cO/\gF<gO/\Vc B w v1 R.edges/\(∀g,v1.ownBlock=some g->g<gF)/\RW w gF R.first.length (iat R.first)/\RW w gO R.o.length (iat R.o)/\Qd (gO+1) w v0 R.nodes/\B<=gF/\R.first.length<=maxLen/\R.o.length<=maxLen
theorem Qd.slice {B:Nat}{w:World}{v:Value}{zs:List Int}(h:Qd B w v zs):∃a c,v=sL a zs.length c:=by
 rcases h.2 with⟨rfl,h2⟩|⟨g,cap,cur,rfl,_⟩
 ·exact⟨none,0,by rw[h2]⟩
 ·exact⟨_,_,rfl⟩
theorem Qd.base {B B':Nat}{w:World}{v:Value}{zs:List Int}(h:Qd B w v zs)(hB:B'<=B):Qd B' w v zs:=by
 obtain⟨h1,h2⟩:=h
 refine⟨h1,?_⟩
 rcases h2 with h2|⟨g,cap,cur,hv,hg,r⟩
 ·exact oL h2
 ·exact oR ⟨g,cap,cur,hv,by omega,r⟩
theorem Qc {B:Nat}{w:World}{ty sz:Nat}{v:Value}{n:Nat}{xs:List Value}(h:w.ownsRow B ty sz v n xs){g:Nat}(hg:g<B)(o:Nat)(u:Value):(w.setCell (aD g o) u).ownsRow B ty sz v n xs:=by
 obtain⟨h1,h2⟩:=h
 refine⟨h1,?_⟩
 rcases h2 with h2|⟨g',cap,cur,hv,hg',hh,r⟩
 ·exact oL h2
 ·exact oR ⟨g',cap,cur,hv,hg',(Below.heap_setCell _ _ _ _ (by simp;omega)).trans hh,r⟩
theorem Q31.held {B:Nat}{w:World}{v0 v1 v2 v3:Value}{R:Rd}(h:Q31 B w v0 v1 v2 v3 R):Zq B w v0 v1 v2 v3 R:=by
 rcases h with⟨rfl,rfl,rfl,rfl,rfl⟩|⟨gF,gO,cF,cO,rfl,rfl,h1,h2,h3,h4,h5,h6,h7,h8,h9⟩
 ·exact⟨⟨_,_,rfl,by simp[maxLen],λh=>absurd h (yK _)⟩,⟨_,_,rfl,by simp[maxLen],λh=>absurd h (yK _)⟩,⟨_,_,rfl,by simp[maxLen],λh=>absurd h (yK _)⟩,⟨_,_,rfl,by simp[maxLen],λh=>absurd h (yK _)⟩⟩
 ·exact⟨(h6.base (by omega)).held,h2.held,h4.held rfl h8 (λi _=>rfl) h7,h5.held rfl h9 (λi _=>rfl) (by omega)⟩
theorem Q95 {N:Nt}(h:Ua N){e:Nat}(he:e<(E1 N).length):0<=(eat (E1 N) e).tail/\(eat (E1 N) e).tail<N.nodes.length:=by
 rw[Wb] at he
 obtain⟨i,j,q,hi,hj,hq,he1⟩:=Tw N.ways.length he
 obtain⟨_,a1⟩:=Yb hi hj hq
 rw[<-he1] at a1
 have hm:=Uq (λi j=>rfl) h.asc
 have hp:∀t,Vs N.nodes t=true->pos N.nodes t<N.nodes.length:=by
  intro t ht
  obtain⟨k,hk,rfl⟩:=Q2j ht
  rw[Q23 hm hk]
  exact hk
 have hl:=h.len i hi
 have hns:nsN N i=(wat N.ways i).weights.length:=rfl
 have p0:=hp _ (h.has i j hi (by omega))
 have p1:=hp _ (h.has i (j+1) hi (by omega))
 rw[a1]
 split
 ·exact⟨by simp[fwd],by simp[fwd];omega⟩
 ·split
  ·exact⟨by simp[fwd],by simp[fwd];omega⟩
  ·exact⟨by simp[bwd],by simp[bwd];omega⟩
theorem SI.keep {w w':World}{v:Value}{n:Nat}{F:Nat->Int}(h:SI w v n F)(k:∀g,v.ownBlock=some g->w'.heap[g]?=w.heap[g]?):SI w' v n F:=by
 obtain⟨a,c,rfl,hk⟩:=h
 refine⟨a,c,rfl,λh0=>?_⟩
 obtain⟨g,rfl,hr⟩:=hk h0
 exact⟨g,rfl,hr.of_block (k g rfl)⟩
theorem Vc.se {B:Nat}{w:World}{v:Value}{es:List Eg}(h:Vc B w v es):SE w v es.length (λi j=>((Vg (eat es i))[j]?).getD (.bool false)):=by
 rcases h.2 with⟨rfl,h2⟩|⟨g,cap,cur,rfl,hg,hh,hc,hm,hs,ht⟩
 ·rw[h2];exact⟨none,0,rfl,λh=>absurd h (yK _)⟩
 ·refine⟨_,_,rfl,λ_=>⟨g,rfl,cur,hh,by rw[hs];exact Nat.mul_le_mul_right 7 hc,λi j hi hj=>?_⟩⟩
  have h3:(cur.toList.take (es.length*7))[i*7+j]?=(Yp es)[i*7+j]?:=by rw[ht]
  rw[zT (by omega),Q1d hi hj] at h3
  rw[<-zQ,h3]
  have:j<(Vg (eat es i)).length:=hj
  show(Vg (eat es i))[j]?=some (((Vg (eat es i))[j]?).getD (.bool false))
  rw[zJ this]
  rfl
theorem Qd.si {B:Nat}{w:World}{v:Value}{zs:List Int}(h:Qd B w v zs):SI w v zs.length (iat zs):=by
 rcases h.opened with⟨rfl,h2⟩|⟨g,cap,rfl,hg,hm,hr⟩
 ·rw[h2];exact⟨none,0,rfl,λh=>absurd h (yK _)⟩
 ·exact⟨_,_,rfl,λ_=>⟨g,rfl,hr⟩⟩
theorem Q5 {B:Nat}{w:World}{ty sz:Nat}{v:Value}{n:Nat}{xs:List Value}(h:w.ownsRow B ty sz v n xs):∀g,v.ownBlock=some g->B<=g/\g<w.heap.size:=by
 intro g hg
 rcases h.2 with⟨rfl,_⟩|⟨g',cap,cur,rfl,hb,hh,_⟩
 ·simp[Value.ownBlock] at hg
 ·simp[Value.ownBlock] at hg;subst hg;exact⟨hb,(Array.getElem?_eq_some_iff.1 hh).1⟩
end Go.Proofs.YtahpodmokbdjeaaGreatDoor
