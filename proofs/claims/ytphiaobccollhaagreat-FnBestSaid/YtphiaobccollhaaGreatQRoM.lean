import Derived.Test.YtphiaobccollhaaGreatQRoE
import Derived.Test.YtphiaobccollhaaGreatQRoL
namespace Go.Proofs.YtphiaobccollhaaGreat
open Go.RowKit
set_option linter.unusedVariables false
set_option maxRecDepth 1000000
set_option maxHeartbeats 16000000
variable {B:Nat}{w:World}{v:Value}
def tlN (N:Nt):Nat->Nat:=tlE (E1 N)
def Ux (N:Nt):Rd:=⟨N.nodes,E1 N,(List.range (N.nodes.length+1)).map (λq=>((cL (tlN N) q (mN N):Nat):Int)),(Q94 (tlN N) (mN N) (N.nodes.length+1)).map (λe:Nat=>(e:Int))⟩
def V4 (N:Nt):Rd:=if J1 N then Ux N else ⟨[],[],[],[]⟩
def Q2s (B:Nat)(w:World)(v0 v1 v2 v3:Value)(R:Rd):Prop:=
 (v0=sN/\v1=sN/\v2=sN/\v3=sN/\R=⟨[],[],[],[]⟩) \/
 ∃gF gO cF cO,v2=sL (sA gF) R.first.length cF/\v3=sL (sA gO) R.o.length cO/\gF<gO/\Yz B w v1 R.edges/\(∀g,v1.ownBlock=some g->g<gF)/\RW w gF R.first.length (iat R.first)/\RW w gO R.o.length (iat R.o)/\Q5 (gO+1) w v0 R.nodes/\B<=gF/\R.first.length<=maxLen/\R.o.length<=maxLen
theorem Q5.slice {zs:List Int}(h:Q5 B w v zs):∃a c,v=sL a zs.length c:=by
 rcases h.2 with⟨rfl,h2⟩|⟨g,cap,cur,rfl,_⟩
 ·exact⟨none,0,by rw[h2]⟩
 ·exact⟨_,_,rfl⟩
theorem Q5.base {B':Nat}{zs:List Int}(h:Q5 B w v zs)(hB:B'<=B):Q5 B' w v zs:=by
 obtain⟨h1,h2⟩:=h
 refine⟨h1,?_⟩
 rcases h2 with h2|⟨g,cap,cur,hv,hg,r⟩
 ·exact oL h2
 ·exact oR ⟨g,cap,cur,hv,by omega,r⟩
theorem Qc {ty sz:Nat}{n:Nat}{xs:List Value}(h:w.ownsRow B ty sz v n xs){g:Nat}(hg:g<B)(o:Nat)(u:Value):(w.setCell (aD g o) u).ownsRow B ty sz v n xs:=by
 obtain⟨h1,h2⟩:=h
 refine⟨h1,?_⟩
 rcases h2 with h2|⟨g',cap,cur,hv,hg',hh,r⟩
 ·exact oL h2
 ·exact oR ⟨g',cap,cur,hv,hg',(Below.heap_setCell _ _ _ _ (by simp;omega)).trans hh,r⟩
theorem Q2s.held {v0 v1 v2 v3:Value}{R:Rd}(h:Q2s B w v0 v1 v2 v3 R):Vy B w v0 v1 v2 v3 R:=by
 rcases h with⟨rfl,rfl,rfl,rfl,rfl⟩|⟨gF,gO,cF,cO,rfl,rfl,h1,h2,h3,h4,h5,h6,h7,h8,h9⟩
 ·exact⟨⟨_,_,rfl,by simp[maxLen],λh=>absurd h (yE _)⟩,⟨_,_,rfl,by simp[maxLen],λh=>absurd h (yE _)⟩,⟨_,_,rfl,by simp[maxLen],λh=>absurd h (yE _)⟩,⟨_,_,rfl,by simp[maxLen],λh=>absurd h (yE _)⟩⟩
 ·exact⟨(h6.base (by omega)).held,h2.held,h4.held rfl h8 (λi _=>rfl) h7,h5.held rfl h9 (λi _=>rfl) (by omega)⟩
theorem Qf3 {N:Nt}(h:Pi N){e:Nat}(he:e<(E1 N).length):0<=(eat (E1 N) e).tail/\(eat (E1 N) e).tail<N.nodes.length:=by
 rw[Ti] at he
 obtain⟨i,j,q,hi,hj,hq,he1⟩:=Kn N.ways.length he
 obtain⟨_,a1⟩:=Yc hi hj hq
 rw[<-he1] at a1
 have hm:=Ah (λi j=>rfl) h.asc
 have hp:∀t,Ta N.nodes t=true->pos N.nodes t<N.nodes.length:=by
  intro t ht
  obtain⟨k,hk,rfl⟩:=Q26 ht
  rw[Qar hm hk]
  exact hk
 have hl:=h.len i hi
 have hns:nsN N i=(wat N.ways i).weights.length:=rfl
 have p0:=hp _ (h.has i j hi (by omega))
 have p1:=hp _ (h.has i (j+1) hi (by omega))
 rw[a1]
 split
 ·exact⟨by simp[fwd],by simp[fwd];omega⟩
 ·split
  ·exact⟨by simp[fwd],by simp[fwd];omega⟩
  ·exact⟨by simp[bwd],by simp[bwd];omega⟩
section
end
section
variable (es:List Eg)
def tlL (l:List Nat):Int:=(eat es (l.headD 0)).tail
def hdL (l:List Nat):Int:=(eat es (l.getLastD 0)).head
def Ve (ls ps:List (List Nat)):List (List Nat):=ls.flatMap λl=>(ps.filter λp=>decide (hdL es l=tlL es p)).map λp=>l++p
theorem Q0z (ls ls' ps:List (List Nat)):Ve es (ls++ls') ps=Ve es ls ps++Ve es ls' ps:=by simp[Ve]
def Q7u (ls:List (List Nat))(ts:List (List (List Nat))):List (List Nat):=ts.foldl (Ve es) ls
end
theorem Yz.se {es:List Eg}(h:Yz B w v es):SE w v es.length (λi j=>((Ya (eat es i))[j]?).getD (.bool false)):=by
 rcases h.2 with⟨rfl,h2⟩|⟨g,cap,cur,rfl,hg,hh,hc,hm,hs,ht⟩
 ·rw[h2];exact⟨none,0,rfl,λh=>absurd h (yE _)⟩
 ·refine⟨_,_,rfl,λ_=>⟨g,rfl,cur,hh,by rw[hs];exact Nat.mul_le_mul_right 7 hc,λi j hi hj=>?_⟩⟩
  have h3:(cur.toList.take (es.length*7))[i*7+j]?=(Yx es)[i*7+j]?:=by rw[ht]
  rw[zQ (by omega),Q13 hi hj] at h3
  rw[<-zN,h3]
  have:j<(Ya (eat es i)).length:=hj
  show(Ya (eat es i))[j]?=some (((Ya (eat es i))[j]?).getD (.bool false))
  rw[zH this]
  rfl
theorem Q7 {ty sz:Nat}{n:Nat}{xs:List Value}(h:w.ownsRow B ty sz v n xs):∀g,v.ownBlock=some g->B<=g/\g<w.heap.size:=by
 intro g hg
 rcases h.2 with⟨rfl,_⟩|⟨g',cap,cur,rfl,hb,hh,_⟩
 ·simp[Value.ownBlock] at hg
 ·simp[Value.ownBlock] at hg;subst hg;exact⟨hb,(Array.getElem?_eq_some_iff.1 hh).1⟩
end Go.Proofs.YtphiaobccollhaaGreat
