import Derived.Test.YtphiaobccollhaaGreatQRoD
import Derived.Test.YtphiaobccollhaaGreatQImJ
import Derived.Deep.CutRange
namespace Go.Proofs.YtphiaobccollhaaGreat
open Go.RowKit
set_option linter.unusedVariables false
set_option maxRecDepth 1000000
set_option maxHeartbeats 16000000
structure Pi (N:Nt):Prop where
 asc:Qeu N.nodes=true
 c0:N.nodes.length<=2000
 c1:N.ways.length<=2000
 ed:Wj N.ways N.ways.length<=4000
 len:∀i,i<N.ways.length->(wat N.ways i).nodes.length=(wat N.ways i).weights.length+1
 seg:∀i,i<N.ways.length->(wat N.ways i).weights.length<=100
 has:∀i j,i<N.ways.length->j<(wat N.ways i).nodes.length->Ta N.nodes (iat (wat N.ways i).nodes j)=true
theorem Jf {n:Nat}{p:Nat->Bool}(h:Qo n p=true){i:Nat}(hi:i<n):p i=true:=by
 unfold Qo at h;rw[List.all_eq_true] at h;exact h i (List.mem_range.2 hi)
theorem Uw {N:Nt}(h:J1 N=true):Pi N:=by
 simp only[J1,Gx,zG,decide_eq_true_eq] at h
 obtain⟨⟨c0,c1,ed,c2,c3⟩,hu,⟨ha,hn⟩,⟨hw,_⟩,⟨hr,_⟩,ht,_⟩:=h
 have aw:∀i,i<N.ways.length->(wat N.ways i).nodes.length=(wat N.ways i).weights.length+1/\(wat N.ways i).weights.length<=100/\∀j,j<(wat N.ways i).nodes.length->Ta N.nodes (iat (wat N.ways i).nodes j)=true:=λi hi=>by
  have:=Jf hw hi
  simp only[Jg,Yn,zG,decide_eq_true_eq] at this
  obtain⟨⟨⟨⟨⟨g0,g1⟩,g2⟩,g3⟩,g4⟩,g5⟩:=this
  exact⟨g3,g2,λj hj=>Jf g5 hj⟩
 exact⟨ha,c0,c1,ed,λi hi=>(aw i hi).1,λi hi=>(aw i hi).2.1,λi j hi hj=>(aw i hi).2.2 j hj⟩
theorem Qae (N:Nt)(k:Nat):st (nsN N) (bnN N) k=Wj N.ways k:=by
 induction k with
 |zero=>rfl
 |succ k ih=>rw[st,Wj,ih];unfold nsN bnN Q12;split<;>omega
theorem Qcw {N:Nt}(h:Pi N){k q:Nat}(hk:k<N.ways.length)(hq:q<=(wat N.ways k).weights.length):(Za (sg1 N) k (lay (sg1 N) (nsN N) k) q).length<=4000:=by
 rw[Ts (Pm N),Ps (Pm N)]
 have h1:=Q72 (nsN N) (bnN N) (k+1) (N.ways.length-(k+1))
 rw[show k+1+(N.ways.length-(k+1))=N.ways.length by omega,Qae N N.ways.length,st] at h1
 have h2:bnN N k*q<=bnN N k*nsN N k:=Nat.mul_le_mul_left _ hq
 have:=h.ed
 omega
theorem Uj {B:Nat}{w w':World}{a:Option Addr}{n c:Nat}{zs:List Int}(h:Qi B w (sL a n c) zs)(k:Below w.heap.size w w'){i:Nat}(hi:i<n):∃b off,a=some (aD b off)/\b<w.heap.size/\w'.cell? (aD b (off+i))=some (iV (iat zs i)):=by
 obtain⟨a',cap,e,_,hk⟩:=h
 simp only[zC] at e
 obtain⟨rfl,rfl,rfl⟩:=e
 obtain⟨b,off,rfl,_,hb,hc⟩:=hk (by omega)
 exact⟨b,off,rfl,hb,Q2 k hb (hc i hi)⟩
theorem Q42 {B:Nat}{w:World}{a:Option Addr}{n c:Nat}{zs:List Int}(h:Qi B w (sL a n c) zs):zs.length=n:=by
 obtain⟨a',cap,e,_,hk⟩:=h
 simp only[zC] at e
 exact e.2.1.symm
theorem Yz.slice {B:Nat}{w:World}{v:Value}{es:List Eg}(h:Yz B w v es):∃a c,v=sL a es.length c/\es.length<=maxLen:=by
 rcases h.2 with⟨rfl,h2⟩|⟨g,cap,cur,rfl,_,_,h3,h4,_⟩
 ·exact⟨none,0,by rw[h2],by rw[h2];simp[maxLen]⟩
 ·exact⟨_,_,rfl,by omega⟩
theorem Qn (w:World)(cs:Array Value)(t:TypeId)(l:List Value)(h:cs.toList=l)(j:Nat)(u:Value)(hj:l[j]?=some u):(w.alloc (.cells cs t)).cell? (((aD w.heap.size 0):Addr).add j)=some u:=by
 have e:(w.alloc (.cells cs t)).heap[w.heap.size]?=some (.cells cs t (0,0)):=by show(w.heap.push _)[w.heap.size]?=_;simp
 have hc:cs[j]?=some u:=by rw[<-zN,h];exact hj
 rw[Addr.add_lit]
 simp only[World.cell?,e]
 simpa using hc
theorem Af (x:Eg):∀u∈Ya x,u.oneCell'=true:=by
 intro u hu
 simp only[Ya,List.mem_cons,List.not_mem_nil,or_false] at hu
 rcases hu with rfl|rfl|rfl|rfl|rfl|rfl|rfl<;>rfl
theorem Q8b (sg:Nat->Nat->Nat->List Eg)(i:Nat)(L:List Eg)(j:Nat):Za sg i L (j+1)=Za sg i L j++sg i (Za sg i L j).length j:=rfl
theorem Q93 (B:Nat)(w:World)(cs:Array Value)(cap:Nat)(hB:B<=w.heap.size)(hc:cap<=maxLen)(hs:cs.size=cap*7):Yz B (w.alloc (.cells cs 117)) (sL (sA w.heap.size) 0 cap) []:=
 ⟨rfl,.inr ⟨w.heap.size,cap,cs,rfl,hB,by show(w.heap.push _)[w.heap.size]?=_;simp,nZ,hc,hs,by simp[Yx]⟩⟩
end Go.Proofs.YtphiaobccollhaaGreat
