import Derived.Test.YtmmolhlihhdkcaaGreatDoorBRoD
import Derived.Test.YtmmolhlihhdkcaaGreatDoorBPure
import Derived.Deep.CutRange
namespace Go.Proofs.YtmmolhlihhdkcaaGreatDoor
open Go.RowKit
set_option linter.unusedVariables false
set_option maxRecDepth 1000000
set_option maxHeartbeats 16000000
structure U5 (N:Nt):Prop where
 asc:Ys N.nodes=true
 c0:N.nodes.length<=2000
 c1:N.ways.length<=2000
 ed:edTo N.ways N.ways.length<=4000
 len:∀i,i<N.ways.length->(wat N.ways i).nodes.length=(wat N.ways i).weights.length+1
 seg:∀i,i<N.ways.length->(wat N.ways i).weights.length<=100
 has:∀i j,i<N.ways.length->j<(wat N.ways i).nodes.length->Vw N.nodes (iat (wat N.ways i).nodes j)=true
theorem Xv {n:Nat}{p:Nat->Bool}(h:Jp n p=true){i:Nat}(hi:i<n):p i=true:=by
 unfold Jp at h;rw[List.all_eq_true] at h;exact h i (List.mem_range.2 hi)
theorem Gc {N:Nt}(h:Qn N=true):U5 N:=by
 simp only[Qn,Xg,Bool.and_eq_true,decide_eq_true_eq] at h
 obtain⟨⟨c0,c1,ed,c2,c3⟩,hu,⟨ha,hn⟩,⟨hw,_⟩,⟨hr,_⟩,ht,_⟩:=h
 have aw:∀i,i<N.ways.length->(wat N.ways i).nodes.length=(wat N.ways i).weights.length+1/\(wat N.ways i).weights.length<=100/\∀j,j<(wat N.ways i).nodes.length->Vw N.nodes (iat (wat N.ways i).nodes j)=true:=λi hi=>by
  have:=Xv hw hi
  simp only[Qu,Jz,Bool.and_eq_true,decide_eq_true_eq] at this
  obtain⟨⟨⟨⟨⟨g0,g1⟩,g2⟩,g3⟩,g4⟩,g5⟩:=this
  exact⟨g3,g2,λj hj=>Xv g5 hj⟩
 exact⟨ha,c0,c1,ed,λi hi=>(aw i hi).1,λi hi=>(aw i hi).2.1,λi j hi hj=>(aw i hi).2.2 j hj⟩
theorem Q8j (N:Nt)(k:Nat):st (nsN N) (bnN N) k=edTo N.ways k:=by
 induction k with
 |zero=>rfl
 |succ k ih=>rw[st,edTo,ih];unfold nsN bnN Tz;split<;>omega
theorem Qb3 {N:Nt}(h:U5 N){k q:Nat}(hk:k<N.ways.length)(hq:q<=(wat N.ways k).weights.length):(Yh (sg1 N) k (lay (sg1 N) (nsN N) k) q).length<=4000:=by
 rw[Wf (Td N),Th (Td N)]
 have h1:=Q53 (nsN N) (bnN N) (k+1) (N.ways.length-(k+1))
 rw[show k+1+(N.ways.length-(k+1))=N.ways.length by omega,Q8j N N.ways.length,st] at h1
 have h2:bnN N k*q<=bnN N k*nsN N k:=Nat.mul_le_mul_left _ hq
 have:=h.ed
 omega
theorem T7 {B:Nat}{w w':World}{a:Option Addr}{n c:Nat}{zs:List Int}(h:Qr B w (.slice a n c) zs)(k:Below w.heap.size w w'){i:Nat}(hi:i<n):∃b off,a=some ⟨b,off,none⟩/\b<w.heap.size/\w'.cell? ⟨b,off+i,none⟩=some (.int .i64 (iat zs i)):=by
 obtain⟨a',cap,e,_,hk⟩:=h
 simp only[Value.slice.injEq] at e
 obtain⟨rfl,rfl,rfl⟩:=e
 obtain⟨b,off,rfl,_,hb,hc⟩:=hk (by omega)
 exact⟨b,off,rfl,hb,Q1 k hb (hc i hi)⟩
theorem Vx.slice {B:Nat}{w:World}{v:Value}{es:List Eg}(h:Vx B w v es):∃a c,v=.slice a es.length c/\es.length<=maxLen:=by
 rcases h.2 with⟨rfl,h2⟩|⟨g,cap,cur,rfl,_,_,h3,h4,_⟩
 ·exact⟨none,0,by rw[h2],by rw[h2];simp[maxLen]⟩
 ·exact⟨_,_,rfl,by omega⟩
def FB (w:World)(g:Nat)(x:Eg):Prop:=∃cs:Array Value,Blk w g cs/\cs.toList=Vl x
theorem FB.cell {w:World}{g:Nat}{x:Eg}(h:FB w g x){i:Nat}{v:Value}(hi:(Vl x)[i]?=some v):w.cell? ⟨g,i,none⟩=some v:=by
 obtain⟨cs,h1,h2⟩:=h
 exact h1.cell (by rw[<-Array.getElem?_toList,h2];exact hi)
theorem FB.frozen {w:World}{g:Nat}{x:Eg}(h:FB w g x)(i:Nat):w.frozen? ⟨g,i,none⟩=false:=by
 obtain⟨cs,h1,_⟩:=h
 exact h1.frozen i
theorem FB.lt {w:World}{g:Nat}{x:Eg}(h:FB w g x):g<w.heap.size:=by
 obtain⟨cs,h1,_⟩:=h
 exact h1.lt
theorem Xk (w:World)(cs:Array Value)(t:TypeId)(l:List Value)(h:cs.toList=l)(j:Nat)(u:Value)(hj:l[j]?=some u):(w.alloc (.cells cs t)).cell? ((⟨w.heap.size,0,none⟩:Addr).add j)=some u:=by
 have e:(w.alloc (.cells cs t)).heap[w.heap.size]?=some (.cells cs t (0,0)):=by show(w.heap.push _)[w.heap.size]?=_;simp
 have hc:cs[j]?=some u:=by rw[<-Array.getElem?_toList,h];exact hj
 rw[Addr.add_lit]
 simp only[World.cell?,e]
 simpa using hc
theorem E2 (x:Eg):∀u∈Vl x,u.oneCell'=true:=by
 intro u hu
 simp only[Vl,List.mem_cons,List.not_mem_nil,or_false] at hu
 rcases hu with rfl|rfl|rfl|rfl|rfl|rfl|rfl<;>rfl
theorem Q6b (sg:Nat->Nat->Nat->List Eg)(i:Nat)(L:List Eg)(j:Nat):Yh sg i L (j+1)=Yh sg i L j++sg i (Yh sg i L j).length j:=rfl
theorem Q74 (B:Nat)(w:World)(cs:Array Value)(cap:Nat)(hB:B<=w.heap.size)(hc:cap<=maxLen)(hs:cs.size=cap*7):Vx B (w.alloc (.cells cs 158)) (.slice (some ⟨w.heap.size,0,none⟩) 0 cap) []:=
 ⟨rfl,.inr ⟨w.heap.size,cap,cs,rfl,hB,by show(w.heap.push _)[w.heap.size]?=_;simp,Nat.zero_le _,hc,hs,by simp[Xo]⟩⟩
end Go.Proofs.YtmmolhlihhdkcaaGreatDoor
