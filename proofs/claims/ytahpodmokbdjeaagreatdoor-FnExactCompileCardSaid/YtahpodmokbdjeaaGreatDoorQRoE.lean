import Derived.Test.YtahpodmokbdjeaaGreatDoorQRoD
import Derived.Test.YtahpodmokbdjeaaGreatDoorQImJ
import Derived.Deep.CutRange
namespace Go.Proofs.YtahpodmokbdjeaaGreatDoor
open Go.RowKit
set_option linter.unusedVariables false
set_option maxRecDepth 1000000
set_option maxHeartbeats 16000000
structure Ua (N:Nt):Prop where
 asc:Z4 N.nodes=true
 c0:N.nodes.length<=2000
 c1:N.ways.length<=2000
 ed:edTo N.ways N.ways.length<=4000
 len:∀i,i<N.ways.length->(wat N.ways i).nodes.length=(wat N.ways i).weights.length+1
 seg:∀i,i<N.ways.length->(wat N.ways i).weights.length<=100
 has:∀i j,i<N.ways.length->j<(wat N.ways i).nodes.length->Vs N.nodes (iat (wat N.ways i).nodes j)=true
theorem Yj {n:Nat}{p:Nat->Bool}(h:Je n p=true){i:Nat}(hi:i<n):p i=true:=by
 unfold Je at h;rw[List.all_eq_true] at h;exact h i (List.mem_range.2 hi)
theorem Jz {N:Nt}(h:Qe N=true):Ua N:=by
 simp only[Qe,U8,zH,decide_eq_true_eq] at h
 obtain⟨⟨c0,c1,ed,c2,c3⟩,hu,⟨ha,hn⟩,⟨hw,_⟩,⟨hr,_⟩,ht,_⟩:=h
 have aw:∀i,i<N.ways.length->(wat N.ways i).nodes.length=(wat N.ways i).weights.length+1/\(wat N.ways i).weights.length<=100/\∀j,j<(wat N.ways i).nodes.length->Vs N.nodes (iat (wat N.ways i).nodes j)=true:=λi hi=>by
  have:=Yj hw hi
  simp only[Qu,Vp,zH,decide_eq_true_eq] at this
  obtain⟨⟨⟨⟨⟨g0,g1⟩,g2⟩,g3⟩,g4⟩,g5⟩:=this
  exact⟨g3,g2,λj hj=>Yj g5 hj⟩
 exact⟨ha,c0,c1,ed,λi hi=>(aw i hi).1,λi hi=>(aw i hi).2.1,λi j hi hj=>(aw i hi).2.2 j hj⟩
theorem Qb5 (N:Nt)(k:Nat):st (nsN N) (bnN N) k=edTo N.ways k:=by
 induction k with
 |zero=>rfl
 |succ k ih=>rw[st,edTo,ih];unfold nsN bnN Ag;split<;>omega
theorem Q7k {N:Nt}(h:Ua N){k q:Nat}(hk:k<N.ways.length)(hq:q<=(wat N.ways k).weights.length):(Xi (sg1 N) k (lay (sg1 N) (nsN N) k) q).length<=4000:=by
 rw[To (Pc N),Pi (Pc N)]
 have h1:=Q7u (nsN N) (bnN N) (k+1) (N.ways.length-(k+1))
 rw[show k+1+(N.ways.length-(k+1))=N.ways.length by omega,Qb5 N N.ways.length,st] at h1
 have h2:bnN N k*q<=bnN N k*nsN N k:=Nat.mul_le_mul_left _ hq
 have:=h.ed
 omega
theorem Yu {B:Nat}{w w':World}{a:Option Addr}{n c:Nat}{zs:List Int}(h:Q8 B w (sL a n c) zs)(k:Below w.heap.size w w'){i:Nat}(hi:i<n):∃b off,a=some (aD b off)/\b<w.heap.size/\w'.cell? (aD b (off+i))=some (iV (iat zs i)):=by
 obtain⟨a',cap,e,_,hk⟩:=h
 simp only[zC] at e
 obtain⟨rfl,rfl,rfl⟩:=e
 obtain⟨b,off,rfl,_,hb,hc⟩:=hk (by omega)
 exact⟨b,off,rfl,hb,Q0 k hb (hc i hi)⟩
theorem Q4n {B:Nat}{w:World}{a:Option Addr}{n c:Nat}{zs:List Int}(h:Q8 B w (sL a n c) zs):zs.length=n:=by
 obtain⟨a',cap,e,_,hk⟩:=h
 simp only[zC] at e
 exact e.2.1.symm
theorem Vc.slice {B:Nat}{w:World}{v:Value}{es:List Eg}(h:Vc B w v es):∃a c,v=sL a es.length c/\es.length<=maxLen:=by
 rcases h.2 with⟨rfl,h2⟩|⟨g,cap,cur,rfl,_,_,h3,h4,_⟩
 ·exact⟨none,0,by rw[h2],by rw[h2];simp[maxLen]⟩
 ·exact⟨_,_,rfl,by omega⟩
def FB (w:World)(g:Nat)(x:Eg):Prop:=∃cs:Array Value,Blk w g cs/\cs.toList=Vg x
theorem FB.cell {w:World}{g:Nat}{x:Eg}(h:FB w g x){i:Nat}{v:Value}(hi:(Vg x)[i]?=some v):w.cell? (aD g i)=some v:=by
 obtain⟨cs,h1,h2⟩:=h
 exact h1.cell (by rw[<-zQ,h2];exact hi)
theorem FB.c {w:World}{g:Nat}{x:Eg}(h:FB w g x)(i:Nat){v:Value}(hi:(Vg x)[i]?=some v):w.cell? ⟨g,i,none⟩=some v:=h.cell hi
theorem FB.frozen {w:World}{g:Nat}{x:Eg}(h:FB w g x)(i:Nat):w.frozen? (aD g i)=false:=by
 obtain⟨cs,h1,_⟩:=h
 exact h1.frozen i
theorem FB.lt {w:World}{g:Nat}{x:Eg}(h:FB w g x):g<w.heap.size:=by
 obtain⟨cs,h1,_⟩:=h
 exact h1.lt
theorem Q55 {w:World}{g:Nat}{cs:Array Value}(h:Blk w g cs)(hs:cs.size=7)(x:Eg) :
  FB (((((((w.setCell (aD g 0) (iV x.tail)).setCell (aD g 1) (iV x.head)).setCell (aD g 2) (iV x.weight)).setCell (aD g 3) (iV x.way)).setCell (aD g 4) (iV x.seg)).setCell (aD g 5) (.bool x.back)).setCell (aD g 6) (iV x.twin)) g x:=by
 refine⟨_,((((((h.set 0 _).set 1 _).set 2 _).set 3 _).set 4 _).set 5 _).set 6 _,?_⟩
 obtain⟨l⟩:=cs
 match l,hs with
 |[_,_,_,_,_,_,_],_=>rfl
theorem Q43 {a w:World}(h:Nx a w){g:Nat}(hg:a.heap.size<=g)(v0 v1 v2 v3 v4 v5 v6:Value) :
  Nx a (((((((w.setCell (aD g 0) v0).setCell (aD g 1) v1).setCell (aD g 2) v2).setCell (aD g 3) v3).setCell (aD g 4) v4).setCell (aD g 5) v5).setCell (aD g 6) v6):=
 Below.setCell (Below.setCell (Below.setCell (Below.setCell (Below.setCell (Below.setCell (Below.setCell h hg _) hg _) hg _) hg _) hg _) hg _) hg _
theorem Ql (w:World)(cs:Array Value)(t:TypeId)(l:List Value)(h:cs.toList=l)(j:Nat)(u:Value)(hj:l[j]?=some u):(w.alloc (.cells cs t)).cell? (((aD w.heap.size 0):Addr).add j)=some u:=by
 have e:(w.alloc (.cells cs t)).heap[w.heap.size]?=some (.cells cs t (0,0)):=by show(w.heap.push _)[w.heap.size]?=_;simp
 have hc:cs[j]?=some u:=by rw[<-zQ,h];exact hj
 rw[Addr.add_lit]
 simp only[World.cell?,e]
 simpa using hc
theorem Up (x:Eg):∀u∈Vg x,u.oneCell'=true:=by
 intro u hu
 simp only[Vg,List.mem_cons,List.not_mem_nil,or_false] at hu
 rcases hu with rfl|rfl|rfl|rfl|rfl|rfl|rfl<;>rfl
theorem Q0i (sg:Nat->Nat->Nat->List Eg)(i:Nat)(L:List Eg)(j:Nat):Xi sg i L (j+1)=Xi sg i L j++sg i (Xi sg i L j).length j:=rfl
theorem Q0x (B:Nat)(w:World)(cs:Array Value)(cap:Nat)(hB:B<=w.heap.size)(hc:cap<=maxLen)(hs:cs.size=cap*7):Vc B (w.alloc (.cells cs 75)) (sL (sA w.heap.size) 0 cap) []:=
 ⟨rfl,.inr ⟨w.heap.size,cap,cs,rfl,hB,by show(w.heap.push _)[w.heap.size]?=_;simp,nZ,hc,hs,by simp[Yp]⟩⟩
end Go.Proofs.YtahpodmokbdjeaaGreatDoor
