import Derived.Test.YthhbdfiopjclcaaGreatDoorDY
import Derived.Test.YthhbdfiopjclcaaGreatDoorDV
namespace Go.Proofs.YthhbdfiopjclcaaGreatDoor
open Go.RowKit Go.Sort
set_option linter.unusedVariables false
set_option maxRecDepth 1000000
set_option maxHeartbeats 16000000
theorem wyTo_one {count ways:Int}{ids:List Int}(hc:1<=count){x:WySt}{s:Int}(h:WyOk 0 s x):∀k i,i<k->1<=(wat (Ym count ways ids x k).ways i).weights.length
 |0,i,hi=>absurd hi (Nat.not_lt_zero _)
 |k+1,i,hi=>by
  have q:=wyTo_ok (ways:=ways) (ids:=ids) hc h k
  have h2:=Qm (Qm (wyS0_ok (ways:=ways) (i:=k) q.ok) 2) 3
  have h3:=wySg_ok (ids:=ids) hc h2
  have h5:=wySegs_in h2
  show 1<=(wat ((Ym count ways ids x k).ways++[_]) i).weights.length
  by_cases e:i=k
  ·have e2:i=(Ym count ways ids x k).ways.length:=by rw[q.len];exact e
   rw[e2,Zt]
   show 1<=(wySg count ids _).weights.length
   rw[h3.2.2.1]
   omega
  ·rw[Zs (by rw[q.len];omega)]
   exact wyTo_one hc h k i (by omega)
theorem dbNet_more {S:Src}(h:SOk S):(∀i,i<(Qa S).ways.length->(wat (Qa S).ways i).nodes.length=(wat (Qa S).ways i).weights.length+1/\1<=(wat (Qa S).ways i).weights.length)/\(Qa S).turns.length<=12/\(Qa S).rels=[]:=by
 have hz:=h.size
 have h1:=Qm h (1+S.size/2)
 have v1:=Qu h (1+S.size/2)
 have v2:=Qu h1 3
 have hc:2<=Va S:=by
  unfold Va
  have:=v1.1
  omega
 have hn:=ndTo_ok (x:=⟨ns (ns S (1+S.size/2)) 3,nv (ns S (1+S.size/2)) 3,[]⟩) (show SOk (ns (ns S (1+S.size/2)) 3) from Qm h1 3) (show 0<=nv (ns S (1+S.size/2)) 3/\nv (ns S (1+S.size/2)) 3<=3 by have:=v2.2 (by omega);omega) rfl (Va S).toNat
 have hnd:SOk (dbNd S).S:=hn.1
 have hN:1<=dbN S:=by
  unfold dbN
  split<;>omega
 have h2:SOk (Xj S):=Qm hnd _
 have h3:SOk (ns (ns (ns (Xj S) (2+S.size)) 24) 4):=Qm (Qm (Qm h2 _) _) _
 have v4:=Qu (Qm (Qm h2 (2+S.size)) 24) 4
 have hw0:WyOk 0 (ns (ns (ns (Xj S) (2+S.size)) 24) 4).size ⟨ns (ns (ns (Xj S) (2+S.size)) 24) 4,nv (ns (ns (Xj S) (2+S.size)) 24) 4,[]⟩:=⟨h3,(show 0<=nv (ns (ns (Xj S) (2+S.size)) 24) 4/\nv (ns (ns (Xj S) (2+S.size)) 24) 4<=4+2*((0:Nat):Int) by have:=v4.2 (by omega);omega),rfl,rfl,λi hi=>absurd hi (Nat.not_lt_zero _)⟩
 have hy:=wyTo_ok (count:=dbN S) (ways:=Vk S) (ids:=Qi S) hN hw0 (Vk S).toNat
 have ho:=wyTo_one (count:=dbN S) (ways:=Vk S) (ids:=Qi S) hN hw0 (Vk S).toNat
 have hwl:(Qa S).ways.length=(Vk S).toNat:=hy.len
 refine⟨λi hi=>⟨(hy.seg i (by rw[<-hwl];exact hi)).2,ho i (by rw[<-hwl];exact hi)⟩,?_,rfl⟩
 show(U5 S).ts.length<=12
 unfold U5
 split
 ·simp
 ·have hwy:SOk (Zn S).S:=hy.ok
  have k:=(tnTo_ok (ws:=(Zn S).ways) (x:=⟨ns (Zn S).S (3+S.size),[]⟩) (show SOk (ns (Zn S).S (3+S.size)) from Qm hwy _) rfl (nv (Zn S).S (3+S.size)).toNat).2
  have v:=(Qu hwy (3+S.size)).2 (by omega)
  have v':=(Qu hwy (3+S.size)).1
  omega
theorem ri_in {S:Src}(h:SOk S):SpIn 900000 (Y7 S,riS S)/\(Y7 S).ways.length<=12/\∀i,i<(Y7 S).ways.length->(wat (Y7 S).ways i).weights.length<=3:=by
 obtain⟨h1,h2,h3,h4⟩:=dbNet_in h
 obtain⟨m1,m2,m3⟩:=dbNet_more h
 have wy:∀i,i<(Qa S).ways.length->(1<=(wat (Qa S).ways i).nodes.length/\(wat (Qa S).ways i).nodes.length<=900000)/\1<=(wat (Qa S).ways i).weights.length/\(wat (Qa S).ways i).weights.length<=900000:=λi hi=>by
  have:=h4 i hi
  have:=m1 i hi
  omega
 unfold Y7 riS
 by_cases e:(Qa S).ways.length=0
 ·rw[if_pos e,if_pos e]
  exact⟨⟨h1,by show 1<=(Qa S).nodes.length;omega,by show(Qa S).nodes.length<=900000;omega,by show(Qa S).ways.length<=900000;omega,wy,by show(Qa S).rels.length<=900000;rw[m3];simp,λi hi=>absurd hi (by rw[show(Qa S,dbS S).1.rels=[] from m3];simp),by show(Qa S).turns.length<=900000;omega⟩,h3,h4⟩
 ·rw[if_neg e,if_neg e]
  have hz:=h1.size
  have o2:SOk (riS2 S):=Qm (Qm h1 _) _
  have v2:=Qu o2 3
  have v1:=Qu h1 (2+(dbS S).size)
  obtain⟨T,hT⟩:∃T,T=riS2 S:=⟨_,rfl⟩
  rw[<-hT] at o2 v2
  have q0:RcOk 0 (ns T 3).size ⟨ns T 3,nv T 3,[]⟩:=⟨Qm o2 3,Eq.refl _,by show 0<=nv T 3/\nv T 3<=3+2*((0:Nat):Int);have:=v2.2 (by omega);omega,Eq.refl _,λr hr=>by simp at hr⟩
  have q:RcOk (Zm S).toNat (ns T 3).size (riX S):=by
   unfold riX
   rw[<-hT]
   exact rcTo_ok q0 _
  have hc:Zm S<=10:=by
   unfold Zm
   have:=v1.2 (by omega)
   split<;>omega
  have hl:(riX S).rels.length=(Zm S).toNat:=q.len
  generalize riX S=RX at q hl ⊢
  refine⟨⟨q.ok,by show 1<=(Qa S).nodes.length;omega,by show(Qa S).nodes.length<=900000;omega,by show(Qa S).ways.length<=900000;omega,wy,by show RX.rels.length<=900000;omega,λi hi=>?_,by show(Qa S).turns.length<=900000;omega⟩,h3,h4⟩
  have hi':i<RX.rels.length:=hi
  show(rat RX.rels i).ways.length<=900000
  rw[rat_eq hi']
  have:=q.wl _ (List.getElem_mem hi')
  omega
def WBd (N:Nt):Prop:=N.ways.length<=50/\∀i,i<N.ways.length->(wat N.ways i).weights.length<=150
theorem wsum_b (ws:List Wy):∀k,(∀i,i<k->(wat ws i).weights.length<=150)->wsum ws k<=150*k
 |0,_=>Nat.le_refl _
 |k+1,h=>by
  have h1:=wsum_b ws k (λi hi=>h i (by omega))
  have h2:=h k (by omega)
  show wsum ws k+(wat ws k).weights.length<=_
  omega
theorem WBd.sum {N:Nt}(h:WBd N):wsum N.ways N.ways.length<=1048576:=by
 have h1:=wsum_b N.ways N.ways.length h.2
 have h2:=h.1
 omega
theorem wat_past {ws:List Wy}{i:Nat}(h:¬i<ws.length):(wat ws i).weights=[]:=by
 unfold wat
 rw[List.getD_eq_getElem?_getD,List.getElem?_eq_none (by omega)]
 rfl
theorem WBd.at {N:Nt}(h:WBd N)(i:Nat):(wat N.ways i).weights.length<=150:=by
 by_cases hi:i<N.ways.length
 ·exact h.2 i hi
 ·rw[wat_past hi];simp
theorem WBd.nWy {N:Nt}{i:Nat}{x:Wy}(h:WBd N)(hx:x.weights.length<=150):WBd (nWy N i x):=by
 refine⟨by show(N.ways.set i x).length<=50;rw[List.length_set];exact h.1,λj hj=>?_⟩
 show(wat (N.ways.set i x) j).weights.length<=150
 by_cases hi:i<N.ways.length
 ·rw[Vz hi]
  split
  ·exact hx
  ·exact h.at j
 ·rw[List.set_eq_of_length_le (by omega)]
  exact h.at j
theorem spWy_w {k:Int}{N:Nt}{x:Wy}{S:Src}(hx:x.weights.length<=150):(spWy k N x S).1.weights.length<=150:=by
 unfold spWy
 repeat (first|(simp only[List.length_set,List.length_nil];omega)|exact hx|split)
theorem WBd.spAll {N:Nt}{S:Src}(h:WBd N):WBd (spAll N S).1:=by
 unfold Go.Proofs.YthhbdfiopjclcaaGreatDoor.spAll
 generalize nv S 20=k
 generalize hX:(N,ns S 20)=X
 have h0:WBd X.1:=by rw[<-hX];exact h
 clear hX
 have h1:WBd (sp0 k X).1:=by unfold sp0;split<;>exact h0
 generalize sp0 k X=X1 at h1
 have h2:WBd (sp1 k X1).1:=by unfold sp1;split<;>exact h1
 generalize sp1 k X1=X2 at h2
 have h3:WBd (sp2 k X2).1:=by unfold sp2;split<;>exact h2
 generalize sp2 k X2=X3 at h3
 have h4:WBd (sp3 k X3).1:=by unfold sp3;split<;>exact h3
 generalize sp3 k X3=X4 at h4
 have h5:WBd (sp4 k X4).1:=by unfold sp4;split<;>exact h4
 generalize sp4 k X4=X5 at h5
 have h6:WBd (spW k X5).1:=by
  unfold spW
  split
  ·exact h5
  ·split
   ·exact h5.nWy (h5.at _)
   ·split
    ·exact h5.nWy (spWy_w (h5.at _))
    ·exact h5
 generalize spW k X5=X6 at h6
 have h7:WBd (spR k X6).1:=by unfold spR;split<;>exact h6
 generalize spR k X6=X7 at h7
 unfold spT
 split
 ·exact h7
 ·split
  ·exact h7
  ·split<;>exact h7
theorem lmTo_mem {α:Type}{f:Nat->α}{x:α}:∀{n:Nat},x∈Jd f n->∃i,x=f i
 |0,h=>by simp[Jd] at h
 |n+1,h=>by
  rcases List.mem_append.1 (show x∈Jd f n++[f n] from h) with q|q
  ·exact lmTo_mem q
  ·exact⟨n,by simpa using q⟩
theorem WBd.of {N:Nt}(h:N.ways.length<=50)(hm:∀x∈N.ways,x.weights.length<=150):WBd N:=⟨h,λi hi=>by rw[wat_eq hi];exact hm _ (List.getElem_mem hi)⟩
theorem lmW_w (id:Int)(bo:Bool)(a b:Int)(segs:Nat)(wt:Int):(lmW id bo a b segs wt).weights.length=segs:=lwW_len wt segs
theorem lim_b {k:Int}{over:Nat}(ho:over<=1):WBd (Yy k over):=by
 have one:∀x∈Jd (λi=>lmW i true 0 1 100 1) 20,x.weights.length<=150:=λx hx=>by
  obtain⟨i,rfl⟩:=lmTo_mem hx
  rw[lmW_w]
  omega
 unfold Yy
 split
 ·refine WBd.of (by simp[lmWs]) λx hx=>?_
  have e:x=lmW 3 (k==0) 0 1 (100+over) 1048576:=by simpa [lmWs] using hx
  rw[e,lmW_w]
  omega
 ·split
  ·refine WBd.of (by simp) λx hx=>?_
   have e:x=lmW 3 true 0 1 1 5:=by simpa using hx
   rw[e,lmW_w]
   omega
  ·split
   ·exact WBd.of (by simp) λx hx=>by simp at hx
   ·split
    ·refine WBd.of ?_ λx hx=>?_
     ·show(Jd _ 20++_).length<=50
      rw[List.length_append,V7]
      split<;>simp
     ·rcases List.mem_append.1 (show x∈Jd _ 20++_ from hx) with q|q
      ·exact one x q
      ·split at q
       ·have e:x=lmW 5000 false 1 0 1 1:=by simpa using q
        rw[e,lmW_w]
        omega
       ·simp at q
    ·split
     ·refine WBd.of (by simp) λx hx=>?_
      have e:x=lmW 0 true 0 1 1 1:=by simpa using hx
      rw[e,lmW_w]
      omega
     ·split
      ·refine WBd.of (by show(Jd _ 45).length<=50;rw[V7];omega) λx hx=>?_
       obtain⟨i,rfl⟩:=lmTo_mem (show x∈Jd _ 45 from hx)
       rw[lmW_w]
       omega
      ·exact WBd.of (by simp[lm0]) λx hx=>by simp[lm0] at hx
def dnNet (S:Src):Nt:=if nv S 40<8 then (spAll (Y7 (ns S 40)) (riS (ns S 40))).1 else if nv S 40<10 then liNet (ns S 40) else Y7 (ns S 40)
theorem dnNet_b {S:Src}(h:SOk S):WBd (dnNet S):=by
 have hr:WBd (Y7 (ns S 40)):=by
  obtain⟨_,h2,h3⟩:=ri_in (Qm h 40)
  exact⟨by omega,λi hi=>by have:=h3 i hi;omega⟩
 unfold dnNet
 split
 ·exact hr.spAll
 ·split
  ·unfold liNet
   have v:=Qu (Qm h 40) 2
   exact lim_b (by have:=v.2 (by omega);omega)
  ·exact hr
end Go.Proofs.YthhbdfiopjclcaaGreatDoor
