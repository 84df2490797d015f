import Derived.Test.YthhbdfiopjclcaaGreatDoorDS
namespace Go.Proofs.YthhbdfiopjclcaaGreatDoor
open Go.RowKit Go.Sort
set_option linter.unusedVariables false
set_option maxRecDepth 1000000
set_option maxHeartbeats 16000000
theorem Yd {C t sz n b c i:Nat}{w:World}{xs:List Value}(h:w.ownsRow C t sz (.slice (some ⟨b,0,none⟩) n c) n xs)(v:Value):(w.setCell ⟨b,i,none⟩ v).ownsRow C t sz (.slice (some ⟨b,0,none⟩) n c) n (xs.set i v):=by
 obtain⟨h1,h2⟩:=h
 refine⟨by rw[List.length_set];exact h1,?_⟩
 rcases h2 with⟨h2,_⟩|⟨g,cap,cur,hv,hg,hh,hc,hm,hs,ht⟩
 ·cases h2
 ·simp only[Value.slice.injEq,Option.some.injEq,Addr.mk.injEq] at hv
  obtain⟨⟨rfl,_⟩,_,rfl⟩:=hv
  have hb:BT (w.setCell ⟨b,i,none⟩ v) b (cur.setIfInBounds i v) t:=BT.set (show BT w b cur t from hh) i v
  refine Or.inr ⟨b,c,cur.setIfInBounds i v,rfl,hg,hb,hc,hm,by rw[Array.size_setIfInBounds];exact hs,?_⟩
  rw[<-ht,Array.toList_setIfInBounds,List.take_set]
theorem Q6.setAt {C n b c i:Nat}{w:World}{zs:List Int}(h:Q6 C w (.slice (some ⟨b,0,none⟩) n c) zs)(hn:zs.length=n)(z:Int):Q6 C (w.setCell ⟨b,i,none⟩ (.int .i64 z)) (.slice (some ⟨b,0,none⟩) n c) (zs.set i z):=by
 subst hn
 have k:=Yd (i:=i) h (.int .i64 z)
 show(w.setCell _ _).ownsRow C _ 1 _ (zs.set i z).length (Qs (zs.set i z))
 rw[List.length_set]
 have e:Qs (zs.set i z)=(Qs zs).set i (.int .i64 z):=by unfold Qs;rw[List.map_set]
 rw[e]
 exact k
theorem flat_set {k n i q:Nat}{f:Nat->List Value}(hf:∀j,(f j).length=k)(hi:i<n)(hq:q<k)(v:Value):((List.range n).flatMap f).set (i*k+q) v=(List.range n).flatMap (λj=>if j=i then (f j).set q v else f j):=by
 induction n with
 |zero=>omega
 |succ n ih=>
  have hl:∀m,((List.range m).flatMap f).length=m*k:=λm=>by
   induction m with
   |zero=>simp
   |succ m ihm=>rw[List.range_succ,List.flatMap_append,List.length_append,ihm];simp[hf,Nat.succ_mul]
  rw[List.range_succ,List.flatMap_append,List.flatMap_append]
  by_cases e:i=n
  ·subst e
   rw[List.set_append,hl,if_neg (by omega),Nat.add_sub_cancel_left]
   congr 1
   ·refine Vd λj hj=>?_
    have:=List.mem_range.1 hj
    rw[if_neg (by omega)]
   ·simp
  ·have hlt:i*k+q<n*k:=by
    have:(i+1)*k<=n*k:=Nat.mul_le_mul_right _ (by omega)
    rw[Nat.succ_mul] at this
    omega
   rw[List.set_append,hl,if_pos hlt,ih (by omega)]
   congr 1
   simp[Ne.symm e]
def Apv (a b:Value):Prop:=∀g,a.ownBlock=some g->b.ownBlock≠some g
theorem Apv.symm {a b:Value}(h:Apv a b):Apv b a:=λg hb ha=>h g ha hb
structure ApN (nw nr:Nat)(v0:Value)(vn vw vr:Nat->Value):Prop where
 zn:∀i,i<nw->Apv v0 (vn i)/\Apv v0 (vw i)
 zr:∀i,i<nr->Apv v0 (vr i)
 nn:∀i j,i<nw->j<nw->i≠j->Apv (vn i) (vn j)/\Apv (vw i) (vw j)
 nw_:∀i j,i<nw->j<nw->Apv (vn i) (vw j)
 nr_:∀i j,i<nw->j<nr->Apv (vn i) (vr j)/\Apv (vw i) (vr j)
 rr:∀i j,i<nr->j<nr->i≠j->Apv (vr i) (vr j)
theorem ONt.apn {C:Nat}{w:World}{v0 v1 v2 v3:Value}{N:Nt}{vn vw vr:Nat->Value}(h:ONt C w v0 v1 v2 v3 N vn vw vr):ApN N.ways.length N.rels.length v0 vn vw vr:=by
 have hp:(v0::(prs N.ways.length vn vw++(List.range N.rels.length).map vr)).Pairwise Apv:=h.apart
 obtain⟨h0,h1⟩:=List.pairwise_cons.1 hp
 obtain⟨h2,h3,h4⟩:=List.pairwise_append.1 h1
 unfold prs at h2
 rw[List.pairwise_flatMap] at h2
 obtain⟨h5,h6⟩:=h2
 have m1:∀i,i<N.ways.length->vn i∈prs N.ways.length vn vw/\vw i∈prs N.ways.length vn vw:=λi hi=>prs_in hi
 have m2:∀i,i<N.rels.length->vr i∈(List.range N.rels.length).map vr:=λi hi=>List.mem_map.2 ⟨i,List.mem_range.2 hi,rfl⟩
 have lt6:∀i j,i<j->j<N.ways.length->∀x∈[vn i,vw i],∀y∈[vn j,vw j],Apv x y:=λi j hij hj=>by
  have:=List.pairwise_iff_getElem.1 h6 i j (by rw[List.length_range];omega) (by rw[List.length_range];exact hj) hij
  simpa using this
 have lt3:∀i j,i<j->j<N.rels.length->Apv (vr i) (vr j):=λi j hij hj=>by
  have:=List.pairwise_iff_getElem.1 h3 i j (by simp;omega) (by simp;exact hj) hij
  simpa using this
 refine⟨λi hi=>⟨h0 _ (List.mem_append_left _ (m1 i hi).1),h0 _ (List.mem_append_left _ (m1 i hi).2)⟩,λi hi=>h0 _ (List.mem_append_right _ (m2 i hi)),λi j hi hj hn=>?_,λi j hi hj=>?_,λi j hi hj=>⟨h4 _ (m1 i hi).1 _ (m2 j hj),h4 _ (m1 i hi).2 _ (m2 j hj)⟩,λi j hi hj hn=>?_⟩
 ·rcases Nat.lt_or_gt_of_ne hn with q|q
  ·exact⟨lt6 i j q hj _ (by simp) _ (by simp),lt6 i j q hj _ (by simp) _ (by simp)⟩
  ·exact⟨(lt6 j i q hi _ (by simp) _ (by simp)).symm,(lt6 j i q hi _ (by simp) _ (by simp)).symm⟩
 ·rcases Nat.lt_trichotomy i j with q|q|q
  ·exact lt6 i j q hj _ (by simp) _ (by simp)
  ·subst q
   have:=h5 i (List.mem_range.2 hi)
   exact(List.pairwise_cons.1 this).1 _ (by simp)
  ·exact(lt6 j i q hi (vw j) (by simp) (vn i) (by simp)).symm
 ·rcases Nat.lt_or_gt_of_ne hn with q|q
  ·exact lt3 i j q hj
  ·exact(lt3 j i q hi).symm
theorem Vz {ws:List Wy}{i j:Nat}{x:Wy}(hi:i<ws.length):wat (ws.set i x) j=if j=i then x else wat ws j:=by
 unfold wat
 rw[List.getD_eq_getElem?_getD,List.getD_eq_getElem?_getD,List.getElem?_set]
 by_cases e:i=j
 ·subst e;simp[hi]
 ·rw[if_neg e,if_neg (λh=>e h.symm)]
theorem rat_set {ws:List Rl}{i j:Nat}{x:Rl}(hi:i<ws.length):rat (ws.set i x) j=if j=i then x else rat ws j:=by
 unfold rat
 rw[List.getD_eq_getElem?_getD,List.getD_eq_getElem?_getD,List.getElem?_set]
 by_cases e:i=j
 ·subst e;simp[hi]
 ·rw[if_neg e,if_neg (λh=>e h.symm)]
theorem wrow_keep {ws:List Wy}{i:Nat}{x:Wy}{vn vw:Nat->Value}(hi:i<ws.length)(h1:x.id=(wat ws i).id)(h2:x.both=(wat ws i).both):Vb (ws.set i x) vn vw=Vb ws vn vw:=by
 unfold Vb
 rw[List.length_set]
 refine Vd λj hj=>?_
 rw[Vz hi]
 by_cases e:j=i
 ·subst e;rw[if_pos rfl];unfold wayL;rw[h1,h2]
 ·rw[if_neg e]
section
variable {C:Nat}{w:World}{v0 v1 v2 v3:Value}{N:Nt}{vn vw vr:Nat->Value}
theorem ONt.setNode {b n c i:Nat}(h:ONt C w (.slice (some ⟨b,0,none⟩) n c) v1 v2 v3 N vn vw vr)(hn:N.nodes.length=n)(z:Int):ONt C (w.setCell ⟨b,i,none⟩ (.int .i64 z)) (.slice (some ⟨b,0,none⟩) n c) v1 v2 v3 ⟨N.nodes.set i z,N.ways,N.rels,N.turns,N.uturn⟩ vn vw vr:=by
 have ap:=h.apn
 obtain⟨cs,hb⟩:=Z6 h.nodes (show(Value.slice (some ⟨b,0,none⟩) n c).ownBlock=some b from rfl)
 have far:∀{u:Value}{us:List Int},Apv (.slice (some ⟨b,0,none⟩) n c) u->Q6 C w u us->Q6 C (w.setCell ⟨b,i,none⟩ (.int .i64 z)) u us:=λha ho=>Qz ho (Chg.set (S:=λx=>x=b) _ _ _ rfl) (λg hg e=>by
  have e':g=b:=e
  subst e'
  exact ha g rfl hg)
 exact⟨h.nodes.setAt hn z,Q7 h.ways hb (by decide) _ _,λj hj=>far (ap.zn j hj).1 (h.wn j hj),λj hj=>far (ap.zn j hj).2 (h.ww j hj),Q7 h.rels hb (by decide) _ _,λj hj=>far (ap.zr j hj) (h.rw_ j hj),Q7 h.turns hb (by decide) _ _,h.apart⟩
theorem ONt.setWN {b n c i j:Nat}(h:ONt C w v0 v1 v2 v3 N vn vw vr)(hi:i<N.ways.length)(hv:vn i=.slice (some ⟨b,0,none⟩) n c)(hn:(wat N.ways i).nodes.length=n)(z:Int):ONt C (w.setCell ⟨b,j,none⟩ (.int .i64 z)) v0 v1 v2 v3 ⟨N.nodes,N.ways.set i ⟨(wat N.ways i).id,(wat N.ways i).both,(wat N.ways i).nodes.set j z,(wat N.ways i).weights⟩,N.rels,N.turns,N.uturn⟩ vn vw vr:=by
 have ap:=h.apn
 have ho:=h.wn i hi
 rw[hv] at ho
 obtain⟨cs,hb⟩:=Z6 ho (show(Value.slice (some ⟨b,0,none⟩) n c).ownBlock=some b from rfl)
 have far:∀{u:Value}{us:List Int},Apv (vn i) u->Q6 C w u us->Q6 C (w.setCell ⟨b,j,none⟩ (.int .i64 z)) u us:=λha hu=>Qz hu (Chg.set (S:=λx=>x=b) _ _ _ rfl) (λg hg e=>by
  have e':g=b:=e
  subst e'
  rw[hv] at ha
  exact ha g rfl hg)
 have hl:(N.ways.set i ⟨(wat N.ways i).id,(wat N.ways i).both,(wat N.ways i).nodes.set j z,(wat N.ways i).weights⟩).length=N.ways.length:=List.length_set
 refine⟨far (ap.zn i hi).1.symm h.nodes,?_,λk hk=>?_,λk hk=>?_,Q7 h.rels hb (by decide) _ _,λk hk=>far (ap.nr_ i k hi hk).1 (h.rw_ k hk),Q7 h.turns hb (by decide) _ _,?_⟩
 ·show World.ownsRow _ C _ 4 v1 (N.ways.set i _).length (Vb (N.ways.set i _) vn vw)
  rw[hl,wrow_keep (x:=⟨(wat N.ways i).id,(wat N.ways i).both,(wat N.ways i).nodes.set j z,(wat N.ways i).weights⟩) hi rfl rfl]
  exact Q7 h.ways hb (by decide) _ _
 ·replace hk:k<N.ways.length:=by rw[<-hl];exact hk
  show Q6 C _ (vn k) (wat (N.ways.set i _) k).nodes
  rw[Vz hi]
  by_cases e:k=i
  ·subst e
   rw[if_pos rfl,hv]
   exact ho.setAt hn z
  ·rw[if_neg e]
   exact far (ap.nn i k hi hk (λq=>e q.symm)).1 (h.wn k hk)
 ·replace hk:k<N.ways.length:=by rw[<-hl];exact hk
  show Q6 C _ (vw k) (wat (N.ways.set i _) k).weights
  rw[Vz hi]
  by_cases e:k=i
  ·subst e
   rw[if_pos rfl]
   exact far (ap.nw_ k k hi hi) (h.ww k hk)
  ·rw[if_neg e]
   exact far (ap.nw_ i k hi hk) (h.ww k hk)
 ·have e:=h.apart
  unfold Js at e ⊢
  simp only[hl]
  exact e
end
theorem ApN.apt {nw nr:Nat}{v0:Value}{vn vw vr:Nat->Value}(h:ApN nw nr v0 vn vw vr):(v0::(prs nw vn vw++(List.range nr).map vr)).Pairwise Apv:=by
 have mr:∀{x:Value},x∈(List.range nr).map vr->∃j,j<nr/\x=vr j:=λhx=>by
  obtain⟨j,hj,rfl⟩:=List.mem_map.1 hx
  exact⟨j,List.mem_range.1 hj,rfl⟩
 refine List.pairwise_cons.2 ⟨λx hx=>?_,List.pairwise_append.2 ⟨?_,?_,λx hx y hy=>?_⟩⟩
 ·rcases List.mem_append.1 hx with q|q
  ·obtain⟨i,hi,rfl|rfl⟩:=prs_mem q
   ·exact(h.zn i hi).1
   ·exact(h.zn i hi).2
  ·obtain⟨j,hj,rfl⟩:=mr q
   exact h.zr j hj
 ·unfold prs
  rw[List.pairwise_flatMap]
  refine⟨λi hi=>List.pairwise_cons.2 ⟨λy hy=>?_,List.pairwise_singleton _ _⟩,List.pairwise_iff_getElem.2 λi j hi hj hij x hx y hy=>?_⟩
  ·have e:y=vw i:=by simpa using hy
   subst e
   exact h.nw_ i i (List.mem_range.1 hi) (List.mem_range.1 hi)
  ·rw[List.length_range] at hi hj
   simp at hx hy
   rcases hx with rfl|rfl<;>rcases hy with rfl|rfl
   ·exact(h.nn i j hi hj (by omega)).1
   ·exact h.nw_ i j hi hj
   ·exact(h.nw_ j i hj hi).symm
   ·exact(h.nn i j hi hj (by omega)).2
 ·refine List.pairwise_iff_getElem.2 λi j hi hj hij=>?_
  rw[List.length_map,List.length_range] at hi hj
  simp only[List.getElem_map,List.getElem_range]
  exact h.rr i j hi hj (by omega)
 ·obtain⟨j,hj,rfl⟩:=mr hy
  obtain⟨i,hi,rfl|rfl⟩:=prs_mem hx
  ·exact(h.nr_ i j hi hj).1
  ·exact(h.nr_ i j hi hj).2
section
variable {C:Nat}{w w':World}{v0 v1 v2 v3:Value}{N:Nt}{vn vw vr:Nat->Value}
theorem ONt.setWW {b n c i j:Nat}(h:ONt C w v0 v1 v2 v3 N vn vw vr)(hi:i<N.ways.length)(hv:vw i=.slice (some ⟨b,0,none⟩) n c)(hn:(wat N.ways i).weights.length=n)(z:Int):ONt C (w.setCell ⟨b,j,none⟩ (.int .i64 z)) v0 v1 v2 v3 ⟨N.nodes,N.ways.set i ⟨(wat N.ways i).id,(wat N.ways i).both,(wat N.ways i).nodes,(wat N.ways i).weights.set j z⟩,N.rels,N.turns,N.uturn⟩ vn vw vr:=by
 have ap:=h.apn
 have ho:=h.ww i hi
 rw[hv] at ho
 obtain⟨cs,hb⟩:=Z6 ho (show(Value.slice (some ⟨b,0,none⟩) n c).ownBlock=some b from rfl)
 have far:∀{u:Value}{us:List Int},Apv (vw i) u->Q6 C w u us->Q6 C (w.setCell ⟨b,j,none⟩ (.int .i64 z)) u us:=λha hu=>Qz hu (Chg.set (S:=λx=>x=b) _ _ _ rfl) (λg hg e=>by
  have e':g=b:=e
  subst e'
  rw[hv] at ha
  exact ha g rfl hg)
 have hl:(N.ways.set i ⟨(wat N.ways i).id,(wat N.ways i).both,(wat N.ways i).nodes,(wat N.ways i).weights.set j z⟩).length=N.ways.length:=List.length_set
 refine⟨far (ap.zn i hi).2.symm h.nodes,?_,λk hk=>?_,λk hk=>?_,Q7 h.rels hb (by decide) _ _,λk hk=>far (ap.nr_ i k hi hk).2 (h.rw_ k hk),Q7 h.turns hb (by decide) _ _,?_⟩
 ·show World.ownsRow _ C _ 4 v1 (N.ways.set i _).length (Vb (N.ways.set i _) vn vw)
  rw[hl,wrow_keep (x:=⟨(wat N.ways i).id,(wat N.ways i).both,(wat N.ways i).nodes,(wat N.ways i).weights.set j z⟩) hi rfl rfl]
  exact Q7 h.ways hb (by decide) _ _
 ·replace hk:k<N.ways.length:=by rw[<-hl];exact hk
  show Q6 C _ (vn k) (wat (N.ways.set i _) k).nodes
  rw[Vz hi]
  by_cases e:k=i
  ·subst e
   rw[if_pos rfl]
   exact far (ap.nw_ k k hi hi).symm (h.wn k hk)
  ·rw[if_neg e]
   exact far (ap.nw_ k i hk hi).symm (h.wn k hk)
 ·replace hk:k<N.ways.length:=by rw[<-hl];exact hk
  show Q6 C _ (vw k) (wat (N.ways.set i _) k).weights
  rw[Vz hi]
  by_cases e:k=i
  ·subst e
   rw[if_pos rfl,hv]
   exact ho.setAt hn z
  ·rw[if_neg e]
   exact far (ap.nn i k hi hk (λq=>e q.symm)).2 (h.ww k hk)
 ·have e:=h.apart
  unfold Js at e ⊢
  simp only[hl]
  exact e
theorem ONt.setWId {b n c i:Nat}(h:ONt C w v0 (.slice (some ⟨b,0,none⟩) n c) v2 v3 N vn vw vr)(hn:N.ways.length=n)(hi:i<N.ways.length)(z:Int):ONt C (w.setCell ⟨b,i*4,none⟩ (.int .i64 z)) v0 (.slice (some ⟨b,0,none⟩) n c) v2 v3 ⟨N.nodes,N.ways.set i ⟨z,(wat N.ways i).both,(wat N.ways i).nodes,(wat N.ways i).weights⟩,N.rels,N.turns,N.uturn⟩ vn vw vr:=by
 have hw:w.ownsRow C 47 4 (.slice (some ⟨b,0,none⟩) n c) n (Vb N.ways vn vw):=by
  have k:=h.ways
  unfold Z1 at k
  rw[hn] at k
  exact k
 obtain⟨cs,hb⟩:=Z6 hw (show(Value.slice (some ⟨b,0,none⟩) n c).ownBlock=some b from rfl)
 have hl:(N.ways.set i ⟨z,(wat N.ways i).both,(wat N.ways i).nodes,(wat N.ways i).weights⟩).length=N.ways.length:=List.length_set
 have at_:∀k,(wat (N.ways.set i ⟨z,(wat N.ways i).both,(wat N.ways i).nodes,(wat N.ways i).weights⟩) k).nodes=(wat N.ways k).nodes/\(wat (N.ways.set i ⟨z,(wat N.ways i).both,(wat N.ways i).nodes,(wat N.ways i).weights⟩) k).weights=(wat N.ways k).weights:=λk=>by
  rw[Vz hi]
  by_cases e:k=i
  ·subst e;rw[if_pos rfl];exact⟨rfl,rfl⟩
  ·rw[if_neg e];exact⟨rfl,rfl⟩
 refine⟨Q7 h.nodes hb (by decide) _ _,?_,λk hk=>?_,λk hk=>?_,Q7 h.rels hb (by decide) _ _,λk hk=>Q7 (h.rw_ k hk) hb (by decide) _ _,Q7 h.turns hb (by decide) _ _,?_⟩
 ·have k:=Yd (i:=i*4) hw (.int .i64 z)
  have e:(Vb N.ways vn vw).set (i*4) (.int .i64 z)=Vb (N.ways.set i ⟨z,(wat N.ways i).both,(wat N.ways i).nodes,(wat N.ways i).weights⟩) vn vw:=by
   unfold Vb
   rw[hl]
   have q:=flat_set (k:=4) (n:=N.ways.length) (i:=i) (q:=0) (f:=λj=>wayL (wat N.ways j) (vn j) (vw j)) (λ_=>rfl) hi (by decide) (.int .i64 z)
   rw[Nat.add_zero] at q
   rw[q]
   refine Vd λj hj=>?_
   rw[Vz hi]
   by_cases e:j=i
   ·subst e;rw[if_pos rfl,if_pos rfl];rfl
   ·rw[if_neg e,if_neg e]
  rw[e] at k
  show World.ownsRow _ C _ 4 _ (N.ways.set i _).length _
  rw[hl,hn]
  exact k
 ·show Q6 C _ (vn k) (wat (N.ways.set i _) k).nodes
  rw[(at_ k).1]
  exact Q7 (h.wn k (by rw[<-hl];exact hk)) hb (by decide) _ _
 ·show Q6 C _ (vw k) (wat (N.ways.set i _) k).weights
  rw[(at_ k).2]
  exact Q7 (h.ww k (by rw[<-hl];exact hk)) hb (by decide) _ _
 ·have e:=h.apart
  unfold Js at e ⊢
  simp only[hl]
  exact e
theorem ONt.setRel {i:Nat}{va:Value}{x:Rl}(h:ONt C w v0 v1 v2 v3 N vn vw vr)(hi:i<N.rels.length)(hr:w'.ownsRow C 41 7 v2 N.rels.length (rrow (N.rels.set i x) (upd vr i va)))(hc:Chg (λy=>some y=v2.ownBlock) w w')(ha:Q6 C w va x.ways)(h0:Apv v0 va)(hw:∀j,j<N.ways.length->Apv (vn j) va/\Apv (vw j) va)(hrr:∀j,j<N.rels.length->j≠i->Apv (vr j) va) :
  ONt C w' v0 v1 v2 v3 ⟨N.nodes,N.ways,N.rels.set i x,N.turns,N.uturn⟩ vn vw (upd vr i va):=by
 have ap:=h.apn
 have far:∀{u:Value}{zs:List Int},Q6 C w u zs->Q6 C w' u zs:=λho=>J8 ho h.rels (by decide) hc
 have hl:(N.rels.set i x).length=N.rels.length:=List.length_set
 refine⟨far h.nodes,J8 h.ways h.rels (by decide) hc,λk hk=>far (h.wn k hk),λk hk=>far (h.ww k hk),?_,λk hk=>?_,J8 h.turns h.rels (by decide) hc,?_⟩
 ·show w'.ownsRow C _ 7 v2 (N.rels.set i x).length _
  rw[hl]
  exact hr
 ·show Q6 C w' (upd vr i va k) (rat (N.rels.set i x) k).ways
  rw[rat_set hi]
  by_cases e:k=i
  ·subst e
   rw[if_pos rfl,J4]
   exact far ha
  ·rw[if_neg e,Qv _ _ e]
   exact far (h.rw_ k (by rw[<-hl];exact hk))
 ·have q:ApN N.ways.length N.rels.length v0 vn vw (upd vr i va):=by
   refine⟨ap.zn,λk hk=>?_,ap.nn,ap.nw_,λk j hk hj=>?_,λk j hk hj hn=>?_⟩
   ·by_cases e:k=i
    ·subst e;rw[J4];exact h0
    ·rw[Qv _ _ e];exact ap.zr k hk
   ·by_cases e:j=i
    ·subst e;rw[J4];exact hw k hk
    ·rw[Qv _ _ e];exact ap.nr_ k j hk hj
   ·by_cases e:k=i
    ·subst e
     rw[J4,Qv _ _ (λq=>hn q.symm)]
     exact(hrr j hj (λq=>hn q.symm)).symm
    ·rw[Qv _ _ e]
     by_cases e2:j=i
     ·subst e2;rw[J4];exact hrr k hk e
     ·rw[Qv _ _ e2];exact ap.rr k j hk hj hn
  have k:=q.apt
  show Apt (Js _ _ _ _ _)
  unfold Js
  simp only[hl]
  exact k
end
theorem flatL_set {α:Type}{k q:Nat}{f:α->List Value}(hf:∀x,(f x).length=k)(hq:q<k){v:Value}{y:α}:∀(l:List α) (i:Nat) (x:α),l[i]?=some x->f y=(f x).set q v->(l.flatMap f).set (i*k+q) v=(l.set i y).flatMap f
 |[],i,x,h,_=>by simp at h
 |a::l,0,x,h,e=>by
  have ha:a=x:=by simpa using h
  subst ha
  rw[Nat.zero_mul,Nat.zero_add,List.flatMap_cons,List.set_append,if_pos (by rw[hf];exact hq),List.set_cons_zero,List.flatMap_cons,e]
 |a::l,i+1,x,h,e=>by
  have h':l[i]?=some x:=by simpa using h
  rw[List.flatMap_cons,List.set_append,hf,if_neg (by rw[Nat.succ_mul];omega),show(i+1)*k+q-k=i*k+q by rw[Nat.succ_mul];omega,flatL_set hf hq l i x h' e,List.set_cons_succ,List.flatMap_cons]
section
variable {C:Nat}{w:World}{v0 v1 v2 v3:Value}{N:Nt}{vn vw vr:Nat->Value}
theorem ONt.setTurn {b n c i q:Nat}{z:Int}{y:Tn}(h:ONt C w v0 v1 v2 (.slice (some ⟨b,0,none⟩) n c) N vn vw vr)(hn:N.turns.length=n)(hi:i<N.turns.length)(hq:q<3)(hy:Y3 y=(Y3 (tat N.turns i)).set q (.int .i64 z)):ONt C (w.setCell ⟨b,i*3+q,none⟩ (.int .i64 z)) v0 v1 v2 (.slice (some ⟨b,0,none⟩) n c) ⟨N.nodes,N.ways,N.rels,N.turns.set i y,N.uturn⟩ vn vw vr:=by
 have hw:w.ownsRow C 63 3 (.slice (some ⟨b,0,none⟩) n c) n (N.turns.flatMap Y3):=by
  have k:=h.turns
  unfold OwnT at k
  rw[hn] at k
  exact k
 obtain⟨cs,hb⟩:=Z6 hw (show(Value.slice (some ⟨b,0,none⟩) n c).ownBlock=some b from rfl)
 refine⟨Q7 h.nodes hb (by decide) _ _,Q7 h.ways hb (by decide) _ _,λk hk=>Q7 (h.wn k hk) hb (by decide) _ _,λk hk=>Q7 (h.ww k hk) hb (by decide) _ _,Q7 h.rels hb (by decide) _ _,λk hk=>Q7 (h.rw_ k hk) hb (by decide) _ _,?_,h.apart⟩
 show World.ownsRow _ C _ 3 _ (N.turns.set i y).length ((N.turns.set i y).flatMap Y3)
 rw[List.length_set,hn,<-flatL_set (k:=3) (λ_=>rfl) hq N.turns i (tat N.turns i) (by simp[tat,List.getD_eq_getElem?_getD,hi]) hy]
 exact Yd hw _
end
theorem Q6.short {C b n c:Nat}{w:World}{zs:List Int}(h:Q6 C w (.slice (some ⟨b,0,none⟩) (n+1) c) zs)(hn:zs.length=n+1):Q6 C w (.slice (some ⟨b,0,none⟩) n c) (zs.take n):=by
 have hl:(zs.take n).length=n:=by rw[List.length_take];omega
 obtain⟨h1,h2⟩:=h
 unfold Q6
 rw[hl]
 refine⟨by unfold Qs;rw[List.length_map,hl,Nat.mul_one],?_⟩
 rcases h2 with⟨h2,_⟩|⟨g,cap,cur,hv,hg,hh,hc,hm,hs,ht⟩
 ·cases h2
 ·simp only[Value.slice.injEq,Option.some.injEq,Addr.mk.injEq] at hv
  obtain⟨⟨rfl,_⟩,_,rfl⟩:=hv
  refine Or.inr ⟨b,c,cur,rfl,hg,hh,by omega,hm,hs,?_⟩
  rw[hn] at ht
  have e:cur.toList.take (n*1)=(cur.toList.take ((n+1)*1)).take n:=by rw[List.take_take];congr 1;omega
  rw[e,ht]
  unfold Qs
  rw[List.map_take]
def sp0 (k:Int)(X:Nt×Src):Nt×Src:=if k=0 then (⟨X.1.nodes,X.1.ways,X.1.rels,X.1.turns,1048577⟩,X.2) else X
def sp1 (k:Int)(X:Nt×Src):Nt×Src:=if k=1 then (⟨X.1.nodes,X.1.ways,X.1.rels,X.1.turns,-1⟩,X.2) else X
def sp2 (k:Int)(X:Nt×Src):Nt×Src:=if k=2/\1<X.1.nodes.length then (⟨X.1.nodes.set 0 (iat X.1.nodes 1),X.1.ways,X.1.rels,X.1.turns,X.1.uturn⟩,X.2) else X
def sp3 (k:Int)(X:Nt×Src):Nt×Src:=if k=3/\0<X.1.nodes.length then (⟨X.1.nodes.set (X.1.nodes.length-1) (1048576+nv X.2 2),X.1.ways,X.1.rels,X.1.turns,X.1.uturn⟩,ns X.2 2) else X
def sp4 (k:Int)(X:Nt×Src):Nt×Src:=if k=4 then (⟨-1::X.1.nodes,X.1.ways,X.1.rels,X.1.turns,X.1.uturn⟩,X.2) else X
def spWy (k:Int)(N:Nt)(x:Wy)(S:Src):Wy×Src:=
 if k=5 then (⟨x.id,x.both,x.nodes.take (x.nodes.length-1),x.weights⟩,S)
 else if k=6 then (⟨x.id,x.both,x.nodes,x.weights.set 0 1048577⟩,S)
 else if k=7 then (⟨x.id,x.both,x.nodes,x.weights.set (x.weights.length-1) (-1)⟩,S)
 else if k=8 then (⟨x.id,x.both,x.nodes.set (nv S x.nodes.length).toNat 777777,x.weights⟩,ns S x.nodes.length)
 else if k=9 then (⟨(wat N.ways 0).id,x.both,x.nodes,x.weights⟩,S)
 else if k=10 then (⟨x.id,x.both,[iat N.nodes 0],[]⟩,S)
 else (x,S)
def nWy (N:Nt)(i:Nat)(x:Wy):Nt:=⟨N.nodes,N.ways.set i x,N.rels,N.turns,N.uturn⟩
def spW (k:Int)(X:Nt×Src):Nt×Src:=
 if X.1.ways.length=0 then X
 else if k=11 then (nWy X.1 (X.1.ways.length-1) ⟨1048576+nv (ns X.2 X.1.ways.length) 2,(wat X.1.ways (X.1.ways.length-1)).both,(wat X.1.ways (X.1.ways.length-1)).nodes,(wat X.1.ways (X.1.ways.length-1)).weights⟩,ns (ns X.2 X.1.ways.length) 2)
 else if 5<=k/\k<11 then (nWy X.1 (nv X.2 X.1.ways.length).toNat (spWy k X.1 (wat X.1.ways (nv X.2 X.1.ways.length).toNat) (ns X.2 X.1.ways.length)).1,(spWy k X.1 (wat X.1.ways (nv X.2 X.1.ways.length).toNat) (ns X.2 X.1.ways.length)).2)
 else (X.1,ns X.2 X.1.ways.length)
def sr12 (k:Int)(x:Rl):Rl:=if k=12 then ⟨x.id,x.only,777777,x.to,x.via,x.node,x.ways⟩ else x
def sr13 (k:Int)(x:Rl):Rl:=if k=13 then ⟨x.id,x.only,x.frm,777777,x.via,x.node,x.ways⟩ else x
def sr14 (k:Int)(x:Rl):Rl:=if k=14 then ⟨x.id,x.only,x.frm,x.to,!x.via,x.node,x.ways⟩ else x
def sr15 (k:Int)(x:Rl):Rl:=if k=15 then ⟨x.id,x.only,x.frm,x.to,x.via,wrap64 (x.node+1),x.ways⟩ else x
def sr16 (k:Int)(x:Rl):Rl:=if k=16 then ⟨x.id,x.only,x.frm,x.to,x.via,x.node,x.frm::x.ways⟩ else x
def sr17 (k:Int)(rs:List Rl)(x:Rl):Rl:=if k=17 then ⟨(rat rs 0).id,x.only,x.frm,x.to,x.via,x.node,x.ways⟩ else x
def spRl (k:Int)(rs:List Rl)(x:Rl):Rl:=sr17 k rs (sr16 k (sr15 k (sr14 k (sr13 k (sr12 k x)))))
def spR (k:Int)(X:Nt×Src):Nt×Src:=
 if X.1.rels.length=0 then X
 else (⟨X.1.nodes,X.1.ways,X.1.rels.set (nv X.2 X.1.rels.length).toNat (spRl k X.1.rels (rat X.1.rels (nv X.2 X.1.rels.length).toNat)),X.1.turns,X.1.uturn⟩,ns X.2 X.1.rels.length)
def nTn (N:Nt)(i:Nat)(y:Tn):Nt:=⟨N.nodes,N.ways,N.rels,N.turns.set i y,N.uturn⟩
def spT (k:Int)(X:Nt×Src):Nt×Src:=
 if X.1.turns.length=0 then X
 else if k=18 then (nTn X.1 (nv X.2 X.1.turns.length).toNat ⟨(tat X.1.turns (nv X.2 X.1.turns.length).toNat).frm,(tat X.1.turns (nv X.2 X.1.turns.length).toNat).to,1048577⟩,ns X.2 X.1.turns.length)
 else if k=19 then (nTn X.1 (nv X.2 X.1.turns.length).toNat ⟨(tat X.1.turns (nv X.2 X.1.turns.length).toNat).frm,777777,(tat X.1.turns (nv X.2 X.1.turns.length).toNat).cost⟩,ns X.2 X.1.turns.length)
 else (X.1,ns X.2 X.1.turns.length)
def spAll (N:Nt)(S:Src):Nt×Src:=spT (nv S 20) (spR (nv S 20) (spW (nv S 20) (sp4 (nv S 20) (sp3 (nv S 20) (sp2 (nv S 20) (sp1 (nv S 20) (sp0 (nv S 20) (N,ns S 20))))))))
theorem app_ints {ops:Array Oper}{rest:List Oper}{o:Oper}{a:Act}{Q:Exit->Act->World->Prop}(hgd:o.guard=none)(s x:Operand)(ho:o.op=.call { callee:=.builtin .append,args:=#[s,x],argTypes:=#[23,23] })
  (C n m B b off c:Nat) (v:Value) (zs ys:List Int) (w:World) (hs:a.eval s=v) (hown:Q6 C w v zs) (hx:a.eval x=.slice (some ⟨b,off,none⟩) m c) (hy:Qo B w (.slice (some ⟨b,off,none⟩) m c) ys) (hn:zs.length=n) (hm:ys.length=m) (hl:n+m<=1000000) (hC:C<=w.heap.size)
  (h:∀a' c' w',Q6 C w' (.slice a' (n+m) c') (zs++ys)->Chg (λx=>some x=v.ownBlock) w w'->(∀g,(Value.slice a' (n+m) c').ownBlock=some g->v.ownBlock=some g\/w.heap.size<=g)->wpList Tryz.prog ops Q rest (a.put o.dst (.slice a' (n+m) c')) w') :
  wpList Tryz.prog ops Q (o::rest) a w:=by
 subst hn hm
 obtain⟨ii,hi,hz0,hz1,hz2⟩:=info_parts Xm
 have hc:∀j u,(Qs ys)[j]?=some u->w.cell? (Addr.add ⟨b,off,none⟩ j)=some u:=λj u hj=>by
  have hlt:j<ys.length:=by
   have:=(List.getElem?_eq_some_iff.1 hj).1
   unfold Qs at this
   rw[List.length_map] at this
   exact this
  rw[icells_at hlt] at hj
  rw[<-Option.some.inj hj]
  have k:=hy.at_ j hlt
  unfold Addr.add
  by_cases e:j=0
  ·subst e;simpa using k
  ·rw[if_neg e];exact k
 refine wpList_append_own_at _ hgd s x 23 ho C 2 ii _ 1 8 Tryz.underlying23 hi hz0 hz1 hz2 rfl (by decide) v zs.length (Qs zs) hs hown ⟨b,off,none⟩ ys.length c (Qs ys) hx (by unfold Qs;rw[List.length_map,Nat.mul_one]) hc (λu hu=>?_) (by unfold maxLen;omega) (by omega) hC ?_
 ·unfold Qs at hu
  obtain⟨z,_,rfl⟩:=List.mem_map.1 hu
  rfl
 ·intro v' w' r1 r2 _ r4
  obtain⟨a',c',rfl⟩:=Q2 r1
  refine h a' c' w' ?_ (Chg.grown r2 (λb e=>e)) (λg hg=>?_)
  ·show w'.ownsRow C _ 1 _ (zs++ys).length (Qs (zs++ys))
   rw[List.length_append]
   have e:Qs (zs++ys)=Qs zs++Qs ys:=by unfold Qs;rw[List.map_append]
   rw[e]
   exact r1
  ·rcases r4 with r4|r4
   ·exact Or.inl (by rw[<-r4];exact hg)
   ·rw[r4] at hg
    exact Or.inr (by have:=Option.some.inj hg;omega)
def Fr (N:Nt)(v0:Value)(vn vw vr:Nat->Value)(v va:Value):Prop:=∀y,va.ownBlock=some y->v.ownBlock=some y\/∀x∈Js N v0 vn vw vr,x.ownBlock≠some y
section
variable {C:Nat}{w w':World}{v0 v1 v2 v3 v va u:Value}{N:Nt}{vn vw vr:Nat->Value}
theorem Fr.ap (hf:Fr N v0 vn vw vr v va)(hu:u∈Js N v0 vn vw vr)(h:Apv u v):Apv u va:=λg hg ha=>by
 rcases hf g ha with q|q
 ·exact h g hg q
 ·exact q u hu hg
theorem Fr.same:Fr N v0 vn vw vr v v:=λy h=>Or.inl h
theorem irow0:v0∈Js N v0 vn vw vr:=by simp[Js]
theorem irowN {i:Nat}(hi:i<N.ways.length):vn i∈Js N v0 vn vw vr/\vw i∈Js N v0 vn vw vr:=
 ⟨List.mem_append_left _ (List.mem_cons_of_mem _ (prs_in (vn:=vn) (vw:=vw) hi).1),List.mem_append_left _ (List.mem_cons_of_mem _ (prs_in (vn:=vn) (vw:=vw) hi).2)⟩
theorem irowR {j:Nat}(hj:j<N.rels.length):vr j∈Js N v0 vn vw vr:=List.mem_append_right _ (List.mem_map.2 ⟨j,List.mem_range.2 hj,rfl⟩)
theorem Fr.fresh (h:ONt C w v0 v1 v2 v3 N vn vw vr)(hn:∀y,va.ownBlock=some y->w.heap.size<=y):Fr N v0 vn vw vr v va:=λy hy=>Or.inr λx hx e=>by
 have h1:=Vs h x hx y e
 have h2:=hn y hy
 omega
theorem ONt.newV0 {zs:List Int}(h:ONt C w v0 v1 v2 v3 N vn vw vr)(ha:Q6 C w va zs)(hf:Fr N v0 vn vw vr v0 va):ONt C w va v1 v2 v3 ⟨zs,N.ways,N.rels,N.turns,N.uturn⟩ vn vw vr:=by
 have ap:=h.apn
 refine⟨ha,h.ways,h.wn,h.ww,h.rels,h.rw_,h.turns,?_⟩
 have q:ApN N.ways.length N.rels.length va vn vw vr:=⟨λi hi=>⟨(hf.ap (irowN hi).1 (ap.zn i hi).1.symm).symm,(hf.ap (irowN hi).2 (ap.zn i hi).2.symm).symm⟩,λj hj=>(hf.ap (irowR hj) (ap.zr j hj).symm).symm,ap.nn,ap.nw_,ap.nr_,ap.rr⟩
 exact q.apt
theorem ONt.putN {b n c i:Nat}{zs:List Int}(h:ONt C w v0 (.slice (some ⟨b,0,none⟩) n c) v2 v3 N vn vw vr)(hn:N.ways.length=n)(hi:i<N.ways.length)(ha:Q6 C w va zs)(hf:Fr N v0 vn vw vr (vn i) va):ONt C (w.setCell ⟨b,i*4+2,none⟩ va) v0 (.slice (some ⟨b,0,none⟩) n c) v2 v3 ⟨N.nodes,N.ways.set i ⟨(wat N.ways i).id,(wat N.ways i).both,zs,(wat N.ways i).weights⟩,N.rels,N.turns,N.uturn⟩ (upd vn i va) vw vr:=by
 have ap:=h.apn
 have hw:w.ownsRow C 47 4 (.slice (some ⟨b,0,none⟩) n c) n (Vb N.ways vn vw):=by
  have k:=h.ways
  unfold Z1 at k
  rw[hn] at k
  exact k
 obtain⟨cs,hb⟩:=Z6 hw (show(Value.slice (some ⟨b,0,none⟩) n c).ownBlock=some b from rfl)
 obtain⟨x,hx⟩:∃x:Wy,x=⟨(wat N.ways i).id,(wat N.ways i).both,zs,(wat N.ways i).weights⟩:=⟨_,rfl⟩
 have x1:x.id=(wat N.ways i).id:=by rw[hx]
 have x2:x.both=(wat N.ways i).both:=by rw[hx]
 have x3:x.nodes=zs:=by rw[hx]
 have x4:x.weights=(wat N.ways i).weights:=by rw[hx]
 rw[<-hx]
 have hl:(N.ways.set i x).length=N.ways.length:=List.length_set
 refine⟨Q7 h.nodes hb (by decide) _ _,?_,λk hk=>?_,λk hk=>?_,Q7 h.rels hb (by decide) _ _,λk hk=>Q7 (h.rw_ k hk) hb (by decide) _ _,Q7 h.turns hb (by decide) _ _,?_⟩
 ·have k:=Yd (i:=i*4+2) hw va
  have e:(Vb N.ways vn vw).set (i*4+2) va=Vb (N.ways.set i x) (upd vn i va) vw:=by
   unfold Vb
   rw[hl,flat_set (k:=4) (n:=N.ways.length) (i:=i) (q:=2) (f:=λj=>wayL (wat N.ways j) (vn j) (vw j)) (λ_=>rfl) hi (by decide) va]
   refine Vd λj hj=>?_
   rw[Vz hi]
   by_cases e:j=i
   ·subst e;rw[if_pos rfl,if_pos rfl,J4];unfold wayL;rw[x1,x2];rfl
   ·rw[if_neg e,if_neg e,Qv _ _ e]
  rw[e] at k
  show World.ownsRow _ C _ 4 _ (N.ways.set i x).length _
  rw[hl,hn]
  exact k
 ·replace hk:k<N.ways.length:=by rw[<-hl];exact hk
  show Q6 C _ (upd vn i va k) (wat (N.ways.set i x) k).nodes
  rw[Vz hi]
  by_cases e:k=i
  ·subst e
   rw[if_pos rfl,x3,J4]
   exact Q7 ha hb (by decide) _ _
  ·rw[if_neg e,Qv _ _ e]
   exact Q7 (h.wn k hk) hb (by decide) _ _
 ·replace hk:k<N.ways.length:=by rw[<-hl];exact hk
  show Q6 C _ (vw k) (wat (N.ways.set i x) k).weights
  rw[Vz hi]
  by_cases e:k=i
  ·subst e
   rw[if_pos rfl,x4]
   exact Q7 (h.ww k hk) hb (by decide) _ _
  ·rw[if_neg e]
   exact Q7 (h.ww k hk) hb (by decide) _ _
 ·have q:ApN N.ways.length N.rels.length v0 (upd vn i va) vw vr:=by
   refine⟨λk hk=>⟨?_,(ap.zn k hk).2⟩,ap.zr,λk j hk hj hne=>⟨?_,(ap.nn k j hk hj hne).2⟩,λk j hk hj=>?_,λk j hk hj=>⟨?_,(ap.nr_ k j hk hj).2⟩,ap.rr⟩
   ·by_cases e:k=i
    ·subst e;rw[J4];exact hf.ap irow0 (ap.zn k hk).1
    ·rw[Qv _ _ e];exact(ap.zn k hk).1
   ·by_cases e:k=i
    ·subst e;rw[J4,Qv _ _ (λe=>hne e.symm)];exact(hf.ap (irowN hj).1 (ap.nn j k hj hk (λe=>hne e.symm)).1).symm
    ·rw[Qv _ _ e]
     by_cases e2:j=i
     ·subst e2;rw[J4];exact hf.ap (irowN hk).1 (ap.nn k j hk hj hne).1
     ·rw[Qv _ _ e2];exact(ap.nn k j hk hj hne).1
   ·by_cases e:k=i
    ·subst e;rw[J4];exact(hf.ap (irowN hj).2 (ap.nw_ k j hk hj).symm).symm
    ·rw[Qv _ _ e];exact ap.nw_ k j hk hj
   ·by_cases e:k=i
    ·subst e;rw[J4];exact(hf.ap (irowR hj) (ap.nr_ k j hk hj).1.symm).symm
    ·rw[Qv _ _ e];exact(ap.nr_ k j hk hj).1
  have k:=q.apt
  show Apt (Js _ _ _ _ _)
  unfold Js
  simp only[hl]
  exact k
theorem ONt.putW {b n c i:Nat}{zs:List Int}(h:ONt C w v0 (.slice (some ⟨b,0,none⟩) n c) v2 v3 N vn vw vr)(hn:N.ways.length=n)(hi:i<N.ways.length)(ha:Q6 C w va zs)(hf:Fr N v0 vn vw vr (vw i) va):ONt C (w.setCell ⟨b,i*4+3,none⟩ va) v0 (.slice (some ⟨b,0,none⟩) n c) v2 v3 ⟨N.nodes,N.ways.set i ⟨(wat N.ways i).id,(wat N.ways i).both,(wat N.ways i).nodes,zs⟩,N.rels,N.turns,N.uturn⟩ vn (upd vw i va) vr:=by
 have ap:=h.apn
 have hw:w.ownsRow C 47 4 (.slice (some ⟨b,0,none⟩) n c) n (Vb N.ways vn vw):=by
  have k:=h.ways
  unfold Z1 at k
  rw[hn] at k
  exact k
 obtain⟨cs,hb⟩:=Z6 hw (show(Value.slice (some ⟨b,0,none⟩) n c).ownBlock=some b from rfl)
 obtain⟨x,hx⟩:∃x:Wy,x=⟨(wat N.ways i).id,(wat N.ways i).both,(wat N.ways i).nodes,zs⟩:=⟨_,rfl⟩
 have x1:x.id=(wat N.ways i).id:=by rw[hx]
 have x2:x.both=(wat N.ways i).both:=by rw[hx]
 have x3:x.weights=zs:=by rw[hx]
 have x4:x.nodes=(wat N.ways i).nodes:=by rw[hx]
 rw[<-hx]
 have hl:(N.ways.set i x).length=N.ways.length:=List.length_set
 refine⟨Q7 h.nodes hb (by decide) _ _,?_,λk hk=>?_,λk hk=>?_,Q7 h.rels hb (by decide) _ _,λk hk=>Q7 (h.rw_ k hk) hb (by decide) _ _,Q7 h.turns hb (by decide) _ _,?_⟩
 ·have k:=Yd (i:=i*4+3) hw va
  have e:(Vb N.ways vn vw).set (i*4+3) va=Vb (N.ways.set i x) vn (upd vw i va):=by
   unfold Vb
   rw[hl,flat_set (k:=4) (n:=N.ways.length) (i:=i) (q:=3) (f:=λj=>wayL (wat N.ways j) (vn j) (vw j)) (λ_=>rfl) hi (by decide) va]
   refine Vd λj hj=>?_
   rw[Vz hi]
   by_cases e:j=i
   ·subst e;rw[if_pos rfl,if_pos rfl,J4];unfold wayL;rw[x1,x2];rfl
   ·rw[if_neg e,if_neg e,Qv _ _ e]
  rw[e] at k
  show World.ownsRow _ C _ 4 _ (N.ways.set i x).length _
  rw[hl,hn]
  exact k
 ·replace hk:k<N.ways.length:=by rw[<-hl];exact hk
  show Q6 C _ (vn k) (wat (N.ways.set i x) k).nodes
  rw[Vz hi]
  by_cases e:k=i
  ·subst e
   rw[if_pos rfl,x4]
   exact Q7 (h.wn k hk) hb (by decide) _ _
  ·rw[if_neg e]
   exact Q7 (h.wn k hk) hb (by decide) _ _
 ·replace hk:k<N.ways.length:=by rw[<-hl];exact hk
  show Q6 C _ (upd vw i va k) (wat (N.ways.set i x) k).weights
  rw[Vz hi]
  by_cases e:k=i
  ·subst e
   rw[if_pos rfl,x3,J4]
   exact Q7 ha hb (by decide) _ _
  ·rw[if_neg e,Qv _ _ e]
   exact Q7 (h.ww k hk) hb (by decide) _ _
 ·have q:ApN N.ways.length N.rels.length v0 vn (upd vw i va) vr:=by
   refine⟨λk hk=>⟨(ap.zn k hk).1,?_⟩,ap.zr,λk j hk hj hne=>⟨(ap.nn k j hk hj hne).1,?_⟩,λk j hk hj=>?_,λk j hk hj=>⟨(ap.nr_ k j hk hj).1,?_⟩,ap.rr⟩
   ·by_cases e:k=i
    ·subst e;rw[J4];exact hf.ap irow0 (ap.zn k hk).2
    ·rw[Qv _ _ e];exact(ap.zn k hk).2
   ·by_cases e:k=i
    ·subst e;rw[J4,Qv _ _ (λe=>hne e.symm)];exact(hf.ap (irowN hj).2 (ap.nn j k hj hk (λe=>hne e.symm)).2).symm
    ·rw[Qv _ _ e]
     by_cases e2:j=i
     ·subst e2;rw[J4];exact hf.ap (irowN hk).2 (ap.nn k j hk hj hne).2
     ·rw[Qv _ _ e2];exact(ap.nn k j hk hj hne).2
   ·by_cases e:j=i
    ·subst e;rw[J4];exact hf.ap (irowN hk).1 (ap.nw_ k j hk hj)
    ·rw[Qv _ _ e];exact ap.nw_ k j hk hj
   ·by_cases e:k=i
    ·subst e;rw[J4];exact(hf.ap (irowR hj) (ap.nr_ k j hk hj).2.symm).symm
    ·rw[Qv _ _ e];exact(ap.nr_ k j hk hj).2
  have k:=q.apt
  show Apt (Js _ _ _ _ _)
  unfold Js
  simp only[hl]
  exact k
def setL (l:List Value)(p:Nat):List Value->List Value
 |[]=>l
 |v::vs=>setL (l.set p v) (p+1) vs
theorem flat_sets {k n i:Nat}(hi:i<n):∀(vs:List Value) (q:Nat) (f:Nat->List Value),(∀j,(f j).length=k)->q+vs.length<=k->setL ((List.range n).flatMap f) (i*k+q) vs=(List.range n).flatMap (λj=>if j=i then setL (f j) q vs else f j)
 |[],q,f,_,_=>by
  show _=_
  refine Vd λj hj=>?_
  by_cases e:j=i
  ·rw[if_pos e];rfl
  ·rw[if_neg e]
 |v::vs,q,f,hf,hq=>by
  simp only[List.length_cons] at hq
  show setL (((List.range n).flatMap f).set (i*k+q) v) (i*k+q+1) vs=_
  rw[flat_set hf hi (by omega) v,Nat.add_assoc,flat_sets hi vs (q+1) (λj=>if j=i then (f j).set q v else f j) (λj=>by split<;>simp[hf]) (by omega)]
  refine Vd λj hj=>?_
  by_cases e:j=i
  ·rw[if_pos e,if_pos e,if_pos e];rfl
  ·rw[if_neg e,if_neg e,if_neg e]
theorem ONt.putR {b n c i:Nat}{x:Rl}(h:ONt C w v0 v1 (.slice (some ⟨b,0,none⟩) n c) v3 N vn vw vr)(hn:N.rels.length=n)(hi:i<N.rels.length)(ha:Q6 C w va x.ways)(hf:Fr N v0 vn vw vr (vr i) va) :
  ONt C (((((((w.setCell ⟨b,i*7,none⟩ (.int .i64 x.id)).setCell ⟨b,i*7+1,none⟩ (.bool x.only)).setCell ⟨b,i*7+2,none⟩ (.int .i64 x.frm)).setCell ⟨b,i*7+3,none⟩ (.int .i64 x.to)).setCell ⟨b,i*7+4,none⟩ (.bool x.via)).setCell ⟨b,i*7+5,none⟩ (.int .i64 x.node)).setCell ⟨b,i*7+6,none⟩ va) v0 v1 (.slice (some ⟨b,0,none⟩) n c) v3 ⟨N.nodes,N.ways,N.rels.set i x,N.turns,N.uturn⟩ vn vw (upd vr i va):=by
 have ap:=h.apn
 have hw:w.ownsRow C 41 7 (.slice (some ⟨b,0,none⟩) n c) n (rrow N.rels vr):=by
  have k:=h.rels
  unfold OwnRl at k
  rw[hn] at k
  exact k
 have hl:(N.rels.set i x).length=N.rels.length:=List.length_set
 have S:∀{a c2:World} (j:Nat) (y:Value),Chg (λz=>some z=(Value.slice (some ⟨b,0,none⟩) n c).ownBlock) a c2->Chg (λz=>some z=(Value.slice (some ⟨b,0,none⟩) n c).ownBlock) a (c2.setCell ⟨b,j,none⟩ y):=λj y hc=>hc.trans (Chg.set b j y rfl)
 refine h.setRel hi ?_ (S _ _ (S _ _ (S _ _ (S _ _ (S _ _ (S _ _ (S _ _ (Chg.nx (Nx.refl _))))))))) ha (hf.ap irow0 (ap.zr i hi)) (λj hj=>⟨hf.ap (irowN hj).1 (ap.nr_ j i hj hi).1,hf.ap (irowN hj).2 (ap.nr_ j i hj hi).2⟩) (λj hj e=>hf.ap (irowR hj) (ap.rr j i hj hi e))
 have e:setL (rrow N.rels vr) (i*7+0) [.int .i64 x.id,.bool x.only,.int .i64 x.frm,.int .i64 x.to,.bool x.via,.int .i64 x.node,va]=rrow (N.rels.set i x) (upd vr i va):=by
  unfold rrow
  rw[flat_sets hi _ 0 (λj=>relL (rat N.rels j) (vr j)) (k:=7) (λ_=>rfl) (Nat.le_refl _),hl]
  refine Vd λj hj=>?_
  rw[rat_set hi]
  by_cases e:j=i
  ·subst e;rw[if_pos rfl,if_pos rfl,J4];rfl
  ·rw[if_neg e,if_neg e,Qv _ _ e]
 rw[<-e,hn]
 exact Yd (Yd (Yd (Yd (Yd (Yd (Yd hw _) _) _) _) _) _) _
end
structure SPs (D b C:Nat)(w0 w:World)(v0 v1 v2 v3:Value)(N:Nt)(S:Src)(vn vw vr:Nat->Value):Prop where
 chg:Chg (λx=>x=b\/C<=x) w0 w
 src:Jg D w b S
 box:BT w w0.heap.size #[v0,v1,v2,v3,.int .i64 N.uturn] 28
 res:BT w (w0.heap.size+1) #[.slice none 0 0,.slice none 0 0,.slice none 0 0,.slice none 0 0,.int .i64 0] 28
 net:ONt C w v0 v1 v2 v3 N vn vw vr
 low:C<=w0.heap.size
def SPx (D b C:Nat)(w0 w:World)(X:Nt×Src):Prop:=∃v0 v1 v2 v3 vn vw vr,SPs D b C w0 w v0 v1 v2 v3 X.1 X.2 vn vw vr
section
variable {D b C:Nat}{w0 w w':World}{v0 v1 v2 v3 u0 u1 u2 u3:Value}{N N':Nt}{S S':Src}{vn vw vr un uw ur:Nat->Value}
theorem SPs.x (h:SPs D b C w0 w v0 v1 v2 v3 N S vn vw vr):SPx D b C w0 w (N,S):=⟨_,_,_,_,_,_,_,h⟩
theorem SPs.next (h:SPs D b C w0 w v0 v1 v2 v3 N S vn vw vr)(k:Nx w w'):SPs D b C w0 w' v0 v1 v2 v3 N S vn vw vr:=⟨h.chg.trans (Chg.nx k),h.src.next k,h.box.next k,h.res.next k,h.net.next k,h.low⟩
theorem SPs.drawn (h:SPs D b C w0 w v0 v1 v2 v3 N S vn vw vr)(hS:Jg D w' b S')(k:Chg (Sx1 b) w w'):SPs D b C w0 w' v0 v1 v2 v3 N S' vn vw vr:=by
 have hn:=h.net.src h.src k
 obtain⟨v,hb,_⟩:=h.src
 exact⟨h.chg.trans (k.mono λx hx=>Or.inl hx),hS,h.box.chg k (h.box.ne hb (by decide)),h.res.chg k (h.res.ne hb (by decide)),hn,h.low⟩
theorem src_turn {g t:Nat}{cs:Array Value}(h:Jg D w b S)(hg:BT w g cs t)(ht:t≠73/\t≠5)(hc:Chg (λx=>x=g) w w'):Jg D w' b S:=h.chg hc (λx hx=>by
 have e:x=g:=hx
 subst e
 exact⟨cs,t,hg,ht⟩)
theorem SPs.write {g t:Nat}{cs:Array Value}(h:SPs D b C w0 w v0 v1 v2 v3 N S vn vw vr)(hg:BT w g cs t)(ht:(t≠73/\t≠5)/\28≠t)(hC:C<=g)(hc:Chg (λx=>x=g) w w')(hN:ONt C w' v0 v1 v2 v3 N' un uw ur)(hu:N'.uturn=N.uturn):SPs D b C w0 w' v0 v1 v2 v3 N' S un uw ur:=
 ⟨h.chg.trans (hc.mono λx hx=>Or.inr (by have e:x=g:=hx;omega)),src_turn h.src hg ht.1 hc,by rw[hu];exact h.box.chg hc (h.box.ne hg ht.2),h.res.chg hc (h.res.ne hg ht.2),hN,h.low⟩
theorem SPs.lay (j:Nat)(v:Value)(h:SPs D b C w0 w v0 v1 v2 v3 N S vn vw vr)(hN:ONt C w u0 u1 u2 u3 N' un uw ur)(e:(#[v0,v1,v2,v3,.int .i64 N.uturn]:Array Value).setIfInBounds j v=#[u0,u1,u2,u3,.int .i64 N'.uturn]):SPs D b C w0 (w.setCell ⟨w0.heap.size,j,none⟩ v) u0 u1 u2 u3 N' S un uw ur:=by
 have hc:Chg (λx=>x=w0.heap.size) w (w.setCell ⟨w0.heap.size,j,none⟩ v):=Chg.set _ _ _ rfl
 refine⟨h.chg.trans (hc.mono λx hx=>Or.inr (by have e:x=w0.heap.size:=hx;have:=h.low;omega)),src_turn h.src h.box (by decide) hc,?_,h.res.chg hc (show ¬(w0.heap.size+1=w0.heap.size) by omega),hN.turnBox h.box (by decide) (λe=>absurd e (by decide)) hc,h.low⟩
 have k:=h.box.set j v
 rw[e] at k
 exact k
end
structure SpIn (m:Nat)(X:Nt×Src):Prop where
 ok:SOk X.2
 n1:1<=X.1.nodes.length
 n2:X.1.nodes.length<=m
 wl:X.1.ways.length<=900000
 wy:∀i,i<X.1.ways.length->(1<=(wat X.1.ways i).nodes.length/\(wat X.1.ways i).nodes.length<=900000)/\1<=(wat X.1.ways i).weights.length/\(wat X.1.ways i).weights.length<=900000
 rl:X.1.rels.length<=900000
 rw_:∀i,i<X.1.rels.length->(rat X.1.rels i).ways.length<=900000
 tl:X.1.turns.length<=900000
section
variable {m:Nat}{k:Int}{X:Nt×Src}
theorem sp0_in (h:SpIn m X):SpIn m (sp0 k X):=by
 unfold sp0
 split
 ·exact⟨h.ok,h.n1,h.n2,h.wl,h.wy,h.rl,h.rw_,h.tl⟩
 ·exact h
theorem sp1_in (h:SpIn m X):SpIn m (sp1 k X):=by
 unfold sp1
 split
 ·exact⟨h.ok,h.n1,h.n2,h.wl,h.wy,h.rl,h.rw_,h.tl⟩
 ·exact h
theorem sp2_in (h:SpIn m X):SpIn m (sp2 k X):=by
 unfold sp2
 split
 ·exact⟨h.ok,by simp only[List.length_set];exact h.n1,by simp only[List.length_set];exact h.n2,h.wl,h.wy,h.rl,h.rw_,h.tl⟩
 ·exact h
theorem sp3_in (h:SpIn m X):SpIn m (sp3 k X):=by
 unfold sp3
 split
 ·exact⟨Qm h.ok 2,by simp only[List.length_set];exact h.n1,by simp only[List.length_set];exact h.n2,h.wl,h.wy,h.rl,h.rw_,h.tl⟩
 ·exact h
theorem sp4_in (h:SpIn m X):SpIn (m+1) (sp4 k X):=by
 have:=h.n2
 unfold sp4
 split
 ·exact⟨h.ok,by simp only[List.length_cons];omega,by simp only[List.length_cons];omega,h.wl,h.wy,h.rl,h.rw_,h.tl⟩
 ·exact⟨h.ok,h.n1,by omega,h.wl,h.wy,h.rl,h.rw_,h.tl⟩
structure SpRn (X:Nt×Src):Prop where
 ok:SOk X.2
 rl:X.1.rels.length<=900000
 rw_:∀i,i<X.1.rels.length->(rat X.1.rels i).ways.length<=900000
 tl:X.1.turns.length<=900000
theorem spWy_ok {N:Nt}{x:Wy}{S:Src}(h:SOk S):SOk (spWy k N x S).2:=by
 unfold spWy
 repeat (first|exact h|exact Qm h _|split)
theorem spW_in (h:SpIn m X):SpRn (spW k X):=by
 unfold spW
 split
 ·exact⟨h.ok,h.rl,h.rw_,h.tl⟩
 ·split
  ·exact⟨Qm (Qm h.ok X.1.ways.length) 2,h.rl,h.rw_,h.tl⟩
  ·split
   ·exact⟨spWy_ok (Qm h.ok X.1.ways.length),h.rl,h.rw_,h.tl⟩
   ·exact⟨Qm h.ok X.1.ways.length,h.rl,h.rw_,h.tl⟩
theorem spR_in (h:SpRn X):SOk (spR k X).2/\(spR k X).1.turns.length<=900000:=by
 unfold spR
 split
 ·exact⟨h.ok,h.tl⟩
 ·exact⟨Qm h.ok X.1.rels.length,h.tl⟩
end
theorem Q6.open {C:Nat}{w:World}{v:Value}{zs:List Int}(h:Q6 C w v zs)(hp:0<zs.length):∃g c cs,v=.slice (some ⟨g,0,none⟩) zs.length c/\C<=g/\zs.length<=c/\BT w g cs 2/\∀i,i<zs.length->w.cell? ⟨g,i,none⟩=some (.int .i64 (iat zs i)):=by
 have h0:=h
 obtain⟨h1,h2⟩:=h
 rcases h2 with⟨_,h3⟩|⟨g,cap,cur,hv,hg,hh,hc,hm,hs,ht⟩
 ·omega
 ·refine⟨g,cap,cur,hv,hg,hc,hh,λi hi=>?_⟩
  have e:(cur.toList.take (zs.length*1))[i]?=(Qs zs)[i]?:=by rw[ht]
  rw[List.getElem?_take_of_lt (by omega),Array.getElem?_toList,icells_at hi] at e
  have hh':w.heap[g]?=some (.cells cur 2 (0,0)):=hh
  unfold World.cell?
  simp[hh',e]
theorem Q6.in {C g n c j:Nat}{w:World}{zs:List Int}(h:Q6 C w (.slice (some ⟨g,0,none⟩) n c) zs)(hj:j<zs.length):C<=g/\(∃cs,BT w g cs 2)/\w.cell? ⟨g,j,none⟩=some (.int .i64 (iat zs j)):=by
 obtain⟨g',c',cs,e,hg,-,hb,hc⟩:=h.open (by omega)
 simp only[Value.slice.injEq,Option.some.injEq,Addr.mk.injEq] at e
 obtain⟨⟨rfl,-⟩,-⟩:=e
 exact⟨hg,⟨cs,hb⟩,hc j hj⟩
section
variable {C g n c i:Nat}{w:World}{v0 v1 v2 v3:Value}{N:Nt}{vn vw vr:Nat->Value}
theorem ONt.way (h:ONt C w v0 (.slice (some ⟨g,0,none⟩) n c) v2 v3 N vn vw vr)(hi:i<N.ways.length):C<=g/\(∃cs,BT w g cs 47)/\w.cell? ⟨g,i*4,none⟩=some (.int .i64 (wat N.ways i).id)/\w.cell? ⟨g,i*4+2,none⟩=some (vn i)/\w.cell? ⟨g,i*4+3,none⟩=some (vw i):=by
 obtain⟨g',c',e,hg,-,k0,-,k2,k3⟩:=h.ways.at hi
 simp only[Value.slice.injEq,Option.some.injEq,Addr.mk.injEq] at e
 obtain⟨⟨rfl,-⟩,-⟩:=e
 exact⟨hg,Z6 h.ways rfl,k0,k2,k3⟩
theorem ONt.rel (h:ONt C w v0 v1 (.slice (some ⟨g,0,none⟩) n c) v3 N vn vw vr)(hi:i<N.rels.length):C<=g/\(∃cs,BT w g cs 41)/\w.cell? ⟨g,i*7,none⟩=some (.int .i64 (rat N.rels i).id)/\w.cell? ⟨g,i*7+1,none⟩=some (.bool (rat N.rels i).only)/\w.cell? ⟨g,i*7+2,none⟩=some (.int .i64 (rat N.rels i).frm)/\w.cell? ⟨g,i*7+3,none⟩=some (.int .i64 (rat N.rels i).to)/\w.cell? ⟨g,i*7+4,none⟩=some (.bool (rat N.rels i).via)/\w.cell? ⟨g,i*7+5,none⟩=some (.int .i64 (rat N.rels i).node)/\w.cell? ⟨g,i*7+6,none⟩=some (vr i):=by
 obtain⟨g',c',e,hg,-,k⟩:=h.rels.at hi
 simp only[Value.slice.injEq,Option.some.injEq,Addr.mk.injEq] at e
 obtain⟨⟨rfl,-⟩,-⟩:=e
 exact⟨hg,Z6 h.rels rfl,k⟩
theorem ONt.turn (h:ONt C w v0 v1 v2 (.slice (some ⟨g,0,none⟩) n c) N vn vw vr)(hi:i<N.turns.length):C<=g/\(∃cs,BT w g cs 63)/\w.cell? ⟨g,i*3+1,none⟩=some (.int .i64 (tat N.turns i).to)/\w.cell? ⟨g,i*3+2,none⟩=some (.int .i64 (tat N.turns i).cost):=by
 have h3:=h.turns
 obtain⟨g',c',e,-,-,hg,-,k⟩:=Z5 (l:=N.turns) (f:=Y3) h3 rfl (by decide) (λ_=>rfl) (i:=i) (x:=tat N.turns i) (by simp[tat,List.getD_eq_getElem?_getD,hi])
 simp only[Value.slice.injEq,Option.some.injEq,Addr.mk.injEq] at e
 obtain⟨⟨rfl,-⟩,-⟩:=e
 exact⟨hg,Z6 h3 rfl,k 1 (by omega),k 2 (by omega)⟩
end
section
variable {D b C:Nat}{w0 w:World}{v0 v1 v2 v3:Value}{N:Nt}{S:Src}{vn vw vr:Nat->Value}
theorem SPs.s0 (h:SPs D b C w0 w v0 v1 v2 v3 N S vn vw vr)(hp:0<N.nodes.length):∃g c,v0=.slice (some ⟨g,0,none⟩) N.nodes.length c:=by
 obtain⟨g,c,cs,e,-⟩:=h.net.nodes.open hp
 exact⟨g,c,e⟩
theorem SPs.s1 (h:SPs D b C w0 w v0 v1 v2 v3 N S vn vw vr)(hp:0<N.ways.length):∃g c,v1=.slice (some ⟨g,0,none⟩) N.ways.length c:=by
 obtain⟨g,c,e,-⟩:=h.net.ways.at hp
 exact⟨g,c,e⟩
theorem SPs.s2 (h:SPs D b C w0 w v0 v1 v2 v3 N S vn vw vr)(hp:0<N.rels.length):∃g c,v2=.slice (some ⟨g,0,none⟩) N.rels.length c:=by
 obtain⟨g,c,e,-⟩:=h.net.rels.at hp
 exact⟨g,c,e⟩
theorem SPs.s3 (h:SPs D b C w0 w v0 v1 v2 v3 N S vn vw vr)(hp:0<N.turns.length):∃g c,v3=.slice (some ⟨g,0,none⟩) N.turns.length c:=by
 obtain⟨g,c,e,-⟩:=Z5 (l:=N.turns) (f:=Y3) h.net.turns rfl (by decide) (λ_=>rfl) (i:=0) (x:=tat N.turns 0) (by simp[tat,List.getD_eq_getElem?_getD,hp])
 exact⟨g,c,e⟩
theorem SPx.box {X:Nt×Src}(h:SPx D b C w0 w X):∃a0 c0 a1 c1 a2 c2 a3 c3,w.cell? ⟨w0.heap.size,0,none⟩=some (.slice a0 X.1.nodes.length c0)/\w.cell? ⟨w0.heap.size,1,none⟩=some (.slice a1 X.1.ways.length c1)/\w.cell? ⟨w0.heap.size,2,none⟩=some (.slice a2 X.1.rels.length c2)/\w.cell? ⟨w0.heap.size,3,none⟩=some (.slice a3 X.1.turns.length c3):=by
 obtain⟨v0,v1,v2,v3,vn,vw,vr,h⟩:=h
 obtain⟨a0,c0,rfl⟩:=Q2 h.net.nodes
 obtain⟨a1,c1,rfl⟩:=Q2 h.net.ways
 obtain⟨a2,c2,rfl⟩:=Q2 h.net.rels
 obtain⟨a3,c3,rfl⟩:=Q2 h.net.turns
 exact⟨a0,c0,a1,c1,a2,c2,a3,c3,h.box.blk.cell (i:=0) rfl,h.box.blk.cell (i:=1) rfl,h.box.blk.cell (i:=2) rfl,h.box.blk.cell (i:=3) rfl⟩
end
theorem spW_at {k:Int}{N:Nt}{S:Src}{i:Nat}(hn:¬N.ways.length=0)(hk:5<=k/\k<11)(hi:(nv S N.ways.length).toNat=i):spW k (N,S)=(nWy N i (spWy k N (wat N.ways i) (ns S N.ways.length)).1,(spWy k N (wat N.ways i) (ns S N.ways.length)).2):=by
 unfold spW
 simp only
 rw[if_neg hn,if_neg (by omega),if_pos hk,hi]
theorem own1 {C:Nat}{w:World}{z:Int}(hC:C<=w.heap.size):Q6 C (w.alloc (.cells #[.int .i64 z] 2)) (.slice (some ⟨w.heap.size,0,none⟩) 1 1) [z]:=
 ⟨rfl,Or.inr ⟨w.heap.size,1,#[.int .i64 z],rfl,hC,BT.new _ _ _ _ rfl,Nat.le_refl _,by simp[maxLen],rfl,rfl⟩⟩
theorem own0 {C:Nat}{w:World}(hC:C<=w.heap.size):Q6 C (w.alloc (.cells #[] 2)) (.slice (some ⟨w.heap.size,0,none⟩) 0 0) []:=
 ⟨rfl,Or.inr ⟨w.heap.size,0,#[],rfl,hC,BT.new _ _ _ _ rfl,Nat.le_refl _,by simp[maxLen],rfl,rfl⟩⟩
theorem nx_app {w w8:World}{o:Obj}{n c:Nat}(r2:Chg (λx=>some x=(Value.slice (some ⟨w.heap.size,0,none⟩) n c).ownBlock) (w.alloc o) w8):Nx w w8:=
 Below.trans (Qc w o) (r2.below (B:=w.heap.size) (by have:=(Qc w o).size;omega) (λx hx=>by have e:x=w.heap.size:=Option.some.inj hx;omega))
theorem at_app {w:World}{n c:Nat}{v:Value}(r3:∀g,v.ownBlock=some g->(Value.slice (some ⟨w.heap.size,0,none⟩) n c).ownBlock=some g\/w.heap.size+1<=g):∀y,v.ownBlock=some y->w.heap.size<=y:=λy hy=>by
 rcases r3 y hy with e|e
 ·have e':w.heap.size=y:=Option.some.inj e
  omega
 ·omega
def relA (x:Rl)(va:Value):Array Value:=#[.int .i64 x.id,.bool x.only,.int .i64 x.frm,.int .i64 x.to,.bool x.via,.int .i64 x.node,va]
structure RSs (D b C:Nat)(w0 w:World)(g i:Nat)(v0 v1 v2 v3:Value)(N:Nt)(S:Src)(vn vw vr:Nat->Value)(x:Rl)(va:Value):Prop where
 st:SPs D b C w0 w v0 v1 v2 v3 N S vn vw vr
 bx:BT w g (relA x va) 41
 row:Q6 C w va x.ways
 fr:Fr N v0 vn vw vr (vr i) va
 ne:v2.ownBlock≠some g
 low:C<=g
def RSx (D b C:Nat)(w0 w:World)(g i:Nat)(N:Nt)(S:Src)(x:Rl):Prop:=∃v0 v1 v2 v3 vn vw vr va,RSs D b C w0 w g i v0 v1 v2 v3 N S vn vw vr x va
section
variable {D b C g i:Nat}{w0 w w':World}{v0 v1 v2 v3 va vb:Value}{N:Nt}{S:Src}{vn vw vr:Nat->Value}{x y:Rl}
theorem RSs.put (j:Nat)(v:Value)(h:RSs D b C w0 w g i v0 v1 v2 v3 N S vn vw vr x va)(ho:Q6 C w vb y.ways)(hf:Fr N v0 vn vw vr (vr i) vb)(e:(relA x va).setIfInBounds j v=relA y vb):RSx D b C w0 (w.setCell ⟨g,j,none⟩ v) g i N S y:=by
 have hc:Chg (λx=>x=g) w (w.setCell ⟨g,j,none⟩ v):=Chg.set _ _ _ rfl
 have k:=h.bx.set j v
 rw[e] at k
 exact⟨_,_,_,_,_,_,_,vb,h.st.write h.bx (by decide) h.low hc (h.st.net.turnBox h.bx (by decide) (λ_=>h.ne) hc) rfl,k,Q7 ho h.bx (by decide) _ _,hf,h.ne,h.low⟩
theorem RSs.next (h:RSs D b C w0 w g i v0 v1 v2 v3 N S vn vw vr x va)(k:Nx w w'):RSs D b C w0 w' g i v0 v1 v2 v3 N S vn vw vr x va:=⟨h.st.next k,h.bx.next k,h.row.next k,h.fr,h.ne,h.low⟩
end
section
variable {k:Int}{x:Rl}
theorem sr12_w:(sr12 k x).ways=x.ways:=by unfold sr12;split<;>rfl
theorem sr13_w:(sr13 k x).ways=x.ways:=by unfold sr13;split<;>rfl
theorem sr14_w:(sr14 k x).ways=x.ways:=by unfold sr14;split<;>rfl
theorem sr15_w:(sr15 k x).ways=x.ways:=by unfold sr15;split<;>rfl
end
theorem nWy_two {N:Nt}{i:Nat}{x y:Wy}(hi:i<N.ways.length):nWy (nWy N i x) i y=nWy N i y:=by
 unfold nWy
 simp only[List.set_set]
theorem nWy_at {N:Nt}{i:Nat}{x:Wy}(hi:i<N.ways.length):wat (nWy N i x).ways i=x:=by
 show wat (N.ways.set i x) i=x
 rw[Vz hi,if_pos rfl]
end Go.Proofs.YthhbdfiopjclcaaGreatDoor
