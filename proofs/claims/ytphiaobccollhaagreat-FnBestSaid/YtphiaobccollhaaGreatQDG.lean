import Derived.Test.YtphiaobccollhaaGreatQYD
import Derived.Test.YtphiaobccollhaaGreatQDD
namespace Go.Proofs.YtphiaobccollhaaGreat
open Go.RowKit Go.Sort
set_option linter.unusedVariables false
set_option maxRecDepth 1000000
set_option maxHeartbeats 16000000
variable {C n sz t:Nat}{w:World}{v:Value}{xs:List Value}{S:Src}{z:Int}
theorem Q1q {g:Nat}(h:w.ownsRow C t sz v n xs)(hg:v.ownBlock=some g):∃cs,BT w g cs t:=by
 rcases h.2 with⟨rfl,_⟩|⟨b,cap,cur,rfl,_,hh,_⟩
 ·cases hg
 ·have e:b=g:=by simpa [Value.ownBlock] using hg
  subst e
  exact⟨cur,hh⟩
theorem Xe {C' u sz' m:Nat}{w':World}{v':Value}{ys:List Value}(h:w.ownsRow C t sz v n xs)(k:w.ownsRow C' u sz' v' m ys)(hn:t≠u)(hc:Chg (λx=>some x=v'.ownBlock) w w'):w'.ownsRow C t sz v n xs:=
 J5 h hc (λg hg hs=>by
  obtain⟨cs,hb⟩:=Q1q h hg
  exact hb.neRow k hn hs)
theorem Jj.row {D b:Nat}{w':World}(h:Jj D w b S)(k:w.ownsRow C t sz v n xs)(h1:t≠44)(h2:t≠5)(hc:Chg (λx=>some x=v.ownBlock) w w'):Jj D w' b S:=
 h.chg hc (λx hx=>by
  obtain⟨cs,hb⟩:=Q1q k hx.symm
  exact⟨cs,t,hb,h1,h2⟩)
theorem Jj.set {D g b:Nat}{cs:Array Value}(h:Jj D w b S)(k:BT w g cs t)(h1:t≠44)(h2:t≠5)(i:Nat)(v:Value):Jj D (w.setCell (aD g i) v) b S:=
 h.chg (Chg.set (S:=λx=>x=g) _ _ _ rfl) (λx hx=>by
  have hx':=hx
  subst hx'
  exact⟨cs,t,k,h1,h2⟩)
def E7:Array Value:=#[sN,sN,sN,sN,iV 0]
def prs (n:Nat)(vn vw:Nat->Value):List Value:=(List.range n).flatMap λi=>[vn i,vw i]
structure DBs (C D b:Nat)(w:World)(S:Src)(v0 v1 v3:Value)(nodes:List Int)(ws:List Wy)(vn vw:Nat->Value)(ts:List Tn):Prop where
 src:Jj D w b S
 res:BT w C E7 60
 box:BT w (C+1) #[v0,v1,sN,v3,iV 0] 60
 nd:Q5 C w v0 nodes
 wys:Fj C w v1 ws vn vw
 wn:∀i,i<ws.length->Q5 C w (vn i) (wat ws i).nodes
 ww:∀i,i<ws.length->Q5 C w (vw i) (wat ws i).weights
 tn:Q08 C w v3 ts
 ap:Apt (v0::prs ws.length vn vw)
section
variable {C D b:Nat}{w w':World}{S S':Src}{v0 v1 v3:Value}{nodes:List Int}{ws:List Wy}{vn vw:Nat->Value}{ts:List Tn}
theorem DBs.next (h:DBs C D b w S v0 v1 v3 nodes ws vn vw ts)(k:Nx w w'):DBs C D b w' S v0 v1 v3 nodes ws vn vw ts:=
 ⟨h.src.next k,h.res.next k,h.box.next k,h.nd.next k,Vc h.wys k,λi hi=>(h.wn i hi).next k,λi hi=>(h.ww i hi).next k,Vc h.tn k,h.ap⟩
theorem DBs.drawn (h:DBs C D b w S v0 v1 v3 nodes ws vn vw ts)(hS:Jj D w' b S')(k:Chg (Sx1 b) w w'):DBs C D b w' S' v0 v1 v3 nodes ws vn vw ts:=by
 obtain⟨v,hb,_⟩:=h.src
 have key:∀{t sz n:Nat}{u:Value}{xs:List Value},w.ownsRow C t sz u n xs->44≠t->w'.ownsRow C t sz u n xs:=λhr ht=>J5 hr k (λg hg hx=>by
  have hx':g=b:=hx
  subst hx'
  exact hb.neRow hr ht hg.symm)
 exact⟨hS,h.res.chg k (h.res.ne hb (by decide)),h.box.chg k (h.box.ne hb (by decide)),key h.nd (by decide),key h.wys (by decide),λi hi=>key (h.wn i hi) (by decide),λi hi=>key (h.ww i hi) (by decide),key h.tn (by decide),h.ap⟩
theorem Q1v {x:Value}(h:x∈prs n vn vw):∃i,i<n/\(x=vn i\/x=vw i):=by
 obtain⟨i,hi,hx⟩:=List.mem_flatMap.1 h
 refine⟨i,List.mem_range.1 hi,?_⟩
 simpa using hx
theorem Qaq {i:Nat}(hi:i<n):vn i∈prs n vn vw/\vw i∈prs n vn vw:=⟨List.mem_flatMap.2 ⟨i,List.mem_range.2 hi,by simp⟩,List.mem_flatMap.2 ⟨i,List.mem_range.2 hi,by simp⟩⟩
theorem DBs.addNode (h:DBs C D b w S v0 v1 v3 nodes ws vn vw ts)(hr:Q5 C w' v (nodes++[z]))(hc:Chg (λx=>some x=v0.ownBlock) w w')(ha:∀g,v.ownBlock=some g->v0.ownBlock=some g\/w.heap.size<=g) :
  DBs C D b (w'.setCell (aD (C+1) 0) v) S v v1 v3 (nodes++[z]) ws vn vw ts:=by
 have hbox:=h.box.row h.nd (by decide) hc
 have ap:=List.pairwise_cons.1 h.ap
 have far:∀{u:Value}{zs:List Int},u∈prs ws.length vn vw->Q5 C w u zs->Q5 C (w'.setCell (aD (C+1) 0) v) u zs:=λhu ho=>Qk (Uv ho (λg hg=>ap.1 _ hu g hg) hc) hbox (by decide) _ _
 refine⟨(h.src.row h.nd (by decide) (by decide) hc).set hbox (by decide) (by decide) _ _,(h.res.row h.nd (by decide) hc).setOther (by omega) _ _,hbox.set 0 v,Qk hr hbox (by decide) _ _,Qk (Xe h.wys h.nd (by decide) hc) hbox (by decide) _ _,λi hi=>far (Qaq hi).1 (h.wn i hi),λi hi=>far (Qaq hi).2 (h.ww i hi),Qk (Xe h.tn h.nd (by decide) hc) hbox (by decide) _ _,List.pairwise_cons.2 ⟨λu hu g hg=>?_,ap.2⟩⟩
 rcases ha g hg with e|e
 ·exact ap.1 u hu g e
 ·obtain⟨i,hi,rfl|rfl⟩:=Q1v hu
  ·intro e2
   have:=(Q7 (h.wn i hi) g e2).2
   omega
  ·intro e2
   have:=(Q7 (h.ww i hi) g e2).2
   omega
theorem Q3h (n:Nat)(vn vw:Nat->Value)(a c:Value):prs (n+1) (upd vn n a) (upd vw n c)=prs n vn vw++[a,c]:=by
 unfold prs
 rw[List.range_succ,List.flatMap_append]
 congr 1
 ·refine Kv λi hi=>?_
  have hi':=List.mem_range.1 hi
  rw[Jq _ _ (by omega),Jq _ _ (by omega)]
 ·simp[Vp]
theorem DBs.addWay (h:DBs C D b w S v0 v1 v3 nodes ws vn vw ts){z:Nat}(hz:∀u∈v0::prs ws.length vn vw,∀g,u.ownBlock=some g->g<z){va vb:Value}{x:Wy}(hr:w'.ownsRow C 93 4 v (ws.length+1) (G8 ws vn vw++Q8c x va vb))(hc:Chg (λy=>some y=v1.ownBlock) w w')
  (ha:Q5 z w va x.nodes) (hb:Q5 z w vb x.weights) (hCz:C<=z) (hab:∀g,va.ownBlock=some g->vb.ownBlock≠some g) :
  DBs C D b (w'.setCell (aD (C+1) 1) v) S v0 v v3 nodes (ws++[x]) (upd vn ws.length va) (upd vw ws.length vb) ts:=by
 have hbox:=h.box.row h.wys (by decide) hc
 have far:∀{u:Value}{zs:List Int},Q5 C w u zs->Q5 C (w'.setCell (aD (C+1) 1) v) u zs:=λho=>Qk (Xe ho h.wys (by decide) hc) hbox (by decide) _ _
 have hl:(ws++[x]).length=ws.length+1:=by simp
 refine⟨(h.src.row h.wys (by decide) (by decide) hc).set hbox (by decide) (by decide) _ _,(h.res.row h.wys (by decide) hc).setOther (by omega) _ _,hbox.set 1 v,far h.nd,?_,λi hi=>?_,λi hi=>?_,Qk (Xe h.tn h.wys (by decide) hc) hbox (by decide) _ _,?_⟩
 ·unfold Fj
  rw[hl,Q0b]
  exact Qk hr hbox (by decide) _ _
 ·by_cases e:i=ws.length
  ·subst e
   rw[Vp,Wo]
   exact far (ha.base hCz)
  ·rw[Jq _ _ e,Wn (by omega)]
   exact far (h.wn i (by omega))
 ·by_cases e:i=ws.length
  ·subst e
   rw[Vp,Wo]
   exact far (hb.base hCz)
  ·rw[Jq _ _ e,Wn (by omega)]
   exact far (h.ww i (by omega))
 ·rw[hl,Q3h]
  have new:∀u∈v0::prs ws.length vn vw,∀t∈[va,vb],∀g,u.ownBlock=some g->t.ownBlock≠some g:=λu hu t ht g hg e=>by
   have h1:=hz u hu g hg
   simp at ht
   rcases ht with rfl|rfl
   ·have:=(Q7 ha g e).1;omega
   ·have:=(Q7 hb g e).1;omega
  show Apt ((v0::prs ws.length vn vw)++[va,vb])
  refine List.pairwise_append.2 ⟨h.ap,?_,new⟩
  refine List.pairwise_cons.2 ⟨λu hu g hg=>?_,List.pairwise_singleton _ _⟩
  have:u=vb:=by simpa using hu
  subst this
  exact hab g hg
theorem DBs.setTurns (h:DBs C D b w S v0 v1 v3 nodes ws vn vw ts){us:List Tn}(hr:Q08 C w v us):DBs C D b (w.setCell (aD (C+1) 3) v) S v0 v1 v nodes ws vn vw us:=
 ⟨h.src.set h.box (by decide) (by decide) _ _,h.res.setOther (by omega) _ _,h.box.set 3 v,Qk h.nd h.box (by decide) _ _,Qk h.wys h.box (by decide) _ _,λi hi=>Qk (h.wn i hi) h.box (by decide) _ _,λi hi=>Qk (h.ww i hi) h.box (by decide) _ _,Qk hr h.box (by decide) _ _,h.ap⟩
end
structure WBs (D b:Nat)(wr w:World)(S:Src)(id:Int)(bo:Bool)(va vb:Value)(nd wt:List Int):Prop where
 src:Jj D w b S
 chg:Chg (Sx1 b) wr w
 box:BT w wr.heap.size #[iV id,.bool bo,va,vb] 93
 nds:Q5 (wr.heap.size+1) w va nd
 wts:Q5 (wr.heap.size+1) w vb wt
 ap:∀g,va.ownBlock=some g->vb.ownBlock≠some g
section
variable {D b:Nat}{wr w w':World}{S S':Src}{id:Int}{bo:Bool}{va vb:Value}{nd wt:List Int}
theorem WBs.start {v:Src}(h:Jj D wr b S)(hx:BT w wr.heap.size #[iV id,.bool false,sN,sN] 93)(k:Nx wr w):WBs D b wr w S id false sN sN [] []:=
 ⟨h.next k,Chg.nx k,hx,⟨rfl,oL ⟨rfl,rfl⟩⟩,⟨rfl,oL ⟨rfl,rfl⟩⟩,λg hg=>by cases hg⟩
theorem WBs.drawn (h:WBs D b wr w S id bo va vb nd wt)(hS:Jj D w' b S')(k:Chg (Sx1 b) w w'):WBs D b wr w' S' id bo va vb nd wt:=by
 obtain⟨v,hb,_⟩:=h.src
 have key:∀{u:Value}{zs:List Int},Q5 (wr.heap.size+1) w u zs->Q5 (wr.heap.size+1) w' u zs:=λhr=>J5 hr k (λg hg hx=>by
  have hx':g=b:=hx
  subst hx'
  exact hb.neRow hr (by decide) hg.symm)
 exact⟨hS,h.chg.trans k,h.box.chg k (h.box.ne hb (by decide)),key h.nds,key h.wts,h.ap⟩
theorem WBs.next (h:WBs D b wr w S id bo va vb nd wt)(k:Nx w w'):WBs D b wr w' S id bo va vb nd wt:=
 ⟨h.src.next k,h.chg.trans (Chg.nx k),h.box.next k,h.nds.next k,h.wts.next k,h.ap⟩
theorem WBs.set (h:WBs D b wr w S id bo va vb nd wt)(i:Nat)(v:Value){id':Int}{bo':Bool}(e:(#[iV id,.bool bo,va,vb]:Array Value).setIfInBounds i v=#[iV id',.bool bo',va,vb]):WBs D b wr (w.setCell (aD wr.heap.size i) v) S id' bo' va vb nd wt:=by
 have hx:=h.box.set i v
 rw[e] at hx
 exact⟨h.src.set h.box (by decide) (by decide) _ _,h.chg.young (Chg.set (S:=λx=>x=wr.heap.size) _ _ _ rfl) (λx hx hl=>by have hx':x=wr.heap.size:=hx;omega),hx,Qk h.nds h.box (by decide) _ _,Qk h.wts h.box (by decide) _ _,h.ap⟩
theorem WBs.addNd (h:WBs D b wr w S id bo va vb nd wt)(hr:Q5 (wr.heap.size+1) w' v (nd++[z]))(hc:Chg (λx=>some x=va.ownBlock) w w')(ha:∀g,v.ownBlock=some g->va.ownBlock=some g\/w.heap.size<=g):WBs D b wr (w'.setCell (aD wr.heap.size 2) v) S id bo v vb (nd++[z]) wt:=by
 have hbox:=h.box.row h.nds (by decide) hc
 refine⟨(h.src.row h.nds (by decide) (by decide) hc).set hbox (by decide) (by decide) _ _,(h.chg.young hc (λx hx hl=>by have:=(Q7 h.nds x hx.symm).1;omega)).young (Chg.set (S:=λx=>x=wr.heap.size) _ _ _ rfl) (λx hx hl=>by have hx':x=wr.heap.size:=hx;omega),hbox.set 2 v,Qk hr hbox (by decide) _ _,Qk (Uv h.wts (λg hg=>h.ap g hg) hc) hbox (by decide) _ _,λg hg=>?_⟩
 rcases ha g hg with e|e
 ·exact h.ap g e
 ·intro e2
  have:=(Q7 h.wts g e2).2
  omega
theorem WBs.addWt (h:WBs D b wr w S id bo va vb nd wt)(hr:Q5 (wr.heap.size+1) w' v (wt++[z]))(hc:Chg (λx=>some x=vb.ownBlock) w w')(ha:∀g,v.ownBlock=some g->vb.ownBlock=some g\/w.heap.size<=g):WBs D b wr (w'.setCell (aD wr.heap.size 3) v) S id bo va v nd (wt++[z]):=by
 have hbox:=h.box.row h.wts (by decide) hc
 refine⟨(h.src.row h.wts (by decide) (by decide) hc).set hbox (by decide) (by decide) _ _,(h.chg.young hc (λx hx hl=>by have:=(Q7 h.wts x hx.symm).1;omega)).young (Chg.set (S:=λx=>x=wr.heap.size) _ _ _ rfl) (λx hx hl=>by have hx':x=wr.heap.size:=hx;omega),hbox.set 3 v,Qk (Uv h.nds (λg hg hg2=>h.ap g hg2 hg) hc) hbox (by decide) _ _,Qk hr hbox (by decide) _ _,λg hg hg2=>?_⟩
 rcases ha g hg2 with e|e
 ·exact h.ap g hg e
 ·have:=(Q7 h.nds g hg).2
  omega
end
theorem Q6r {ways:Int}{i:Nat}(h:SOk S):SOk (Z9 ways i S):=by
 unfold Z9
 split
 ·exact Qf h _
 ·exact h
theorem Q89 (ways:Int)(i:Nat)(S:Src):(Z9 ways i S).size=S.size:=by
 unfold Z9
 split
 ·rw[Qs]
 ·rfl
theorem Q6q (h:SOk S):SOk (Ur S):=by
 unfold Ur
 split
 ·exact Qf (Qf h _) _
 ·exact Qf h _
theorem Q88 (S:Src):(Ur S).size=S.size:=by
 unfold Ur
 split
 ·rw[Qs,Qs]
 ·rw[Qs]
theorem Q0a (h:SOk S):1<=Zc S/\Zc S<=3:=by
 have h1:=Qv (Qf h 4) 2
 unfold Zc
 split<;>omega
theorem Qct {count:Int}{ids:List Int}(hc:1<=count)(h:SOk S):SOk (Tp count ids S).S/\(Tp count ids S).nodes.length=(Zc S).toNat+1/\(Tp count ids S).weights.length=(Zc S).toNat/\(Tp count ids S).S.size=S.size:=by
 have h1:=Q6q h
 have h2:=Qv h1 count
 have h3:=Q1o (ids:=ids) hc (x:=⟨ns (Ur S) count,nv (Ur S) count,[iat ids (nv (Ur S) count).toNat],[]⟩) (Qf h1 _) ⟨h2.1,h2.2 hc⟩ (Zc S).toNat
 refine⟨h3.1,?_,?_,?_⟩
 ·have:=h3.2.2.1
  simp only[List.length_singleton] at this
  unfold Tp
  omega
 ·have:=h3.2.2.2.1
  simp only[List.length_nil] at this
  unfold Tp
  omega
 ·unfold Tp
  rw[h3.2.2.2.2]
  show(ns (Ur S) count).size=_
  rw[Qs,Q88]
structure Qgn (k:Nat)(s:Int)(x:Q4r):Prop where
 ok:SOk x.S
 id:0<=x.id/\x.id<=4+2*k
 len:x.ways.length=k
 size:x.S.size=s
 seg:∀i,i<k->(wat x.ways i).weights.length<=3/\(wat x.ways i).nodes.length=(wat x.ways i).weights.length+1
theorem Q1d {count ways:Int}{ids:List Int}(hc:1<=count){x:Q4r}{s:Int}(h:Qgn 0 s x):∀k,Qgn k s (Zb count ways ids x k)
 |0=>h
 |k+1=>by
  have q:=Q1d (ways:=ways) (ids:=ids) hc h k
  have h1:=Q6r (ways:=ways) (i:=k) q.ok
  have h2:=Qf (Qf h1 2) 3
  have h3:=Qct (ids:=ids) hc h2
  have h4:=Qv h1 2
  have h5:=Q0a h2
  refine⟨h3.1,?_,?_,?_,λi hi=>?_⟩
  ·show 0<=(Zb count ways ids x k).id+(1+nv _ 2)/\(Zb count ways ids x k).id+(1+nv _ 2)<=_
   have:=q.id
   omega
  ·show((Zb count ways ids x k).ways++[_]).length=_
   rw[zA,q.len];rfl
  ·show(Tp count ids _).S.size=s
   rw[h3.2.2.2,Qs,Qs,Q89,q.size]
  ·obtain⟨X,e0,x1,x2⟩:∃X:Wy,(Zb count ways ids x (k+1)).ways=(Zb count ways ids x k).ways++[X]/\X.nodes=(Tp count ids (ns (ns (Z9 ways k (Zb count ways ids x k).S) 2) 3)).nodes/\X.weights=(Tp count ids (ns (ns (Z9 ways k (Zb count ways ids x k).S) 2) 3)).weights:=⟨_,rfl,rfl,rfl⟩
   rw[e0]
   by_cases e:i=k
   ·have e2:i=(Zb count ways ids x k).ways.length:=by rw[q.len];exact e
    rw[e2,Wo,x1,x2,h3.2.2.1,h3.2.1]
    omega
   ·rw[Wn (by rw[q.len];omega)]
    exact q.seg i (by omega)
end Go.Proofs.YtphiaobccollhaaGreat
