import Derived.Test.YtdpfdkihbgmapaaGreatDQ
namespace Go.Proofs.YtdpfdkihbgmapaaGreat
open Go.RowKit Go.Sort
set_option linter.unusedVariables false
set_option maxRecDepth 1000000
set_option maxHeartbeats 16000000
def nW (N:Nt)(rs:List Rl):Nt:=⟨N.nodes,N.ways,rs,N.turns,N.uturn⟩
structure RcSt where
 S:Src
 id:Int
 rels:List Rl
def rcS2 (N:Nt)(R:Rd)(x:RcSt):Src:=ns (drS (nW N x.rels) R x.S) 4
def rcY (N:Nt)(R:Rd)(x:RcSt):Rl:=⟨0,decide (nv (drS (nW N x.rels) R x.S) 4=0),(drR (nW N x.rels) R x.S).frm,(drR (nW N x.rels) R x.S).to,(drR (nW N x.rels) R x.S).via,(drR (nW N x.rels) R x.S).node,(drR (nW N x.rels) R x.S).ways⟩
def rcP (x:RcSt)(S3:Src):Rl:=rat x.rels (nv S3 x.rels.length).toNat
def rcC (x:RcSt)(S3:Src):Rl:=⟨0,if nv (ns S3 x.rels.length) 3=0 then !(rcP x S3).only else (rcP x S3).only,(rcP x S3).frm,(rcP x S3).to,(rcP x S3).via,(rcP x S3).node,(rcP x S3).ways⟩
def rcB (N:Nt)(R:Rd)(x:RcSt):Bool:=decide (0<x.rels.length)&&decide (nv (rcS2 N R x) 10=0)
def rcS5 (N:Nt)(R:Rd)(x:RcSt):Src:=if rcB N R x then ns (ns (ns (rcS2 N R x) 10) x.rels.length) 3 else if 0<x.rels.length then ns (rcS2 N R x) 10 else rcS2 N R x
def rcZ (N:Nt)(R:Rd)(x:RcSt):Rl:=if rcB N R x then rcC x (ns (rcS2 N R x) 10) else rcY N R x
def rcStep (N:Nt)(R:Rd)(x:RcSt):RcSt:=⟨ns (rcS5 N R x) 2,x.id+(1+nv (rcS5 N R x) 2),x.rels++[⟨x.id,(rcZ N R x).only,(rcZ N R x).frm,(rcZ N R x).to,(rcZ N R x).via,(rcZ N R x).node,(rcZ N R x).ways⟩]⟩
def rcTo (N:Nt)(R:Rd)(x:RcSt):Nat->RcSt
 |0=>x
 |k+1=>rcStep N R (rcTo N R x k)
def riN (S:Src):Nt:=dbNet S
def riR (S:Src):Rd:=roadOf (dbNet S)
def riS2 (S:Src):Src:=ns (ns (dbS S) (2+(dbS S).size)) 16
def riCount (S:Src):Int:=if nv (ns (dbS S) (2+(dbS S).size)) 16=0 then 0 else 1+nv (dbS S) (2+(dbS S).size)
def riX (S:Src):RcSt:=rcTo (riN S) (riR S) ⟨ns (riS2 S) 3,nv (riS2 S) 3,[]⟩ (riCount S).toNat
def riNet (S:Src):Nt:=if (dbNet S).ways.length=0 then dbNet S else nW (dbNet S) (riX S).rels
def riS (S:Src):Src:=if (dbNet S).ways.length=0 then dbS S else (riX S).S
theorem rcS5_ok {N:Nt}{R:Rd}{x:RcSt}(h:SOk x.S):SOk (rcS5 N R x)/\(rcS5 N R x).size=x.S.size:=by
 have h1:=drS_ok (N:=nW N x.rels) (R:=R) h
 have h2:SOk (rcS2 N R x)/\(rcS2 N R x).size=x.S.size:=⟨ns_ok h1.1 _,(ns_size _ _).trans h1.2⟩
 unfold rcS5
 split
 ·exact⟨ns_ok (ns_ok (ns_ok h2.1 _) _) _,by rw[ns_size,ns_size,ns_size,h2.2]⟩
 ·split
  ·exact⟨ns_ok h2.1 _,by rw[ns_size,h2.2]⟩
  ·exact h2
structure RcOk (k:Nat)(s:Int)(x:RcSt):Prop where
 ok:SOk x.S
 size:x.S.size=s
 id:0<=x.id/\x.id<=3+2*k
 len:x.rels.length=k
 wl:∀r∈x.rels,r.ways.length<=4
theorem rcTo_ok {N:Nt}{R:Rd}{x:RcSt}{s:Int}(h:RcOk 0 s x):∀k,RcOk k s (rcTo N R x k)
 |0=>h
 |k+1=>by
  have q:=rcTo_ok (N:=N) (R:=R) h k
  have h5:=rcS5_ok (N:=N) (R:=R) q.ok
  have v:=nv_in h5.1 2
  have e:rcTo N R x (k+1)=rcStep N R (rcTo N R x k):=rfl
  rw[e]
  refine⟨(show SOk (ns (rcS5 N R (rcTo N R x k)) 2) from ns_ok h5.1 _),(show(ns (rcS5 N R (rcTo N R x k)) 2).size=s from(ns_size _ _).trans (h5.2.trans q.size)),?_,?_,λr hr=>?_⟩
  ·show 0<=(rcTo N R x k).id+(1+_)/\(rcTo N R x k).id+(1+_)<=_
   have:=q.id
   have:=v.2 (by omega)
   omega
  ·show((rcTo N R x k).rels++[_]).length=_
   rw[List.length_append,q.len];rfl
  ·rcases List.mem_append.1 hr with g|g
   ·exact q.wl r g
   ·have e1:=List.mem_singleton.1 g
    rw[e1]
    show(rcZ N R (rcTo N R x k)).ways.length<=4
    unfold rcZ
    split
    ·rename_i hb
     have hb1:0<(rcTo N R x k).rels.length:=by
      unfold rcB at hb
      rw[Bool.and_eq_true,decide_eq_true_eq] at hb
      exact hb.1
     have hi:(nv (ns (rcS2 N R (rcTo N R x k)) 10) (rcTo N R x k).rels.length).toNat<(rcTo N R x k).rels.length:=by
      have h2:SOk (rcS2 N R (rcTo N R x k)):=ns_ok (drS_ok q.ok).1 _
      have v2:=nv_in (ns_ok h2 10) (rcTo N R x k).rels.length
      have:=v2.2 (by omega)
      omega
     show(rcP (rcTo N R x k) (ns (rcS2 N R (rcTo N R x k)) 10)).ways.length<=4
     unfold rcP
     rw[rat_eq hi]
     exact q.wl _ (List.getElem_mem hi)
    ·exact drR_ways q.ok
theorem HEdges.base {B B':Nat}{w:World}{v:Value}{es:List Eg}(h:HEdges B w v es)(hB:B'<=B):HEdges B' w v es:=HSlice.mono h hB (Nat.le_refl _) λb off hb hs i hi hc=>hc
theorem HRoad.base {B B':Nat}{w:World}{v0 v1 v2 v3:Value}{R:Rd}(h:HRoad B w v0 v1 v2 v3 R)(hB:B'<=B):HRoad B' w v0 v1 v2 v3 R:=⟨h.1.base hB,h.2.1.base hB,h.2.2.1.base hB,h.2.2.2.base hB⟩
theorem Chg.keepsU {C:Nat}{w w':World}(h:Chg (λx=>x<C) w w'):Keeps C w w':=
 ⟨h.size,λg hg hs o=>by
  have hb:=h.block g hs (show ¬g<C by omega)
  unfold World.cell?
  simp only[hb]⟩
theorem FR.less {D b:Nat}{w0 w:World}{S:Src}{bl:List (Nat×Array Value×Nat)}(h:FR D b w0 w S bl)(n:Nat):FR D b w0 w S (bl.take n):=
 ⟨h.chg,h.src,λp hp=>h.bx p (List.mem_of_mem_take hp),λp hp=>h.ty p (List.mem_of_mem_take hp),by rw[List.map_take];exact h.nd.sublist (List.take_sublist _ _)⟩
theorem FR.growX {D b:Nat}{w0 w w':World}{S:Src}{bl:List (Nat×Array Value×Nat)}{T:Nat->Prop}(h:FR D b w0 w S bl)(hc:Chg T w w')(hn:∀p∈bl,¬T p.1)(hs:∀x,T x->∃cs t,BT w x cs t/\t≠66/\t≠5)(hy:∀x,T x->w0.heap.size<=x):FR D b w0 w' S bl:=
 ⟨h.chg.young hc (λx hx hl=>by have:=hy x hx;omega),h.src.chg hc hs,λp hp=>⟨(h.bx p hp).1.chg hc (hn p hp),(h.bx p hp).2⟩,h.ty,h.nd⟩
section
variable {C:Nat}{w w':World}{v0 v1 v2 v3:Value}{N:Nt}{vn vw vr:Nat->Value}
theorem ONt.turnBox {g t:Nat}{cs:Array Value}(h:ONt C w v0 v1 v2 v3 N vn vw vr)(hb:BT w g cs t)(ht:t≠2/\t≠117/\t≠121)(hn:t=109->v2.ownBlock≠some g)(hc:Chg (λx=>x=g) w w'):ONt C w' v0 v1 v2 v3 N vn vw vr:=by
 have key:∀{u sz n:Nat}{v:Value}{xs:List Value},w.ownsRow C u sz v n xs->t≠u->w'.ownsRow C u sz v n xs:=λhr hu=>row_chg hr hc (λx hx e=>by
  have e':x=g:=e
  subst e'
  exact hb.neRow hr hu hx.symm)
 refine⟨key h.nodes ht.1,key h.ways ht.2.1,λi hi=>key (h.wn i hi) ht.1,λi hi=>key (h.ww i hi) ht.1,?_,λi hi=>key (h.rw_ i hi) ht.1,key h.turns ht.2.2,h.apart⟩
 by_cases e:t=109
 ·exact row_chg h.rels hc (λx hx e'=>by
   have e2:x=g:=e'
   subst e2
   exact hn e hx)
 ·exact key h.rels e
theorem irows_lt (h:ONt C w v0 v1 v2 v3 N vn vw vr):∀u∈irows N v0 vn vw vr,∀g,u.ownBlock=some g->g<w.heap.size:=λu hu g hg=>by
 unfold irows at hu
 rcases List.mem_append.1 hu with q|q
 ·rcases List.mem_cons.1 q with rfl|q
  ·exact(own_lt h.nodes g hg).2
  ·obtain⟨i,hi,rfl|rfl⟩:=prs_mem q
   ·exact(own_lt (h.wn i hi) g hg).2
   ·exact(own_lt (h.ww i hi) g hg).2
 ·obtain⟨i,hi,rfl⟩:=List.mem_map.1 q
  exact(own_lt (h.rw_ i (List.mem_range.1 hi)) g hg).2
theorem irows_snoc (a:Value)(x:Rl):irows (nW N (N.rels++[x])) v0 vn vw (upd vr N.rels.length a)=irows N v0 vn vw vr++[a]:=by
 unfold irows nW
 simp only[List.length_append,List.length_singleton]
 rw[List.range_succ,List.map_append,List.append_assoc]
 congr 1
 congr 1
 ·refine List.map_congr_left λi hi=>?_
  have:=List.mem_range.1 hi
  rw[upd_ne _ _ (by omega)]
 ·simp[upd_at]
theorem ONt.addRel (h:ONt C w v0 v1 v2 v3 N vn vw vr){z:Nat}(hz:∀u∈irows N v0 vn vw vr,∀g,u.ownBlock=some g->g<z){v va:Value}{x:Rl}(hr:w'.ownsRow C 109 7 v (N.rels.length+1) (rrow N.rels vr++relL x va))(hc:Chg (λy=>some y=v2.ownBlock) w w')(ha:OwnI z w va x.ways)(hCz:C<=z) :
  ONt C w' v0 v1 v v3 (nW N (N.rels++[x])) vn vw (upd vr N.rels.length va):=by
 have far:∀{u:Value}{zs:List Int},OwnI C w u zs->OwnI C w' u zs:=λho=>row_apart ho h.rels (by decide) hc
 have hl:(N.rels++[x]).length=N.rels.length+1:=by simp
 refine⟨far h.nodes,row_apart h.ways h.rels (by decide) hc,λi hi=>far (h.wn i hi),λi hi=>far (h.ww i hi),?_,λi hi=>?_,row_apart h.turns h.rels (by decide) hc,?_⟩
 ·show w'.ownsRow C _ 7 v (N.rels++[x]).length (rrow (N.rels++[x]) (upd vr N.rels.length va))
  rw[hl,rrow_snoc]
  exact hr
 ·replace hi:i<(N.rels++[x]).length:=hi
  show OwnI C w' (upd vr N.rels.length va i) (rat (N.rels++[x]) i).ways
  by_cases e:i=N.rels.length
  ·subst e
   rw[upd_at,rat_last]
   exact far (ha.base hCz)
  ·rw[upd_ne _ _ e,rat_left (by omega)]
   exact far (h.rw_ i (by omega))
 ·rw[irows_snoc]
  refine List.pairwise_append.2 ⟨h.apart,List.pairwise_singleton _ _,λu hu t ht g hg e=>?_⟩
  have e1:t=va:=by simpa using ht
  subst e1
  have h1:=hz u hu g hg
  have h2:=(own_lt ha g e).1
  omega
end
theorem wsum_le (ws:List Wy):∀k,(∀i,i<k->(wat ws i).weights.length<=3)->wsum ws k<=3*k
 |0,_=>Nat.le_refl _
 |k+1,h=>by
  have h1:=wsum_le ws k (λi hi=>h i (by omega))
  have h2:=h k (by omega)
  show wsum ws k+(wat ws k).weights.length<=_
  omega
theorem dbNet_in {S:Src}(h:SOk S):SOk (dbS S)/\(2<=(dbNet S).nodes.length/\(dbNet S).nodes.length<=8)/\(dbNet S).ways.length<=12/\∀i,i<(dbNet S).ways.length->(wat (dbNet S).ways i).weights.length<=3:=by
 have hz:=h.size
 have h1:=ns_ok h (1+S.size/2)
 have v1:=nv_in h (1+S.size/2)
 have v2:=nv_in h1 3
 have hc:2<=dbCount S/\dbCount S<=6:=by
  unfold dbCount
  have:=v1.2 (by omega)
  omega
 have hn:=ndTo_ok (x:=⟨ns (ns S (1+S.size/2)) 3,nv (ns S (1+S.size/2)) 3,[]⟩) (show SOk (ns (ns S (1+S.size/2)) 3) from ns_ok h1 3) (show 0<=nv (ns S (1+S.size/2)) 3/\nv (ns S (1+S.size/2)) 3<=3 by have:=v2.2 (by omega);omega) rfl (dbCount S).toNat
 have hnd:SOk (dbNd S).S/\(dbNd S).l.length=(dbCount S).toNat:=⟨hn.1,hn.2.2.1⟩
 have hl:2<=(dbNodes S).length/\(dbNodes S).length<=8:=by
  unfold dbNodes
  split
  ·rw[List.length_append,hnd.2]
   simp only[List.length_singleton]
   omega
  ·rw[hnd.2]
   omega
 have hN:1<=dbN S:=by
  unfold dbN
  split<;>omega
 have h2:SOk (dbS2 S):=ns_ok hnd.1 _
 have v3:=nv_in h2 (2+S.size)
 have hw:0<=dbWays S/\dbWays S<=12:=by
  unfold dbWays
  have:=v3.2 (by omega)
  split<;>omega
 have h3:SOk (ns (ns (ns (dbS2 S) (2+S.size)) 24) 4):=ns_ok (ns_ok (ns_ok h2 _) _) _
 have v4:=nv_in (ns_ok (ns_ok h2 (2+S.size)) 24) 4
 have hy:=wyTo_ok (count:=dbN S) (ways:=dbWays S) (ids:=dbNodes S) hN (x:=⟨ns (ns (ns (dbS2 S) (2+S.size)) 24) 4,nv (ns (ns (dbS2 S) (2+S.size)) 24) 4,[]⟩) (s:=(ns (ns (ns (dbS2 S) (2+S.size)) 24) 4).size) ⟨h3,(show 0<=nv (ns (ns (dbS2 S) (2+S.size)) 24) 4/\nv (ns (ns (dbS2 S) (2+S.size)) 24) 4<=4+2*((0:Nat):Int) by have:=v4.2 (by omega);omega),rfl,rfl,λi hi=>absurd hi (Nat.not_lt_zero _)⟩ (dbWays S).toNat
 have hwl:(dbNet S).ways.length=(dbWays S).toNat:=hy.len
 have hwy:SOk (dbWy S).S:=hy.ok
 refine⟨?_,hl,by omega,λi hi=>(hy.seg i (by rw[<-hwl];exact hi)).1⟩
 refine dwS_ok ?_
 unfold dbTn
 split
 ·exact hwy
 ·exact(tnTo_ok (ws:=(dbWy S).ways) (x:=⟨ns (dbWy S).S (3+S.size),[]⟩) (show SOk (ns (dbWy S).S (3+S.size)) from ns_ok hwy _) rfl _).1
theorem RdIn.nW {N:Nt}{R:Rd}(h:RdIn N R)(rs:List Rl):RdIn (nW N rs) R:=⟨h.len,h.way,h.head,h.trav⟩
end Go.Proofs.YtdpfdkihbgmapaaGreat
