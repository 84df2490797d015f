import Derived.Test.YtphiaobccollhaaGreatQDA
import Derived.Test.YtphiaobccollhaaGreatQLB
namespace Go.Proofs.YtphiaobccollhaaGreat
open Go.RowKit Go.Sort
set_option linter.unusedVariables false
set_option maxRecDepth 1000000
set_option maxHeartbeats 16000000
variable {ws:List Wy}{C i:Nat}{w:World}{v v0 v1 v2 v3:Value}{vn vr vw:Nat->Value}{N:Nt}
def Q8c (x:Wy)(a b:Value):List Value:=[iV x.id,.bool x.both,a,b]
def G8 (ws:List Wy)(vn vw:Nat->Value):List Value:=(List.range ws.length).flatMap λi=>Q8c (wat ws i) (vn i) (vw i)
theorem Wn {us:List Wy}(h:i<ws.length):wat (ws++us) i=wat ws i:=by simp[wat,List.getD_eq_getElem?_getD,List.getElem?_append_left h]
theorem Wo {x:Wy}:wat (ws++[x]) ws.length=x:=by simp[wat,List.getD_eq_getElem?_getD]
theorem Kv {α:Type}{l:List Nat}{f g:Nat->List α}(h:∀i∈l,f i=g i):l.flatMap f=l.flatMap g:=by
 induction l with
 |nil=>rfl
 |cons a l ih=>
  rw[List.flatMap_cons,List.flatMap_cons,h a (by simp),ih (λi hi=>h i (by simp[hi]))]
theorem Q0b (ws:List Wy)(vn vw:Nat->Value)(x:Wy)(a b:Value):G8 (ws++[x]) (upd vn ws.length a) (upd vw ws.length b)=G8 ws vn vw++Q8c x a b:=by
 unfold G8
 rw[zA,List.length_singleton,List.range_succ,List.flatMap_append]
 congr 1
 ·refine Kv λi hi=>?_
  have hi':=List.mem_range.1 hi
  rw[Wn hi',Jq _ _ (by omega),Jq _ _ (by omega)]
 ·simp[Wo,Vp]
def Fj (C:Nat)(w:World)(v:Value)(ws:List Wy)(vn vw:Nat->Value):Prop:=w.ownsRow C 93 4 v ws.length (G8 ws vn vw)
theorem Fj.at (h:Fj C w v ws vn vw)(hi:i<ws.length) :
  ∃b c,v=sL (sA b) ws.length c/\C<=b/\b<w.heap.size/\w.cell? (aD b (i*4))=some (iV (wat ws i).id)/\w.cell? (aD b (i*4+1))=some (.bool (wat ws i).both)/\w.cell? (aD b (i*4+2))=some (vn i)/\w.cell? (aD b (i*4+3))=some (vw i):=by
 obtain⟨b,c,e,_,_,hC,hb,k⟩:=Yj (l:=List.range ws.length) (f:=λi=>Q8c (wat ws i) (vn i) (vw i)) h (List.length_range) (by decide) (λ_=>rfl) (i:=i) (x:=i) (by simp[hi])
 exact⟨b,c,e,hC,hb,k 0 (by omega),k 1 (by omega),k 2 (by omega),k 3 (by omega)⟩
theorem Fj.held (h:Fj C w v ws vn vw)(hn:∀i,i<ws.length->Q5 C w (vn i) (wat ws i).nodes)(hw:∀i,i<ws.length->Q5 C w (vw i) (wat ws i).weights):Pj C w v ws:=by
 obtain⟨a,c,rfl⟩:=Qd h
 refine⟨a,c,rfl,Ib h,λhp=>?_⟩
 obtain⟨b,c',e,hC,hb,_⟩:=h.at hp
 simp only[zC] at e
 obtain⟨rfl,_,rfl⟩:=e
 refine⟨b,0,rfl,hC,hb,λi hi=>?_⟩
 obtain⟨b',c',e,_,_,k0,k1,k2,k3⟩:=h.at hi
 simp only[zC,Option.some.injEq,Addr.mk.injEq] at e
 obtain⟨⟨rfl,_⟩,_⟩:=e
 rw[Nat.zero_add]
 exact⟨_,_,k0,k1,k2,k3,(hn i hi).held,(hw i hi).held⟩
def Qak (x:Rl)(a:Value):List Value:=[iV x.id,.bool x.only,iV x.frm,iV x.to,.bool x.via,iV x.node,a]
def Fp (rs:List Rl)(vr:Nat->Value):List Value:=(List.range rs.length).flatMap λi=>Qak (rat rs i) (vr i)
theorem Q3f {rs us:List Rl}(h:i<rs.length):rat (rs++us) i=rat rs i:=by simp[rat,List.getD_eq_getElem?_getD,List.getElem?_append_left h]
theorem Q3g {rs:List Rl}{x:Rl}:rat (rs++[x]) rs.length=x:=by simp[rat,List.getD_eq_getElem?_getD]
theorem Q8t (rs:List Rl)(vr:Nat->Value)(x:Rl)(a:Value):Fp (rs++[x]) (upd vr rs.length a)=Fp rs vr++Qak x a:=by
 unfold Fp
 rw[zA,List.length_singleton,List.range_succ,List.flatMap_append]
 congr 1
 ·refine Kv λi hi=>?_
  have hi':=List.mem_range.1 hi
  rw[Q3f hi',Jq _ _ (by omega)]
 ·simp[Q3g,Vp]
def Q1b (C:Nat)(w:World)(v:Value)(rs:List Rl)(vr:Nat->Value):Prop:=w.ownsRow C 89 7 v rs.length (Fp rs vr)
theorem Q1b.at {rs:List Rl}(h:Q1b C w v rs vr)(hi:i<rs.length) :
  ∃b c,v=sL (sA b) rs.length c/\C<=b/\b<w.heap.size/\w.cell? (aD b (i*7))=some (iV (rat rs i).id)/\w.cell? (aD b (i*7+1))=some (.bool (rat rs i).only)/\w.cell? (aD b (i*7+2))=some (iV (rat rs i).frm)/\w.cell? (aD b (i*7+3))=some (iV (rat rs i).to)/\w.cell? (aD b (i*7+4))=some (.bool (rat rs i).via)/\w.cell? (aD b (i*7+5))=some (iV (rat rs i).node)/\w.cell? (aD b (i*7+6))=some (vr i):=by
 obtain⟨b,c,e,_,_,hC,hb,k⟩:=Yj (l:=List.range rs.length) (f:=λi=>Qak (rat rs i) (vr i)) h (List.length_range) (by decide) (λ_=>rfl) (i:=i) (x:=i) (by simp[hi])
 exact⟨b,c,e,hC,hb,k 0 (by omega),k 1 (by omega),k 2 (by omega),k 3 (by omega),k 4 (by omega),k 5 (by omega),k 6 (by omega)⟩
theorem Q1b.held {rs:List Rl}(h:Q1b C w v rs vr)(hr:∀i,i<rs.length->Q5 C w (vr i) (rat rs i).ways):Q4w C w v rs:=by
 obtain⟨a,c,rfl⟩:=Qd h
 refine⟨a,c,rfl,Ib h,λhp=>?_⟩
 obtain⟨b,c',e,hC,hb,_⟩:=h.at hp
 simp only[zC] at e
 obtain⟨rfl,_,rfl⟩:=e
 refine⟨b,0,rfl,hC,hb,λi hi=>?_⟩
 obtain⟨b',c',e,_,_,k0,k1,k2,k3,k4,k5,k6⟩:=h.at hi
 simp only[zC,Option.some.injEq,Addr.mk.injEq] at e
 obtain⟨⟨rfl,_⟩,_⟩:=e
 rw[Nat.zero_add]
 exact⟨_,k0,k1,k2,k3,k4,k5,k6,(hr i hi).held⟩
def Apt (l:List Value):Prop:=l.Pairwise λa b=>∀g,a.ownBlock=some g->b.ownBlock≠some g
def W1 (N:Nt)(v0:Value)(vn vw vr:Nat->Value):List Value:=v0::((List.range N.ways.length).flatMap λi=>[vn i,vw i])++(List.range N.rels.length).map vr
structure ONt (C:Nat)(w:World)(v0 v1 v2 v3:Value)(N:Nt)(vn vw vr:Nat->Value):Prop where
 nodes:Q5 C w v0 N.nodes
 ways:Fj C w v1 N.ways vn vw
 wn:∀i,i<N.ways.length->Q5 C w (vn i) (wat N.ways i).nodes
 ww:∀i,i<N.ways.length->Q5 C w (vw i) (wat N.ways i).weights
 rels:Q1b C w v2 N.rels vr
 rw_:∀i,i<N.rels.length->Q5 C w (vr i) (rat N.rels i).ways
 turns:Q08 C w v3 N.turns
 apart:Apt (W1 N v0 vn vw vr)
theorem ONt.held (h:ONt C w v0 v1 v2 v3 N vn vw vr):U0 C w v0 v1 v2 v3 N:=⟨h.nodes.held,h.ways.held h.wn h.ww,h.rels.held h.rw_,h.turns.held⟩
theorem ONt.next {w':World}(h:ONt C w v0 v1 v2 v3 N vn vw vr)(k:Nx w w'):ONt C w' v0 v1 v2 v3 N vn vw vr:=
 ⟨h.nodes.next k,Vc h.ways k,λi hi=>(h.wn i hi).next k,λi hi=>(h.ww i hi).next k,Vc h.rels k,λi hi=>(h.rw_ i hi).next k,Vc h.turns k,h.apart⟩
theorem ONt.src {D b:Nat}{S:Src}{w':World}(h:ONt C w v0 v1 v2 v3 N vn vw vr)(hS:Jj D w b S)(k:Chg (Sx1 b) w w'):ONt C w' v0 v1 v2 v3 N vn vw vr:=by
 obtain⟨v,hb,_⟩:=hS
 have key:∀{t sz n:Nat}{u:Value}{xs:List Value},w.ownsRow C t sz u n xs->44≠t->w'.ownsRow C t sz u n xs:=λhr ht=>J5 hr k (λg hg hx=>by
  have hx':g=b:=hx
  subst hx'
  exact hb.neRow hr ht hg.symm)
 exact⟨key h.nodes (by decide),key h.ways (by decide),λi hi=>key (h.wn i hi) (by decide),λi hi=>key (h.ww i hi) (by decide),key h.rels (by decide),λi hi=>key (h.rw_ i hi) (by decide),key h.turns (by decide),h.apart⟩
theorem Q8g {P:Nat->Prop}{n:Nat}(h:∀m,m<n->P m)(h1:P n):∀m,m<n+1->P m:=λm hm=>by
 rcases Nat.lt_or_eq_of_le (Nat.lt_succ_iff.1 hm) with h2|rfl
 ·exact h m h2
 ·exact h1
def Tx (x t:Tn):Bool:=x.frm==t.frm&&x.to==t.to
def gtT (x t:Tn):Bool:=decide (t.frm<x.frm)||(x.frm==t.frm&&decide (t.to<x.to))
def Ju (ts:List Tn)(t:Tn):Nat->List Tn×Bool
 |0=>([],false)
 |i+1=>if !(Ju ts t i).2&&gtT (tat ts i) t then ((Ju ts t i).1++[t]++[tat ts i],true) else ((Ju ts t i).1++[tat ts i],(Ju ts t i).2)
def Fa (ts:List Tn)(t:Tn):List Tn:=if ts.any (λx=>Tx x t) then ts else if (Ju ts t ts.length).2 then (Ju ts t ts.length).1 else (Ju ts t ts.length).1++[t]
theorem Gu (ts:List Tn)(t:Tn):∀i,(Ju ts t i).1.length=i+if (Ju ts t i).2 then 1 else 0
 |0=>rfl
 |i+1=>by
  have h:=Gu ts t i
  unfold Ju
  by_cases q:(!(Ju ts t i).2&&gtT (tat ts i) t)=true
  ·rw[if_pos q]
   rw[zG,Bool.not_eq_true'] at q
   rw[q.1] at h
   simp[h]
  ·rw[if_neg q]
   simp only[zA,List.length_singleton,h]
   omega
theorem Qcn (ts:List Tn)(t:Tn):(Fa ts t).length<=ts.length+1:=by
 have h:=Gu ts t ts.length
 unfold Fa
 split
 ·omega
 ·split
  ·rename_i q;rw[q] at h;simp at h;omega
  ·rename_i q
   have q':(Ju ts t ts.length).2=false:=by simpa using q
   rw[q'] at h
   simp at h ⊢
   omega
structure Q4u where
 S:Src
 id:Int
 l:List Int
def Gn (x:Q4u):Q4u:=⟨ns (ns x.S 3) 12,if nv (ns x.S 3) 12=0 then x.id+(1+nv x.S 3)+1000 else x.id+(1+nv x.S 3),x.l++[x.id]⟩
def Vk (x:Q4u):Nat->Q4u
 |0=>x
 |k+1=>Gn (Vk x k)
structure Q4s where
 S:Src
 pos:Int
 nodes:List Int
 weights:List Int
def Q58 (count:Int)(x:Q4s):Int:=(x.pos+if nv (ns x.S (count-1)) 20=0 then 0 else 1+nv x.S (count-1))%count
def Q57 (count:Int)(ids:List Int)(x:Q4s):Q4s:=⟨dwS (ns (ns x.S (count-1)) 20),Q58 count x,x.nodes++[iat ids (Q58 count x).toNat],x.weights++[dwV (ns (ns x.S (count-1)) 20)]⟩
def Xc (count:Int)(ids:List Int)(x:Q4s):Nat->Q4s
 |0=>x
 |k+1=>Q57 count ids (Xc count ids x k)
structure Q4r where
 S:Src
 id:Int
 ways:List Wy
def Z9 (ways:Int)(i:Nat)(S:Src):Src:=if (i:Int)+1=ways then ns S 16 else S
def Ar (ways:Int)(i:Nat)(S:Src)(id:Int):Int:=if (i:Int)+1=ways/\nv S 16=0 then 1048576 else id
def Zc (S:Src):Int:=if nv S 4=0 then 2+nv (ns S 4) 2 else 1
def Ur (S:Src):Src:=if nv S 4=0 then ns (ns S 4) 2 else ns S 4
def Tp (count:Int)(ids:List Int)(S:Src):Q4s:=Xc count ids ⟨ns (Ur S) count,nv (Ur S) count,[iat ids (nv (Ur S) count).toNat],[]⟩ (Zc S).toNat
def Q4x (count ways:Int)(ids:List Int)(i:Nat)(x:Q4r):Q4r:=
 ⟨(Tp count ids (ns (ns (Z9 ways i x.S) 2) 3)).S,x.id+(1+nv (Z9 ways i x.S) 2),
  x.ways++[⟨Ar ways i x.S x.id,nv (ns (Z9 ways i x.S) 2) 3 !=0,(Tp count ids (ns (ns (Z9 ways i x.S) 2) 3)).nodes,(Tp count ids (ns (ns (Z9 ways i x.S) 2) 3)).weights⟩]⟩
def Zb (count ways:Int)(ids:List Int)(x:Q4r):Nat->Q4r
 |0=>x
 |k+1=>Q4x count ways ids k (Zb count ways ids x k)
structure Q6l where
 S:Src
 ts:List Tn
def Q52 (ws:List Wy)(x:Q6l):Q6l:=
 ⟨dwS (ns (ns x.S ws.length) ws.length),Fa x.ts ⟨(wat ws (nv x.S ws.length).toNat).id,(wat ws (nv (ns x.S ws.length) ws.length).toNat).id,dwV (ns (ns x.S ws.length) ws.length)⟩⟩
def Zq (ws:List Wy)(x:Q6l):Nat->Q6l
 |0=>x
 |k+1=>Q52 ws (Zq ws x k)
def Xb (S:Src):Int:=2+nv S (1+S.size/2)
def Tr (S:Src):Q4u:=Vk ⟨ns (ns S (1+S.size/2)) 3,nv (ns S (1+S.size/2)) 3,[]⟩ (Xb S).toNat
def Qg (S:Src):List Int:=if nv (Tr S).S 16=0 then (Tr S).l++[1048576] else (Tr S).l
def dbN (S:Src):Int:=if nv (Tr S).S 16=0 then Xb S+1 else Xb S
def Yi (S:Src):Src:=ns (Tr S).S 16
def Y8 (S:Src):Int:=if nv (ns (Yi S) (2+S.size)) 24=0 then 0 else 2+nv (Yi S) (2+S.size)
def Tq (S:Src):Q4r:=Zb (dbN S) (Y8 S) (Qg S) ⟨ns (ns (ns (Yi S) (2+S.size)) 24) 4,nv (ns (ns (Yi S) (2+S.size)) 24) 4,[]⟩ (Y8 S).toNat
def Wu (S:Src):Q6l:=if (Tq S).ways.length=0 then ⟨(Tq S).S,[]⟩ else Zq (Tq S).ways ⟨ns (Tq S).S (3+S.size),[]⟩ (nv (Tq S).S (3+S.size)).toNat
def Qa (S:Src):Nt:=⟨Qg S,(Tq S).ways,[],(Wu S).ts,dwV (Wu S).S⟩
def dbS (S:Src):Src:=dwS (Wu S).S
theorem Q20 {x:Q4u}(h:SOk x.S)(hi:0<=x.id/\x.id<=3)(hl:x.l=[]):∀k,SOk (Vk x k).S/\(0<=(Vk x k).id/\(Vk x k).id<=3+1003*k)/\(Vk x k).l.length=k/\(Vk x k).S.size=x.S.size
 |0=>⟨h,by simpa [Vk] using hi,by simp[Vk,hl],rfl⟩
 |k+1=>by
  obtain⟨h1,h2,h3,h4⟩:=Q20 h hi hl k
  have h5:=Qv h1 3
  refine⟨show SOk (ns (ns (Vk x k).S 3) 12) from Qf (Qf h1 _) _,?_,?_,?_⟩
  ·show 0<=(Gn _).id/\(Gn _).id<=_
   unfold Gn
   simp only
   split<;>omega
  ·show((Vk x k).l++[_]).length=_
   simp[h3]
  ·show(ns (ns _ _) _).size=_
   rw[Qs,Qs,h4]
theorem Q1o {count:Int}{ids:List Int}(hc:1<=count){x:Q4s}(h:SOk x.S)(hp:0<=x.pos/\x.pos<count):∀k,SOk (Xc count ids x k).S/\(0<=(Xc count ids x k).pos/\(Xc count ids x k).pos<count)/\(Xc count ids x k).nodes.length=x.nodes.length+k/\(Xc count ids x k).weights.length=x.weights.length+k/\(Xc count ids x k).S.size=x.S.size
 |0=>⟨h,hp,rfl,rfl,rfl⟩
 |k+1=>by
  obtain⟨h1,h2,h3,h4,h5⟩:=Q1o (ids:=ids) hc h hp k
  have h6:=Qv h1 (count-1)
  refine⟨show SOk (dwS (ns (ns (Xc count ids x k).S (count-1)) 20)) from Q67 (Qf (Qf h1 _) _),?_,?_,?_,?_⟩
  ·show 0<=Q58 count _/\Q58 count _<count
   unfold Q58
   exact⟨Int.emod_nonneg _ (by omega),Int.emod_lt_of_pos _ (by omega)⟩
  ·show((Xc count ids x k).nodes++[_]).length=_
   rw[zA,h3];rfl
  ·show((Xc count ids x k).weights++[_]).length=_
   rw[zA,h4];rfl
  ·show(dwS (ns (ns _ _) _)).size=_
   rw[Qc2,Qs,Qs,h5]
open Tryz
theorem Wm.at {B:Nat}{tb tq n c:Nat}{ts:List Tn}(h:Wm B w (sL (some (aD tb tq)) n c) ts)(hi:i<ts.length):Fk w tb (tq+i*3) (tat ts i):=by
 obtain⟨a,c',e,_,k⟩:=h
 simp only[zC] at e
 obtain⟨rfl,_,_⟩:=e
 obtain⟨b,o,e2,_,_,hc⟩:=k (by omega)
 simp only[Option.some.injEq,Addr.mk.injEq] at e2
 obtain⟨rfl,rfl,_⟩:=e2
 exact hc i hi
theorem Q8r {ts:List Tn}{t:Tn}(h:∀j,j<ts.length->Tx (tat ts j) t=false):ts.any (λx=>Tx x t)=false:=by
 rw[List.any_eq_false]
 intro x hx
 obtain⟨i,hi,rfl⟩:=List.getElem_of_mem hx
 have:=h i hi
 simp only[tat,zD,zH hi,Option.getD_some] at this
 simp[this]
theorem Q5a {ts:List Tn}{t:Tn}{j:Nat}(hj:j<ts.length)(h:Tx (tat ts j) t=true):ts.any (λx=>Tx x t)=true:=by
 rw[List.any_eq_true]
 refine⟨ts[j],yH hj,?_⟩
 simpa only [tat,zD,zH hj,Option.getD_some] using h
theorem Q01 (C:Nat)(v:Value)(ts:List Tn)(t:Tn)(w:World)(h:Q08 C w v ts)(hC:C<=w.heap.size)(hl:ts.length<=100000) :
  Calls prog 79 #[v,.agg #[iV t.frm,iV t.to,iV t.cost]] w λe w'=>(∃v',e=.returned v'/\Q08 C w' v' (Fa ts t))/\Nx w w':=by
 have HOT:=mh h
 obtain⟨ta,tc,rfl⟩:=Qd h
 have HTU:=mh h.held
 generalize hn:ts.length=n at *
 have HN:=mh hn
 clear hn h
 go_enter func79,ntmps79
 go_wp2
 generalize hWA:(w.alloc (.cells #[iV t.frm,iV t.to,iV t.cost] 137)).alloc (.cells #[] 137)=wA
 have HXA:Z (Nx w wA):=by rw[<-hWA];exact(Qe _ _).trans (Qe _ _)
 have HZA:Z (w.heap.size+1<=wA.heap.size):=by unfold Z;rw[<-hWA,Q1,Q1];omega
 have HBA:Z (BT wA w.heap.size #[iV t.frm,iV t.to,iV t.cost] 137):=by rw[<-hWA];exact(BT.new w _ _ _ rfl).alloc _
 have HOA:Z (wA.ownsRow (w.heap.size+1) 137 3 (sL (sA (w.heap.size+1)) 0 0) 0 (((Ju ts t 0).1).flatMap Tk)):=by
  unfold Z
  rw[<-hWA]
  refine⟨rfl,oR ⟨w.heap.size+1,0,#[],rfl,lR,?_,lR,nZ,rfl,rfl⟩⟩
  exact BT.new _ _ _ _ (by rw[Q1])
 clear hWA
 go_loopw [5,6,7] (λo d i wr=>∃(k m:Nat) (ao:Option Addr) (co:Nat) (dn:Bool),k<=n/\i=iV k/\o=sL ao m co/\d=.bool dn/\Z (wr.ownsRow (w.heap.size+1) 137 3 (sL ao m co) m (((Ju ts t k).1).flatMap Tk))/\Z ((Ju ts t k).1.length=m)/\Z ((Ju ts t k).2=dn)/\Z (∀j,j<k->Tx (tat ts j) t=false)/\Z (Chg (λx=>(w.heap.size+1)<=x) wA wr)) (λ_ _ i _=>n-(intOf i).toNat)
 case atStart=>exact⟨0,0,_,_,false,nZ,rfl,rfl,rfl,HOA,rfl,rfl,λj h=>absurd h (zK _),Chg.nx (Nx.refl _)⟩
 obtain⟨k,m,ao,co,dn,hk,rfl,rfl,rfl,HO,HML,HDN,HNS,HC⟩:=hrel
 have HMB:Z (m<=k+1):=by
  unfold Z
  have h1:=Gu ts t k
  rw[HML.o] at h1
  split at h1<;>omega
 have hmb:=HMB.o
 have HXr:Z (Nx w wr):=Below.trans HXA.o (Below.mono (HC.o.below HZA.o (λ_ h=>h)) (Nat.le_succ _))
 by_cases hlt:k<n
 ·have hlt':(k:Int)<n:=by omega
  obtain⟨a9,c9,e9,_,hk9⟩:=HTU.o
  rw[HN.o] at e9 hk9
  simp only[zC] at e9
  obtain⟨rfl,_,rfl⟩:=e9
  obtain⟨tb,tq,rfl,_,_,_⟩:=hk9 (by omega)
  clear hk9
  have CX0:=mh ((Wm.keep HTU.o (HXr.o.keeps C)).at (by rw[HN.o];exact hlt))
  have HBr:=mh (HBA.o.chg HC.o (by omega))
  generalize hxt:tat ts k=x at *
  have HXT:=mh hxt
  clear hxt
  obtain⟨x0,x1,x2⟩:=CX0.o
  have b0:wr.cell? (aD w.heap.size 0)=some (iV t.frm):=HBr.o.c 0 rfl
  have b1:wr.cell? (aD w.heap.size 1)=some (iV t.to):=HBr.o.c 1 rfl
  go_upto_region 6 with fail
  go_cut [32] from 15 to 32 (λs wc=>s=.bool (Tx x t)/\Z (Nx wr wc))
  case first=>
   by_cases h1:x.frm=t.frm
   ·have d1:(x.frm==t.frm)=true:=by simpa using h1
    by_cases h2:x.to=t.to
    ·have d2:(x.to==t.to)=true:=by simpa using h2
     go_quiet (fail)
     go_wp2
     go_meet
     exact⟨by simp[Tx,h1,h2],J3 _ _⟩
    ·have d2:(x.to==t.to)=false:=by simpa using h2
     go_quiet (fail)
     go_wp2
     go_meet
     exact⟨by simp[Tx,h2],J3 _ _⟩
   ·have d1:(x.frm==t.frm)=false:=by simpa using h1
    go_quiet (fail)
    go_wp2
    go_meet
    exact⟨by simp[Tx,h1],J3 _ _⟩
  case rest=>
  obtain⟨rfl,HDp⟩:=hcut
  generalize wc=wp at *
  cases hsm:Tx x t
  ·have HNS1:=mh (Q8g HNS.o (by rw[HXT.o];exact hsm))
   clear hsm
   have HCp:=mh (HC.o.trans (Chg.nx HDp.o))
   have HOp:=mh (Vc HO.o HDp.o)
   have BTp:=mh (HBr.o.next HDp.o)
   have CXp:Z (Fk wp tb (tq+k*3) x):=⟨Q0 HDp.o x0,Q0 HDp.o x1,Q0 HDp.o x2⟩
   clear x0 x1 x2 b0 b1
   obtain⟨x0,x1,_⟩:=CXp.o
   have b0:wp.cell? (aD w.heap.size 0)=some (iV t.frm):=BTp.o.c 0 rfl
   have b1:wp.cell? (aD w.heap.size 1)=some (iV t.to):=BTp.o.c 1 rfl
   go_upto_region 8 with fail
   go_cut [65] from 34 to 65 (λs wc=>s=.bool (!dn&&gtT x t)/\Z (Nx wp wc))
   case first=>
    cases dn with
    |true=>
     go_quiet (fail)
     go_wp2
     go_meet
     exact⟨by simp[gtT],J3 _ _⟩
    |false=>
     by_cases g1:t.frm<x.frm
     ·have d3:decide (t.frm<x.frm)=true:=by simpa using g1
      go_quiet (fail)
      go_wp2
      go_meet
      exact⟨by simp[gtT,g1],J3 _ _⟩
     ·have d3:decide (t.frm<x.frm)=false:=by simpa using g1
      by_cases g2:x.frm=t.frm
      ·have d4:(x.frm==t.frm)=true:=by simpa using g2
       by_cases g3:t.to<x.to
       ·have d5:decide (t.to<x.to)=true:=by simpa using g3
        go_quiet (fail)
        go_wp2
        go_meet
        exact⟨by simp[gtT,g2,g3],J3 _ _⟩
       ·have d5:decide (t.to<x.to)=false:=by simpa using g3
        go_quiet (fail)
        go_wp2
        go_meet
        exact⟨by simp[gtT,g2,g3],J3 _ _⟩
      ·have d4:(x.frm==t.frm)=false:=by simpa using g2
       go_quiet (fail)
       go_wp2
       go_meet
       exact⟨by simp[gtT,g1,g2],J3 _ _⟩
   case rest=>
   obtain⟨rfl,HDq⟩:=hcut
   generalize wc=wq at *
   have HCq:=mh (HCp.o.trans (Chg.nx HDq.o))
   have HOq:=mh (Vc HOp.o HDq.o)
   have BTq:=mh (BTp.o.next HDq.o)
   clear x0 x1 b0 b1
   cases hgg:(!dn&&gtT x t)
   ·have HGT:Z (¬(!dn&&gtT x t)=true):=by unfold Z;rw[hgg];decide
    clear hgg
    have HIN:Z (Ju ts t (k+1)=((Ju ts t k).1++[x],dn)):=by unfold Z;show(if _ then _ else _)=_;rw[HDN.o,HXT.o,if_neg HGT.o]
    have HXl:Z (Nx w wq):=Below.trans HXA.o (Below.mono (HCq.o.below HZA.o (λ_ h=>h)) (Nat.le_succ _))
    have CX:Z (Fk wq tb (tq+k*3) x):=by rw[<-HXT.o];exact(Wm.keep HTU.o (HXl.o.keeps C)).at (by rw[HN.o];exact hlt)
    obtain⟨c0,c1,c2⟩:=CX.o
    have hzw:w.heap.size+1<=wq.heap.size:=by have:=HCq.o.size;have:=HZA.o;omega
    go_wp2_with (at_builtin;refine U7 Ir underlying58 rfl (by decide) (by decide) rfl _ _ rfl (w.heap.size+1) m (sL ao m co) (((Ju ts t k).1).flatMap Tk) [iV x.frm,iV x.to,iV x.cost] wq rfl HOq.o rfl rfl (by intro u hu;simp at hu;rcases hu with rfl|rfl|rfl<;>rfl) (by omega) (by omega) ?_)
    intro a2 e2 w2 r1 r2 r3
    have HC2:=mh (HCq.o.trans ⟨r2.os,r2.tape,r2.output,r2.size,λb hb hn=>r2.block b hb (λe=>hn (Q7 HOq.o b e.symm).1)⟩)
    have HO2:Z (w2.ownsRow (w.heap.size+1) 137 3 (sL a2 (m+1) e2) (m+1) (((Ju ts t (k+1)).1).flatMap Tk)):=by unfold Z;rw[HIN.o];show w2.ownsRow _ _ _ _ _ ((_++[x]).flatMap Tk);first|(rw[List.flatMap_append];exact r1)|(simp only[List.flatMap_append,zZ] at r1 ⊢;exact r1)
    have HM2:Z ((Ju ts t (k+1)).1.length=m+1):=by unfold Z;rw[HIN.o];simp[HML.o]
    have HD2:Z ((Ju ts t (k+1)).2=dn):=by unfold Z;rw[HIN.o]
    clear r1 r2 r3 c0 c1 c2
    go_wp2
    go_roundw
    case rel=>exact⟨k+1,m+1,a2,e2,dn,by omega,by go_num,rfl,rfl,HO2,HM2,HD2,HNS1,HC2⟩
    case measure=>simp[intOf];omega
   ·have HGT:=mh hgg
    clear hgg
    have HIN:Z (Ju ts t (k+1)=((Ju ts t k).1++[t]++[x],true)):=by unfold Z;show(if _ then _ else _)=_;rw[HDN.o,HXT.o,if_pos HGT.o]
    have b0:=BTq.o.c 0 rfl
    have b1:=BTq.o.c 1 rfl
    have b2:=BTq.o.c 2 rfl
    have hzq:w.heap.size+1<=wq.heap.size:=by have:=HCq.o.size;have:=HZA.o;omega
    go_wp2_with (at_builtin;refine U7 Ir underlying58 rfl (by decide) (by decide) rfl _ _ rfl (w.heap.size+1) m (sL ao m co) (((Ju ts t k).1).flatMap Tk) [iV t.frm,iV t.to,iV t.cost] wq rfl HOq.o rfl rfl (by intro u hu;simp at hu;rcases hu with rfl|rfl|rfl<;>rfl) (by omega) (by omega) ?_)
    intro a1 e1 w1 r1 r2 r3
    have HO1:Z (w1.ownsRow (w.heap.size+1) 137 3 (sL a1 (m+1) e1) (m+1) (((Ju ts t k).1++[t]).flatMap Tk)):=by rw[List.flatMap_append];exact r1
    have HC1:=mh (HCq.o.trans ⟨r2.os,r2.tape,r2.output,r2.size,λb hb hn=>r2.block b hb (λe=>hn (Q7 HOq.o b e.symm).1)⟩)
    clear r1 r2 r3 b0 b1 b2
    have HXl:Z (Nx w w1):=Below.trans HXA.o (Below.mono (HC1.o.below HZA.o (λ_ h=>h)) (Nat.le_succ _))
    have CX:Z (Fk w1 tb (tq+k*3) x):=by rw[<-HXT.o];exact(Wm.keep HTU.o (HXl.o.keeps C)).at (by rw[HN.o];exact hlt)
    obtain⟨c0,c1,c2⟩:=CX.o
    have hzw:w.heap.size+1<=w1.heap.size:=by have:=HC1.o.size;have:=HZA.o;omega
    go_wp2_with (at_builtin;refine U7 Ir underlying58 rfl (by decide) (by decide) rfl _ _ rfl (w.heap.size+1) (m+1) (sL a1 (m+1) e1) (((Ju ts t k).1++[t]).flatMap Tk) [iV x.frm,iV x.to,iV x.cost] w1 rfl HO1.o rfl rfl (by intro u hu;simp at hu;rcases hu with rfl|rfl|rfl<;>rfl) (by omega) (by omega) ?_)
    intro a2 e2 w2 r1 r2 r3
    have HC2:=mh (HC1.o.trans ⟨r2.os,r2.tape,r2.output,r2.size,λb hb hn=>r2.block b hb (λe=>hn (Q7 HO1.o b e.symm).1)⟩)
    have HO2:Z (w2.ownsRow (w.heap.size+1) 137 3 (sL a2 ((m+1)+1) e2) ((m+1)+1) (((Ju ts t (k+1)).1).flatMap Tk)):=by unfold Z;rw[HIN.o];show w2.ownsRow _ _ _ _ _ ((_++[x]).flatMap Tk);first|(rw[List.flatMap_append];exact r1)|(simp only[List.flatMap_append,zZ] at r1 ⊢;exact r1)
    have HM2:Z ((Ju ts t (k+1)).1.length=(m+1)+1):=by unfold Z;rw[HIN.o];simp[HML.o]
    have HD2:Z ((Ju ts t (k+1)).2=true):=by unfold Z;rw[HIN.o]
    clear r1 r2 r3 c0 c1 c2
    go_wp2
    go_roundw
    case rel=>exact⟨k+1,(m+1)+1,a2,e2,true,by omega,by go_num,rfl,rfl,HO2,HM2,HD2,HNS1,HC2⟩
    case measure=>simp[intOf];omega
  ·have HAD:Z (Fa ts t=ts):=by unfold Z Fa;rw[if_pos (Q5a (j:=k) (by rw[HN.o];exact hlt) (by rw[HXT.o];exact hsm))]
   clear hsm
   go_wp2
   go_ret
   rw[HAD.o]
   exact⟨⟨_,rfl,Vc HOT.o (HXr.o.trans HDp.o)⟩,HXr.o.trans HDp.o⟩
 have hkn:k=n:=by omega
 subst hkn
 have HNO:=mh (Q8r (λj hj=>HNS.o j (by rw[HN.o] at hj;exact hj)))
 have HBr:=mh (HBA.o.chg HC.o (by omega))
 cases dn with
 |true=>
  have HAD:Z (Fa ts t=(Ju ts t k).1):=by unfold Z Fa;rw[HNO.o,HN.o,HDN.o];rfl
  go_wp2
  go_ret
  rw[HAD.o]
  refine⟨⟨_,rfl,?_⟩,HXr.o⟩
  unfold Q08
  rw[HML.o]
  exact Jb HO.o (by omega)
 |false=>
  have HAD:Z (Fa ts t=(Ju ts t k).1++[t]):=by unfold Z Fa;rw[HNO.o,HN.o,HDN.o];rfl
  have b0:=HBr.o.c 0 rfl
  have b1:=HBr.o.c 1 rfl
  have b2:=HBr.o.c 2 rfl
  have hzq:w.heap.size+1<=wr.heap.size:=by have:=HC.o.size;have:=HZA.o;omega
  go_wp2_with (at_builtin;refine U7 Ir underlying58 rfl (by decide) (by decide) rfl _ _ rfl (w.heap.size+1) m (sL ao m co) (((Ju ts t k).1).flatMap Tk) [iV t.frm,iV t.to,iV t.cost] wr rfl HO.o rfl rfl (by intro u hu;simp at hu;rcases hu with rfl|rfl|rfl<;>rfl) (by omega) (by omega) ?_)
  intro a1 e1 w1 r1 r2 r3
  have HX1:Z (Nx w w1):=Below.trans HXr.o (r2.below HXr.o.size (λg e=>by have:=(Q7 HO.o g e.symm).1;omega))
  have HO1:Z (Q08 C w1 (sL a1 (m+1) e1) ((Ju ts t k).1++[t])):=by
   unfold Z Q08
   rw[zA,HML.o,List.flatMap_append]
   exact Jb r1 (by omega)
  clear r1 r2 r3 b0 b1 b2
  go_wp2
  go_ret
  rw[HAD.o]
  exact⟨⟨_,rfl,HO1.o⟩,HX1.o⟩
end Go.Proofs.YtphiaobccollhaaGreat
