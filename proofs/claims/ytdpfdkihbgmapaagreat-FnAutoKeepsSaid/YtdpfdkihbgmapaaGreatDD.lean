import Derived.Test.YtdpfdkihbgmapaaGreatDA
import Derived.Test.YtdpfdkihbgmapaaGreatLB
namespace Go.Proofs.YtdpfdkihbgmapaaGreat
open Go.RowKit Go.Sort
set_option linter.unusedVariables false
set_option maxRecDepth 1000000
set_option maxHeartbeats 16000000
def wayL (x:Wy)(a b:Value):List Value:=[.int .i64 x.id,.bool x.both,a,b]
def wrow (ws:List Wy)(vn vw:Nat->Value):List Value:=(List.range ws.length).flatMap λi=>wayL (wat ws i) (vn i) (vw i)
theorem wat_left {ws us:List Wy}{i:Nat}(h:i<ws.length):wat (ws++us) i=wat ws i:=by simp[wat,List.getD_eq_getElem?_getD,List.getElem?_append_left h]
theorem wat_last {ws:List Wy}{x:Wy}:wat (ws++[x]) ws.length=x:=by simp[wat,List.getD_eq_getElem?_getD]
theorem flat_congr {α:Type}{l:List Nat}{f g:Nat->List α}(h:∀i∈l,f i=g i):l.flatMap f=l.flatMap g:=by
 induction l with
 |nil=>rfl
 |cons a l ih=>
  rw[List.flatMap_cons,List.flatMap_cons,h a (by simp),ih (λi hi=>h i (by simp[hi]))]
theorem wrow_snoc (ws:List Wy)(vn vw:Nat->Value)(x:Wy)(a b:Value):wrow (ws++[x]) (upd vn ws.length a) (upd vw ws.length b)=wrow ws vn vw++wayL x a b:=by
 unfold wrow
 rw[List.length_append,List.length_singleton,List.range_succ,List.flatMap_append]
 congr 1
 ·refine flat_congr λi hi=>?_
  have hi':=List.mem_range.1 hi
  rw[wat_left hi',upd_ne _ _ (by omega),upd_ne _ _ (by omega)]
 ·simp[wat_last,upd_at]
def OwnWs (C:Nat)(w:World)(v:Value)(ws:List Wy)(vn vw:Nat->Value):Prop:=w.ownsRow C 117 4 v ws.length (wrow ws vn vw)
theorem OwnWs.at {C:Nat}{w:World}{v:Value}{ws:List Wy}{vn vw:Nat->Value}(h:OwnWs C w v ws vn vw){i:Nat}(hi:i<ws.length) :
  ∃b c,v=.slice (some ⟨b,0,none⟩) ws.length c/\C<=b/\b<w.heap.size/\w.cell? ⟨b,i*4,none⟩=some (.int .i64 (wat ws i).id)/\w.cell? ⟨b,i*4+1,none⟩=some (.bool (wat ws i).both)/\w.cell? ⟨b,i*4+2,none⟩=some (vn i)/\w.cell? ⟨b,i*4+3,none⟩=some (vw i):=by
 obtain⟨b,c,e,_,_,hC,hb,k⟩:=row_cells (l:=List.range ws.length) (f:=λi=>wayL (wat ws i) (vn i) (vw i)) h (List.length_range) (by decide) (λ_=>rfl) (i:=i) (x:=i) (by simp[hi])
 exact⟨b,c,e,hC,hb,k 0 (by omega),k 1 (by omega),k 2 (by omega),k 3 (by omega)⟩
theorem OwnWs.held {C:Nat}{w:World}{v:Value}{ws:List Wy}{vn vw:Nat->Value}(h:OwnWs C w v ws vn vw)(hn:∀i,i<ws.length->OwnI C w (vn i) (wat ws i).nodes)(hw:∀i,i<ws.length->OwnI C w (vw i) (wat ws i).weights):HWays C w v ws:=by
 obtain⟨a,c,rfl⟩:=row_slice h
 refine⟨a,c,rfl,row_max h,λhp=>?_⟩
 obtain⟨b,c',e,hC,hb,_⟩:=h.at hp
 simp only[Value.slice.injEq] at e
 obtain⟨rfl,_,rfl⟩:=e
 refine⟨b,0,rfl,hC,hb,λi hi=>?_⟩
 obtain⟨b',c',e,_,_,k0,k1,k2,k3⟩:=h.at hi
 simp only[Value.slice.injEq,Option.some.injEq,Addr.mk.injEq] at e
 obtain⟨⟨rfl,_⟩,_⟩:=e
 rw[Nat.zero_add]
 exact⟨_,_,k0,k1,k2,k3,(hn i hi).held,(hw i hi).held⟩
def relL (x:Rl)(a:Value):List Value:=[.int .i64 x.id,.bool x.only,.int .i64 x.frm,.int .i64 x.to,.bool x.via,.int .i64 x.node,a]
def rrow (rs:List Rl)(vr:Nat->Value):List Value:=(List.range rs.length).flatMap λi=>relL (rat rs i) (vr i)
theorem rat_left {rs us:List Rl}{i:Nat}(h:i<rs.length):rat (rs++us) i=rat rs i:=by simp[rat,List.getD_eq_getElem?_getD,List.getElem?_append_left h]
theorem rat_last {rs:List Rl}{x:Rl}:rat (rs++[x]) rs.length=x:=by simp[rat,List.getD_eq_getElem?_getD]
theorem rrow_snoc (rs:List Rl)(vr:Nat->Value)(x:Rl)(a:Value):rrow (rs++[x]) (upd vr rs.length a)=rrow rs vr++relL x a:=by
 unfold rrow
 rw[List.length_append,List.length_singleton,List.range_succ,List.flatMap_append]
 congr 1
 ·refine flat_congr λi hi=>?_
  have hi':=List.mem_range.1 hi
  rw[rat_left hi',upd_ne _ _ (by omega)]
 ·simp[rat_last,upd_at]
def OwnRl (C:Nat)(w:World)(v:Value)(rs:List Rl)(vr:Nat->Value):Prop:=w.ownsRow C 109 7 v rs.length (rrow rs vr)
theorem OwnRl.at {C:Nat}{w:World}{v:Value}{rs:List Rl}{vr:Nat->Value}(h:OwnRl C w v rs vr){i:Nat}(hi:i<rs.length) :
  ∃b c,v=.slice (some ⟨b,0,none⟩) rs.length c/\C<=b/\b<w.heap.size/\w.cell? ⟨b,i*7,none⟩=some (.int .i64 (rat rs i).id)/\w.cell? ⟨b,i*7+1,none⟩=some (.bool (rat rs i).only)/\w.cell? ⟨b,i*7+2,none⟩=some (.int .i64 (rat rs i).frm)/\w.cell? ⟨b,i*7+3,none⟩=some (.int .i64 (rat rs i).to)/\w.cell? ⟨b,i*7+4,none⟩=some (.bool (rat rs i).via)/\w.cell? ⟨b,i*7+5,none⟩=some (.int .i64 (rat rs i).node)/\w.cell? ⟨b,i*7+6,none⟩=some (vr i):=by
 obtain⟨b,c,e,_,_,hC,hb,k⟩:=row_cells (l:=List.range rs.length) (f:=λi=>relL (rat rs i) (vr i)) h (List.length_range) (by decide) (λ_=>rfl) (i:=i) (x:=i) (by simp[hi])
 exact⟨b,c,e,hC,hb,k 0 (by omega),k 1 (by omega),k 2 (by omega),k 3 (by omega),k 4 (by omega),k 5 (by omega),k 6 (by omega)⟩
theorem OwnRl.held {C:Nat}{w:World}{v:Value}{rs:List Rl}{vr:Nat->Value}(h:OwnRl C w v rs vr)(hr:∀i,i<rs.length->OwnI C w (vr i) (rat rs i).ways):HRels C w v rs:=by
 obtain⟨a,c,rfl⟩:=row_slice h
 refine⟨a,c,rfl,row_max h,λhp=>?_⟩
 obtain⟨b,c',e,hC,hb,_⟩:=h.at hp
 simp only[Value.slice.injEq] at e
 obtain⟨rfl,_,rfl⟩:=e
 refine⟨b,0,rfl,hC,hb,λi hi=>?_⟩
 obtain⟨b',c',e,_,_,k0,k1,k2,k3,k4,k5,k6⟩:=h.at hi
 simp only[Value.slice.injEq,Option.some.injEq,Addr.mk.injEq] at e
 obtain⟨⟨rfl,_⟩,_⟩:=e
 rw[Nat.zero_add]
 exact⟨_,k0,k1,k2,k3,k4,k5,k6,(hr i hi).held⟩
def Apt (l:List Value):Prop:=l.Pairwise λa b=>∀g,a.ownBlock=some g->b.ownBlock≠some g
def irows (N:Nt)(v0:Value)(vn vw vr:Nat->Value):List Value:=v0::((List.range N.ways.length).flatMap λi=>[vn i,vw i])++(List.range N.rels.length).map vr
structure ONt (C:Nat)(w:World)(v0 v1 v2 v3:Value)(N:Nt)(vn vw vr:Nat->Value):Prop where
 nodes:OwnI C w v0 N.nodes
 ways:OwnWs C w v1 N.ways vn vw
 wn:∀i,i<N.ways.length->OwnI C w (vn i) (wat N.ways i).nodes
 ww:∀i,i<N.ways.length->OwnI C w (vw i) (wat N.ways i).weights
 rels:OwnRl C w v2 N.rels vr
 rw_:∀i,i<N.rels.length->OwnI C w (vr i) (rat N.rels i).ways
 turns:OwnT C w v3 N.turns
 apart:Apt (irows N v0 vn vw vr)
theorem ONt.held {C:Nat}{w:World}{v0 v1 v2 v3:Value}{N:Nt}{vn vw vr:Nat->Value}(h:ONt C w v0 v1 v2 v3 N vn vw vr):HNet C w v0 v1 v2 v3 N:=⟨h.nodes.held,h.ways.held h.wn h.ww,h.rels.held h.rw_,h.turns.held⟩
theorem ONt.next {C:Nat}{w w':World}{v0 v1 v2 v3:Value}{N:Nt}{vn vw vr:Nat->Value}(h:ONt C w v0 v1 v2 v3 N vn vw vr)(k:Nx w w'):ONt C w' v0 v1 v2 v3 N vn vw vr:=
 ⟨h.nodes.next k,row_next h.ways k,λi hi=>(h.wn i hi).next k,λi hi=>(h.ww i hi).next k,row_next h.rels k,λi hi=>(h.rw_ i hi).next k,row_next h.turns k,h.apart⟩
theorem ONt.src {C D b:Nat}{S:Src}{w w':World}{v0 v1 v2 v3:Value}{N:Nt}{vn vw vr:Nat->Value}(h:ONt C w v0 v1 v2 v3 N vn vw vr)(hS:HSrc D w b S)(k:Chg (Sx1 b) w w'):ONt C w' v0 v1 v2 v3 N vn vw vr:=by
 obtain⟨v,hb,_⟩:=hS
 have key:∀{t sz n:Nat}{u:Value}{xs:List Value},w.ownsRow C t sz u n xs->66≠t->w'.ownsRow C t sz u n xs:=λhr ht=>row_chg hr k (λg hg hx=>by
  have hx':g=b:=hx
  subst hx'
  exact hb.neRow hr ht hg.symm)
 exact⟨key h.nodes (by decide),key h.ways (by decide),λi hi=>key (h.wn i hi) (by decide),λi hi=>key (h.ww i hi) (by decide),key h.rels (by decide),λi hi=>key (h.rw_ i hi) (by decide),key h.turns (by decide),h.apart⟩
theorem upto_succ {P:Nat->Prop}{n:Nat}(h:∀m,m<n->P m)(h1:P n):∀m,m<n+1->P m:=λm hm=>by
 rcases Nat.lt_or_eq_of_le (Nat.lt_succ_iff.1 hm) with h2|rfl
 ·exact h m h2
 ·exact h1
def sameT (x t:Tn):Bool:=x.frm==t.frm&&x.to==t.to
def gtT (x t:Tn):Bool:=decide (t.frm<x.frm)||(x.frm==t.frm&&decide (t.to<x.to))
def insTo (ts:List Tn)(t:Tn):Nat->List Tn×Bool
 |0=>([],false)
 |i+1=>if !(insTo ts t i).2&&gtT (tat ts i) t then ((insTo ts t i).1++[t]++[tat ts i],true) else ((insTo ts t i).1++[tat ts i],(insTo ts t i).2)
def addT (ts:List Tn)(t:Tn):List Tn:=if ts.any (λx=>sameT x t) then ts else if (insTo ts t ts.length).2 then (insTo ts t ts.length).1 else (insTo ts t ts.length).1++[t]
theorem insTo_len (ts:List Tn)(t:Tn):∀i,(insTo ts t i).1.length=i+if (insTo ts t i).2 then 1 else 0
 |0=>rfl
 |i+1=>by
  have h:=insTo_len ts t i
  unfold insTo
  by_cases q:(!(insTo ts t i).2&&gtT (tat ts i) t)=true
  ·rw[if_pos q]
   rw[Bool.and_eq_true,Bool.not_eq_true'] at q
   rw[q.1] at h
   simp[h]
  ·rw[if_neg q]
   simp only[List.length_append,List.length_singleton,h]
   omega
theorem addT_len (ts:List Tn)(t:Tn):(addT ts t).length<=ts.length+1:=by
 have h:=insTo_len ts t ts.length
 unfold addT
 split
 ·omega
 ·split
  ·rename_i q;rw[q] at h;simp at h;omega
  ·rename_i q
   have q':(insTo ts t ts.length).2=false:=by simpa using q
   rw[q'] at h
   simp at h ⊢
   omega
structure NdSt where
 S:Src
 id:Int
 l:List Int
def ndStep (x:NdSt):NdSt:=⟨ns (ns x.S 3) 12,if nv (ns x.S 3) 12=0 then x.id+(1+nv x.S 3)+1000 else x.id+(1+nv x.S 3),x.l++[x.id]⟩
def ndTo (x:NdSt):Nat->NdSt
 |0=>x
 |k+1=>ndStep (ndTo x k)
structure SgSt where
 S:Src
 pos:Int
 nodes:List Int
 weights:List Int
def sgAt (count:Int)(x:SgSt):Int:=(x.pos+if nv (ns x.S (count-1)) 20=0 then 0 else 1+nv x.S (count-1))%count
def sgStep (count:Int)(ids:List Int)(x:SgSt):SgSt:=⟨dwS (ns (ns x.S (count-1)) 20),sgAt count x,x.nodes++[iat ids (sgAt count x).toNat],x.weights++[dwV (ns (ns x.S (count-1)) 20)]⟩
def sgTo (count:Int)(ids:List Int)(x:SgSt):Nat->SgSt
 |0=>x
 |k+1=>sgStep count ids (sgTo count ids x k)
structure WySt where
 S:Src
 id:Int
 ways:List Wy
def wyS0 (ways:Int)(i:Nat)(S:Src):Src:=if (i:Int)+1=ways then ns S 16 else S
def wyId (ways:Int)(i:Nat)(S:Src)(id:Int):Int:=if (i:Int)+1=ways/\nv S 16=0 then 1048576 else id
def wySegs (S:Src):Int:=if nv S 4=0 then 2+nv (ns S 4) 2 else 1
def wyS3 (S:Src):Src:=if nv S 4=0 then ns (ns S 4) 2 else ns S 4
def wySg (count:Int)(ids:List Int)(S:Src):SgSt:=sgTo count ids ⟨ns (wyS3 S) count,nv (wyS3 S) count,[iat ids (nv (wyS3 S) count).toNat],[]⟩ (wySegs S).toNat
def wyStep (count ways:Int)(ids:List Int)(i:Nat)(x:WySt):WySt:=
 ⟨(wySg count ids (ns (ns (wyS0 ways i x.S) 2) 3)).S,x.id+(1+nv (wyS0 ways i x.S) 2),
  x.ways++[⟨wyId ways i x.S x.id,nv (ns (wyS0 ways i x.S) 2) 3 !=0,(wySg count ids (ns (ns (wyS0 ways i x.S) 2) 3)).nodes,(wySg count ids (ns (ns (wyS0 ways i x.S) 2) 3)).weights⟩]⟩
def wyTo (count ways:Int)(ids:List Int)(x:WySt):Nat->WySt
 |0=>x
 |k+1=>wyStep count ways ids k (wyTo count ways ids x k)
structure TnSt where
 S:Src
 ts:List Tn
def tnStep (ws:List Wy)(x:TnSt):TnSt:=
 ⟨dwS (ns (ns x.S ws.length) ws.length),addT x.ts ⟨(wat ws (nv x.S ws.length).toNat).id,(wat ws (nv (ns x.S ws.length) ws.length).toNat).id,dwV (ns (ns x.S ws.length) ws.length)⟩⟩
def tnTo (ws:List Wy)(x:TnSt):Nat->TnSt
 |0=>x
 |k+1=>tnStep ws (tnTo ws x k)
def dbCount (S:Src):Int:=2+nv S (1+S.size/2)
def dbNd (S:Src):NdSt:=ndTo ⟨ns (ns S (1+S.size/2)) 3,nv (ns S (1+S.size/2)) 3,[]⟩ (dbCount S).toNat
def dbNodes (S:Src):List Int:=if nv (dbNd S).S 16=0 then (dbNd S).l++[1048576] else (dbNd S).l
def dbN (S:Src):Int:=if nv (dbNd S).S 16=0 then dbCount S+1 else dbCount S
def dbS2 (S:Src):Src:=ns (dbNd S).S 16
def dbWays (S:Src):Int:=if nv (ns (dbS2 S) (2+S.size)) 24=0 then 0 else 2+nv (dbS2 S) (2+S.size)
def dbWy (S:Src):WySt:=wyTo (dbN S) (dbWays S) (dbNodes S) ⟨ns (ns (ns (dbS2 S) (2+S.size)) 24) 4,nv (ns (ns (dbS2 S) (2+S.size)) 24) 4,[]⟩ (dbWays S).toNat
def dbTn (S:Src):TnSt:=if (dbWy S).ways.length=0 then ⟨(dbWy S).S,[]⟩ else tnTo (dbWy S).ways ⟨ns (dbWy S).S (3+S.size),[]⟩ (nv (dbWy S).S (3+S.size)).toNat
def dbNet (S:Src):Nt:=⟨dbNodes S,(dbWy S).ways,[],(dbTn S).ts,dwV (dbTn S).S⟩
def dbS (S:Src):Src:=dwS (dbTn S).S
theorem ndTo_ok {x:NdSt}(h:SOk x.S)(hi:0<=x.id/\x.id<=3)(hl:x.l=[]):∀k,SOk (ndTo x k).S/\(0<=(ndTo x k).id/\(ndTo x k).id<=3+1003*k)/\(ndTo x k).l.length=k/\(ndTo x k).S.size=x.S.size
 |0=>⟨h,by simpa [ndTo] using hi,by simp[ndTo,hl],rfl⟩
 |k+1=>by
  obtain⟨h1,h2,h3,h4⟩:=ndTo_ok h hi hl k
  have h5:=nv_in h1 3
  refine⟨show SOk (ns (ns (ndTo x k).S 3) 12) from ns_ok (ns_ok h1 _) _,?_,?_,?_⟩
  ·show 0<=(ndStep _).id/\(ndStep _).id<=_
   unfold ndStep
   simp only
   split<;>omega
  ·show((ndTo x k).l++[_]).length=_
   simp[h3]
  ·show(ns (ns _ _) _).size=_
   rw[ns_size,ns_size,h4]
theorem sgTo_ok {count:Int}{ids:List Int}(hc:1<=count){x:SgSt}(h:SOk x.S)(hp:0<=x.pos/\x.pos<count):∀k,SOk (sgTo count ids x k).S/\(0<=(sgTo count ids x k).pos/\(sgTo count ids x k).pos<count)/\(sgTo count ids x k).nodes.length=x.nodes.length+k/\(sgTo count ids x k).weights.length=x.weights.length+k/\(sgTo count ids x k).S.size=x.S.size
 |0=>⟨h,hp,rfl,rfl,rfl⟩
 |k+1=>by
  obtain⟨h1,h2,h3,h4,h5⟩:=sgTo_ok (ids:=ids) hc h hp k
  have h6:=nv_in h1 (count-1)
  refine⟨show SOk (dwS (ns (ns (sgTo count ids x k).S (count-1)) 20)) from dwS_ok (ns_ok (ns_ok h1 _) _),?_,?_,?_,?_⟩
  ·show 0<=sgAt count _/\sgAt count _<count
   unfold sgAt
   exact⟨Int.emod_nonneg _ (by omega),Int.emod_lt_of_pos _ (by omega)⟩
  ·show((sgTo count ids x k).nodes++[_]).length=_
   rw[List.length_append,h3];rfl
  ·show((sgTo count ids x k).weights++[_]).length=_
   rw[List.length_append,h4];rfl
  ·show(dwS (ns (ns _ _) _)).size=_
   rw[dwS_size,ns_size,ns_size,h5]
end Go.Proofs.YtdpfdkihbgmapaaGreat
