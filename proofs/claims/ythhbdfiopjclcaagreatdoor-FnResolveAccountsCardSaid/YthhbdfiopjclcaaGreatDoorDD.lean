import Derived.Test.YthhbdfiopjclcaaGreatDoorDA
import Derived.Test.YthhbdfiopjclcaaGreatDoorKN
namespace Go.Proofs.YthhbdfiopjclcaaGreatDoor
open Go.RowKit Go.Sort
set_option linter.unusedVariables false
set_option maxRecDepth 1000000
set_option maxHeartbeats 16000000
def wayL (x:Wy)(a b:Value):List Value:=[.int .i64 x.id,.bool x.both,a,b]
def Vb (ws:List Wy)(vn vw:Nat->Value):List Value:=(List.range ws.length).flatMap λi=>wayL (wat ws i) (vn i) (vw i)
theorem Zs {ws us:List Wy}{i:Nat}(h:i<ws.length):wat (ws++us) i=wat ws i:=by simp[wat,List.getD_eq_getElem?_getD,List.getElem?_append_left h]
theorem Zt {ws:List Wy}{x:Wy}:wat (ws++[x]) ws.length=x:=by simp[wat,List.getD_eq_getElem?_getD]
theorem Vd {α:Type}{l:List Nat}{f g:Nat->List α}(h:∀i∈l,f i=g i):l.flatMap f=l.flatMap g:=by
 induction l with
 |nil=>rfl
 |cons a l ih=>
  rw[List.flatMap_cons,List.flatMap_cons,h a (by simp),ih (λi hi=>h i (by simp[hi]))]
theorem wrow_snoc (ws:List Wy)(vn vw:Nat->Value)(x:Wy)(a b:Value):Vb (ws++[x]) (upd vn ws.length a) (upd vw ws.length b)=Vb ws vn vw++wayL x a b:=by
 unfold Vb
 rw[List.length_append,List.length_singleton,List.range_succ,List.flatMap_append]
 congr 1
 ·refine Vd λi hi=>?_
  have hi':=List.mem_range.1 hi
  rw[Zs hi',Qv _ _ (by omega),Qv _ _ (by omega)]
 ·simp[Zt,J4]
def Z1 (C:Nat)(w:World)(v:Value)(ws:List Wy)(vn vw:Nat->Value):Prop:=w.ownsRow C 47 4 v ws.length (Vb ws vn vw)
theorem Z1.at {C:Nat}{w:World}{v:Value}{ws:List Wy}{vn vw:Nat->Value}(h:Z1 C w v ws vn vw){i:Nat}(hi:i<ws.length) :
  ∃b c,v=.slice (some ⟨b,0,none⟩) ws.length c/\C<=b/\b<w.heap.size/\w.cell? ⟨b,i*4,none⟩=some (.int .i64 (wat ws i).id)/\w.cell? ⟨b,i*4+1,none⟩=some (.bool (wat ws i).both)/\w.cell? ⟨b,i*4+2,none⟩=some (vn i)/\w.cell? ⟨b,i*4+3,none⟩=some (vw i):=by
 obtain⟨b,c,e,_,_,hC,hb,k⟩:=Z5 (l:=List.range ws.length) (f:=λi=>wayL (wat ws i) (vn i) (vw i)) h (List.length_range) (by decide) (λ_=>rfl) (i:=i) (x:=i) (by simp[hi])
 exact⟨b,c,e,hC,hb,k 0 (by omega),k 1 (by omega),k 2 (by omega),k 3 (by omega)⟩
theorem Z1.held {C:Nat}{w:World}{v:Value}{ws:List Wy}{vn vw:Nat->Value}(h:Z1 C w v ws vn vw)(hn:∀i,i<ws.length->Q6 C w (vn i) (wat ws i).nodes)(hw:∀i,i<ws.length->Q6 C w (vw i) (wat ws i).weights):Vw C w v ws:=by
 obtain⟨a,c,rfl⟩:=Q2 h
 refine⟨a,c,rfl,row_max h,λhp=>?_⟩
 obtain⟨b,c',e,hC,hb,_⟩:=h.at hp
 simp only[Value.slice.injEq] at e
 obtain⟨rfl,_,rfl⟩:=e
 refine⟨b,0,rfl,hC,hb,λi hi=>?_⟩
 obtain⟨b',c',e,_,_,k0,k1,k2,k3⟩:=h.at hi
 simp only[Value.slice.injEq,Option.some.injEq,Addr.mk.injEq] at e
 obtain⟨⟨rfl,_⟩,_⟩:=e
 rw[Nat.zero_add]
 exact⟨_,_,k0,k1,k2,k3,(hn i hi).held,(hw i hi).held⟩
def relL (x:Rl)(a:Value):List Value:=[.int .i64 x.id,.bool x.only,.int .i64 x.frm,.int .i64 x.to,.bool x.via,.int .i64 x.node,a]
def rrow (rs:List Rl)(vr:Nat->Value):List Value:=(List.range rs.length).flatMap λi=>relL (rat rs i) (vr i)
theorem rat_left {rs us:List Rl}{i:Nat}(h:i<rs.length):rat (rs++us) i=rat rs i:=by simp[rat,List.getD_eq_getElem?_getD,List.getElem?_append_left h]
theorem rat_last {rs:List Rl}{x:Rl}:rat (rs++[x]) rs.length=x:=by simp[rat,List.getD_eq_getElem?_getD]
theorem rrow_snoc (rs:List Rl)(vr:Nat->Value)(x:Rl)(a:Value):rrow (rs++[x]) (upd vr rs.length a)=rrow rs vr++relL x a:=by
 unfold rrow
 rw[List.length_append,List.length_singleton,List.range_succ,List.flatMap_append]
 congr 1
 ·refine Vd λi hi=>?_
  have hi':=List.mem_range.1 hi
  rw[rat_left hi',Qv _ _ (by omega)]
 ·simp[rat_last,J4]
def OwnRl (C:Nat)(w:World)(v:Value)(rs:List Rl)(vr:Nat->Value):Prop:=w.ownsRow C 41 7 v rs.length (rrow rs vr)
theorem OwnRl.at {C:Nat}{w:World}{v:Value}{rs:List Rl}{vr:Nat->Value}(h:OwnRl C w v rs vr){i:Nat}(hi:i<rs.length) :
  ∃b c,v=.slice (some ⟨b,0,none⟩) rs.length c/\C<=b/\b<w.heap.size/\w.cell? ⟨b,i*7,none⟩=some (.int .i64 (rat rs i).id)/\w.cell? ⟨b,i*7+1,none⟩=some (.bool (rat rs i).only)/\w.cell? ⟨b,i*7+2,none⟩=some (.int .i64 (rat rs i).frm)/\w.cell? ⟨b,i*7+3,none⟩=some (.int .i64 (rat rs i).to)/\w.cell? ⟨b,i*7+4,none⟩=some (.bool (rat rs i).via)/\w.cell? ⟨b,i*7+5,none⟩=some (.int .i64 (rat rs i).node)/\w.cell? ⟨b,i*7+6,none⟩=some (vr i):=by
 obtain⟨b,c,e,_,_,hC,hb,k⟩:=Z5 (l:=List.range rs.length) (f:=λi=>relL (rat rs i) (vr i)) h (List.length_range) (by decide) (λ_=>rfl) (i:=i) (x:=i) (by simp[hi])
 exact⟨b,c,e,hC,hb,k 0 (by omega),k 1 (by omega),k 2 (by omega),k 3 (by omega),k 4 (by omega),k 5 (by omega),k 6 (by omega)⟩
theorem OwnRl.held {C:Nat}{w:World}{v:Value}{rs:List Rl}{vr:Nat->Value}(h:OwnRl C w v rs vr)(hr:∀i,i<rs.length->Q6 C w (vr i) (rat rs i).ways):HRels C w v rs:=by
 obtain⟨a,c,rfl⟩:=Q2 h
 refine⟨a,c,rfl,row_max h,λhp=>?_⟩
 obtain⟨b,c',e,hC,hb,_⟩:=h.at hp
 simp only[Value.slice.injEq] at e
 obtain⟨rfl,_,rfl⟩:=e
 refine⟨b,0,rfl,hC,hb,λi hi=>?_⟩
 obtain⟨b',c',e,_,_,k0,k1,k2,k3,k4,k5,k6⟩:=h.at hi
 simp only[Value.slice.injEq,Option.some.injEq,Addr.mk.injEq] at e
 obtain⟨⟨rfl,_⟩,_⟩:=e
 rw[Nat.zero_add]
 exact⟨_,k0,k1,k2,k3,k4,k5,k6,(hr i hi).held⟩
def Apt (l:List Value):Prop:=l.Pairwise λa b=>∀g,a.ownBlock=some g->b.ownBlock≠some g
def Js (N:Nt)(v0:Value)(vn vw vr:Nat->Value):List Value:=v0::((List.range N.ways.length).flatMap λi=>[vn i,vw i])++(List.range N.rels.length).map vr
structure ONt (C:Nat)(w:World)(v0 v1 v2 v3:Value)(N:Nt)(vn vw vr:Nat->Value):Prop where
 nodes:Q6 C w v0 N.nodes
 ways:Z1 C w v1 N.ways vn vw
 wn:∀i,i<N.ways.length->Q6 C w (vn i) (wat N.ways i).nodes
 ww:∀i,i<N.ways.length->Q6 C w (vw i) (wat N.ways i).weights
 rels:OwnRl C w v2 N.rels vr
 rw_:∀i,i<N.rels.length->Q6 C w (vr i) (rat N.rels i).ways
 turns:OwnT C w v3 N.turns
 apart:Apt (Js N v0 vn vw vr)
theorem ONt.held {C:Nat}{w:World}{v0 v1 v2 v3:Value}{N:Nt}{vn vw vr:Nat->Value}(h:ONt C w v0 v1 v2 v3 N vn vw vr):Z0 C w v0 v1 v2 v3 N:=⟨h.nodes.held,h.ways.held h.wn h.ww,h.rels.held h.rw_,h.turns.held⟩
theorem ONt.next {C:Nat}{w w':World}{v0 v1 v2 v3:Value}{N:Nt}{vn vw vr:Nat->Value}(h:ONt C w v0 v1 v2 v3 N vn vw vr)(k:Nx w w'):ONt C w' v0 v1 v2 v3 N vn vw vr:=
 ⟨h.nodes.next k,Ju h.ways k,λi hi=>(h.wn i hi).next k,λi hi=>(h.ww i hi).next k,Ju h.rels k,λi hi=>(h.rw_ i hi).next k,Ju h.turns k,h.apart⟩
theorem ONt.src {C D b:Nat}{S:Src}{w w':World}{v0 v1 v2 v3:Value}{N:Nt}{vn vw vr:Nat->Value}(h:ONt C w v0 v1 v2 v3 N vn vw vr)(hS:Jg D w b S)(k:Chg (Sx1 b) w w'):ONt C w' v0 v1 v2 v3 N vn vw vr:=by
 obtain⟨v,hb,_⟩:=hS
 have key:∀{t sz n:Nat}{u:Value}{xs:List Value},w.ownsRow C t sz u n xs->73≠t->w'.ownsRow C t sz u n xs:=λhr ht=>Qz hr k (λg hg hx=>by
  have hx':g=b:=hx
  subst hx'
  exact hb.neRow hr ht hg.symm)
 exact⟨key h.nodes (by decide),key h.ways (by decide),λi hi=>key (h.wn i hi) (by decide),λi hi=>key (h.ww i hi) (by decide),key h.rels (by decide),λi hi=>key (h.rw_ i hi) (by decide),key h.turns (by decide),h.apart⟩
theorem upto_succ {P:Nat->Prop}{n:Nat}(h:∀m,m<n->P m)(h1:P n):∀m,m<n+1->P m:=λm hm=>by
 rcases Nat.lt_or_eq_of_le (Nat.lt_succ_iff.1 hm) with h2|rfl
 ·exact h m h2
 ·exact h1
def sameT (x t:Tn):Bool:=x.frm==t.frm&&x.to==t.to
def gtT (x t:Tn):Bool:=decide (t.frm<x.frm)||(x.frm==t.frm&&decide (t.to<x.to))
def V6 (ts:List Tn)(t:Tn):Nat->List Tn×Bool
 |0=>([],false)
 |i+1=>if !(V6 ts t i).2&&gtT (tat ts i) t then ((V6 ts t i).1++[t]++[tat ts i],true) else ((V6 ts t i).1++[tat ts i],(V6 ts t i).2)
def addT (ts:List Tn)(t:Tn):List Tn:=if ts.any (λx=>sameT x t) then ts else if (V6 ts t ts.length).2 then (V6 ts t ts.length).1 else (V6 ts t ts.length).1++[t]
theorem insTo_len (ts:List Tn)(t:Tn):∀i,(V6 ts t i).1.length=i+if (V6 ts t i).2 then 1 else 0
 |0=>rfl
 |i+1=>by
  have h:=insTo_len ts t i
  unfold V6
  by_cases q:(!(V6 ts t i).2&&gtT (tat ts i) t)=true
  ·rw[if_pos q]
   rw[Bool.and_eq_true,Bool.not_eq_true'] at q
   rw[q.1] at h
   simp[h]
  ·rw[if_neg q]
   simp only[List.length_append,List.length_singleton,h]
   omega
theorem addT_len (ts:List Tn)(t:Tn):(addT ts t).length<=ts.length+1:=by
 have h:=insTo_len ts t ts.length
 unfold addT
 split
 ·omega
 ·split
  ·rename_i q;rw[q] at h;simp at h;omega
  ·rename_i q
   have q':(V6 ts t ts.length).2=false:=by simpa using q
   rw[q'] at h
   simp at h ⊢
   omega
structure NdSt where
 S:Src
 id:Int
 l:List Int
def ndStep (x:NdSt):NdSt:=⟨ns (ns x.S 3) 12,if nv (ns x.S 3) 12=0 then x.id+(1+nv x.S 3)+1000 else x.id+(1+nv x.S 3),x.l++[x.id]⟩
def Vn (x:NdSt):Nat->NdSt
 |0=>x
 |k+1=>ndStep (Vn x k)
structure SgSt where
 S:Src
 pos:Int
 nodes:List Int
 weights:List Int
def sgAt (count:Int)(x:SgSt):Int:=(x.pos+if nv (ns x.S (count-1)) 20=0 then 0 else 1+nv x.S (count-1))%count
def sgStep (count:Int)(ids:List Int)(x:SgSt):SgSt:=⟨dwS (ns (ns x.S (count-1)) 20),sgAt count x,x.nodes++[iat ids (sgAt count x).toNat],x.weights++[dwV (ns (ns x.S (count-1)) 20)]⟩
def Xc (count:Int)(ids:List Int)(x:SgSt):Nat->SgSt
 |0=>x
 |k+1=>sgStep count ids (Xc count ids x k)
structure WySt where
 S:Src
 id:Int
 ways:List Wy
def Z2 (ways:Int)(i:Nat)(S:Src):Src:=if (i:Int)+1=ways then ns S 16 else S
def wyId (ways:Int)(i:Nat)(S:Src)(id:Int):Int:=if (i:Int)+1=ways/\nv S 16=0 then 1048576 else id
def Yo (S:Src):Int:=if nv S 4=0 then 2+nv (ns S 4) 2 else 1
def Zq (S:Src):Src:=if nv S 4=0 then ns (ns S 4) 2 else ns S 4
def wySg (count:Int)(ids:List Int)(S:Src):SgSt:=Xc count ids ⟨ns (Zq S) count,nv (Zq S) count,[iat ids (nv (Zq S) count).toNat],[]⟩ (Yo S).toNat
def wyStep (count ways:Int)(ids:List Int)(i:Nat)(x:WySt):WySt:=
 ⟨(wySg count ids (ns (ns (Z2 ways i x.S) 2) 3)).S,x.id+(1+nv (Z2 ways i x.S) 2),
  x.ways++[⟨wyId ways i x.S x.id,nv (ns (Z2 ways i x.S) 2) 3 !=0,(wySg count ids (ns (ns (Z2 ways i x.S) 2) 3)).nodes,(wySg count ids (ns (ns (Z2 ways i x.S) 2) 3)).weights⟩]⟩
def Ym (count ways:Int)(ids:List Int)(x:WySt):Nat->WySt
 |0=>x
 |k+1=>wyStep count ways ids k (Ym count ways ids x k)
structure TnSt where
 S:Src
 ts:List Tn
def tnStep (ws:List Wy)(x:TnSt):TnSt:=
 ⟨dwS (ns (ns x.S ws.length) ws.length),addT x.ts ⟨(wat ws (nv x.S ws.length).toNat).id,(wat ws (nv (ns x.S ws.length) ws.length).toNat).id,dwV (ns (ns x.S ws.length) ws.length)⟩⟩
def Zf (ws:List Wy)(x:TnSt):Nat->TnSt
 |0=>x
 |k+1=>tnStep ws (Zf ws x k)
def Va (S:Src):Int:=2+nv S (1+S.size/2)
def dbNd (S:Src):NdSt:=Vn ⟨ns (ns S (1+S.size/2)) 3,nv (ns S (1+S.size/2)) 3,[]⟩ (Va S).toNat
def Qi (S:Src):List Int:=if nv (dbNd S).S 16=0 then (dbNd S).l++[1048576] else (dbNd S).l
def dbN (S:Src):Int:=if nv (dbNd S).S 16=0 then Va S+1 else Va S
def Xj (S:Src):Src:=ns (dbNd S).S 16
def Vk (S:Src):Int:=if nv (ns (Xj S) (2+S.size)) 24=0 then 0 else 2+nv (Xj S) (2+S.size)
def Zn (S:Src):WySt:=Ym (dbN S) (Vk S) (Qi S) ⟨ns (ns (ns (Xj S) (2+S.size)) 24) 4,nv (ns (ns (Xj S) (2+S.size)) 24) 4,[]⟩ (Vk S).toNat
def U5 (S:Src):TnSt:=if (Zn S).ways.length=0 then ⟨(Zn S).S,[]⟩ else Zf (Zn S).ways ⟨ns (Zn S).S (3+S.size),[]⟩ (nv (Zn S).S (3+S.size)).toNat
def Qa (S:Src):Nt:=⟨Qi S,(Zn S).ways,[],(U5 S).ts,dwV (U5 S).S⟩
def dbS (S:Src):Src:=dwS (U5 S).S
theorem ndTo_ok {x:NdSt}(h:SOk x.S)(hi:0<=x.id/\x.id<=3)(hl:x.l=[]):∀k,SOk (Vn x k).S/\(0<=(Vn x k).id/\(Vn x k).id<=3+1003*k)/\(Vn x k).l.length=k/\(Vn x k).S.size=x.S.size
 |0=>⟨h,by simpa [Vn] using hi,by simp[Vn,hl],rfl⟩
 |k+1=>by
  obtain⟨h1,h2,h3,h4⟩:=ndTo_ok h hi hl k
  have h5:=Qu h1 3
  refine⟨show SOk (ns (ns (Vn x k).S 3) 12) from Qm (Qm h1 _) _,?_,?_,?_⟩
  ·show 0<=(ndStep _).id/\(ndStep _).id<=_
   unfold ndStep
   simp only
   split<;>omega
  ·show((Vn x k).l++[_]).length=_
   simp[h3]
  ·show(ns (ns _ _) _).size=_
   rw[Qr,Qr,h4]
theorem sgTo_ok {count:Int}{ids:List Int}(hc:1<=count){x:SgSt}(h:SOk x.S)(hp:0<=x.pos/\x.pos<count):∀k,SOk (Xc count ids x k).S/\(0<=(Xc count ids x k).pos/\(Xc count ids x k).pos<count)/\(Xc count ids x k).nodes.length=x.nodes.length+k/\(Xc count ids x k).weights.length=x.weights.length+k/\(Xc count ids x k).S.size=x.S.size
 |0=>⟨h,hp,rfl,rfl,rfl⟩
 |k+1=>by
  obtain⟨h1,h2,h3,h4,h5⟩:=sgTo_ok (ids:=ids) hc h hp k
  have h6:=Qu h1 (count-1)
  refine⟨show SOk (dwS (ns (ns (Xc count ids x k).S (count-1)) 20)) from dwS_ok (Qm (Qm h1 _) _),?_,?_,?_,?_⟩
  ·show 0<=sgAt count _/\sgAt count _<count
   unfold sgAt
   exact⟨Int.emod_nonneg _ (by omega),Int.emod_lt_of_pos _ (by omega)⟩
  ·show((Xc count ids x k).nodes++[_]).length=_
   rw[List.length_append,h3];rfl
  ·show((Xc count ids x k).weights++[_]).length=_
   rw[List.length_append,h4];rfl
  ·show(dwS (ns (ns _ _) _)).size=_
   rw[dwS_size,Qr,Qr,h5]
theorem Xl.at {B:Nat}{w:World}{tb tq n c:Nat}{ts:List Tn}(h:Xl B w (.slice (some ⟨tb,tq,none⟩) n c) ts){i:Nat}(hi:i<ts.length):HTurn w tb (tq+i*3) (tat ts i):=by
 obtain⟨a,c',e,_,k⟩:=h
 simp only[Value.slice.injEq] at e
 obtain⟨rfl,_,_⟩:=e
 obtain⟨b,o,e2,_,_,hc⟩:=k (by omega)
 simp only[Option.some.injEq,Addr.mk.injEq] at e2
 obtain⟨rfl,rfl,_⟩:=e2
 exact hc i hi
theorem sameT_any {ts:List Tn}{t:Tn}(h:∀j,j<ts.length->sameT (tat ts j) t=false):ts.any (λx=>sameT x t)=false:=by
 rw[List.any_eq_false]
 intro x hx
 obtain⟨i,hi,rfl⟩:=List.getElem_of_mem hx
 have:=h i hi
 simp only[tat,List.getD_eq_getElem?_getD,List.getElem?_eq_getElem hi,Option.getD_some] at this
 simp[this]
theorem sameT_some {ts:List Tn}{t:Tn}{j:Nat}(hj:j<ts.length)(h:sameT (tat ts j) t=true):ts.any (λx=>sameT x t)=true:=by
 rw[List.any_eq_true]
 refine⟨ts[j],List.getElem_mem hj,?_⟩
 simpa only [tat,List.getD_eq_getElem?_getD,List.getElem?_eq_getElem hj,Option.getD_some] using h
theorem l1AddTurn_any (C:Nat)(v:Value)(ts:List Tn)(t:Tn)(w:World)(h:OwnT C w v ts)(hC:C<=w.heap.size)(hl:ts.length<=100000) :
  Calls Tryz.prog 77 #[v,.agg #[.int .i64 t.frm,.int .i64 t.to,.int .i64 t.cost]] w λe w'=>(∃v',e=.returned v'/\OwnT C w' v' (addT ts t))/\Nx w w':=by
 have HOT:Hid (OwnT C w v ts):=h
 obtain⟨ta,tc,rfl⟩:=Q2 h
 have HTU:=mh h.held
 generalize hn:ts.length=n at *
 have HN:Hid (ts.length=n):=hn
 clear hn h
 go_enter Tryz.func77,Tryz.ntmps77
 go_wp2
 generalize hWA:(w.alloc (.cells #[.int .i64 t.frm,.int .i64 t.to,.int .i64 t.cost] 63)).alloc (.cells #[] 63)=wA
 have HXA:Hid (Nx w wA):=by unfold Hid;rw[<-hWA];exact(Qc _ _).trans (Qc _ _)
 have HZA:Hid (w.heap.size+1<=wA.heap.size):=by unfold Hid;rw[<-hWA,Q1,Q1];omega
 have HBA:Hid (BT wA w.heap.size #[.int .i64 t.frm,.int .i64 t.to,.int .i64 t.cost] 63):=by unfold Hid;rw[<-hWA];exact(BT.new w _ _ _ rfl).alloc _
 have HOA:Hid (wA.ownsRow (w.heap.size+1) 63 3 (.slice (some ⟨w.heap.size+1,0,none⟩) 0 0) 0 (((V6 ts t 0).1).flatMap Y3)):=by
  unfold Hid
  rw[<-hWA]
  refine⟨rfl,Or.inr ⟨w.heap.size+1,0,#[],rfl,Nat.le_refl _,?_,Nat.le_refl _,Nat.zero_le _,rfl,rfl⟩⟩
  exact BT.new _ _ _ _ (by rw[Q1])
 clear hWA
 go_loopw [5,6,7] (λo d i wr=>∃(k m:Nat) (ao:Option Addr) (co:Nat) (dn:Bool),k<=n/\i=.int .i64 k/\o=.slice ao m co/\d=.bool dn/\Hid (wr.ownsRow (w.heap.size+1) 63 3 (.slice ao m co) m (((V6 ts t k).1).flatMap Y3))/\Hid ((V6 ts t k).1.length=m)/\Hid ((V6 ts t k).2=dn)/\Hid (∀j,j<k->sameT (tat ts j) t=false)/\Hid (Chg (λx=>(w.heap.size+1)<=x) wA wr)) (λ_ _ i _=>n-(intOf i).toNat)
 case atStart=>exact⟨0,0,_,_,false,Nat.zero_le _,rfl,rfl,rfl,HOA,rfl,rfl,λj h=>absurd h (Nat.not_lt_zero _),Chg.nx (Nx.refl _)⟩
 obtain⟨k,m,ao,co,dn,hk,rfl,rfl,rfl,HO,HML,HDN,HNS,HC⟩:=hrel
 have HMB:Hid (m<=k+1):=by
  unfold Hid
  have h1:=insTo_len ts t k
  rw[HML.out] at h1
  split at h1<;>omega
 have hmb:=HMB.out
 have HXr:Hid (Nx w wr):=Below.trans HXA.out (Below.mono (HC.out.below HZA.out (λ_ h=>h)) (Nat.le_succ _))
 by_cases hlt:k<n
 ·have hlt':(k:Int)<n:=by omega
  obtain⟨a9,c9,e9,_,hk9⟩:=HTU.out
  rw[HN.out] at e9 hk9
  simp only[Value.slice.injEq] at e9
  obtain⟨rfl,_,rfl⟩:=e9
  obtain⟨tb,tq,rfl,_,_,_⟩:=hk9 (by omega)
  clear hk9
  have CX0:=mh ((Xl.keep HTU.out (HXr.out.keeps C)).at (by rw[HN.out];exact hlt))
  have HBr:=mh (HBA.out.chg HC.out (by omega))
  generalize hxt:tat ts k=x at *
  have HXT:Hid (tat ts k=x):=hxt
  clear hxt
  obtain⟨x0,x1,x2⟩:=CX0.out
  have b0:wr.cell? ⟨w.heap.size,0,none⟩=some (.int .i64 t.frm):=HBr.out.blk.cell (i:=0) rfl
  have b1:wr.cell? ⟨w.heap.size,1,none⟩=some (.int .i64 t.to):=HBr.out.blk.cell (i:=1) rfl
  go_upto_region 6 with fail
  go_cut [32] from 15 to 32 (λs wc=>s=.bool (sameT x t)/\Hid (Nx wr wc))
  case first=>
   by_cases h1:x.frm=t.frm
   ·have d1:(x.frm==t.frm)=true:=by simpa using h1
    by_cases h2:x.to=t.to
    ·have d2:(x.to==t.to)=true:=by simpa using h2
     go_quiet (fail)
     go_wp2
     go_meet
     exact⟨by simp[sameT,h1,h2],Qt _ _⟩
    ·have d2:(x.to==t.to)=false:=by simpa using h2
     go_quiet (fail)
     go_wp2
     go_meet
     exact⟨by simp[sameT,h2],Qt _ _⟩
   ·have d1:(x.frm==t.frm)=false:=by simpa using h1
    go_quiet (fail)
    go_wp2
    go_meet
    exact⟨by simp[sameT,h1],Qt _ _⟩
  case rest=>
  obtain⟨rfl,HDp⟩:=hcut
  generalize wc=wp at *
  cases hsm:sameT x t
  ·have HNS1:=mh (upto_succ HNS.out (by rw[HXT.out];exact hsm))
   clear hsm
   have HCp:=mh (HC.out.trans (Chg.nx HDp.out))
   have HOp:=mh (Ju HO.out HDp.out)
   have BTp:=mh (HBr.out.next HDp.out)
   have CXp:Hid (HTurn wp tb (tq+k*3) x):=⟨Q3 HDp.out x0,Q3 HDp.out x1,Q3 HDp.out x2⟩
   clear x0 x1 x2 b0 b1
   obtain⟨x0,x1,_⟩:=CXp.out
   have b0:wp.cell? ⟨w.heap.size,0,none⟩=some (.int .i64 t.frm):=BTp.out.blk.cell (i:=0) rfl
   have b1:wp.cell? ⟨w.heap.size,1,none⟩=some (.int .i64 t.to):=BTp.out.blk.cell (i:=1) rfl
   go_upto_region 8 with fail
   go_cut [65] from 34 to 65 (λs wc=>s=.bool (!dn&&gtT x t)/\Hid (Nx wp wc))
   case first=>
    cases dn with
    |true=>
     go_quiet (fail)
     go_wp2
     go_meet
     exact⟨by simp[gtT],Qt _ _⟩
    |false=>
     by_cases g1:t.frm<x.frm
     ·have d3:decide (t.frm<x.frm)=true:=by simpa using g1
      go_quiet (fail)
      go_wp2
      go_meet
      exact⟨by simp[gtT,g1],Qt _ _⟩
     ·have d3:decide (t.frm<x.frm)=false:=by simpa using g1
      by_cases g2:x.frm=t.frm
      ·have d4:(x.frm==t.frm)=true:=by simpa using g2
       by_cases g3:t.to<x.to
       ·have d5:decide (t.to<x.to)=true:=by simpa using g3
        go_quiet (fail)
        go_wp2
        go_meet
        exact⟨by simp[gtT,g2,g3],Qt _ _⟩
       ·have d5:decide (t.to<x.to)=false:=by simpa using g3
        go_quiet (fail)
        go_wp2
        go_meet
        exact⟨by simp[gtT,g2,g3],Qt _ _⟩
      ·have d4:(x.frm==t.frm)=false:=by simpa using g2
       go_quiet (fail)
       go_wp2
       go_meet
       exact⟨by simp[gtT,g1,g2],Qt _ _⟩
   case rest=>
   obtain⟨rfl,HDq⟩:=hcut
   generalize wc=wq at *
   have HCq:=mh (HCp.out.trans (Chg.nx HDq.out))
   have HOq:=mh (Ju HOp.out HDq.out)
   have BTq:=mh (BTp.out.next HDq.out)
   clear x0 x1 b0 b1
   cases hgg:(!dn&&gtT x t)
   ·have HGT:Hid (¬(!dn&&gtT x t)=true):=by unfold Hid;rw[hgg];decide
    clear hgg
    have HIN:Hid (V6 ts t (k+1)=((V6 ts t k).1++[x],dn)):=by unfold Hid;show(if _ then _ else _)=_;rw[HDN.out,HXT.out,if_neg HGT.out]
    have HXl:Hid (Nx w wq):=Below.trans HXA.out (Below.mono (HCq.out.below HZA.out (λ_ h=>h)) (Nat.le_succ _))
    have CX:Hid (HTurn wq tb (tq+k*3) x):=by unfold Hid;rw[<-HXT.out];exact(Xl.keep HTU.out (HXl.out.keeps C)).at (by rw[HN.out];exact hlt)
    obtain⟨c0,c1,c2⟩:=CX.out
    have hzw:w.heap.size+1<=wq.heap.size:=by have:=HCq.out.size;have:=HZA.out;omega
    go_wp2_with (at_builtin;refine Yw infoTurn Tryz.underlying26 rfl (by decide) (by decide) rfl _ _ rfl (w.heap.size+1) m (.slice ao m co) (((V6 ts t k).1).flatMap Y3) [.int .i64 x.frm,.int .i64 x.to,.int .i64 x.cost] wq rfl HOq.out rfl rfl (by intro u hu;simp at hu;rcases hu with rfl|rfl|rfl<;>rfl) (by omega) (by omega) ?_)
    intro a2 e2 w2 r1 r2 r3
    have HC2:Hid (Chg (λx=>(w.heap.size+1)<=x) wA w2):=HCq.out.trans ⟨r2.os,r2.tape,r2.output,r2.size,λb hb hn=>r2.block b hb (λe=>hn (Qf HOq.out b e.symm).1)⟩
    have HO2:Hid (w2.ownsRow (w.heap.size+1) 63 3 (.slice a2 (m+1) e2) (m+1) (((V6 ts t (k+1)).1).flatMap Y3)):=by unfold Hid;rw[HIN.out];show w2.ownsRow _ _ _ _ _ ((_++[x]).flatMap Y3);first|(rw[List.flatMap_append];exact r1)|(simp only[List.flatMap_append,List.append_assoc] at r1 ⊢;exact r1)
    have HM2:Hid ((V6 ts t (k+1)).1.length=m+1):=by unfold Hid;rw[HIN.out];simp[HML.out]
    have HD2:Hid ((V6 ts t (k+1)).2=dn):=by unfold Hid;rw[HIN.out]
    clear r1 r2 r3 c0 c1 c2
    go_wp2
    go_roundw
    case rel=>exact⟨k+1,m+1,a2,e2,dn,by omega,by go_num,rfl,rfl,HO2,HM2,HD2,HNS1,HC2⟩
    case measure=>simp[intOf];omega
   ·have HGT:=mh hgg
    clear hgg
    have HIN:Hid (V6 ts t (k+1)=((V6 ts t k).1++[t]++[x],true)):=by unfold Hid;show(if _ then _ else _)=_;rw[HDN.out,HXT.out,if_pos HGT.out]
    have b0:=BTq.out.blk.cell (i:=0) rfl
    have b1:=BTq.out.blk.cell (i:=1) rfl
    have b2:=BTq.out.blk.cell (i:=2) rfl
    have hzq:w.heap.size+1<=wq.heap.size:=by have:=HCq.out.size;have:=HZA.out;omega
    go_wp2_with (at_builtin;refine Yw infoTurn Tryz.underlying26 rfl (by decide) (by decide) rfl _ _ rfl (w.heap.size+1) m (.slice ao m co) (((V6 ts t k).1).flatMap Y3) [.int .i64 t.frm,.int .i64 t.to,.int .i64 t.cost] wq rfl HOq.out rfl rfl (by intro u hu;simp at hu;rcases hu with rfl|rfl|rfl<;>rfl) (by omega) (by omega) ?_)
    intro a1 e1 w1 r1 r2 r3
    have HO1:Hid (w1.ownsRow (w.heap.size+1) 63 3 (.slice a1 (m+1) e1) (m+1) (((V6 ts t k).1++[t]).flatMap Y3)):=by unfold Hid;rw[List.flatMap_append];exact r1
    have HC1:Hid (Chg (λx=>(w.heap.size+1)<=x) wA w1):=HCq.out.trans ⟨r2.os,r2.tape,r2.output,r2.size,λb hb hn=>r2.block b hb (λe=>hn (Qf HOq.out b e.symm).1)⟩
    clear r1 r2 r3 b0 b1 b2
    have HXl:Hid (Nx w w1):=Below.trans HXA.out (Below.mono (HC1.out.below HZA.out (λ_ h=>h)) (Nat.le_succ _))
    have CX:Hid (HTurn w1 tb (tq+k*3) x):=by unfold Hid;rw[<-HXT.out];exact(Xl.keep HTU.out (HXl.out.keeps C)).at (by rw[HN.out];exact hlt)
    obtain⟨c0,c1,c2⟩:=CX.out
    have hzw:w.heap.size+1<=w1.heap.size:=by have:=HC1.out.size;have:=HZA.out;omega
    go_wp2_with (at_builtin;refine Yw infoTurn Tryz.underlying26 rfl (by decide) (by decide) rfl _ _ rfl (w.heap.size+1) (m+1) (.slice a1 (m+1) e1) (((V6 ts t k).1++[t]).flatMap Y3) [.int .i64 x.frm,.int .i64 x.to,.int .i64 x.cost] w1 rfl HO1.out rfl rfl (by intro u hu;simp at hu;rcases hu with rfl|rfl|rfl<;>rfl) (by omega) (by omega) ?_)
    intro a2 e2 w2 r1 r2 r3
    have HC2:Hid (Chg (λx=>(w.heap.size+1)<=x) wA w2):=HC1.out.trans ⟨r2.os,r2.tape,r2.output,r2.size,λb hb hn=>r2.block b hb (λe=>hn (Qf HO1.out b e.symm).1)⟩
    have HO2:Hid (w2.ownsRow (w.heap.size+1) 63 3 (.slice a2 ((m+1)+1) e2) ((m+1)+1) (((V6 ts t (k+1)).1).flatMap Y3)):=by unfold Hid;rw[HIN.out];show w2.ownsRow _ _ _ _ _ ((_++[x]).flatMap Y3);first|(rw[List.flatMap_append];exact r1)|(simp only[List.flatMap_append,List.append_assoc] at r1 ⊢;exact r1)
    have HM2:Hid ((V6 ts t (k+1)).1.length=(m+1)+1):=by unfold Hid;rw[HIN.out];simp[HML.out]
    have HD2:Hid ((V6 ts t (k+1)).2=true):=by unfold Hid;rw[HIN.out]
    clear r1 r2 r3 c0 c1 c2
    go_wp2
    go_roundw
    case rel=>exact⟨k+1,(m+1)+1,a2,e2,true,by omega,by go_num,rfl,rfl,HO2,HM2,HD2,HNS1,HC2⟩
    case measure=>simp[intOf];omega
  ·have HAD:Hid (addT ts t=ts):=by unfold Hid addT;rw[if_pos (sameT_some (j:=k) (by rw[HN.out];exact hlt) (by rw[HXT.out];exact hsm))]
   clear hsm
   go_wp2
   go_ret
   rw[HAD.out]
   exact⟨⟨_,rfl,Ju HOT.out (HXr.out.trans HDp.out)⟩,HXr.out.trans HDp.out⟩
 have hkn:k=n:=by omega
 subst hkn
 have HNO:Hid (ts.any (λx=>sameT x t)=false):=sameT_any (λj hj=>HNS.out j (by rw[HN.out] at hj;exact hj))
 have HBr:=mh (HBA.out.chg HC.out (by omega))
 cases dn with
 |true=>
  have HAD:Hid (addT ts t=(V6 ts t k).1):=by unfold Hid addT;rw[HNO.out,HN.out,HDN.out];rfl
  go_wp2
  go_ret
  rw[HAD.out]
  refine⟨⟨_,rfl,?_⟩,HXr.out⟩
  unfold OwnT
  rw[HML.out]
  exact Yt HO.out (by omega)
 |false=>
  have HAD:Hid (addT ts t=(V6 ts t k).1++[t]):=by unfold Hid addT;rw[HNO.out,HN.out,HDN.out];rfl
  have b0:=HBr.out.blk.cell (i:=0) rfl
  have b1:=HBr.out.blk.cell (i:=1) rfl
  have b2:=HBr.out.blk.cell (i:=2) rfl
  have hzq:w.heap.size+1<=wr.heap.size:=by have:=HC.out.size;have:=HZA.out;omega
  go_wp2_with (at_builtin;refine Yw infoTurn Tryz.underlying26 rfl (by decide) (by decide) rfl _ _ rfl (w.heap.size+1) m (.slice ao m co) (((V6 ts t k).1).flatMap Y3) [.int .i64 t.frm,.int .i64 t.to,.int .i64 t.cost] wr rfl HO.out rfl rfl (by intro u hu;simp at hu;rcases hu with rfl|rfl|rfl<;>rfl) (by omega) (by omega) ?_)
  intro a1 e1 w1 r1 r2 r3
  have HX1:Hid (Nx w w1):=Below.trans HXr.out (r2.below HXr.out.size (λg e=>by have:=(Qf HO.out g e.symm).1;omega))
  have HO1:Hid (OwnT C w1 (.slice a1 (m+1) e1) ((V6 ts t k).1++[t])):=by
   unfold Hid OwnT
   rw[List.length_append,HML.out,List.flatMap_append]
   exact Yt r1 (by omega)
  clear r1 r2 r3 b0 b1 b2
  go_wp2
  go_ret
  rw[HAD.out]
  exact⟨⟨_,rfl,HO1.out⟩,HX1.out⟩
theorem BT.setOther {w:World}{b g t:Nat}{cs:Array Value}(h:BT w b cs t)(hn:b≠g)(i:Nat)(v:Value):BT (w.setCell ⟨g,i,none⟩ v) b cs t:=h.chg (Chg.set (S:=λx=>x=g) _ _ _ rfl) hn
theorem Q7 {C t u sz n g:Nat}{w:World}{v:Value}{xs:List Value}{cs:Array Value}(h:w.ownsRow C t sz v n xs)(hb:BT w g cs u)(hn:u≠t)(i:Nat)(x:Value):(w.setCell ⟨g,i,none⟩ x).ownsRow C t sz v n xs:=
 Qz h (Chg.set (S:=λy=>y=g) _ _ _ rfl) (λk hk e=>by
  have e':k=g:=e
  subst e'
  exact hb.neRow h hn hk.symm)
theorem Z6 {C t sz n g:Nat}{w:World}{v:Value}{xs:List Value}(h:w.ownsRow C t sz v n xs)(hg:v.ownBlock=some g):∃cs,BT w g cs t:=by
 rcases h.2 with⟨rfl,_⟩|⟨b,cap,cur,rfl,_,hh,_⟩
 ·cases hg
 ·have e:b=g:=by simpa [Value.ownBlock] using hg
  subst e
  exact⟨cur,hh⟩
theorem J8 {C C' t u sz sz' n m:Nat}{w w':World}{v v':Value}{xs ys:List Value}(h:w.ownsRow C t sz v n xs)(k:w.ownsRow C' u sz' v' m ys)(hn:t≠u)(hc:Chg (λx=>some x=v'.ownBlock) w w'):w'.ownsRow C t sz v n xs:=
 Qz h hc (λg hg hs=>by
  obtain⟨cs,hb⟩:=Z6 h hg
  exact hb.neRow k hn hs)
theorem Zl {C t sz n:Nat}{w w':World}{v v':Value}{xs:List Value}(h:w.ownsRow C t sz v n xs)(ha:∀g,v'.ownBlock=some g->v.ownBlock≠some g)(hc:Chg (λx=>some x=v'.ownBlock) w w'):w'.ownsRow C t sz v n xs:=
 Qz h hc (λg hg hs=>ha g hs.symm hg)
theorem BT.row {C t u sz n b:Nat}{w w':World}{v:Value}{xs:List Value}{cs:Array Value}(h:BT w b cs u)(k:w.ownsRow C t sz v n xs)(hn:u≠t)(hc:Chg (λx=>some x=v.ownBlock) w w'):BT w' b cs u:=h.chg hc (h.neRow k hn)
theorem Jg.row {C D t sz n b:Nat}{w w':World}{v:Value}{xs:List Value}{S:Src}(h:Jg D w b S)(k:w.ownsRow C t sz v n xs)(h1:t≠73)(h2:t≠5)(hc:Chg (λx=>some x=v.ownBlock) w w'):Jg D w' b S:=
 h.chg hc (λx hx=>by
  obtain⟨cs,hb⟩:=Z6 k hx.symm
  exact⟨cs,t,hb,h1,h2⟩)
theorem Jg.set {D t g b:Nat}{w:World}{cs:Array Value}{S:Src}(h:Jg D w b S)(k:BT w g cs t)(h1:t≠73)(h2:t≠5)(i:Nat)(v:Value):Jg D (w.setCell ⟨g,i,none⟩ v) b S:=
 h.chg (Chg.set (S:=λx=>x=g) _ _ _ rfl) (λx hx=>by
  have hx':x=g:=hx
  subst hx'
  exact⟨cs,t,k,h1,h2⟩)
def zNet:Array Value:=#[.slice none 0 0,.slice none 0 0,.slice none 0 0,.slice none 0 0,.int .i64 0]
def prs (n:Nat)(vn vw:Nat->Value):List Value:=(List.range n).flatMap λi=>[vn i,vw i]
structure DBs (C D b:Nat)(w:World)(S:Src)(v0 v1 v3:Value)(nodes:List Int)(ws:List Wy)(vn vw:Nat->Value)(ts:List Tn):Prop where
 src:Jg D w b S
 res:BT w C zNet 28
 box:BT w (C+1) #[v0,v1,.slice none 0 0,v3,.int .i64 0] 28
 nd:Q6 C w v0 nodes
 wys:Z1 C w v1 ws vn vw
 wn:∀i,i<ws.length->Q6 C w (vn i) (wat ws i).nodes
 ww:∀i,i<ws.length->Q6 C w (vw i) (wat ws i).weights
 tn:OwnT C w v3 ts
 ap:Apt (v0::prs ws.length vn vw)
section
variable {C D b:Nat}{w w':World}{S S':Src}{v0 v1 v3:Value}{nodes:List Int}{ws:List Wy}{vn vw:Nat->Value}{ts:List Tn}
theorem DBs.next (h:DBs C D b w S v0 v1 v3 nodes ws vn vw ts)(k:Nx w w'):DBs C D b w' S v0 v1 v3 nodes ws vn vw ts:=
 ⟨h.src.next k,h.res.next k,h.box.next k,h.nd.next k,Ju h.wys k,λi hi=>(h.wn i hi).next k,λi hi=>(h.ww i hi).next k,Ju h.tn k,h.ap⟩
theorem DBs.drawn (h:DBs C D b w S v0 v1 v3 nodes ws vn vw ts)(hS:Jg D w' b S')(k:Chg (Sx1 b) w w'):DBs C D b w' S' v0 v1 v3 nodes ws vn vw ts:=by
 obtain⟨v,hb,_⟩:=h.src
 have key:∀{t sz n:Nat}{u:Value}{xs:List Value},w.ownsRow C t sz u n xs->73≠t->w'.ownsRow C t sz u n xs:=λhr ht=>Qz hr k (λg hg hx=>by
  have hx':g=b:=hx
  subst hx'
  exact hb.neRow hr ht hg.symm)
 exact⟨hS,h.res.chg k (h.res.ne hb (by decide)),h.box.chg k (h.box.ne hb (by decide)),key h.nd (by decide),key h.wys (by decide),λi hi=>key (h.wn i hi) (by decide),λi hi=>key (h.ww i hi) (by decide),key h.tn (by decide),h.ap⟩
theorem prs_mem {n:Nat}{x:Value}(h:x∈prs n vn vw):∃i,i<n/\(x=vn i\/x=vw i):=by
 obtain⟨i,hi,hx⟩:=List.mem_flatMap.1 h
 refine⟨i,List.mem_range.1 hi,?_⟩
 simpa using hx
theorem prs_in {n i:Nat}(hi:i<n):vn i∈prs n vn vw/\vw i∈prs n vn vw:=⟨List.mem_flatMap.2 ⟨i,List.mem_range.2 hi,by simp⟩,List.mem_flatMap.2 ⟨i,List.mem_range.2 hi,by simp⟩⟩
theorem DBs.addNode (h:DBs C D b w S v0 v1 v3 nodes ws vn vw ts){v:Value}{z:Int}(hr:Q6 C w' v (nodes++[z]))(hc:Chg (λx=>some x=v0.ownBlock) w w')(ha:∀g,v.ownBlock=some g->v0.ownBlock=some g\/w.heap.size<=g) :
  DBs C D b (w'.setCell ⟨C+1,0,none⟩ v) S v v1 v3 (nodes++[z]) ws vn vw ts:=by
 have hbox:BT w' (C+1) #[v0,v1,.slice none 0 0,v3,.int .i64 0] 28:=h.box.row h.nd (by decide) hc
 have ap:=List.pairwise_cons.1 h.ap
 have far:∀{u:Value}{zs:List Int},u∈prs ws.length vn vw->Q6 C w u zs->Q6 C (w'.setCell ⟨C+1,0,none⟩ v) u zs:=λhu ho=>Q7 (Zl ho (λg hg=>ap.1 _ hu g hg) hc) hbox (by decide) _ _
 refine⟨(h.src.row h.nd (by decide) (by decide) hc).set hbox (by decide) (by decide) _ _,(h.res.row h.nd (by decide) hc).setOther (by omega) _ _,hbox.set 0 v,Q7 hr hbox (by decide) _ _,Q7 (J8 h.wys h.nd (by decide) hc) hbox (by decide) _ _,λi hi=>far (prs_in hi).1 (h.wn i hi),λi hi=>far (prs_in hi).2 (h.ww i hi),Q7 (J8 h.tn h.nd (by decide) hc) hbox (by decide) _ _,List.pairwise_cons.2 ⟨λu hu g hg=>?_,ap.2⟩⟩
 rcases ha g hg with e|e
 ·exact ap.1 u hu g e
 ·obtain⟨i,hi,rfl|rfl⟩:=prs_mem hu
  ·intro e2
   have:=(Qf (h.wn i hi) g e2).2
   omega
  ·intro e2
   have:=(Qf (h.ww i hi) g e2).2
   omega
theorem prs_snoc (n:Nat)(vn vw:Nat->Value)(a c:Value):prs (n+1) (upd vn n a) (upd vw n c)=prs n vn vw++[a,c]:=by
 unfold prs
 rw[List.range_succ,List.flatMap_append]
 congr 1
 ·refine Vd λi hi=>?_
  have hi':=List.mem_range.1 hi
  rw[Qv _ _ (by omega),Qv _ _ (by omega)]
 ·simp[J4]
theorem DBs.addWay (h:DBs C D b w S v0 v1 v3 nodes ws vn vw ts){z:Nat}(hz:∀u∈v0::prs ws.length vn vw,∀g,u.ownBlock=some g->g<z){v va vb:Value}{x:Wy}(hr:w'.ownsRow C 47 4 v (ws.length+1) (Vb ws vn vw++wayL x va vb))(hc:Chg (λy=>some y=v1.ownBlock) w w')
  (ha:Q6 z w va x.nodes) (hb:Q6 z w vb x.weights) (hCz:C<=z) (hab:∀g,va.ownBlock=some g->vb.ownBlock≠some g) :
  DBs C D b (w'.setCell ⟨C+1,1,none⟩ v) S v0 v v3 nodes (ws++[x]) (upd vn ws.length va) (upd vw ws.length vb) ts:=by
 have hbox:BT w' (C+1) #[v0,v1,.slice none 0 0,v3,.int .i64 0] 28:=h.box.row h.wys (by decide) hc
 have far:∀{u:Value}{zs:List Int},Q6 C w u zs->Q6 C (w'.setCell ⟨C+1,1,none⟩ v) u zs:=λho=>Q7 (J8 ho h.wys (by decide) hc) hbox (by decide) _ _
 have hl:(ws++[x]).length=ws.length+1:=by simp
 refine⟨(h.src.row h.wys (by decide) (by decide) hc).set hbox (by decide) (by decide) _ _,(h.res.row h.wys (by decide) hc).setOther (by omega) _ _,hbox.set 1 v,far h.nd,?_,λi hi=>?_,λi hi=>?_,Q7 (J8 h.tn h.wys (by decide) hc) hbox (by decide) _ _,?_⟩
 ·unfold Z1
  rw[hl,wrow_snoc]
  exact Q7 hr hbox (by decide) _ _
 ·by_cases e:i=ws.length
  ·subst e
   rw[J4,Zt]
   exact far (ha.base hCz)
  ·rw[Qv _ _ e,Zs (by omega)]
   exact far (h.wn i (by omega))
 ·by_cases e:i=ws.length
  ·subst e
   rw[J4,Zt]
   exact far (hb.base hCz)
  ·rw[Qv _ _ e,Zs (by omega)]
   exact far (h.ww i (by omega))
 ·rw[hl,prs_snoc]
  have new:∀u∈v0::prs ws.length vn vw,∀t∈[va,vb],∀g,u.ownBlock=some g->t.ownBlock≠some g:=λu hu t ht g hg e=>by
   have h1:=hz u hu g hg
   simp at ht
   rcases ht with rfl|rfl
   ·have:=(Qf ha g e).1;omega
   ·have:=(Qf hb g e).1;omega
  show Apt ((v0::prs ws.length vn vw)++[va,vb])
  refine List.pairwise_append.2 ⟨h.ap,?_,new⟩
  refine List.pairwise_cons.2 ⟨λu hu g hg=>?_,List.pairwise_singleton _ _⟩
  have:u=vb:=by simpa using hu
  subst this
  exact hab g hg
theorem DBs.setTurns (h:DBs C D b w S v0 v1 v3 nodes ws vn vw ts){v:Value}{us:List Tn}(hr:OwnT C w v us):DBs C D b (w.setCell ⟨C+1,3,none⟩ v) S v0 v1 v nodes ws vn vw us:=
 ⟨h.src.set h.box (by decide) (by decide) _ _,h.res.setOther (by omega) _ _,h.box.set 3 v,Q7 h.nd h.box (by decide) _ _,Q7 h.wys h.box (by decide) _ _,λi hi=>Q7 (h.wn i hi) h.box (by decide) _ _,λi hi=>Q7 (h.ww i hi) h.box (by decide) _ _,Q7 hr h.box (by decide) _ _,h.ap⟩
end
structure WBs (D b:Nat)(wr w:World)(S:Src)(id:Int)(bo:Bool)(va vb:Value)(nd wt:List Int):Prop where
 src:Jg D w b S
 chg:Chg (Sx1 b) wr w
 box:BT w wr.heap.size #[.int .i64 id,.bool bo,va,vb] 47
 nds:Q6 (wr.heap.size+1) w va nd
 wts:Q6 (wr.heap.size+1) w vb wt
 ap:∀g,va.ownBlock=some g->vb.ownBlock≠some g
section
variable {D b:Nat}{wr w w':World}{S S':Src}{id:Int}{bo:Bool}{va vb:Value}{nd wt:List Int}
theorem WBs.start {v:Src}(h:Jg D wr b S)(hx:BT w wr.heap.size #[.int .i64 id,.bool false,.slice none 0 0,.slice none 0 0] 47)(k:Nx wr w):WBs D b wr w S id false (.slice none 0 0) (.slice none 0 0) [] []:=
 ⟨h.next k,Chg.nx k,hx,⟨rfl,Or.inl ⟨rfl,rfl⟩⟩,⟨rfl,Or.inl ⟨rfl,rfl⟩⟩,λg hg=>by cases hg⟩
theorem WBs.drawn (h:WBs D b wr w S id bo va vb nd wt)(hS:Jg D w' b S')(k:Chg (Sx1 b) w w'):WBs D b wr w' S' id bo va vb nd wt:=by
 obtain⟨v,hb,_⟩:=h.src
 have key:∀{u:Value}{zs:List Int},Q6 (wr.heap.size+1) w u zs->Q6 (wr.heap.size+1) w' u zs:=λhr=>Qz hr k (λg hg hx=>by
  have hx':g=b:=hx
  subst hx'
  exact hb.neRow hr (by decide) hg.symm)
 exact⟨hS,h.chg.trans k,h.box.chg k (h.box.ne hb (by decide)),key h.nds,key h.wts,h.ap⟩
theorem WBs.next (h:WBs D b wr w S id bo va vb nd wt)(k:Nx w w'):WBs D b wr w' S id bo va vb nd wt:=
 ⟨h.src.next k,h.chg.trans (Chg.nx k),h.box.next k,h.nds.next k,h.wts.next k,h.ap⟩
theorem WBs.set (h:WBs D b wr w S id bo va vb nd wt)(i:Nat)(v:Value){id':Int}{bo':Bool}(e:(#[.int .i64 id,.bool bo,va,vb]:Array Value).setIfInBounds i v=#[.int .i64 id',.bool bo',va,vb]):WBs D b wr (w.setCell ⟨wr.heap.size,i,none⟩ v) S id' bo' va vb nd wt:=by
 have hx:=h.box.set i v
 rw[e] at hx
 exact⟨h.src.set h.box (by decide) (by decide) _ _,h.chg.young (Chg.set (S:=λx=>x=wr.heap.size) _ _ _ rfl) (λx hx hl=>by have hx':x=wr.heap.size:=hx;omega),hx,Q7 h.nds h.box (by decide) _ _,Q7 h.wts h.box (by decide) _ _,h.ap⟩
theorem WBs.addNd (h:WBs D b wr w S id bo va vb nd wt){v:Value}{z:Int}(hr:Q6 (wr.heap.size+1) w' v (nd++[z]))(hc:Chg (λx=>some x=va.ownBlock) w w')(ha:∀g,v.ownBlock=some g->va.ownBlock=some g\/w.heap.size<=g):WBs D b wr (w'.setCell ⟨wr.heap.size,2,none⟩ v) S id bo v vb (nd++[z]) wt:=by
 have hbox:BT w' wr.heap.size #[.int .i64 id,.bool bo,va,vb] 47:=h.box.row h.nds (by decide) hc
 refine⟨(h.src.row h.nds (by decide) (by decide) hc).set hbox (by decide) (by decide) _ _,(h.chg.young hc (λx hx hl=>by have:=(Qf h.nds x hx.symm).1;omega)).young (Chg.set (S:=λx=>x=wr.heap.size) _ _ _ rfl) (λx hx hl=>by have hx':x=wr.heap.size:=hx;omega),hbox.set 2 v,Q7 hr hbox (by decide) _ _,Q7 (Zl h.wts (λg hg=>h.ap g hg) hc) hbox (by decide) _ _,λg hg=>?_⟩
 rcases ha g hg with e|e
 ·exact h.ap g e
 ·intro e2
  have:=(Qf h.wts g e2).2
  omega
theorem WBs.addWt (h:WBs D b wr w S id bo va vb nd wt){v:Value}{z:Int}(hr:Q6 (wr.heap.size+1) w' v (wt++[z]))(hc:Chg (λx=>some x=vb.ownBlock) w w')(ha:∀g,v.ownBlock=some g->vb.ownBlock=some g\/w.heap.size<=g):WBs D b wr (w'.setCell ⟨wr.heap.size,3,none⟩ v) S id bo va v nd (wt++[z]):=by
 have hbox:BT w' wr.heap.size #[.int .i64 id,.bool bo,va,vb] 47:=h.box.row h.wts (by decide) hc
 refine⟨(h.src.row h.wts (by decide) (by decide) hc).set hbox (by decide) (by decide) _ _,(h.chg.young hc (λx hx hl=>by have:=(Qf h.wts x hx.symm).1;omega)).young (Chg.set (S:=λx=>x=wr.heap.size) _ _ _ rfl) (λx hx hl=>by have hx':x=wr.heap.size:=hx;omega),hbox.set 3 v,Q7 (Zl h.nds (λg hg hg2=>h.ap g hg2 hg) hc) hbox (by decide) _ _,Q7 hr hbox (by decide) _ _,λg hg hg2=>?_⟩
 rcases ha g hg2 with e|e
 ·exact h.ap g hg e
 ·have:=(Qf h.nds g hg).2
  omega
end
theorem wyS0_ok {ways:Int}{i:Nat}{S:Src}(h:SOk S):SOk (Z2 ways i S):=by
 unfold Z2
 split
 ·exact Qm h _
 ·exact h
theorem wyS0_size (ways:Int)(i:Nat)(S:Src):(Z2 ways i S).size=S.size:=by
 unfold Z2
 split
 ·rw[Qr]
 ·rfl
theorem wyS3_ok {S:Src}(h:SOk S):SOk (Zq S):=by
 unfold Zq
 split
 ·exact Qm (Qm h _) _
 ·exact Qm h _
theorem wyS3_size (S:Src):(Zq S).size=S.size:=by
 unfold Zq
 split
 ·rw[Qr,Qr]
 ·rw[Qr]
theorem wySegs_in {S:Src}(h:SOk S):1<=Yo S/\Yo S<=3:=by
 have h1:=Qu (Qm h 4) 2
 unfold Yo
 split<;>omega
theorem wySg_ok {count:Int}{ids:List Int}{S:Src}(hc:1<=count)(h:SOk S):SOk (wySg count ids S).S/\(wySg count ids S).nodes.length=(Yo S).toNat+1/\(wySg count ids S).weights.length=(Yo S).toNat/\(wySg count ids S).S.size=S.size:=by
 have h1:=wyS3_ok h
 have h2:=Qu h1 count
 have h3:=sgTo_ok (ids:=ids) hc (x:=⟨ns (Zq S) count,nv (Zq S) count,[iat ids (nv (Zq S) count).toNat],[]⟩) (Qm h1 _) ⟨h2.1,h2.2 hc⟩ (Yo S).toNat
 refine⟨h3.1,?_,?_,?_⟩
 ·have:=h3.2.2.1
  simp only[List.length_singleton] at this
  unfold wySg
  omega
 ·have:=h3.2.2.2.1
  simp only[List.length_nil] at this
  unfold wySg
  omega
 ·unfold wySg
  rw[h3.2.2.2.2]
  show(ns (Zq S) count).size=_
  rw[Qr,wyS3_size]
structure WyOk (k:Nat)(s:Int)(x:WySt):Prop where
 ok:SOk x.S
 id:0<=x.id/\x.id<=4+2*k
 len:x.ways.length=k
 size:x.S.size=s
 seg:∀i,i<k->(wat x.ways i).weights.length<=3/\(wat x.ways i).nodes.length=(wat x.ways i).weights.length+1
theorem wyTo_ok {count ways:Int}{ids:List Int}(hc:1<=count){x:WySt}{s:Int}(h:WyOk 0 s x):∀k,WyOk k s (Ym count ways ids x k)
 |0=>h
 |k+1=>by
  have q:=wyTo_ok (ways:=ways) (ids:=ids) hc h k
  have h1:=wyS0_ok (ways:=ways) (i:=k) q.ok
  have h2:=Qm (Qm h1 2) 3
  have h3:=wySg_ok (ids:=ids) hc h2
  have h4:=Qu h1 2
  have h5:=wySegs_in h2
  refine⟨h3.1,?_,?_,?_,λi hi=>?_⟩
  ·show 0<=(Ym count ways ids x k).id+(1+nv _ 2)/\(Ym count ways ids x k).id+(1+nv _ 2)<=_
   have:=q.id
   omega
  ·show((Ym count ways ids x k).ways++[_]).length=_
   rw[List.length_append,q.len];rfl
  ·show(wySg count ids _).S.size=s
   rw[h3.2.2.2,Qr,Qr,wyS0_size,q.size]
  ·obtain⟨X,e0,x1,x2⟩:∃X:Wy,(Ym count ways ids x (k+1)).ways=(Ym count ways ids x k).ways++[X]/\X.nodes=(wySg count ids (ns (ns (Z2 ways k (Ym count ways ids x k).S) 2) 3)).nodes/\X.weights=(wySg count ids (ns (ns (Z2 ways k (Ym count ways ids x k).S) 2) 3)).weights:=⟨_,rfl,rfl,rfl⟩
   rw[e0]
   by_cases e:i=k
   ·have e2:i=(Ym count ways ids x k).ways.length:=by rw[q.len];exact e
    rw[e2,Zt,x1,x2,h3.2.2.1,h3.2.1]
    omega
   ·rw[Zs (by rw[q.len];omega)]
    exact q.seg i (by omega)
end Go.Proofs.YthhbdfiopjclcaaGreatDoor
