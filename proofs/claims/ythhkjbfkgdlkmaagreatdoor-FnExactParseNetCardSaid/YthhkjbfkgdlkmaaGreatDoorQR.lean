import Derived.Test.YthhkjbfkgdlkmaaGreatDoorQP
import Derived.Test.YthhkjbfkgdlkmaaGreatDoorQQ
namespace Go.Proofs.YthhkjbfkgdlkmaaGreatDoor
open Go.RowKit Go.Sort Go.Shelf
set_option linter.unusedVariables false
set_option maxRecDepth 1000000
set_option maxHeartbeats 16000000
def ntO (ps:List Px):Nt:=⟨ndO ps,(wyO ps).map (·.1),(rlO ps).map (·.1),tnO ps,utO ps⟩
theorem wat_of {l:List Wv}{i:Nat}(h:i<l.length):wat (l.map (·.1)) i=(l[i]).1:=by simp[wat,List.getD_eq_getElem?_getD,h]
theorem rat_of {l:List Rv}{i:Nat}(h:i<l.length):rat (l.map (·.1)) i=(l[i]).1:=by simp[rat,List.getD_eq_getElem?_getD,h]
theorem held_ways {C:Nat}{w:World}{v:Value}{l:List Wv}(h:w.ownsRow C 45 4 v l.length (l.flatMap wvL))(hr:∀x∈l,OwnI C w x.2.1 x.1.nodes/\OwnI C w x.2.2 x.1.weights):HWays C w v (l.map (·.1)):=by
 obtain⟨a,c,rfl⟩:=row_slice h
 by_cases hp:0<l.length
 ·have hm:l.length<=maxLen:=by
   obtain⟨b,c',e,-,hm,-⟩:=row_cells h rfl (by decide) (λ_=>rfl) (i:=0) (x:=l[0]) (by simp[hp])
   exact hm
  refine⟨a,c,by rw[List.length_map],by rw[List.length_map];exact hm,λ_=>?_⟩
  obtain⟨b,c',e,-,-,hC,hb,-⟩:=row_cells h rfl (by decide) (λ_=>rfl) (i:=0) (x:=l[0]) (by simp[hp])
  simp only[Value.slice.injEq] at e
  refine⟨b,0,e.1,hC,hb,λi hi=>?_⟩
  rw[List.length_map] at hi
  obtain⟨b',c2,e',-,-,-,-,hc⟩:=row_cells h rfl (by decide) (λ_=>rfl) (i:=i) (x:=l[i]) (by simp[hi])
  simp only[Value.slice.injEq] at e'
  have eb:b=b':=by have:some (⟨b,0,none⟩:Addr)=some ⟨b',0,none⟩:=by rw[<-e.1,<-e'.1]
                   simpa using this
  subst eb
  obtain⟨h1,h2⟩:=hr l[i] (List.getElem_mem hi)
  rw[wat_of hi,Nat.zero_add]
  exact⟨l[i].2.1,l[i].2.2,hc 0 (by decide),hc 1 (by decide),hc 2 (by decide),hc 3 (by decide),h1.held,h2.held⟩
 ·exact⟨a,c,by rw[List.length_map],by rw[List.length_map];unfold maxLen;omega,λk=>by rw[List.length_map] at k;exact absurd k hp⟩
theorem held_rels {C:Nat}{w:World}{v:Value}{l:List Rv}(h:w.ownsRow C 47 7 v l.length (l.flatMap rvL))(hr:∀x∈l,OwnI C w x.2 x.1.ways):HRels C w v (l.map (·.1)):=by
 obtain⟨a,c,rfl⟩:=row_slice h
 by_cases hp:0<l.length
 ·have hm:l.length<=maxLen:=by
   obtain⟨b,c',e,-,hm,-⟩:=row_cells h rfl (by decide) (λ_=>rfl) (i:=0) (x:=l[0]) (by simp[hp])
   exact hm
  refine⟨a,c,by rw[List.length_map],by rw[List.length_map];exact hm,λ_=>?_⟩
  obtain⟨b,c',e,-,-,hC,hb,-⟩:=row_cells h rfl (by decide) (λ_=>rfl) (i:=0) (x:=l[0]) (by simp[hp])
  simp only[Value.slice.injEq] at e
  refine⟨b,0,e.1,hC,hb,λi hi=>?_⟩
  rw[List.length_map] at hi
  obtain⟨b',c2,e',-,-,-,-,hc⟩:=row_cells h rfl (by decide) (λ_=>rfl) (i:=i) (x:=l[i]) (by simp[hi])
  simp only[Value.slice.injEq] at e'
  have eb:b=b':=by have:some (⟨b,0,none⟩:Addr)=some ⟨b',0,none⟩:=by rw[<-e.1,<-e'.1]
                   simpa using this
  subst eb
  have h1:=hr l[i] (List.getElem_mem hi)
  rw[rat_of hi,Nat.zero_add]
  exact⟨l[i].2,hc 0 (by decide),hc 1 (by decide),hc 2 (by decide),hc 3 (by decide),hc 4 (by decide),hc 5 (by decide),hc 6 (by decide),h1.held⟩
 ·exact⟨a,c,by rw[List.length_map],by rw[List.length_map];unfold maxLen;omega,λk=>by rw[List.length_map] at k;exact absurd k hp⟩
theorem held_turns {C:Nat}{w:World}{v:Value}{l:List Tn}(h:w.ownsRow C 69 3 v l.length (l.flatMap tcell)):HTurns C w v l:=by
 obtain⟨a,c,rfl⟩:=row_slice h
 by_cases hp:0<l.length
 ·have hm:l.length<=maxLen:=by
   obtain⟨b,c',e,-,hm,-⟩:=row_cells h rfl (by decide) (λ_=>rfl) (i:=0) (x:=l[0]) (by simp[hp])
   exact hm
  refine⟨a,c,rfl,hm,λ_=>?_⟩
  obtain⟨b,c',e,-,-,hC,hb,-⟩:=row_cells h rfl (by decide) (λ_=>rfl) (i:=0) (x:=l[0]) (by simp[hp])
  simp only[Value.slice.injEq] at e
  refine⟨b,0,e.1,hC,hb,λi hi=>?_⟩
  obtain⟨b',c2,e',-,-,-,-,hc⟩:=row_cells h rfl (by decide) (λ_=>rfl) (i:=i) (x:=l[i]) (by simp[hi])
  simp only[Value.slice.injEq] at e'
  have eb:b=b':=by have:some (⟨b,0,none⟩:Addr)=some ⟨b',0,none⟩:=by rw[<-e.1,<-e'.1]
                   simpa using this
  subst eb
  have et:tat l i=l[i]:=by simp[tat,List.getD_eq_getElem?_getD,hi]
  rw[et,Nat.zero_add]
  exact⟨hc 0 (by decide),hc 1 (by decide),hc 2 (by decide)⟩
 ·exact⟨a,c,rfl,by unfold maxLen;omega,λk=>absurd k hp⟩
theorem wy_ir {ps:List Px}{x:Wv}(h:x∈wyO ps):(x.2.1,x.1.nodes)∈irO ps/\(x.2.2,x.1.weights)∈irO ps:=by
 obtain⟨p,hp,hx⟩:=List.mem_flatMap.1 h
 unfold wyP at hx
 split at hx
 ·rename_i hk
  have e:x=(p.d.way,p.vn,p.vw):=by simpa using hx
  subst e
  refine⟨List.mem_flatMap.2 ⟨p,hp,?_⟩,List.mem_flatMap.2 ⟨p,hp,?_⟩⟩<;>simp[irP,hk]
 ·cases hx
theorem rl_ir {ps:List Px}{x:Rv}(h:x∈rlO ps):(x.2,x.1.ways)∈irO ps:=by
 obtain⟨p,hp,hx⟩:=List.mem_flatMap.1 h
 unfold rlP at hx
 split at hx
 ·rename_i hk
  have e:x=(p.d.rel,p.vr):=by simpa using hx
  subst e
  refine List.mem_flatMap.2 ⟨p,hp,?_⟩
  simp[irP,hk]
 ·cases hx
theorem RM.hnet {w0 w:World}{rb:Nat}{vN vW vR vT vL:Value}{u line:Int}{ls:List Lv}{ps:List Px}(h:RM w0 w rb vN vW vR vT u line vL (ndO ps) (wyO ps) (rlO ps) (tnO ps) ls (irO ps)):HNet w0.heap.size w vN vW vR vT (ntO ps):=
 ⟨h.n.held,held_ways h.wy (λx hx=>⟨h.ri _ (wy_ir hx).1,h.ri _ (wy_ir hx).2⟩),held_rels h.rl (λx hx=>h.ri _ (rl_ir hx)),held_turns h.tn⟩
def dsP (ps:List Px):List De:=ps.map (·.d)
theorem dsP_snoc (ps:List Px)(p:Px):dsP (ps++[p])=dsP ps++[p.d]:=by simp[dsP]
theorem dat_snoc (ds:List De)(d:De){i:Nat}(h:i<ds.length):dat (ds++[d]) i=dat ds i:=by simp[dat,List.getD_eq_getElem?_getD,List.getElem?_append_left h]
theorem dat_last (ds:List De)(d:De):dat (ds++[d]) ds.length=d:=by simp[dat,List.getD_eq_getElem?_getD]
theorem cntTo_snoc (ds:List De)(d:De)(kind:Int):∀k,k<=ds.length->cntTo (ds++[d]) kind k=cntTo ds kind k
 |0,_=>rfl
 |k+1,h=>by
  unfold cntTo
  rw[dat_snoc ds d (by omega),cntTo_snoc ds d kind k (by omega)]
theorem egTo_snoc (ds:List De)(d:De):∀k,k<=ds.length->egTo (ds++[d]) k=egTo ds k
 |0,_=>rfl
 |k+1,h=>by
  unfold egTo
  rw[dat_snoc ds d (by omega),egTo_snoc ds d k (by omega)]
theorem edTo_map {xs:List Wy}{x:Wy}:∀k,k<=xs.length->edTo (xs++[x]) k=edTo xs k
 |0,_=>rfl
 |k+1,h=>by
  unfold edTo
  have e:wat (xs++[x]) k=wat xs k:=by simp[wat,List.getD_eq_getElem?_getD,List.getElem?_append_left (show k<xs.length by omega)]
  rw[e,edTo_map k (by omega)]
def WnOk (ps:List Px):Prop:=∀p∈ps,p.d.kind≠2->p.d.way.weights=[]
theorem rev_ind {P:List Px->Prop}(h0:P [])(hs:∀ps p,P ps->P (ps++[p])):∀ps,P ps:=λps=>by
 have h:∀n,∀ps:List Px,ps.length=n->P ps:=λn=>by
  induction n with
  |zero=>intro ps h;rw[List.length_eq_zero_iff.1 h];exact h0
  |succ n ih=>
   intro ps h
   have hne:ps≠[]:=λe=>by rw[e] at h;cases h
   rw[<-List.dropLast_concat_getLast hne]
   exact hs _ _ (ih _ (by rw[List.length_dropLast];omega))
 exact h _ ps rfl
theorem counts_eq (ps:List Px):WnOk ps->(ndO ps).length=cntTo (dsP ps) 1 ps.length/\(wyO ps).length=cntTo (dsP ps) 2 ps.length/\(rlO ps).length=cntTo (dsP ps) 3 ps.length/\(tnO ps).length=cntTo (dsP ps) 4 ps.length/\edTo ((wyO ps).map (·.1)) (wyO ps).length=egTo (dsP ps) ps.length:=by
 refine rev_ind (P:=λps=>WnOk ps->(ndO ps).length=cntTo (dsP ps) 1 ps.length/\(wyO ps).length=cntTo (dsP ps) 2 ps.length/\(rlO ps).length=cntTo (dsP ps) 3 ps.length/\(tnO ps).length=cntTo (dsP ps) 4 ps.length/\edTo ((wyO ps).map (·.1)) (wyO ps).length=egTo (dsP ps) ps.length) (λ_=>⟨rfl,rfl,rfl,rfl,rfl⟩) (λps p ih hw=>?_) ps
 obtain⟨i1,i2,i3,i4,i5⟩:=ih (λq hq=>hw q (List.mem_append.2 (Or.inl hq)))
 have hl:(dsP ps).length=ps.length:=by simp[dsP]
 have hd:dat (dsP ps++[p.d]) ps.length=p.d:=by rw[<-hl];exact dat_last _ _
 have hc:∀kind,cntTo (dsP (ps++[p])) kind (ps++[p]).length=if p.d.kind=kind then cntTo (dsP ps) kind ps.length+1 else cntTo (dsP ps) kind ps.length:=λkind=>by
  rw[dsP_snoc,List.length_append,List.length_singleton]
  show(if (dat (dsP ps++[p.d]) ps.length).kind=kind then _ else _)=_
  rw[hd,cntTo_snoc _ _ _ _ (by omega)]
 have he:egTo (dsP (ps++[p])) (ps++[p]).length=egTo (dsP ps) ps.length+wegs p.d.way:=by
  rw[dsP_snoc,List.length_append,List.length_singleton]
  show egTo _ ps.length+wegs (dat (dsP ps++[p.d]) ps.length).way=_
  rw[hd,egTo_snoc _ _ _ (by omega)]
 rw[hc,hc,hc,hc,he,ndO_snoc,wyO_snoc,rlO_snoc,tnO_snoc]
 refine⟨?_,?_,?_,?_,?_⟩
 ·unfold ndP;split<;>simp[i1]
 ·unfold wyP;split<;>simp[i2]
 ·unfold rlP;split<;>simp[i3]
 ·unfold tnP;split<;>simp[i4]
 ·unfold wyP
  split
  ·rename_i hk
   rw[List.map_append,List.length_append,List.map_singleton,List.length_singleton]
   show edTo _ (wyO ps).length+edgeN (wat ((wyO ps).map (·.1)++[p.d.way]) (wyO ps).length)=_
   have e1:wat ((wyO ps).map (·.1)++[p.d.way]) (wyO ps).length=p.d.way:=by
    have:(wyO ps).length=((wyO ps).map (·.1)).length:=by simp
    rw[this]
    simp[wat,List.getD_eq_getElem?_getD]
   rw[e1,edTo_map _ (by simp),i5]
   rfl
  ·rename_i hk
   have hz:=hw p (List.mem_append.2 (Or.inr (List.mem_singleton.2 rfl))) hk
   have hz2:wegs p.d.way=0:=by unfold wegs;rw[hz];split<;>rfl
   rw[List.append_nil,i5,hz2];rfl
theorem counts_over {ps:List Px}(h:WnOk ps):counts (ntO ps)=!overB (dsP ps):=by
 obtain⟨h1,h2,h3,h4,h5⟩:=counts_eq ps h
 have hl:(dsP ps).length=ps.length:=by simp[dsP]
 unfold counts overB ntO
 dsimp only
 rw[List.length_map,List.length_map,h5,h1,h2,h3,h4,hl]
 simp[Bool.not_or,<-decide_not,Nat.not_lt]
def nml (ps:List Px)(k:Nat):List (Nm×Int):=(ps.take k).map λp=>(selfN p.d,p.no)
theorem pk_self (d:De)(kind a b:Int):decide (selfN d=(kind-1,a,b))=pk kind a b d:=by
 rw[Bool.eq_iff_iff]
 simp[selfN,pk]
theorem hasK_any (ps:List Px)(k:Nat)(kind a b:Int):hasK (nml ps k) (kind-1,a,b)=(ps.take k).any (λp=>pk kind a b p.d):=by
 unfold hasK nml
 rw[List.any_map]
 congr 1
 funext p
 exact pk_self p.d kind a b
theorem fndP_neg {p:De->Bool}{ds:List De}:fndP p ds<0↔∀d∈ds,p d=false:=by
 unfold fndP
 cases h:ds.findIdx? p with
 |none=>
  refine⟨λ_ d hd=>?_,λ_=>by decide⟩
  have:=(List.findIdx?_eq_none_iff.1 h) d hd
  simpa using this
 |some i=>
  refine⟨λk=>absurd k (by show ¬((i:Int)<0);omega),λk=>?_⟩
  obtain⟨hi,hp,-⟩:=List.findIdx?_eq_some_iff_getElem.1 h
  rw[k _ (List.getElem_mem hi)] at hp
  cases hp
theorem pat_at {ps:List Px}{i:Nat}(h:i<ps.length):pat ps i=ps[i]:=by simp[pat,List.getD_eq_getElem?_getD,h]
theorem dat_pat {ps:List Px}{i:Nat}(h:i<ps.length):dat (dsP ps) i=(pat ps i).d:=by
 rw[pat_at h]
 simp[dat,dsP,List.getD_eq_getElem?_getD,h]
theorem has_all (ps:List Px)(kind a b:Int):hasK (nml ps ps.length) (kind-1,a,b)=!decide (fndP (pk kind a b) (dsP ps)<0):=by
 rw[hasK_any,List.take_length,Bool.eq_iff_iff]
 rw[List.any_eq_true]
 simp only[Bool.not_eq_true',decide_eq_false_iff_not,fndP_neg,Classical.not_forall]
 constructor
 ·rintro⟨p,hp,h⟩
  exact⟨p.d,List.mem_map.2 ⟨p,hp,rfl⟩,by rw[h];decide⟩
 ·rintro⟨d,hd,h⟩
  obtain⟨p,hp,rfl⟩:=List.mem_map.1 hd
  exact⟨p,hp,by simpa using h⟩
theorem rep_has {ps:List Px}{i:Nat}(h:i<ps.length):hasK (nml ps i) (selfN (pat ps i).d)=repB (dsP ps) i:=by
 have e:selfN (pat ps i).d=((pat ps i).d.kind-1,(pat ps i).d.a,(pat ps i).d.b):=rfl
 rw[e,hasK_any]
 unfold repB
 rw[dat_pat h]
 have hpi:pk (pat ps i).d.kind (pat ps i).d.a (pat ps i).d.b (pat ps i).d=true:=by simp[pk]
 generalize pk (pat ps i).d.kind (pat ps i).d.a (pat ps i).d.b=p at *
 rw[Bool.eq_iff_iff,List.any_eq_true]
 simp only[decide_eq_true_eq]
 have hl:(dsP ps).length=ps.length:=by simp[dsP]
 constructor
 ·rintro⟨q,hq,hp⟩
  obtain⟨j,hj,rfl⟩:=List.mem_iff_getElem.1 hq
  rw[List.length_take] at hj
  unfold fndP
  cases hf:(dsP ps).findIdx? p with
  |none=>show(-1:Int)<i;omega
  |some m=>
   show(m:Int)<i
   obtain⟨hm,-,hb⟩:=List.findIdx?_eq_some_iff_getElem.1 hf
   have:¬j<m:=λhjm=>by
    have:=hb j hjm
    rw[List.getElem_take] at hp
    simp[dsP,hp] at this
   omega
 ·intro hlt
  unfold fndP at hlt
  cases hf:(dsP ps).findIdx? p with
  |none=>
   have:=(List.findIdx?_eq_none_iff.1 hf) (pat ps i).d (List.mem_map.2 ⟨ps[i],List.getElem_mem h,by rw[pat_at h]⟩)
   rw[hpi] at this
   cases this
  |some m=>
   rw[hf] at hlt
   have hlt':(m:Int)<i:=hlt
   obtain⟨hm,hpm,-⟩:=List.findIdx?_eq_some_iff_getElem.1 hf
   refine⟨ps[m]'(by omega),?_,by simpa [dsP] using hpm⟩
   rw[List.mem_iff_getElem]
   exact⟨m,by rw[List.length_take];omega,by rw[List.getElem_take]⟩
theorem nml_succ {ps:List Px}{i:Nat}(h:i<ps.length):nml ps (i+1)=nml ps i++[(selfN (pat ps i).d,(pat ps i).no)]:=by
 unfold nml
 rw[List.take_succ_eq_append_getElem h,List.map_append,pat_at h]
 rfl
def badU (ps:List Px)(x:Nm):Bool:=!hasK (nml ps ps.length) x
theorem dan_uses {ps:List Px}{i:Nat}(h:i<ps.length):danB (dsP ps) i=(usesN (pat ps i).d).any (badU ps):=by
 unfold danB danN usesN
 rw[dat_pat h,List.any_append,List.any_map,List.any_map,Bool.or_comm]
 have e1:(badU ps ∘ λx=>((1,x,0):Nm))=λx=>decide (fndP (pk 2 x 0) (dsP ps)<0):=by
  funext x
  show badU ps (1,x,0)=_
  have:=has_all ps 2 x 0
  unfold badU
  rw[show((1,x,0):Nm)=((2:Int)-1,x,0) from rfl,this]
  simp
 have e2:(badU ps ∘ λx=>((0,x,0):Nm))=λx=>decide (fndP (pk 1 x 0) (dsP ps)<0):=by
  funext x
  show badU ps (0,x,0)=_
  have:=has_all ps 1 x 0
  unfold badU
  rw[show((0,x,0):Nm)=((1:Int)-1,x,0) from rfl,this]
  simp
 rw[e1,e2]
def nat_ (l:List Nm)(i:Nat):Nm:=l.getD i (0,0,0)
theorem any_at {l:List Nm}{p:Nm->Bool}{i:Nat}(h:i<l.length)(hp:p (nat_ l i)=true):l.any p=true:=by
 rw[List.any_eq_true]
 exact⟨l[i],List.getElem_mem h,by simpa [nat_,List.getD_eq_getElem?_getD,h] using hp⟩
theorem any_none {l:List Nm}{p:Nm->Bool}(h:∀i,i<l.length->p (nat_ l i)=false):l.any p=false:=by
 rw[List.any_eq_false]
 intro x hx
 obtain⟨i,hi,rfl⟩:=List.mem_iff_getElem.1 hx
 have:=h i hi
 simpa [nat_,List.getD_eq_getElem?_getD,hi] using this
theorem OwnN.at {C:Nat}{w:World}{v:Value}{l:List Nm}(h:OwnN C w v l){i:Nat}(hi:i<l.length):∃g c,v=.slice (some ⟨g,0,none⟩) l.length c/\w.cell? ⟨g,i*3,none⟩=some (.int .i64 (nat_ l i).1)/\w.cell? ⟨g,i*3+1,none⟩=some (.int .i64 (nat_ l i).2.1)/\w.cell? ⟨g,i*3+2,none⟩=some (.int .i64 (nat_ l i).2.2):=by
 obtain⟨g,c,e,-,-,-,-,hc⟩:=row_cells (f:=ncell) h rfl (by decide) (λ_=>rfl) (i:=i) (x:=l[i]) (by simp[hi])
 have en:nat_ l i=l[i]:=by simp[nat_,List.getD_eq_getElem?_getD,hi]
 rw[en]
 exact⟨g,c,e,hc 0 (by decide),hc 1 (by decide),hc 2 (by decide)⟩
theorem ln_at {C:Nat}{w:World}{v:Value}{ps:List Px}(h:w.ownsRow C 115 5 v (lnO ps).length ((lnO ps).flatMap lvL)){i:Nat}(hi:i<ps.length):∃g c,v=.slice (some ⟨g,0,none⟩) ps.length c/\w.cell? ⟨g,i*5,none⟩=some (.int .i64 (pat ps i).no)/\w.cell? ⟨g,i*5+1,none⟩=some (.int .i64 (selfN (pat ps i).d).1)/\w.cell? ⟨g,i*5+2,none⟩=some (.int .i64 (selfN (pat ps i).d).2.1)/\w.cell? ⟨g,i*5+3,none⟩=some (.int .i64 (selfN (pat ps i).d).2.2)/\w.cell? ⟨g,i*5+4,none⟩=some (pat ps i).un:=by
 obtain⟨g,c,e,-,-,-,-,hc⟩:=row_cells (f:=lvL) h rfl (by decide) (λ_=>rfl) (i:=i) (x:=lnP ps[i]) (by simp[lnO,hi])
 rw[lnO_len] at e
 rw[pat_at hi]
 exact⟨g,c,e,hc 0 (by decide),hc 1 (by decide),hc 2 (by decide),hc 3 (by decide),hc 4 (by decide)⟩
end Go.Proofs.YthhkjbfkgdlkmaaGreatDoor
namespace Go.Proofs.YthhkjbfkgdlkmaaGreatDoor
open Go.RowKit Go.Sort
set_option linter.unusedVariables false
set_option maxRecDepth 1000000
set_option maxHeartbeats 16000000
def ChkR (w w':World)(ds:List De)(e:Ending):Prop:=(prsD ds=.ok ds/\e=.returned .nilIface)\/∃c l,prsD ds=.error (c,l)/\∃v,e=.returned v/\FltR w w' c l v
theorem checkWhole_any (w0:World)(rb:Nat)(line:Int)(ps:List Px)(w:World)(h:RMx w0 w rb line ps)(hps:ps.length<=300000)(hno:NoOk ps)(hwn:WnOk ps)(hws:wsum (ntO ps).ways (ntO ps).ways.length<=1048576) :
  Calls Tryz.prog 31 #[.pointer (some ⟨rb,0,none⟩)] w λe w'=>ChkR w w' (dsP ps) e/\Nx w w':=by
 obtain⟨vN,vW,vR,vT,vL,h⟩:=h
 have HR:=mkHid' h
 have HNO:=mkHid' hno
 have HWN:=mkHid' hwn
 have HWS:=mkHid' hws
 obtain⟨n,hn⟩:∃q,ps.length=q:=⟨_,rfl⟩
 have HN:Hid (ps.length=n):=hn
 rw[hn] at hps
 obtain⟨aL,cL,eL⟩:=row_slice h.ln
 rw[lnO_len,hn] at eL
 subst eL
 have HDL:Hid ((dsP ps).length=n):=by unfold Hid dsP;rw[List.length_map,hn]
 clear h hno hwn hws hn
 have HBX:Hid (∀{q:World},Nx w q->q.cell? ⟨rb,6,none⟩=some (.slice aL n cL)):=λk=>(HR.out.bx.next k).blk.cell (i:=6) rfl
 have HLN:Hid (∀{q:World},Nx w q->∀i,i<n->∃g,aL=some ⟨g,0,none⟩/\q.cell? ⟨g,i*5,none⟩=some (.int .i64 (pat ps i).no)/\q.cell? ⟨g,i*5+1,none⟩=some (.int .i64 (selfN (pat ps i).d).1)/\q.cell? ⟨g,i*5+2,none⟩=some (.int .i64 (selfN (pat ps i).d).2.1)/\q.cell? ⟨g,i*5+3,none⟩=some (.int .i64 (selfN (pat ps i).d).2.2)/\q.cell? ⟨g,i*5+4,none⟩=some (pat ps i).un):=λ{q} k i hi=>by
  obtain⟨g,c,e,h1,h2,h3,h4,h5⟩:=ln_at HR.out.ln (i:=i) (by rw[HN.out];exact hi)
  simp only[Value.slice.injEq] at e
  exact⟨g,e.1,cellq k h1,cellq k h2,cellq k h3,cellq k h4,cellq k h5⟩
 have HUS:Hid (∀{q:World},Nx w q->∀i,i<n->OwnN w0.heap.size q (pat ps i).un (usesN (pat ps i).d)):=λ{q} k i hi=>by
  have hi':i<ps.length:=by rw[HN.out];exact hi
  have hm:lnP (pat ps i)∈lnO ps:=List.mem_map.2 ⟨ps[i],List.getElem_mem hi',by rw[pat_at hi']⟩
  exact row_next (HR.out.us _ hm) k
 have x6:=HBX.out (Nx.refl w)
 go_enter Tryz.func31,Tryz.ntmps31
 go_wp2_with (refine wpList_mkMh rfl _ _ rfl Tryz.underlying110 rfl ?_)
 intro mb wa HMB hm0 hx0
 have HK0:Hid (KM wa mb (nml ps 0)):=⟨#[],0,hm0,rfl⟩
 have HX0:=mkHid' hx0
 clear hm0 hx0 x6
 have x6:=HBX.out HX0.out
 go_wp2
 go_loopw [25] (λs25 wr=>∃i:Nat,i<=n/\s25=.int .i64 i/\Hid (KM wr mb (nml ps i))/\Hid (Nx w wr)/\Hid (∀j,j<i->repB (dsP ps) j=false)) (λs25 _=>n-(intOf s25).toNat)
 case atStart=>exact⟨0,Nat.zero_le _,rfl,HK0,HX0,λj hj=>absurd hj (Nat.not_lt_zero _)⟩
 clear HK0 HX0 x6
 obtain⟨i,hin,rfl,HK,HX,HRP⟩:=hrel
 by_cases hlt:i<n
 ·have hlt':(i:Int)<(n:Int):=by omega
  obtain⟨g,ea,y0,y1,y2,y3,y4⟩:=HLN.out HX.out i hlt
  subst ea
  have HUI:=mkHid' (HUS.out HX.out i hlt)
  have HNI:Hid ((pat ps i).no=(i:Int)+2):=HNO.out i (by rw[HN.out];exact hlt)
  obtain⟨au,cu,eu⟩:=row_slice HUI.out
  rw[HNI.out] at y0
  rw[eu] at y4 HUI
  clear eu
  have HHK:=mkHid' (rep_has (ps:=ps) (i:=i) (by rw[HN.out];exact hlt))
  have HSC:=mkHid' (nml_succ (ps:=ps) (i:=i) (by rw[HN.out];exact hlt))
  rw[HNI.out] at HSC
  generalize selfN (pat ps i).d=sn at *
  generalize (usesN (pat ps i).d).length=lu at *
  have hb:BT (wr.alloc (.cells #[.int .i64 ((i:Int)+2),.int .i64 sn.1,.int .i64 sn.2.1,.int .i64 sn.2.2,.slice au lu cu] 115)) wr.heap.size #[.int .i64 ((i:Int)+2),.int .i64 sn.1,.int .i64 sn.2.1,.int .i64 sn.2.2,.slice au lu cu] 115:=BT.new _ _ _ _ rfl
  have HKb:=mkHid' (HK.out.next (box1 wr (.cells #[.int .i64 ((i:Int)+2),.int .i64 sn.1,.int .i64 sn.2.1,.int .i64 sn.2.2,.slice au lu cu] 115)))
  have HXb:Hid (Nx w (wr.alloc (.cells #[.int .i64 ((i:Int)+2),.int .i64 sn.1,.int .i64 sn.2.1,.int .i64 sn.2.2,.slice au lu cu] 115))):=HX.out.trans (box1 _ _)
  have HB:=mkHid' hb
  clear hb
  go_upto_region 5 with fail
  generalize wr.alloc (.cells #[.int .i64 ((i:Int)+2),.int .i64 sn.1,.int .i64 sn.2.1,.int .i64 sn.2.2,.slice au lu cu] 115)=wb at *
  generalize wr.heap.size=lb at *
  clear y0 y1 y2 y3 y4 HK HX HUI
  have z0:wb.cell? ⟨lb,0,none⟩=some (.int .i64 ((i:Int)+2)):=HB.out.blk.cell (i:=0) rfl
  have z1:wb.cell? ⟨lb,1,none⟩=some (.int .i64 sn.1):=HB.out.blk.cell (i:=1) rfl
  have z2:wb.cell? ⟨lb,2,none⟩=some (.int .i64 sn.2.1):=HB.out.blk.cell (i:=2) rfl
  have z3:wb.cell? ⟨lb,3,none⟩=some (.int .i64 sn.2.2):=HB.out.blk.cell (i:=3) rfl
  by_cases hh:repB (dsP ps) i=true
  ·have HPF:Hid (prsD (dsP ps)=.error (9,(i:Int)+2)):=by unfold Hid prsD;rw[firstN_some (i:=i) (by rw[HDL.out];exact hlt) hh HRP.out]
   rw[hh] at HHK
   go_wp2_with (refine wpList_lookK rfl _ _ rfl rfl (x:=sn) rfl HKb.out ?_)
   intro zz
   rw[HHK.out]
   go_wp2
   go_ret
   exact⟨Or.inr ⟨9,(i:Int)+2,HPF.out,_,rfl,_,rfl,(HXb.out).size,BT.new _ _ _ _ rfl⟩,HXb.out.trans (box1 _ _)⟩
  have hh':repB (dsP ps) i=false:=by simpa using hh
  rw[hh'] at HHK
  have HRQ:Hid (∀j,j<i+1->repB (dsP ps) j=false):=λj hj=>by
   by_cases e:j=i
   ·subst e;exact hh'
   ·exact HRP.out j (by omega)
  go_wp2_with (refine wpList_lookK rfl _ _ rfl rfl (x:=sn) rfl HKb.out ?_)
  intro zz
  rw[HHK.out]
  go_wp2_with (refine wpList_putK rfl _ _ _ rfl rfl (x:=sn) rfl rfl HKb.out HHK.out ?_)
  intro wc hkc hcc
  have HKc:Hid (KM wc mb (nml ps (i+1))):=by unfold Hid;rw[HSC.out];exact hkc
  have HXc:Hid (Nx w wc):=Below.trans HXb.out (hcc.below HXb.out.size (λx hx=>by have e:x=mb:=hx;have:=HMB.out;omega))
  clear hkc hcc HKb HXb z0 z1 z2 z3 HB
  go_wp2
  go_roundw
  case rel=>exact⟨i+1,by omega,by go_num,HKc,HXc,HRQ⟩
  case measure=>simp[intOf];omega
 have ei:i=n:=by omega
 subst ei
 have HP1:Hid (prsD (dsP ps)=match firstN (dsP ps).length (danB (dsP ps)) with|some i=>.error (10,(i:Int)+2)|none=>if overB (dsP ps)=true then .error (11,0) else .ok (dsP ps)):=by
  unfold Hid prsD
  rw[firstN_none (λj hj=>HRP.out j (by rw[HDL.out] at hj;exact hj))]
  rfl
 have HKN:Hid (KM wr mb (nml ps ps.length)):=by unfold Hid;rw[HN.out];exact HK.out
 have x6:=HBX.out HX.out
 clear HRP HK hlt hin
 obtain⟨w9,hw9⟩:∃q,q=wr:=⟨_,rfl⟩
 subst hw9
 obtain⟨n,hn⟩:∃q,q=i:=⟨_,rfl⟩
 subst hn
 have HX9:=HX
 clear HX
 go_wp2
 clear x6
 go_loopw [53] (λs53 wr=>∃i:Nat,i<=n/\s53=.int .i64 i/\Hid (Nx w9 wr)/\Hid (∀j,j<i->danB (dsP ps) j=false)) (λs53 _=>n-(intOf s53).toNat)
 case atStart=>exact⟨0,Nat.zero_le _,rfl,Nx.refl _,λj hj=>absurd hj (Nat.not_lt_zero _)⟩
 obtain⟨i,hin,rfl,HX8,HDP⟩:=hrel
 by_cases hlt:i<n
 ·have HX:=mkHid' (HX9.out.trans HX8.out)
  have hlt':(i:Int)<(n:Int):=by omega
  obtain⟨g,ea,y0,y1,y2,y3,y4⟩:=HLN.out HX.out i hlt
  subst ea
  have HUI:=mkHid' (HUS.out HX.out i hlt)
  have HNI:Hid ((pat ps i).no=(i:Int)+2):=HNO.out i (by rw[HN.out];exact hlt)
  obtain⟨au,cu,eu⟩:=row_slice HUI.out
  rw[HNI.out] at y0
  rw[eu] at y4 HUI
  clear eu
  have HDU:=mkHid' (dan_uses (ps:=ps) (i:=i) (by rw[HN.out];exact hlt))
  generalize selfN (pat ps i).d=sn at *
  generalize usesN (pat ps i).d=ul at *
  obtain⟨lu,hlu⟩:∃q,ul.length=q:=⟨_,rfl⟩
  have HLU:Hid (ul.length=lu):=hlu
  rw[hlu] at y4 HUI
  clear hlu
  have hlm:lu<=9223372036854775807:=by
   rcases HUI.out.2 with⟨e,h2⟩|⟨g,cap,cur,e,-,-,h2,h3,-⟩
   ·have:=HLU.out;omega
   ·have:=HLU.out;unfold maxLen at h3;omega
  have HXb:Hid (Nx w9 (wr.alloc (.cells #[.int .i64 ((i:Int)+2),.int .i64 sn.1,.int .i64 sn.2.1,.int .i64 sn.2.2,.slice au lu cu] 115))):=HX8.out.trans (box1 _ _)
  have HB:Hid (BT (wr.alloc (.cells #[.int .i64 ((i:Int)+2),.int .i64 sn.1,.int .i64 sn.2.1,.int .i64 sn.2.2,.slice au lu cu] 115)) wr.heap.size #[.int .i64 ((i:Int)+2),.int .i64 sn.1,.int .i64 sn.2.1,.int .i64 sn.2.2,.slice au lu cu] 115):=BT.new _ _ _ _ rfl
  have HUb:Hid (OwnN w0.heap.size (wr.alloc (.cells #[.int .i64 ((i:Int)+2),.int .i64 sn.1,.int .i64 sn.2.1,.int .i64 sn.2.2,.slice au lu cu] 115)) (.slice au lu cu) ul):=row_next HUI.out (box1 _ _)
  go_upto_region 13 with fail
  generalize wr.alloc (.cells #[.int .i64 ((i:Int)+2),.int .i64 sn.1,.int .i64 sn.2.1,.int .i64 sn.2.2,.slice au lu cu] 115)=wb at *
  generalize wr.heap.size=lb at *
  clear y0 y1 y2 y3 y4 HUI HX HX8
  have z4:wb.cell? ⟨lb,4,none⟩=some (.slice au lu cu):=HB.out.blk.cell (i:=4) rfl
  go_wp2
  clear z4
  go_loopw [60] (λs60 wr=>∃j:Nat,j<=lu/\s60=.int .i64 j/\Hid (Nx wb wr)/\Hid (∀q,q<j->badU ps (nat_ ul q)=false)) (λs60 _=>lu-(intOf s60).toNat)
  case atStart=>exact⟨0,Nat.zero_le _,rfl,Nx.refl _,λj hj=>absurd hj (Nat.not_lt_zero _)⟩
  obtain⟨j,hjl,rfl,HXj,HBJ⟩:=hrel
  by_cases hjt:j<lu
  ·have hjt':(j:Int)<(lu:Int):=by omega
   obtain⟨gu,c',eu,u0,u1,u2⟩:=HUb.out.at (i:=j) (by rw[HLU.out];exact hjt)
   simp only[Value.slice.injEq] at eu
   obtain⟨rfl,-,-⟩:=eu
   have v0:=cellq HXj.out u0
   have v1:=cellq HXj.out u1
   have v2:=cellq HXj.out u2
   clear u0 u1 u2
   have HBU:Hid (badU ps (nat_ ul j)=!hasK (nml ps ps.length) (nat_ ul j)):=rfl
   have HNX:Hid (nat_ ul j=nat_ ul j):=rfl
   obtain⟨x,hx⟩:∃q,nat_ ul j=q:=⟨_,rfl⟩
   have HXX:Hid (nat_ ul j=x):=hx
   rw[hx] at v0 v1 v2 HBU
   clear hx HNX
   have HBx:Hid (BT (wr.alloc (.cells #[.int .i64 x.1,.int .i64 x.2.1,.int .i64 x.2.2] 112)) wr.heap.size #[.int .i64 x.1,.int .i64 x.2.1,.int .i64 x.2.2] 112):=BT.new _ _ _ _ rfl
   have HXk:Hid (Nx wb (wr.alloc (.cells #[.int .i64 x.1,.int .i64 x.2.1,.int .i64 x.2.2] 112))):=HXj.out.trans (box1 _ _)
   go_upto_region 16 with fail
   generalize wr.alloc (.cells #[.int .i64 x.1,.int .i64 x.2.1,.int .i64 x.2.2] 112)=wk at *
   generalize wr.heap.size=nb at *
   clear v0 v1 v2 HXj
   have t0_:wk.cell? ⟨nb,0,none⟩=some (.int .i64 x.1):=HBx.out.blk.cell (i:=0) rfl
   have t1_:wk.cell? ⟨nb,1,none⟩=some (.int .i64 x.2.1):=HBx.out.blk.cell (i:=1) rfl
   have t2_:wk.cell? ⟨nb,2,none⟩=some (.int .i64 x.2.2):=HBx.out.blk.cell (i:=2) rfl
   have HKk:=mkHid' (HKN.out.next (HXb.out.trans HXk.out))
   by_cases hh:hasK (nml ps ps.length) x=true
   ·have HBf:Hid (∀q,q<j+1->badU ps (nat_ ul q)=false):=λq hq=>by
     by_cases e:q=j
     ·subst e;rw[HXX.out,HBU.out,hh];rfl
     ·exact HBJ.out q (by omega)
    go_wp2_with (refine wpList_lookK rfl _ _ rfl rfl (x:=x) rfl HKk.out ?_)
    intro zz
    try rw[hh]
    clear HKk
    go_wp2
    go_roundw
    case rel=>exact⟨j+1,by omega,by go_num,HXk,HBf⟩
    case measure=>simp[intOf];omega
   have hh':hasK (nml ps ps.length) x=false:=by simpa using hh
   have HPF:Hid (prsD (dsP ps)=.error (10,(i:Int)+2)):=by
    unfold Hid
    rw[HP1.out,firstN_some (i:=i) (by rw[HDL.out];exact hlt) (by rw[HDU.out];exact any_at (i:=j) (by rw[HLU.out];exact hjt) (by rw[HXX.out,HBU.out,hh'];rfl)) HDP.out]
   have z0:wk.cell? ⟨lb,0,none⟩=some (.int .i64 ((i:Int)+2)):=cellq HXk.out (HB.out.blk.cell (i:=0) rfl)
   have HXw:=mkHid' (HX9.out.trans (HXb.out.trans HXk.out))
   go_wp2_with (refine wpList_lookK rfl _ _ rfl rfl (x:=x) rfl HKk.out ?_)
   intro zz
   try rw[hh']
   go_wp2
   go_ret
   exact⟨Or.inr ⟨10,(i:Int)+2,HPF.out,_,rfl,_,rfl,(HXw.out).size,BT.new _ _ _ _ rfl⟩,HXw.out.trans (box1 _ _)⟩
  have ej:j=lu:=by omega
  subst ej
  have HDF:Hid (∀q,q<i+1->danB (dsP ps) q=false):=λq hq=>by
   by_cases e:q=i
   ·subst e;rw[HDU.out];exact any_none (λk hk=>HBJ.out k (by rw[HLU.out] at hk;exact hk))
   ·exact HDP.out q (by omega)
  have HXw:=mkHid' (HXb.out.trans HXj.out)
  clear HBJ HDU HXb HXj
  go_wp2
  go_roundw
  case rel=>exact⟨i+1,by omega,by go_num,HXw,HDF⟩
  case measure=>simp[intOf];omega
 have ei:i=n:=by omega
 subst ei
 have HP2:Hid (prsD (dsP ps)=if overB (dsP ps)=true then .error (11,0) else .ok (dsP ps)):=by
  unfold Hid
  rw[HP1.out,firstN_none (λj hj=>HDP.out j (by rw[HDL.out] at hj;exact hj))]
 have HXw:=mkHid' (HX9.out.trans HX8.out)
 have HRw:=mkHid' (HR.out.next HXw.out)
 have HCO:=mkHid' (counts_over HWN.out)
 clear HP1 HDP HX8 hlt hin HKN HR
 have b0_:wr.cell? ⟨rb,0,none⟩=some (vN):=HRw.out.bx.blk.cell (i:=0) rfl
 have b1_:wr.cell? ⟨rb,1,none⟩=some (vW):=HRw.out.bx.blk.cell (i:=1) rfl
 have b2_:wr.cell? ⟨rb,2,none⟩=some (vR):=HRw.out.bx.blk.cell (i:=2) rfl
 have b3_:wr.cell? ⟨rb,3,none⟩=some (vT):=HRw.out.bx.blk.cell (i:=3) rfl
 have b4_:wr.cell? ⟨rb,4,none⟩=some (.int .i64 (utO ps)):=HRw.out.bx.blk.cell (i:=4) rfl
 obtain⟨a0,c0,e0⟩:=row_slice HRw.out.n
 obtain⟨a1,c1,e1⟩:=row_slice HRw.out.wy
 obtain⟨a2,c2,e2⟩:=row_slice HRw.out.rl
 obtain⟨a3,c3,e3⟩:=row_slice HRw.out.tn
 rw[e0] at b0_
 rw[e1] at b1_
 rw[e2] at b2_
 rw[e3] at b3_
 have HHN:Hid (HNet w0.heap.size wr vN vW vR vT (ntO ps)):=HRw.out.hnet
 rw[e0,e1,e2,e3] at HHN
 clear e0 e1 e2 e3 HBX HLN HUS
 go_wp2_with fail
 refine(withinCounts_any w0.heap.size _ _ _ _ (utO ps) (ntO ps) wr HHN.out HWS.out).mono ?_
 rintro e wz ⟨rfl,hxz⟩
 have HXz:=mkHid' (HXw.out.trans hxz)
 rw[HCO.out]
 clear hxz b0_ b1_ b2_ b3_ b4_
 by_cases ho:overB (dsP ps)=true
 ·have HPF:Hid (prsD (dsP ps)=.error (11,0)):=by unfold Hid;rw[HP2.out,if_pos ho]
  rw[ho]
  go_wp2
  go_ret
  exact⟨Or.inr ⟨11,0,HPF.out,_,rfl,_,rfl,HXz.out.size,BT.new _ _ _ _ rfl⟩,HXz.out.trans (box1 _ _)⟩
 ·have HPY:Hid (prsD (dsP ps)=.ok (dsP ps)):=by unfold Hid;rw[HP2.out,if_neg ho]
  have ho':overB (dsP ps)=false:=by simpa using ho
  rw[ho']
  go_wp2
  go_ret
  exact⟨Or.inl ⟨HPY.out,rfl⟩,HXz.out⟩
end Go.Proofs.YthhkjbfkgdlkmaaGreatDoor
