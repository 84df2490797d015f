import Derived.Test.YtdpfdkihbgmapaaGreatVI
import Derived.Test.YtdpfdkihbgmapaaGreatXDG
namespace Go.Proofs.YtdpfdkihbgmapaaGreat
open Go.RowKit
set_option linter.unusedVariables false
set_option maxRecDepth 1000000
set_option maxHeartbeats 16000000
theorem must_in {rs:List Ru}(hg:rgB rs=true)(xs:List Int):-2<=mustS rs xs/\mustS rs xs<4000:=by
 rcases mustTo_is hg (Nat.le_refl _) xs with⟨h,_⟩|⟨h1,⟨j,hj,h2,h3,h4⟩,_⟩|⟨h,_⟩
 ·show -2<=mustTo rs xs rs.length/\mustTo rs xs rs.length<4000
  omega
 ·have hr:=rg_at hg hj
  have:=hr.2.2 ((ratA rs j).seq.length-1) (by omega)
  show -2<=mustTo rs xs rs.length/\mustTo rs xs rs.length<4000
  omega
 ·show -2<=mustTo rs xs rs.length/\mustTo rs xs rs.length<4000
  omega
theorem mustS_nil {rs:List Ru}(hg:rgB rs=true):mustS rs []=-1:=by
 refine(mustTo_is hg (Nat.le_refl _) []).uniq (Or.inl ⟨rfl,?_⟩)
 rintro e ⟨j,hj,h2,h3,h4⟩
 have hr:=rg_at hg hj
 have:=h3.length_le
 rw[List.length_take,most_only h2] at this
 simp at this
 omega
theorem bad_is (rs:List Ru)(xs:List Int):badS rs xs=true↔∃j,j<rs.length/\(ratA rs j).only=false/\(ratA rs j).seq <:+ xs:=by
 unfold badS
 rw[Bool.not_eq_true',Bool.eq_false_iff]
 constructor
 ·intro h
  apply Classical.byContradiction
  intro hn
  apply h
  refine allN_yes (Nat.le_refl _) λi hi=>?_
  unfold badAt
  cases ho:(ratA rs i).only with
  |true=>rfl
  |false=>
   cases hs:sufB (ratA rs i).seq xs with
   |false=>rfl
   |true=>exact absurd ⟨i,hi,ho,(suf_iff _ _).1 hs⟩ hn
 ·rintro⟨j,hj,ho,hs⟩ h
  have:=List.all_eq_true.1 h j (List.mem_range.2 hj)
  unfold badAt at this
  rw[ho,(suf_iff _ _).2 hs] at this
  cases this
theorem badS_nil {rs:List Ru}(hg:rgB rs=true):badS rs []=false:=by
 rw[Bool.eq_false_iff]
 intro h
 obtain⟨j,hj,_,h3⟩:=(bad_is rs []).1 h
 have hr:=rg_at hg hj
 have:=h3.length_le
 rw[List.length_nil] at this
 omega
section
variable {rs:List Ru}{ws:List (List Int)}
theorem auto_valid (hg:rgB rs=true)(hl:ws.length<=2000)(ha:AscW ws)(hin:∀y,inW ws y↔PW rs rs.length 1 y):validS (autoOf ws (mustS rs) (badS rs))=true:=by
 have hW:WS ws:=ws_of_pw hg (Nat.le_refl _) (Or.inl (Nat.le_refl _)) ha hin
 have hp:=hW.pos
 have hlen:(autoOf ws (mustS rs) (badS rs)).pa.length=ws.length:=by simp[autoOf]
 have h402:∀s,s<ws.length->(wd ws s).length<=402:=λs hs=>pw_len hg (Nat.le_refl _) (Or.inl (Nat.le_refl _)) ((hin _).1 ⟨s,hs,rfl⟩)
 rw[valid_same]
 unfold validI
 rw[hlen,Bool.and_eq_true,Bool.and_eq_true,Bool.and_eq_true]
 refine⟨?_,allN_yes (Nat.le_refl _) λs hs=>?_,allN_yes (Nat.le_refl _) λs hs=>?_,allN_yes (Nat.le_refl _) λs hs=>?_⟩
 ·unfold lensOk
  simp[autoOf]
  omega
 ·unfold okI
  by_cases c:s=0
  ·subst c
   rw[if_pos rfl,Bool.and_eq_true]
   refine⟨?_,?_⟩
   ·have:iat (autoOf ws (mustS rs) (badS rs)).pa 0=-1:=by
     show iat (ws.map _) 0=_
     rw[iat_mapA _ hp,if_pos hW.root]
    rw[this];rfl
   ·rw[auto_la hp,hW.root];rfl
  ·rw[if_neg c,auto_ok hW (by omega) hs,auto_wd hW hs,auto_asc hW s (by omega) hs]
   simpa using h402 s hs
 ·unfold muI
  by_cases c:s=0
  ·subst c
   rw[if_pos rfl,auto_mu hp,auto_bd hp,hW.root,mustS_nil hg,badS_nil hg]
   rfl
  ·rw[if_neg c,auto_mu hs]
   have:=must_in hg (wd ws s)
   simp
   exact this
 ·unfold faI
  by_cases c:s=0
  ·subst c
   have:iat (autoOf ws (mustS rs) (badS rs)).fa 0=-1:=by
    show iat (ws.map _) 0=_
    rw[iat_mapA _ hp,if_pos hW.root]
   rw[this,if_pos rfl];rfl
  ·have:iat (autoOf ws (mustS rs) (badS rs)).fa s=LW ws (wd ws s) 1:=by
    show iat (ws.map _) s=_
    rw[iat_mapA _ hs,if_neg (hW.ne (by omega) hs)]
   rw[this,if_neg c,(auto_fail (mu:=mustS rs) (bd:=badS rs) hW (by omega) hs).1]
   simp
def OkT (rs:List Ru)(P:List Int)(i:Nat):Prop:=∀t,t<i->badS rs (P.take (t+1))=false/\∀e,sufP rs rs.length (P.take t) e->e=iat P t
theorem suf_word {ws:List (List Int)}{A:Au}(hT:Trie A ws.length)(hwd:∀s,s<ws.length->Wd A s=wd ws s){x q:List Int}{v:Nat}(hv:LW (wl A ws.length) x 0=v)(hq:inW ws q):q <:+ x↔q <:+ Wd A v:=by
 obtain⟨h1,h2,h3⟩:=lw_top hT hv
 constructor
 ·intro h
  obtain⟨z,hz,e⟩:=hq
  rw[<-e,<-hwd z hz] at h ⊢
  have hzv:=h3 z hz h
  refine List.suffix_of_suffix_length_le h h2 ?_
  by_cases c:z=v
  ·subst c;exact Nat.le_refl _
  ·exact bef_len (hT.asc z v (by omega) h1)
 ·exact λh=>h.trans h2
theorem run_keeps (hg:rgB rs=true)(hl:ws.length<=2000)(ha:AscW ws)(hin:∀y,inW ws y↔PW rs rs.length 1 y){P:List Int}(hP:∀i,i<P.length->0<=iat P i/\iat P i<4000) :
  ∀i,i<=P.length->(OkT rs P i/\∃v,RI (autoOf ws (mustS rs) (badS rs)) P i v)\/(¬OkT rs P i/\runK (autoOf ws (mustS rs) (badS rs)) (wsA (autoOf ws (mustS rs) (badS rs))) P i=-1):=by
 have hV:=auto_valid hg hl ha hin
 have hW:WS ws:=ws_of_pw hg (Nat.le_refl _) (Or.inl (Nat.le_refl _)) ha hin
 have hlen:(autoOf ws (mustS rs) (badS rs)).pa.length=ws.length:=by simp[autoOf]
 have hT:Trie (autoOf ws (mustS rs) (badS rs)) ws.length:=auto_trie hW
 have hwd:∀s,s<ws.length->Wd (autoOf ws (mustS rs) (badS rs)) s=wd ws s:=λs hs=>auto_wd hW hs
 have inq:∀j,j<rs.length->inW ws ((ratA rs j).seq.take (most (ratA rs j))):=λj hj=>by
  have hr:=rg_at hg hj
  refine(hin _).2 (Or.inr (Or.inl ⟨j,hj,most (ratA rs j),?_,Nat.le_refl _,rfl⟩))
  unfold most;split<;>omega
 have hbad:∀{x:List Int}{v:Nat},LW (wl (autoOf ws (mustS rs) (badS rs)) (autoOf ws (mustS rs) (badS rs)).pa.length) x 0=v->v<ws.length->bat (autoOf ws (mustS rs) (badS rs)).bd v=badS rs x:=λ{x v} hv hvl=>by
  rw[hlen] at hv
  rw[auto_bd hvl,<-hwd v hvl,Bool.eq_iff_iff,bad_is,bad_is]
  have key:∀j,j<rs.length->(ratA rs j).only=false->((ratA rs j).seq <:+ Wd (autoOf ws (mustS rs) (badS rs)) v↔(ratA rs j).seq <:+ x):=λj hj ho=>by
   have h1:=inq j hj
   rw[most_no ho,List.take_length] at h1
   exact(suf_word hT hwd hv h1).symm
  constructor
  ·rintro⟨j,hj,ho,hs⟩;exact⟨j,hj,ho,(key j hj ho).1 hs⟩
  ·rintro⟨j,hj,ho,hs⟩;exact⟨j,hj,ho,(key j hj ho).2 hs⟩
 have hmust:∀{x:List Int}{v:Nat},LW (wl (autoOf ws (mustS rs) (badS rs)) (autoOf ws (mustS rs) (badS rs)).pa.length) x 0=v->v<ws.length->MustIs (sufP rs rs.length x) (iat (autoOf ws (mustS rs) (badS rs)).mu v):=λ{x v} hv hvl=>by
  rw[hlen] at hv
  rw[auto_mu hvl,<-hwd v hvl]
  refine(mustTo_is hg (Nat.le_refl _) _).congr λe=>?_
  constructor
  ·rintro⟨j,hj,ho,hs,he⟩;exact⟨j,hj,ho,(suf_word hT hwd hv (inq j hj)).2 hs,he⟩
  ·rintro⟨j,hj,ho,hs,he⟩;exact⟨j,hj,ho,(suf_word hT hwd hv (inq j hj)).1 hs,he⟩
 intro i
 induction i with
 |zero=>exact λ_=>Or.inl ⟨λt ht=>absurd ht (Nat.not_lt_zero _),0,RI.start hV⟩
 |succ i ih=>
  intro hi
  rcases ih (by omega) with⟨hok,v,hR⟩|⟨hno,hr⟩
  ·have hM:=hmust hR.lw (by rw[<-hlen];exact hR.lt)
   have hPi:=hP i (by omega)
   by_cases hm:∀e,sufP rs rs.length (P.take i) e->e=iat P i
   ·have hf:¬(iat P i<0\/4000<=iat P i\/(iat (autoOf ws (mustS rs) (badS rs)).mu v≠-1/\iat (autoOf ws (mustS rs) (badS rs)).mu v≠iat P i)):=by
     rintro(h|h|⟨h1,h2⟩)
     ·omega
     ·omega
     ·rcases hM with⟨h,_⟩|⟨_,h,_⟩|⟨_,e,f,he,hf,hne⟩
      ·exact h1 h
      ·exact h2 (hm _ h)
      ·exact hne ((hm _ he).trans (hm _ hf).symm)
    obtain⟨u,hu⟩:=lw_some hV (P.take (i+1))
    obtain⟨n1,n2,n3⟩:=hR.next hV (by omega) hf hu
    have hb:=hbad hu (by rw[<-hlen];exact n1)
    cases hbd:badS rs (P.take (i+1)) with
    |true=>
     rw[hbd] at hb
     exact Or.inr ⟨λh=>(by have:=(h i (by omega)).1;rw[hbd] at this;cases this),n2 hb⟩
    |false=>
     rw[hbd] at hb
     refine Or.inl ⟨λt ht=>?_,u,n3 hb⟩
     by_cases c:t=i
     ·subst c;exact⟨hbd,hm⟩
     ·exact hok t (by omega)
   ·refine Or.inr ⟨λh=>hm (h i (by omega)).2,hR.fail hV (Or.inr (Or.inr ?_))⟩
    obtain⟨e,he⟩:=Classical.not_forall.1 hm
    have he1:sufP rs rs.length (P.take i) e:=Classical.byContradiction λh=>he λh'=>absurd h' h
    have he2:¬e=iat P i:=λh=>he λ_=>h
    rcases hM with⟨_,h⟩|⟨h0,h1,h2⟩|⟨h,_⟩
    ·exact absurd he1 (h e)
    ·have:=h2 e he1
     exact⟨by omega,λh=>he2 (this.trans h)⟩
    ·exact⟨by omega,by omega⟩
  ·refine Or.inr ⟨λh=>hno λt ht=>h t (by omega),?_⟩
   rw[runK,hr,if_pos (by decide)]
theorem keeps_iff (hg:rgB rs=true)(hl:ws.length<=2000)(ha:AscW ws)(hin:∀y,inW ws y↔PW rs rs.length 1 y){P:List Int}(hP:∀i,i<P.length->0<=iat P i/\iat P i<4000)(hPl:P.length<=10000) :
  0<=runA (autoOf ws (mustS rs) (badS rs)) P↔OkT rs P P.length:=by
 have hV:=auto_valid hg hl ha hin
 unfold runA
 rw[if_pos ⟨hV,hPl⟩]
 rcases run_keeps hg hl ha hin hP P.length (Nat.le_refl _) with⟨hok,v,hR⟩|⟨hno,hr⟩
 ·exact⟨λ_=>hok,λ_=>by rw[hR.run];omega⟩
 ·exact⟨λh=>by rw[hr] at h;omega,λh=>absurd h hno⟩
end
def rnB (P:List Int)(i:Nat)(q:List Int):Bool:=sufB q (P.take (i+1))
def kpAt (rs:List Ru)(P:List Int)(i j:Nat):Bool:=!(!(ratA rs j).only&&rnB P i (ratA rs j).seq)&&!((ratA rs j).only&&(decide (i+1<P.length)&&(rnB P i ((ratA rs j).seq.take ((ratA rs j).seq.length-1))&&(iat P (i+1) !=iat (ratA rs j).seq ((ratA rs j).seq.length-1)))))
def kpI (rs:List Ru)(P:List Int)(i:Nat):Bool:=allN rs.length (kpAt rs P i)
def kpB (rs:List Ru)(P:List Int):Bool:=allN P.length (kpI rs P)
theorem kp_ok {rs:List Ru}{P:List Int}(hg:rgB rs=true):kpB rs P=true↔OkT rs P P.length:=by
 unfold kpB
 constructor
 ·intro h t ht
  have hk:∀i,i<P.length->∀j,j<rs.length->kpAt rs P i j=true:=λi hi j hj=>by
   have h1:=List.all_eq_true.1 h i (List.mem_range.2 hi)
   exact List.all_eq_true.1 h1 j (List.mem_range.2 hj)
  refine⟨?_,?_⟩
  ·rw[Bool.eq_false_iff]
   intro hb
   obtain⟨j,hj,ho,hs⟩:=(bad_is _ _).1 hb
   have h1:=hk t ht j hj
   unfold kpAt rnB at h1
   rw[ho,(suf_iff _ _).2 hs] at h1
   cases h1
  ·rintro e ⟨j,hj,ho,hs,he⟩
   have hr:=rg_at hg hj
   rw[most_only ho] at hs
   have hl:=hs.length_le
   rw[List.length_take,List.length_take] at hl
   obtain⟨t,rfl⟩:∃i,t=i+1:=⟨t-1,by omega⟩
   have h1:=hk t (by omega) j hj
   unfold kpAt rnB at h1
   rw[ho,(suf_iff _ _).2 hs,decide_eq_true ht] at h1
   have:iat P (t+1)=iat (ratA rs j).seq ((ratA rs j).seq.length-1):=by simpa using h1
   rw[he,this]
 ·intro h
  refine allN_yes (Nat.le_refl _) λi hi=>allN_yes (Nat.le_refl _) λj hj=>?_
  unfold kpAt rnB
  cases ho:(ratA rs j).only with
  |false=>
   have hb:sufB (ratA rs j).seq (P.take (i+1))=false:=by
    rw[Bool.eq_false_iff]
    intro hs
    have:=(h i hi).1
    rw[(bad_is _ _).2 ⟨j,hj,ho,(suf_iff _ _).1 hs⟩] at this
    cases this
   rw[hb];rfl
  |true=>
   cases hs:sufB ((ratA rs j).seq.take ((ratA rs j).seq.length-1)) (P.take (i+1)) with
   |false=>simp
   |true=>
    by_cases c:i+1<P.length
    ·have:=(h (i+1) c).2 _ ⟨j,hj,ho,by rw[most_only ho];exact(suf_iff _ _).1 hs,rfl⟩
     simp[this]
    ·simp[c]
end Go.Proofs.YtdpfdkihbgmapaaGreat
