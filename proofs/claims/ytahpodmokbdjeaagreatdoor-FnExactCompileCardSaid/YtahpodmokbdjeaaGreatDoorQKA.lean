import Derived.Test.YtahpodmokbdjeaaGreatDoorQRoM
namespace Go.Proofs.YtahpodmokbdjeaaGreatDoor
set_option linter.unusedVariables false
set_option maxHeartbeats 16000000
section
theorem Q54 {β γ:Type}(B:List β)(f g:β->List γ):(B.flatMap f++B.flatMap g).Perm (B.flatMap λb=>f b++g b):=by
 induction B with
 |nil=>exact List.Perm.refl _
 |cons b B ih=>
  simp only[List.flatMap_cons]
  have h1:(f b++B.flatMap f++(g b++B.flatMap g)).Perm (f b++(g b++(B.flatMap f++B.flatMap g))):=by
   rw[yE]
   refine List.Perm.append_left _ ?_
   rw[<-yE,<-yE]
   exact List.Perm.append_right _ List.perm_append_comm
  refine h1.trans ?_
  rw[yE]
  exact List.Perm.append_left _ (List.Perm.append_left _ ih)
theorem Q2l {α β γ:Type}(A:List α)(B:List β)(f:α->β->List γ):(A.flatMap λa=>B.flatMap λb=>f a b).Perm (B.flatMap λb=>A.flatMap λa=>f a b):=by
 induction A with
 |nil=>simp
 |cons a A ih=>
  simp only[List.flatMap_cons]
  exact(List.Perm.append_left _ ih).trans (Q54 B (f a) (λb=>A.flatMap λa=>f a b))
theorem Ys {β γ:Type}{B:List β}{f g:β->List γ}(h:∀b∈B,f b=g b):B.flatMap f=B.flatMap g:=by
 induction B with
 |nil=>rfl
 |cons b B ih=>rw[List.flatMap_cons,List.flatMap_cons,h b (by simp),ih (λc hc=>h c (by simp[hc]))]
theorem Y9 {β γ:Type}(B:List β)(p:β->Bool)(f:β->List γ):(B.filter p).flatMap f=B.flatMap λb=>if p b then f b else []:=by
 induction B with
 |nil=>rfl
 |cons b B ih=>
  by_cases h:p b=true
  ·simp[h,ih]
  ·simp[h,ih]
end
section
variable (es:List Eg)
def tlL (l:List Nat):Int:=(eat es (l.headD 0)).tail
def hdL (l:List Nat):Int:=(eat es (l.getLastD 0)).head
def Qy (ls ps:List (List Nat)):List (List Nat):=ls.flatMap λl=>(ps.filter λp=>decide (hdL es l=tlL es p)).map λp=>l++p
theorem A9 (ls ps:List (List Nat)):Qy es ls ps=ls.flatMap λl=>Qy es [l] ps:=by
 unfold Qy
 simp
theorem Gi (ls ls' ps:List (List Nat)):Qy es (ls++ls') ps=Qy es ls ps++Qy es ls' ps:=by simp[Qy]
def Jc (ls:List (List Nat))(ts:List (List (List Nat))):List (List Nat):=ts.foldl (Qy es) ls
theorem Q53 (ts:List (List (List Nat))):∀(ls ls':List (List Nat)),Jc es (ls++ls') ts=Jc es ls ts++Jc es ls' ts:=by
 induction ts with
 |nil=>intro ls ls';rfl
 |cons t ts ih=>
  intro ls ls'
  show Jc es (Qy es (ls++ls') t) ts=Jc es (Qy es ls t) ts++Jc es (Qy es ls' t) ts
  rw[Gi,ih]
theorem Q52 (ts:List (List (List Nat))):Jc es [] ts=[]:=by
 induction ts with
 |nil=>rfl
 |cons t ts ih=>exact ih
theorem Yh (ts:List (List (List Nat)))(ls:List (List Nat)):Jc es ls ts=ls.flatMap λl=>Jc es [l] ts:=by
 induction ls with
 |nil=>rw[Q52];rfl
 |cons l ls ih=>
  rw[show l::ls=[l]++ls from rfl,Q53,ih]
  simp
theorem Q2h {l p:List Nat}(hp:p≠[]):hdL es (l++p)=hdL es p:=by
 unfold hdL
 rw[List.getLastD_eq_getLast?,List.getLastD_eq_getLast?,List.getLast?_append]
 cases h:p.getLast? with
 |none=>exact absurd (List.getLast?_eq_none_iff.1 h) hp
 |some x=>rfl
theorem Q7p {l p:List Nat}(hl:l≠[]):tlL es (l++p)=tlL es l:=by
 cases l with
 |nil=>exact absurd rfl hl
 |cons a l=>rfl
theorem Q51 {l m:List Nat}(hm:m≠[])(ps:List (List Nat)):Qy es [l++m] ps=(Qy es [m] ps).map λq=>l++q:=by
 simp only[Qy,List.flatMap_cons,List.flatMap_nil,List.append_nil,List.map_map,Q2h es hm]
 refine List.map_congr_left (λq _=>?_)
 simp[List.append_assoc]
theorem A7 {l:List Nat}(hl:l≠[])(ps:List (List Nat)):∀q∈Qy es [l] ps,q≠[]:=by
 intro q hq
 simp only[Qy,List.flatMap_cons,List.flatMap_nil,List.append_nil,List.mem_map] at hq
 obtain⟨p,_,rfl⟩:=hq
 simp[hl]
theorem Q0c (ts:List (List (List Nat))):∀{l m:List Nat},m≠[]->Jc es [l++m] ts=(Jc es [m] ts).map λq=>l++q:=by
 induction ts with
 |nil=>intro l m _;rfl
 |cons t ts ih=>
  intro l m hm
  show Jc es (Qy es [l++m] t) ts=(Jc es (Qy es [m] t) ts).map _
  rw[Q51 es hm,Yh,Yh es ts (Qy es [m] t),List.map_flatMap,List.flatMap_map]
  refine Ys (λq hq=>?_)
  exact ih (A7 es hm t q hq)
theorem Q0b {a:List Nat}(t:List (List Nat))(ts:List (List (List Nat)))(ht:∀p∈t,p≠[]):Jc es [a] (t::ts)=((Jc es t ts).filter λm=>decide (hdL es a=tlL es m)).map λm=>a++m:=by
 have hne:∀(ls:List (List Nat)) (ts:List (List (List Nat))),(∀l∈ls,l≠[])->∀q∈Jc es ls ts,q≠[]:=by
  intro ls ts
  induction ts generalizing ls with
  |nil=>exact λh=>h
  |cons t ts ih=>
   intro h
   refine ih (Qy es ls t) (λq hq=>?_)
   rw[A9] at hq
   obtain⟨l,hl,hq⟩:=List.mem_flatMap.1 hq
   exact A7 es (h l hl) t q hq
 have htl:∀(ts:List (List (List Nat))) (p:List Nat),p≠[]->∀m∈Jc es [p] ts,tlL es m=tlL es p:=by
  intro ts
  induction ts with
  |nil=>intro p _ m hm;have:m=p:=by simpa [Jc] using hm
        rw[this]
  |cons t ts ih=>
   intro p hp m hm
   have hm':m∈Jc es (Qy es [p] t) ts:=hm
   rw[Yh] at hm'
   obtain⟨l,hl,hm'⟩:=List.mem_flatMap.1 hm'
   have h1:=ih l (A7 es hp t l hl) m hm'
   simp only[Qy,List.flatMap_cons,List.flatMap_nil,List.append_nil,List.mem_map] at hl
   obtain⟨q,_,rfl⟩:=hl
   rw[h1,Q7p es hp]
 show Jc es (Qy es [a] t) ts=_
 rw[Yh es ts t,Yh]
 simp only[Qy,List.flatMap_cons,List.flatMap_nil,List.append_nil,List.flatMap_map,List.filter_flatMap,List.map_flatMap]
 rw[Y9]
 refine Ys (λp hp=>?_)
 have hf:∀m∈Jc es [p] ts,decide (hdL es a=tlL es m)=decide (hdL es a=tlL es p):=λm hm=>by rw[htl ts p (ht p hp) m hm]
 by_cases h:hdL es a=tlL es p
 ·rw[if_pos (by simpa using h),Q0c es ts (ht p hp)]
  rw[List.filter_eq_self.2 (λm hm=>by rw[hf m hm];simpa using h)]
 ·rw[if_neg (by simpa using h)]
  rw[List.filter_eq_nil_iff.2 (λm hm=>by rw[hf m hm];simpa using h)]
  rfl
def Q2s (F T:List Nat)(ms:List (List Nat)):List (List Nat):=F.flatMap λa=>ms.flatMap λm=>T.flatMap λb=>if decide ((eat es a).head=tlL es m)&&decide (hdL es m=(eat es b).tail) then [[a]++m++[b]] else []
def Ia (F T:List Nat)(ms:List (List Nat)):List (List Nat):=ms.flatMap λm=>(F.filter λa=>decide ((eat es a).head=tlL es m)).flatMap λa=>(T.filter λb=>decide ((eat es b).tail=hdL es m)).map λb=>[a]++m++[b]
theorem Q5i (F T:List Nat)(ms:List (List Nat)):(Q2s es F T ms).Perm (Ia es F T ms):=by
 have e:Ia es F T ms=ms.flatMap λm=>F.flatMap λa=>T.flatMap λb=>if decide ((eat es a).head=tlL es m)&&decide (hdL es m=(eat es b).tail) then [[a]++m++[b]] else []:=by
  unfold Ia
  refine Ys (λm _=>?_)
  rw[Y9]
  refine Ys (λa _=>?_)
  by_cases h:(eat es a).head=tlL es m
  ·rw[if_pos (by simpa using h),List.map_eq_flatMap,Y9]
   refine Ys (λb _=>?_)
   by_cases g:(eat es b).tail=hdL es m
   ·simp[h,g]
   ·have g':¬hdL es m=(eat es b).tail:=λx=>g x.symm
    simp[h,g,g']
  ·rw[if_neg (by simpa using h)]
   symm
   rw[List.flatMap_eq_nil_iff]
   intro b _
   simp[h]
 rw[e]
 exact Q2l F ms _
theorem Q4z (F T:List Nat)(t:List (List Nat))(ts:List (List (List Nat)))(ht:∀p∈t,p≠[])(hms:∀m∈Jc es t ts,m≠[]):Qy es (Jc es (F.map λa=>[a]) (t::ts)) (T.map λb=>[b])=Q2s es F T (Jc es t ts):=by
 rw[Yh,List.flatMap_map,A9]
 unfold Q2s
 rw[List.flatMap_assoc]
 refine Ys (λa _=>?_)
 rw[Q0b es t ts ht,List.flatMap_map,Y9]
 refine Ys (λm hm=>?_)
 have ha:hdL es [a]=(eat es a).head:=rfl
 by_cases h:(eat es a).head=tlL es m
 ·rw[if_pos (by rw[ha];simpa using h)]
  simp only[Qy,List.flatMap_cons,List.flatMap_nil,List.append_nil,List.filter_map,List.map_map]
  rw[List.map_eq_flatMap,Y9]
  refine Ys (λb _=>?_)
  have e1:hdL es ([a]++m)=hdL es m:=Q2h es (hms m hm)
  have e2:tlL es [b]=(eat es b).tail:=rfl
  simp only[Function.comp_apply,e1,e2]
  by_cases g:hdL es m=(eat es b).tail
  ·simp[h,g]
  ·simp[h,g]
 ·rw[if_neg (by rw[ha];simpa using h)]
  symm
  rw[List.flatMap_eq_nil_iff]
  intro b _
  simp[h]
end
end Go.Proofs.YtahpodmokbdjeaaGreatDoor
