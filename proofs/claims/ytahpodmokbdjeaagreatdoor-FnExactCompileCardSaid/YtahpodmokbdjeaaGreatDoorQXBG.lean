import Derived.Test.YtahpodmokbdjeaaGreatDoorQXAF
import Derived.Lib.Builder
import Derived.Test.YtahpodmokbdjeaaGreatDoorQXShelf
import Derived.LaidEqlPtr
namespace Go.Proofs.YtahpodmokbdjeaaGreatDoor
open Go.RowKit Go.Maps Go.Sort Go.Shelf Tryz
set_option linter.unusedVariables false
set_option maxRecDepth 1000000
set_option maxHeartbeats 16000000
theorem Qb7 (m:Nat):AnyZI.SortsIn prog Tryz.sortedA_ren Fence.wide m:=
 ⟨λblk off cap ss W hH hblk hsz=>callsIn_wide.2 (AnyM.slices_Sort_int Tryz.sortA blk off cap ss W hH hblk hsz),
  λp cap W=>callsIn_wide.2 (AnyM.slices_Sort_int_none Tryz.sortA p cap W)⟩
theorem Qcn (mb:Option Nat)(w:World):Calls prog 128 #[.map mb] w λe w'=>e=.returned (.func (.func 153) #[] #[pT w.heap.size])/\w'=w.alloc (.cells #[.map mb] 221):=
 (callsIn_wide (n:=5)).1 (AnyZI.keys_in Tryz.keysA Fence.wide 5 trivial rfl mb w)
theorem Q3m (b nn:Nat)(D0:DataW Unit)(R:Value->Option (DataW Unit×List MemPlace))(w:World)(hown:w.ownsMap prog 2 R b nn D0)(hmax:Maps.size D0<=maxLen)(hbytes:Maps.size D0*8<=140737488355328) :
  Calls prog 127 #[.func (.func 153) #[] #[pT w.heap.size]] (w.alloc (.cells #[.map (some b)] 221)) λe w'=>∃(v:Value) (ss:List Int),e=.returned v/\ss.Perm (intKeys D0) /\
   w'.ownsRow w.heap.size 2 1 v ss.length ((ss.mergeSort (λx y=>decide (x<=y))).map encZ)/\Below w.heap.size w w':=by
 refine(callsIn_wide (n:=5)).1 ?_
 have hbl:=hown.lt
 have hseq:SeqGives Fence.wide 2 prog 153 #[pT w.heap.size] encZ (λss=>ss.Perm (intKeys D0)) (Maps.size D0) (w.alloc (.cells #[.map (some b)] 221)):=
  AnyZI.keys_gives (ρ:=Tryz.keysA_ren) { Tryz.keysA with } Fence.wide _ trivial rfl (by omega) w.heap.size b nn D0 _ (by simp) (by simp) (by
   obtain⟨es,clock,hb,Ft,hs,hD⟩:=hown
   exact⟨es,clock,(Below.heap_alloc _ _ b hbl).trans hb,Ft,hs,hD⟩)
 have cS:=AnyZI.sorted_in Tryz.sortedA Fence.wide 5 trivial trivial trivial trivial rfl (by omega) (Qb7 _) (enters_of func152 (by kernel_rfl) rfl) 153 #[pT w.heap.size] trivial (enters_of func153 (by kernel_rfl) rfl) _ _ hmax hbytes _ hseq
 change CallsIn _ _ prog 127 _ _ _ at cS
 refine cS.mono ?_
 rintro e w' ⟨v,ss,rfl,hS,hrow,hnil,hb⟩
 exact⟨v,ss,rfl,hS,ownsRow_base_a hrow (by simp),((Below.refl _ w).alloc lR _).trans (hb.mono (by simp))⟩
theorem Q3n (w:World) :
  Calls prog 127 #[.func (.func 153) #[] #[pT w.heap.size]] (w.alloc (.cells #[.map none] 221)) λe w'=>e=.returned sN/\Below w.heap.size w w':=by
 refine(callsIn_wide (n:=5)).1 ?_
 have hseq:SeqGives Fence.wide 2 prog 153 #[pT w.heap.size] encZ (λss:List Int=>ss=[]) 0 (w.alloc (.cells #[.map none] 221)):=
  AnyZI.keys_gives_nil (ρ:=Tryz.keysA_ren) { Tryz.keysA with } Fence.wide _ trivial rfl w.heap.size _ (by simp) (by simp)
 have cS:=AnyZI.sorted_in Tryz.sortedA Fence.wide 5 trivial trivial trivial trivial rfl (by omega) (Qb7 _) (enters_of func152 (by kernel_rfl) rfl) 153 #[pT w.heap.size] trivial (enters_of func153 (by kernel_rfl) rfl) _ 0 nZ (by omega) _ hseq
 change CallsIn _ _ prog 127 _ _ _ at cS
 refine cS.mono ?_
 rintro e w' ⟨v,ss,rfl,rfl,hrow,hnil,hb⟩
 obtain rfl:v=sN:=hnil.2 rfl
 exact⟨rfl,((Below.refl _ w).alloc lR _).trans (hb.mono (by simp))⟩
theorem Q9k {ss L:List Int}(h:ss.Perm L)(hL:L.Pairwise (·<·)):ss.mergeSort (λx y=>decide (x<=y))=L:=by
 refine List.Perm.eq_of_pairwise (le:=λa b:Int=>decide (a<=b)=true) (λa b _ _ h1 h2=>?_) (List.pairwise_mergeSort ?_ ?_ ss) (hL.imp λh=>by simp;omega) ((List.mergeSort_perm ss _).trans h)
 ·simp at h1 h2;omega
 ·intro a b c h1 h2;simp at h1 h2 ⊢;omega
 ·intro a b;simp;omega
theorem Q6a (m:Option Nat)(ks:List (Int×Nat))(w:World)(h:MK w (.map m) ks)(ha:(ks.map (·.1)).Pairwise (·<·))(hl:ks.length<=100000) :
  Calls prog 127 #[.func (.func 153) #[] #[pT w.heap.size]] (w.alloc (.cells #[.map m] 221)) λe w'=>∃v,e=.returned v/\Qd w.heap.size w' v (ks.map (·.1))/\Nx w w':=by
 rcases h with⟨h1,rfl⟩|⟨mb,h1,h⟩
 ·simp only[Value.map.injEq] at h1
  subst h1
  refine(Q3n w).mono ?_
  rintro e w' ⟨rfl,hb⟩
  exact⟨_,rfl,⟨by simp[Jr],oL ⟨rfl,rfl⟩⟩,hb⟩
 ·simp only[Value.map.injEq] at h1
  subst h1
  have hz:Maps.size (X8 ks)=ks.length:=by unfold X8;rw[Maps.size_eq,zG]
  refine(Q3m mb ks.length (X8 ks) Zh w h (by rw[hz];unfold maxLen;omega) (by rw[hz];omega)).mono ?_
  rintro e w' ⟨v,ss,rfl,hp,hrow,hb⟩
  refine⟨v,rfl,?_,hb⟩
  have hk:intKeys (X8 ks)=ks.map (·.1):=by
   show(ks.map Pq).map (λp=>Go.intOf p.1)=ks.map (·.1)
   rw[List.map_map]
   rfl
  rw[hk] at hp
  rw[Q9k hp ha,hp.length_eq] at hrow
  exact hrow
end Go.Proofs.YtahpodmokbdjeaaGreatDoor
namespace Go.Proofs.YtahpodmokbdjeaaGreatDoor
open Go.RowKit Go.Maps
set_option linter.unusedVariables false
set_option maxRecDepth 1000000
set_option maxHeartbeats 16000000
theorem TR.keep {A:Au}{n k:Nat}{w w':World}{bl:Nat->Nat}{fl mv:Nat->Value}{num:Nat->Int}(h:TR A n k w bl fl mv num){o o':Option Nat}(q:But o o' w w')(ho:∀t,t<n->some (bl t)≠o/\some (bl t)≠o')(hm:∀t mb,t<n->Jq (mv t)=some mb->some mb≠o/\some mb≠o'):TR A n k w' bl fl mv num:=
 ⟨λt ht=>(h.nd t ht).keep q (ho t ht).1 (ho t ht).2,λt ht=>(h.kd t ht).keep q (λmb e=>hm t mb ht e),h.fz,h.fs,h.inj⟩
theorem TR.setFail {A:Au}{n k t:Nat}{w:World}{bl:Nat->Nat}{fl mv:Nat->Value}{num:Nat->Int}(h:TR A n k w bl fl mv num)(h1:1<=t)(ht:t<n)(hk:k<=t)(x:Value):TR A n k (w.setCell (aD (bl t) 6) x) bl (upd fl t x) mv num:=by
 refine⟨λs hs=>?_,λs hs=>(h.kd s hs).set (h.nd t ht) _ _,?_,λs h2 h3=>?_,h.inj⟩
 ·by_cases e:s=t
  ·subst e
   rw[Xp]
   exact(h.nd s hs).set 6 x
  ·rw[Vq _ _ e]
   exact(h.nd s hs).setOther (λe'=>e (h.inj s t hs ht e')) _ _
 ·rw[Vq _ _ (by omega)];exact h.fz
 ·rw[Vq _ _ (by omega)];exact h.fs s h2 h3
theorem TR.up {A:Au}{n k:Nat}{w:World}{bl:Nat->Nat}{fl mv:Nat->Value}{num:Nat->Int}(h:TR A n k w bl fl mv num)(hf:fl k=ptr (bl (failOf A n k))):TR A n (k+1) w bl fl mv num:=
 ⟨h.nd,h.kd,h.fz,λs h1 h2=>by
  by_cases e:s=k
  ·subst e;exact hf
  ·exact h.fs s h1 (by omega),h.inj⟩
theorem TR.setNum {A:Au}{n k t:Nat}{w:World}{bl:Nat->Nat}{fl mv:Nat->Value}{num:Nat->Int}(h:TR A n k w bl fl mv num)(ht:t<n)(z:Int):TR A n k (w.setCell (aD (bl t) 0) (iV z)) bl fl mv (upd num t z):=by
 refine⟨λs hs=>?_,λs hs=>(h.kd s hs).set (h.nd t ht) _ _,h.fz,h.fs,h.inj⟩
 by_cases e:s=t
 ·subst e
  rw[Xp]
  exact(h.nd s hs).set 0 _
 ·rw[Vq _ _ e]
  exact(h.nd s hs).setOther (λe'=>e (h.inj s t hs ht e')) _ _
def CI (A:Au)(n i c:Nat):Prop:=1<=c/\c<=n/\∀t,1<=t->t<n->(iat A.pa t<i↔t<c)
theorem ci_ex {A:Au}{n:Nat}(h:∀t,1<=t->t<n->Xv A t=true)(i m:Nat)(h1:1<=m)(hm:m<=n):∃c,CI A m i c:=by
 induction m with
 |zero=>omega
 |succ m ih=>
  by_cases e:m=0
  ·subst e
   exact⟨1,by omega,by omega,λt _ _=>by omega⟩
  ·obtain⟨c,hc1,hc2,hc⟩:=ih (by omega) (by omega)
   by_cases hp:iat A.pa m<i
   ·refine⟨m+1,by omega,by omega,λt ht htm=>⟨λ_=>htm,λ_=>?_⟩⟩
    by_cases em:t=m
    ·subst em;exact hp
    ·have:=Fi h t m (by omega) (by omega)
     omega
   ·refine⟨c,hc1,by omega,λt ht htm=>?_⟩
    by_cases em:t=m
    ·subst em
     exact⟨λh=>absurd h hp,λh=>by omega⟩
    ·exact hc t ht (by omega)
theorem Q6t {n c k:Nat}{p:Nat->Bool}(hc:c+k<=n)(h:∀t,t<n->p t=decide (c<=t/\t<c+k)):(List.range n).filter p=List.range' c k:=by
 have e:List.range n=List.range' 0 c++(List.range' c k++List.range' (c+k) (n-(c+k))):=by
  rw[List.range_eq_range']
  have h1:=List.range'_append_1 (s:=c) (m:=k) (n:=n-(c+k))
  have h2:=List.range'_append_1 (s:=0) (m:=c) (n:=k+(n-(c+k)))
  rw[h1]
  rw[Nat.zero_add] at h2
  rw[h2]
  congr 1
  omega
 rw[e,zZ,zZ,List.filter_eq_nil_iff.2,List.filter_eq_self.2,List.filter_eq_nil_iff.2]
 ·simp
 ·intro t ht
  rw[List.mem_range'_1] at ht
  rw[h t (by omega)]
  simp
  omega
 ·intro t ht
  rw[List.mem_range'_1] at ht
  rw[h t (by omega)]
  simp
  omega
 ·intro t ht
  rw[List.mem_range'_1] at ht
  rw[h t (by omega)]
  simp
  omega
theorem Qcj {A:Au}{n i c:Nat}(bl:Nat->Nat)(h:∀t,1<=t->t<n->Xv A t=true)(h1:1<=n)(hc:CI A n i c):∃k,CI A n (i+1) (c+k)/\Z6 A n bl i=(List.range' c k).map (λt=>(iat A.la t,bl t)):=by
 obtain⟨c',d1,d2,d⟩:=ci_ex h (i+1) n h1 lR
 obtain⟨c1,c2,hc⟩:=hc
 have hle:c<=c':=by
  by_cases e:c=1
  ·omega
  ·have h3:=(hc (c-1) (by omega) (by omega)).2 (by omega)
   have:=(d (c-1) (by omega) (by omega)).1 (by omega)
   omega
 refine⟨c'-c,⟨by omega,by omega,by rw[show c+(c'-c)=c' by omega];exact d⟩,?_⟩
 unfold Z6
 rw[Q6t (c:=c) (k:=c'-c) (by omega)]
 intro t ht
 by_cases e:1<=t
 ·have a:=hc t e ht
  have b:=d t e ht
  rw[Bool.eq_iff_iff]
  simp only[decide_eq_true_eq]
  omega
 ·rw[Bool.eq_iff_iff]
  simp only[decide_eq_true_eq]
  omega
theorem Qcl {A:Au}{n i:Nat}(bl:Nat->Nat)(h:∀t,1<=t->t<n->Xv A t=true):((Z6 A n bl i).map (·.1)).Pairwise (·<·):=by
 unfold Z6
 rw[List.map_map,List.pairwise_map]
 have hp:=(List.pairwise_lt_range (n:=n)).filter (λt=>decide (1<=t/\iat A.pa t=i))
 refine hp.imp_of_mem λ{a b} ha hb hab=>?_
 rw[yB,zV] at ha hb
 have a2:=of_decide_eq_true ha.2
 have b2:=of_decide_eq_true hb.2
 have:=Fi h a b hab hb.1
 show iat A.la a<iat A.la b
 omega
theorem Qgw {A:Au}{n i t:Nat}{bl:Nat->Nat}(h:∀t,1<=t->t<n->Xv A t=true)(hc:Gs A n i (iat A.la t) t):Y8 (Z6 A n bl i) (iat A.la t)=some (bl t):=by
 cases hk:Y8 (Z6 A n bl i) (iat A.la t) with
 |none=>exact absurd hc (Qcm hk t)
 |some b=>
  obtain⟨u,hu,rfl⟩:=Q8d hk
  rcases Nat.lt_trichotomy u t with e|rfl|e
  ·have:=Fi h u t e hc.2.1
   have h1:=hu.2.2
   have h2:=hc.2.2
   omega
  ·rfl
  ·have:=Fi h t u e hu.2.1
   have h1:=hu.2.2
   have h2:=hc.2.2
   omega
theorem Xg.keep {C:Nat}{o o':Option Nat}{w w':World}{v:Value}{bs:List Nat}(h:Xg C w v bs)(k:But o o' w w')(hn:∀g,v.ownBlock=some g->some g≠o/\some g≠o'):Xg C w' v bs:=by
 obtain⟨h1,h2⟩:=h
 refine⟨h1,?_⟩
 rcases h2 with h2|⟨g,cap,cur,hv,hg,hh,r⟩
 ·exact oL h2
 ·have hb:v.ownBlock=some g:=by rw[hv];rfl
  exact oR ⟨g,cap,cur,hv,hg,(k.block g (Array.getElem?_eq_some_iff.1 hh).1 (hn g hb).1 (hn g hb).2).trans hh,r⟩
structure FrA (n:Nat)(bl:Nat->Nat)(w0 w:World):Prop where
 os:w.os=w0.os
 tape:w.tape=w0.tape
 output:w.output=w0.output
 size:w0.heap.size<=w.heap.size
 block:∀b,b<w0.heap.size->(∀t,t<n->b≠bl t)->w.heap[b]?=w0.heap[b]?
theorem FrA.but {n:Nat}{bl:Nat->Nat}{w0 w w':World}{o o':Option Nat}(h:FrA n bl w0 w)(k:But o o' w w')(ho:∀g,o=some g->w0.heap.size<=g)(ho':∀g,o'=some g->w0.heap.size<=g):FrA n bl w0 w':=
 ⟨k.os.trans h.os,k.tape.trans h.tape,k.output.trans h.output,zP h.size k.size,λb hb hn=>(k.block b (zK hb h.size) (λe=>by have:=ho b e.symm;omega) (λe=>by have:=ho' b e.symm;omega)).trans (h.block b hb hn)⟩
theorem FrA.set {n t:Nat}{bl:Nat->Nat}{w0 w:World}(h:FrA n bl w0 w)(ht:t<n)(i:Nat)(v:Value):FrA n bl w0 (w.setCell (aD (bl t) i) v):=
 ⟨h.os,h.tape,h.output,by rw[Q0s];exact h.size,λb hb hn=>(Below.heap_setCell _ _ _ _ (hn t ht)).trans (h.block b hb hn)⟩
structure LS (A:Au)(n i f c:Nat)(tk:Int)(w0 w:World)(bl:Nat->Nat)(mv:Nat->Value)(sv qv:Value):Prop where
 tr:∃fl,TR A n f w bl fl mv (λ_=>0)
 qb:Blk w w0.heap.size #[qv,iV tk]
 qo:Xg (w0.heap.size+1) w qv ((List.range c).map bl)
 so:Xg (w0.heap.size+1) w sv ((List.range i).map bl)
 ap:∀g,qv.ownBlock=some g->sv.ownBlock≠some g
 bb:∀t,t<n->bl t<w0.heap.size
 mb:∀t b,t<n->Jq (mv t)=some b->b<w0.heap.size
 fr:FrA n bl w0 w
theorem LS.qlt {A:Au}{n i f c:Nat}{tk:Int}{w0 w:World}{bl:Nat->Nat}{mv:Nat->Value}{sv qv:Value}(h:LS A n i f c tk w0 w bl mv sv qv):w0.heap.size<w.heap.size:=h.qb.lt
theorem LS.trk {A:Au}{n i f c:Nat}{tk:Int}{w0 w w':World}{bl:Nat->Nat}{mv:Nat->Value}{sv qv:Value}(h:LS A n i f c tk w0 w bl mv sv qv){o o':Option Nat}(k:But o o' w w')(ho:∀g,o=some g->w0.heap.size<=g)(ho':∀g,o'=some g->w0.heap.size<=g):∃fl,TR A n f w' bl fl mv (λ_=>0):=by
 obtain⟨fl,ht⟩:=h.tr
 refine⟨fl,ht.keep k (λt hn=>?_) (λt mb hn e=>?_)⟩
 ·have:=h.bb t hn
  exact⟨λe=>by have:=ho _ e.symm;omega,λe=>by have:=ho' _ e.symm;omega⟩
 ·have:=h.mb t mb hn e
  exact⟨λe=>by have:=ho _ e.symm;omega,λe=>by have:=ho' _ e.symm;omega⟩
theorem LS.next {A:Au}{n i f c:Nat}{tk:Int}{w0 w w':World}{bl:Nat->Nat}{mv:Nat->Value}{sv qv:Value}(h:LS A n i f c tk w0 w bl mv sv qv)(k:Nx w w'):LS A n i f c tk w0 w' bl mv sv qv:=
 ⟨h.trk (o:=none) (o':=none) (But.of_nx k) (by simp) (by simp),h.qb.next k,h.qo.next k,h.so.next k,h.ap,h.bb,h.mb,h.fr.but (o:=none) (o':=none) (But.of_nx k) (by simp) (by simp)⟩
theorem LS.took {A:Au}{n i f c:Nat}{tk tk':Int}{w0 w w':World}{bl:Nat->Nat}{mv:Nat->Value}{sv qv:Value}(h:LS A n i f c tk w0 w bl mv sv qv)(hb:Blk w' w0.heap.size #[qv,iV tk'])(k:But (some w0.heap.size) none w w'):LS A n i f c tk' w0 w' bl mv sv qv:=
 ⟨h.trk k (λg e=>by cases e;exact lR) (by simp),hb,
  h.qo.keep k (λg e=>⟨λe'=>by have:=(Q5 h.qo g e).1;have:=zF e';omega,by simp⟩),
  h.so.keep k (λg e=>⟨λe'=>by have:=(Q5 h.so g e).1;have:=zF e';omega,by simp⟩),
  h.ap,h.bb,h.mb,h.fr.but k (λg e=>by cases e;exact lR) (by simp)⟩
theorem K5 (bl:Nat->Nat)(c:Nat):(List.range c).map bl++[bl c]=(List.range (c+1)).map bl:=by simp[List.range_succ]
theorem LS.put {A:Au}{n i f c:Nat}{tk:Int}{w0 w w':World}{bl:Nat->Nat}{mv:Nat->Value}{sv qv qv':Value}(h:LS A n i f c tk w0 w bl mv sv qv)(hb:Blk w' w0.heap.size #[qv',iV tk])(ho:Xg (w0.heap.size+1) w' qv' ((List.range c).map bl++[bl c]))(hat:qv'.ownBlock=qv.ownBlock\/qv'.ownBlock=some (w.heap.size+1))(k:But (some w0.heap.size) qv.ownBlock w w'):LS A n i f (c+1) tk w0 w' bl mv sv qv':=by
 have hq:∀g,qv.ownBlock=some g->w0.heap.size<=g:=λg e=>by have:=(Q5 h.qo g e).1;omega
 refine⟨h.trk k (λg e=>by cases e;exact lR) hq,hb,by rw[<-K5];exact ho,h.so.keep k (λg e=>⟨λe'=>?_,λe'=>h.ap g e'.symm e⟩),λg e e'=>?_,h.bb,h.mb,h.fr.but k (λg e=>by cases e;exact lR) hq⟩
 ·have:=(Q5 h.so g e).1
  have:=zF e'
  omega
 ·rcases hat with hat|hat
  ·exact h.ap g (by rw[<-hat];exact e) e'
  ·rw[hat] at e
   have:=(Q5 h.so g e').2
   have:=zF e
   omega
theorem LS.push {A:Au}{n i f c:Nat}{tk:Int}{w0 w w':World}{bl:Nat->Nat}{mv:Nat->Value}{sv sv' qv:Value}(h:LS A n i f c tk w0 w bl mv sv qv)(ho:Xg (w0.heap.size+1) w' sv' ((List.range i).map bl++[bl i]))(hat:sv'.ownBlock=sv.ownBlock\/sv'.ownBlock=some (w.heap.size+1))(k:But none sv.ownBlock w w'):LS A n (i+1) f c tk w0 w' bl mv sv' qv:=by
 have hs:∀g,sv.ownBlock=some g->w0.heap.size<=g:=λg e=>by have:=(Q5 h.so g e).1;omega
 refine⟨h.trk k (by simp) hs,h.qb.keep k (by simp) (λe=>?_),h.qo.keep k (λg e=>⟨by simp,λe'=>h.ap g e e'.symm⟩),by rw[<-K5];exact ho,λg e e'=>?_,h.bb,h.mb,h.fr.but k (by simp) hs⟩
 ·have:=(Q5 h.so _ e.symm).1
  omega
 ·rcases hat with hat|hat
  ·exact h.ap g e (by rw[<-hat];exact e')
  ·rw[hat] at e'
   have:=(Q5 h.qo g e).2
   have:=zF e'
   omega
theorem LS.fail {A:Au}{n i f c t:Nat}{tk:Int}{w0 w:World}{bl:Nat->Nat}{mv:Nat->Value}{sv qv:Value}(h:LS A n i f c tk w0 w bl mv sv qv)(h1:1<=t)(ht:t<n)(hf:f<=t)(x:Value):LS A n i f c tk w0 (w.setCell (aD (bl t) 6) x) bl mv sv qv:=by
 obtain⟨fl,hT⟩:=h.tr
 have hlt:=h.bb t ht
 exact⟨⟨_,hT.setFail h1 ht hf x⟩,h.qb.setOther (by omega) _ _,Qc h.qo (by omega) _ _,Qc h.so (by omega) _ _,h.ap,h.bb,h.mb,h.fr.set ht _ _⟩
theorem LS.failed {A:Au}{n i f c:Nat}{tk:Int}{w0 w:World}{bl:Nat->Nat}{mv:Nat->Value}{sv qv:Value}(h:LS A n i f c tk w0 w bl mv sv qv)(h1:1<=f)(ht:f<n)(b:Nat)(hx:b=bl (failOf A n f)):LS A n i (f+1) c tk w0 (w.setCell (aD (bl f) 6) (ptr b)) bl mv sv qv:=by
 subst hx
 obtain⟨fl,hT⟩:=h.tr
 have hlt:=h.bb f ht
 exact⟨⟨_,(hT.setFail h1 ht lR _).up (Xp _ _ _)⟩,h.qb.setOther (by omega) _ _,Qc h.qo (by omega) _ _,Qc h.so (by omega) _ _,h.ap,h.bb,h.mb,h.fr.set ht _ _⟩
theorem LS.start {A:Au}{n:Nat}{w:World}{bl:Nat->Nat}{mv:Nat->Value}{fl:Nat->Value}(h:TR A n 1 w bl fl mv (λ_=>0))(t:TypeId):LS A n 0 1 0 0 w (w.alloc (.cells #[sN,iV 0] t)) bl mv sN sN:=by
 have k:=Q4 w (.cells #[sN,iV 0] t)
 exact⟨⟨fl,h.keep (o:=none) (o':=none) (But.of_nx k) (by simp) (by simp)⟩,Blk.new w _ _ _ rfl,⟨by simp[Wu],oL ⟨rfl,rfl⟩⟩,⟨by simp[Wu],oL ⟨rfl,rfl⟩⟩,λg e=>by simp[Value.ownBlock] at e,λt ht=>(h.nd t ht).lt,λt mb ht e=>(h.kd t ht).lt e,⟨k.os,k.tape,k.output,k.size,λb hb _=>k.block b hb⟩⟩
end Go.Proofs.YtahpodmokbdjeaaGreatDoor
namespace Go.Proofs.YtahpodmokbdjeaaGreatDoor
open Go.RowKit Go.Maps Tryz
set_option linter.unusedVariables false
set_option maxRecDepth 1000000
set_option maxHeartbeats 16000000
def Q8b:Value->Nat
 |.slice _ k _=>k
 |_=>0
theorem Qd.keep {C:Nat}{o o':Option Nat}{w w':World}{v:Value}{zs:List Int}(h:Qd C w v zs)(k:But o o' w w')(hn:∀g,v.ownBlock=some g->some g≠o/\some g≠o'):Qd C w' v zs:=by
 obtain⟨h1,h2⟩:=h
 refine⟨h1,?_⟩
 rcases h2 with h2|⟨g,cap,cur,hv,hg,hh,r⟩
 ·exact oL h2
 ·have hb:v.ownBlock=some g:=by rw[hv];rfl
  exact oR ⟨g,cap,cur,hv,hg,(k.block g (Array.getElem?_eq_some_iff.1 hh).1 (hn g hb).1 (hn g hb).2).trans hh,r⟩
theorem MK.map {w:World}{m:Value}{ks:List (Int×Nat)}(h:MK w m ks):∃o,m=.map o:=by
 rcases h with⟨rfl,_⟩|⟨b,rfl,_⟩
 ·exact⟨_,rfl⟩
 ·exact⟨_,rfl⟩
theorem Pg (bl:Nat->Nat){c j:Nat}(h:j<c):nat ((List.range c).map bl) j=bl j:=by
 simp[nat,List.getD,h]
structure LI (A:Au)(n i c j:Nat)(w0 w:World)(bl:Nat->Nat)(mv:Nat->Value)(sv kv:Value)(zs:List Int)(C:Nat):Prop where
 ls:∃qv,LS A n (i+1) (c+j) (c+j) ((i:Int)+1) w0 w bl mv sv qv/\∀g,qv.ownBlock=some g->kv.ownBlock≠some g
 kr:Qd C w kv zs
 ge:w0.heap.size<C
theorem LI.put {A:Au}{n i c j:Nat}{w0 w w':World}{bl:Nat->Nat}{mv:Nat->Value}{sv kv qv qv':Value}{zs:List Int}{C:Nat}(h:LS A n (i+1) (c+j+1) (c+j) ((i:Int)+1) w0 w bl mv sv qv)(hd:∀g,qv.ownBlock=some g->kv.ownBlock≠some g)(hk:Qd C w kv zs)(hC:w0.heap.size<C)(hb:Blk w' w0.heap.size #[qv',.int .i64 ((i:Int)+1)])(ho:Xg (w0.heap.size+1) w' qv' ((List.range (c+j)).map bl++[bl (c+j)]))(hat:qv'.ownBlock=qv.ownBlock\/qv'.ownBlock=some (w.heap.size+1))(k:But (some w0.heap.size) qv.ownBlock w w'):LI A n i c (j+1) w0 w' bl mv sv kv zs C:=by
 refine⟨⟨qv',h.put hb ho hat k,λg e e'=>?_⟩,hk.keep k (λg e=>⟨λe'=>?_,λe'=>hd g e'.symm e⟩),hC⟩
 ·rcases hat with hat|hat
  ·exact hd g (by rw[<-hat];exact e) e'
  ·rw[hat] at e
   have:=(Q5 hk g e').2
   have:=zF e
   omega
 ·have:=(Q5 hk g e).1
  have:=zF e'
  omega
def Ub (j:Nat)(s:Nat):Int:=if s<j then (s:Int) else 0
theorem Qc6 (j:Nat):upd (Ub j) j (j:Int)=Ub (j+1):=by
 funext s
 unfold upd Ub
 by_cases h:s=j
 ·subst h;simp
 ·by_cases h2:s<j
  ·rw[if_neg h,if_pos h2,if_pos (by omega)]
  ·rw[if_neg h,if_neg h2,if_neg (by omega)]
theorem Qfk {A:Au}{n:Nat}(h:∀t,1<=t->t<n->okR A t=true)(h1:1<=n):CI A n 0 1:=⟨by omega,h1,λt ht hn=>by have:=Ww (h t ht hn);omega⟩
theorem Qgd {A:Au}{n i c:Nat}(h:∀t,1<=t->t<n->okR A t=true)(hc:CI A n i c)(hi:i<n):i<c:=by
 by_cases e:i=0
 ·have:=hc.1;omega
 ·exact(hc.2.2 i (by omega) hi).1 (Ww (h i (by omega) hi)).2.1
theorem Qdd {A:Au}{n c:Nat}(h:∀t,1<=t->t<n->okR A t=true)(hc:CI A n n c):c=n:=by
 by_cases e:c<n
 ·have h1:=Ww (h c hc.1 e)
  have:=(hc.2.2 c hc.1 e).1 (by omega)
  omega
 ·have:=hc.2.1;omega
theorem Qcq:(prog.info? 223).map (·.size)=some 8:=by kernel_rfl
theorem Qa0 {P:Program}(w:World){tp te:TypeId}{j:TypeInfo}{a b:Addr}{ca cb:Array Value}{ta tb:TypeId}(hp:P.underlying tp=some (.pointer te))(hte:P.info? te=some j)(hsz:j.size≠0)(hne:a≠b)(ha:w.heap[a.block]?=some (.cells ca ta (0,0)))(hb:w.heap[b.block]?=some (.cells cb tb (0,0))):(binOp .neq tp (.pointer (some a)) (.pointer (some b))).run P w=.ok (.bool true) w:=by
 have h:∀d:Nat,(Op.equalIn (d+1) tp (.pointer (some a)) (.pointer (some b))).run P w=.ok false w:=λd=>by
  simp[Op.equalIn,run_underlying hp,sizeOf,typeInfo,hte,hsz,run_sameAddr_other w hne ha hb]
 simp only[binOp]
 simp[Op.equal,Op.maxDepth,h 9999]
theorem Ep (A:Au)(n:Nat)(w:World)(bl:Nat->Nat)(fl mv:Nat->Value)(T:Zc A n)(hp:∀t,1<=t->t<n->Xv A t=true)(hn:n<=2000)(h:TR A n 1 w bl fl mv (λ_=>0)) :
  Calls prog 81 #[ptr (bl 0)] w λr w'=>∃v fl',r=.returned v/\Xg (w.heap.size+1) w' v ((List.range n).map bl)/\TR A n n w' bl fl' mv (Ub n)/\FrA n bl w w':=by
 obtain⟨ii,hi,hz0,hz1,hz2⟩:=info_parts Q4s
 obtain⟨jn,hjn,hjs⟩:=Option.map_eq_some_iff.1 Qcq
 have HT:Z (Zc A n):=T
 have HP:Z (∀t,1<=t->t<n->Xv A t=true):=hp
 have HR:Z (TR A n 1 w bl fl mv (λ_=>0)):=h
 have hn1:1<=n:=T.pos
 clear T hp h
 unfold ptr
 go_enter func81,ntmps81
 go_wp2_with fail
 have L0:Z (LS A n 0 1 0 0 w (w.alloc (.cells #[.slice none 0 0,.int .i64 0] 214)) bl mv (.slice none 0 0) (.slice none 0 0)):=LS.start HR.o _
 generalize hw1:w.alloc (.cells #[.slice none 0 0,.int .i64 0] 214)=w1 at *
 clear hw1
 refine(Q21 w.heap.size (w.heap.size+1) (.slice none 0 0) [] 0 (bl 0) w1 L0.o.qb (by exact L0.o.qo) (by omega) (by simp) L0.o.qlt).mono ?_
 rintro r w2 ⟨x,qv,rfl,hb,ho,hat,hk⟩
 have L1:Z (LS A n 0 1 1 0 w w2 bl mv (.slice none 0 0) qv):=L0.o.put hb ho hat hk
 clear L0 hb ho hat hk
 go_wp2_with fail
 refine(Q0l w.heap.size (w.heap.size+1) 0 qv ((List.range 1).map bl) w2 L1.o.qb L1.o.qo (by omega) (by simp) (by simp)).mono ?_
 rintro r w3 ⟨rfl,hb,hk⟩
 have L2:Z (LS A n 0 1 1 ((0:Nat)+1) w w3 bl mv (.slice none 0 0) qv):=L1.o.took hb hk
 clear L1 hb hk
 rw[Pg bl (by omega)]
 unfold ptr
 go_wp2
 go_loopw [3,5,6,8,9] (λsv st ok p8 p9 wr=>∃i:Nat,Q8b sv=i/\Z (∃c qv tk,CI A n i c/\LS A n i c c tk w wr bl mv sv qv/\(i<n->tk=(i:Int)+1))/\((i<n/\st=.pointer (some ⟨bl i,0,none⟩)/\ok=.bool true)\/(i=n/\st=.pointer none/\ok=.bool false))) (λsv _ _ _ _ _=>n-Q8b sv)
 case atStart=>exact⟨0,rfl,⟨1,qv,_,Qfk HT.o.ok hn1,L2.o,λ_=>rfl⟩,oL ⟨by omega,rfl,rfl⟩⟩
 case round=>
  clear L2
  obtain⟨i,hlen,HS,hc⟩:=hrel
  rcases hc with⟨hin,rfl,rfl⟩|⟨hin,rfl,rfl⟩
  ·obtain⟨c,qv',tk,hci,hls,htk⟩:=HS.o
   rw[htk hin] at hls
   have HCI:Z (CI A n i c):=hci
   have L3:Z (LS A n i c c ((i:Int)+1) w wr bl mv u3 qv'):=hls
   obtain⟨av,cv,hvs⟩:=hls.so.slice
   rw[zG,zY] at hvs
   subst hvs
   clear HS hci hls htk hlen
   have HSZ:Z (w.heap.size<wr.heap.size):=L3.o.qlt
   go_wp2_with (at_builtin;refine wpList_append_own_at _ rfl _ _ 83 rfl (w.heap.size+1) 147 ii (.pointer none) 1 8 underlying83 hi hz0 hz1 hz2 rfl (by decide) _ _ _ rfl (zB (show wr.ownsRow _ _ _ _ _ _ from L3.o.so) _) ⟨wr.heap.size,0,none⟩ 1 1 [ptr (bl i)] rfl rfl (λj u hj=>Ql wr _ _ _ rfl j u hj) ?c2 ?c3 ?c4 ?c5 ?_)
   case c2=>intro u hu;simp at hu;subst hu;rfl
   case c3=>rw[zG,zY];unfold maxLen;omega
   case c4=>rw[zG,zY];omega
   case c5=>have:=HSZ.o;simp;omega
   intro v7 w7 hown hgrow _ hat
   have L4:Z (LS A n (i+1) c c ((i:Int)+1) w w7 bl mv v7 qv'):=L3.o.push (Xg.snoc (by rw[zG,zY];exact hown)) (by simpa using hat) ((But.of_nx (Q4 wr _)).grow hgrow (λg hg=>oR hg))
   clear hown hgrow hat L3
   have HX4:Z (∃m,mv i=.map m/\w7.cell? ⟨bl i,7,none⟩=some (.map m)/\MK w7 (.map m) (Z6 A n bl i)):=by
    obtain⟨flR,hT4⟩:=L4.o.tr
    have kd4:=hT4.kd i hin
    obtain⟨m,hm⟩:=kd4.map
    refine⟨m,hm,?_,?_⟩
    ·rw[<-hm];exact(hT4.nd i hin).c 7 rfl
    ·rw[<-hm];exact kd4
   obtain⟨m,hm,k7,hmk⟩:=HX4.o
   have HMV:Z (mv i=.map m):=hm
   have HMK:Z (MK w7 (.map m) (Z6 A n bl i)):=hmk
   clear HX4 hm hmk
   go_wp2_with fail
   refine(Qcn m w7).mono ?_
   rintro r w8 ⟨rfl,rfl⟩
   go_wp2_with fail
   refine(Q6a m _ w7 HMK.o (Qcl bl HP.o) (zP (Qck A n i bl) (by omega))).mono ?_
   rintro r w9 ⟨kv,rfl,hkv,hx⟩
   have L5:Z (LS A n (i+1) c c ((i:Int)+1) w w9 bl mv v7 qv'):=L4.o.next hx
   have HKN:Z (∃k,CI A n (i+1) (c+k)/\Z6 A n bl i=(List.range' c k).map (λt=>(iat A.la t,bl t))):=Qcj bl HP.o hn1 HCI.o
   obtain⟨k,hck,hkr⟩:=HKN.o
   have HCK:Z (CI A n (i+1) (c+k)):=hck
   have hzs:(Z6 A n bl i).map (·.1)=(List.range' c k).map (iat A.la):=by rw[hkr,List.map_map];rfl
   rw[hzs] at hkv
   obtain⟨ak,ck,hks⟩:=hkv.slice
   rw[zG,List.length_range'] at hks
   subst hks
   have HKV:Z (Qd w7.heap.size w9 (.slice ak k ck) ((List.range' c k).map (iat A.la))):=hkv
   have HC7:Z (w.heap.size<w7.heap.size):=L4.o.qlt
   have HD0:Z (∀g,qv'.ownBlock=some g->(Value.slice ak k ck).ownBlock≠some g):=λg e e'=>by
    have:=(Q5 L4.o.qo g e).2
    have:=(Q5 hkv g e').1
    omega
   have hkn:c+k<=n:=hck.2.1
   clear hkv hx HKN hck hkr hzs k7 L4 HMK
   go_wp2
   rename World=>wo
   go_loopw [8,9,34] (λe ch jv wi=>∃j:Nat,j<=k/\jv=.int .i64 j/\Z (LI A n i c j w wi bl mv v7 (.slice ak k ck) ((List.range' c k).map (iat A.la)) w7.heap.size)) (λ_ _ jv _=>k-(intOf jv).toNat)
   case atStart=>exact⟨0,nZ,rfl,⟨⟨qv',L5.o,HD0.o⟩,HKV.o,HC7.o⟩⟩
   clear L5 HKV HD0
   obtain⟨j,hjk,rfl,HI⟩:=hrel
   by_cases hj:j<k
   ·have hj':(j:Int)<k:=by omega
    obtain⟨qj,hls,hd⟩:=HI.o.ls
    obtain⟨g,hag,hcg⟩:=HI.o.kr.cell (i:=j) (by simpa using hj)
    subst hag
    have hz:iat ((List.range' c k).map (iat A.la)) j=iat A.la (c+j):=by simp[iat,List.getD,hj]
    rw[hz] at hcg
    have hc1:1<=c:=HCI.o.1
    have hIC:Gs A n i (iat A.la (c+j)) (c+j):=⟨by omega,by omega,by
     have a:=HCI.o.2.2 (c+j) (by omega) (by omega)
     have b:=HCK.o.2.2 (c+j) (by omega) (by omega)
     omega,rfl⟩
    have HIC:Z (Gs A n i (iat A.la (c+j)) (c+j)):=hIC
    have hok:=Ww (HT.o.ok (c+j) (by omega) (by omega))
    have HWF:Z ((Lit.int .i64 (iat A.la (c+j))).wf=true):=Kg hok.2.2.1 hok.2.2.2
    have HX5:Z (∃flj,TR A n (c+j) wr bl flj mv (λ_=>0)):=hls.tr
    obtain⟨flj,hTj⟩:=HX5.o
    have k7:wr.cell? ⟨bl i,7,none⟩=some (.map m):=by rw[<-HMV.o];exact(hTj.nd i hin).c 7 rfl
    have hlk:=(hTj.kd i hin).look HWF.o
    rw[HMV.o,Qgw HP.o hIC] at hlk
    unfold Q22 ptr at hlk
    have z6:=(hTj.nd (c+j) (by omega)).frozen 6
    have k6:wr.cell? ⟨bl (c+j),6,none⟩=some (flj (c+j)):=(hTj.nd (c+j) (by omega)).c 6 rfl
    have L6:Z (LS A n (i+1) (c+j) (c+j) ((i:Int)+1) w wr bl mv v7 qj):=hls
    have HD:Z (∀g',qj.ownBlock=some g'->(Value.slice (some ⟨g,0,none⟩) k ck).ownBlock≠some g'):=hd
    have HK6:Z (Qd w7.heap.size wr (.slice (some ⟨g,0,none⟩) k ck) ((List.range' c k).map (iat A.la))):=HI.o.kr
    have hbt:bl (c+j)<w.heap.size:=hls.bb _ (by omega)
    have HBT:Z (bl (c+j)<w.heap.size):=hbt
    clear hls hd HI hz hIC hok HX5 hTj hbt
    by_cases hi0:i=0
    ·subst hi0
     have HFO:Z (failOf A n (c+j)=0):=by unfold Z;rw[Ad HT.o hin HIC.o];rfl
     have L7:Z (LS A n (0+1) (c+j+1) (c+j) (((0:Nat):Int)+1) w (wr.setCell ⟨bl (c+j),6,none⟩ (.pointer (some ⟨bl 0,0,none⟩))) bl mv v7 qj):=L6.o.failed (by omega) (by omega) (bl 0) (by rw[HFO.o])
     have HK7:Z (Qd w7.heap.size (wr.setCell ⟨bl (c+j),6,none⟩ (.pointer (some ⟨bl 0,0,none⟩))) (.slice (some ⟨g,0,none⟩) k ck) ((List.range' c k).map (iat A.la))):=Qc HK6.o (by have:=HBT.o;have:=HC7.o;omega) _ _
     generalize iat A.la (c+j)=e at *
     go_wp2_with fail
     generalize hw9:wr.setCell ⟨bl (c+j),6,none⟩ (.pointer (some ⟨bl 0,0,none⟩))=wf at *
     clear hw9
     rw[Go.Lib.run_neq_ptr_same wf _ underlying147 hjn]
     go_wp2_with fail
     refine(Q21 w.heap.size (w.heap.size+1) qj ((List.range (c+j)).map bl) _ (bl (c+j)) wf L7.o.qb L7.o.qo (by omega) (by simp;omega) L7.o.qlt).mono ?_
     rintro r wg ⟨x',qg,rfl,hb,ho,hat,hk⟩
     have L8:Z (LI A n 0 c (j+1) w wg bl mv v7 (.slice (some ⟨g,0,none⟩) k ck) ((List.range' c k).map (iat A.la)) w7.heap.size):=LI.put L7.o HD.o HK7.o HC7.o hb ho hat hk
     clear hb ho hat hk k6 k7 z6 hlk hcg
     go_wp2
     go_roundw
     case rel=>exact⟨j+1,by omega,by go_num,L8⟩
     case measure=>simp[intOf];omega
    ·have L7:Z (LS A n (i+1) (c+j) (c+j) ((i:Int)+1) w (wr.setCell ⟨bl (c+j),6,none⟩ (.pointer (some ⟨bl 0,0,none⟩))) bl mv v7 qj):=L6.o.fail (by omega) (by omega) lR _
     have HK7:Z (Qd w7.heap.size (wr.setCell ⟨bl (c+j),6,none⟩ (.pointer (some ⟨bl 0,0,none⟩))) (.slice (some ⟨g,0,none⟩) k ck) ((List.range' c k).map (iat A.la))):=Qc HK6.o (by have:=HBT.o;have:=HC7.o;omega) _ _
     have HFC:Z (failOf A n (c+j)=goOf A n (failOf A n i) (iat A.la (c+j))):=by unfold Z;rw[Ad HT.o hin HIC.o,if_neg hi0]
     generalize iat A.la (c+j)=e at *
     go_wp2_with fail
     generalize hw9:wr.setCell ⟨bl (c+j),6,none⟩ (.pointer (some ⟨bl 0,0,none⟩))=wf at *
     clear hw9 k6 k7 z6 hlk hcg HK6 L6
     have hic:i<c:=Qgd HT.o.ok HCI.o hin
     have HX7:Z (∃fl7,TR A n (c+j) wf bl fl7 mv (λ_=>0)):=L7.o.tr
     obtain⟨fl7,hT7⟩:=HX7.o
     have HT7:Z (TR A n (c+j) wf bl fl7 mv (λ_=>0)):=hT7
     have k6:wf.cell? ⟨bl i,6,none⟩=some (.pointer (some ⟨bl (failOf A n i),0,none⟩)):=by
      have:=(hT7.nd i hin).c 6 rfl
      rw[hT7.fs i (by omega) (by omega)] at this
      exact this
     have z6:=(hT7.nd (c+j) (by omega)).frozen 6
     have k6':wf.cell? ⟨bl (c+j),6,none⟩=some (fl7 (c+j)):=(hT7.nd (c+j) (by omega)).c 6 rfl
     have hbi:bl i≠bl 0:=λe=>hi0 (hT7.inj i 0 hin (by omega) e)
     have hbn:(⟨bl i,0,none⟩:Addr)≠⟨bl 0,0,none⟩:=λe=>hbi (congrArg Addr.block e)
     have hq:=Qa0 wf underlying147 hjn (by rw[hjs];decide) hbn (hT7.nd i hin).choose_spec (hT7.nd 0 (by omega)).choose_spec
     rw[hq]
     clear hq hT7 HX7 hbn hbi
     go_wp2_with fail
     refine(U1 A n (c+j) (failOf A n i) e wf bl fl7 mv _ HT.o HT7.o (by omega) (by have:=(Ug HT.o (s:=i) (by omega) hin).2;omega) HWF.o).mono ?_
     rintro r wx ⟨rfl,rfl⟩
     have L9:Z (LS A n (i+1) (c+j+1) (c+j) ((i:Int)+1) w (wx.setCell ⟨bl (c+j),6,none⟩ (.pointer (some ⟨bl (goOf A n (failOf A n i) e),0,none⟩))) bl mv v7 qj):=L7.o.failed (by omega) (by omega) _ (by rw[HFC.o])
     have HK9:Z (Qd w7.heap.size (wx.setCell ⟨bl (c+j),6,none⟩ (.pointer (some ⟨bl (goOf A n (failOf A n i) e),0,none⟩))) (.slice (some ⟨g,0,none⟩) k ck) ((List.range' c k).map (iat A.la))):=Qc HK7.o (by have:=HBT.o;have:=HC7.o;omega) _ _
     unfold ptr
     go_wp2_with fail
     generalize hw9:wx.setCell ⟨bl (c+j),6,none⟩ (.pointer (some ⟨bl (goOf A n (failOf A n i) e),0,none⟩))=wz at *
     clear hw9
     refine(Q21 w.heap.size (w.heap.size+1) qj ((List.range (c+j)).map bl) _ (bl (c+j)) wz L9.o.qb L9.o.qo (by omega) (by simp;omega) L9.o.qlt).mono ?_
     rintro r wg ⟨x',qg,rfl,hb,ho,hat,hk⟩
     have L8:Z (LI A n i c (j+1) w wg bl mv v7 (.slice (some ⟨g,0,none⟩) k ck) ((List.range' c k).map (iat A.la)) w7.heap.size):=LI.put L9.o HD.o HK9.o HC7.o hb ho hat hk
     clear hb ho hat hk k6 k6' z6
     go_wp2
     go_roundw
     case rel=>exact⟨j+1,by omega,by go_num,L8⟩
     case measure=>simp[intOf];omega
   ·obtain rfl:j=k:=by omega
    obtain⟨qj,hls,hd⟩:=HI.o.ls
    have L8:Z (LS A n (i+1) (c+j) (c+j) ((i:Int)+1) w wr bl mv v7 qj):=hls
    have HLEN:Z (Q8b v7=i+1):=by
     obtain⟨a',c',e⟩:=hls.so.slice
     unfold Z
     rw[e]
     simp[Q8b]
    have hcast:((i+1:Nat):Int)=(i:Int)+1:=by omega
    have HCA:Z (((i+1:Nat):Int)=(i:Int)+1):=hcast
    clear hls hd HI hj hcast
    go_wp2_with fail
    by_cases hlast:i+1<n
    ·have hlt:i+1<c+j:=Qgd HT.o.ok HCK.o hlast
     refine(Q0l w.heap.size (w.heap.size+1) (i+1) qj ((List.range (c+j)).map bl) wr (by rw[HCA.o];exact L8.o.qb) L8.o.qo (by omega) (by simpa using hlt) (by simp;omega)).mono ?_
     rintro r w3 ⟨rfl,hb,hk⟩
     have L9:Z (LS A n (i+1) (c+j) (c+j) (((i+1:Nat):Int)+1) w w3 bl mv v7 qj):=L8.o.took hb hk
     clear hb hk L8
     rw[Pg bl hlt]
     unfold ptr
     go_wp2
     go_roundw
     case rel=>exact⟨i+1,HLEN.o,⟨c+j,qj,_,HCK.o,L9.o,λ_=>rfl⟩,oL ⟨hlast,rfl,rfl⟩⟩
     case measure=>rw[HLEN.o];show n-(i+1)<n-i;omega
    ·have hin':i+1=n:=by omega
     have HCN:Z (c+j=i+1):=by
      have:=HCK.o
      rw[hin'] at this
      unfold Z
      rw[Qdd HT.o.ok this,hin']
     refine(Q9f w.heap.size (w.heap.size+1) qj ((List.range (c+j)).map bl) wr (by rw[zG,zY,HCN.o,HCA.o];exact L8.o.qb) L8.o.qo).mono ?_
     rintro r w3 ⟨rfl,hx⟩
     have L9:Z (LS A n (i+1) (c+j) (c+j) ((i:Int)+1) w w3 bl mv v7 qj):=L8.o.next hx
     have HIN:Z (i+1=n):=hin'
     clear hx L8 hin'
     go_wp2
     go_roundw
     case rel=>exact⟨i+1,HLEN.o,⟨c+j,qj,_,HCK.o,L9.o,λh=>absurd h hlast⟩,oR ⟨HIN.o,rfl,rfl⟩⟩
     case measure=>rw[HLEN.o];show n-(i+1)<n-i;omega
  ·subst hin
   have HE:Z (Xg (w.heap.size+1) wr u3 ((List.range i).map bl)/\(∃fl',TR A i i wr bl fl' mv (Ub 0))/\FrA i bl w wr/\∀t,t<i->bl t<w.heap.size):=by
    obtain⟨c,qv',tk,hci,hls,_⟩:=HS.o
    obtain rfl:=Qdd HT.o.ok hci
    have e0:Ub 0=λ_=>0:=by funext s;simp[Ub]
    rw[Z,e0]
    exact⟨hls.so,hls.tr,hls.fr,hls.bb⟩
   obtain⟨av,cv,hvs⟩:=HE.o.1.slice
   rw[zG,zY] at hvs
   subst hvs
   have HBB:Z (∀t,t<i->bl t<w.heap.size):=HE.o.2.2.2
   clear HS hlen
   go_wp2
   rename World=>wo
   go_loopw [10,11,65] (λp10 p11 jv wi=>∃j:Nat,j<=i/\jv=.int .i64 j/\Z (Xg (w.heap.size+1) wi (.slice av i cv) ((List.range i).map bl))/\Z (∃fl',TR A i i wi bl fl' mv (Ub j))/\Z (FrA i bl w wi)) (λ_ _ jv _=>i-(intOf jv).toNat)
   case atStart=>exact⟨0,nZ,rfl,HE.o.1,HE.o.2.1,HE.o.2.2.1⟩
   clear HE
   obtain⟨j,hji,rfl,HO,HR2,HF⟩:=hrel
   by_cases hj:j<i
   ·have hj':(j:Int)<i:=by omega
    obtain⟨g,hag,hcg⟩:=HO.o.cell (i:=j) (by simpa using hj)
    subst hag
    rw[Pg bl hj] at hcg
    unfold ptr at hcg
    have HX:Z (∃fl',TR A i i wr bl fl' mv (Ub j)):=HR2
    obtain⟨fl',hT⟩:=HX.o
    have z0:=(hT.nd j hj).frozen 0
    have k0:wr.cell? ⟨bl j,0,none⟩=some (.int .i64 (Ub j j)):=(hT.nd j hj).c 0 rfl
    have HT2:Z (∃fl',TR A i i (wr.setCell ⟨bl j,0,none⟩ (.int .i64 (j:Int))) bl fl' mv (Ub (j+1))):=⟨fl',by rw[<-Qc6];exact hT.setNum hj _⟩
    have HO2:Z (Xg (w.heap.size+1) (wr.setCell ⟨bl j,0,none⟩ (.int .i64 (j:Int))) (.slice (some ⟨g,0,none⟩) i cv) ((List.range i).map bl)):=Qc HO.o (by have:=HBB.o j hj;omega) _ _
    have HF2:Z (FrA i bl w (wr.setCell ⟨bl j,0,none⟩ (.int .i64 (j:Int)))):=HF.o.set hj _ _
    clear hT HX
    go_wp2
    go_roundw
    case rel=>exact⟨j+1,by omega,by go_num,HO2,HT2,HF2⟩
    case measure=>simp[intOf];omega
   ·obtain rfl:j=i:=by omega
    clear hj
    go_wp2
    go_ret
    obtain⟨fl',hT⟩:=HR2.o
    exact⟨_,fl',rfl,HO.o,hT,HF.o⟩
end Go.Proofs.YtahpodmokbdjeaaGreatDoor
namespace Go.Proofs.YtahpodmokbdjeaaGreatDoor
open Go.RowKit Go.Maps
set_option linter.unusedVariables false
set_option maxRecDepth 1000000
set_option maxHeartbeats 16000000
theorem But.below {o o':Option Nat}{C:Nat}{w0 w w':World}(h:Below C w0 w)(k:But o o' w w')(hC:C<=w.heap.size)(ho:∀g,o=some g->C<=g)(ho':∀g,o'=some g->C<=g):Below C w0 w':=
 ⟨k.os.trans h.os,k.tape.trans h.tape,k.output.trans h.output,zP h.size k.size,λb hb=>(k.block b (by omega) (λe=>by have:=ho b e.symm;omega) (λe=>by have:=ho' b e.symm;omega)).trans (h.block b hb)⟩
end Go.Proofs.YtahpodmokbdjeaaGreatDoor
