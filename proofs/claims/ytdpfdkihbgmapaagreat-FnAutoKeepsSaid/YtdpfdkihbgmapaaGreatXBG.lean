import Derived.Test.YtdpfdkihbgmapaaGreatXBB
import Derived.Test.YtdpfdkihbgmapaaGreatShelf
namespace Go.Proofs.YtdpfdkihbgmapaaGreat
open Go.RowKit Go.Maps Go.Sort Go.Shelf
set_option linter.unusedVariables false
set_option maxRecDepth 1000000
set_option maxHeartbeats 16000000
theorem sortsA (m:Nat):AnyZI.SortsIn Tryz.prog Tryz.sortedA_ren Fence.wide m:=
 ⟨λblk off cap ss W hH hblk hsz=>callsIn_wide.2 (AnyM.slices_Sort_int Tryz.sortA blk off cap ss W hH hblk hsz),
  λp cap W=>callsIn_wide.2 (AnyM.slices_Sort_int_none Tryz.sortA p cap W)⟩
theorem keys_any (mb:Option Nat)(w:World):Calls Tryz.prog 54 #[.map mb] w λe w'=>e=.returned (.func (.func 67) #[] #[.pointer (some ⟨w.heap.size,0,none⟩)])/\w'=w.alloc (.cells #[.map mb] 58):=
 (callsIn_wide (n:=5)).1 (AnyZI.keys_in Tryz.keysA Fence.wide 5 trivial rfl mb w)
theorem sorted_some (b nn:Nat)(D0:DataW Unit)(R:Value->Option (DataW Unit×List MemPlace))(w:World)(hown:w.ownsMap Tryz.prog 2 R b nn D0)(hmax:Maps.size D0<=maxLen)(hbytes:Maps.size D0*8<=140737488355328) :
  Calls Tryz.prog 53 #[.func (.func 67) #[] #[.pointer (some ⟨w.heap.size,0,none⟩)]] (w.alloc (.cells #[.map (some b)] 58)) λe w'=>∃(v:Value) (ss:List Int),e=.returned v/\ss.Perm (intKeys D0) /\
   w'.ownsRow w.heap.size 2 1 v ss.length ((ss.mergeSort (λx y=>decide (x<=y))).map encZ)/\Below w.heap.size w w':=by
 refine(callsIn_wide (n:=5)).1 ?_
 have hbl:=hown.lt
 have hseq:SeqGives Fence.wide 2 Tryz.prog 67 #[.pointer (some ⟨w.heap.size,0,none⟩)] encZ (λss=>ss.Perm (intKeys D0)) (Maps.size D0) (w.alloc (.cells #[.map (some b)] 58)):=
  AnyZI.keys_gives (ρ:=Tryz.keysA_ren) { Tryz.keysA with } Fence.wide _ trivial rfl (by omega) w.heap.size b nn D0 _ (by simp) (by simp) (by
   obtain⟨es,clock,hb,Ft,hs,hD⟩:=hown
   exact⟨es,clock,(Below.heap_alloc _ _ b hbl).trans hb,Ft,hs,hD⟩)
 have cS:=AnyZI.sorted_in Tryz.sortedA Fence.wide 5 trivial trivial trivial trivial rfl (by omega) (sortsA _) (enters_of Tryz.func66 (by kernel_rfl) rfl) 67 #[.pointer (some ⟨w.heap.size,0,none⟩)] trivial (enters_of Tryz.func67 (by kernel_rfl) rfl) _ _ hmax hbytes _ hseq
 change CallsIn _ _ Tryz.prog 53 _ _ _ at cS
 refine cS.mono ?_
 rintro e w' ⟨v,ss,rfl,hS,hrow,hnil,hb⟩
 exact⟨v,ss,rfl,hS,ownsRow_base_a hrow (by simp),((Below.refl _ w).alloc (Nat.le_refl _) _).trans (hb.mono (by simp))⟩
theorem sorted_none (w:World) :
  Calls Tryz.prog 53 #[.func (.func 67) #[] #[.pointer (some ⟨w.heap.size,0,none⟩)]] (w.alloc (.cells #[.map none] 58)) λe w'=>e=.returned (.slice none 0 0)/\Below w.heap.size w w':=by
 refine(callsIn_wide (n:=5)).1 ?_
 have hseq:SeqGives Fence.wide 2 Tryz.prog 67 #[.pointer (some ⟨w.heap.size,0,none⟩)] encZ (λss:List Int=>ss=[]) 0 (w.alloc (.cells #[.map none] 58)):=
  AnyZI.keys_gives_nil (ρ:=Tryz.keysA_ren) { Tryz.keysA with } Fence.wide _ trivial rfl w.heap.size _ (by simp) (by simp)
 have cS:=AnyZI.sorted_in Tryz.sortedA Fence.wide 5 trivial trivial trivial trivial rfl (by omega) (sortsA _) (enters_of Tryz.func66 (by kernel_rfl) rfl) 67 #[.pointer (some ⟨w.heap.size,0,none⟩)] trivial (enters_of Tryz.func67 (by kernel_rfl) rfl) _ 0 (Nat.zero_le _) (by omega) _ hseq
 change CallsIn _ _ Tryz.prog 53 _ _ _ at cS
 refine cS.mono ?_
 rintro e w' ⟨v,ss,rfl,rfl,hrow,hnil,hb⟩
 obtain rfl:v=.slice none 0 0:=hnil.2 rfl
 exact⟨rfl,((Below.refl _ w).alloc (Nat.le_refl _) _).trans (hb.mono (by simp))⟩
theorem sort_same {ss L:List Int}(h:ss.Perm L)(hL:L.Pairwise (·<·)):ss.mergeSort (λx y=>decide (x<=y))=L:=by
 refine List.Perm.eq_of_pairwise (le:=λa b:Int=>decide (a<=b)=true) (λa b _ _ h1 h2=>?_) (List.pairwise_mergeSort ?_ ?_ ss) (hL.imp λh=>by simp;omega) ((List.mergeSort_perm ss _).trans h)
 ·simp at h1 h2;omega
 ·intro a b c h1 h2;simp at h1 h2 ⊢;omega
 ·intro a b;simp;omega
theorem sorted_any (m:Option Nat)(ks:List (Int×Nat))(w:World)(h:MK w (.map m) ks)(ha:(ks.map (·.1)).Pairwise (·<·))(hl:ks.length<=100000) :
  Calls Tryz.prog 53 #[.func (.func 67) #[] #[.pointer (some ⟨w.heap.size,0,none⟩)]] (w.alloc (.cells #[.map m] 58)) λe w'=>∃v,e=.returned v/\OwnI w.heap.size w' v (ks.map (·.1))/\Nx w w':=by
 rcases h with⟨h1,rfl⟩|⟨mb,h1,h⟩
 ·simp only[Value.map.injEq] at h1
  subst h1
  refine(sorted_none w).mono ?_
  rintro e w' ⟨rfl,hb⟩
  exact⟨_,rfl,⟨by simp[icells],Or.inl ⟨rfl,rfl⟩⟩,hb⟩
 ·simp only[Value.map.injEq] at h1
  subst h1
  have hz:Maps.size (kidsD ks)=ks.length:=by unfold kidsD;rw[Maps.size_eq,List.length_map]
  refine(sorted_some mb ks.length (kidsD ks) ptrR w h (by rw[hz];unfold maxLen;omega) (by rw[hz];omega)).mono ?_
  rintro e w' ⟨v,ss,rfl,hp,hrow,hb⟩
  refine⟨v,rfl,?_,hb⟩
  have hk:intKeys (kidsD ks)=ks.map (·.1):=by
   show(ks.map kidE).map (λp=>Go.intOf p.1)=ks.map (·.1)
   rw[List.map_map]
   rfl
  rw[hk] at hp
  rw[sort_same hp ha,hp.length_eq] at hrow
  exact hrow
end Go.Proofs.YtdpfdkihbgmapaaGreat
namespace Go.Proofs.YtdpfdkihbgmapaaGreat
open Go.RowKit Go.Maps
set_option linter.unusedVariables false
set_option maxRecDepth 1000000
set_option maxHeartbeats 16000000
theorem TR.keep {A:Au}{n k:Nat}{w w':World}{bl:Nat->Nat}{fl mv:Nat->Value}{num:Nat->Int}(h:TR A n k w bl fl mv num){o o':Option Nat}(q:But o o' w w')(ho:∀t,t<n->some (bl t)≠o/\some (bl t)≠o')(hm:∀t mb,t<n->mapBlk (mv t)=some mb->some mb≠o/\some mb≠o'):TR A n k w' bl fl mv num:=
 ⟨λt ht=>(h.nd t ht).keep q (ho t ht).1 (ho t ht).2,λt ht=>(h.kd t ht).keep q (λmb e=>hm t mb ht e),h.fz,h.fs,h.inj⟩
theorem TR.setFail {A:Au}{n k t:Nat}{w:World}{bl:Nat->Nat}{fl mv:Nat->Value}{num:Nat->Int}(h:TR A n k w bl fl mv num)(h1:1<=t)(ht:t<n)(hk:k<=t)(x:Value):TR A n k (w.setCell ⟨bl t,6,none⟩ x) bl (upd fl t x) mv num:=by
 refine⟨λs hs=>?_,λs hs=>(h.kd s hs).set (h.nd t ht) _ _,?_,λs h2 h3=>?_,h.inj⟩
 ·by_cases e:s=t
  ·subst e
   rw[upd_at]
   exact(h.nd s hs).set 6 x
  ·rw[upd_ne _ _ e]
   exact(h.nd s hs).setOther (λe'=>e (h.inj s t hs ht e')) _ _
 ·rw[upd_ne _ _ (by omega)];exact h.fz
 ·rw[upd_ne _ _ (by omega)];exact h.fs s h2 h3
theorem TR.up {A:Au}{n k:Nat}{w:World}{bl:Nat->Nat}{fl mv:Nat->Value}{num:Nat->Int}(h:TR A n k w bl fl mv num)(hf:fl k=ptr (bl (failOf A n k))):TR A n (k+1) w bl fl mv num:=
 ⟨h.nd,h.kd,h.fz,λs h1 h2=>by
  by_cases e:s=k
  ·subst e;exact hf
  ·exact h.fs s h1 (by omega),h.inj⟩
theorem TR.setNum {A:Au}{n k t:Nat}{w:World}{bl:Nat->Nat}{fl mv:Nat->Value}{num:Nat->Int}(h:TR A n k w bl fl mv num)(ht:t<n)(z:Int):TR A n k (w.setCell ⟨bl t,0,none⟩ (.int .i64 z)) bl fl mv (upd num t z):=by
 refine⟨λs hs=>?_,λs hs=>(h.kd s hs).set (h.nd t ht) _ _,h.fz,h.fs,h.inj⟩
 by_cases e:s=t
 ·subst e
  rw[upd_at]
  exact(h.nd s hs).set 0 _
 ·rw[upd_ne _ _ e]
  exact(h.nd s hs).setOther (λe'=>e (h.inj s t hs ht e')) _ _
def CI (A:Au)(n i c:Nat):Prop:=1<=c/\c<=n/\∀t,1<=t->t<n->(iat A.pa t<i↔t<c)
theorem ci_ex {A:Au}{n:Nat}(h:∀t,1<=t->t<n->pairAsc A t=true)(i m:Nat)(h1:1<=m)(hm:m<=n):∃c,CI A m i c:=by
 induction m with
 |zero=>omega
 |succ m ih=>
  by_cases e:m=0
  ·subst e
   exact⟨1,by omega,by omega,λt _ _=>by omega⟩
  ·obtain⟨c,hc1,hc2,hc⟩:=ih (by omega) (by omega)
   by_cases hp:iat A.pa m<i
   ·refine⟨m+1,by omega,by omega,λt ht htm=>⟨λ_=>htm,λ_=>?_⟩⟩
    by_cases em:t=m
    ·subst em;exact hp
    ·have:=pair_lt h t m (by omega) (by omega)
     omega
   ·refine⟨c,hc1,by omega,λt ht htm=>?_⟩
    by_cases em:t=m
    ·subst em
     exact⟨λh=>absurd h hp,λh=>by omega⟩
    ·exact hc t ht (by omega)
theorem filter_run {n c k:Nat}{p:Nat->Bool}(hc:c+k<=n)(h:∀t,t<n->p t=decide (c<=t/\t<c+k)):(List.range n).filter p=List.range' c k:=by
 have e:List.range n=List.range' 0 c++(List.range' c k++List.range' (c+k) (n-(c+k))):=by
  rw[List.range_eq_range']
  have h1:=List.range'_append_1 (s:=c) (m:=k) (n:=n-(c+k))
  have h2:=List.range'_append_1 (s:=0) (m:=c) (n:=k+(n-(c+k)))
  rw[h1]
  rw[Nat.zero_add] at h2
  rw[h2]
  congr 1
  omega
 rw[e,List.filter_append,List.filter_append,List.filter_eq_nil_iff.2,List.filter_eq_self.2,List.filter_eq_nil_iff.2]
 ·simp
 ·intro t ht
  rw[List.mem_range'_1] at ht
  rw[h t (by omega)]
  simp
  omega
 ·intro t ht
  rw[List.mem_range'_1] at ht
  rw[h t (by omega)]
  simp
  omega
 ·intro t ht
  rw[List.mem_range'_1] at ht
  rw[h t (by omega)]
  simp
  omega
theorem kids_run {A:Au}{n i c:Nat}(bl:Nat->Nat)(h:∀t,1<=t->t<n->pairAsc A t=true)(h1:1<=n)(hc:CI A n i c):∃k,CI A n (i+1) (c+k)/\kidsL A n bl i=(List.range' c k).map (λt=>(iat A.la t,bl t)):=by
 obtain⟨c',d1,d2,d⟩:=ci_ex h (i+1) n h1 (Nat.le_refl _)
 obtain⟨c1,c2,hc⟩:=hc
 have hle:c<=c':=by
  by_cases e:c=1
  ·omega
  ·have h3:=(hc (c-1) (by omega) (by omega)).2 (by omega)
   have:=(d (c-1) (by omega) (by omega)).1 (by omega)
   omega
 refine⟨c'-c,⟨by omega,by omega,by rw[show c+(c'-c)=c' by omega];exact d⟩,?_⟩
 unfold kidsL
 rw[filter_run (c:=c) (k:=c'-c) (by omega)]
 intro t ht
 by_cases e:1<=t
 ·have a:=hc t e ht
  have b:=d t e ht
  rw[Bool.eq_iff_iff]
  simp only[decide_eq_true_eq]
  omega
 ·rw[Bool.eq_iff_iff]
  simp only[decide_eq_true_eq]
  omega
theorem kids_asc {A:Au}{n i:Nat}(bl:Nat->Nat)(h:∀t,1<=t->t<n->pairAsc A t=true):((kidsL A n bl i).map (·.1)).Pairwise (·<·):=by
 unfold kidsL
 rw[List.map_map,List.pairwise_map]
 have hp:=(List.pairwise_lt_range (n:=n)).filter (λt=>decide (1<=t/\iat A.pa t=i))
 refine hp.imp_of_mem λ{a b} ha hb hab=>?_
 rw[List.mem_filter,List.mem_range] at ha hb
 have a2:=of_decide_eq_true ha.2
 have b2:=of_decide_eq_true hb.2
 have:=pair_lt h a b hab hb.1
 show iat A.la a<iat A.la b
 omega
theorem kid_at {A:Au}{n i t:Nat}{bl:Nat->Nat}(h:∀t,1<=t->t<n->pairAsc A t=true)(hc:IsCh A n i (iat A.la t) t):kidOf (kidsL A n bl i) (iat A.la t)=some (bl t):=by
 cases hk:kidOf (kidsL A n bl i) (iat A.la t) with
 |none=>exact absurd hc (kid_no hk t)
 |some b=>
  obtain⟨u,hu,rfl⟩:=kid_yes hk
  rcases Nat.lt_trichotomy u t with e|rfl|e
  ·have:=pair_lt h u t e hc.2.1
   have h1:=hu.2.2
   have h2:=hc.2.2
   omega
  ·rfl
  ·have:=pair_lt h t u e hu.2.1
   have h1:=hu.2.2
   have h2:=hc.2.2
   omega
end Go.Proofs.YtdpfdkihbgmapaaGreat
