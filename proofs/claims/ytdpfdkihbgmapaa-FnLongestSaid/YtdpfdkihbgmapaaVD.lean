import Derived.Test.YtdpfdkihbgmapaaVC
import Derived.Test.YtdpfdkihbgmapaaXCE
namespace Go.Proofs.Ytdpfdkihbgmapaa
open Go.RowKit Go.Sort
set_option linter.unusedVariables false
set_option maxRecDepth 1000000
set_option maxHeartbeats 16000000
theorem sub_at {us ws:List (List Int)}(hu:AscW us)(hw:AscW ws)(h:∀y,inW us y->inW ws y)(i:Nat)(hi:i<us.length):∃k,i<=k/\k<ws.length/\wd ws k=wd us i:=by
 induction i with
 |zero=>
  obtain⟨k,hk,e⟩:=h (wd us 0) ⟨0,hi,rfl⟩
  exact⟨k,Nat.zero_le _,hk,e⟩
 |succ i ih=>
  obtain⟨k,h1,h2,h3⟩:=ih (by omega)
  obtain⟨k',hk',e⟩:=h (wd us (i+1)) ⟨i+1,hi,rfl⟩
  refine⟨k',?_,hk',e⟩
  have hb:=hu i (i+1) (by omega) hi
  rw[<-h3,<-e] at hb
  rcases Nat.lt_trichotomy k k' with c|c|c
  ·omega
  ·subst c;rw[bef_self] at hb;cases hb
  ·have:=bef_trans hb (hw k' k c h2)
   rw[bef_self] at this;cases this
theorem sub_len {us ws:List (List Int)}(hu:AscW us)(hw:AscW ws)(h:∀y,inW us y->inW ws y):us.length<=ws.length:=by
 by_cases c:us.length=0
 ·omega
 ·obtain⟨k,h1,h2,_⟩:=sub_at hu hw h (us.length-1) (by omega)
  omega
theorem same_words {us ws:List (List Int)}(hu:AscW us)(hw:AscW ws)(h:∀y,inW us y↔inW ws y):us=ws:=by
 have hl:us.length=ws.length:=Nat.le_antisymm (sub_len hu hw λy=>(h y).1) (sub_len hw hu λy=>(h y).2)
 apply List.ext_getElem hl
 intro i h1 h2
 have key:wd us i=wd ws i:=by
  obtain⟨k,k1,k2,k3⟩:=sub_at hu hw (λy=>(h y).1) i h1
  obtain⟨m,m1,m2,m3⟩:=sub_at hw hu (λy=>(h y).2) i h2
  by_cases c:k=i
  ·rw[<-k3,c]
  ·have hb:=hw i k (by omega) k2
   rw[k3,<-m3] at hb
   by_cases d:m=i
   ·rw[d,bef_self] at hb;cases hb
   ·have:=bef_trans hb (hu i m (by omega) m2)
    rw[bef_self] at this;cases this
 unfold wd at key
 rw[List.getD_eq_getElem?_getD,List.getElem?_eq_getElem h1,List.getD_eq_getElem?_getD,List.getElem?_eq_getElem h2] at key
 exact key
theorem pig {α:Type} [DecidableEq α]:∀(n:Nat) (L:List α) (f:Nat->α),(∀i,i<n->f i∈L)->(∀i j,i<j->j<n->f i≠f j)->n<=L.length
 |0,L,f,_,_=>Nat.zero_le _
 |n+1,L,f,h1,h2=>by
  have hm:=h1 n (by omega)
  have ih:=pig n (L.erase (f n)) f (λi hi=>(List.mem_erase_of_ne (h2 i n hi (by omega))).2 (h1 i (by omega))) (λi j hi hj=>h2 i j hi (by omega))
  rw[List.length_erase_of_mem hm] at ih
  have:=List.length_pos_of_mem hm
  omega
theorem flat_len {α β:Type}(l:List α)(f:α->List β)(m:Nat)(h:∀x∈l,(f x).length=m):(l.flatMap f).length=l.length*m:=by
 induction l with
 |nil=>simp
 |cons a l ih=>
  rw[List.flatMap_cons,List.length_append,h a (by simp),ih (λx hx=>h x (List.mem_cons_of_mem _ hx)),List.length_cons,Nat.succ_mul]
  omega
theorem ratA_mem {rs:List Ru}{i:Nat}(h:i<rs.length):ratA rs i∈rs:=by
 have e:ratA rs i=rs[i]:=by simp[ratA,List.getD,h]
 rw[e]
 exact List.getElem_mem h
theorem words_le {rs:List Ru}{n M:Nat}{ws:List (List Int)}(h:WI rs rs.length 1 ws)(hg:RGd n M rs):ws.length<=1+n*M:=by
 have hl:ws.length<=([]::(List.range rs.length).flatMap (λj=>(List.range M).map (λq=>(ratA rs j).seq.take (q+1))):List (List Int)).length:=by
  refine pig ws.length _ (wd ws) (λi hi=>?_) (λi j hij hj e=>?_)
  ·rcases h.yes (wd ws i) ⟨i,hi,rfl⟩ with e|⟨j,hj,q,h1,h2,e⟩|⟨q,h1,h2,_⟩
   ·rw[e];simp
   ·refine List.mem_cons_of_mem _ (List.mem_flatMap.2 ⟨j,List.mem_range.2 hj,List.mem_map.2 ⟨q-1,List.mem_range.2 ?_,?_⟩⟩)
    ·have hq:=(hg.each _ (ratA_mem hj)).2.1
     have hm:most (ratA rs j)<=(ratA rs j).seq.length:=by unfold most;split<;>omega
     omega
    ·rw[e,show q-1+1=q by omega]
   ·omega
  ·have hb:=h.asc i j hij hj
   rw[e,bef_self] at hb
   cases hb
 rw[List.length_cons,flat_len _ _ M (λx _=>by simp),List.length_range] at hl
 have:=Nat.mul_le_mul_right M hg.len
 omega
theorem RGd.rg {rs:List Ru}{n M:Nat}(h:RGd n M rs)(hn:n<=1000)(hM:M<=402):rgB rs=true:=by
 unfold rgB
 rw[Bool.and_eq_true]
 refine⟨by have:=h.len;simp;omega,?_⟩
 refine allN_yes (Nat.le_refl _) (λi hi=>?_)
 have hq:=h.each _ (ratA_mem hi)
 unfold rgAt
 rw[Bool.and_eq_true,Bool.and_eq_true]
 refine⟨by simpa using hq.1,by have:=hq.2.1;simp;omega,allN_yes (Nat.le_refl _) (λj hj=>?_)⟩
 have:=hq.2.2 (iat (ratA rs i).seq j) (by rw[iat_eq hj];exact List.getElem_mem hj)
 unfold edgeB
 simp
 exact this
theorem built_uniq {rs:List Ru}{c c':Int}{A A':Au}(h:BuiltIs rs c A)(k:BuiltIs rs c' A'):A=A':=by
 rcases h with⟨h1,h2,h3⟩|⟨h1,ws,hI,hc⟩
 ·rcases k with⟨k1,k2,k3⟩|⟨k1,_⟩
  ·exact h3.trans k3.symm
  ·rw[h1] at k1;cases k1
 ·rcases k with⟨k1,_⟩|⟨_,us,kI,kc⟩
  ·rw[h1] at k1;cases k1
  ·rcases hc with⟨hl,_,h3⟩|⟨hl,_,h3⟩
   ·rcases kc with⟨kl,_,k3⟩|⟨kl,_,k3⟩
    ·exact h3.trans k3.symm
    ·have:=sub_len hI.asc kI.asc (λy hy=>kI.all kl y (hI.yes y hy))
     omega
   ·rcases kc with⟨kl,_,k3⟩|⟨kl,_,k3⟩
    ·have:=sub_len kI.asc hI.asc (λy hy=>hI.all hl y (kI.yes y hy))
     omega
    ·have e:ws=us:=same_words hI.asc kI.asc λy=>⟨λhy=>kI.all kl y (hI.yes y hy),λhy=>hI.all hl y (kI.yes y hy)⟩
     subst e
     exact h3.trans k3.symm
def AuF (f:List Ru->Au):Prop:=∀rs c A,BuiltIs rs c A->A=f rs
theorem auF_ex:∃f,AuF f:=by
 refine⟨λrs=>@dite _ (∃A c,BuiltIs rs c A) (Classical.propDecidable _) (λh=>Classical.choose h) (λ_=>auZ),λrs c A h=>?_⟩
 have hx:∃A c,BuiltIs rs c A:=⟨A,c,h⟩
 show A=@dite _ (∃A c,BuiltIs rs c A) (Classical.propDecidable _) (λh=>Classical.choose h) (λ_=>auZ)
 rw[dif_pos hx]
 obtain⟨c',h'⟩:=Classical.choose_spec hx
 exact built_uniq h h'
structure Al5 (n:Nat)(A:Au):Prop where
 l0:A.pa.length=n
 l1:A.la.length=n
 l2:A.fa.length=n
 l3:A.mu.length=n
 l4:A.bd.length=n
theorem BuiltIs.good {rs:List Ru}{c:Int}{A:Au}(h:BuiltIs rs c A)(hg:RGd 11 77 rs):Al5 A.pa.length A/\1<=A.pa.length/\A.pa.length<=2000:=by
 have h1:=hg.rg (by omega) (by omega)
 rcases h with⟨k1,_⟩|⟨_,ws,hI,hc⟩
 ·rw[h1] at k1;cases k1
 ·have hw:=words_le hI hg
  rcases hc with⟨hl,_⟩|⟨hl,_,rfl⟩
  ·omega
  ·have e:(autoOf ws (mustS rs) (badS rs)).pa.length=ws.length:=by simp[autoOf]
   rw[e]
   exact⟨⟨by simp[autoOf],by simp[autoOf],by simp[autoOf],by simp[autoOf],by simp[autoOf]⟩,hI.l0,hl⟩
theorem BuiltIs.small {rs:List Ru}{c:Int}{A:Au}(h:BuiltIs rs c A):Al5 A.pa.length A/\A.pa.length<=2000:=by
 rcases h with⟨_,_,rfl⟩|⟨_,ws,hI,hc⟩
 ·exact⟨⟨rfl,rfl,rfl,rfl,rfl⟩,by simp[auZ]⟩
 ·rcases hc with⟨_,_,rfl⟩|⟨hl,_,rfl⟩
  ·exact⟨⟨rfl,rfl,rfl,rfl,rfl⟩,by simp[auZ]⟩
  ·have e:(autoOf ws (mustS rs) (badS rs)).pa.length=ws.length:=by simp[autoOf]
   rw[e]
   exact⟨⟨by simp[autoOf],by simp[autoOf],by simp[autoOf],by simp[autoOf],by simp[autoOf]⟩,hl⟩
theorem OwnR.rules {C:Nat}{w:World}{v:Value}{xs:List Ru}(h:OwnR C C w v xs):HRules C w v xs:=by
 obtain⟨vs,h0,h1,h2⟩:=h
 have hO:OwnR C C w v xs:=⟨vs,h0,h1,h2⟩
 obtain⟨a,c,rfl⟩:=row_slice h1
 refine⟨a,c,rfl,row_max h1,λhp=>?_⟩
 have hb:∃g,a=some ⟨g,0,none⟩/\C<=g/\g<w.heap.size:=by
  rcases h1.2 with⟨_,h3⟩|⟨g,cap,cur,hv,hg,hh,_⟩
  ·omega
  ·simp only[Value.slice.injEq] at hv
   exact⟨g,hv.1,hg,(Array.getElem?_eq_some_iff.1 hh).1⟩
 obtain⟨g,rfl,hg,hgl⟩:=hb
 refine⟨g,0,rfl,hg,hgl,λi hi=>?_⟩
 obtain⟨g',u,e,c0,c1,c2,hu⟩:=hO.at hi
 have e':g'=g:=by simpa using e.symm
 subst e'
 obtain⟨ua,uc,eu⟩:=hu.slice
 subst eu
 rw[Nat.zero_add]
 refine⟨ua,uc,c0,c1,c2,hu.held,?_⟩
 rcases hu.2 with⟨e3,h3⟩|⟨g3,cap,cur,hv,_,_,hc,_⟩
 ·show(ruat xs i).seq.length<=uc
  omega
 ·simp only[Value.slice.injEq] at hv
  show(ruat xs i).seq.length<=uc
  omega
def daS2 (S:Src):Src:=if nv S 20=0 then ns (ns S 20) 3 else ns S 20
def daB (S:Src):Bool:=decide (nv S 20=0)&&decide (nv (ns S 20) 3=0)
def daK (k:Int)(A:Au)(S:Src):Au×Src:=
 if 1<=k/\k<6/\1<A.pa.length then
  (if nv (ns S (A.pa.length-1)) 2=0 then ({ A with bd:=A.bd.set (1+nv S (A.pa.length-1)).toNat (!bat A.bd (1+nv S (A.pa.length-1)).toNat) },ns (ns S (A.pa.length-1)) 2)
   else ({ A with mu:=A.mu.set (1+nv S (A.pa.length-1)).toNat (nv (ns (ns S (A.pa.length-1)) 2) 5-2) },ns (ns (ns S (A.pa.length-1)) 2) 5))
 else (A,S)
def daM (m:Int)(n i:Nat)(A:Au)(S:Src):Au×Src:=
 if m=0 then ({ A with pa:=A.pa.set i (wrap64 (iat A.pa i+1)) },S)
 else if m=1\/m=2 then ({ A with la:=A.la.set i (wrap64 (iat A.la i+1)) },S)
 else if m=3\/m=4 then ({ A with fa:=A.fa.set i (wrap64 (iat A.fa i+1)) },S)
 else if m=5 then (if 0<i then ({ A with fa:=A.fa.set i 0 },S) else (A,S))
 else if m=6 then ({ A with mu:=A.mu.set i (4000-nv S 2) },ns S 2)
 else if m=7 then ({ A with mu:=A.mu.set i (-2-nv S 2) },ns S 2)
 else if m=8 then ({ A with bd:=A.bd.set 0 true },S)
 else if m=9 then ({ A with bd:=A.bd.take (n-1) },S)
 else if m=10 then ({ A with mu:=A.mu++[-1] },S)
 else if m=11 then ({ A with la:=A.la.set (n-1) (4000-nv S 2) },ns S 2)
 else if m=12 then (if 2<n then ({ A with la:=(A.la.set i (iat A.la (1+nv S (n-1)).toNat)).set (1+nv S (n-1)).toNat (iat A.la i) },ns S (n-1)) else (A,S))
 else (auZ,S)
def daT (k:Int)(n:Nat)(x:Au×Src):Au×Src:=if k<6\/10<=k then x else daM (nv (ns x.2 n) 14) n (nv x.2 n).toNat x.1 (ns (ns x.2 n) 14)
def daO (auF:List Ru->Au)(S:Src):Au×Src:=
 if daB S=true then (auF (bkR 5),daS2 S)
 else daT (nv S 20) (auF (drRu (daS2 S))).pa.length (daK (nv S 20) (auF (drRu (daS2 S))) (drSr (daS2 S)))
theorem O5.ha {C:Nat}{w:World}{v0 v1 v2 v3 v4:Value}{A:Au}(h:O5 C w v0 v1 v2 v3 v4 A):HA C w v0 v1 v2 v3 v4 A:=⟨h.o0.held,h.o1.held,h.o2.held,h.o3.held,h.o4.held⟩
theorem OwnB.setAt {C n b c i:Nat}{w:World}{zs:List Bool}(h:OwnB C w (.slice (some ⟨b,0,none⟩) n c) zs)(hn:zs.length=n)(z:Bool):OwnB C (w.setCell ⟨b,i,none⟩ (.bool z)) (.slice (some ⟨b,0,none⟩) n c) (zs.set i z):=by
 subst hn
 have k:=row_set (i:=i) h (.bool z)
 show(w.setCell _ _).ownsRow C _ 1 _ (zs.set i z).length (bcells (zs.set i z))
 rw[List.length_set]
 have e:bcells (zs.set i z)=(bcells zs).set i (.bool z):=by unfold bcells;rw[List.map_set]
 rw[e]
 exact k
theorem OwnB.short {C b n c:Nat}{w:World}{zs:List Bool}(h:OwnB C w (.slice (some ⟨b,0,none⟩) (n+1) c) zs)(hn:zs.length=n+1):OwnB C w (.slice (some ⟨b,0,none⟩) n c) (zs.take n):=by
 have hl:(zs.take n).length=n:=by rw[List.length_take];omega
 obtain⟨h1,h2⟩:=h
 unfold OwnB
 rw[hl]
 refine⟨by unfold bcells;rw[List.length_map,hl,Nat.mul_one],?_⟩
 rcases h2 with⟨h2,_⟩|⟨g,cap,cur,hv,hg,hh,hc,hm,hs,ht⟩
 ·cases h2
 ·simp only[Value.slice.injEq,Option.some.injEq,Addr.mk.injEq] at hv
  obtain⟨⟨rfl,_⟩,_,rfl⟩:=hv
  refine Or.inr ⟨b,c,cur,rfl,hg,hh,by omega,hm,hs,?_⟩
  rw[hn] at ht
  have e:cur.toList.take (n*1)=(cur.toList.take ((n+1)*1)).take n:=by rw[List.take_take];congr 1;omega
  rw[e,ht]
  unfold bcells
  rw[List.map_take]
theorem OwnB.open {C:Nat}{w:World}{v:Value}{zs:List Bool}(h:OwnB C w v zs)(hp:0<zs.length):∃g c cs,v=.slice (some ⟨g,0,none⟩) zs.length c/\C<=g/\zs.length<=c/\BT w g cs 4/\∀i,i<zs.length->w.cell? ⟨g,i,none⟩=some (.bool (bat zs i)):=by
 obtain⟨h1,h2⟩:=h
 rcases h2 with⟨_,h3⟩|⟨g,cap,cur,hv,hg,hh,hc,hm,hs,ht⟩
 ·omega
 ·refine⟨g,cap,cur,hv,hg,hc,hh,λi hi=>?_⟩
  have e:(cur.toList.take (zs.length*1))[i]?=(bcells zs)[i]?:=by rw[ht]
  rw[List.getElem?_take_of_lt (by omega),Array.getElem?_toList,bcells_at hi] at e
  have hh':w.heap[g]?=some (.cells cur 4 (0,0)):=hh
  unfold World.cell?
  simp[hh',e]
structure AUs (D b g2 g4:Nat)(w0 w:World)(S:Src)(p0 p1 p2 p3 p4:Value)(A:Au):Prop where
 o5:O5 w0.heap.size w p0 p1 p2 p3 p4 A
 src:HSrc D w b S
 b2:BT w g2 #[.slice none 0 0,.slice none 0 0,.slice none 0 0,.slice none 0 0,.slice none 0 0] 26
 b4:BT w g4 #[p0,p1,p2,p3,p4] 26
 chg:Chg (Sx1 b) w0 w
 h2:w0.heap.size<=g2
 h4:w0.heap.size<=g4
 ne:g2≠g4
section
variable {D b g2 g4:Nat}{w0 w w':World}{S S':Src}{p0 p1 p2 p3 p4:Value}{A:Au}
theorem O5.src {C:Nat}(h:O5 C w p0 p1 p2 p3 p4 A)(hS:HSrc D w b S)(hc:Chg (Sx1 b) w w'):O5 C w' p0 p1 p2 p3 p4 A:=
 ⟨row_src h.o0 hS (by decide) hc,row_src h.o1 hS (by decide) hc,row_src h.o2 hS (by decide) hc,row_src h.o3 hS (by decide) hc,row_src h.o4 hS (by decide) hc,h.a01,h.a02,h.a03,h.a12,h.a13,h.a23⟩
theorem BT.src {g t:Nat}{cs:Array Value}(h:BT w g cs t)(hS:HSrc D w b S)(hn:t≠39)(hc:Chg (Sx1 b) w w'):BT w' g cs t:=by
 obtain⟨u,hb,-⟩:=hS
 exact h.chg hc (λe=>hb.ne h (λq=>hn q.symm) e.symm)
theorem AUs.drawn (h:AUs D b g2 g4 w0 w S p0 p1 p2 p3 p4 A)(hs:HSrc D w' b S')(hc:Chg (Sx1 b) w w'):AUs D b g2 g4 w0 w' S' p0 p1 p2 p3 p4 A:=
 ⟨h.o5.src h.src hc,hs,h.b2.src h.src (by decide) hc,h.b4.src h.src (by decide) hc,h.chg.trans hc,h.h2,h.h4,h.ne⟩
theorem AUs.next (h:AUs D b g2 g4 w0 w S p0 p1 p2 p3 p4 A)(k:Nx w w'):AUs D b g2 g4 w0 w' S p0 p1 p2 p3 p4 A:=
 ⟨h.o5.next k,h.src.next k,h.b2.next k,h.b4.next k,h.chg.trans (Chg.nx k),h.h2,h.h4,h.ne⟩
theorem AUs.s0 {g n c:Nat}(h:AUs D b g2 g4 w0 w S (.slice (some ⟨g,0,none⟩) n c) p1 p2 p3 p4 A)(hn:A.pa.length=n)(hp:0<n)(i:Nat)(z:Int):AUs D b g2 g4 w0 (w.setCell ⟨g,i,none⟩ (.int .i64 z)) S (.slice (some ⟨g,0,none⟩) n c) p1 p2 p3 p4 { A with pa:=A.pa.set i z }:=by
 obtain⟨g',c',cs,e,hg,-,hb,-⟩:=h.o5.o0.open (by omega)
 simp only[Value.slice.injEq,Option.some.injEq,Addr.mk.injEq] at e
 obtain⟨⟨rfl,-⟩,-⟩:=e
 have hc:Chg (λx=>x=g) w (w.setCell ⟨g,i,none⟩ (.int .i64 z)):=Chg.set _ _ _ rfl
 exact⟨⟨h.o5.o0.setAt hn z,row_chg h.o5.o1 hc (λx hx e=>h.o5.a01 g rfl (by rw[hx];exact congrArg some e)),row_chg h.o5.o2 hc (λx hx e=>h.o5.a02 g rfl (by rw[hx];exact congrArg some e)),row_chg h.o5.o3 hc (λx hx e=>h.o5.a03 g rfl (by rw[hx];exact congrArg some e)),row_setBT h.o5.o4 hb (by decide) _ _,h.o5.a01,h.o5.a02,h.o5.a03,h.o5.a12,h.o5.a13,h.o5.a23⟩,h.src.set hb (by decide) (by decide) i _,h.b2.chg hc (λe=>hb.ne h.b2 (by decide) e.symm),h.b4.chg hc (λe=>hb.ne h.b4 (by decide) e.symm),h.chg.young hc (λx hx hl=>by have e:x=g:=hx;omega),h.h2,h.h4,h.ne⟩
theorem AUs.s1 {g n c:Nat}(h:AUs D b g2 g4 w0 w S p0 (.slice (some ⟨g,0,none⟩) n c) p2 p3 p4 A)(hn:A.la.length=n)(hp:0<n)(i:Nat)(z:Int):AUs D b g2 g4 w0 (w.setCell ⟨g,i,none⟩ (.int .i64 z)) S p0 (.slice (some ⟨g,0,none⟩) n c) p2 p3 p4 { A with la:=A.la.set i z }:=by
 obtain⟨g',c',cs,e,hg,-,hb,-⟩:=h.o5.o1.open (by omega)
 simp only[Value.slice.injEq,Option.some.injEq,Addr.mk.injEq] at e
 obtain⟨⟨rfl,-⟩,-⟩:=e
 have hc:Chg (λx=>x=g) w (w.setCell ⟨g,i,none⟩ (.int .i64 z)):=Chg.set _ _ _ rfl
 exact⟨⟨row_chg h.o5.o0 hc (λx hx e=>(λb e e2=>h.o5.a01 b e2 e) g rfl (by rw[hx];exact congrArg some e)),h.o5.o1.setAt hn z,row_chg h.o5.o2 hc (λx hx e=>h.o5.a12 g rfl (by rw[hx];exact congrArg some e)),row_chg h.o5.o3 hc (λx hx e=>h.o5.a13 g rfl (by rw[hx];exact congrArg some e)),row_setBT h.o5.o4 hb (by decide) _ _,h.o5.a01,h.o5.a02,h.o5.a03,h.o5.a12,h.o5.a13,h.o5.a23⟩,h.src.set hb (by decide) (by decide) i _,h.b2.chg hc (λe=>hb.ne h.b2 (by decide) e.symm),h.b4.chg hc (λe=>hb.ne h.b4 (by decide) e.symm),h.chg.young hc (λx hx hl=>by have e:x=g:=hx;omega),h.h2,h.h4,h.ne⟩
theorem AUs.s2 {g n c:Nat}(h:AUs D b g2 g4 w0 w S p0 p1 (.slice (some ⟨g,0,none⟩) n c) p3 p4 A)(hn:A.fa.length=n)(hp:0<n)(i:Nat)(z:Int):AUs D b g2 g4 w0 (w.setCell ⟨g,i,none⟩ (.int .i64 z)) S p0 p1 (.slice (some ⟨g,0,none⟩) n c) p3 p4 { A with fa:=A.fa.set i z }:=by
 obtain⟨g',c',cs,e,hg,-,hb,-⟩:=h.o5.o2.open (by omega)
 simp only[Value.slice.injEq,Option.some.injEq,Addr.mk.injEq] at e
 obtain⟨⟨rfl,-⟩,-⟩:=e
 have hc:Chg (λx=>x=g) w (w.setCell ⟨g,i,none⟩ (.int .i64 z)):=Chg.set _ _ _ rfl
 exact⟨⟨row_chg h.o5.o0 hc (λx hx e=>(λb e e2=>h.o5.a02 b e2 e) g rfl (by rw[hx];exact congrArg some e)),row_chg h.o5.o1 hc (λx hx e=>(λb e e2=>h.o5.a12 b e2 e) g rfl (by rw[hx];exact congrArg some e)),h.o5.o2.setAt hn z,row_chg h.o5.o3 hc (λx hx e=>h.o5.a23 g rfl (by rw[hx];exact congrArg some e)),row_setBT h.o5.o4 hb (by decide) _ _,h.o5.a01,h.o5.a02,h.o5.a03,h.o5.a12,h.o5.a13,h.o5.a23⟩,h.src.set hb (by decide) (by decide) i _,h.b2.chg hc (λe=>hb.ne h.b2 (by decide) e.symm),h.b4.chg hc (λe=>hb.ne h.b4 (by decide) e.symm),h.chg.young hc (λx hx hl=>by have e:x=g:=hx;omega),h.h2,h.h4,h.ne⟩
theorem AUs.s3 {g n c:Nat}(h:AUs D b g2 g4 w0 w S p0 p1 p2 (.slice (some ⟨g,0,none⟩) n c) p4 A)(hn:A.mu.length=n)(hp:0<n)(i:Nat)(z:Int):AUs D b g2 g4 w0 (w.setCell ⟨g,i,none⟩ (.int .i64 z)) S p0 p1 p2 (.slice (some ⟨g,0,none⟩) n c) p4 { A with mu:=A.mu.set i z }:=by
 obtain⟨g',c',cs,e,hg,-,hb,-⟩:=h.o5.o3.open (by omega)
 simp only[Value.slice.injEq,Option.some.injEq,Addr.mk.injEq] at e
 obtain⟨⟨rfl,-⟩,-⟩:=e
 have hc:Chg (λx=>x=g) w (w.setCell ⟨g,i,none⟩ (.int .i64 z)):=Chg.set _ _ _ rfl
 exact⟨⟨row_chg h.o5.o0 hc (λx hx e=>(λb e e2=>h.o5.a03 b e2 e) g rfl (by rw[hx];exact congrArg some e)),row_chg h.o5.o1 hc (λx hx e=>(λb e e2=>h.o5.a13 b e2 e) g rfl (by rw[hx];exact congrArg some e)),row_chg h.o5.o2 hc (λx hx e=>(λb e e2=>h.o5.a23 b e2 e) g rfl (by rw[hx];exact congrArg some e)),h.o5.o3.setAt hn z,row_setBT h.o5.o4 hb (by decide) _ _,h.o5.a01,h.o5.a02,h.o5.a03,h.o5.a12,h.o5.a13,h.o5.a23⟩,h.src.set hb (by decide) (by decide) i _,h.b2.chg hc (λe=>hb.ne h.b2 (by decide) e.symm),h.b4.chg hc (λe=>hb.ne h.b4 (by decide) e.symm),h.chg.young hc (λx hx hl=>by have e:x=g:=hx;omega),h.h2,h.h4,h.ne⟩
theorem AUs.s4 {g n c:Nat}(h:AUs D b g2 g4 w0 w S p0 p1 p2 p3 (.slice (some ⟨g,0,none⟩) n c) A)(hn:A.bd.length=n)(hp:0<n)(i:Nat)(z:Bool):AUs D b g2 g4 w0 (w.setCell ⟨g,i,none⟩ (.bool z)) S p0 p1 p2 p3 (.slice (some ⟨g,0,none⟩) n c) { A with bd:=A.bd.set i z }:=by
 obtain⟨g',c',cs,e,hg,-,hb,-⟩:=h.o5.o4.open (by omega)
 simp only[Value.slice.injEq,Option.some.injEq,Addr.mk.injEq] at e
 obtain⟨⟨rfl,-⟩,-⟩:=e
 have hc:Chg (λx=>x=g) w (w.setCell ⟨g,i,none⟩ (.bool z)):=Chg.set _ _ _ rfl
 exact⟨⟨row_setBT h.o5.o0 hb (by decide) _ _,row_setBT h.o5.o1 hb (by decide) _ _,row_setBT h.o5.o2 hb (by decide) _ _,row_setBT h.o5.o3 hb (by decide) _ _,h.o5.o4.setAt hn z,h.o5.a01,h.o5.a02,h.o5.a03,h.o5.a12,h.o5.a13,h.o5.a23⟩,h.src.set hb (by decide) (by decide) i _,h.b2.chg hc (λe=>hb.ne h.b2 (by decide) e.symm),h.b4.chg hc (λe=>hb.ne h.b4 (by decide) e.symm),h.chg.young hc (λx hx hl=>by have e:x=g:=hx;omega),h.h2,h.h4,h.ne⟩
structure AOut (D b:Nat)(w0 w:World)(S:Src)(p0 p1 p2 p3 p4:Value)(A:Au):Prop where
 ha:HA w0.heap.size w p0 p1 p2 p3 p4 A
 src:HSrc D w b S
 chg:Chg (Sx1 b) w0 w
 sm:SmallA A
theorem AUs.lay (h:AUs D b g2 g4 w0 w S p0 p1 p2 p3 p4 A)(hc:Chg (λx=>x=g2) w w')(sm:SmallA A):AOut D b w0 w' S p0 p1 p2 p3 p4 A:=by
 have nr:∀{C t sz n:Nat}{v:Value}{xs:List Value},w.ownsRow C t sz v n xs->26≠t->w'.ownsRow C t sz v n xs:=λhr hn=>row_chg hr hc (λx hx e=>by
  have e':x=g2:=e
  subst e'
  exact h.b2.neRow hr hn hx.symm)
 have o:O5 w0.heap.size w' p0 p1 p2 p3 p4 A:=⟨nr h.o5.o0 (by decide),nr h.o5.o1 (by decide),nr h.o5.o2 (by decide),nr h.o5.o3 (by decide),nr h.o5.o4 (by decide),h.o5.a01,h.o5.a02,h.o5.a03,h.o5.a12,h.o5.a13,h.o5.a23⟩
 exact⟨o.ha,h.src.chg hc (λx hx=>by
  have e':x=g2:=hx
  subst e'
  exact⟨_,_,h.b2,by decide,by decide⟩),h.chg.young hc (λx hx hl=>by have e':x=g2:=hx;have:=h.h2;omega),sm⟩
theorem AUs.setMu {v:Value}{l:List Int}(h:AUs D b g2 g4 w0 w S p0 p1 p2 p3 p4 A)(hr:OwnI w0.heap.size w' v l)(hc:Chg (λx=>some x=p3.ownBlock) w w')(hf:∀g,v.ownBlock=some g->p3.ownBlock=some g\/w.heap.size<=g):AUs D b g2 g4 w0 (w'.setCell ⟨g4,3,none⟩ v) S p0 p1 p2 v p4 { A with mu:=l }:=by
 have lt:=λ(x:Nat) (hx:some x=p3.ownBlock)=>(own_lt h.o5.o3 x hx.symm).1
 have B4:BT w' g4 #[p0,p1,p2,p3,p4] 26:=h.b4.row h.o5.o3 (by decide) hc
 have B2:BT w' g2 #[.slice none 0 0,.slice none 0 0,.slice none 0 0,.slice none 0 0,.slice none 0 0] 26:=h.b2.row h.o5.o3 (by decide) hc
 have hs:=Chg.set (S:=λx=>x=g4) (w:=w') g4 3 v rfl
 have ap:∀{p:Value}{n:Nat}{xs:List Value},w.ownsRow w0.heap.size 2 1 p n xs->(∀b,p.ownBlock=some b->p3.ownBlock≠some b)->∀b,p.ownBlock=some b->v.ownBlock≠some b:=λhp ha b e e2=>by
  rcases hf b e2 with k|k
  ·exact ha b e k
  ·have:=(own_lt hp b e).2
   omega
 refine⟨⟨row_setBT (row_chg h.o5.o0 hc (λx hx e=>h.o5.a03 x hx e.symm)) B4 (by decide) _ _,row_setBT (row_chg h.o5.o1 hc (λx hx e=>h.o5.a13 x hx e.symm)) B4 (by decide) _ _,row_setBT (row_chg h.o5.o2 hc (λx hx e=>h.o5.a23 x hx e.symm)) B4 (by decide) _ _,row_setBT hr B4 (by decide) _ _,row_setBT (row_chg h.o5.o4 hc (λx hx e=>row_ne h.o5.o4 h.o5.o3 (by decide) hx e)) B4 (by decide) _ _,h.o5.a01,h.o5.a02,ap h.o5.o0 h.o5.a03,h.o5.a12,ap h.o5.o1 h.o5.a13,ap h.o5.o2 h.o5.a23⟩,(h.src.row h.o5.o3 (by decide) (by decide) hc).set B4 (by decide) (by decide) _ _,B2.chg hs h.ne,B4.set 3 v,(h.chg.young hc (λx hx hl=>by have:=lt x hx;omega)).young hs (λx hx hl=>by have e':x=g4:=hx;have:=h.h4;omega),h.h2,h.h4,h.ne⟩
theorem AUs.setBd {g n c:Nat}(h:AUs D b g2 g4 w0 w S p0 p1 p2 p3 (.slice (some ⟨g,0,none⟩) (n+1) c) A)(hn:A.bd.length=n+1):AUs D b g2 g4 w0 (w.setCell ⟨g4,4,none⟩ (.slice (some ⟨g,0,none⟩) n c)) S p0 p1 p2 p3 (.slice (some ⟨g,0,none⟩) n c) { A with bd:=A.bd.take n }:=by
 have hs:=Chg.set (S:=λx=>x=g4) (w:=w) g4 4 (.slice (some ⟨g,0,none⟩) n c) rfl
 exact⟨⟨row_setBT h.o5.o0 h.b4 (by decide) _ _,row_setBT h.o5.o1 h.b4 (by decide) _ _,row_setBT h.o5.o2 h.b4 (by decide) _ _,row_setBT h.o5.o3 h.b4 (by decide) _ _,row_setBT (h.o5.o4.short hn) h.b4 (by decide) _ _,h.o5.a01,h.o5.a02,h.o5.a03,h.o5.a12,h.o5.a13,h.o5.a23⟩,h.src.set h.b4 (by decide) (by decide) _ _,h.b2.chg hs h.ne,h.b4.set 4 _,h.chg.young hs (λx hx hl=>by have e':x=g4:=hx;have:=h.h4;omega),h.h2,h.h4,h.ne⟩
end
end Go.Proofs.Ytdpfdkihbgmapaa
