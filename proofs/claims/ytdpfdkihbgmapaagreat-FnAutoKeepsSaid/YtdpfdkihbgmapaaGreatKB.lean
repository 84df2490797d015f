import Derived.Test.YtdpfdkihbgmapaaGreatRoS
import Derived.Maps.AppendAt
import Derived.Test.YtdpfdkihbgmapaaGreatRoM
import Derived.Deep.RegionHeld3
namespace Go.Proofs.YtdpfdkihbgmapaaGreat
open Go.RowKit
set_option linter.unusedVariables false
set_option maxRecDepth 1000000
set_option maxHeartbeats 16000000
def agTo (a b:List Int)(k:Nat):Prop:=∀i,i<k->iat a i=iat b i
theorem agTo_zero (a b:List Int):agTo a b 0:=λi hi=>absurd hi (Nat.not_lt_zero _)
theorem agTo_succ {a b:List Int}{k:Nat}(h:agTo a b k)(hk:iat a k=iat b k):agTo a b (k+1):=by
 intro i hi
 rcases Nat.lt_succ_iff_lt_or_eq.1 hi with h1|rfl
 ·exact h i h1
 ·exact hk
theorem ag_all {a b:List Int}(h:agTo a b a.length)(hl:a.length=b.length):a=b:=by
 apply List.ext_getElem hl
 intro i h1 h2
 have:=h i h1
 rwa [iat_eq h1,iat_eq h2] at this
theorem l2Same_any (B B':Nat)(v v':Value)(xs ys:List Int)(w:World)(h0:HInts B w v xs)(h1:HInts B' w v' ys) :
  Calls Tryz.prog 37 #[v,v'] w λe w'=>e=.returned (.bool (decide (xs=ys)))/\Nx w w':=by
 obtain⟨a,cap,rfl,hn,hk⟩:=h0
 obtain⟨a',cap',rfl,hn',hk'⟩:=h1
 unfold maxLen at hn hn'
 generalize hz:xs.length=n at *
 have HZ:Hid (xs.length=n):=hz
 clear hz
 generalize hz:ys.length=n' at *
 have HZ':Hid (ys.length=n'):=hz
 clear hz
 by_cases hl:n=n'
 case neg=>
  have hd:((n:Int) !=(n':Int))=true:=by simp;omega
  have HF:Hid (false=decide (xs=ys)):=by
   unfold Hid
   symm
   rw[decide_eq_false_iff_not]
   intro e
   apply hl
   rw[<-HZ.out,<-HZ'.out,e]
  clear hl
  go_enter Tryz.func37,Tryz.ntmps37
  go_wp2
  go_ret
  exact⟨ret_bool HF.out,Nx.refl _⟩
 subst hl
 have hd:((n:Int) !=(n:Int))=false:=by simp
 go_enter Tryz.func37,Tryz.ntmps37
 go_wp2
 go_loopw [5] (λi wr=>∃k:Nat,k<=n/\i=.int .i64 k/\Hid (agTo xs ys k)/\Hid (Nx w wr)) (λi _=>n-(intOf i).toNat)
 case atStart=>exact⟨0,Nat.zero_le _,rfl,agTo_zero _ _,Nx.refl _⟩
 obtain⟨k,hkn,rfl,HA,HN⟩:=hrel
 by_cases hlt:k<n
 ·obtain⟨b,off,rfl,hB,hb,hc⟩:=hk (by omega)
  obtain⟨b',off',rfl,hB',hb',hc'⟩:=hk' (by omega)
  have c0:=cell_next HN.out hb (hc k hlt)
  have c1:=cell_next HN.out hb' (hc' k hlt)
  have hlt':(k:Int)<n:=by omega
  clear hc hk hc' hk'
  by_cases he:iat xs k=iat ys k
  ·have he':(iat xs k !=iat ys k)=false:=by simpa using he
   have HA':Hid (agTo xs ys (k+1)):=agTo_succ HA.out he
   clear he
   go_wp2
   go_quiet (fail)
   go_wp2
   go_roundw
   case rel=>exact⟨k+1,by omega,by go_num,HA',HN.out.trans ⟨rfl,rfl,rfl,Nat.le_refl _,λ_ _=>rfl⟩⟩
   case measure=>simp[intOf];omega
  ·have he':(iat xs k !=iat ys k)=true:=by simpa using he
   have HF:Hid (false=decide (xs=ys)):=by
    unfold Hid
    symm
    rw[decide_eq_false_iff_not]
    intro e
    exact he (by rw[e])
   clear he
   go_wp2
   go_quiet (fail)
   go_wp2
   go_ret
   exact⟨ret_bool HF.out,HN.out.trans ⟨rfl,rfl,rfl,Nat.le_refl _,λ_ _=>rfl⟩⟩
 have ek:n=k:=by omega
 subst ek
 have HF:Hid (true=decide (xs=ys)):=by
  unfold Hid
  symm
  rw[decide_eq_true_iff]
  exact ag_all (by rw[HZ.out];exact HA.out) (by rw[HZ.out,HZ'.out])
 clear HA hlt hkn hk hk'
 go_wp2
 go_ret
 exact⟨ret_bool HF.out,HN.out⟩
def tkI (zs:List Int)(k:Nat):List Int:=zs.take k
theorem tkI_succ {zs:List Int}{k:Nat}(h:k<zs.length):tkI zs (k+1)=tkI zs k++[iat zs k]:=by
 unfold tkI
 rw[List.take_succ_eq_append_getElem h,iat_eq h]
theorem tkI_len {zs:List Int}{k:Nat}(h:k<=zs.length):(tkI zs k).length=k:=by simp[tkI,h]
theorem tkI_all (zs:List Int):tkI zs zs.length=zs:=by simp[tkI]
theorem l2Plus_any (B B':Nat)(v v':Value)(xs ys:List Int)(w:World)(h0:HInts B w v xs)(h1:HInts B' w v' ys)(ha:xs.length<=1048576)(hb:ys.length<=1048576) :
  Calls Tryz.prog 44 #[v,v'] w λe w'=>(∃u,e=.returned u/\OwnI w.heap.size w' u (xs++ys))/\Nx w w':=by
 obtain⟨ii,hi,hz0,hz1,hz2⟩:=info_parts infoInt
 obtain⟨a,cap,rfl,hn,hk⟩:=h0
 obtain⟨a',cap',rfl,hn',hk'⟩:=h1
 unfold maxLen at hn hn'
 generalize hz:xs.length=n at *
 have HZ:Hid (xs.length=n):=hz
 clear hz
 generalize hz:ys.length=n' at *
 have HZ':Hid (ys.length=n'):=hz
 clear hz
 go_enter Tryz.func44,Tryz.ntmps44
 go_wp2
 go_loopw [5,6] (λu i wr=>∃k:Nat,k<=n/\i=.int .i64 k/\Hid (OwnI w.heap.size wr u (tkI xs k))/\Hid (Nx w wr)) (λ_ i _=>n-(intOf i).toNat)
 case atStart=>exact⟨0,Nat.zero_le _,rfl,ownI_none w.heap.size w (Nat.le_refl _),box1 _ _⟩
 obtain⟨k,hkn,rfl,HO,HN⟩:=hrel
 by_cases hlt:k<n
 ·obtain⟨b,off,rfl,hB,hb,hc⟩:=hk (by omega)
  have c0:=cell_next HN.out hb (hc k hlt)
  have hlt':(k:Int)<n:=by omega
  have HLK:Hid ((tkI xs k).length=k):=tkI_len (by rw[HZ.out];omega)
  have HES:Hid (tkI xs (k+1)=tkI xs k++[iat xs k]):=tkI_succ (by rw[HZ.out];exact hlt)
  obtain⟨av,cv,hvs⟩:=HO.out.slice
  rw[HLK.out] at hvs
  subst hvs
  have HZ3:Hid (w.heap.size<=wr.heap.size):=HN.out.size
  clear hc hk hk'
  generalize iat xs k=es at *
  go_wp2_with (at_builtin;refine wpList_append_own_at _ rfl _ _ 25 rfl w.heap.size 2 ii (.int .i64 0) 1 8 Tryz.underlying25 hi hz0 hz1 hz2 rfl (by decide) _ _ _ rfl (World.ownsRow.alloc HO.out _) ⟨wr.heap.size,0,none⟩ 1 1 [.int .i64 es] rfl rfl (λj u hj=>new_cells wr _ _ _ rfl j u hj) ?c2 ?c3 ?c4 ?c5 ?_)
  case c2=>intro u hu;simp at hu;subst hu;rfl
  case c3=>rw[HLK.out];unfold maxLen;omega
  case c4=>rw[HLK.out];omega
  case c5=>have:=HZ3.out;simp;omega
  intro v7 w7 hown hgrow _ _
  have HO7:Hid (OwnI w.heap.size w7 v7 (tkI xs (k+1))):=by unfold Hid;rw[HES.out];exact OwnI.snoc hown
  have HN7:Hid (Nx w w7):=Below.grown (HN.out.alloc _) hgrow (by have:=HZ3.out;simp;omega) (λg hg=>(own_lt HO.out g hg).1)
  clear hown hgrow HO HN c0
  go_wp2
  go_roundw
  case rel=>exact⟨k+1,by omega,by go_num,HO7,HN7⟩
  case measure=>simp[intOf];omega
 have ek:n=k:=by omega
 subst ek
 have HO1:Hid (OwnI w.heap.size wr u5 (xs++tkI ys 0)):=by
  have:=HO.out
  rw[show tkI xs n=xs by rw[<-HZ.out];exact tkI_all xs] at this
  unfold Hid
  rw[show tkI ys 0=[] from rfl,List.append_nil]
  exact this
 clear HO hlt hkn hk
 go_wp2
 go_loopw [5,7] (λu i wr=>∃k:Nat,k<=n'/\i=.int .i64 k/\Hid (OwnI w.heap.size wr u (xs++tkI ys k))/\Hid (Nx w wr)) (λ_ i _=>n'-(intOf i).toNat)
 case atStart=>exact⟨0,Nat.zero_le _,rfl,HO1,HN⟩
 clear HO1 HN
 obtain⟨k,hkn,rfl,HO,HN⟩:=hrel
 by_cases hlt:k<n'
 ·obtain⟨b,off,rfl,hB,hb,hc⟩:=hk' (by omega)
  have c0:=cell_next HN.out hb (hc k hlt)
  have hlt':(k:Int)<n':=by omega
  have HLK:Hid ((xs++tkI ys k).length=n+k):=by unfold Hid;rw[List.length_append,HZ.out,tkI_len (by rw[HZ'.out];omega)]
  have HES:Hid (xs++tkI ys (k+1)=(xs++tkI ys k)++[iat ys k]):=by unfold Hid;rw[tkI_succ (by rw[HZ'.out];exact hlt),List.append_assoc]
  obtain⟨av,cv,hvs⟩:=HO.out.slice
  rw[HLK.out] at hvs
  subst hvs
  have HZ3:Hid (w.heap.size<=wr.heap.size):=HN.out.size
  clear hc hk'
  generalize iat ys k=es at *
  go_wp2_with (at_builtin;refine wpList_append_own_at _ rfl _ _ 25 rfl w.heap.size 2 ii (.int .i64 0) 1 8 Tryz.underlying25 hi hz0 hz1 hz2 rfl (by decide) _ _ _ rfl (World.ownsRow.alloc HO.out _) ⟨wr.heap.size,0,none⟩ 1 1 [.int .i64 es] rfl rfl (λj u hj=>new_cells wr _ _ _ rfl j u hj) ?c2 ?c3 ?c4 ?c5 ?_)
  case c2=>intro u hu;simp at hu;subst hu;rfl
  case c3=>rw[HLK.out];unfold maxLen;omega
  case c4=>rw[HLK.out];omega
  case c5=>have:=HZ3.out;simp;omega
  intro v7 w7 hown hgrow _ _
  have HO7:Hid (OwnI w.heap.size w7 v7 (xs++tkI ys (k+1))):=by unfold Hid;rw[HES.out];exact OwnI.snoc (by rw[List.length_append];exact hown)
  have HN7:Hid (Nx w w7):=Below.grown (HN.out.alloc _) hgrow (by have:=HZ3.out;simp;omega) (λg hg=>(own_lt HO.out g hg).1)
  clear hown hgrow HO HN c0
  go_wp2
  go_roundw
  case rel=>exact⟨k+1,by omega,by go_num,HO7,HN7⟩
  case measure=>simp[intOf];omega
 have ek:n'=k:=by omega
 subst ek
 have HF:Hid (OwnI w.heap.size wr u5 (xs++ys)):=by
  have:=HO.out
  rw[show tkI ys n'=ys by rw[<-HZ'.out];exact tkI_all ys] at this
  exact this
 clear HO hlt hkn hk'
 go_wp2
 go_ret
 exact⟨⟨_,rfl,HF.out⟩,HN.out⟩
def CapOk (v:Value):Prop:=∃a n c,v=.slice a n c/\n<=c
theorem OwnI.capOk {B:Nat}{w:World}{v:Value}{zs:List Int}(h:OwnI B w v zs):CapOk v:=by
 rcases h.2 with⟨rfl,_⟩|⟨g,cap,cur,rfl,_,_,hc,_⟩
 ·exact⟨_,_,_,rfl,Nat.le_refl _⟩
 ·exact⟨_,_,_,rfl,hc⟩
def wd (ws:List (List Int))(i:Nat):List Int:=ws.getD i []
def HWords (B:Nat)(w:World)(v:Value)(ws:List (List Int)):Prop:=
 HSlice B w v ws.length λb off i=>∃vi,w.cell? ⟨b,off+i,none⟩=some vi/\HInts B w vi (wd ws i)/\CapOk vi
theorem HWords.keep {B:Nat}{w w':World}{v:Value}{ws:List (List Int)}(h:HWords B w v ws)(k:Keeps B w w'):HWords B w' v ws:=
 HSlice.mono h (Nat.le_refl _) k.1 λb off hb hs i hi hc=>by
  obtain⟨vi,h1,h2,h3⟩:=hc
  exact⟨vi,(k.2 b hb hs _).trans h1,h2.keep k,h3⟩
theorem HWords.next {B:Nat}{w w':World}{v:Value}{ws:List (List Int)}(h:HWords B w v ws)(k:Nx w w'):HWords B w' v ws:=h.keep (k.keeps B)
theorem wd_snoc {ws:List (List Int)}{x:List Int}{i:Nat}(h:i<ws.length):wd (ws++[x]) i=wd ws i:=by
 simp[wd,List.getD,List.getElem?_append_left h]
theorem wd_end {ws:List (List Int)}{x:List Int}{i:Nat}(h:i=ws.length):wd (ws++[x]) i=x:=by
 subst h
 simp[wd,List.getD]
theorem infoWord:(Tryz.prog.info? 51).map (λi=>(i.zero,i.size,i.bytes))=some (some (.agg #[.slice none 0 0]),1,24):=by kernel_rfl
def vat (cs:List Value)(i:Nat):Value:=cs.getD i (.bool false)
def OwnW (C:Nat)(w:World)(v:Value)(ws:List (List Int)):Prop:=
 ∃cs:List Value,w.ownsRow C 51 1 v ws.length cs/\∀i,i<ws.length->OwnI C w (vat cs i) (wd ws i)
theorem own_ne {w:World}{B B' e e' size size' n n':Nat}{v v':Value}{xs xs':List Value}(h:w.ownsRow B e size v n xs)(h':w.ownsRow B' e' size' v' n' xs')(hne:e≠e'):v.ownBlock=none\/v.ownBlock≠v'.ownBlock:=by
 rcases h.2 with⟨rfl,_⟩|⟨g,cap,cur,rfl,_,hh,_⟩
 ·exact Or.inl rfl
 ·rcases h'.2 with⟨rfl,_⟩|⟨g',cap',cur',rfl,_,hh',_⟩
  ·exact Or.inr (by simp[Value.ownBlock])
  ·refine Or.inr λe1=>?_
   simp[Value.ownBlock] at e1
   subst e1
   rw[hh] at hh'
   simp at hh'
   exact hne hh'.2
theorem OwnW.next {C:Nat}{w w':World}{v:Value}{ws:List (List Int)}(h:OwnW C w v ws)(k:Nx w w'):OwnW C w' v ws:=by
 obtain⟨cs,h1,h2⟩:=h
 refine⟨cs,?_,λi hi=>(h2 i hi).next k⟩
 obtain⟨h3,h4⟩:=h1
 refine⟨h3,?_⟩
 rcases h4 with h4|⟨g,cap,cur,hv,hg,hh,r⟩
 ·exact Or.inl h4
 ·exact Or.inr ⟨g,cap,cur,hv,hg,(k.block g (Array.getElem?_eq_some_iff.1 hh).1).trans hh,r⟩
theorem OwnW.slice {C:Nat}{w:World}{v:Value}{ws:List (List Int)}(h:OwnW C w v ws):∃a c,v=.slice a ws.length c:=by
 obtain⟨cs,h1,_⟩:=h
 rcases h1.2 with⟨rfl,h2⟩|⟨g,cap,cur,rfl,_⟩
 ·exact⟨none,0,by rw[h2]⟩
 ·exact⟨_,_,rfl⟩
theorem OwnW.held {C:Nat}{w:World}{v:Value}{ws:List (List Int)}(h:OwnW C w v ws):HWords C w v ws:=by
 obtain⟨cs,h1,h2⟩:=h
 obtain⟨h3,h4⟩:=h1
 rw[Nat.mul_one] at h3
 rcases h4 with⟨rfl,h4⟩|⟨g,cap,cur,rfl,hg,hh,hc,hm,hs,ht⟩
 ·unfold HWords
  rw[h4]
  exact⟨_,_,rfl,by simp[maxLen],λh=>by omega⟩
 ·refine⟨_,_,rfl,by omega,λh0=>⟨g,0,rfl,hg,(Array.getElem?_eq_some_iff.1 hh).1,λi hi=>⟨vat cs i,?_,(h2 i hi).held,(h2 i hi).capOk⟩⟩⟩
  have e:(cur.toList.take (ws.length*1))[i]?=cs[i]?:=by rw[ht]
  rw[List.getElem?_take_of_lt (by omega),Array.getElem?_toList] at e
  show w.cell? ⟨g,0+i,none⟩=_
  rw[Nat.zero_add]
  simp[World.cell?,hh,e,vat,List.getD,show i<cs.length by omega]
theorem OwnW.lt {C:Nat}{w:World}{v:Value}{ws:List (List Int)}(h:OwnW C w v ws):∀g,v.ownBlock=some g->C<=g:=by
 obtain⟨cs,h1,_⟩:=h
 exact λg hg=>(own_lt h1 g hg).1
theorem ownW_none (B:Nat)(w:World)(h:B<=w.heap.size):OwnW B (w.alloc (.cells #[] 51)) (.slice (some ⟨w.heap.size,0,none⟩) 0 0) []:=
 ⟨[],⟨rfl,.inr ⟨w.heap.size,0,#[],rfl,h,by show(w.heap.push _)[w.heap.size]?=_;simp,Nat.le_refl _,by simp[maxLen],by simp,by simp⟩⟩,λi hi=>absurd hi (Nat.not_lt_zero _)⟩
theorem OwnW.snoc {C:Nat}{w w':World}{v v' u:Value}{ws:List (List Int)}{x:List Int}{cs:List Value}(h1:w.ownsRow C 51 1 v ws.length cs)(h2:∀i,i<ws.length->OwnI C w (vat cs i) (wd ws i))
  (hu:OwnI C w u x) (ho:Obj) (hg:(w.alloc ho).grownBy w' v.ownBlock) (hn:w'.ownsRow C 51 1 v' (ws.length+1) (cs++[u])):OwnW C w' v' (ws++[x]):=by
 have hl:cs.length=ws.length:=by have:=h1.1;omega
 have hne:(2:Nat)≠3:=by decide
 have kept:∀{z:Value}{zs:List Int},OwnI C w z zs->OwnI C w' z zs:=λ{z zs} hz=>World.ownsRow.kept (World.ownsRow.alloc hz ho) hg (own_ne hz h1 (by decide))
 refine⟨cs++[u],by rw[List.length_append];exact hn,λi hi=>?_⟩
 rw[List.length_append,List.length_singleton] at hi
 by_cases e:i<ws.length
 ·rw[wd_snoc e]
  have:vat (cs++[u]) i=vat cs i:=by simp[vat,List.getD,List.getElem?_append_left (show i<cs.length by omega)]
  rw[this]
  exact kept (h2 i e)
 ·have e':i=ws.length:=by omega
  rw[wd_end e']
  have:vat (cs++[u]) i=u:=by rw[e',<-hl];simp[vat,List.getD]
  rw[this]
  exact kept hu
theorem cellq {w w':World}(k:Nx w w'){b o:Nat}{v:Value}(h:w.cell? ⟨b,o,none⟩=some v):w'.cell? ⟨b,o,none⟩=some v:=cell_next k (cell_lt h) h
def wayIs (es:List Eg)(i:Int)(e:Nat):Bool:=decide ((eat es e).way=i)
def ofTo (es:List Eg)(i:Int)(k:Nat):List Nat:=(List.range k).filter (wayIs es i)
theorem ofTo_yes {es:List Eg}{i:Int}{k:Nat}(h:(eat es k).way=i):ofTo es i (k+1)=ofTo es i k++[k]:=by
 unfold ofTo
 rw[List.range_succ,List.filter_append]
 simp[wayIs,h]
theorem ofTo_no {es:List Eg}{i:Int}{k:Nat}(h:(eat es k).way≠i):ofTo es i (k+1)=ofTo es i k:=by
 unfold ofTo
 rw[List.range_succ,List.filter_append]
 simp[wayIs,h]
theorem ofTo_len (es:List Eg)(i:Int)(k:Nat):(ofTo es i k).length<=k:=by
 unfold ofTo
 have:=List.length_filter_le (wayIs es i) (List.range k)
 simpa using this
def nums (l:List Nat):List Int:=l.map λe:Nat=>(e:Int)
def ones (l:List Nat):List (List Int):=l.map λe:Nat=>[(e:Int)]
theorem ones_snoc (l:List Nat)(k:Nat):ones (l++[k])=ones l++[[(k:Int)]]:=by simp[ones]
theorem ones_len (l:List Nat):(ones l).length=l.length:=by simp[ones]
theorem ownI_one (B:Nat)(w:World)(z:Int)(h:B<=w.heap.size):OwnI B (w.alloc (.cells #[.int .i64 z] 2)) (.slice (some ⟨w.heap.size,0,none⟩) 1 1) [z]:=
 ⟨rfl,.inr ⟨w.heap.size,1,#[.int .i64 z],rfl,h,by show(w.heap.push _)[w.heap.size]?=_;simp,Nat.le_refl _,by simp[maxLen],by simp,by simp[icells]⟩⟩
theorem OwnW.alloc {C:Nat}{w:World}{v:Value}{ws:List (List Int)}(h:OwnW C w v ws)(o:Obj):OwnW C (w.alloc o) v ws:=h.next (box1 _ _)
theorem OwnW.base {B B':Nat}{w:World}{v:Value}{ws:List (List Int)}(h:OwnW B w v ws)(hB:B'<=B):OwnW B' w v ws:=by
 obtain⟨cs,h1,h2⟩:=h
 refine⟨cs,?_,λi hi=>(h2 i hi).base hB⟩
 obtain⟨h3,h4⟩:=h1
 refine⟨h3,?_⟩
 rcases h4 with h4|⟨g,cap,cur,hv,hg,r⟩
 ·exact Or.inl h4
 ·exact Or.inr ⟨g,cap,cur,hv,by omega,r⟩
theorem l2Of_any (B:Nat)(v0 v1 v2 v3:Value)(R:Rd)(wi:Int)(w:World)(h0:HRoad B w v0 v1 v2 v3 R)(hm:R.edges.length<=4000) :
  Calls Tryz.prog 85 #[.agg #[v0,v1,v2,v3],.int .i64 wi] w λe w'=>(∃u,e=.returned u/\OwnW w.heap.size w' u (ones (ofTo R.edges wi R.edges.length)))/\Nx w w':=by
 obtain⟨ii,hi,hz0,hz1,hz2⟩:=info_parts infoWord
 obtain⟨a,cap,rfl,hml,hk⟩:=h0.2.1
 clear h0
 generalize hes:R.edges=es at *
 clear hes
 generalize hz:es.length=m at *
 have HZ:Hid (es.length=m):=hz
 clear hz hml
 have HB0:Hid (Blk (w.alloc (.cells #[v0,.slice a m cap,v2,v3] 106)) w.heap.size #[v0,.slice a m cap,v2,v3]):=Blk.new w _ _ _ rfl
 have HX0:Hid (Nx w (w.alloc (.cells #[v0,.slice a m cap,v2,v3] 106))):=box1 _ _
 have HS0:Hid ((w.alloc (.cells #[v0,.slice a m cap,v2,v3] 106)).heap.size=w.heap.size+1):=size_alloc' _ _
 go_enter Tryz.func85,Tryz.ntmps85
 go_upto_region 1 with fail
 generalize w.alloc (.cells #[v0,.slice a m cap,v2,v3] 106)=w1 at *
 go_wp2
 go_loopw [5,6] (λu i wr=>∃k:Nat,k<=m/\i=.int .i64 k/\Hid (OwnW w1.heap.size wr u (ones (ofTo es wi k)))/\Hid (Nx w1 wr)) (λ_ i _=>m-(intOf i).toNat)
 case atStart=>exact⟨0,Nat.zero_le _,rfl,ownW_none w1.heap.size w1 (Nat.le_refl _),box1 _ _⟩
 obtain⟨k,hkm,rfl,HO,HN⟩:=hrel
 have BW:=HB0.out.next HN.out
 have k1:=BW.cell (i:=1) rfl
 by_cases hlt:k<m
 ·obtain⟨b,off,rfl,hB,hb,hc⟩:=hk (by omega)
  obtain⟨d0,d1,d2,d3,d4,d5,d6⟩:=hc k hlt
  have d3:=cell_next (HX0.out.trans HN.out) hb d3
  have hlt':(k:Int)<m:=by omega
  clear d0 d1 d2 d4 d5 d6 hc hk
  by_cases hw:(eat es k).way=wi
  ·have g1:((eat es k).way==wi)=true:=by simpa using hw
   have HES:Hid (ones (ofTo es wi (k+1))=ones (ofTo es wi k)++[[(k:Int)]]):=by unfold Hid;rw[ofTo_yes hw,ones_snoc]
   have HL:Hid ((ones (ofTo es wi k)).length<=4000):=by unfold Hid;rw[ones_len];have:=ofTo_len es wi k;omega
   generalize ones (ofTo es wi k)=ws at *
   generalize (eat es k).way=wy at *
   have HO2:=HO.out.next (box1 wr (.cells #[.int .i64 (k:Int)] 2))
   obtain⟨cs,hrow,hwords⟩:=HO2
   have HROW:Hid ((wr.alloc (.cells #[.int .i64 (k:Int)] 2)).ownsRow w1.heap.size 51 1 u5 ws.length cs):=hrow
   have HWD:Hid (∀i,i<ws.length->OwnI w1.heap.size (wr.alloc (.cells #[.int .i64 (k:Int)] 2)) (vat cs i) (wd ws i)):=hwords
   have HZ3:Hid (w1.heap.size<=wr.heap.size):=HN.out.size
   have HU:Hid (OwnI w1.heap.size (wr.alloc (.cells #[.int .i64 (k:Int)] 2)) (.slice (some ⟨wr.heap.size,0,none⟩) 1 1) [(k:Int)]):=ownI_one _ _ _ HZ3.out
   have HX2:Hid (Nx w1 (wr.alloc (.cells #[.int .i64 (k:Int)] 2))):=HN.out.trans (box1 _ _)
   have HS2:Hid ((wr.alloc (.cells #[.int .i64 (k:Int)] 2)).heap.size=wr.heap.size+1):=size_alloc' _ _
   obtain⟨av,cv,hvs⟩:=HO.out.slice
   subst hvs
   generalize hwl:ws.length=wl at *
   have HWL:Hid (ws.length=wl):=hwl
   have hwl4:wl<=4000:=HL.out
   clear hrow hwords hw hwl
   go_wp2_with (at_builtin;refine wpList_append_own_at _ rfl _ _ 48 rfl w1.heap.size 51 ii (.agg #[.slice none 0 0]) 1 24 Tryz.underlying48 hi hz0 hz1 hz2 rfl (by decide) _ _ _ rfl (World.ownsRow.alloc HROW.out _) ⟨wr.heap.size+1,0,none⟩ 1 1 [.slice (some ⟨wr.heap.size,0,none⟩) 1 1] rfl rfl ?c1 ?c2 ?c3 ?c4 ?c5 ?_)
   case c1=>intro j u hj;rw[<-HS2.out];exact new_cells _ _ _ _ rfl j u hj
   case c2=>intro u hu;simp at hu;subst hu;rfl
   case c3=>unfold maxLen;omega
   case c4=>omega
   case c5=>rw[size_alloc'];have:=HX2.out.size;omega
   intro v7 w7 hown hgrow _ _
   have HO7:Hid (OwnW w1.heap.size w7 v7 (ones (ofTo es wi (k+1)))):=by unfold Hid;rw[HES.out];exact OwnW.snoc (by rw[HWL.out];exact HROW.out) (λi hi=>HWD.out i (by rw[<-HWL.out];exact hi)) HU.out _ hgrow (by rw[HWL.out];exact hown)
   have HN7:Hid (Nx w1 w7):=Below.grown (HX2.out.alloc _) hgrow (by rw[size_alloc'];have:=HX2.out.size;omega) (λg hg=>(own_lt HROW.out g hg).1)
   clear hown hgrow HO HN k1 d3 BW
   go_wp2
   go_roundw
   case rel=>exact⟨k+1,by omega,by go_num,HO7,HN7⟩
   case measure=>simp[intOf];omega
  ·have g1:((eat es k).way==wi)=false:=by simpa using hw
   have HES:Hid (ofTo es wi (k+1)=ofTo es wi k):=ofTo_no hw
   generalize (eat es k).way=wy at *
   clear hw
   go_wp2
   go_roundw
   case rel=>exact⟨k+1,by omega,by go_num,by unfold Hid;rw[HES.out];exact HO.out,HN⟩
   case measure=>simp[intOf];omega
 have ek:m=k:=by omega
 subst ek
 have HF:Hid (OwnW w1.heap.size wr u5 (ones (ofTo es wi m))):=HO.out
 clear HO hlt hkm hk
 go_wp2
 go_ret
 refine⟨⟨_,rfl,?_⟩,HX0.out.trans HN.out⟩
 exact HF.out.base HX0.out.size
def thTo (es:List Eg)(i:Int)(k:Nat):List Nat:=(List.range k).filter λe=>wayIs es i e&&!(eat es e).back
def bkTo (es:List Eg)(i:Int)(k:Nat):List Nat:=((List.range k).filter λe=>wayIs es i e&&(eat es e).back).reverse
theorem thTo_yes {es:List Eg}{i:Int}{k:Nat}(h:(eat es k).way=i)(hb:(eat es k).back=false):thTo es i (k+1)=thTo es i k++[k]:=by
 unfold thTo;rw[List.range_succ,List.filter_append];simp[wayIs,h,hb]
theorem thTo_back {es:List Eg}{i:Int}{k:Nat}(hb:(eat es k).back=true):thTo es i (k+1)=thTo es i k:=by
 unfold thTo;rw[List.range_succ,List.filter_append];simp[hb]
theorem thTo_no {es:List Eg}{i:Int}{k:Nat}(h:(eat es k).way≠i):thTo es i (k+1)=thTo es i k:=by
 unfold thTo;rw[List.range_succ,List.filter_append];simp[wayIs,h]
theorem bkTo_yes {es:List Eg}{i:Int}{k:Nat}(h:(eat es k).way=i)(hb:(eat es k).back=true):bkTo es i (k+1)=k::bkTo es i k:=by
 unfold bkTo;rw[List.range_succ,List.filter_append];simp[wayIs,h,hb]
theorem bkTo_there {es:List Eg}{i:Int}{k:Nat}(hb:(eat es k).back=false):bkTo es i (k+1)=bkTo es i k:=by
 unfold bkTo;rw[List.range_succ,List.filter_append];simp[hb]
theorem bkTo_no {es:List Eg}{i:Int}{k:Nat}(h:(eat es k).way≠i):bkTo es i (k+1)=bkTo es i k:=by
 unfold bkTo;rw[List.range_succ,List.filter_append];simp[wayIs,h]
theorem thTo_len (es:List Eg)(i:Int)(k:Nat):(nums (thTo es i k)).length<=k:=by
 unfold thTo nums
 have:=List.length_filter_le (λe=>wayIs es i e&&!(eat es e).back) (List.range k)
 simpa using this
theorem bkTo_len (es:List Eg)(i:Int)(k:Nat):(nums (bkTo es i k)).length<=k:=by
 unfold bkTo nums
 have:=List.length_filter_le (λe=>wayIs es i e&&(eat es e).back) (List.range k)
 simpa using this
def travs (N:Nt)(es:List Eg)(i:Nat):List (List Nat):=[thTo es i es.length]++(if (wat N.ways i).both then [bkTo es i es.length] else [])
theorem nums_snoc (l:List Nat)(k:Nat):nums (l++[k])=nums l++[(k:Int)]:=by simp[nums]
theorem ownI_nil (B:Nat)(w:World)(h:B<=w.heap.size):OwnI B (w.alloc (.cells #[] 2)) (.slice (some ⟨w.heap.size,0,none⟩) 0 0) (nums []):=ownI_none B w h
theorem ownW_one {B:Nat}{w:World}{u:Value}{x:List Int}(hB:B<=w.heap.size)(h:OwnI B w u x):OwnW B (w.alloc (.cells #[u] 51)) (.slice (some ⟨w.heap.size,0,none⟩) 1 1) [x]:=
 ⟨[u],⟨rfl,.inr ⟨w.heap.size,1,#[u],rfl,hB,by show(w.heap.push _)[w.heap.size]?=_;simp,Nat.le_refl _,by simp[maxLen],by simp,by simp⟩⟩,λi hi=>by
  have:i=0:=by simpa using hi
  subst this
  exact h.next (box1 _ _)⟩
theorem l2Traversals_any (B0 B:Nat)(n0 n1 n2 n3:Value)(N:Nt)(v0 v1 v2 v3:Value)(R:Rd)(wi:Nat)(w:World)(hN:HNet B0 w n0 n1 n2 n3 N)(h0:HRoad B w v0 v1 v2 v3 R)(hm:R.edges.length<=4000)(hwi:wi<N.ways.length) :
  Calls Tryz.prog 80 #[.agg #[n0,n1,n2,n3,.int .i64 N.uturn],.agg #[v0,v1,v2,v3],.int .i64 (wi:Int)] w λe w'=>(∃u,e=.returned u/\OwnW w.heap.size w' u ((travs N R.edges wi).map nums))/\Nx w w':=by
 obtain⟨ii,hi,hz0,hz1,hz2⟩:=info_parts infoWord
 obtain⟨a,cap,rfl,hml,hk⟩:=h0.2.1
 obtain⟨aw,capw,rfl,hmw,hkw⟩:=hN.2.1
 unfold maxLen at hmw
 have HTR:Hid ((travs N R.edges wi).map nums=[nums (thTo R.edges wi R.edges.length)]++(if (wat N.ways wi).both then [nums (bkTo R.edges wi R.edges.length)] else [])):=by
  unfold Hid travs
  rw[List.map_append]
  congr 1
  split<;>rfl
 obtain⟨bw,ow,haw,hBw,hbw,hcw⟩:=hkw (by omega)
 obtain⟨vn,vw,wd0,wd1,wd2,wd3,wd4⟩:=hcw wi hwi
 have HW1:Hid (w.cell? ⟨bw,ow+wi*4+1,none⟩=some (.bool (wat N.ways wi).both)):=wd1
 have HBW:Hid (bw<w.heap.size):=hbw
 subst haw
 clear h0 hN hkw hcw wd4 wd0 wd1 wd2 wd3 vn vw
 generalize hes:R.edges=es at *
 clear hes
 generalize hz:es.length=m at *
 have HZ:Hid (es.length=m):=hz
 clear hz hml
 generalize hzw:N.ways.length=nw at *
 clear hzw
 generalize (wat N.ways wi).both=both at *
 generalize hW1:(w.alloc (.cells #[n0,.slice (some ⟨bw,ow,none⟩) nw capw,n2,n3,.int .i64 N.uturn] 86)).alloc (.cells #[v0,.slice a m cap,v2,v3] 106)=w1
 have HB0:Hid (Blk w1 (w.heap.size+1) #[v0,.slice a m cap,v2,v3]):=by unfold Hid;rw[<-hW1];exact Blk.new _ _ _ _ (by rw[size_alloc'])
 have HBN:Hid (Blk w1 w.heap.size #[n0,.slice (some ⟨bw,ow,none⟩) nw capw,n2,n3,.int .i64 N.uturn]):=by unfold Hid;rw[<-hW1];exact(Blk.new w _ _ _ rfl).alloc _
 have HX0:Hid (Nx w w1):=by unfold Hid;rw[<-hW1];exact box2 _ _ _
 go_enter Tryz.func80,Tryz.ntmps80
 go_upto_region 1 with fail
 clear hW1
 go_wp2
 go_loopw [7,8,9] (λut ub i wr=>∃k:Nat,k<=m/\i=.int .i64 k/\Hid (OwnI w1.heap.size wr ut (nums (thTo es wi k)))/\Hid (OwnI w1.heap.size wr ub (nums (bkTo es wi k)))/\Hid (Nx w1 wr)) (λ_ _ i _=>m-(intOf i).toNat)
 case atStart=>exact⟨0,Nat.zero_le _,rfl,OwnI.next (ownI_nil w1.heap.size w1 (Nat.le_refl _)) (box1 _ _),by have:=ownI_nil w1.heap.size (w1.alloc (.cells #[] 2)) (by rw[size_alloc'];omega);rw[size_alloc'] at this;exact this,box2 _ _ _⟩
 obtain⟨k,hkm,rfl,HT,HK,HN⟩:=hrel
 have BW:=HB0.out.next HN.out
 have k1:=BW.cell (i:=1) rfl
 by_cases hlt:k<m
 ·obtain⟨b,off,rfl,hB,hb,hc⟩:=hk (by omega)
  obtain⟨d0,d1,d2,d3,d4,d5,d6⟩:=hc k hlt
  have d3:=cell_next (HX0.out.trans HN.out) hb d3
  have d5:=cell_next (HX0.out.trans HN.out) hb d5
  have hlt':(k:Int)<m:=by omega
  clear d0 d1 d2 d4 d6 hc hk
  have HLT:Hid ((nums (thTo es wi k)).length<=4000):=by unfold Hid;have:=thTo_len es wi k;omega
  have HLB:Hid ((nums (bkTo es wi k)).length<=4000):=by unfold Hid;have:=bkTo_len es wi k;omega
  by_cases hw:(eat es k).way=wi
  ·have g1:((eat es k).way==(wi:Int))=true:=by simpa using hw
   have HU:Hid (OwnI w1.heap.size (wr.alloc (.cells #[.int .i64 (k:Int)] 2)) (.slice (some ⟨wr.heap.size,0,none⟩) 1 1) [(k:Int)]):=ownI_one _ _ _ HN.out.size
   have HX2:Hid (Nx wr (wr.alloc (.cells #[.int .i64 (k:Int)] 2))):=box1 _ _
   cases hbk:(eat es k).back
   ·have HE1:Hid (nums (thTo es wi (k+1))=nums (thTo es wi k)++[(k:Int)]):=by unfold Hid;rw[thTo_yes hw hbk,nums_snoc]
    have HE2:Hid (bkTo es wi (k+1)=bkTo es wi k):=bkTo_there hbk
    rw[hbk] at d5
    generalize (eat es k).way=wy at *
    clear hw hbk
    go_wp2_with fail
    refine(l2Plus_any w1.heap.size w1.heap.size _ _ (nums (thTo es wi k)) [(k:Int)] _ (by exact(HT.out.next HX2.out).held) (by exact HU.out.held) (by have:=HLT.out;omega) (by simp)).mono ?_
    rintro e w4 ⟨⟨u,rfl,hO⟩,hx⟩
    have HN4:Hid (Nx w1 w4):=(HN.out.trans HX2.out).trans hx
    have HT4:Hid (OwnI w1.heap.size w4 u (nums (thTo es wi (k+1)))):=by unfold Hid;rw[HE1.out];exact hO.base (HN.out.trans HX2.out).size
    have HK4:Hid (OwnI w1.heap.size w4 u8 (nums (bkTo es wi (k+1)))):=by unfold Hid;rw[HE2.out];exact(HK.out.next HX2.out).next hx
    clear hO hx k1 d3 d5 BW HT HK HN
    go_wp2
    go_roundw
    case rel=>exact⟨k+1,by omega,by go_num,HT4,HK4,HN4⟩
    case measure=>simp[intOf];omega
   ·have HE1:Hid (thTo es wi (k+1)=thTo es wi k):=thTo_back hbk
    have HE2:Hid (nums (bkTo es wi (k+1))=[(k:Int)]++nums (bkTo es wi k)):=by unfold Hid;rw[bkTo_yes hw hbk];rfl
    rw[hbk] at d5
    generalize (eat es k).way=wy at *
    clear hw hbk
    go_wp2_with fail
    refine(l2Plus_any w1.heap.size w1.heap.size _ _ [(k:Int)] (nums (bkTo es wi k)) _ (by exact HU.out.held) (by exact(HK.out.next HX2.out).held) (by simp) (by have:=HLB.out;omega)).mono ?_
    rintro e w4 ⟨⟨u,rfl,hO⟩,hx⟩
    have HN4:Hid (Nx w1 w4):=(HN.out.trans HX2.out).trans hx
    have HK4:Hid (OwnI w1.heap.size w4 u (nums (bkTo es wi (k+1)))):=by unfold Hid;rw[HE2.out];exact hO.base (HN.out.trans HX2.out).size
    have HT4:Hid (OwnI w1.heap.size w4 u7 (nums (thTo es wi (k+1)))):=by unfold Hid;rw[HE1.out];exact(HT.out.next HX2.out).next hx
    clear hO hx k1 d3 d5 BW HT HK HN
    go_wp2
    go_roundw
    case rel=>exact⟨k+1,by omega,by go_num,HT4,HK4,HN4⟩
    case measure=>simp[intOf];omega
  ·have g1:((eat es k).way==(wi:Int))=false:=by simpa using hw
   have HE1:Hid (thTo es wi (k+1)=thTo es wi k):=thTo_no hw
   have HE2:Hid (bkTo es wi (k+1)=bkTo es wi k):=bkTo_no hw
   generalize (eat es k).way=wy at *
   clear hw
   go_wp2
   go_roundw
   case rel=>exact⟨k+1,by omega,by go_num,by unfold Hid;rw[HE1.out];exact HT.out,by unfold Hid;rw[HE2.out];exact HK.out,HN⟩
   case measure=>simp[intOf];omega
 have ek:m=k:=by omega
 subst ek
 obtain⟨a7,c7,e7⟩:=HT.out.slice
 obtain⟨a8,c8,e8⟩:=HK.out.slice
 generalize (nums (thTo es wi m)).length=n7 at e7
 generalize (nums (bkTo es wi m)).length=n8 at e8
 subst e7 e8
 have c1:=(HBN.out.next HN.out).cell (i:=1) rfl
 have c2:=cell_next (HX0.out.trans HN.out) HBW.out HW1.out
 have hwi':(wi:Int)<nw:=by omega
 have HO1:Hid (OwnW w1.heap.size (wr.alloc (.cells #[(.slice a7 n7 c7)] 51)) (.slice (some ⟨wr.heap.size,0,none⟩) 1 1) [nums (thTo es wi m)]):=ownW_one HN.out.size HT.out
 have HX1:Hid (Nx w1 (wr.alloc (.cells #[(.slice a7 n7 c7)] 51))):=HN.out.trans (box1 _ _)
 have HK1:Hid (OwnI w1.heap.size (wr.alloc (.cells #[(.slice a7 n7 c7)] 51)) (.slice a8 n8 c8) (nums (bkTo es wi m))):=HK.out.next (box1 _ _)
 have HS1:Hid ((wr.alloc (.cells #[(.slice a7 n7 c7)] 51)).heap.size=wr.heap.size+1):=size_alloc' _ _
 have c1a:=cellq (box1 wr (.cells #[(.slice a7 n7 c7)] 51)) c1
 have c2a:=cellq (box1 wr (.cells #[(.slice a7 n7 c7)] 51)) c2
 clear hlt hkm hk BW HT HK
 cases both
 ·have HF:Hid ((travs N es wi).map nums=[nums (thTo es wi m)]):=by unfold Hid;rw[HTR.out];simp
  go_wp2
  go_ret
  refine⟨⟨_,rfl,?_⟩,HX0.out.trans HX1.out⟩
  rw[HF.out]
  exact HO1.out.base HX0.out.size
 ·have HF:Hid ((travs N es wi).map nums=[nums (thTo es wi m)]++[nums (bkTo es wi m)]):=by unfold Hid;rw[HTR.out];simp
  obtain⟨cs,hrow,hwords⟩:=HO1.out
  have HROW:Hid ((wr.alloc (.cells #[(.slice a7 n7 c7)] 51)).ownsRow w1.heap.size 51 1 (.slice (some ⟨wr.heap.size,0,none⟩) 1 1) 1 cs):=hrow
  have HWD:Hid (∀i,i<1->OwnI w1.heap.size (wr.alloc (.cells #[(.slice a7 n7 c7)] 51)) (vat cs i) (wd [nums (thTo es wi m)] i)):=hwords
  clear hrow hwords
  go_wp2_with (at_builtin;refine wpList_append_own_at _ rfl _ _ 48 rfl w1.heap.size 51 ii (.agg #[.slice none 0 0]) 1 24 Tryz.underlying48 hi hz0 hz1 hz2 rfl (by decide) _ _ _ rfl (World.ownsRow.alloc HROW.out _) ⟨wr.heap.size+1,0,none⟩ 1 1 [.slice a8 n8 c8] rfl rfl ?e1 ?e2 ?e3 ?e4 ?e5 ?_)
  case e2=>rfl
  case e3=>unfold maxLen;omega
  case e5=>have:=HX1.out.size;have:=HS1.out;omega
  intro v7 w7 hown hgrow _ _
  have HO7:Hid (OwnW w1.heap.size w7 v7 ([nums (thTo es wi m)]++[nums (bkTo es wi m)])):=OwnW.snoc (ws:=[nums (thTo es wi m)]) HROW.out (λi hi=>HWD.out i (by simpa using hi)) HK1.out _ hgrow hown
  have HN7:Hid (Nx w1 w7):=Below.grown (HX1.out.alloc _) hgrow (by rw[size_alloc'];have:=HX1.out.size;omega) (λg hg=>(own_lt HROW.out g hg).1)
  clear hown hgrow
  go_wp2
  go_ret
  refine⟨⟨_,rfl,?_⟩,HX0.out.trans HN7.out⟩
  rw[HF.out]
  exact HO7.out.base HX0.out.size
theorem step_append_at {P:Program}{ops:Array Oper}{o:Oper}{a:Act}{w:World}{K:Act->World->Prop}{Q:Exit->Act->World->Prop}{E:Prop}
  (hg:o.guard=none) (s x:Operand) (t:TypeId) (hop:o.op=Op.call { callee:=Callee.builtin Builtin.append,args:=#[s,x],argTypes:=#[t,t] })
  (e:TypeId) (i:TypeInfo) (z:Value) (size bytes:Nat) (h1:P.underlying t=some (.slice e)) (h2:P.info? e=some i) (h3:i.zero=some z) (h4:i.size=size) (h5:i.bytes=bytes) (h6:z.cells.size=size) (h7:0<size)
  (B:Nat) (v:Value) (n:Nat) (olds:List Value) (hs:a.eval s=v) (hown:w.ownsRow B e size v n olds)
  (ad:Addr) (m c:Nat) (news:List Value) (hx:a.eval x=.slice (some ad) m c) (hn:news.length=m*size) (hc:∀j u,news[j]?=some u->w.cell? (ad.add j)=some u) (h1c:∀u∈news,u.oneCell'=true)
  (b1:n+m<=maxLen) (b2:(n+m)*bytes<=140737488355328) (hB:B<=w.heap.size)
  (hK:∀v' w',w'.ownsRow B e size v' (n+m) (olds++news)->w.grownBy w' v.ownBlock->(v'.ownBlock=v.ownBlock\/v'.ownBlock=some w.heap.size)->K (a.put o.dst v') w') :
  if Region.wanted o (yielded ops a.tmps)=true then Oper.wp P o a w K Q else E:=by
 have hw:Region.wanted o (yielded ops a.tmps)=true:=by simp[Region.wanted,hg]
 rw[if_pos hw]
 obtain⟨v',w',hrun,r1,r2,_,r4⟩:=run_append_own_at (P:=P) w B t o.type e i z size bytes h1 h2 h3 h4 h5 h6 h7 v n olds hown ad m c news hn hc h1c b1 b2 hB
 unfold Oper.wp
 simp[execOp,hop,resolve,invoke,builtin,hs,hx,hrun,Result.andThen]
 exact hK v' w' r1 r2 r4
def lsat (ls:List (List Nat))(i:Nat):List Nat:=ls.getD i []
theorem lsat_mem {ls:List (List Nat)}{i:Nat}(h:i<ls.length):lsat ls i∈ls:=by
 simp only[lsat,List.getD_eq_getElem?_getD,List.getElem?_eq_getElem h]
 exact List.getElem_mem h
theorem wd_nums {ls:List (List Nat)}{i:Nat}(h:i<ls.length):wd (ls.map nums) i=nums (lsat ls i):=by
 simp[wd,lsat,List.getD_eq_getElem?_getD,h]
theorem take_lsat {ls:List (List Nat)}{i:Nat}(h:i<ls.length):ls.take (i+1)=ls.take i++[lsat ls i]:=by
 rw[List.take_succ_eq_append_getElem h]
 simp[lsat,List.getD_eq_getElem?_getD,h]
def growTo (es:List Eg)(ls ps:List (List Nat))(i j:Nat):List (List Nat):=growL es (ls.take i) ps++growL es [lsat ls i] (ps.take j)
theorem growTo_zero (es:List Eg)(ls ps:List (List Nat))(i:Nat):growTo es ls ps i 0=growL es (ls.take i) ps:=by simp[growTo,growL]
theorem growTo_yes {es:List Eg}{ls ps:List (List Nat)}{i j:Nat}(hj:j<ps.length)(h:hdL es (lsat ls i)=tlL es (lsat ps j)):growTo es ls ps i (j+1)=growTo es ls ps i j++[lsat ls i++lsat ps j]:=by
 unfold growTo
 rw[take_lsat hj,List.append_assoc]
 simp[growL,h]
theorem growTo_no {es:List Eg}{ls ps:List (List Nat)}{i j:Nat}(hj:j<ps.length)(h:hdL es (lsat ls i)≠tlL es (lsat ps j)):growTo es ls ps i (j+1)=growTo es ls ps i j:=by
 unfold growTo
 rw[take_lsat hj]
 simp[growL,h]
theorem growTo_end {es:List Eg}{ls ps:List (List Nat)}{i:Nat}(hi:i<ls.length):growTo es ls ps i ps.length=growTo es ls ps (i+1) 0:=by
 rw[growTo_zero,take_lsat hi,growL_app]
 unfold growTo
 rw[List.take_length]
theorem growL_len (es:List Eg)(ls ps:List (List Nat)):(growL es ls ps).length<=ls.length*ps.length:=by
 induction ls with
 |nil=>simp[growL]
 |cons l ls ih=>
  rw[show l::ls=[l]++ls from rfl,growL_app,List.length_append,List.length_append,Nat.add_mul]
  have:(growL es [l] ps).length<=ps.length:=by
   simp only[growL,List.flatMap_cons,List.flatMap_nil,List.append_nil,List.length_map]
   exact List.length_filter_le _ _
  simp only[List.length_cons,List.length_nil]
  omega
theorem growTo_len (es:List Eg){ls ps:List (List Nat)}{i j:Nat}(hi:i<ls.length)(hj:j<=ps.length):(growTo es ls ps i j).length<=ls.length*ps.length:=by
 unfold growTo
 rw[List.length_append]
 have h1:=growL_len es (ls.take i) ps
 have h2:=growL_len es [lsat ls i] (ps.take j)
 rw[List.length_take,Nat.min_eq_left (by omega)] at h1
 rw[List.length_take,Nat.min_eq_left (by omega),List.length_singleton,Nat.one_mul] at h2
 have h3:(i+1)*ps.length<=ls.length*ps.length:=Nat.mul_le_mul_right _ hi
 rw[Nat.add_mul] at h3
 omega
def goodL (m:Nat)(l:List Nat):Prop:=l≠[]/\l.length<=100000/\∀e∈l,e<m
theorem nums_len (l:List Nat):(nums l).length=l.length:=by simp[nums]
theorem nums_app (l p:List Nat):nums (l++p)=nums l++nums p:=by simp[nums]
theorem iat_last {l:List Nat}(h:l≠[]):iat (nums l) (l.length-1)=((l.getLastD 0:Nat):Int):=by
 have hp:0<l.length:=List.length_pos_iff.2 h
 rw[iat_eq (by rw[nums_len];omega)]
 simp only[nums,List.getElem_map]
 rw[List.getLastD_eq_getLast?,List.getLast?_eq_getElem?,List.getElem?_eq_getElem (by omega)]
 rfl
theorem iat_first {l:List Nat}(h:l≠[]):iat (nums l) 0=((l.headD 0:Nat):Int):=by
 cases l with
 |nil=>exact absurd rfl h
 |cons a l=>rfl
theorem last_lt {m:Nat}{l:List Nat}(h:goodL m l):l.getLastD 0<m:=by
 refine h.2.2 _ ?_
 rw[List.getLastD_eq_getLast?]
 cases e:l.getLast? with
 |none=>exact absurd (List.getLast?_eq_none_iff.1 e) h.1
 |some x=>exact List.mem_of_getLast? e
theorem head_lt {m:Nat}{l:List Nat}(h:goodL m l):l.headD 0<m:=by
 cases l with
 |nil=>exact absurd rfl h.1
 |cons a l=>exact h.2.2 a (by simp)
theorem HWords.at' {B:Nat}{w:World}{v:Value}{ws:List (List Int)}(h:HWords B w v ws){i:Nat}(hi:i<ws.length):∃b off c,v=.slice (some ⟨b,off,none⟩) ws.length c/\b<w.heap.size/\∃vi,w.cell? ⟨b,off+i,none⟩=some vi/\HInts B w vi (wd ws i)/\CapOk vi:=by
 obtain⟨a,cap,e,_,hk⟩:=h
 obtain⟨b,off,rfl,_,hb,hc⟩:=hk (by omega)
 exact⟨b,off,cap,e,hb,hc i hi⟩
theorem nx_drewN (w:World)(n:Nat):Nx w (w.drewN n):=below_drewN (Below.refl _ w) n
theorem HEdges.at' {B:Nat}{w:World}{a:Option Addr}{n c:Nat}{es:List Eg}(h:HEdges B w (.slice a n c) es)(hp:0<es.length):n=es.length/\∃b off,a=some ⟨b,off,none⟩/\b<w.heap.size/\∀i,i<es.length->HEdge w b (off+i*7) (eat es i):=by
 obtain⟨a',cap,e,_,hk⟩:=h
 simp only[Value.slice.injEq] at e
 obtain⟨rfl,rfl,rfl⟩:=e
 obtain⟨b,off,e,_,hb,hc⟩:=hk hp
 exact⟨rfl,b,off,e,hb,hc⟩
theorem l2Grow_any (B B1 B2:Nat)(v0 v1 v2 v3 vl vp:Value)(R:Rd)(ls ps:List (List Nat))(w:World)(h0:HRoad B w v0 v1 v2 v3 R)(hm:R.edges.length<=4000)(hl:HWords B1 w vl (ls.map nums))(hp:HWords B2 w vp (ps.map nums))(hgl:∀l∈ls,goodL R.edges.length l)(hgp:∀l∈ps,goodL R.edges.length l)(hL:ls.length<=1000000)(hP:ps.length<=10000) :
  Calls Tryz.prog 86 #[.agg #[v0,v1,v2,v3],vl,vp] w λe w'=>(∃u,e=.returned u/\OwnW w.heap.size w' u ((growL R.edges ls ps).map nums))/\Nx w w':=by
 obtain⟨ii,hi,hz0,hz1,hz2⟩:=info_parts infoWord
 obtain⟨a,cap,rfl,hml,hk⟩:=h0.2.1
 have HE:Hid (HEdges B w (.slice a R.edges.length cap) R.edges):=h0.2.1
 clear h0 hk hml
 have HLW:Hid (HWords B1 w vl (ls.map nums)):=hl
 have HPW:Hid (HWords B2 w vp (ps.map nums)):=hp
 obtain⟨la,lc,rfl,_,_⟩:=hl
 obtain⟨pa,pc,rfl,_,_⟩:=hp
 have HGL:Hid (∀l∈ls,goodL R.edges.length l):=hgl
 have HGP:Hid (∀l∈ps,goodL R.edges.length l):=hgp
 clear hgl hgp
 generalize hes:R.edges=es at *
 clear hes
 simp only[List.length_map] at *
 generalize hz:es.length=m at *
 have HZ:Hid (es.length=m):=hz
 generalize hnl:ls.length=nl at *
 have HNL:Hid (ls.length=nl):=hnl
 generalize hnp:ps.length=np at *
 have HNP:Hid (ps.length=np):=hnp
 have HPROD:Hid (nl*np<=10000000000):=Nat.le_trans (Nat.mul_le_mul hL hP) (by decide)
 clear hz hnl hnp
 have HB0:Hid (Blk (w.alloc (.cells #[v0,.slice a m cap,v2,v3] 106)) w.heap.size #[v0,.slice a m cap,v2,v3]):=Blk.new w _ _ _ rfl
 have HX0:Hid (Nx w (w.alloc (.cells #[v0,.slice a m cap,v2,v3] 106))):=box1 _ _
 go_enter Tryz.func86,Tryz.ntmps86
 go_upto_region 1 with fail
 generalize w.alloc (.cells #[v0,.slice a m cap,v2,v3] 106)=w1 at *
 go_wp2
 go_loopw [7,8] (λu i wr=>∃k:Nat,k<=nl/\i=.int .i64 k/\Hid (OwnW w1.heap.size wr u ((growTo es ls ps k 0).map nums))/\Hid (Nx w1 wr)) (λ_ i _=>nl-(intOf i).toNat)
 case atStart=>exact⟨0,Nat.zero_le _,rfl,ownW_none w1.heap.size w1 (Nat.le_refl _),box1 _ _⟩
 obtain⟨k,hkm,rfl,HO,HN⟩:=hrel
 by_cases hlt:k<nl
 case neg=>
  have ek:nl=k:=by omega
  subst ek
  have HF:Hid (OwnW w1.heap.size wr u7 ((growL es ls ps).map nums)):=by
   have:=HO.out
   rw[growTo_zero,<-HNL.out,List.take_length] at this
   exact this
  clear HO hlt hkm
  go_wp2
  go_ret
  exact⟨⟨_,rfl,HF.out.base HX0.out.size⟩,HX0.out.trans HN.out⟩
 have hlt':(k:Int)<nl:=by omega
 have HKL:Hid (k<ls.length):=by unfold Hid;rw[HNL.out];exact hlt
 go_wp2
 go_loopw [7,9] (λu j wr=>∃q:Nat,q<=np/\j=.int .i64 q/\Hid (OwnW w1.heap.size wr u ((growTo es ls ps k q).map nums))/\Hid (Nx w1 wr)) (λ_ j _=>np-(intOf j).toNat)
 case atStart=>exact⟨0,Nat.zero_le _,rfl,HO,HN⟩
 clear HO HN
 obtain⟨q,hqm,rfl,HO,HN⟩:=hrel
 by_cases hq:q<np
 case neg=>
  have eq:np=q:=by omega
  subst eq
  have HF:Hid (OwnW w1.heap.size wr u7 ((growTo es ls ps (k+1) 0).map nums)):=by
   have:=HO.out
   rw[<-HNP.out,growTo_end HKL.out] at this
   exact this
  clear HO hq hqm
  go_wp2
  go_roundw
  case rel=>exact⟨k+1,by omega,by go_num,HF,HN⟩
  case measure=>simp[intOf];omega
 have hq':(q:Int)<np:=by omega
 have HQP:Hid (q<ps.length):=by unfold Hid;rw[HNP.out];exact hq
 have HGk:=HGL.out _ (lsat_mem HKL.out)
 have HGq:=HGP.out _ (lsat_mem HQP.out)
 have HLEN:Hid (((growTo es ls ps k q).map nums).length<=10000000000):=by
  unfold Hid
  rw[List.length_map]
  have h1:=growTo_len es (ls:=ls) (ps:=ps) (i:=k) (j:=q) HKL.out (by rw[HNP.out];omega)
  rw[HNL.out,HNP.out] at h1
  exact Nat.le_trans h1 HPROD.out
 have HYES:Hid (hdL es (lsat ls k)=tlL es (lsat ps q)->(growTo es ls ps k (q+1)).map nums=(growTo es ls ps k q).map nums++[nums (lsat ls k)++nums (lsat ps q)]):=λh=>by rw[growTo_yes HQP.out h,List.map_append,<-nums_app];rfl
 have HNO:Hid (hdL es (lsat ls k)≠tlL es (lsat ps q)->growTo es ls ps k (q+1)=growTo es ls ps k q):=λh=>growTo_no HQP.out h
 have HHD:Hid (hdL es (lsat ls k)=(eat es ((lsat ls k).getLastD 0)).head):=rfl
 have HTL:Hid (tlL es (lsat ps q)=(eat es ((lsat ps q).headD 0)).tail):=rfl
 generalize hll:lsat ls k=l at *
 generalize hpp:lsat ps q=p at *
 obtain⟨bl,ol,cl,el,hbl,vi,hvi,hvI,hcI⟩:=HLW.out.at' (i:=k) (by rw[List.length_map,HNL.out];exact hlt)
 obtain⟨bp,op,cp,ep,hbp,vj,hvj,hvJ,hcJ⟩:=HPW.out.at' (i:=q) (by rw[List.length_map,HNP.out];exact hq)
 rw[wd_nums HKL.out,hll] at hvI
 rw[wd_nums HQP.out,hpp] at hvJ
 simp only[Value.slice.injEq] at el ep
 obtain⟨rfl,el2,rfl⟩:=el
 obtain⟨rfl,ep2,rfl⟩:=ep
 clear el2 ep2
 have HVI:Hid (HInts B1 w vi (nums l)):=hvI
 have HVJ:Hid (HInts B2 w vj (nums p)):=hvJ
 obtain⟨lm,hlm⟩:∃lm,l.length=lm+1:=⟨l.length-1,by have:=List.length_pos_iff.2 HGk.1;omega⟩
 obtain⟨pm,hpm⟩:∃pm,p.length=pm+1:=⟨p.length-1,by have:=List.length_pos_iff.2 HGq.1;omega⟩
 have hlm5:lm<=100000:=by have:=HGk.2.1;omega
 obtain⟨ai,ci,rfl,hmi,hki⟩:=hvI
 obtain⟨aj,cj,rfl,hmj,hkj⟩:=hvJ
 rw[nums_len] at hki hkj hvi hvj
 obtain⟨bi,oi,rfl,_,hbi,hci⟩:=hki (by omega)
 obtain⟨bj,oj,rfl,_,hbj,hcj⟩:=hkj (by omega)
 have HLI:=last_lt HGk
 have HHJ:=head_lt HGq
 have y1:w.cell? ⟨bi,oi+lm,none⟩=some (.int .i64 ((l.getLastD 0:Nat):Int)):=by
  have:=hci lm (by omega)
  rw[show lm=l.length-1 by omega,iat_last HGk.1] at this
  rw[show lm=l.length-1 by omega]
  exact this
 have y2:w.cell? ⟨bj,oj,none⟩=some (.int .i64 ((p.headD 0:Nat):Int)):=by
  have:=hcj 0 (by omega)
  dsimp only at this
  rw[iat_first HGq.1] at this
  exact this
 obtain⟨ez2,be,oe,rfl,hbe,hce⟩:=HE.out.at' (by rw[HZ.out];omega)
 clear ez2
 have z1:=(hce _ (by rw[HZ.out];exact HLI)).2.1
 have z2:=(hce _ (by rw[HZ.out];exact HHJ)).1
 generalize l.getLastD 0=x at *
 generalize p.headD 0=y at *
 rw[hlm] at hvi
 rw[hpm] at hvj
 have HVI2:Hid (HInts B1 w (.slice (some ⟨bi,oi,none⟩) (lm+1) ci) (nums l)):=by have:=HVI.out;rw[nums_len,hlm] at this;exact this
 have HVJ2:Hid (HInts B2 w (.slice (some ⟨bj,oj,none⟩) (pm+1) cj) (nums p)):=by have:=HVJ.out;rw[nums_len,hpm] at this;exact this
 have HLL:Hid ((nums l).length<=100000/\(nums p).length<=100000):=⟨by rw[nums_len];exact HGk.2.1,by rw[nums_len];exact HGq.2.1⟩
 clear hci hcj hki hkj hce hmi hmj HVI HVJ hcI hcJ hlm hpm hll hpp HGk HGq hbl hbp hbi hbj hbe
 have HXw:Hid (Nx w wr):=HX0.out.trans HN.out
 have r0:=(HB0.out.next HN.out).cell (i:=1) rfl
 have a1:=cellq HXw.out hvi
 have a2:=cellq HXw.out hvj
 have a3:=cellq HXw.out y1
 have a4:=cellq HXw.out y2
 have a5:=cellq HXw.out z1
 have a6:=cellq HXw.out z2
 have hx':(x:Int)<m:=by omega
 have hy':(y:Int)<m:=by omega
 have hlm':(lm:Int)<(lm:Int)+1:=by omega
 have hpm':(0:Int)<(pm:Int)+1:=by omega
 have HC1:Hid (w.cell? ⟨bl,ol+k,none⟩=some (.slice (some ⟨bi,oi,none⟩) (lm+1) ci)):=hvi
 have HC2:Hid (w.cell? ⟨bp,op+q,none⟩=some (.slice (some ⟨bj,oj,none⟩) (pm+1) cj)):=hvj
 clear hvi hvj y1 y2 z1 z2
 go_upto_region 8 with fail
 go_quiet (fail)
 have HDQ:Hid (Nx wr (wr.drewN nq)):=nx_drewN _ _
 generalize wr.drewN nq=wq at *
 have b0:=cellq HDQ.out r0
 have b1:=cellq HDQ.out a1
 have b2:=cellq HDQ.out a2
 have b4:=cellq HDQ.out a4
 have b5:=cellq HDQ.out a5
 have b6:=cellq HDQ.out a6
 have HOQ:Hid (OwnW w1.heap.size wq u7 ((growTo es ls ps k q).map nums)):=HO.out.next HDQ.out
 have HNQ:Hid (Nx w1 wq):=HN.out.trans HDQ.out
 have HXQ:Hid (Nx w wq):=HXw.out.trans HDQ.out
 clear r0 a1 a2 a3 a4 a5 a6 HO HN
 generalize (eat es x).head=hd at *
 generalize (eat es y).tail=td at *
 by_cases hj:hd=td
 case neg=>
  have g1:(hd==td)=false:=by simpa using hj
  have HE2:Hid (growTo es ls ps k (q+1)=growTo es ls ps k q):=HNO.out (by rw[HHD.out,HTL.out];exact hj)
  clear hj
  go_upto_region 10 with fail
  go_quiet (fail)
  have HDQ2:Hid (Nx wq (wq.drewN nq)):=nx_drewN _ _
  generalize wq.drewN nq=wz at *
  clear b0 b1 b2 b4 b5 b6
  go_wp2
  go_roundw
  case rel=>exact⟨q+1,by omega,by go_num,by unfold Hid;rw[HE2.out];exact HOQ.out.next HDQ2.out,HNQ.out.trans HDQ2.out⟩
  case measure=>simp[intOf];omega
 have g1:(hd==td)=true:=by simpa using hj
 have HES:Hid ((growTo es ls ps k (q+1)).map nums=(growTo es ls ps k q).map nums++[nums l++nums p]):=HYES.out (by rw[HHD.out,HTL.out];exact hj)
 clear hj
 go_upto_region 10 with fail
 go_quiet (fail)
 have HDQ2:Hid (Nx wq (wq.drewN nq)):=nx_drewN _ _
 generalize wq.drewN nq=wz at *
 have c1:=cellq HDQ2.out b1
 have c2:=cellq HDQ2.out b2
 have HOZ:Hid (OwnW w1.heap.size wz u7 ((growTo es ls ps k q).map nums)):=HOQ.out.next HDQ2.out
 have HNZ:Hid (Nx w1 wz):=HNQ.out.trans HDQ2.out
 have HXZ:Hid (Nx w wz):=HXQ.out.trans HDQ2.out
 have HSZ:Hid (w1.heap.size<=wz.heap.size):=HNZ.out.size
 clear b0 b1 b2 b4 b5 b6 HOQ HNQ HXQ HDQ HDQ2
 generalize (growTo es ls ps k q).map nums=ws at *
 obtain⟨ua,uc,hus⟩:=HOZ.out.slice
 subst hus
 generalize hwl:ws.length=wl at *
 have HWL:Hid (ws.length=wl):=hwl
 have hwl4:wl<=10000000000:=HLEN.out
 clear hwl
 have HVIZ:Hid (HInts B1 wz (.slice (some ⟨bi,oi,none⟩) (lm+1) ci) (nums l)):=HVI2.out.next HXZ.out
 have HVJZ:Hid (HInts B2 wz (.slice (some ⟨bj,oj,none⟩) (pm+1) cj) (nums p)):=HVJ2.out.next HXZ.out
 go_wp2
 go_region_held3 (λw'=>w'.cell? ⟨bl,ol+k,none⟩=some (.slice (some ⟨bi,oi,none⟩) (lm+1) ci)/\w'.cell? ⟨bp,op+q,none⟩=some (.slice (some ⟨bj,oj,none⟩) (pm+1) cj)) (first|exact⟨t1,t2⟩|exact⟨cellq (box1 _ _) t1,cellq (box1 _ _) t2⟩|(go_keep;done)) (first|(go_at_call 44;refine(l2Plus_any B1 B2 _ _ (nums l) (nums p) _ (by exact HVIZ.out.next (Below.refl _ _).drew) (by exact HVJZ.out.next (Below.refl _ _).drew) (by have:=HLL.out;omega) (by have:=HLL.out;omega)).mono ?_;rintro e w5 ⟨⟨u5,rfl,hO5⟩,hx5⟩;have HX5:Hid (Nx wz w5):=(Below.refl _ _).drew.trans hx5;have HO5:Hid (OwnI w1.heap.size w5 u5 (nums l++nums p)):=hO5.base HSZ.out;have HOZ5:Hid (OwnW w1.heap.size w5 (.slice ua wl uc) ws):=HOZ.out.next HX5.out;have t1:=cellq HX5.out c1;have t2:=cellq HX5.out c2;obtain⟨ub,ud,hub⟩:=HO5.out.slice;generalize (nums l++nums p).length=un at hub;subst hub;obtain⟨cs5,hrow5,hwd5⟩:=HOZ5.out;have HROW5:Hid (w5.ownsRow w1.heap.size 51 1 (.slice ua wl uc) ws.length cs5):=hrow5;have HWD5:Hid (∀i,i<ws.length->OwnI w1.heap.size w5 (vat cs5 i) (wd ws i)):=hwd5;have HS5:Hid (w1.heap.size<=w5.heap.size):=Nat.le_trans HSZ.out HX5.out.size;have HN5:Hid (Nx w1 w5):=HNZ.out.trans HX5.out;clear hO5 hx5 hrow5 hwd5)|(refine step_append_at rfl (.tmp 59) (.tmp 72) 48 rfl 51 ii (.agg #[.slice none 0 0]) 1 24 Tryz.underlying48 hi hz0 hz1 hz2 rfl (by decide) w1.heap.size (.slice ua wl uc) ws.length cs5 (by simp[Act.eval]) (World.ownsRow.alloc HROW5.out _) ⟨w5.heap.size,0,none⟩ 1 1 [.slice ub un ud] (by simp[Act.eval]) rfl (λj u hj=>new_cells w5 _ _ _ rfl j u hj) (by intro u hu;simp at hu;subst hu;rfl) (by rw[HWL.out];unfold maxLen;omega) (by rw[HWL.out];omega) (by rw[size_alloc'];have:=HS5.out;omega) ?_;intro v7 w7 hown hgrow hat;have HO7:Hid (OwnW w1.heap.size w7 v7 (ws++[nums l++nums p])):=OwnW.snoc HROW5.out HWD5.out HO5.out _ hgrow hown;have HN7:Hid (Nx w1 w7):=Below.grown (HN5.out.alloc _) hgrow (by rw[size_alloc'];have:=HS5.out;omega) (λg hg=>(own_lt HROW5.out g hg).1);have t1:=cellq (HX0.out.trans HN7.out) HC1.out;have t2:=cellq (HX0.out.trans HN7.out) HC2.out;clear hown hgrow hat))
 all_goals
  go_wp2
  go_roundw
  case rel=>exact⟨q+1,by omega,by go_num,by unfold Hid;rw[HES.out];exact HO7.out,HN7⟩
  case measure=>simp[intOf];omega
def wpos (xs:List Wy)(id:Int):Nat:=xs.findIdx λx=>x.id==id
theorem wpos_at {xs:List Wy}{id:Int}{k:Nat}(hk:k<xs.length)(h:(wat xs k).id=id)(hn:notW xs id k):wpos xs id=k:=by
 unfold wpos
 rw[List.findIdx_eq hk]
 refine⟨by rw[<-wat_eq hk];simpa using h,λj hj=>?_⟩
 have:=hn j hj
 rw[wat_eq (by omega)] at this
 simpa using this
theorem wpos_lt {xs:List Wy}{id:Int}(h:hasW xs id=true):wpos xs id<xs.length:=by
 unfold wpos hasW at *
 exact List.findIdx_lt_length.2 (by simpa using List.any_eq_true.1 h)
theorem wpos_id {xs:List Wy}{id:Int}(h:hasW xs id=true):(wat xs (wpos xs id)).id=id:=by
 have hl:=wpos_lt h
 have h2:(xs[wpos xs id].id==id)=true:=List.findIdx_getElem (p:=λx:Wy=>x.id==id) (xs:=xs) (w:=hl)
 rw[wat_eq hl]
 simpa using h2
theorem ret_natI {a b:Nat}(h:b=a):Ending.returned (.int .i64 (a:Int))=.returned (.int .i64 (b:Int)):=by rw[h]
theorem l1WayAt_pos (B:Nat)(v0 v1 v2 v3:Value)(u id:Int)(xs:List Wy)(w:World)(h0:HWays B w v1 xs)(hh:hasW xs id=true) :
  Calls Tryz.prog 73 #[.agg #[v0,v1,v2,v3,.int .i64 u],.int .i64 id] w λe w'=>e=.returned (.int .i64 (wpos xs id:Int))/\Nx w w':=by
 obtain⟨a,cap,rfl,hn,hk⟩:=h0
 unfold maxLen at hn
 have HH:Hid (hasW xs id=true):=hh
 clear hh
 generalize hz:xs.length=n at *
 have HZ:Hid (xs.length=n):=hz
 clear hz
 go_enter Tryz.func73,Tryz.ntmps73
 go_wp2
 go_loop [5] (λi=>∃k:Nat,k<=n/\i=.int .i64 k/\Hid (notW xs id k)) (λi=>n-(intOf i).toNat)
 case atStart=>exact⟨0,Nat.zero_le _,rfl,notW_zero _ _⟩
 case round=>
  obtain⟨k,hkn,rfl,hrel⟩:=hrel
  by_cases hlt:k<n
  ·obtain⟨b,off,rfl,hB,hb,hc⟩:=hk (by omega)
   obtain⟨vn,vw,hcc,_⟩:=hc k hlt
   clear hc hk
   go_wp2
   ·go_ret
    exact⟨ret_natI (wpos_at (by rw[HZ.out];exact hlt) (by simpa using(show((wat xs k).id==id)=true by assumption)) hrel.out),(Below.refl _ _).alloc (Nat.le_refl _) _⟩
   ·go_round
    case rel=>exact⟨k+1,by omega,by go_num,notW_succ hrel (by assumption)⟩
    case measure=>simp[intOf];omega
  ·exfalso
   have:=hasW_no (xs:=xs) (id:=id) (k:=k) (by rw[HZ.out];omega) hrel.out
   rw[HH.out] at this
   cases this
def sing (l:List Nat):List (List Nat):=l.map λe=>[e]
theorem ones_sing (l:List Nat):ones l=(sing l).map nums:=by simp[ones,sing,nums]
theorem sing_good {es:List Eg}{i:Int}:∀l∈sing (ofTo es i es.length),goodL es.length l:=by
 intro l hl
 obtain⟨e,he,rfl⟩:=List.mem_map.1 hl
 refine⟨by simp,by simp,λx hx=>?_⟩
 have:x=e:=by simpa using hx
 subst this
 unfold ofTo at he
 exact List.mem_range.1 (List.mem_filter.1 he).1
theorem sing_len (l:List Nat):(sing l).length=l.length:=by simp[sing]
theorem travs_good {N:Nt}{es:List Eg}{i:Nat}(hm:es.length<=4000)(h1:thTo es i es.length≠[])(h2:(wat N.ways i).both=true->bkTo es i es.length≠[]):∀l∈travs N es i,goodL es.length l/\l.length<=4000:=by
 have a1:goodL es.length (thTo es i es.length)/\(thTo es i es.length).length<=4000:=by
  have:=thTo_len es i es.length
  rw[nums_len] at this
  exact⟨⟨h1,by omega,λe he=>by unfold thTo at he;exact List.mem_range.1 (List.mem_filter.1 he).1⟩,by omega⟩
 intro l hl
 unfold travs at hl
 rcases List.mem_append.1 hl with g|g
 ·have:l=thTo es i es.length:=by simpa using g
  rw[this];exact a1
 ·by_cases hb:(wat N.ways i).both=true
  ·rw[if_pos hb] at g
   have:l=bkTo es i es.length:=by simpa using g
   have hl:=bkTo_len es i es.length
   rw[nums_len] at hl
   rw[this]
   exact⟨⟨h2 hb,by omega,λe he=>by unfold bkTo at he;exact List.mem_range.1 (List.mem_filter.1 (List.mem_reverse.1 he)).1⟩,by omega⟩
  ·rw[if_neg hb] at g
   simp at g
theorem travs_len (N:Nt)(es:List Eg)(i:Nat):(travs N es i).length<=2:=by
 unfold travs
 split<;>simp
theorem growL_good {es:List Eg}{m c d:Nat}{ls ps:List (List Nat)}(h1:∀l∈ls,goodL m l/\l.length<=c)(h2:∀l∈ps,goodL m l/\l.length<=d)(hc:c+d<=100000):∀l∈growL es ls ps,goodL m l/\l.length<=c+d:=by
 intro q hq
 unfold growL at hq
 obtain⟨l,hl,hq⟩:=List.mem_flatMap.1 hq
 obtain⟨p,hp,rfl⟩:=List.mem_map.1 hq
 have hp':=(List.mem_filter.1 hp).1
 have e1:=h1 l hl
 have e2:=h2 p hp'
 refine⟨⟨by simp[e1.1.1],by rw[List.length_append];omega,λe he=>?_⟩,by rw[List.length_append];omega⟩
 rcases List.mem_append.1 he with g|g
 ·exact e1.1.2.2 e g
 ·exact e2.1.2.2 e g
def firstsR (N:Nt)(es:List Eg)(r:Rl):List Nat:=ofTo es (wpos N.ways r.frm) es.length
def lastsR (N:Nt)(es:List Eg)(r:Rl):List Nat:=ofTo es (wpos N.ways r.to) es.length
def atNode (nodes:List Int)(es:List Eg)(node:Int)(e:Nat):Bool:=decide (iat nodes (eat es e).head.toNat=node)
def growW (N:Nt)(es:List Eg)(r:Rl)(k:Nat):List (List Nat):=growAll es (sing (firstsR N es r)) ((r.ways.take k).map λid=>travs N es (wpos N.ways id))
def chainsR (N:Nt)(nodes:List Int)(es:List Eg)(r:Rl):List (List Nat):=
 if r.via then growL es (sing ((firstsR N es r).filter (atNode nodes es r.node))) (sing (lastsR N es r)) else growL es (growW N es r r.ways.length) (sing (lastsR N es r))
theorem growW_succ {N:Nt}{es:List Eg}{r:Rl}{k:Nat}(hk:k<r.ways.length):growW N es r (k+1)=growL es (growW N es r k) (travs N es (wpos N.ways (iat r.ways k))):=by
 unfold growW growAll
 rw[List.take_succ_eq_append_getElem hk,List.map_append,List.foldl_append,iat_eq hk]
 rfl
end Go.Proofs.YtdpfdkihbgmapaaGreat
