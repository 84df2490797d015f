import Derived.Test.YtdpfdkihbgmapaaXBG
import Derived.Lib.Builder
import Derived.LaidEqlPtr
namespace Go.Proofs.Ytdpfdkihbgmapaa
open Go.RowKit Go.Maps
set_option linter.unusedVariables false
set_option maxRecDepth 1000000
set_option maxHeartbeats 16000000
theorem OwnP.keep {C:Nat}{o o':Option Nat}{w w':World}{v:Value}{bs:List Nat}(h:OwnP C w v bs)(k:But o o' w w')(hn:∀g,v.ownBlock=some g->some g≠o/\some g≠o'):OwnP C w' v bs:=by
 obtain⟨h1,h2⟩:=h
 refine⟨h1,?_⟩
 rcases h2 with h2|⟨g,cap,cur,hv,hg,hh,r⟩
 ·exact Or.inl h2
 ·have hb:v.ownBlock=some g:=by rw[hv];rfl
  exact Or.inr ⟨g,cap,cur,hv,hg,(k.block g (Array.getElem?_eq_some_iff.1 hh).1 (hn g hb).1 (hn g hb).2).trans hh,r⟩
structure FrA (n:Nat)(bl:Nat->Nat)(w0 w:World):Prop where
 os:w.os=w0.os
 tape:w.tape=w0.tape
 output:w.output=w0.output
 size:w0.heap.size<=w.heap.size
 block:∀b,b<w0.heap.size->(∀t,t<n->b≠bl t)->w.heap[b]?=w0.heap[b]?
theorem FrA.but {n:Nat}{bl:Nat->Nat}{w0 w w':World}{o o':Option Nat}(h:FrA n bl w0 w)(k:But o o' w w')(ho:∀g,o=some g->w0.heap.size<=g)(ho':∀g,o'=some g->w0.heap.size<=g):FrA n bl w0 w':=
 ⟨k.os.trans h.os,k.tape.trans h.tape,k.output.trans h.output,Nat.le_trans h.size k.size,λb hb hn=>(k.block b (Nat.lt_of_lt_of_le hb h.size) (λe=>by have:=ho b e.symm;omega) (λe=>by have:=ho' b e.symm;omega)).trans (h.block b hb hn)⟩
theorem FrA.set {n t:Nat}{bl:Nat->Nat}{w0 w:World}(h:FrA n bl w0 w)(ht:t<n)(i:Nat)(v:Value):FrA n bl w0 (w.setCell ⟨bl t,i,none⟩ v):=
 ⟨h.os,h.tape,h.output,by rw[size_set'];exact h.size,λb hb hn=>(Below.heap_setCell _ _ _ _ (hn t ht)).trans (h.block b hb hn)⟩
structure LS (A:Au)(n i f c:Nat)(tk:Int)(w0 w:World)(bl:Nat->Nat)(mv:Nat->Value)(sv qv:Value):Prop where
 tr:∃fl,TR A n f w bl fl mv (λ_=>0)
 qb:Blk w w0.heap.size #[qv,.int .i64 tk]
 qo:OwnP (w0.heap.size+1) w qv ((List.range c).map bl)
 so:OwnP (w0.heap.size+1) w sv ((List.range i).map bl)
 ap:∀g,qv.ownBlock=some g->sv.ownBlock≠some g
 bb:∀t,t<n->bl t<w0.heap.size
 mb:∀t b,t<n->mapBlk (mv t)=some b->b<w0.heap.size
 fr:FrA n bl w0 w
theorem LS.qlt {A:Au}{n i f c:Nat}{tk:Int}{w0 w:World}{bl:Nat->Nat}{mv:Nat->Value}{sv qv:Value}(h:LS A n i f c tk w0 w bl mv sv qv):w0.heap.size<w.heap.size:=h.qb.lt
theorem LS.trk {A:Au}{n i f c:Nat}{tk:Int}{w0 w w':World}{bl:Nat->Nat}{mv:Nat->Value}{sv qv:Value}(h:LS A n i f c tk w0 w bl mv sv qv){o o':Option Nat}(k:But o o' w w')(ho:∀g,o=some g->w0.heap.size<=g)(ho':∀g,o'=some g->w0.heap.size<=g):∃fl,TR A n f w' bl fl mv (λ_=>0):=by
 obtain⟨fl,ht⟩:=h.tr
 refine⟨fl,ht.keep k (λt hn=>?_) (λt mb hn e=>?_)⟩
 ·have:=h.bb t hn
  exact⟨λe=>by have:=ho _ e.symm;omega,λe=>by have:=ho' _ e.symm;omega⟩
 ·have:=h.mb t mb hn e
  exact⟨λe=>by have:=ho _ e.symm;omega,λe=>by have:=ho' _ e.symm;omega⟩
theorem LS.next {A:Au}{n i f c:Nat}{tk:Int}{w0 w w':World}{bl:Nat->Nat}{mv:Nat->Value}{sv qv:Value}(h:LS A n i f c tk w0 w bl mv sv qv)(k:Nx w w'):LS A n i f c tk w0 w' bl mv sv qv:=
 ⟨h.trk (o:=none) (o':=none) (But.of_nx k) (by simp) (by simp),h.qb.next k,h.qo.next k,h.so.next k,h.ap,h.bb,h.mb,h.fr.but (o:=none) (o':=none) (But.of_nx k) (by simp) (by simp)⟩
theorem LS.took {A:Au}{n i f c:Nat}{tk tk':Int}{w0 w w':World}{bl:Nat->Nat}{mv:Nat->Value}{sv qv:Value}(h:LS A n i f c tk w0 w bl mv sv qv)(hb:Blk w' w0.heap.size #[qv,.int .i64 tk'])(k:But (some w0.heap.size) none w w'):LS A n i f c tk' w0 w' bl mv sv qv:=
 ⟨h.trk k (λg e=>by cases e;exact Nat.le_refl _) (by simp),hb,
  h.qo.keep k (λg e=>⟨λe'=>by have:=(own_lt h.qo g e).1;have:=Option.some.inj e';omega,by simp⟩),
  h.so.keep k (λg e=>⟨λe'=>by have:=(own_lt h.so g e).1;have:=Option.some.inj e';omega,by simp⟩),
  h.ap,h.bb,h.mb,h.fr.but k (λg e=>by cases e;exact Nat.le_refl _) (by simp)⟩
theorem range_snoc (bl:Nat->Nat)(c:Nat):(List.range c).map bl++[bl c]=(List.range (c+1)).map bl:=by simp[List.range_succ]
theorem LS.put {A:Au}{n i f c:Nat}{tk:Int}{w0 w w':World}{bl:Nat->Nat}{mv:Nat->Value}{sv qv qv':Value}(h:LS A n i f c tk w0 w bl mv sv qv)(hb:Blk w' w0.heap.size #[qv',.int .i64 tk])(ho:OwnP (w0.heap.size+1) w' qv' ((List.range c).map bl++[bl c]))(hat:qv'.ownBlock=qv.ownBlock\/qv'.ownBlock=some (w.heap.size+1))(k:But (some w0.heap.size) qv.ownBlock w w'):LS A n i f (c+1) tk w0 w' bl mv sv qv':=by
 have hq:∀g,qv.ownBlock=some g->w0.heap.size<=g:=λg e=>by have:=(own_lt h.qo g e).1;omega
 refine⟨h.trk k (λg e=>by cases e;exact Nat.le_refl _) hq,hb,by rw[<-range_snoc];exact ho,h.so.keep k (λg e=>⟨λe'=>?_,λe'=>h.ap g e'.symm e⟩),λg e e'=>?_,h.bb,h.mb,h.fr.but k (λg e=>by cases e;exact Nat.le_refl _) hq⟩
 ·have:=(own_lt h.so g e).1
  have:=Option.some.inj e'
  omega
 ·rcases hat with hat|hat
  ·exact h.ap g (by rw[<-hat];exact e) e'
  ·rw[hat] at e
   have:=(own_lt h.so g e').2
   have:=Option.some.inj e
   omega
theorem LS.push {A:Au}{n i f c:Nat}{tk:Int}{w0 w w':World}{bl:Nat->Nat}{mv:Nat->Value}{sv sv' qv:Value}(h:LS A n i f c tk w0 w bl mv sv qv)(ho:OwnP (w0.heap.size+1) w' sv' ((List.range i).map bl++[bl i]))(hat:sv'.ownBlock=sv.ownBlock\/sv'.ownBlock=some (w.heap.size+1))(k:But none sv.ownBlock w w'):LS A n (i+1) f c tk w0 w' bl mv sv' qv:=by
 have hs:∀g,sv.ownBlock=some g->w0.heap.size<=g:=λg e=>by have:=(own_lt h.so g e).1;omega
 refine⟨h.trk k (by simp) hs,h.qb.keep k (by simp) (λe=>?_),h.qo.keep k (λg e=>⟨by simp,λe'=>h.ap g e e'.symm⟩),by rw[<-range_snoc];exact ho,λg e e'=>?_,h.bb,h.mb,h.fr.but k (by simp) hs⟩
 ·have:=(own_lt h.so _ e.symm).1
  omega
 ·rcases hat with hat|hat
  ·exact h.ap g e (by rw[<-hat];exact e')
  ·rw[hat] at e'
   have:=(own_lt h.qo g e).2
   have:=Option.some.inj e'
   omega
theorem LS.fail {A:Au}{n i f c t:Nat}{tk:Int}{w0 w:World}{bl:Nat->Nat}{mv:Nat->Value}{sv qv:Value}(h:LS A n i f c tk w0 w bl mv sv qv)(h1:1<=t)(ht:t<n)(hf:f<=t)(x:Value):LS A n i f c tk w0 (w.setCell ⟨bl t,6,none⟩ x) bl mv sv qv:=by
 obtain⟨fl,hT⟩:=h.tr
 have hlt:=h.bb t ht
 exact⟨⟨_,hT.setFail h1 ht hf x⟩,h.qb.setOther (by omega) _ _,own_store h.qo (by omega) _ _,own_store h.so (by omega) _ _,h.ap,h.bb,h.mb,h.fr.set ht _ _⟩
theorem LS.failed {A:Au}{n i f c:Nat}{tk:Int}{w0 w:World}{bl:Nat->Nat}{mv:Nat->Value}{sv qv:Value}(h:LS A n i f c tk w0 w bl mv sv qv)(h1:1<=f)(ht:f<n)(b:Nat)(hx:b=bl (failOf A n f)):LS A n i (f+1) c tk w0 (w.setCell ⟨bl f,6,none⟩ (ptr b)) bl mv sv qv:=by
 subst hx
 obtain⟨fl,hT⟩:=h.tr
 have hlt:=h.bb f ht
 exact⟨⟨_,(hT.setFail h1 ht (Nat.le_refl _) _).up (upd_at _ _ _)⟩,h.qb.setOther (by omega) _ _,own_store h.qo (by omega) _ _,own_store h.so (by omega) _ _,h.ap,h.bb,h.mb,h.fr.set ht _ _⟩
theorem LS.start {A:Au}{n:Nat}{w:World}{bl:Nat->Nat}{mv:Nat->Value}{fl:Nat->Value}(h:TR A n 1 w bl fl mv (λ_=>0))(t:TypeId):LS A n 0 1 0 0 w (w.alloc (.cells #[.slice none 0 0,.int .i64 0] t)) bl mv (.slice none 0 0) (.slice none 0 0):=by
 have k:=box1 w (.cells #[.slice none 0 0,.int .i64 0] t)
 exact⟨⟨fl,h.keep (o:=none) (o':=none) (But.of_nx k) (by simp) (by simp)⟩,Blk.new w _ _ _ rfl,⟨by simp[pcells],Or.inl ⟨rfl,rfl⟩⟩,⟨by simp[pcells],Or.inl ⟨rfl,rfl⟩⟩,λg e=>by simp[Value.ownBlock] at e,λt ht=>(h.nd t ht).lt,λt mb ht e=>(h.kd t ht).lt e,⟨k.os,k.tape,k.output,k.size,λb hb _=>k.block b hb⟩⟩
def lenOf:Value->Nat
 |.slice _ k _=>k
 |_=>0
theorem OwnI.keep {C:Nat}{o o':Option Nat}{w w':World}{v:Value}{zs:List Int}(h:OwnI C w v zs)(k:But o o' w w')(hn:∀g,v.ownBlock=some g->some g≠o/\some g≠o'):OwnI C w' v zs:=by
 obtain⟨h1,h2⟩:=h
 refine⟨h1,?_⟩
 rcases h2 with h2|⟨g,cap,cur,hv,hg,hh,r⟩
 ·exact Or.inl h2
 ·have hb:v.ownBlock=some g:=by rw[hv];rfl
  exact Or.inr ⟨g,cap,cur,hv,hg,(k.block g (Array.getElem?_eq_some_iff.1 hh).1 (hn g hb).1 (hn g hb).2).trans hh,r⟩
theorem MK.map {w:World}{m:Value}{ks:List (Int×Nat)}(h:MK w m ks):∃o,m=.map o:=by
 rcases h with⟨rfl,_⟩|⟨b,rfl,_⟩
 ·exact⟨_,rfl⟩
 ·exact⟨_,rfl⟩
theorem nat_range (bl:Nat->Nat){c j:Nat}(h:j<c):nat ((List.range c).map bl) j=bl j:=by
 simp[nat,List.getD,h]
structure LI (A:Au)(n i c j:Nat)(w0 w:World)(bl:Nat->Nat)(mv:Nat->Value)(sv kv:Value)(zs:List Int)(C:Nat):Prop where
 ls:∃qv,LS A n (i+1) (c+j) (c+j) ((i:Int)+1) w0 w bl mv sv qv/\∀g,qv.ownBlock=some g->kv.ownBlock≠some g
 kr:OwnI C w kv zs
 ge:w0.heap.size<C
theorem LI.put {A:Au}{n i c j:Nat}{w0 w w':World}{bl:Nat->Nat}{mv:Nat->Value}{sv kv qv qv':Value}{zs:List Int}{C:Nat}(h:LS A n (i+1) (c+j+1) (c+j) ((i:Int)+1) w0 w bl mv sv qv)(hd:∀g,qv.ownBlock=some g->kv.ownBlock≠some g)(hk:OwnI C w kv zs)(hC:w0.heap.size<C)(hb:Blk w' w0.heap.size #[qv',.int .i64 ((i:Int)+1)])(ho:OwnP (w0.heap.size+1) w' qv' ((List.range (c+j)).map bl++[bl (c+j)]))(hat:qv'.ownBlock=qv.ownBlock\/qv'.ownBlock=some (w.heap.size+1))(k:But (some w0.heap.size) qv.ownBlock w w'):LI A n i c (j+1) w0 w' bl mv sv kv zs C:=by
 refine⟨⟨qv',h.put hb ho hat k,λg e e'=>?_⟩,hk.keep k (λg e=>⟨λe'=>?_,λe'=>hd g e'.symm e⟩),hC⟩
 ·rcases hat with hat|hat
  ·exact hd g (by rw[<-hat];exact e) e'
  ·rw[hat] at e
   have:=(own_lt hk g e').2
   have:=Option.some.inj e
   omega
 ·have:=(own_lt hk g e).1
  have:=Option.some.inj e'
  omega
def numTo (j:Nat)(s:Nat):Int:=if s<j then (s:Int) else 0
theorem numTo_up (j:Nat):upd (numTo j) j (j:Int)=numTo (j+1):=by
 funext s
 unfold upd numTo
 by_cases h:s=j
 ·subst h;simp
 ·by_cases h2:s<j
  ·rw[if_neg h,if_pos h2,if_pos (by omega)]
  ·rw[if_neg h,if_neg h2,if_neg (by omega)]
theorem ci_zero {A:Au}{n:Nat}(h:∀t,1<=t->t<n->okR A t=true)(h1:1<=n):CI A n 0 1:=⟨by omega,h1,λt ht hn=>by have:=okR_at (h t ht hn);omega⟩
theorem ci_lt {A:Au}{n i c:Nat}(h:∀t,1<=t->t<n->okR A t=true)(hc:CI A n i c)(hi:i<n):i<c:=by
 by_cases e:i=0
 ·have:=hc.1;omega
 ·exact(hc.2.2 i (by omega) hi).1 (okR_at (h i (by omega) hi)).2.1
theorem ci_all {A:Au}{n c:Nat}(h:∀t,1<=t->t<n->okR A t=true)(hc:CI A n n c):c=n:=by
 by_cases e:c<n
 ·have h1:=okR_at (h c hc.1 e)
  have:=(hc.2.2 c hc.1 e).1 (by omega)
  omega
 ·have:=hc.2.1;omega
theorem infoNode:(Try.prog.info? 48).map (·.size)=some 8:=by kernel_rfl
theorem neq_other {P:Program}(w:World){tp te:TypeId}{j:TypeInfo}{a b:Addr}{ca cb:Array Value}{ta tb:TypeId}(hp:P.underlying tp=some (.pointer te))(hte:P.info? te=some j)(hsz:j.size≠0)(hne:a≠b)(ha:w.heap[a.block]?=some (.cells ca ta (0,0)))(hb:w.heap[b.block]?=some (.cells cb tb (0,0))):(binOp .neq tp (.pointer (some a)) (.pointer (some b))).run P w=.ok (.bool true) w:=by
 have h:∀d:Nat,(Op.equalIn (d+1) tp (.pointer (some a)) (.pointer (some b))).run P w=.ok false w:=λd=>by
  simp[Op.equalIn,run_underlying hp,sizeOf,typeInfo,hte,hsz,run_sameAddr_other w hne ha hb]
 simp only[binOp]
 simp[Op.equal,Op.maxDepth,h 9999]
theorem linkStates_any (A:Au)(n:Nat)(w:World)(bl:Nat->Nat)(fl mv:Nat->Value)(T:Trie A n)(hp:∀t,1<=t->t<n->pairAsc A t=true)(hn:n<=2000)(h:TR A n 1 w bl fl mv (λ_=>0)) :
  Calls Try.prog 24 #[ptr (bl 0)] w λr w'=>∃v fl',r=.returned v/\OwnP (w.heap.size+1) w' v ((List.range n).map bl)/\TR A n n w' bl fl' mv (numTo n)/\FrA n bl w w':=by
 obtain⟨ii,hi,hz0,hz1,hz2⟩:=info_parts infoPtrT
 obtain⟨jn,hjn,hjs⟩:=Option.map_eq_some_iff.1 infoNode
 have HT:Hid (Trie A n):=T
 have HP:Hid (∀t,1<=t->t<n->pairAsc A t=true):=hp
 have HR:Hid (TR A n 1 w bl fl mv (λ_=>0)):=h
 have hn1:1<=n:=T.pos
 clear T hp h
 unfold ptr
 go_enter Try.func24,Try.ntmps24
 go_wp2_with fail
 have L0:Hid (LS A n 0 1 0 0 w (w.alloc (.cells #[.slice none 0 0,.int .i64 0] 85)) bl mv (.slice none 0 0) (.slice none 0 0)):=LS.start HR.out _
 generalize hw1:w.alloc (.cells #[.slice none 0 0,.int .i64 0] 85)=w1 at *
 clear hw1
 refine(put_any w.heap.size (w.heap.size+1) (.slice none 0 0) [] 0 (bl 0) w1 L0.out.qb (by exact L0.out.qo) (by omega) (by simp) L0.out.qlt).mono ?_
 rintro r w2 ⟨x,qv,rfl,hb,ho,hat,hk⟩
 have L1:Hid (LS A n 0 1 1 0 w w2 bl mv (.slice none 0 0) qv):=L0.out.put hb ho hat hk
 clear L0 hb ho hat hk
 go_wp2_with fail
 refine(take_some w.heap.size (w.heap.size+1) 0 qv ((List.range 1).map bl) w2 L1.out.qb L1.out.qo (by omega) (by simp) (by simp)).mono ?_
 rintro r w3 ⟨rfl,hb,hk⟩
 have L2:Hid (LS A n 0 1 1 ((0:Nat)+1) w w3 bl mv (.slice none 0 0) qv):=L1.out.took hb hk
 clear L1 hb hk
 rw[nat_range bl (by omega)]
 unfold ptr
 go_wp2
 go_loopw [3,5,6,8,9] (λsv st ok p8 p9 wr=>∃i:Nat,lenOf sv=i/\Hid (∃c qv tk,CI A n i c/\LS A n i c c tk w wr bl mv sv qv/\(i<n->tk=(i:Int)+1))/\((i<n/\st=.pointer (some ⟨bl i,0,none⟩)/\ok=.bool true)\/(i=n/\st=.pointer none/\ok=.bool false))) (λsv _ _ _ _ _=>n-lenOf sv)
 case atStart=>exact⟨0,rfl,⟨1,qv,_,ci_zero HT.out.ok hn1,L2.out,λ_=>rfl⟩,Or.inl ⟨by omega,rfl,rfl⟩⟩
 case round=>
  clear L2
  obtain⟨i,hlen,HS,hc⟩:=hrel
  rcases hc with⟨hin,rfl,rfl⟩|⟨hin,rfl,rfl⟩
  ·obtain⟨c,qv',tk,hci,hls,htk⟩:=HS.out
   rw[htk hin] at hls
   have HCI:Hid (CI A n i c):=hci
   have L3:Hid (LS A n i c c ((i:Int)+1) w wr bl mv u3 qv'):=hls
   obtain⟨av,cv,hvs⟩:=hls.so.slice
   rw[List.length_map,List.length_range] at hvs
   subst hvs
   clear HS hci hls htk hlen
   have HSZ:Hid (w.heap.size<wr.heap.size):=L3.out.qlt
   go_wp2_with (at_builtin;refine wpList_append_own_at _ rfl _ _ 42 rfl (w.heap.size+1) 44 ii (.pointer none) 1 8 Try.underlying42 hi hz0 hz1 hz2 rfl (by decide) _ _ _ rfl (World.ownsRow.alloc (show wr.ownsRow _ _ _ _ _ _ from L3.out.so) _) ⟨wr.heap.size,0,none⟩ 1 1 [ptr (bl i)] rfl rfl (λj u hj=>new_cells wr _ _ _ rfl j u hj) ?c2 ?c3 ?c4 ?c5 ?_)
   case c2=>intro u hu;simp at hu;subst hu;rfl
   case c3=>rw[List.length_map,List.length_range];unfold maxLen;omega
   case c4=>rw[List.length_map,List.length_range];omega
   case c5=>have:=HSZ.out;simp;omega
   intro v7 w7 hown hgrow _ hat
   have L4:Hid (LS A n (i+1) c c ((i:Int)+1) w w7 bl mv v7 qv'):=L3.out.push (OwnP.snoc (by rw[List.length_map,List.length_range];exact hown)) (by simpa using hat) ((But.of_nx (box1 wr _)).grow hgrow (λg hg=>Or.inr hg))
   clear hown hgrow hat L3
   have HX4:Hid (∃m,mv i=.map m/\w7.cell? ⟨bl i,7,none⟩=some (.map m)/\MK w7 (.map m) (kidsL A n bl i)):=by
    obtain⟨flR,hT4⟩:=L4.out.tr
    have kd4:=hT4.kd i hin
    obtain⟨m,hm⟩:=kd4.map
    refine⟨m,hm,?_,?_⟩
    ·rw[<-hm];exact(hT4.nd i hin).cell (i:=7) rfl
    ·rw[<-hm];exact kd4
   obtain⟨m,hm,k7,hmk⟩:=HX4.out
   have HMV:Hid (mv i=.map m):=hm
   have HMK:Hid (MK w7 (.map m) (kidsL A n bl i)):=hmk
   clear HX4 hm hmk
   go_wp2_with fail
   refine(keys_any m w7).mono ?_
   rintro r w8 ⟨rfl,rfl⟩
   go_wp2_with fail
   refine(sorted_any m _ w7 HMK.out (kids_asc bl HP.out) (Nat.le_trans (kids_len A n i bl) (by omega))).mono ?_
   rintro r w9 ⟨kv,rfl,hkv,hx⟩
   have L5:Hid (LS A n (i+1) c c ((i:Int)+1) w w9 bl mv v7 qv'):=L4.out.next hx
   have HKN:Hid (∃k,CI A n (i+1) (c+k)/\kidsL A n bl i=(List.range' c k).map (λt=>(iat A.la t,bl t))):=kids_run bl HP.out hn1 HCI.out
   obtain⟨k,hck,hkr⟩:=HKN.out
   have HCK:Hid (CI A n (i+1) (c+k)):=hck
   have hzs:(kidsL A n bl i).map (·.1)=(List.range' c k).map (iat A.la):=by rw[hkr,List.map_map];rfl
   rw[hzs] at hkv
   obtain⟨ak,ck,hks⟩:=hkv.slice
   rw[List.length_map,List.length_range'] at hks
   subst hks
   have HKV:Hid (OwnI w7.heap.size w9 (.slice ak k ck) ((List.range' c k).map (iat A.la))):=hkv
   have HC7:Hid (w.heap.size<w7.heap.size):=L4.out.qlt
   have HD0:Hid (∀g,qv'.ownBlock=some g->(Value.slice ak k ck).ownBlock≠some g):=λg e e'=>by
    have:=(own_lt L4.out.qo g e).2
    have:=(own_lt hkv g e').1
    omega
   have hkn:c+k<=n:=hck.2.1
   clear hkv hx HKN hck hkr hzs k7 L4 HMK
   go_wp2
   rename World=>wo
   go_loopw [8,9,34] (λe ch jv wi=>∃j:Nat,j<=k/\jv=.int .i64 j/\Hid (LI A n i c j w wi bl mv v7 (.slice ak k ck) ((List.range' c k).map (iat A.la)) w7.heap.size)) (λ_ _ jv _=>k-(intOf jv).toNat)
   case atStart=>exact⟨0,Nat.zero_le _,rfl,⟨⟨qv',L5.out,HD0.out⟩,HKV.out,HC7.out⟩⟩
   clear L5 HKV HD0
   obtain⟨j,hjk,rfl,HI⟩:=hrel
   by_cases hj:j<k
   ·have hj':(j:Int)<k:=by omega
    obtain⟨qj,hls,hd⟩:=HI.out.ls
    obtain⟨g,hag,hcg⟩:=HI.out.kr.cell (i:=j) (by simpa using hj)
    subst hag
    have hz:iat ((List.range' c k).map (iat A.la)) j=iat A.la (c+j):=by simp[iat,List.getD,hj]
    rw[hz] at hcg
    have hc1:1<=c:=HCI.out.1
    have hIC:IsCh A n i (iat A.la (c+j)) (c+j):=⟨by omega,by omega,by
     have a:=HCI.out.2.2 (c+j) (by omega) (by omega)
     have b:=HCK.out.2.2 (c+j) (by omega) (by omega)
     omega,rfl⟩
    have HIC:Hid (IsCh A n i (iat A.la (c+j)) (c+j)):=hIC
    have hok:=okR_at (HT.out.ok (c+j) (by omega) (by omega))
    have HWF:Hid ((Lit.int .i64 (iat A.la (c+j))).wf=true):=wf_small hok.2.2.1 hok.2.2.2
    have HX5:Hid (∃flj,TR A n (c+j) wr bl flj mv (λ_=>0)):=hls.tr
    obtain⟨flj,hTj⟩:=HX5.out
    have k7:wr.cell? ⟨bl i,7,none⟩=some (.map m):=by rw[<-HMV.out];exact(hTj.nd i hin).cell (i:=7) rfl
    have hlk:=(hTj.kd i hin).look HWF.out
    rw[HMV.out,kid_at HP.out hIC] at hlk
    unfold ptrO ptr at hlk
    have z6:=(hTj.nd (c+j) (by omega)).frozen 6
    have k6:wr.cell? ⟨bl (c+j),6,none⟩=some (flj (c+j)):=(hTj.nd (c+j) (by omega)).cell (i:=6) rfl
    have L6:Hid (LS A n (i+1) (c+j) (c+j) ((i:Int)+1) w wr bl mv v7 qj):=hls
    have HD:Hid (∀g',qj.ownBlock=some g'->(Value.slice (some ⟨g,0,none⟩) k ck).ownBlock≠some g'):=hd
    have HK6:Hid (OwnI w7.heap.size wr (.slice (some ⟨g,0,none⟩) k ck) ((List.range' c k).map (iat A.la))):=HI.out.kr
    have hbt:bl (c+j)<w.heap.size:=hls.bb _ (by omega)
    have HBT:Hid (bl (c+j)<w.heap.size):=hbt
    clear hls hd HI hz hIC hok HX5 hTj hbt
    by_cases hi0:i=0
    ·subst hi0
     have HFO:Hid (failOf A n (c+j)=0):=by unfold Hid;rw[fail_child HT.out hin HIC.out];rfl
     have L7:Hid (LS A n (0+1) (c+j+1) (c+j) (((0:Nat):Int)+1) w (wr.setCell ⟨bl (c+j),6,none⟩ (.pointer (some ⟨bl 0,0,none⟩))) bl mv v7 qj):=L6.out.failed (by omega) (by omega) (bl 0) (by rw[HFO.out])
     have HK7:Hid (OwnI w7.heap.size (wr.setCell ⟨bl (c+j),6,none⟩ (.pointer (some ⟨bl 0,0,none⟩))) (.slice (some ⟨g,0,none⟩) k ck) ((List.range' c k).map (iat A.la))):=own_store HK6.out (by have:=HBT.out;have:=HC7.out;omega) _ _
     generalize iat A.la (c+j)=e at *
     go_wp2_with fail
     generalize hw9:wr.setCell ⟨bl (c+j),6,none⟩ (.pointer (some ⟨bl 0,0,none⟩))=wf at *
     clear hw9
     rw[Go.Lib.run_neq_ptr_same wf _ Try.underlying44 hjn]
     go_wp2_with fail
     refine(put_any w.heap.size (w.heap.size+1) qj ((List.range (c+j)).map bl) _ (bl (c+j)) wf L7.out.qb L7.out.qo (by omega) (by simp;omega) L7.out.qlt).mono ?_
     rintro r wg ⟨x',qg,rfl,hb,ho,hat,hk⟩
     have L8:Hid (LI A n 0 c (j+1) w wg bl mv v7 (.slice (some ⟨g,0,none⟩) k ck) ((List.range' c k).map (iat A.la)) w7.heap.size):=LI.put L7.out HD.out HK7.out HC7.out hb ho hat hk
     clear hb ho hat hk k6 k7 z6 hlk hcg
     go_wp2
     go_roundw
     case rel=>exact⟨j+1,by omega,by go_num,L8⟩
     case measure=>simp[intOf];omega
    ·have L7:Hid (LS A n (i+1) (c+j) (c+j) ((i:Int)+1) w (wr.setCell ⟨bl (c+j),6,none⟩ (.pointer (some ⟨bl 0,0,none⟩))) bl mv v7 qj):=L6.out.fail (by omega) (by omega) (Nat.le_refl _) _
     have HK7:Hid (OwnI w7.heap.size (wr.setCell ⟨bl (c+j),6,none⟩ (.pointer (some ⟨bl 0,0,none⟩))) (.slice (some ⟨g,0,none⟩) k ck) ((List.range' c k).map (iat A.la))):=own_store HK6.out (by have:=HBT.out;have:=HC7.out;omega) _ _
     have HFC:Hid (failOf A n (c+j)=goOf A n (failOf A n i) (iat A.la (c+j))):=by unfold Hid;rw[fail_child HT.out hin HIC.out,if_neg hi0]
     generalize iat A.la (c+j)=e at *
     go_wp2_with fail
     generalize hw9:wr.setCell ⟨bl (c+j),6,none⟩ (.pointer (some ⟨bl 0,0,none⟩))=wf at *
     clear hw9 k6 k7 z6 hlk hcg HK6 L6
     have hic:i<c:=ci_lt HT.out.ok HCI.out hin
     have HX7:Hid (∃fl7,TR A n (c+j) wf bl fl7 mv (λ_=>0)):=L7.out.tr
     obtain⟨fl7,hT7⟩:=HX7.out
     have HT7:Hid (TR A n (c+j) wf bl fl7 mv (λ_=>0)):=hT7
     have k6:wf.cell? ⟨bl i,6,none⟩=some (.pointer (some ⟨bl (failOf A n i),0,none⟩)):=by
      have:=(hT7.nd i hin).cell (i:=6) rfl
      rw[hT7.fs i (by omega) (by omega)] at this
      exact this
     have z6:=(hT7.nd (c+j) (by omega)).frozen 6
     have k6':wf.cell? ⟨bl (c+j),6,none⟩=some (fl7 (c+j)):=(hT7.nd (c+j) (by omega)).cell (i:=6) rfl
     have hbi:bl i≠bl 0:=λe=>hi0 (hT7.inj i 0 hin (by omega) e)
     have hbn:(⟨bl i,0,none⟩:Addr)≠⟨bl 0,0,none⟩:=λe=>hbi (congrArg Addr.block e)
     have hq:=neq_other wf Try.underlying44 hjn (by rw[hjs];decide) hbn (hT7.nd i hin).choose_spec (hT7.nd 0 (by omega)).choose_spec
     rw[hq]
     clear hq hT7 HX7 hbn hbi
     go_wp2_with fail
     refine(longest_any A n (c+j) (failOf A n i) e wf bl fl7 mv _ HT.out HT7.out (by omega) (by have:=(fail_spec HT.out (s:=i) (by omega) hin).2;omega) HWF.out).mono ?_
     rintro r wx ⟨rfl,rfl⟩
     have L9:Hid (LS A n (i+1) (c+j+1) (c+j) ((i:Int)+1) w (wx.setCell ⟨bl (c+j),6,none⟩ (.pointer (some ⟨bl (goOf A n (failOf A n i) e),0,none⟩))) bl mv v7 qj):=L7.out.failed (by omega) (by omega) _ (by rw[HFC.out])
     have HK9:Hid (OwnI w7.heap.size (wx.setCell ⟨bl (c+j),6,none⟩ (.pointer (some ⟨bl (goOf A n (failOf A n i) e),0,none⟩))) (.slice (some ⟨g,0,none⟩) k ck) ((List.range' c k).map (iat A.la))):=own_store HK7.out (by have:=HBT.out;have:=HC7.out;omega) _ _
     unfold ptr
     go_wp2_with fail
     generalize hw9:wx.setCell ⟨bl (c+j),6,none⟩ (.pointer (some ⟨bl (goOf A n (failOf A n i) e),0,none⟩))=wz at *
     clear hw9
     refine(put_any w.heap.size (w.heap.size+1) qj ((List.range (c+j)).map bl) _ (bl (c+j)) wz L9.out.qb L9.out.qo (by omega) (by simp;omega) L9.out.qlt).mono ?_
     rintro r wg ⟨x',qg,rfl,hb,ho,hat,hk⟩
     have L8:Hid (LI A n i c (j+1) w wg bl mv v7 (.slice (some ⟨g,0,none⟩) k ck) ((List.range' c k).map (iat A.la)) w7.heap.size):=LI.put L9.out HD.out HK9.out HC7.out hb ho hat hk
     clear hb ho hat hk k6 k6' z6
     go_wp2
     go_roundw
     case rel=>exact⟨j+1,by omega,by go_num,L8⟩
     case measure=>simp[intOf];omega
   ·obtain rfl:j=k:=by omega
    obtain⟨qj,hls,hd⟩:=HI.out.ls
    have L8:Hid (LS A n (i+1) (c+j) (c+j) ((i:Int)+1) w wr bl mv v7 qj):=hls
    have HLEN:Hid (lenOf v7=i+1):=by
     obtain⟨a',c',e⟩:=hls.so.slice
     unfold Hid
     rw[e]
     simp[lenOf]
    have hcast:((i+1:Nat):Int)=(i:Int)+1:=by omega
    have HCA:Hid (((i+1:Nat):Int)=(i:Int)+1):=hcast
    clear hls hd HI hj hcast
    go_wp2_with fail
    by_cases hlast:i+1<n
    ·have hlt:i+1<c+j:=ci_lt HT.out.ok HCK.out hlast
     refine(take_some w.heap.size (w.heap.size+1) (i+1) qj ((List.range (c+j)).map bl) wr (by rw[HCA.out];exact L8.out.qb) L8.out.qo (by omega) (by simpa using hlt) (by simp;omega)).mono ?_
     rintro r w3 ⟨rfl,hb,hk⟩
     have L9:Hid (LS A n (i+1) (c+j) (c+j) (((i+1:Nat):Int)+1) w w3 bl mv v7 qj):=L8.out.took hb hk
     clear hb hk L8
     rw[nat_range bl hlt]
     unfold ptr
     go_wp2
     go_roundw
     case rel=>exact⟨i+1,HLEN.out,⟨c+j,qj,_,HCK.out,L9.out,λ_=>rfl⟩,Or.inl ⟨hlast,rfl,rfl⟩⟩
     case measure=>rw[HLEN.out];show n-(i+1)<n-i;omega
    ·have hin':i+1=n:=by omega
     have HCN:Hid (c+j=i+1):=by
      have:=HCK.out
      rw[hin'] at this
      unfold Hid
      rw[ci_all HT.out.ok this,hin']
     refine(take_none w.heap.size (w.heap.size+1) qj ((List.range (c+j)).map bl) wr (by rw[List.length_map,List.length_range,HCN.out,HCA.out];exact L8.out.qb) L8.out.qo).mono ?_
     rintro r w3 ⟨rfl,hx⟩
     have L9:Hid (LS A n (i+1) (c+j) (c+j) ((i:Int)+1) w w3 bl mv v7 qj):=L8.out.next hx
     have HIN:Hid (i+1=n):=hin'
     clear hx L8 hin'
     go_wp2
     go_roundw
     case rel=>exact⟨i+1,HLEN.out,⟨c+j,qj,_,HCK.out,L9.out,λh=>absurd h hlast⟩,Or.inr ⟨HIN.out,rfl,rfl⟩⟩
     case measure=>rw[HLEN.out];show n-(i+1)<n-i;omega
  ·subst hin
   have HE:Hid (OwnP (w.heap.size+1) wr u3 ((List.range i).map bl)/\(∃fl',TR A i i wr bl fl' mv (numTo 0))/\FrA i bl w wr/\∀t,t<i->bl t<w.heap.size):=by
    obtain⟨c,qv',tk,hci,hls,_⟩:=HS.out
    obtain rfl:=ci_all HT.out.ok hci
    have e0:numTo 0=λ_=>0:=by funext s;simp[numTo]
    rw[Hid,e0]
    exact⟨hls.so,hls.tr,hls.fr,hls.bb⟩
   obtain⟨av,cv,hvs⟩:=HE.out.1.slice
   rw[List.length_map,List.length_range] at hvs
   subst hvs
   have HBB:Hid (∀t,t<i->bl t<w.heap.size):=HE.out.2.2.2
   clear HS hlen
   go_wp2
   rename World=>wo
   go_loopw [10,11,65] (λp10 p11 jv wi=>∃j:Nat,j<=i/\jv=.int .i64 j/\Hid (OwnP (w.heap.size+1) wi (.slice av i cv) ((List.range i).map bl))/\Hid (∃fl',TR A i i wi bl fl' mv (numTo j))/\Hid (FrA i bl w wi)) (λ_ _ jv _=>i-(intOf jv).toNat)
   case atStart=>exact⟨0,Nat.zero_le _,rfl,HE.out.1,HE.out.2.1,HE.out.2.2.1⟩
   clear HE
   obtain⟨j,hji,rfl,HO,HR2,HF⟩:=hrel
   by_cases hj:j<i
   ·have hj':(j:Int)<i:=by omega
    obtain⟨g,hag,hcg⟩:=HO.out.cell (i:=j) (by simpa using hj)
    subst hag
    rw[nat_range bl hj] at hcg
    unfold ptr at hcg
    have HX:Hid (∃fl',TR A i i wr bl fl' mv (numTo j)):=HR2
    obtain⟨fl',hT⟩:=HX.out
    have z0:=(hT.nd j hj).frozen 0
    have k0:wr.cell? ⟨bl j,0,none⟩=some (.int .i64 (numTo j j)):=(hT.nd j hj).cell (i:=0) rfl
    have HT2:Hid (∃fl',TR A i i (wr.setCell ⟨bl j,0,none⟩ (.int .i64 (j:Int))) bl fl' mv (numTo (j+1))):=⟨fl',by rw[<-numTo_up];exact hT.setNum hj _⟩
    have HO2:Hid (OwnP (w.heap.size+1) (wr.setCell ⟨bl j,0,none⟩ (.int .i64 (j:Int))) (.slice (some ⟨g,0,none⟩) i cv) ((List.range i).map bl)):=own_store HO.out (by have:=HBB.out j hj;omega) _ _
    have HF2:Hid (FrA i bl w (wr.setCell ⟨bl j,0,none⟩ (.int .i64 (j:Int)))):=HF.out.set hj _ _
    clear hT HX
    go_wp2
    go_roundw
    case rel=>exact⟨j+1,by omega,by go_num,HO2,HT2,HF2⟩
    case measure=>simp[intOf];omega
   ·obtain rfl:j=i:=by omega
    clear hj
    go_wp2
    go_ret
    obtain⟨fl',hT⟩:=HR2.out
    exact⟨_,fl',rfl,HO.out,hT,HF.out⟩
end Go.Proofs.Ytdpfdkihbgmapaa
