import Derived.Test.YtdpfdkihbgmapaaGreatXAZ
namespace Go.Proofs.YtdpfdkihbgmapaaGreat
open Go.RowKit Go.Maps
set_option linter.unusedVariables false
set_option maxRecDepth 1000000
set_option maxHeartbeats 16000000
theorem own_set {w:World}{P:Program}{k:TypeId}{R:Value->Option (DataW Unit×List MemPlace)}{mb n b i:Nat}{D:DataW Unit}(h:w.ownsMap P k R mb n D)(hne:mb≠b)(v:Value):(w.setCell ⟨b,i,none⟩ v).ownsMap P k R mb n D:=by
 obtain⟨es,clock,hb,r⟩:=h
 exact⟨es,clock,(Below.heap_setCell _ _ _ _ hne).trans hb,r⟩
theorem Blk.grownB {w w':World}{o:Option Nat}{b:Nat}{cs:Array Value}(h:Blk w b cs)(k:w.grownBy w' o)(hn:some b≠o):Blk w' b cs:=by
 have hl:=h.lt
 obtain⟨t,hb⟩:=h
 exact⟨t,(k.block b hl hn).trans hb⟩
theorem But.of_nx {o o':Option Nat}{w w':World}(h:Nx w w'):But o o' w w':=⟨h.os,h.tape,h.output,h.size,λb hb _ _=>h.block b hb⟩
theorem But.set {o o':Option Nat}{w w':World}(h:But o o' w w'){g i:Nat}(hg:o=some g)(u:Value):But o o' w (w'.setCell ⟨g,i,none⟩ u):=
 ⟨h.os,h.tape,h.output,by simpa [World.setCell] using h.size,λb hb hn hn'=>(Below.heap_setCell _ _ _ _ (λe=>hn (by rw[hg,e]))).trans (h.block b hb hn hn')⟩
theorem But.alloc {o o':Option Nat}{w w':World}(h:But o o' w w')(x:Obj):But o o' w (w'.alloc x):=
 ⟨h.os,h.tape,h.output,by rw[size_alloc'];have:=h.size;omega,λb hb hn hn'=>((box1 w' x).block b (by have:=h.size;omega)).trans (h.block b hb hn hn')⟩
theorem size_set' (w:World)(a:Addr)(v:Value):(w.setCell a v).heap.size=w.heap.size:=by simp[World.setCell]
theorem But.grow {o o' r:Option Nat}{w w' w2:World}(h:But o o' w w')(k:w'.grownBy w2 r)(hr:∀g,r=some g->w.heap.size<=g\/o'=some g):But o o' w w2:=
 ⟨k.os.trans h.os,k.tape.trans h.tape,k.output.trans h.output,Nat.le_trans h.size k.size,λb hb hn hn'=>(k.block b (Nat.lt_of_lt_of_le hb h.size) (λe=>by
  rcases hr b e.symm with h1|h1
  ·omega
  ·exact hn' h1.symm)).trans (h.block b hb hn hn')⟩
theorem newRoot_any (w:World):Calls Tryz.prog 40 #[] w λr w'=>r=.returned (ptr w.heap.size)/\Blk w' w.heap.size (node 0 0 (-1) (-1) false (.pointer none) (.pointer none) (.map none))/\Nx w w':=by
 go_enter Tryz.func40,Tryz.ntmps40
 go_wp2
 go_ret
 exact⟨rfl,Blk.new w _ _ _ rfl,box1 _ _⟩
theorem numberOf_nil (w:World):Calls Tryz.prog 34 #[.pointer none] w λr w'=>r=.returned (.int .i64 (-1))/\w'=w:=by
 go_enter Tryz.func34,Tryz.ntmps34
 go_wp2
 go_ret
 exact⟨rfl,rfl⟩
theorem numberOf_any (b:Nat)(num len last must:Int)(bad:Bool)(par fl m:Value)(w:World)(h:Blk w b (node num len last must bad par fl m)):Calls Tryz.prog 34 #[ptr b] w λr w'=>r=.returned (.int .i64 num)/\w'=w:=by
 have k0:w.cell? ⟨b,0,none⟩=some (.int .i64 num):=h.cell (i:=0) rfl
 unfold ptr
 go_enter Tryz.func34,Tryz.ntmps34
 go_wp2
 go_ret
 exact⟨rfl,rfl⟩
theorem grow_nil (b:Nat)(num len last must:Int)(bad:Bool)(par fl:Value)(e:Int)(w:World)(hb:Blk w b (node num len last must bad par fl (.map none)))(hl0:0<=len)(hl1:len<=100000)(hw:(Lit.int .i64 e).wf=true) :
  Calls Tryz.prog 41 #[ptr b,.int .i64 e] w λr w'=>r=.returned (ptr w.heap.size)/\Blk w' w.heap.size (node 0 (len+1) e (-1) false (ptr b) (.pointer none) (.map none))/\Blk w' b (node num len last must bad par fl (.map (some (w.heap.size+1))))/\MK w' (.map (some (w.heap.size+1))) [(e,w.heap.size)]/\But (some b) none w w':=by
 have HB:Hid (Blk w b (node num len last must bad par fl (.map none))):=hb
 have k1:w.cell? ⟨b,1,none⟩=some (.int .i64 len):=hb.cell (i:=1) rfl
 have hlt:=hb.lt
 have hwl:IntKind.i64.wrap (len+1)=len+1:=by rw[IntKind.wrap_i64];omega
 unfold ptr
 go_enter Tryz.func41,Tryz.ntmps41
 go_upto_region 2 with fail
 have B1:=HB.out.alloc (.cells #[.int .i64 0,.int .i64 (len+1),.int .i64 e,.int .i64 (-1),.bool false,.pointer (some ⟨b,0,none⟩),.pointer none,.map none] 60)
 have HB1:Hid (Blk (w.alloc (.cells #[.int .i64 0,.int .i64 (len+1),.int .i64 e,.int .i64 (-1),.bool false,.pointer (some ⟨b,0,none⟩),.pointer none,.map none] 60)) b (node num len last must bad par fl (.map none))):=B1
 have BC:=Blk.new w #[.int .i64 0,.int .i64 (len+1),.int .i64 e,.int .i64 (-1),.bool false,.pointer (some ⟨b,0,none⟩),.pointer none,.map none] 60 _ rfl
 have HBC:Hid (Blk (w.alloc (.cells #[.int .i64 0,.int .i64 (len+1),.int .i64 e,.int .i64 (-1),.bool false,.pointer (some ⟨b,0,none⟩),.pointer none,.map none] 60)) w.heap.size (node 0 (len+1) e (-1) false (ptr b) (.pointer none) (.map none))):=BC
 have HN1:Hid (Nx w (w.alloc (.cells #[.int .i64 0,.int .i64 (len+1),.int .i64 e,.int .i64 (-1),.bool false,.pointer (some ⟨b,0,none⟩),.pointer none,.map none] 60))):=box1 _ _
 clear B1 BC hb k1
 generalize hw1:w.alloc (.cells #[.int .i64 0,.int .i64 (len+1),.int .i64 e,.int .i64 (-1),.bool false,.pointer (some ⟨b,0,none⟩),.pointer none,.map none] 60)=w1 at *
 have hz1:w1.heap.size=w.heap.size+1:=by rw[<-hw1];exact size_alloc' w _
 have HZ1:Hid (w1.heap.size=w.heap.size+1):=hz1
 clear hw1 hz1
 have k7:w1.cell? ⟨b,7,none⟩=some (.map none):=HB1.out.cell (i:=7) rfl
 have z7:=HB1.out.frozen 7
 have hbl:b<w1.heap.size:=HB1.out.lt
 have q53:∀(w:World) (r:Option Nat),(binOp .eql 58 (.map r) (.map none)).run Tryz.prog w=.ok (.bool r.isNone) w:=λw r=>run_eql_map_nil w _ _ _ r Tryz.underlying58
 have qmk:∀w:World,(Instr.makeMap 58 none).run Tryz.prog w=.ok (.map (some w.heap.size)) (w.alloc (.map #[] 0)):=λw=>run_makeMap _ w
 have B2:=HB1.out.alloc (.map #[] 0)
 have k7':(w1.alloc (.map #[] 0)).cell? ⟨b,7,none⟩=some (.map none):=B2.cell (i:=7) rfl
 have z7':=B2.frozen 7
 have HB3:Hid (Blk ((w1.setCell ⟨b,7,none⟩ (.map (some w1.heap.size))).alloc (.map #[] 0)) b (node num len last must bad par fl (.map (some w1.heap.size)))):=(HB1.out.set 7 _).alloc _
 have HM3:Hid (((w1.setCell ⟨b,7,none⟩ (.map (some w1.heap.size))).alloc (.map #[] 0)).ownsMap Tryz.prog 2 ptrR w1.heap.size 0 (kidsD [])):=by
  have:=World.ownsMap_made (w1.setCell ⟨b,7,none⟩ (.map (some w1.heap.size))) Tryz.prog 2 ptrR
  rw[size_set'] at this
  exact this
 have HC3:Hid (Blk ((w1.setCell ⟨b,7,none⟩ (.map (some w1.heap.size))).alloc (.map #[] 0)) w.heap.size (node 0 (len+1) e (-1) false (ptr b) (.pointer none) (.map none))):=(HBC.out.setOther (by omega) _ _).alloc _
 have HW3:Hid (But (some b) none w ((w1.setCell ⟨b,7,none⟩ (.map (some w1.heap.size))).alloc (.map #[] 0))):=((But.of_nx HN1.out).set rfl _).alloc _
 have k8:((w1.setCell ⟨b,7,none⟩ (.map (some w1.heap.size))).alloc (.map #[] 0)).cell? ⟨b,7,none⟩=some (.map (some w1.heap.size)):=HB3.out.cell (i:=7) rfl
 clear B2
 go_upto_region 4 with fail
 clear k7 z7 k7' z7' qmk
 generalize hw3:(w1.setCell ⟨b,7,none⟩ (.map (some w1.heap.size))).alloc (.map #[] 0)=w3 at *
 clear hw3
 go_wp2_with (at_mapUpdate;refine wpList_mapUpdate_own _ rfl _ _ _ 58 rfl 2 56 keyI Tryz.underlying58 ptrR w1.heap.size 0 (kidsD []) rfl HM3.out (by simp[maxLen]) (.int .i64 e) (.pointer (some ⟨w.heap.size,0,none⟩)) (.int .i64 e) rfl rfl (keyOf_int_mk Tryz.underlying2 hw) (.lit (.int .i64 (w.heap.size:Int))) [] rfl ?_)
 intro w4 hown hg
 have HM4:Hid (MK w4 (.map (some w1.heap.size)) [(e,w.heap.size)]):=Or.inr ⟨_,rfl,by rw[kids_put _ (by simp)] at hown;exact hown⟩
 have HC4:Hid (Blk w4 w.heap.size (node 0 (len+1) e (-1) false (ptr b) (.pointer none) (.map none))):=HC3.out.grownB hg (by have:=HZ1.out;intro e;have:=Option.some.inj e;omega)
 have HB4:Hid (Blk w4 b (node num len last must bad par fl (.map (some w1.heap.size)))):=HB3.out.grownB hg (by intro e;have:=Option.some.inj e;omega)
 have HW4:Hid (But (some b) none w w4):=HW3.out.grow hg (λg hg=>Or.inl (by have:=HZ1.out;have:=Option.some.inj hg;omega))
 clear hown hg k8
 go_wp2
 go_ret
 rw[HZ1.out] at HM4 HB4
 exact⟨rfl,HC4.out,HB4.out,HM4.out,HW4.out⟩
theorem grow_some (b mb:Nat)(num len last must:Int)(bad:Bool)(par fl:Value)(ks:List (Int×Nat))(e:Int)(w:World)(hb:Blk w b (node num len last must bad par fl (.map (some mb))))(hm:w.ownsMap Tryz.prog 2 ptrR mb ks.length (kidsD ks))(he:∀p∈ks,p.1<e)(hks:ks.length<=4000)(hl0:0<=len)(hl1:len<=100000)(hw:(Lit.int .i64 e).wf=true) :
  Calls Tryz.prog 41 #[ptr b,.int .i64 e] w λr w'=>r=.returned (ptr w.heap.size)/\Blk w' w.heap.size (node 0 (len+1) e (-1) false (ptr b) (.pointer none) (.map none))/\Blk w' b (node num len last must bad par fl (.map (some mb)))/\MK w' (.map (some mb)) (ks++[(e,w.heap.size)])/\But none (some mb) w w':=by
 have HB:Hid (Blk w b (node num len last must bad par fl (.map (some mb)))):=hb
 have HM:Hid (w.ownsMap Tryz.prog 2 ptrR mb ks.length (kidsD ks)):=hm
 have HE:Hid (∀p∈ks,p.1<e):=he
 have HNE:Hid (b≠mb):=by
  intro e0
  subst e0
  obtain⟨t,h1⟩:=hb
  obtain⟨es,clock,h2,_⟩:=hm
  rw[h1] at h2
  simp at h2
 have HML:Hid (mb<w.heap.size):=hm.lt
 have k1:w.cell? ⟨b,1,none⟩=some (.int .i64 len):=hb.cell (i:=1) rfl
 have hlt:=hb.lt
 have hwl:IntKind.i64.wrap (len+1)=len+1:=by rw[IntKind.wrap_i64];omega
 clear hm he
 unfold ptr
 go_enter Tryz.func41,Tryz.ntmps41
 go_upto_region 2 with fail
 have HB1:Hid (Blk (w.alloc (.cells #[.int .i64 0,.int .i64 (len+1),.int .i64 e,.int .i64 (-1),.bool false,.pointer (some ⟨b,0,none⟩),.pointer none,.map none] 60)) b (node num len last must bad par fl (.map (some mb)))):=HB.out.alloc _
 have HBC:Hid (Blk (w.alloc (.cells #[.int .i64 0,.int .i64 (len+1),.int .i64 e,.int .i64 (-1),.bool false,.pointer (some ⟨b,0,none⟩),.pointer none,.map none] 60)) w.heap.size (node 0 (len+1) e (-1) false (ptr b) (.pointer none) (.map none))):=Blk.new w _ 60 _ rfl
 have HN1:Hid (Nx w (w.alloc (.cells #[.int .i64 0,.int .i64 (len+1),.int .i64 e,.int .i64 (-1),.bool false,.pointer (some ⟨b,0,none⟩),.pointer none,.map none] 60))):=box1 _ _
 have HM1:Hid ((w.alloc (.cells #[.int .i64 0,.int .i64 (len+1),.int .i64 e,.int .i64 (-1),.bool false,.pointer (some ⟨b,0,none⟩),.pointer none,.map none] 60)).ownsMap Tryz.prog 2 ptrR mb ks.length (kidsD ks)):=HM.out.alloc _
 clear hb k1
 generalize hw1:w.alloc (.cells #[.int .i64 0,.int .i64 (len+1),.int .i64 e,.int .i64 (-1),.bool false,.pointer (some ⟨b,0,none⟩),.pointer none,.map none] 60)=w1 at *
 clear hw1
 have k7:w1.cell? ⟨b,7,none⟩=some (.map (some mb)):=HB1.out.cell (i:=7) rfl
 have q53:∀(w:World) (r:Option Nat),(binOp .eql 58 (.map r) (.map none)).run Tryz.prog w=.ok (.bool r.isNone) w:=λw r=>run_eql_map_nil w _ _ _ r Tryz.underlying58
 go_wp2_with (at_mapUpdate;refine wpList_mapUpdate_own _ rfl _ _ _ 58 rfl 2 56 keyI Tryz.underlying58 ptrR mb ks.length (kidsD ks) rfl HM1.out (by unfold maxLen;omega) (.int .i64 e) (.pointer (some ⟨w.heap.size,0,none⟩)) (.int .i64 e) rfl rfl (keyOf_int_mk Tryz.underlying2 hw) (.lit (.int .i64 (w.heap.size:Int))) [] rfl ?_)
 intro w4 hown hg
 have HM4:Hid (MK w4 (.map (some mb)) (ks++[(e,w.heap.size)])):=Or.inr ⟨_,rfl,by rw[kids_put _ HE.out] at hown;rw[List.length_append];exact hown⟩
 have HC4:Hid (Blk w4 w.heap.size (node 0 (len+1) e (-1) false (ptr b) (.pointer none) (.map none))):=HBC.out.grownB hg (by intro e;have:=Option.some.inj e;have:=HML.out;omega)
 have HB4:Hid (Blk w4 b (node num len last must bad par fl (.map (some mb)))):=HB1.out.grownB hg (by intro e;exact HNE.out (Option.some.inj e))
 have HW4:Hid (But none (some mb) w w4):=(But.of_nx HN1.out).grow hg (λg hg=>Or.inr hg)
 clear hown hg k7
 go_wp2
 go_ret
 exact⟨rfl,HC4.out,HB4.out,HM4.out,HW4.out⟩
theorem grow_any (b:Nat)(num len last must:Int)(bad:Bool)(par fl m:Value)(ks:List (Int×Nat))(e:Int)(w:World)(hb:Blk w b (node num len last must bad par fl m))(hm:MK w m ks)(he:∀p∈ks,p.1<e)(hks:ks.length<=4000)(hl0:0<=len)(hl1:len<=100000)(hw:(Lit.int .i64 e).wf=true) :
  Calls Tryz.prog 41 #[ptr b,.int .i64 e] w λr w'=>∃m',r=.returned (ptr w.heap.size)/\Blk w' w.heap.size (node 0 (len+1) e (-1) false (ptr b) (.pointer none) (.map none))/\Blk w' b (node num len last must bad par fl m')/\MK w' m' (ks++[(e,w.heap.size)])/\(mapBlk m'=mapBlk m\/mapBlk m'=some (w.heap.size+1))/\But (some b) (mapBlk m) w w':=by
 rcases hm with⟨rfl,rfl⟩|⟨mb,rfl,hm⟩
 ·refine(grow_nil b num len last must bad par fl e w hb hl0 hl1 hw).mono ?_
  rintro r w' ⟨h1,h2,h3,h4,h5⟩
  exact⟨_,h1,h2,h3,h4,Or.inr rfl,h5⟩
 ·refine(grow_some b mb num len last must bad par fl ks e w hb hm he hks hl0 hl1 hw).mono ?_
  rintro r w' ⟨h1,h2,h3,h4,h5⟩
  exact⟨_,h1,h2,h3,h4,Or.inl rfl,⟨h5.os,h5.tape,h5.output,h5.size,λx hx _ hn=>h5.block x hx (by simp) hn⟩⟩
theorem MK.look {w:World}{m:Value}{ks:List (Int×Nat)}(h:MK w m ks){e:Int}(hw:(Lit.int .i64 e).wf=true):(Instr.lookup 58 m (.int .i64 e) false).run Tryz.prog w=.ok (ptrO (kidOf ks e)) w:=by
 rcases h with⟨rfl,rfl⟩|⟨mb,rfl,h⟩
 ·simp[Instr.lookup,kidOf,ptrO]
  have hc:=keyI.check w true (keyOf_int_mk Tryz.underlying2 hw)
  have hz:=zeroPtr w
  rcases keyI.find w (keyOf_int_mk Tryz.underlying2 hw) [] (by simp) with⟨hf,_⟩|⟨j,x,_,h2,_⟩
  ·simp[hc,hf,hz,Result.andThen]
  ·simp at h2
 ·obtain⟨v,ps,hrun,hv⟩:=h.lookup keyI Tryz.underlying58 (zeroPtr w) (zd:=.lit (.int .i64 (-1))) (zp:=[]) rfl (keyOf_int_mk Tryz.underlying2 hw)
  rw[kids_at] at hv
  rw[hrun]
  cases hk:kidOf ks e with
  |none=>
   rw[hk] at hv
   rcases ptrR_invA hv with⟨_,rfl⟩|⟨b,hb,_⟩
   ·rfl
   ·simp at hb
  |some c=>
   rw[hk] at hv
   rcases ptrR_invA hv with⟨hb,_⟩|⟨b,hb,rfl⟩
   ·simp at hb
   ·have hb':c=b:=by simp at hb;omega
    subst hb'
    rfl
def kidsL (A:Au)(n:Nat)(bl:Nat->Nat)(s:Nat):List (Int×Nat):=((List.range n).filter (λt=>decide (1<=t/\iat A.pa t=s))).map (λt=>(iat A.la t,bl t))
theorem kid_yes {A:Au}{n s:Nat}{bl:Nat->Nat}{e:Int}{b:Nat}(h:kidOf (kidsL A n bl s) e=some b):∃t,IsCh A n s e t/\b=bl t:=by
 unfold kidOf at h
 rw[Option.map_eq_some_iff] at h
 obtain⟨p,hp,rfl⟩:=h
 have h1:=List.find?_some hp
 have h2:=List.mem_of_find?_eq_some hp
 unfold kidsL at h2
 obtain⟨t,ht,rfl⟩:=List.mem_map.1 h2
 rw[List.mem_filter,List.mem_range] at ht
 simp at h1 ht
 exact⟨t,⟨ht.2.1,ht.1,ht.2.2,h1⟩,rfl⟩
theorem kid_no {A:Au}{n s:Nat}{bl:Nat->Nat}{e:Int}(h:kidOf (kidsL A n bl s) e=none):∀t,¬IsCh A n s e t:=by
 intro t ht
 unfold kidOf at h
 rw[Option.map_eq_none_iff,List.find?_eq_none] at h
 have:=h (iat A.la t,bl t) (by
  unfold kidsL
  refine List.mem_map.2 ⟨t,?_,rfl⟩
  rw[List.mem_filter,List.mem_range]
  simp
  exact⟨ht.2.1,ht.1,ht.2.2.1⟩)
 simp at this
 exact this ht.2.2.2
def idxOf (bl:Nat->Nat)(k:Nat):Value->Nat
 |.pointer (some ⟨b,0,none⟩)=>(findA (λu=>bl u==b) 0 k).toNat
 |_=>0
theorem idxOf_eq {bl:Nat->Nat}{k u:Nat}(hi:∀s t,s<k->t<k->bl s=bl t->s=t)(hu:u<k):idxOf bl k (.pointer (some ⟨bl u,0,none⟩))=u:=by
 show(findA (λv=>bl v==bl u) 0 k).toNat=u
 rw[findA_one (a:=u) (Nat.zero_le _) (by omega) (by simp) (λb _ hb=>by
  simp
  intro e
  have:=hi b u (by omega) hu e
  omega)]
 rfl
structure TR (A:Au)(n k:Nat)(w:World)(bl:Nat->Nat)(fl mv:Nat->Value)(num:Nat->Int):Prop where
 nd:∀s,s<n->Blk w (bl s) (node (num s) (Wd A s).length (iat A.la s) (if s=0 then -1 else iat A.mu s) (if s=0 then false else bat A.bd s) (if s=0 then .pointer none else ptr (bl (iat A.pa s).toNat)) (fl s) (mv s))
 kd:∀s,s<n->MK w (mv s) (kidsL A n bl s)
 fz:fl 0=.pointer none
 fs:∀s,1<=s->s<k->fl s=ptr (bl (failOf A n s))
 inj:∀s t,s<n->t<n->bl s=bl t->s=t
theorem longest_any (A:Au)(n k s:Nat)(e:Int)(w:World)(bl:Nat->Nat)(fl mv:Nat->Value)(num:Nat->Int)(T:Trie A n)(h:TR A n k w bl fl mv num)(hk:k<=n)(hs:s<k)(hw:(Lit.int .i64 e).wf=true) :
  Calls Tryz.prog 43 #[ptr (bl s),.int .i64 e] w λr w'=>r=.returned (ptr (bl (goOf A n s e)))/\w'=w:=by
 have HT:Hid (Trie A n):=T
 have HR:Hid (TR A n k w bl fl mv num):=h
 have HIX:Hid (∀u,u<k->idxOf bl k (.pointer (some ⟨bl u,0,none⟩))=u):=λu hu=>idxOf_eq (λs t h1 h2=>h.inj s t (by omega) (by omega)) hu
 clear T h
 unfold ptr
 go_enter Tryz.func43,Tryz.ntmps43
 go_wp2
 go_loop [5] (λv=>∃u:Nat,u<k/\v=.pointer (some ⟨bl u,0,none⟩)/\Hid (goOf A n s e=goOf A n u e)) (λv=>idxOf bl k v)
 case atStart=>exact⟨s,hs,rfl,rfl⟩
 case round=>
  obtain⟨u,huk,rfl,HG⟩:=hrel
  have hB:=HR.out.nd u (by omega)
  have k6:w.cell? ⟨bl u,6,none⟩=some (fl u):=hB.cell (i:=6) rfl
  have k7:w.cell? ⟨bl u,7,none⟩=some (mv u):=hB.cell (i:=7) rfl
  have hl:=(HR.out.kd u (by omega)).look hw
  cases hc:kidOf (kidsL A n bl u) e with
  |some c=>
   obtain⟨t,ht,rfl⟩:=kid_yes hc
   have HF:Hid (goOf A n s e=t):=by unfold Hid;rw[HG.out];exact go_child HT.out (by omega) ht
   rw[hc] at hl
   simp only[ptrO,ptr] at hl
   clear hc hB
   by_cases hu0:u=0
   ·subst hu0
    rw[HR.out.fz] at k6
    go_wp2
    go_ret
    exact⟨by rw[HF.out];rfl,rfl⟩
   ·rw[HR.out.fs u (by omega) huk] at k6
    unfold ptr at k6
    go_wp2
    go_ret
    exact⟨by rw[HF.out];rfl,rfl⟩
  |none=>
   have hn:=kid_no hc
   rw[hc] at hl
   simp only[ptrO] at hl
   clear hc hB
   by_cases hu0:u=0
   ·subst hu0
    have HF:Hid (goOf A n s e=0):=by unfold Hid;rw[HG.out];exact go_root HT.out hn
    rw[HR.out.fz] at k6
    clear hn
    go_wp2
    go_ret
    exact⟨by rw[HF.out];rfl,rfl⟩
   ·have hf:=fail_spec HT.out (s:=u) (by omega) (by omega)
    have HF:Hid (goOf A n s e=goOf A n (failOf A n u) e):=by unfold Hid;rw[HG.out];exact go_fall HT.out (by omega) (by omega) hn
    have HLT:Hid (failOf A n u<u):=hf.2
    rw[HR.out.fs u (by omega) huk] at k6
    unfold ptr at k6
    clear hn hf
    go_wp2
    go_round
    case rel=>exact⟨failOf A n u,by have:=HLT.out;omega,rfl,HF⟩
    case measure=>rw[HIX.out u huk,HIX.out _ (by have:=HLT.out;omega)];exact HLT.out
def stepV (A:Au)(n:Nat)(bl:Nat->Nat)(s:Nat)(e:Int):Value:=
 if e<0\/4000<=e then .pointer none
 else if bat A.bd s=true\/(iat A.mu s≠-1/\iat A.mu s≠e) then .pointer none
 else if bat A.bd (goOf A n s e)=true then .pointer none else ptr (bl (goOf A n s e))
theorem TR.cells {A:Au}{n k:Nat}{w:World}{bl:Nat->Nat}{fl mv:Nat->Value}{num:Nat->Int}(h:TR A n k w bl fl mv num)(hm:iat A.mu 0=-1)(hb:bat A.bd 0=false){s:Nat}(hs:s<n) :
  w.cell? ⟨bl s,3,none⟩=some (.int .i64 (iat A.mu s))/\w.cell? ⟨bl s,4,none⟩=some (.bool (bat A.bd s)):=by
 have:=h.nd s hs
 by_cases e:s=0
 ·subst e
  exact⟨by rw[hm];exact this.cell (i:=3) rfl,by rw[hb];exact this.cell (i:=4) rfl⟩
 ·simp only[if_neg e] at this
  exact⟨this.cell (i:=3) rfl,this.cell (i:=4) rfl⟩
theorem wf_small {e:Int}(h0:0<=e)(h1:e<4000):(Lit.int .i64 e).wf=true:=by
 have a:IntKind.i64.min=-9223372036854775808:=rfl
 have b:IntKind.i64.max=9223372036854775807:=rfl
 simp only[Lit.wf,a,b,Bool.and_eq_true,decide_eq_true_eq]
 omega
theorem step_any (A:Au)(n s:Nat)(e:Int)(w:World)(bl:Nat->Nat)(fl mv:Nat->Value)(num:Nat->Int)(T:Trie A n)(h:TR A n n w bl fl mv num)(hm:iat A.mu 0=-1)(hb:bat A.bd 0=false)(hs:s<n) :
  Calls Tryz.prog 24 #[ptr (bl s),.int .i64 e] w λr w'=>r=.returned (stepV A n bl s e)/\w'=w:=by
 obtain⟨k3,k4⟩:=h.cells hm hb hs
 have HT:Hid (Trie A n):=T
 have HR:Hid (TR A n n w bl fl mv num):=h
 have HD:Hid (stepV A n bl s e=if e<0\/4000<=e then .pointer none else if bat A.bd s=true\/(iat A.mu s≠-1/\iat A.mu s≠e) then .pointer none else if bat A.bd (goOf A n s e)=true then .pointer none else ptr (bl (goOf A n s e))):=rfl
 have HG:Hid (w.cell? ⟨bl (goOf A n s e),4,none⟩=some (.bool (bat A.bd (goOf A n s e)))):=(h.cells hm hb (go_lw T hs e).2).2
 clear T h hm hb
 unfold ptr
 cases g1:noE e
 case true=>
  have HF:Hid (stepV A n bl s e=.pointer none):=by unfold Hid;rw[HD.out,if_pos (by unfold noE at g1;simpa using g1)]
  go_enter Tryz.func24,Tryz.ntmps24
  go_wp2_with (go_at_call 42;refine(noEdge_any _ _).mono ?_;rintro r w' ⟨rfl,rfl⟩;rw[g1])
  go_ret
  exact⟨by rw[HF.out];rfl,rfl⟩
 have hw:(Lit.int .i64 e).wf=true:=by
  unfold noE at g1
  simp at g1
  exact wf_small (by omega) (by omega)
 have HD2:Hid (stepV A n bl s e=if bat A.bd s=true\/(iat A.mu s≠-1/\iat A.mu s≠e) then .pointer none else if bat A.bd (goOf A n s e)=true then .pointer none else ptr (bl (goOf A n s e))):=by
  unfold Hid
  rw[HD.out,if_neg (by unfold noE at g1;simp at g1;omega)]
 cases g2:bat A.bd s
 case true=>
  have HF:Hid (stepV A n bl s e=.pointer none):=by unfold Hid;rw[HD2.out,if_pos (Or.inl g2)]
  rw[g2] at k4
  go_enter Tryz.func24,Tryz.ntmps24
  go_wp2_with (go_at_call 42;refine(noEdge_any _ _).mono ?_;rintro r w' ⟨rfl,rfl⟩;rw[g1])
  go_ret
  exact⟨by rw[HF.out];rfl,rfl⟩
 rw[g2] at k4
 by_cases g6:iat A.mu s=-1\/iat A.mu s=e
 case neg=>
  have f6:(iat A.mu s !=-1)=true:=by simp;omega
  have f7:(iat A.mu s !=e)=true:=by simp;omega
  have HF:Hid (stepV A n bl s e=.pointer none):=by unfold Hid;rw[HD2.out,if_pos (Or.inr (by omega))]
  clear g6 g2
  go_enter Tryz.func24,Tryz.ntmps24
  go_wp2_with (go_at_call 42;refine(noEdge_any _ _).mono ?_;rintro r w' ⟨rfl,rfl⟩;rw[g1])
  go_ret
  exact⟨by rw[HF.out];rfl,rfl⟩
 have HD3:Hid (stepV A n bl s e=if bat A.bd (goOf A n s e)=true then .pointer none else ptr (bl (goOf A n s e))):=by
  unfold Hid
  rw[HD2.out,if_neg (by rw[g2];simp;omega)]
 have ht:∃t1 t2:Bool,(iat A.mu s !=-1)=t1/\(iat A.mu s !=e)=t2/\(t1&&t2)=false:=⟨_,_,rfl,rfl,by simp;omega⟩
 obtain⟨t1,t2,f6,f7,f8⟩:=ht
 clear g6 g2 HD HD2
 have g9:=HG.out
 cases g5:bat A.bd (goOf A n s e)
 ·have HF:Hid (stepV A n bl s e=.pointer (some ⟨bl (goOf A n s e),0,none⟩)):=by unfold Hid;rw[HD3.out,if_neg (by rw[g5];simp)];rfl
  rw[g5] at g9
  cases t1
  ·go_enter Tryz.func24,Tryz.ntmps24
   go_wp2_with (first|(go_at_call 42;refine(noEdge_any _ _).mono ?_;rintro r w' ⟨rfl,hw'⟩;have hw2:=hw'.symm;subst hw2;rw[g1])|(go_at_call 43;refine(longest_any A n n s e _ bl fl mv num HT.out HR.out (Nat.le_refl _) hs hw).mono ?_;rintro r w' ⟨rfl,hw'⟩;have hw2:=hw'.symm;subst hw2;unfold ptr))
   go_ret
   exact⟨by rw[HF.out];rfl,rfl⟩
  ·cases t2
   ·go_enter Tryz.func24,Tryz.ntmps24
    go_wp2_with (first|(go_at_call 42;refine(noEdge_any _ _).mono ?_;rintro r w' ⟨rfl,hw'⟩;have hw2:=hw'.symm;subst hw2;rw[g1])|(go_at_call 43;refine(longest_any A n n s e _ bl fl mv num HT.out HR.out (Nat.le_refl _) hs hw).mono ?_;rintro r w' ⟨rfl,hw'⟩;have hw2:=hw'.symm;subst hw2;unfold ptr))
    go_ret
    exact⟨by rw[HF.out];rfl,rfl⟩
   ·simp at f8
 ·have HF:Hid (stepV A n bl s e=.pointer none):=by unfold Hid;rw[HD3.out,if_pos g5]
  rw[g5] at g9
  cases t1
  ·go_enter Tryz.func24,Tryz.ntmps24
   go_wp2_with (first|(go_at_call 42;refine(noEdge_any _ _).mono ?_;rintro r w' ⟨rfl,hw'⟩;have hw2:=hw'.symm;subst hw2;rw[g1])|(go_at_call 43;refine(longest_any A n n s e _ bl fl mv num HT.out HR.out (Nat.le_refl _) hs hw).mono ?_;rintro r w' ⟨rfl,hw'⟩;have hw2:=hw'.symm;subst hw2;unfold ptr))
   go_ret
   exact⟨by rw[HF.out];rfl,rfl⟩
  ·cases t2
   ·go_enter Tryz.func24,Tryz.ntmps24
    go_wp2_with (first|(go_at_call 42;refine(noEdge_any _ _).mono ?_;rintro r w' ⟨rfl,hw'⟩;have hw2:=hw'.symm;subst hw2;rw[g1])|(go_at_call 43;refine(longest_any A n n s e _ bl fl mv num HT.out HR.out (Nat.le_refl _) hs hw).mono ?_;rintro r w' ⟨rfl,hw'⟩;have hw2:=hw'.symm;subst hw2;unfold ptr))
    go_ret
    exact⟨by rw[HF.out];rfl,rfl⟩
   ·simp at f8
theorem infoPtrT:(Tryz.prog.info? 56).map (λi=>(i.zero,i.size,i.bytes))=some (some (.pointer none),1,8):=by kernel_rfl
def pcells (bs:List Nat):List Value:=bs.map ptr
def OwnP (C:Nat)(w:World)(v:Value)(bs:List Nat):Prop:=w.ownsRow C 56 1 v bs.length (pcells bs)
theorem OwnP.snoc {C:Nat}{w:World}{v:Value}{bs:List Nat}{b:Nat}(h:w.ownsRow C 56 1 v (bs.length+1) (pcells bs++[ptr b])):OwnP C w v (bs++[b]):=by
 unfold OwnP
 have e:pcells (bs++[b])=pcells bs++[ptr b]:=by simp[pcells]
 rw[List.length_append,e]
 exact h
theorem OwnP.slice {C:Nat}{w:World}{v:Value}{bs:List Nat}(h:OwnP C w v bs):∃a c,v=.slice a bs.length c:=by
 rcases h.2 with⟨rfl,h2⟩|⟨g,cap,cur,rfl,_⟩
 ·exact⟨none,0,by rw[h2]⟩
 ·exact⟨_,_,rfl⟩
def nat (bs:List Nat)(i:Nat):Nat:=bs.getD i 0
theorem OwnP.cell {C:Nat}{w:World}{a:Option Addr}{n c:Nat}{bs:List Nat}(h:OwnP C w (.slice a n c) bs){i:Nat}(hi:i<bs.length):∃g,a=some ⟨g,0,none⟩/\w.cell? ⟨g,i,none⟩=some (ptr (nat bs i)):=by
 obtain⟨h1,h2⟩:=h
 rcases h2 with⟨h2,h3⟩|⟨g,cap,cur,hv,hg,hh,hc,hm,hs,ht⟩
 ·omega
 ·simp only[Value.slice.injEq] at hv
  refine⟨g,hv.1,?_⟩
  have e:(cur.toList.take (bs.length*1))[i]?=(pcells bs)[i]?:=by rw[ht]
  rw[List.getElem?_take_of_lt (by omega),Array.getElem?_toList] at e
  simp[World.cell?,hh,e,pcells,nat,List.getD,hi]
theorem OwnP.next {C:Nat}{w w':World}{v:Value}{bs:List Nat}(h:OwnP C w v bs)(k:Nx w w'):OwnP C w' v bs:=by
 obtain⟨h1,h2⟩:=h
 refine⟨h1,?_⟩
 rcases h2 with h2|⟨g,cap,cur,hv,hg,hh,r⟩
 ·exact Or.inl h2
 ·exact Or.inr ⟨g,cap,cur,hv,hg,(k.block g (Array.getElem?_eq_some_iff.1 hh).1).trans hh,r⟩
theorem put_any (q C:Nat)(v:Value)(bs:List Nat)(tk:Int)(b:Nat)(w:World)(hq:Blk w q #[v,.int .i64 tk])(ho:OwnP C w v bs)(hC:q<C)(hl:bs.length<=100000)(hz:C<=w.heap.size) :
  Calls Tryz.prog 51 #[ptr q,ptr b] w λr w'=>∃x v',r=.returned x/\Blk w' q #[v',.int .i64 tk]/\OwnP C w' v' (bs++[b])/\(v'.ownBlock=v.ownBlock\/v'.ownBlock=some (w.heap.size+1))/\But (some q) v.ownBlock w w':=by
 obtain⟨ii,hi,hz0,hz1,hz2⟩:=info_parts infoPtrT
 have HQ:Hid (Blk w q #[v,.int .i64 tk]):=hq
 have HO:Hid (OwnP C w v bs):=ho
 obtain⟨av,cv,hvs⟩:=ho.slice
 generalize hbl:bs.length=n at *
 have HBL:Hid (bs.length=n):=hbl
 subst hvs
 have k0:w.cell? ⟨q,0,none⟩=some (.slice av n cv):=hq.cell (i:=0) rfl
 clear hq ho hbl
 unfold ptr
 go_enter Tryz.func51,Tryz.ntmps51
 go_wp2_with (at_builtin;refine wpList_append_own_at _ rfl _ _ 43 rfl C 56 ii (.pointer none) 1 8 Tryz.underlying43 hi hz0 hz1 hz2 rfl (by decide) _ _ _ rfl (World.ownsRow.alloc HO.out _) ⟨w.heap.size,0,none⟩ 1 1 [ptr b] rfl rfl (λj u hj=>new_cells w _ _ _ rfl j u hj) ?c2 ?c3 ?c4 ?c5 ?_)
 case c2=>intro u hu;simp at hu;subst hu;rfl
 case c3=>rw[HBL.out];unfold maxLen;omega
 case c4=>rw[HBL.out];omega
 case c5=>simp;omega
 intro v7 w7 hown hgrow _ hat
 have HQ7:=(HQ.out.alloc (.cells #[ptr b] 56)).grownB hgrow (λe=>by have:=(own_lt HO.out q e.symm).1;omega)
 have HO7:Hid (OwnP C (w7.setCell ⟨q,0,none⟩ v7) v7 (bs++[b])):=own_store (OwnP.snoc hown) hC 0 _
 have HB7:Hid (Blk (w7.setCell ⟨q,0,none⟩ v7) q #[v7,.int .i64 tk]):=HQ7.set 0 _
 have HW7:Hid (But (some q) (Value.slice av n cv).ownBlock w (w7.setCell ⟨q,0,none⟩ v7)):=But.set ((But.of_nx (box1 w _)).grow hgrow (λg hg=>Or.inr hg)) rfl _
 have HAT:Hid (v7.ownBlock=(Value.slice av n cv).ownBlock\/v7.ownBlock=some (w.heap.size+1)):=by have:=hat;unfold Hid;simpa using this
 obtain⟨a7,c7,hv7⟩:=HO7.out.slice
 generalize (bs++[b]).length=m7 at hv7
 subst hv7
 have k7:w7.cell? ⟨q,0,none⟩=some (.slice av n cv):=HQ7.cell (i:=0) rfl
 have z7:=HQ7.frozen 0
 clear hown hgrow hat HQ7
 go_wp2
 refine bodyPost_end (v:=.tuple #[]) (by simp[results,Tryz.results51,go_sem]) rfl ⟨_,_,rfl,HB7.out,HO7.out,HAT.out,HW7.out⟩
theorem take_none (q C:Nat)(v:Value)(bs:List Nat)(w:World)(hq:Blk w q #[v,.int .i64 (bs.length:Int)])(ho:OwnP C w v bs) :
  Calls Tryz.prog 52 #[ptr q] w λr w'=>r=.returned (.tuple #[.pointer none,.bool false])/\Nx w w':=by
 obtain⟨av,cv,hvs⟩:=ho.slice
 generalize hbl:bs.length=n at *
 subst hvs
 have k0:w.cell? ⟨q,0,none⟩=some (.slice av n cv):=hq.cell (i:=0) rfl
 have k1:w.cell? ⟨q,1,none⟩=some (.int .i64 (n:Int)):=hq.cell (i:=1) rfl
 have hd:((n:Int)==(n:Int))=true:=by simp
 clear hq ho hbl
 unfold ptr
 go_enter Tryz.func52,Tryz.ntmps52
 go_wp2
 go_quiet (fail)
 go_wp2
 refine bodyPost_ret (v:=.tuple #[.pointer none,.bool false]) (by simp[results,Tryz.results52,go_sem]) rfl ⟨rfl,⟨rfl,rfl,rfl,Nat.le_refl _,λ_ _=>rfl⟩⟩
theorem take_some (q C tk:Nat)(v:Value)(bs:List Nat)(w:World)(hq:Blk w q #[v,.int .i64 (tk:Int)])(ho:OwnP C w v bs)(hC:q<C)(ht:tk<bs.length)(hl:bs.length<=100000) :
  Calls Tryz.prog 52 #[ptr q] w λr w'=>r=.returned (.tuple #[ptr (nat bs tk),.bool true])/\Blk w' q #[v,.int .i64 ((tk:Int)+1)]/\But (some q) none w w':=by
 have HQ:Hid (Blk w q #[v,.int .i64 (tk:Int)]):=hq
 obtain⟨av,cv,hvs⟩:=ho.slice
 generalize hbl:bs.length=n at *
 subst hvs
 obtain⟨g,hag,hcg⟩:=ho.cell (i:=tk) (by omega)
 subst hag
 have hgq:g≠q:=λe=>by
  have:=(own_lt ho g rfl).1
  omega
 have k0:w.cell? ⟨q,0,none⟩=some (.slice (some ⟨g,0,none⟩) n cv):=hq.cell (i:=0) rfl
 have k1:w.cell? ⟨q,1,none⟩=some (.int .i64 (tk:Int)):=hq.cell (i:=1) rfl
 have z1:=hq.frozen 1
 have hd:((tk:Int)==(n:Int))=false:=by simp;omega
 have htn:(tk:Int)<n:=by omega
 have hwt:IntKind.i64.wrap ((tk:Int)+1)=(tk:Int)+1:=by rw[IntKind.wrap_i64];omega
 have hws:=wrapJ tk (by omega)
 clear hq hbl
 unfold ptr at hcg ⊢
 go_enter Tryz.func52,Tryz.ntmps52
 go_wp2
 go_quiet (fail)
 generalize hwq:World.drewN w nq=wq at *
 have HN:Hid (Nx w wq):=by unfold Hid;rw[<-hwq];exact⟨rfl,rfl,rfl,Nat.le_refl _,λ_ _=>rfl⟩
 have BQ:=HQ.out.next HN.out
 have HBQ:Hid (Blk wq q #[.slice (some ⟨g,0,none⟩) n cv,.int .i64 (tk:Int)]):=BQ
 have j1:wq.cell? ⟨q,1,none⟩=some (.int .i64 (tk:Int)):=BQ.cell (i:=1) rfl
 have y1:=BQ.frozen 1
 have B2:=BQ.set 1 (.int .i64 ((tk:Int)+1))
 have HB2:Hid (Blk (wq.setCell ⟨q,1,none⟩ (.int .i64 ((tk:Int)+1))) q #[.slice (some ⟨g,0,none⟩) n cv,.int .i64 ((tk:Int)+1)]):=B2
 have m0:(wq.setCell ⟨q,1,none⟩ (.int .i64 ((tk:Int)+1))).cell? ⟨q,0,none⟩=some (.slice (some ⟨g,0,none⟩) n cv):=HB2.out.cell (i:=0) rfl
 have m1:(wq.setCell ⟨q,1,none⟩ (.int .i64 ((tk:Int)+1))).cell? ⟨q,1,none⟩=some (.int .i64 ((tk:Int)+1)):=HB2.out.cell (i:=1) rfl
 have m2:(wq.setCell ⟨q,1,none⟩ (.int .i64 ((tk:Int)+1))).cell? ⟨g,tk,none⟩=some (.pointer (some ⟨nat bs tk,0,none⟩)):=(World.cell?_of_block (w:=wq) (Below.heap_setCell _ _ _ _ hgq)).trans (cellq HN.out hcg)
 have HW:Hid (But (some q) none w (wq.setCell ⟨q,1,none⟩ (.int .i64 ((tk:Int)+1)))):=(But.of_nx HN.out).set rfl _
 clear hwq k0 k1 z1 hcg BQ B2 hd
 go_upto_region 5 with fail
 generalize hw2:wq.setCell ⟨q,1,none⟩ (.int .i64 ((tk:Int)+1))=w2 at *
 clear hw2 j1 y1
 go_wp2
 go_quiet (fail)
 go_wp2
 refine bodyPost_ret (v:=.tuple #[.pointer (some ⟨nat bs tk,0,none⟩),.bool true]) (by simp[results,Tryz.results52,go_sem]) rfl ⟨rfl,HB2.out,⟨HW.out.os,HW.out.tape,HW.out.output,HW.out.size,HW.out.block⟩⟩
theorem pair_lt {A:Au}{n:Nat}(h:∀t,1<=t->t<n->pairAsc A t=true)(i j:Nat)(hij:i<j)(hj:j<n):iat A.pa i<iat A.pa j\/(iat A.pa i=iat A.pa j/\iat A.la i<iat A.la j):=by
 induction j with
 |zero=>omega
 |succ j ih=>
  have hs:=h (j+1) (by omega) hj
  unfold pairAsc at hs
  simp only[Nat.add_sub_cancel,Bool.or_eq_true,Bool.and_eq_true,decide_eq_true_eq] at hs
  by_cases e:i=j
  ·subst e;exact hs
  ·have:=ih (by omega) (by omega)
   omega
theorem kids_congr {A:Au}{n:Nat}{bl bl':Nat->Nat}(h:∀t,t<n->bl' t=bl t)(s:Nat):kidsL A n bl' s=kidsL A n bl s:=by
 unfold kidsL
 refine List.map_congr_left λt ht=>?_
 rw[List.mem_filter,List.mem_range] at ht
 rw[h t ht.1]
theorem kids_up {A:Au}{s:Nat}{bl:Nat->Nat}(h1:1<=s)(b t:Nat):kidsL A (s+1) (upd bl s b) t=kidsL A s bl t++(if iat A.pa s=t then [(iat A.la s,b)] else []):=by
 have e:kidsL A (s+1) (upd bl s b) t=kidsL A s (upd bl s b) t++(if iat A.pa s=t then [(iat A.la s,b)] else []):=by
  unfold kidsL
  rw[List.range_succ,List.filter_append,List.map_append]
  congr 1
  by_cases hp:iat A.pa s=t
  ·simp[h1,hp,upd]
  ·simp[hp]
 rw[e,kids_congr λu hu=>upd_ne bl b (by omega)]
theorem kids_none {A:Au}{s t:Nat}{bl:Nat->Nat}(ho:∀u,1<=u->u<s->iat A.pa u<u)(h:s<=t+1):kidsL A s bl t=[]:=by
 unfold kidsL
 rw[List.map_eq_nil_iff,List.filter_eq_nil_iff]
 intro u hu
 rw[List.mem_range] at hu
 simp
 intro h1 h2
 have:=ho u h1 hu
 omega
theorem kids_lt {A:Au}{s p:Nat}{bl:Nat->Nat}(h:∀t,1<=t->t<s+1->pairAsc A t=true)(hp:iat A.pa s=p):∀q∈kidsL A s bl p,q.1<iat A.la s:=by
 intro q hq
 unfold kidsL at hq
 obtain⟨t,ht,rfl⟩:=List.mem_map.1 hq
 rw[List.mem_filter,List.mem_range] at ht
 simp at ht
 have:=pair_lt h t s ht.1 (by omega)
 show iat A.la t<iat A.la s
 omega
theorem kids_len (A:Au)(s p:Nat)(bl:Nat->Nat):(kidsL A s bl p).length<=s:=by
 unfold kidsL
 rw[List.length_map]
 exact Nat.le_trans (List.length_filter_le _ _) (by simp)
theorem map_cells {w:World}{P:Program}{k:TypeId}{R:Value->Option (DataW Unit×List MemPlace)}{mb n b:Nat}{D:DataW Unit}{cs:Array Value}(h:w.ownsMap P k R mb n D)(hb:Blk w b cs):mb≠b:=by
 intro e
 subst e
 obtain⟨t,h1⟩:=hb
 obtain⟨es,clock,h2,_⟩:=h
 rw[h1] at h2
 simp at h2
theorem MK.set {w:World}{m:Value}{ks:List (Int×Nat)}(h:MK w m ks){b:Nat}{cs:Array Value}(hb:Blk w b cs)(i:Nat)(v:Value):MK (w.setCell ⟨b,i,none⟩ v) m ks:=by
 rcases h with h|⟨mb,rfl,h⟩
 ·exact Or.inl h
 ·exact Or.inr ⟨mb,rfl,own_set h (map_cells h hb) v⟩
theorem MK.keep {o o':Option Nat}{w w':World}{m:Value}{ks:List (Int×Nat)}(h:MK w m ks)(k:But o o' w w')(h1:∀mb,mapBlk m=some mb->some mb≠o/\some mb≠o'):MK w' m ks:=by
 rcases h with h|⟨mb,rfl,h⟩
 ·exact Or.inl h
 ·refine Or.inr ⟨mb,rfl,?_⟩
  have hl:=h.lt
  obtain⟨es,clock,hb,r⟩:=h
  exact⟨es,clock,(k.block mb hl (h1 mb rfl).1 (h1 mb rfl).2).trans hb,r⟩
theorem MK.lt {w:World}{m:Value}{ks:List (Int×Nat)}(h:MK w m ks){mb:Nat}(e:mapBlk m=some mb):mb<w.heap.size:=by
 rcases h with⟨rfl,_⟩|⟨b,rfl,h⟩
 ·simp[mapBlk] at e
 ·simp[mapBlk] at e
  subst e
  exact h.lt
theorem MK.ne {w:World}{m:Value}{ks:List (Int×Nat)}(h:MK w m ks){mb:Nat}(e:mapBlk m=some mb){b:Nat}{cs:Array Value}(hb:Blk w b cs):mb≠b:=by
 rcases h with⟨rfl,_⟩|⟨b',rfl,h⟩
 ·simp[mapBlk] at e
 ·simp[mapBlk] at e
  subst e
  exact map_cells h hb
theorem Blk.keep {o o':Option Nat}{w w':World}{b:Nat}{cs:Array Value}(h:Blk w b cs)(k:But o o' w w')(h1:some b≠o)(h2:some b≠o'):Blk w' b cs:=by
 have hl:=h.lt
 obtain⟨t,hb⟩:=h
 exact⟨t,(k.block b hl h1 h2).trans hb⟩
structure GT (A:Au)(s:Nat)(B:Nat)(w:World)(bl:Nat->Nat)(mv:Nat->Value):Prop where
 tr:TR A s 1 w bl (λ_=>.pointer none) mv (λ_=>0)
 ge:∀t,t<s->B<=bl t
 mge:∀t mb,t<s->mapBlk (mv t)=some mb->B<=mb
 ap:∀t u mb,t<s->u<s->mapBlk (mv t)=some mb->mapBlk (mv u)=some mb->t=u
theorem GT.keep {A:Au}{s B:Nat}{w w':World}{bl:Nat->Nat}{mv:Nat->Value}(h:GT A s B w bl mv){o:Option Nat}(k:But none o w w')(ho:∀t,t<s->some (bl t)≠o)(hm:∀t mb,t<s->mapBlk (mv t)=some mb->some mb≠o):GT A s B w' bl mv:=
 ⟨⟨λt ht=>(h.tr.nd t ht).keep k (by simp) (ho t ht),λt ht=>(h.tr.kd t ht).keep k (λmb e=>⟨by simp,hm t mb ht e⟩),h.tr.fz,h.tr.fs,h.tr.inj⟩,h.ge,h.mge,h.ap⟩
theorem GT.root {A:Au}{B:Nat}{w:World}{b:Nat}(hb:Blk w b (node 0 0 (-1) (-1) false (.pointer none) (.pointer none) (.map none)))(h0:iat A.la 0=-1)(hB:B<=b)(bl:Nat->Nat)(hbl:bl 0=b):GT A 1 B w bl (λ_=>.map none):=by
 refine⟨⟨λs hs=>?_,λs hs=>Or.inl ⟨rfl,?_⟩,rfl,λs h1 h2=>by omega,λs t h1 h2 _=>by omega⟩,λt ht=>?_,λt mb _ e=>by simp[mapBlk] at e,λt u mb _ _ e=>by simp[mapBlk] at e⟩
 ·have e:s=0:=by omega
  subst e
  rw[hbl,h0,Wd_zero]
  exact hb
 ·exact kids_none (λu h1 h2=>by omega) (by omega)
 ·have e:t=0:=by omega
  subst e
  rw[hbl];exact hB
theorem GT.grow {A:Au}{s B p:Nat}{w w':World}{bl:Nat->Nat}{mv:Nat->Value}(h:GT A s B w bl mv)(h1:1<=s)(hB:B<=w.heap.size)(hk:∀t,1<=t->t<s+1->okR A t=true)(hp:iat A.pa s=p)(hps:p<s){m':Value}
  (b1:Blk w' w.heap.size (node 0 ((Wd A p).length+1) (iat A.la s) (iat A.mu s) (bat A.bd s) (ptr (bl p)) (.pointer none) (.map none)))
  (b2:Blk w' (bl p) (node 0 (Wd A p).length (iat A.la p) (if p=0 then -1 else iat A.mu p) (if p=0 then false else bat A.bd p) (if p=0 then .pointer none else ptr (bl (iat A.pa p).toNat)) (.pointer none) m'))
  (b3:MK w' m' (kidsL A s bl p++[(iat A.la s,w.heap.size)])) (b4:mapBlk m'=mapBlk (mv p)\/mapBlk m'=some (w.heap.size+1)) (b5:But (some (bl p)) (mapBlk (mv p)) w w') :
  GT A (s+1) B w' (upd bl s w.heap.size) (upd (upd mv p m') s (.map none)):=by
 have hpa:∀u,1<=u->u<s+1->0<=iat A.pa u/\iat A.pa u<u:=λu h1 h2=>⟨(okR_at (hk u h1 h2)).1,(okR_at (hk u h1 h2)).2.1⟩
 have hlt:∀t,t<s->bl t<w.heap.size:=λt ht=>(h.tr.nd t ht).lt
 have hmm:∀t mb,t<s->mapBlk (upd (upd mv p m') s (.map none) t)=some mb->(mapBlk (mv t)=some mb/\(t=p->mapBlk m'=mapBlk (mv p)))\/(t=p/\mb=w.heap.size+1):=by
  intro t mb ht e
  rw[upd_ne _ _ (by omega)] at e
  by_cases htp:t=p
  ·subst htp
   rw[upd_at] at e
   rcases b4 with b4|b4
   ·exact Or.inl ⟨by rw[<-b4];exact e,λ_=>b4⟩
   ·exact Or.inr ⟨rfl,by rw[b4] at e;exact(Option.some.inj e).symm⟩
  ·rw[upd_ne _ _ htp] at e
   exact Or.inl ⟨e,λe=>absurd e htp⟩
 have hms:∀mb,mapBlk (upd (upd mv p m') s (.map none) s)=some mb->False:=λmb e=>by rw[upd_at] at e;simp[mapBlk] at e
 refine⟨⟨λt ht=>?_,λt ht=>?_,rfl,λs h1 h2=>by omega,λt u ht hu e=>?_⟩,λt ht=>?_,λt mb ht e=>?_,λt u mb ht hu e1 e2=>?_⟩
 ·by_cases hts:t=s
  ·subst hts
   rw[upd_at,upd_at,if_neg (by omega),if_neg (by omega),if_neg (by omega),hp,Int.toNat_natCast,upd_ne _ _ (by omega),Wd_step (hk t h1 (by omega)) h1,hp,Int.toNat_natCast,List.length_append]
   exact b1
  ·have hq:∀x:Value,(if t=0 then Value.pointer none else ptr (upd bl s w.heap.size (iat A.pa t).toNat))=(if t=0 then Value.pointer none else ptr (bl (iat A.pa t).toNat)):=by
    intro x
    by_cases h0:t=0
    ·rw[if_pos h0,if_pos h0]
    ·have:=hpa t (by omega) ht
     rw[if_neg h0,if_neg h0,upd_ne _ _ (by omega)]
   rw[upd_ne _ _ hts,upd_ne _ _ hts,hq (.bool true)]
   by_cases htp:t=p
   ·subst htp
    rw[upd_at]
    exact b2
   ·rw[upd_ne _ _ htp]
    exact(h.tr.nd t (by omega)).keep b5 (λe=>htp (h.tr.inj t p (by omega) hps (Option.some.inj e))) (λe=>(h.tr.kd p hps).ne e.symm (h.tr.nd t (by omega)) rfl)
 ·rw[kids_up h1,hp]
  by_cases hts:t=s
  ·subst hts
   rw[upd_at]
   refine Or.inl ⟨rfl,?_⟩
   rw[kids_none (λu h1 h2=>(hpa u h1 (by omega)).2) (by omega),if_neg (by omega)]
   rfl
  ·rw[upd_ne _ _ hts]
   by_cases htp:t=p
   ·subst htp
    rw[upd_at,if_pos rfl]
    exact b3
   ·rw[upd_ne _ _ htp,if_neg (by omega),List.append_nil]
    refine(h.tr.kd t (by omega)).keep b5 λmb e=>⟨λe'=>?_,λe'=>?_⟩
    ·exact(h.tr.kd t (by omega)).ne e (h.tr.nd p hps) (Option.some.inj e')
    ·exact htp (h.ap t p mb (by omega) hps e e'.symm)
 ·by_cases hts:t=s
  ·by_cases hus:u=s
   ·omega
   ·subst hts
    rw[upd_at,upd_ne _ _ hus] at e
    have:=hlt u (by omega)
    omega
  ·by_cases hus:u=s
   ·subst hus
    rw[upd_at,upd_ne _ _ hts] at e
    have:=hlt t (by omega)
    omega
   ·rw[upd_ne _ _ hus,upd_ne _ _ hts] at e
    exact h.tr.inj t u (by omega) (by omega) e
 ·by_cases hts:t=s
  ·subst hts
   rw[upd_at];exact hB
  ·rw[upd_ne _ _ hts];exact h.ge t (by omega)
 ·by_cases hts:t=s
  ·subst hts
   exact(hms mb e).elim
  ·rcases hmm t mb (by omega) e with⟨h2,_⟩|⟨_,h2⟩
   ·exact h.mge t mb (by omega) h2
   ·omega
 ·by_cases hts:t=s
  ·subst hts
   exact(hms mb e1).elim
  ·by_cases hus:u=s
   ·subst hus
    exact(hms mb e2).elim
   ·rcases hmm t mb (by omega) e1 with⟨h2,_⟩|⟨h2,h2'⟩
    ·rcases hmm u mb (by omega) e2 with⟨h3,_⟩|⟨h3,h3'⟩
     ·exact h.ap t u mb (by omega) (by omega) h2 h3
     ·have:=(h.tr.kd t (by omega)).lt h2
      omega
    ·rcases hmm u mb (by omega) e2 with⟨h3,_⟩|⟨h3,h3'⟩
     ·have:=(h.tr.kd u (by omega)).lt h3
      omega
     ·omega
end Go.Proofs.YtdpfdkihbgmapaaGreat
