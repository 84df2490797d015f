import Derived.Test.YthhbdfiopjclcaaGreatDoorLD
namespace Go.Proofs.YthhbdfiopjclcaaGreatDoor
open Go.RowKit Go.Sort Go.Maps Go.Shelf
set_option linter.unusedVariables false
set_option maxRecDepth 1000000
set_option maxHeartbeats 16000000
attribute [local go_sem] Oper.semAt_some
theorem cell_ck {K:Nat->Prop}{A B:World}(k:Ck noX K A B){b i:Nat}{v:Value}(h:A.cell? ⟨b,i,none⟩=some v):B.cell? ⟨b,i,none⟩=some v:=by
 have h':=h
 unfold World.cell? at h
 cases e:A.heap[b]? with
 |none=>simp[e] at h
 |some o=>
  cases o with
  |cells c t fz=>
   rw[World.cell?_of_block ((k.block b _ e id (Or.inr rfl)).trans e.symm)]
   exact h'
  |_=>simp[e] at h
theorem Qo.ck {K:Nat->Prop}{A B:World}(k:Ck noX K A B){v:Value}{zs:List Int}(h:Qo 0 A v zs):Qo 0 B v zs:=by
 obtain⟨a,cap,e,hm,hk⟩:=h
 refine⟨a,cap,e,hm,λhp=>?_⟩
 obtain⟨b,off,e,h0,hb,hc⟩:=hk hp
 exact⟨b,off,e,h0,Nat.lt_of_lt_of_le hb k.size,λi hi=>cell_ck k (hc i hi)⟩
theorem cell_ckX {X K:Nat->Prop}{A B:World}(k:Ck X K A B){b i:Nat}{v:Value}(hx:¬X b)(h:A.cell? ⟨b,i,none⟩=some v):B.cell? ⟨b,i,none⟩=some v:=by
 have h':=h
 unfold World.cell? at h
 cases e:A.heap[b]? with
 |none=>simp[e] at h
 |some o=>
  cases o with
  |cells c t fz=>
   rw[World.cell?_of_block ((k.block b _ e hx (Or.inr rfl)).trans e.symm)]
   exact h'
  |_=>simp[e] at h
theorem Qo.ckX {X K:Nat->Prop}{A B:World}(k:Ck X K A B){v:Value}{zs:List Int}(h:Qo 0 A v zs)(hx:∀g,v.ownBlock=some g->¬X g):Qo 0 B v zs:=by
 obtain⟨a,cap,e,hm,hk⟩:=h
 refine⟨a,cap,e,hm,λhp=>?_⟩
 obtain⟨b,off,rfl,h0,hb,hc⟩:=hk hp
 exact⟨b,off,rfl,h0,Nat.lt_of_lt_of_le hb k.size,λi hi=>cell_ckX k (hx b (by rw[e];rfl)) (hc i hi)⟩
theorem anyS_act {F:Fence}{n:Nat}{P:Program}{ops:Array Oper}{Q:Exit->Act->World->Prop}{md:Region.Mode}{S:World->Prop}{c fuel:Nat}{listed:Array Bool}{a a':Act}{w:World}(e:a=a')(h:Jy F n P md ops Q S c fuel listed a' w):Jy F n P md ops Q S c fuel listed a w:=e▸h
theorem anyS_skip {F:Fence}{n:Nat}{P:Program}{ops:Array Oper}{Q:Exit->Act->World->Prop}{md:Region.Mode}{S:World->Prop}{c i fuel:Nat}{listed:Array Bool}{a:Act}{w:World}{o:Oper}(hr:Region.ready md ops listed=[i])(hi:ops[i]?=some o)(hw:Region.wanted o (yielded ops a.tmps)=false)(ha:∀f,o.about P w a.eval=some f->F.fn f)(hS:c<=i\/S w)(hcl:Cl md ops listed)(h:Cl md ops (listed.setIfInBounds i true)->Jy F n P md ops Q S c fuel (listed.setIfInBounds i true) (a.put o.dst undef) w):Jy F n P md ops Q S c (fuel+1) listed a w:=
 Q5 hr (by
  unfold wpOpIn
  simp only[hi,hw]
  exact⟨ha,hS,h (hcl.step (by rw[hr];simp))⟩)
theorem Ua {F:Fence}{n:Nat}{P:Program}{ops:Array Oper}{Q:Exit->Act->World->Prop}{md:Region.Mode}{S:World->Prop}{c i fuel:Nat}{listed:Array Bool}{a:Act}{w:World}{o:Oper}(hr:Region.ready md ops listed=[i])(hi:ops[i]?=some o)(hw:Region.wanted o (yielded ops a.tmps)=true)(h:∀K:Act->World->Prop,(∀a' w',(c<=i\/S w')/\Jy F n P md ops Q S c fuel (listed.setIfInBounds i true) a' w'->K a' w')->Oper.wpIn F n P o a w K Q):Jy F n P md ops Q S c (fuel+1) listed a w:=
 Q5 hr (by
  unfold wpOpIn
  simp only[hi,hw]
  exact h _ (λ_ _ h=>h))
def notDefer:Op->Bool
 |.defer _=>false
 |_=>true
theorem J7 {l:Nat}{ops:Array Oper}(h:ops.toList.all (λo=>notDefer o.op)=true):NoDefer (Fence.wide.inRound l) ops:=λj o ρ hj=>Oper.semAt_some l ρ o (λc e=>by
 have h1:=List.all_eq_true.1 h o (by have:=Array.mem_of_getElem? hj;simpa using this)
 rw[e] at h1
 cases h1)
theorem words2 {w:World}{g t:Nat}{v1 v2:Value}{z1 z2:List Int}(h:BT w g #[v1,v2] t)(h1:Qo 0 w v1 z1)(c1:Yx v1)(h2:Qo 0 w v2 z2)(c2:Yx v2):Vl 0 w (.slice (some ⟨g,0,none⟩) 2 2) [z1,z2]:=by
 refine⟨_,_,rfl,by simp[maxLen],λ_=>⟨g,0,rfl,Nat.zero_le _,h.lt,λi hi=>?_⟩⟩
 match i,hi with
 |0,_=>exact⟨v1,h.blk.cell (i:=0) rfl,h1,c1⟩
 |1,_=>exact⟨v2,h.blk.cell (i:=1) rfl,h2,c2⟩
theorem words3 {w:World}{g t:Nat}{v1 v2 v3:Value}{z1 z2 z3:List Int}(h:BT w g #[v1,v2,v3] t)(h1:Qo 0 w v1 z1)(c1:Yx v1)(h2:Qo 0 w v2 z2)(c2:Yx v2)(h3:Qo 0 w v3 z3)(c3:Yx v3):Vl 0 w (.slice (some ⟨g,0,none⟩) 3 3) [z1,z2,z3]:=by
 refine⟨_,_,rfl,by simp[maxLen],λ_=>⟨g,0,rfl,Nat.zero_le _,h.lt,λi hi=>?_⟩⟩
 match i,hi with
 |0,_=>exact⟨v1,h.blk.cell (i:=0) rfl,h1,c1⟩
 |1,_=>exact⟨v2,h.blk.cell (i:=1) rfl,h2,c2⟩
 |2,_=>exact⟨v3,h.blk.cell (i:=2) rfl,h3,c3⟩
def InvE (z bf bn gf:Nat)(lb:Array Value)(v:Value)(ys:List Sx)(InvB:World->Prop)(W:World):Prop:=W.cell? ⟨bf,0,none⟩=some (.func (.func gf) #[] lb)/\W.cell? ⟨bn,0,none⟩=some v/\HStx z W v ys/\InvB W
theorem extend1_in (z bf bn gf:Nat)(lb:Array Value)(v:Value)(xs ys:List Sx)(hLen:∀k j,k<xs.length->j<ys.length->0<(Qd (Ql xs k).l++Qd (Ql ys j).l).length/\(Qd (Ql xs k).l++Qd (Ql ys j).l).length<=1000000)(InvB:World->Prop)(hG:Gives Tryz.prog gf lb (PyS z xs) z xs.length InvB)(eg:∀args w,(callFunc gf args).run Tryz.prog w=.ok (.enter gf args) w)(X:Nat->Prop)(l m:Nat)(J:Nat->World->Prop)(Jx:World->Prop)(W:World)(hX:∀b,X b->z<=b/\b<W.heap.size)
  (hInv:∀B,Ck X noX W B->InvE z bf bn gf lb v ys InvB B) (hJ:∀k A B,J k A->Ck noX (λb=>b<W.heap.size) A B->J k B) (hJx:∀A B,Jx A->Ck noX (λb=>b<W.heap.size) A B->Jx B)
  (hY:∀k args W1,k<(exts xs ys).length->J k W1->Ck X noX W W1->PyS z (exts xs ys) W.heap.size k args W1->YieldAt Fence.wide m Tryz.prog l args W1 λe W'=>Ck X (λb=>W.heap.size<=b) W1 W'/\((e=.returned (.bool true)/\J (k+1) W')\/(e=.returned (.bool false)/\Jx W')))
  (h0:J 0 W) :
  Calls Tryz.prog 93 #[.func (.yield l) #[] #[],.pointer (some ⟨bf,0,none⟩),.pointer (some ⟨bn,0,none⟩)] W λe W'=>(∃v,e=.returned v)/\Ck X noX W W'/\(J (exts xs ys).length W'\/Jx W'):=by
 have HG:=mh hG
 have HEG:=mh eg
 have HIN:=mh hInv
 have HJ:=mh hJ
 have HJX:=mh hJx
 have HY:=mh hY
 have HJ0:Hid (J 0 W):=h0
 have HX:=mh hX
 have x1:=Q3 (Qc W (.cells #[.func (.yield l) #[] #[]] 147)) (hInv W (Ck.refl _ _ _)).1
 have HLEN:=mh hLen
 clear hG eg hInv hJ hJx hY h0 hX hLen
 refine(callsIn_wide (n:=m+1)).1 (callsIn_of_wp_marks Tryz.func93 rfl trivial ?_ rfl)
 refine wpIn_wide.2 ?_
 simp only[Tryz.ntmps93,List.size_toArray,List.length_cons,List.length_nil,Nat.reduceAdd,Nat.reduceSub,Array.replicate_succ,Array.replicate_zero,List.push_toArray,List.append_toArray,List.nil_append,List.cons_append]
 go_wp2
 generalize hW0:W.alloc (.cells #[.func (.yield l) #[] #[]] 147)=w0
 have HX0:Hid (Nx W w0):=by unfold Hid;rw[<-hW0];exact Qc _ _
 have HS0:Hid (w0.heap.size=W.heap.size+1):=by unfold Hid;rw[<-hW0];simp
 have HB0:Hid (BT w0 W.heap.size #[.func (.yield l) #[] #[]] 147):=by unfold Hid;rw[<-hW0];exact BT.new _ _ _ _ rfl
 clear hW0 x1
 refine(wpIn_wide (n:=m+1)).1 ?_
 refine range_gives HG.out rfl HEG.out X ?hX ?hps ?hPy ?hInv (λk W'=>J (Xn xs ys k 0).length W'/\BT W' W.heap.size #[.func (.yield l) #[] #[]] 147) Jx ?hI ?hIx ?h0 (λargs a' W'=>∃Ba ta ha u,args=#[.agg #[.int .i64 ta,.int .i64 ha,u]]/\w0.heap.size<=Ba/\BT W' Ba #[.int .i64 ta,.int .i64 ha,u] 116/\a'=⟨#[.func (.yield l) #[] #[],.pointer (some ⟨bf,0,none⟩),.pointer (some ⟨bn,0,none⟩),.pointer (some ⟨W.heap.size,0,none⟩),.pointer (some ⟨Ba,0,none⟩),undef,undef,.func (.func gf) #[] lb,.agg #[.int .i64 ta,.int .i64 ha,u],undef,undef,undef,undef,undef,undef,undef,undef,undef,undef,undef,undef,undef,undef,undef,undef,undef,undef,undef,undef,undef,undef,undef,undef,undef,undef,undef,undef],[]⟩) ?hAx ?assign ?body ?done ?stop
 case hX=>intro b h;have:=HX.out b h;have:=HS0.out;exact⟨by omega,by omega⟩
 case hps=>rintro k args W ⟨u,rfl,_⟩;rfl
 case hPy=>rintro k args A B ⟨u,h1,h2,h3⟩ hc;exact⟨u,h1,h2.ck hc,h3⟩
 case hInv=>exact λB hc=>(HIN.out B ((Ck.nx HX0.out).trans hc)).2.2.2
 case hI=>exact λk A B h hc=>⟨HJ.out _ A B h.1 (hc.mono (λ_ x=>x) (λb q=>by have:=HS0.out;omega)),h.2.ck hc id⟩
 case hIx=>exact λA B h hc=>HJX.out A B h (hc.mono (λ_ x=>x) (λb q=>by have:=HS0.out;omega))
 case h0=>exact⟨by rw[extTo_start];exact HJ.out 0 _ _ HJ0.out (Ck.nx HX0.out),HB0.out⟩
 case hAx=>rintro args a' A B ⟨Ba,ta,ha,u,h1,h2,h3,h4⟩ hc;exact⟨Ba,ta,ha,u,h1,h2,h3.ck hc id,h4⟩
 case assign=>
  rintro l' k args W' K hk hWz ⟨u,rfl,hu,_⟩ hK
  obtain⟨ua,uc,rfl,_⟩:=hu.slice
  clear hu
  have HWZ:=mh hWz
  clear hWz
  gi_wp2
  exact hK _ _ (Qc _ _) ⟨W'.heap.size,_,_,_,rfl,HWZ.out,BT.new _ _ _ _ rfl,rfl⟩
 case done=>
  intro D W' hDw hI hc hD
  have HF:Hid (J (exts xs ys).length W'):=by unfold Hid;rw[<-extTo_all];exact hI.1
  have HCW:Hid (Ck X noX W W'):=(Ck.nx HX0.out).trans hc
  clear hI hc
  go_wp2
  refine Xr D _ hD (λW2 ho=>?_)
  refine⟨_,results_none rfl _ _ _,⟨_,rfl⟩,HCW.out.trans (ho.mono (λ_ x=>x.elim) (λ_ x=>x.elim)),Or.inl (HJ.out _ _ _ HF.out (ho.mono (λ_ x=>x) (λb q=>by have:=HS0.out;omega)))⟩
 case stop=>
  intro D W' hDw hI hc hD
  have HCW:Hid (Ck X noX W W'):=(Ck.nx HX0.out).trans hc
  refine wpIn_wide.2 ?_
  go_wp2
  refine Xr D _ hD (λW2 ho=>?_)
  refine⟨_,results_none rfl _ _ _,⟨_,rfl⟩,HCW.out.trans (ho.mono (λ_ x=>x.elim) (λ_ x=>x.elim)),Or.inr (HJX.out _ _ hI (ho.mono (λ_ x=>x) (λb q=>by have:=HS0.out;omega)))⟩
 case body=>
  rintro l' k args a' w1 hk ⟨hJ1,hBY⟩ ⟨u,rfl,hu,hlu,hcu⟩ ⟨Ba,ta,ha,u',e',hBa,hbt,rfl⟩ hc
  have e2:(Ql xs k).t=ta/\(Ql xs k).h=ha/\u=u':=by simpa using e'
  obtain⟨rfl,rfl,rfl⟩:=e2
  clear e'
  obtain⟨ua,uc,rfl,_⟩:=hu.slice
  have HU:=mh hu
  have HCU:=mh hcu
  have HLU:=mh hlu
  have HJ1:=mh hJ1
  have HBY:=mh hBY
  have HBA:Hid (w0.heap.size<=Ba/\BT w1 Ba #[.int .i64 (Ql xs k).t,.int .i64 (Ql xs k).h,.slice ua (Qd (Ql xs k).l).length uc] 116):=⟨hBa,hbt⟩
  have HC1:Hid (Ck X noX W w1):=(Ck.nx HX0.out).trans hc
  obtain⟨_,x2,hys,_⟩:=HIN.out w1 HC1.out
  obtain⟨sa,cap,rfl,hmx,hk0⟩:=hys
  unfold maxLen at hmx
  generalize hny:ys.length=ny at *
  have HNY:Hid (ys.length=ny):=hny
  clear hu hlu hcu hJ1 hBa hbt hc hny hk0 hBY
  gi_wp2
  clear x2
  gi_loopw [6,11] (λp6 i wr=>∃j:Nat,j<=ny/\i=.int .i64 j/\Hid (J (Xn xs ys k j).length wr)/\Hid (Ck X (λb=>w0.heap.size<=b) w1 wr)) (λ_ i _=>ny-(intOf i).toNat)
  case atStart=>exact⟨0,Nat.zero_le _,rfl,HJ1,Ck.refl _ _ _⟩
  case round=>
   clear HJ1
   obtain⟨j,hj,rfl,HJj,HCj⟩:=hrel
   by_cases hlt:j<ny
   ·have HCW:Hid (Ck X noX W wr):=HC1.out.trans (HCj.out.mono (λ_ x=>x) (λ_ x=>x.elim))
    obtain⟨_,_,hys,_⟩:=HIN.out wr HCW.out
    obtain⟨sa',cap',hse,_,hk0⟩:=hys
    obtain⟨b,off,rfl,_,hb,hcs⟩:=hk0 (by rw[HNY.out];omega)
    simp only[Value.slice.injEq] at hse
    obtain⟨rfl,hzz,rfl⟩:=hse
    clear hzz
    obtain⟨u2,z0,z1,z2,hu2,hl2,hc2⟩:=hcs j (by rw[HNY.out];exact hlt)
    obtain⟨u2a,u2c,rfl,_⟩:=hu2.slice
    have HU2:=mh hu2
    have HC2:=mh hc2
    have nXW:∀b,W.heap.size<=b->¬X b:=λb q x=>by have:=(HX.out _ x).2;omega
    have HUr:Hid (Qo 0 wr (.slice ua (Qd (Ql xs k).l).length uc) (Qd (Ql xs k).l)):=HU.out.ckX HCj.out (λg hg x=>by have h1:=HX.out _ x;have h2:=HS0.out;rcases HLU.out g hg with q|q<;>omega)
    have HBAr:Hid (BT wr Ba #[.int .i64 (Ql xs k).t,.int .i64 (Ql xs k).h,.slice ua (Qd (Ql xs k).l).length uc] 116):=HBA.out.2.ck HCj.out (nXW _ (by have:=HBA.out.1;have:=HS0.out;omega))
    have HBYr:Hid (BT wr W.heap.size #[.func (.yield l) #[] #[]] 147):=HBY.out.ck HCj.out (nXW _ (Nat.le_refl _))
    have hlt':(j:Int)<ny:=by omega
    clear hcs hk0 hu2 hl2 hc2
    gi_wp2
    generalize hW5:wr.alloc (.cells #[.int .i64 (Ql ys j).t,.int .i64 (Ql ys j).h,.slice u2a (Qd (Ql ys j).l).length u2c] 116)=w5
    have HX5:Hid (Nx wr w5):=by unfold Hid;rw[<-hW5];exact Qc _ _
    have HB5:Hid (BT w5 wr.heap.size #[.int .i64 (Ql ys j).t,.int .i64 (Ql ys j).h,.slice u2a (Qd (Ql ys j).l).length u2c] 116):=by unfold Hid;rw[<-hW5];exact BT.new _ _ _ _ rfl
    have a5:=(HBAr.out.next HX5.out)
    have HSS:Hid ((λq=>q.cell? ⟨Ba,0,none⟩=some (.int .i64 (Ql xs k).t)/\q.cell? ⟨Ba,1,none⟩=some (.int .i64 (Ql xs k).h)/\q.cell? ⟨Ba,2,none⟩=some (.slice ua (Qd (Ql xs k).l).length uc)/\q.cell? ⟨wr.heap.size,0,none⟩=some (.int .i64 (Ql ys j).t)/\q.cell? ⟨wr.heap.size,1,none⟩=some (.int .i64 (Ql ys j).h)/\q.cell? ⟨wr.heap.size,2,none⟩=some (.slice u2a (Qd (Ql ys j).l).length u2c)/\q.cell? ⟨W.heap.size,0,none⟩=some (.func (.yield l) #[] #[])) w5.drew):=⟨a5.blk.cell (i:=0) rfl,a5.blk.cell (i:=1) rfl,a5.blk.cell (i:=2) rfl,HB5.out.blk.cell (i:=0) rfl,HB5.out.blk.cell (i:=1) rfl,HB5.out.blk.cell (i:=2) rfl,(HBYr.out.next HX5.out).blk.cell (i:=0) rfl⟩
    have hmx2:Tryz.prog.follows .mixedOrders=true:=by kernel_rfl
    have HXD:Hid (Nx wr w5.drew):=HX5.out.trans (show Nx w5 w5.drew from(Below.refl _ _).drew)
    clear hW5 a5 z0 z1 z2
    by_cases heq:(Ql xs k).h=(Ql ys j).t
    ·have hbq:((Ql xs k).h==(Ql ys j).t)=true:=by simp[heq]
     have HEQ:=mh heq
     clear heq
     refine Q9 (c:=18) (S:=λq=>q.cell? ⟨Ba,0,none⟩=some (.int .i64 (Ql xs k).t)/\q.cell? ⟨Ba,1,none⟩=some (.int .i64 (Ql xs k).h)/\q.cell? ⟨Ba,2,none⟩=some (.slice ua (Qd (Ql xs k).l).length uc)/\q.cell? ⟨wr.heap.size,0,none⟩=some (.int .i64 (Ql ys j).t)/\q.cell? ⟨wr.heap.size,1,none⟩=some (.int .i64 (Ql ys j).h)/\q.cell? ⟨wr.heap.size,2,none⟩=some (.slice u2a (Qd (Ql ys j).l).length u2c)/\q.cell? ⟨W.heap.size,0,none⟩=some (.func (.yield l) #[] #[])) hmx2 (by kernel_rfl) (λhw hcl=>?_)
     refine tq (i:=0) (v:=.pointer (some ⟨Ba,1,none⟩)) (λhcl=>?_)
     refine tq (i:=1) (v:=.int .i64 (Ql xs k).h) (λhcl=>?_)
     refine tq (i:=2) (v:=.pointer (some ⟨wr.heap.size,0,none⟩)) (λhcl=>?_)
     refine tq (i:=3) (v:=.int .i64 (Ql ys j).t) (λhcl=>?_)
     refine tq (i:=4) (v:=.bool true) (λhcl=>?_)
     refine tq (i:=5) (v:=.bool true) (λhcl=>?_)
     refine tq (i:=6) (v:=.func (.yield l) #[] #[]) (λhcl=>?_)
     refine tq (i:=7) (v:=.pointer (some ⟨Ba,0,none⟩)) (λhcl=>?_)
     refine tq (i:=8) (v:=.int .i64 (Ql xs k).t) (λhcl=>?_)
     refine tq (i:=9) (v:=.pointer (some ⟨wr.heap.size,1,none⟩)) (λhcl=>?_)
     refine tq (i:=10) (v:=.int .i64 (Ql ys j).h) (λhcl=>?_)
     refine tq (i:=11) (v:=.pointer (some ⟨Ba,2,none⟩)) (λhcl=>?_)
     refine tq (i:=12) (v:=.slice ua (Qd (Ql xs k).l).length uc) (λhcl=>?_)
     refine tq (i:=13) (v:=.pointer (some ⟨wr.heap.size,2,none⟩)) (λhcl=>?_)
     refine tq (i:=14) (v:=.slice u2a (Qd (Ql ys j).l).length u2c) (λhcl=>?_)
     refine anyS_act (a':=⟨#[.func (.yield l) #[] #[],.pointer (some ⟨bf,0,none⟩),.pointer (some ⟨bn,0,none⟩),.pointer (some ⟨W.heap.size,0,none⟩),.pointer (some ⟨Ba,0,none⟩),undef,.pointer (some ⟨wr.heap.size,0,none⟩),.func (.func gf) #[] lb,.agg #[.int .i64 (Ql xs k).t,.int .i64 (Ql xs k).h,.slice ua (Qd (Ql xs k).l).length uc],.slice (some ⟨b,off,none⟩) ny cap,.int .i64 ny,.int .i64 j,.bool true,.pointer (some ⟨b,off+j*3,none⟩),.agg #[.int .i64 (Ql ys j).t,.int .i64 (Ql ys j).h,.slice u2a (Qd (Ql ys j).l).length u2c],.pointer (some ⟨Ba,1,none⟩),.int .i64 (Ql xs k).h,.pointer (some ⟨wr.heap.size,0,none⟩),.int .i64 (Ql ys j).t,.bool true,.bool true,.func (.yield l) #[] #[],.pointer (some ⟨Ba,0,none⟩),.int .i64 (Ql xs k).t,.pointer (some ⟨wr.heap.size,1,none⟩),.int .i64 (Ql ys j).h,.pointer (some ⟨Ba,2,none⟩),.slice ua (Qd (Ql xs k).l).length uc,.pointer (some ⟨wr.heap.size,2,none⟩),.slice u2a (Qd (Ql ys j).l).length u2c,u30,u31,u32,u33,u34,u35,u36],[]⟩) (by kernel_rfl) ?_
     refine Ua (i:=15) (by kernel_rfl) rfl (by kernel_rfl) (λK hK=>?_)
     go_simp
     generalize hW6:(w5.alloc (.cells #[.slice ua (Qd (Ql xs k).l).length uc,.slice u2a (Qd (Ql ys j).l).length u2c] 23)).drew=w6 at *
     have HX56:Hid (Nx w5 w6):=by unfold Hid;rw[<-hW6];exact(Qc _ _).drew
     have HX6:Hid (Nx wr w6):=HX5.out.trans HX56.out
     have HZ6:=mh (Nat.lt_of_lt_of_le HB5.out.lt HX56.out.size)
     have HWD:Hid (Vl 0 w6 (.slice (some ⟨w5.heap.size,0,none⟩) 2 2) [Qd (Ql xs k).l,Qd (Ql ys j).l]):=words2 (t:=23) (by rw[<-hW6];exact BT.new w5 _ _ _ rfl) (HUr.out.next HX6.out) HCU.out (HU2.out.next HX6.out) HC2.out
     have HSN:Hid (∀q,Nx w5 q->(λq=>q.cell? ⟨Ba,0,none⟩=some (.int .i64 (Ql xs k).t)/\q.cell? ⟨Ba,1,none⟩=some (.int .i64 (Ql xs k).h)/\q.cell? ⟨Ba,2,none⟩=some (.slice ua (Qd (Ql xs k).l).length uc)/\q.cell? ⟨wr.heap.size,0,none⟩=some (.int .i64 (Ql ys j).t)/\q.cell? ⟨wr.heap.size,1,none⟩=some (.int .i64 (Ql ys j).h)/\q.cell? ⟨wr.heap.size,2,none⟩=some (.slice u2a (Qd (Ql ys j).l).length u2c)/\q.cell? ⟨W.heap.size,0,none⟩=some (.func (.yield l) #[] #[])) q):=λq hq=>by
      obtain⟨c1,c2,c3,c4,c5,c6,c7⟩:=HSS.out
      exact⟨Q3 hq c1,Q3 hq c2,Q3 hq c3,Q3 hq c4,Q3 hq c5,Q3 hq c6,Q3 hq c7⟩
     refine hK _ _ ⟨Or.inr (HSN.out _ HX56.out),?_⟩
     clear hK K hW6
     refine Ua (i:=16) (by kernel_rfl) rfl (by kernel_rfl) (λK hK=>?_)
     go_simp
     obtain⟨l1,l2⟩:=HLEN.out k j hk hlt
     refine⟨trivial,(callsIn_wide.2 (concat_any 0 _ _ w6 HWD.out (by simpa using l1) (by simpa using l2) (by simp))).mono ?_⟩
     rintro e w7 ⟨⟨u7,rfl,hu7⟩,hx7⟩
     have HX67:Hid (Nx w6 w7):=hx7
     have HU7:Hid (Q6 w6.heap.size w7 u7 (Qd ((Ql xs k).l++(Ql ys j).l))):=by
      unfold Hid
      rw[nums_app]
      simpa using hu7
     obtain⟨a7,c7,rfl⟩:=Q2 HU7.out
     clear hu7 hx7 l1 l2
     generalize hn7:(Qd ((Ql xs k).l++(Ql ys j).l)).length=n7 at *
     have HN7:=mh hn7
     clear hn7
     refine hK _ _ ⟨Or.inr (HSN.out _ (HX56.out.trans HX67.out)),?_⟩
     clear hK K
     refine Ua (i:=17) (by kernel_rfl) rfl (by kernel_rfl) (λK hK=>?_)
     go_simp
     refine hK _ _ ⟨Or.inr (HSN.out _ (HX56.out.trans HX67.out)),?_⟩
     clear hK K
     have HNXT:=extTo_next hk (show j<ys.length by rw[HNY.out];exact hlt) HEQ.out
     have HX7:Hid (Nx wr w7):=HX6.out.trans HX67.out
     have HCW7:Hid (Ck X noX W w7):=HCW.out.trans (Ck.nx HX7.out)
     obtain⟨fn,tmps,assign,body,hy,hR⟩:=HY.out (Xn xs ys k j).length #[.agg #[.int .i64 (Ql xs k).t,.int .i64 (Ql ys j).h,.slice a7 n7 c7]] w7 HNXT.1 (HJ.out _ _ _ HJj.out (Ck.nx HX7.out)) HCW7.out ⟨_,by rw[HNXT.2];rfl,by rw[HNXT.2];exact(Q6.base HU7.out (Nat.zero_le _)).held,λg hg=>Or.inr (Nat.le_trans HCW.out.size (Nat.le_trans HX6.out.size (Qf HU7.out g hg).1)),HU7.out.capOk⟩
     have HR:=mh hR
     clear hR HNXT
     refine Ua (i:=18) (by kernel_rfl) rfl (by kernel_rfl) (λK hK=>?_)
     go_simp
     refine RoundIn.mono HR.out ?_
     rintro e w8 ⟨hc8,hh8⟩
     have HC8:Hid (Ck X (λb=>w0.heap.size<=b) w1 w8):=(HCj.out.trans (Ck.nx HX7.out)).trans (hc8.mono (λ_ x=>x) (λb q=>by have:=HS0.out;omega))
     clear hc8
     rcases hh8 with⟨rfl,hj8⟩|⟨rfl,hj8⟩
     ·have HJ8:Hid (J (Xn xs ys k (j+1)).length w8):=by unfold Hid;rw[extTo_yes (by rw[HNY.out];exact hlt) HEQ.out,List.length_append];exact hj8
      clear hj8
      refine hK _ _ ⟨Or.inl (Nat.le_refl _),?_⟩
      clear hK K hy
      refine Ua (i:=19) (by kernel_rfl) rfl (by kernel_rfl) (λK hK=>?_)
      go_simp
      refine hK _ _ ⟨Or.inl (by decide),?_⟩
      clear hK K
      refine Ua (i:=20) (by kernel_rfl) rfl (by kernel_rfl) (λK hK=>?_)
      go_simp
      refine hK _ _ ⟨Or.inl (by decide),?_⟩
      clear hK K
      refine Qj (by kernel_rfl) ?_ _
      clear hw hcl HSS HSN
      gi_wp2
      go_roundw
      case rel=>exact⟨j+1,by omega,by go_num,HJ8,HC8⟩
      case measure=>simp[intOf];omega
     ·have HJ8:Hid (Jx w8):=hj8
      clear hj8
      refine hK _ _ ⟨Or.inl (Nat.le_refl _),?_⟩
      clear hK K hy
      refine Ua (i:=19) (by kernel_rfl) rfl (by kernel_rfl) (λK hK=>?_)
      go_simp
      refine hK _ _ ⟨Or.inl (by decide),?_⟩
      clear hK K
      refine Ua (i:=20) (by kernel_rfl) rfl (by kernel_rfl) (λK hK=>?_)
      go_simp
      refine hK _ _ ⟨Or.inl (by decide),?_⟩
      clear hK K
      refine Qj (by kernel_rfl) ?_ _
      clear hw hcl HSS HSN
      gi_wp2
      exact⟨HC8.out,HJ8.out⟩
    ·have hbq:((Ql xs k).h==(Ql ys j).t)=false:=by simp[heq]
     refine Q9 (c:=21) (S:=λq=>q.cell? ⟨Ba,0,none⟩=some (.int .i64 (Ql xs k).t)/\q.cell? ⟨Ba,1,none⟩=some (.int .i64 (Ql xs k).h)/\q.cell? ⟨Ba,2,none⟩=some (.slice ua (Qd (Ql xs k).l).length uc)/\q.cell? ⟨wr.heap.size,0,none⟩=some (.int .i64 (Ql ys j).t)/\q.cell? ⟨wr.heap.size,1,none⟩=some (.int .i64 (Ql ys j).h)/\q.cell? ⟨wr.heap.size,2,none⟩=some (.slice u2a (Qd (Ql ys j).l).length u2c)/\q.cell? ⟨W.heap.size,0,none⟩=some (.func (.yield l) #[] #[])) hmx2 (by kernel_rfl) (λhw hcl=>?_)
     refine tq (i:=0) (v:=.pointer (some ⟨Ba,1,none⟩)) (λhcl=>?_)
     refine tq (i:=1) (v:=.int .i64 (Ql xs k).h) (λhcl=>?_)
     refine tq (i:=2) (v:=.pointer (some ⟨wr.heap.size,0,none⟩)) (λhcl=>?_)
     refine tq (i:=3) (v:=.int .i64 (Ql ys j).t) (λhcl=>?_)
     refine tq (i:=4) (v:=.bool false) (λhcl=>?_)
     refine tq (i:=5) (v:=.bool false) (λhcl=>?_)
     refine Qb (i:=6) (v:=undef) hw (by decide) hcl (J7 (by kernel_rfl)) rfl (by kernel_rfl) (by kernel_rfl) (by kernel_rfl) (λ_ _ _ h=>h) ⟨Or.inr ⟨by kernel_rfl,rfl⟩,λ_=>rfl⟩ HSS.out (λhcl=>?_)
     refine Qb (i:=7) (v:=undef) hw (by decide) hcl (J7 (by kernel_rfl)) rfl (by kernel_rfl) (by kernel_rfl) (by kernel_rfl) (λ_ _ _ h=>h) ⟨Or.inr ⟨by kernel_rfl,rfl⟩,λ_=>rfl⟩ HSS.out (λhcl=>?_)
     refine Qb (i:=8) (v:=undef) hw (by decide) hcl (J7 (by kernel_rfl)) rfl (by kernel_rfl) (by kernel_rfl) (by kernel_rfl) (λ_ _ _ h=>h) ⟨Or.inr ⟨by kernel_rfl,rfl⟩,λ_=>rfl⟩ HSS.out (λhcl=>?_)
     refine Qb (i:=9) (v:=undef) hw (by decide) hcl (J7 (by kernel_rfl)) rfl (by kernel_rfl) (by kernel_rfl) (by kernel_rfl) (λ_ _ _ h=>h) ⟨Or.inr ⟨by kernel_rfl,rfl⟩,λ_=>rfl⟩ HSS.out (λhcl=>?_)
     refine Qb (i:=10) (v:=undef) hw (by decide) hcl (J7 (by kernel_rfl)) rfl (by kernel_rfl) (by kernel_rfl) (by kernel_rfl) (λ_ _ _ h=>h) ⟨Or.inr ⟨by kernel_rfl,rfl⟩,λ_=>rfl⟩ HSS.out (λhcl=>?_)
     refine Qb (i:=11) (v:=undef) hw (by decide) hcl (J7 (by kernel_rfl)) rfl (by kernel_rfl) (by kernel_rfl) (by kernel_rfl) (λ_ _ _ h=>h) ⟨Or.inr ⟨by kernel_rfl,rfl⟩,λ_=>rfl⟩ HSS.out (λhcl=>?_)
     refine Qb (i:=12) (v:=undef) hw (by decide) hcl (J7 (by kernel_rfl)) rfl (by kernel_rfl) (by kernel_rfl) (by kernel_rfl) (λ_ _ _ h=>h) ⟨Or.inr ⟨by kernel_rfl,rfl⟩,λ_=>rfl⟩ HSS.out (λhcl=>?_)
     refine Qb (i:=13) (v:=undef) hw (by decide) hcl (J7 (by kernel_rfl)) rfl (by kernel_rfl) (by kernel_rfl) (by kernel_rfl) (λ_ _ _ h=>h) ⟨Or.inr ⟨by kernel_rfl,rfl⟩,λ_=>rfl⟩ HSS.out (λhcl=>?_)
     refine Qb (i:=14) (v:=undef) hw (by decide) hcl (J7 (by kernel_rfl)) rfl (by kernel_rfl) (by kernel_rfl) (by kernel_rfl) (λ_ _ _ h=>h) ⟨Or.inr ⟨by kernel_rfl,rfl⟩,λ_=>rfl⟩ HSS.out (λhcl=>?_)
     refine Qb (i:=15) (v:=undef) hw (by decide) hcl (J7 (by kernel_rfl)) rfl (by kernel_rfl) (by kernel_rfl) (by kernel_rfl) (λ_ _ _ h=>h) ⟨Or.inr ⟨by kernel_rfl,rfl⟩,λ_=>rfl⟩ HSS.out (λhcl=>?_)
     refine anyS_skip (i:=16) (by kernel_rfl) rfl (by kernel_rfl) (λ_ _=>trivial) (Or.inr HSS.out) hcl (λhcl=>?_)
     refine Qb (i:=17) (v:=undef) hw (by decide) hcl (J7 (by kernel_rfl)) rfl (by kernel_rfl) (by kernel_rfl) (by kernel_rfl) (λ_ _ _ h=>h) ⟨Or.inr ⟨by kernel_rfl,rfl⟩,λ_=>rfl⟩ HSS.out (λhcl=>?_)
     refine anyS_skip (i:=18) (by kernel_rfl) rfl (by kernel_rfl) (λ_ _=>trivial) (Or.inr HSS.out) hcl (λhcl=>?_)
     refine Qb (i:=19) (v:=undef) hw (by decide) hcl (J7 (by kernel_rfl)) rfl (by kernel_rfl) (by kernel_rfl) (by kernel_rfl) (λ_ _ _ h=>h) ⟨Or.inr ⟨by kernel_rfl,rfl⟩,λ_=>rfl⟩ HSS.out (λhcl=>?_)
     refine Qb (i:=20) (v:=.bool false) hw (by decide) hcl (J7 (by kernel_rfl)) rfl (by kernel_rfl) (by kernel_rfl) (by kernel_rfl) (λ_ _ _ h=>h) ⟨Or.inl ⟨by kernel_rfl,?y20⟩,λ_=>rfl⟩ HSS.out (λhcl=>?_)
     case y20=>
      rintro q ⟨c1,c2,c3,c4,c5,c6,c7⟩
      kernel_rfl
     refine anyS_act (a':=⟨#[.func (.yield l) #[] #[],.pointer (some ⟨bf,0,none⟩),.pointer (some ⟨bn,0,none⟩),.pointer (some ⟨W.heap.size,0,none⟩),.pointer (some ⟨Ba,0,none⟩),undef,.pointer (some ⟨wr.heap.size,0,none⟩),.func (.func gf) #[] lb,.agg #[.int .i64 (Ql xs k).t,.int .i64 (Ql xs k).h,.slice ua (Qd (Ql xs k).l).length uc],.slice (some ⟨b,off,none⟩) ny cap,.int .i64 ny,.int .i64 j,.bool true,.pointer (some ⟨b,off+j*3,none⟩),.agg #[.int .i64 (Ql ys j).t,.int .i64 (Ql ys j).h,.slice u2a (Qd (Ql ys j).l).length u2c],.pointer (some ⟨Ba,1,none⟩),.int .i64 (Ql xs k).h,.pointer (some ⟨wr.heap.size,0,none⟩),.int .i64 (Ql ys j).t,.bool false,.bool false,undef,undef,undef,undef,undef,undef,undef,undef,undef,undef,undef,undef,undef,undef,.bool false,u36],[]⟩) (by kernel_rfl) ?_
     refine Qj (by kernel_rfl) ?_ _
     clear hw hcl HSS
     have HJn:Hid (J (Xn xs ys k (j+1)).length w5.drew):=by unfold Hid;rw[extTo_no (by rw[HNY.out];exact hlt) heq];exact HJ.out _ _ _ HJj.out (Ck.nx HXD.out)
     have HCn:=mh (HCj.out.trans (Ck.nx HXD.out))
     gi_wp2
     go_roundw
     case rel=>exact⟨j+1,by omega,by go_num,HJn,HCn⟩
     case measure=>simp[intOf];omega
   ·have ej:j=ny:=by omega
    subst ej
    gi_wp2
    refine⟨HCj.out,?_,?_⟩
    ·show J (Xn xs ys (k+1) 0).length wr
     rw[<-extTo_full hk,HNY.out]
     exact HJj.out
    ·exact HBY.out.ck HCj.out (λx=>by have:=(HX.out _ x).2;omega)
theorem map_ck {K:Nat->Prop}{A B:World}{mb n:Nat}{ks:DataW Unit}(h:A.ownsMap Tryz.prog 2 ptrR mb n ks)(k:Ck noX K A B):B.ownsMap Tryz.prog 2 ptrR mb n ks:=by
 obtain⟨es,clock,h1,r⟩:=h
 exact⟨es,clock,k.block mb _ h1 id (Or.inr rfl),r⟩
theorem OwnS.ck {K:Nat->Prop}{C D:Nat}{A B:World}{v:Value}{es:List Eg}{ls:List (List Nat)}(h:OwnS C D A v es ls)(k:Ck noX K A B):OwnS C D B v es ls:=by
 obtain⟨us,hl,hr,hi⟩:=h
 exact⟨us,hl,row_ck hr k (λ_ _=>id),λi hlt=>row_ck (hi i hlt) k (λ_ _=>id)⟩
theorem LR.ck {K:Nat->Prop}{C:Nat}{N:Nt}{es:List Eg}{kw me mr ma tk:Nat}{A B:World}{L:Lk}(h:LR C N es kw me mr ma tk A L)(c:Ck noX K A B):LR C N es kw me mr ma tk B L:=
 ⟨h.road.ck c id,h.cr,h.cm,h.cw,h.ce,map_ck h.map c,λi hi=>(h.way i hi).ck c id,λi hi=>row_ck (h.row i hi) c (λ_ _=>id),row_ck h.all c (λ_ _=>id),λe he=>(h.edge e he).ck c id,h.apart,h.apartE,λi hi=>(h.trav i hi).ck c,h.bare⟩
def Ye (es:List Eg)(l:List Nat):Sx:=⟨tlL es l,hdL es l,l⟩
theorem sxat_map {es:List Eg}{ls:List (List Nat)}{i:Nat}(hi:i<ls.length):Ql (ls.map (Ye es)) i=Ye es (Jj ls i):=by
 simp[Ql,Jj,List.getD_eq_getElem?_getD,hi]
theorem OwnS.stx {C D:Nat}{w:World}{v:Value}{es:List Eg}{ls:List (List Nat)}(h:OwnS C D w v es ls):HStx w.heap.size w v (ls.map (Ye es)):=by
 obtain⟨us,hl,hr,hi⟩:=h
 obtain⟨h1,h2⟩:=hr
 rcases h2 with⟨rfl,h3⟩|⟨g,cap,cur,hv,hg,hh,hc,hm,hs,ht⟩
 ·exact⟨none,0,by simp[h3],by simp[h3],λhp=>by simp[h3] at hp⟩
 ·refine⟨some ⟨g,0,none⟩,cap,by simpa using hv,by simp;omega,λ_=>⟨g,0,rfl,Nat.zero_le _,(Array.getElem?_eq_some_iff.1 hh).1,λi hlt=>?_⟩⟩
  have hlt':i<ls.length:=by simpa using hlt
  have hz:(ls.zip us)[i]?=some (Jj ls i,vat us i):=by
   rw[List.getElem?_zip_eq_some]
   exact⟨by simp[Jj,List.getD_eq_getElem?_getD,hlt'],by simp[vat,List.getD,List.getElem?_eq_getElem (show i<us.length by omega)]⟩
  have key:∀q,q<3->w.cell? ⟨g,0+i*3+q,none⟩=(stc es (Jj ls i,vat us i))[q]?:=λq hq=>by
   have e1:(cur.toList.take (ls.length*3))[i*3+q]?=((ls.zip us).flatMap (stc es))[i*3+q]?:=by rw[ht]
   rw[List.getElem?_take_of_lt (by omega),Array.getElem?_toList] at e1
   rw[flat3 (ls.zip us) (stc es) (λ_=>rfl) i q hq _ hz] at e1
   have hlt:i*3+q<cur.size:=by omega
   rw[Nat.zero_add]
   simp only[World.cell?,hh,e1]
   rfl
  simp only[]
  rw[sxat_map hlt']
  have ho:=hi i hlt'
  exact⟨vat us i,key 0 (by omega),key 1 (by omega),key 2 (by omega),(Q6.base ho (Nat.zero_le _)).held,λg hg=>(Qf ho g hg).2,ho.capOk⟩
theorem HStx.ckX {X K:Nat->Prop}{z:Nat}{A B:World}{v:Value}{xs:List Sx}(h:HStx z A v xs)(c:Ck X K A B)(hx:∀b,X b->z<=b)(hv:∀g,v.ownBlock=some g->¬X g):HStx z B v xs:=by
 obtain⟨a,cap,rfl,hm,hk⟩:=h
 refine⟨a,cap,rfl,hm,λhp=>?_⟩
 obtain⟨b,off,rfl,h0,hb,hc⟩:=hk hp
 have nb:¬X b:=hv b rfl
 refine⟨b,off,rfl,h0,Nat.lt_of_lt_of_le hb c.size,λi hi=>?_⟩
 obtain⟨u,z0,z1,z2,hu,hl,hcp⟩:=hc i hi
 exact⟨u,cell_ckX c nb z0,cell_ckX c nb z1,cell_ckX c nb z2,hu.ckX c (λg hg x=>by have:=hx g x;have:=hl g hg;omega),hl,hcp⟩
theorem HStx.ck {K:Nat->Prop}{z:Nat}{A B:World}{v:Value}{xs:List Sx}(h:HStx z A v xs)(c:Ck noX K A B):HStx z B v xs:=h.ckX c (λ_ x=>x.elim) (λ_ _=>id)
def Fd (z c:Nat)(M:List Sx)(fv:Value)(w:World):Prop:=∃gf lb Inv,fv=.func (.func gf) #[] lb/\Gives Tryz.prog gf lb (PyS z M) z M.length Inv/\(∀args w,(callFunc gf args).run Tryz.prog w=.ok (.enter gf args) w)/\∀(X:Nat->Prop) B,(∀b,X b->z<=b/\b<c)->Ck X noX w B->Inv B
theorem Fd.next {z c:Nat}{M:List Sx}{fv:Value}{w w':World}(h:Fd z c M fv w)(k:Nx w w'):Fd z c M fv w':=by
 obtain⟨gf,lb,Inv,h1,h2,h3,h4⟩:=h
 exact⟨gf,lb,Inv,h1,h2,h3,λX B hX hc=>h4 X B hX ((Ck.nx k).trans hc)⟩
theorem Fd.values {z c:Nat}{M:List Sx}{a:Option Addr}{n cp:Nat}{w:World}(h:HStx z w (.slice a n cp) M)(hv:∀g,(Value.slice a n cp).ownBlock=some g->g<z\/c<=g)(hc:c<=w.heap.size) :
  Fd z c M (.func (.func 92) #[] #[.pointer (some ⟨w.heap.size,0,none⟩)]) (w.alloc (.cells #[.slice a n cp] 79)):=by
 refine⟨_,_,InvV z w.heap.size (.slice a n cp) M,rfl,values_gives z w.heap.size _ M,λ_ _=>rfl,λX B hX hk=>⟨?_,?_⟩⟩
 ·exact((BT.new w #[.slice a n cp] 79 _ rfl).ck hk (λx=>by have:=(hX _ x).2;omega)).blk.cell (i:=0) rfl
 ·exact h.ckX ((Ck.nx (Qc _ _)).trans hk) (λb x=>(hX b x).1) (λg hg x=>by have:=hX g x;rcases hv g hg with q|q<;>omega)
theorem extend_any (gf:Nat)(lb:Array Value)(a:Option Addr)(n c:Nat)(w:World) :
  Calls Tryz.prog 87 #[.func (.func gf) #[] lb,.slice a n c] w λe w'=>e=.returned (.func (.func 93) #[] #[.pointer (some ⟨w.heap.size,0,none⟩),.pointer (some ⟨w.heap.size+1,0,none⟩)])/\w'=(w.alloc (.cells #[.func (.func gf) #[] lb] 121)).alloc (.cells #[.slice a n c] 79):=by
 have hmf:∀(fn:Fn) (first cap:Array Value) (w:World),(Instr.makeFunc fn first cap).run Tryz.prog w=.ok (.func fn first cap) w:=λ_ _ _ _=>rfl
 go_enter Tryz.func87,Tryz.ntmps87
 go_wp2
 go_ret
 exact⟨rfl,rfl⟩
theorem Fd.ext {z c:Nat}{M ys:List Sx}{gf:Nat}{lb:Array Value}{a:Option Addr}{n cp:Nat}{w:World}(h0:Fd z c M (.func (.func gf) #[] lb) w)(hLen:∀k j,k<M.length->j<ys.length->0<(Qd (Ql M k).l++Qd (Ql ys j).l).length/\(Qd (Ql M k).l++Qd (Ql ys j).l).length<=1000000)
  (h:HStx z w (.slice a n cp) ys) (hv:∀g,(Value.slice a n cp).ownBlock=some g->g<z\/c<=g) (hc:c<=w.heap.size) :
  Fd z c (exts M ys) (.func (.func 93) #[] #[.pointer (some ⟨w.heap.size,0,none⟩),.pointer (some ⟨w.heap.size+1,0,none⟩)]) ((w.alloc (.cells #[.func (.func gf) #[] lb] 121)).alloc (.cells #[.slice a n cp] 79)):=by
 obtain⟨gf',lb',InvB,e,h1,h2,h3⟩:=h0
 simp only[Value.func.injEq,Fn.func.injEq,true_and] at e
 obtain⟨rfl,rfl⟩:=e
 refine⟨_,_,InvE z w.heap.size (w.heap.size+1) gf lb (.slice a n cp) ys InvB,rfl,λX l m J Jx W hX hInv hJ hJx hY h0=>extend1_in z _ _ gf lb _ M ys hLen InvB h1 h2 X l m J Jx W hX hInv hJ hJx hY h0,λ_ _=>rfl,λX B hX hk=>?_⟩
 have nx:∀b,c<=b->¬X b:=λb q x=>by have:=(hX _ x).2;omega
 have hk':Ck X noX w B:=((Ck.nx (Qc _ _)).trans (Ck.nx (Qc _ _))).trans hk
 refine⟨?_,?_,?_,h3 X B hX hk'⟩
 ·exact(((BT.new w #[.func (.func gf) #[] lb] 121 _ rfl).alloc _).ck hk (nx _ hc)).blk.cell (i:=0) rfl
 ·exact((BT.new (w.alloc (.cells #[.func (.func gf) #[] lb] 121)) #[.slice a n cp] 79 _ (by simp)).ck hk (nx _ (by omega))).blk.cell (i:=0) rfl
 ·exact h.ckX hk' (λb x=>(hX b x).1) (λg hg x=>by have:=hX g x;rcases hv g hg with q|q<;>omega)
theorem mkHid {p:Prop}(h:p):Hid p:=h
theorem exts_sx {es:List Eg}{A B:List (List Nat)}(hA:∀l∈A,l≠[])(hB:∀p∈B,p≠[]):exts (A.map (Ye es)) (B.map (Ye es))=(J3 es A B).map (Ye es):=by
 unfold exts J3
 rw[List.flatMap_map,List.map_flatMap]
 refine Ya (λl hl=>?_)
 unfold extOf
 rw[List.filter_map,List.map_map,List.map_map]
 refine List.map_congr_left (λp hp=>?_)
 have hp':p∈B:=(List.mem_filter.1 hp).1
 simp only[Function.comp,joinS,Ye]
 rw[tlL_app es (hA l hl),hdL_app es (hB p hp')]
def midL (N:Nt)(r:Rl):Nat->List (List Nat)
 |0=>J1 N (E1 N) (wpos N.ways (iat r.ways 0))
 |k+1=>J3 (E1 N) (midL N r k) (J1 N (E1 N) (wpos N.ways (iat r.ways (k+1))))
def V9 (N:Nt)(r:Rl):List Sx:=if r.via then [⟨pos N.nodes r.node,pos N.nodes r.node,[]⟩] else (midL N r (r.ways.length-1)).map (Ye (E1 N))
structure RelG (N:Nt)(r:Rl):Prop where
 frm:Ji N.ways r.frm=true
 dst:Ji N.ways r.to=true
 node:r.via=true->Vt N.nodes r.node=true
 one:r.via=false->1<=r.ways.length/\r.ways.length<=4
 ways:r.via=false->∀k,k<r.ways.length->Ji N.ways (iat r.ways k)=true
theorem rel_g {N:Nt}{r:Rl}(h:J9 N r=true):RelG N r:=by
 simp only[J9,Bool.and_eq_true] at h
 obtain⟨_,hf,ht,hT⟩:=h
 unfold J6 at hT
 refine⟨hf,ht,λe=>?_,λe=>?_,λe k hk=>?_⟩
 ·rw[if_pos e] at hT
  simp only[Bool.and_eq_true] at hT
  exact hT.2
 ·rw[if_neg (by simp[e])] at hT
  simp only[Bool.and_eq_true,decide_eq_true_eq] at hT
  exact⟨hT.2.1,hT.2.2.1⟩
 ·rw[if_neg (by simp[e])] at hT
  simp only[Bool.and_eq_true,decide_eq_true_eq] at hT
  exact allN_at hT.2.2.2 hk
theorem E1_le' {N:Nt}(hv:Qh N=true):(E1 N).length<=4000:=E1_le (Jq hv)
theorem Zp {N:Nt}{r:Rl}(hv:Qh N=true)(hg:RelG N r)(hvia:r.via=false):∀k,k<r.ways.length->∀l∈midL N r k,Zz (E1 N).length l/\l.length<=4000*(k+1)
 |0,hk=>by
  have hw:=V8 (hg.ways hvia 0 hk)
  have he:=Xu (Jq hv) (X9 hv) hw
  intro l hl
  exact Z3 (E1_le' hv) he.1 he.2 l hl
 |k+1,hk=>by
  have hw:=V8 (hg.ways hvia (k+1) hk)
  have he:=Xu (Jq hv) (X9 hv) hw
  have hl4:=(hg.one hvia).2
  intro l hl
  exact growL_good (Zp hv hg hvia k (by omega)) (Z3 (E1_le' hv) he.1 he.2) (by omega) l hl
theorem sx_mem {es:List Eg}{A:List (List Nat)}{k:Nat}(hk:k<(A.map (Ye es)).length):∃l∈A,Ql (A.map (Ye es)) k=Ye es l:=by
 have hk':k<A.length:=by simpa using hk
 exact⟨Jj A k,by simp[Jj,List.getD_eq_getElem?_getD,hk'],sxat_map hk'⟩
theorem mid_len {N:Nt}{r:Rl}(hv:Qh N=true)(hg:RelG N r)(hvia:r.via=false){k:Nat}(hk:k+1<r.ways.length):∀a c,a<((midL N r k).map (Ye (E1 N))).length->c<((J1 N (E1 N) (wpos N.ways (iat r.ways (k+1)))).map (Ye (E1 N))).length->0<(Qd (Ql ((midL N r k).map (Ye (E1 N))) a).l++Qd (Ql ((J1 N (E1 N) (wpos N.ways (iat r.ways (k+1)))).map (Ye (E1 N))) c).l).length/\(Qd (Ql ((midL N r k).map (Ye (E1 N))) a).l++Qd (Ql ((J1 N (E1 N) (wpos N.ways (iat r.ways (k+1)))).map (Ye (E1 N))) c).l).length<=1000000:=by
 intro a c ha hc
 obtain⟨l,hl,el⟩:=sx_mem ha
 obtain⟨p,hp,ep⟩:=sx_mem hc
 have h1:=Zp hv hg hvia k (by omega) l hl
 have he:=Xu (Jq hv) (X9 hv) (V8 (hg.ways hvia (k+1) hk))
 have h2:=Z3 (E1_le' hv) he.1 he.2 p hp
 have h4:=(hg.one hvia).2
 have hl0:0<l.length:=List.length_pos_iff.2 h1.1.1
 rw[el,ep]
 simp only[Ye,List.length_append,Qw]
 omega
theorem mid_ext {N:Nt}{r:Rl}(hv:Qh N=true)(hg:RelG N r)(hvia:r.via=false){k:Nat}(hk:k+1<r.ways.length):(midL N r (k+1)).map (Ye (E1 N))=exts ((midL N r k).map (Ye (E1 N))) ((J1 N (E1 N) (wpos N.ways (iat r.ways (k+1)))).map (Ye (E1 N))):=by
 have he:=Xu (Jq hv) (X9 hv) (V8 (hg.ways hvia (k+1) hk))
 rw[exts_sx (λl hl=>(Zp hv hg hvia k (by omega) l hl).1.1) (λp hp=>(Z3 (E1_le' hv) he.1 he.2 p hp).1.1)]
 rfl
theorem LR.ways {C:Nat}{N:Nt}{w:World}{L:Lk}{m:Nat}(h:LR C N (E1 N) N.ways.length m m m N.ways.length w L)(hv:Qh N=true)(hm:m=(E1 N).length){id:Int}(hid:Ji N.ways id=true) :
  (Instr.lookup 74 (.map (some L.bm)) (.int .i64 id) false).run Tryz.prog w=.ok (.pointer (some ⟨L.wb (wpos N.ways id),0,none⟩)) w/\HStx w.heap.size w (L.ts (wpos N.ways id)) ((J1 N (E1 N) (wpos N.ways id)).map (Ye (E1 N))):=by
 subst hm
 have hp:=V8 hid
 have hk:=lk_in hv
 have hi:=wpos_id hid
 refine⟨?_,?_⟩
 ·have:=wkids_of (N:=N) (wb:=L.wb) hp (hk.inj (Nat.le_refl _))
  rw[hi] at this
  exact Jm h.map (by rw[<-hi];exact hk.wf _ hp) this
 ·rw[<-trv_travs hv hp]
  exact(h.trav _ hp).stx
theorem OwnS.lt {C D:Nat}{w:World}{v:Value}{es:List Eg}{ls:List (List Nat)}(h:OwnS C D w v es ls):∀g,v.ownBlock=some g->g<w.heap.size:=λg hg=>by
 obtain⟨us,_,hr,_⟩:=h
 exact(Qf hr g hg).2
theorem HStx.next {z:Nat}{A B:World}{v:Value}{xs:List Sx}(h:HStx z A v xs)(k:Nx A B):HStx z B v xs:=h.ck (Ck.nx (K:=noX) k)
theorem one_stx {z g t:Nat}{w:World}{x:Int}(h:BT w g #[.int .i64 x,.int .i64 x,.slice none 0 0] t):HStx z w (.slice (some ⟨g,0,none⟩) 1 1) [⟨x,x,[]⟩]:=by
 refine⟨_,_,rfl,by simp[maxLen],λ_=>⟨g,0,rfl,Nat.zero_le _,h.lt,λi hi=>?_⟩⟩
 have hi0:i=0:=by simpa using hi
 subst hi0
 exact⟨.slice none 0 0,h.blk.cell (i:=0) rfl,h.blk.cell (i:=1) rfl,h.blk.cell (i:=2) rfl,⟨none,0,rfl,by simp[Qd,Ql],λhp=>by simp[Qd,Ql] at hp⟩,λg hg=>by simp[Value.ownBlock] at hg,⟨_,_,_,rfl,Nat.le_refl _⟩⟩
theorem middles_any (C B:Nat)(N:Nt)(L:Lk)(wR:World)(r:Rl)(vw:Value)(w:World)(hv:Qh N=true)(hR:LR C N (E1 N) N.ways.length (E1 N).length (E1 N).length (E1 N).length N.ways.length wR L)(hk:Ck noX noX wR w)(h0:Qo B w L.v0 N.nodes)(hw:Qo B w vw r.ways)(hg:RelG N r)(hcp:Yx vw) :
  Calls Tryz.prog 66 #[.pointer (some ⟨L.br,0,none⟩),.agg #[.int .i64 r.id,.bool r.only,.int .i64 r.frm,.int .i64 r.to,.bool r.via,.int .i64 r.node,vw]] w λe w'=>(∃fv,e=.returned fv/\Fd wR.heap.size w.heap.size (V9 N r) fv w')/\Nx w w':=by
 have HV:=mh hv
 have HR:=mh hR
 have HK:Hid (Ck noX noX wR w):=hk
 have H0:=mh h0
 have HG:Hid (RelG N r):=hg
 have HCP:Hid (Yx vw):=hcp
 have HW:=mh hw
 have hmx:Tryz.prog.follows .mixedOrders=true:=by kernel_rfl
 obtain⟨wa,wc,rfl,hwm,hwk⟩:=hw
 unfold maxLen at hwm
 generalize hnw:r.ways.length=nw at *
 have HNW:=mh hnw
 clear hv hR hk h0 hg hwk hnw hcp
 go_enter Tryz.func66,Tryz.ntmps66
 cases hvia:r.via
 ·
  have HVIA:Hid (r.via=false):=hvia
  have HONE:Hid (1<=nw/\nw<=4):=by have:=HG.out.one hvia;rw[HNW.out] at this;exact this
  have HWS:Hid (∀k,k<nw->Ji N.ways (iat r.ways k)=true):=by have:=HG.out.ways hvia;rw[HNW.out] at this;exact this
  go_upto_region 4 with fail
  clear hvia
  generalize hW0:w.alloc (.cells #[.int .i64 r.id,.bool r.only,.int .i64 r.frm,.int .i64 r.to,.bool false,.int .i64 r.node,.slice wa nw wc] 41)=w0
  have HX0:Hid (Nx w w0):=by unfold Hid;rw[<-hW0];exact Qc _ _
  have HB0:Hid (BT w0 w.heap.size #[.int .i64 r.id,.bool r.only,.int .i64 r.frm,.int .i64 r.to,.bool false,.int .i64 r.node,.slice wa nw wc] 41):=by unfold Hid;rw[<-hW0];exact BT.new _ _ _ _ rfl
  have HZ0:=mh HB0.out.lt
  have HLR:=mh ((HR.out.ck HK.out).next HX0.out)
  have HKW:Hid (Ck noX noX wR w0):=HK.out.trans (Ck.nx HX0.out)
  have HWK:=mh (HW.out.next HX0.out)
  clear hW0
  obtain⟨wa',wc',hse,_,hwk⟩:=HWK.out
  have hn1:=HONE.out.1
  obtain⟨wb,wo,rfl,_,_,hwc⟩:=hwk (by rw[HNW.out];omega)
  simp only[Value.slice.injEq] at hse
  obtain⟨rfl,hzz,rfl⟩:=hse
  clear hzz
  have hwc0:=hwc 0 (by rw[HNW.out];omega)
  obtain⟨hlk,hst⟩:=HLR.out.ways HV.out rfl (HWS.out 0 (by omega))
  have hst':=(HR.out.ways HV.out rfl (HWS.out 0 (by omega))).2.ck HKW.out
  have hp0:=V8 (HWS.out 0 (by omega))
  have hwy:=HLR.out.way _ hp0
  generalize hp:wpos N.ways (iat r.ways 0)=p0 at *
  have HP0:=mh hp
  have HTS:=mh hst'
  obtain⟨ta,tc,hte,_,_⟩:=hst'
  generalize htn:((J1 N (E1 N) p0).map (Ye (E1 N))).length=tn at *
  have HTN:=mh htn
  have HTE:=mh hte
  have hlk':(Instr.lookup 74 (.map (some L.bm)) (.int .i64 (iat r.ways 0)) false).run Tryz.prog w0.drew=.ok (.pointer (some ⟨L.wb p0,0,none⟩)) w0.drew:=by
   have:=((HLR.out.next (show Nx w0 w0.drew from(Below.refl _ _).drew)).ways HV.out rfl (HWS.out 0 (by omega))).1
   rw[HP0.out] at this
   exact this
  have HSS:Hid ((λq=>q.cell? ⟨L.br,6,none⟩=some (.map (some L.bm))/\q.cell? ⟨w.heap.size,6,none⟩=some (.slice (some ⟨wb,wo,none⟩) nw wc)/\q.cell? ⟨wb,wo,none⟩=some (.int .i64 (iat r.ways 0))/\(Instr.lookup 74 (.map (some L.bm)) (.int .i64 (iat r.ways 0)) false).run Tryz.prog q=.ok (.pointer (some ⟨L.wb p0,0,none⟩)) q/\q.cell? ⟨L.wb p0,2,none⟩=some (.slice ta tn tc)) w0.drew):=⟨HLR.out.road.blk.cell (i:=6) rfl,HB0.out.blk.cell (i:=6) rfl,hwc0,hlk',by have:=hwy.blk.cell (i:=2) rfl;rw[hte] at this;exact this⟩
  clear hlk hlk' hst hp0 hwy hp hte htn hwc0 hwc hwk
  refine(wpIn_wide (n:=9)).1 ?_
  refine Q9 (c:=12) (S:=λq=>q.cell? ⟨L.br,6,none⟩=some (.map (some L.bm))/\q.cell? ⟨w.heap.size,6,none⟩=some (.slice (some ⟨wb,wo,none⟩) nw wc)/\q.cell? ⟨wb,wo,none⟩=some (.int .i64 (iat r.ways 0))/\(Instr.lookup 74 (.map (some L.bm)) (.int .i64 (iat r.ways 0)) false).run Tryz.prog q=.ok (.pointer (some ⟨L.wb p0,0,none⟩)) q/\q.cell? ⟨L.wb p0,2,none⟩=some (.slice ta tn tc)) hmx (by kernel_rfl) (λhw hcl=>?_)
  refine tq (i:=0) (v:=.pointer (some ⟨L.br,0,none⟩)) (λhcl=>?_)
  refine tq (i:=1) (v:=.pointer (some ⟨L.br,0,none⟩)) (λhcl=>?_)
  refine tq (i:=2) (v:=.pointer (some ⟨L.br,6,none⟩)) (λhcl=>?_)
  refine tq (i:=3) (v:=.map (some L.bm)) (λhcl=>?_)
  refine tq (i:=4) (v:=.pointer (some ⟨w.heap.size,6,none⟩)) (λhcl=>?_)
  refine tq (i:=5) (v:=.slice (some ⟨wb,wo,none⟩) nw wc) (λhcl=>?_)
  refine Qb (i:=6) (v:=.pointer (some ⟨wb,wo,none⟩)) hw (by decide) hcl (Q4 rfl) rfl (by kernel_rfl) (by kernel_rfl) (by kernel_rfl) (λ_ _ _ h=>h) ⟨Or.inl ⟨by kernel_rfl,?y6⟩,λ_=>rfl⟩ HSS.out (λhcl=>?_)
  case y6=>
   rintro q ⟨c1,c2,c3,c4,c5⟩
   go_simp
   try (intro h;omega)
  refine tq (i:=7) (v:=.int .i64 (iat r.ways 0)) (λhcl=>?_)
  refine tq (i:=8) (v:=.pointer (some ⟨L.wb p0,0,none⟩)) (λhcl=>?_)
  refine tq (i:=9) (v:=.pointer (some ⟨L.wb p0,0,none⟩)) (λhcl=>?_)
  refine tq (i:=10) (v:=.pointer (some ⟨L.wb p0,2,none⟩)) (λhcl=>?_)
  refine tq (i:=11) (v:=.slice ta tn tc) (λhcl=>?_)
  refine Q5 (i:=12) (by kernel_rfl) (wpOpIn_step rfl (λK hK=>?_))
  go_simp
  refine⟨trivial,(callsIn_wide.2 (values_any ta tn tc _)).mono ?_⟩
  rintro e w1 ⟨rfl,hw1⟩
  have HX1:Hid (Nx w0 w1):=by unfold Hid;rw[hw1];exact((Below.refl _ _).drew).alloc (Nat.le_refl _) _
  have HF1:Hid (Fd wR.heap.size w.heap.size ((midL N r 0).map (Ye (E1 N))) (.func (.func 92) #[] #[.pointer (some ⟨w0.heap.size,0,none⟩)]) w1):=by
   unfold Hid
   rw[hw1,show midL N r 0=J1 N (E1 N) p0 by rw[<-HP0.out];rfl]
   refine Fd.values (w:=w0.drew) (by have:=HTS.out;rw[HTE.out] at this;exact this.next (show Nx w0 w0.drew from(Below.refl _ _).drew)) (λg hg=>Or.inl ?_) (Nat.le_of_lt HZ0.out)
   have hrow:=(HR.out.trav p0 (by rw[<-HP0.out];exact V8 (HWS.out 0 (by omega))))
   rw[HTE.out] at hrow
   exact hrow.lt g hg
  clear hw1
  refine hK _ _ ⟨Or.inl (Nat.le_refl _),?_⟩
  clear hK K
  refine Q5 (i:=13) (by kernel_rfl) (wpOpIn_step rfl (λK hK=>?_))
  go_simp
  refine hK _ _ ⟨Or.inl (by decide),?_⟩
  clear hK K
  refine Qj (by kernel_rfl) ?_ _
  clear hw hcl HSS
  have HB1:=mh (HB0.out.next HX1.out)
  have x6:=HB1.out.blk.cell (i:=6) rfl
  have HXA:Hid (Nx w w1):=HX0.out.trans HX1.out
  have HCELL:Hid (∀k,k<nw->∀q,Nx w q->q.cell? ⟨wb,wo+k,none⟩=some (.int .i64 (iat r.ways k))):=λk hk q hq=>by
   obtain⟨a',c',e',_,hh⟩:=HW.out.next hq
   obtain⟨b',o',rfl,_,_,hcc⟩:=hh (by rw[HNW.out];omega)
   simp only[Value.slice.injEq,Option.some.injEq,Addr.mk.injEq] at e'
   obtain⟨⟨rfl,rfl,_⟩,_,_⟩:=e'
   exact hcc k (by rw[HNW.out];exact hk)
  have hw1':1<=nw:=HONE.out.1
  have hcap:nw<=wc:=by
   obtain⟨_,_,_,e',h'⟩:=HCP.out
   simp only[Value.slice.injEq] at e'
   omega
  by_cases hc1:wc=1
  ·have HOO:Hid (∀k,k+1<nw->∀q,Nx w q->q.cell? ⟨wb,wo+k,none⟩=some (.int .i64 (iat r.ways (k+1)))):=λk hk=>by omega
   go_wp2_with fail
   generalize hnm:nw-1=nm at *
   have HNM:Hid (nw=nm+1):=by unfold Hid;omega
   have hnmb:nm<=3:=by have:=HONE.out.2;omega
   clear hnm
   go_loopw [6,8,40] (λf id i wr=>∃k:Nat,k<=nm/\i=.int .i64 k/\Hid (Fd wR.heap.size w.heap.size ((midL N r k).map (Ye (E1 N))) f wr)/\Hid (Nx w wr)) (λ_ _ i _=>nm-(intOf i).toNat)
   case atStart=>exact⟨0,Nat.zero_le _,rfl,HF1,HXA⟩
   case round=>
    clear HF1
    obtain⟨k,hk,rfl,HF,HN⟩:=hrel
    by_cases hlt:k<nm
    ·obtain⟨gf,lb,Inv,rfl,_,_,_⟩:=HF.out
     have hk1:k+1<nw:=by have:=HNM.out;omega
     have x1:=HOO.out k hk1 wr HN.out
     have HLW:=mh ((HR.out.ck HK.out).next HN.out)
     have x2:=HLW.out.road.blk.cell (i:=6) rfl
     obtain⟨x3,_⟩:=HLW.out.ways HV.out rfl (HWS.out (k+1) hk1)
     have hst:=(HR.out.ways HV.out rfl (HWS.out (k+1) hk1)).2.ck (HK.out.trans (Ck.nx (X:=noX) (K:=noX) HN.out))
     have hpk:=V8 (HWS.out (k+1) hk1)
     have HLEN:=mkHid (mid_len HV.out HG.out HVIA.out (by rw[HNW.out];exact hk1))
     have HEX:=mkHid (mid_ext HV.out HG.out HVIA.out (by rw[HNW.out];exact hk1))
     have x4:=(HLW.out.way _ hpk).blk.cell (i:=2) rfl
     have HROW:Hid (∀g,(L.ts (wpos N.ways (iat r.ways (k+1)))).ownBlock=some g->g<wR.heap.size):=(HR.out.trav _ hpk).lt
     generalize hpp:wpos N.ways (iat r.ways (k+1))=pk at *
     generalize hid:iat r.ways (k+1)=idk at *
     have HST:=mh hst
     obtain⟨sa,sc,hse,_,_⟩:=hst
     generalize hsn:((J1 N (E1 N) pk).map (Ye (E1 N))).length=sn at *
     have HSE:=mh hse
     have HSN:=mh hsn
     have x4':wr.cell? ⟨L.wb pk,2,none⟩=some (.slice sa sn sc):=by rw[<-hse];exact x4
     have hlt':(k:Int)<nm:=by omega
     clear hpk hsn hse hpp hid x4 hk1
     go_wp2_with (go_at_call 87;refine(extend_any _ _ _ _ _ _).mono ?_;rintro e w2 ⟨rfl,rfl⟩)
     go_roundw
     case rel=>
      refine⟨k+1,by omega,by go_num,?_,HN.out.trans ((Qc _ _).trans (Qc _ _))⟩
      unfold Hid
      rw[HEX.out]
      exact Fd.ext HF.out (by rw[HSN.out];exact HLEN.out) (by have:=HST.out;rw[HSE.out] at this;exact this) (λg hg=>Or.inl (HROW.out g (by rw[HSE.out];exact hg))) HN.out.size
     case measure=>simp[intOf];omega
    ·have ek:k=nm:=by omega
     subst ek
     go_wp2
     go_ret
     refine⟨⟨_,rfl,?_⟩,HN.out⟩
     unfold V9
     rw[if_neg (by rw[HVIA.out];simp),HNW.out,show nw-1=k by have:=HNM.out;omega]
     exact HF.out
  ·have HOO:Hid (∀k,k+1<nw->∀q,Nx w q->q.cell? ⟨wb,wo+1+k,none⟩=some (.int .i64 (iat r.ways (k+1)))):=λk hk q hq=>by rw[show wo+1+k=wo+(k+1) by omega];exact HCELL.out (k+1) hk q hq
   go_wp2_with fail
   generalize hnm:nw-1=nm at *
   have HNM:Hid (nw=nm+1):=by unfold Hid;omega
   have hnmb:nm<=3:=by have:=HONE.out.2;omega
   clear hnm
   go_loopw [6,8,40] (λf id i wr=>∃k:Nat,k<=nm/\i=.int .i64 k/\Hid (Fd wR.heap.size w.heap.size ((midL N r k).map (Ye (E1 N))) f wr)/\Hid (Nx w wr)) (λ_ _ i _=>nm-(intOf i).toNat)
   case atStart=>exact⟨0,Nat.zero_le _,rfl,HF1,HXA⟩
   case round=>
    clear HF1
    obtain⟨k,hk,rfl,HF,HN⟩:=hrel
    by_cases hlt:k<nm
    ·obtain⟨gf,lb,Inv,rfl,_,_,_⟩:=HF.out
     have hk1:k+1<nw:=by have:=HNM.out;omega
     have x1:=HOO.out k hk1 wr HN.out
     have HLW:=mh ((HR.out.ck HK.out).next HN.out)
     have x2:=HLW.out.road.blk.cell (i:=6) rfl
     obtain⟨x3,_⟩:=HLW.out.ways HV.out rfl (HWS.out (k+1) hk1)
     have hst:=(HR.out.ways HV.out rfl (HWS.out (k+1) hk1)).2.ck (HK.out.trans (Ck.nx (X:=noX) (K:=noX) HN.out))
     have hpk:=V8 (HWS.out (k+1) hk1)
     have HLEN:=mkHid (mid_len HV.out HG.out HVIA.out (by rw[HNW.out];exact hk1))
     have HEX:=mkHid (mid_ext HV.out HG.out HVIA.out (by rw[HNW.out];exact hk1))
     have x4:=(HLW.out.way _ hpk).blk.cell (i:=2) rfl
     have HROW:Hid (∀g,(L.ts (wpos N.ways (iat r.ways (k+1)))).ownBlock=some g->g<wR.heap.size):=(HR.out.trav _ hpk).lt
     generalize hpp:wpos N.ways (iat r.ways (k+1))=pk at *
     generalize hid:iat r.ways (k+1)=idk at *
     have HST:=mh hst
     obtain⟨sa,sc,hse,_,_⟩:=hst
     generalize hsn:((J1 N (E1 N) pk).map (Ye (E1 N))).length=sn at *
     have HSE:=mh hse
     have HSN:=mh hsn
     have x4':wr.cell? ⟨L.wb pk,2,none⟩=some (.slice sa sn sc):=by rw[<-hse];exact x4
     have hlt':(k:Int)<nm:=by omega
     clear hpk hsn hse hpp hid x4 hk1
     go_wp2_with (go_at_call 87;refine(extend_any _ _ _ _ _ _).mono ?_;rintro e w2 ⟨rfl,rfl⟩)
     go_roundw
     case rel=>
      refine⟨k+1,by omega,by go_num,?_,HN.out.trans ((Qc _ _).trans (Qc _ _))⟩
      unfold Hid
      rw[HEX.out]
      exact Fd.ext HF.out (by rw[HSN.out];exact HLEN.out) (by have:=HST.out;rw[HSE.out] at this;exact this) (λg hg=>Or.inl (HROW.out g (by rw[HSE.out];exact hg))) HN.out.size
     case measure=>simp[intOf];omega
    ·have ek:k=nm:=by omega
     subst ek
     go_wp2
     go_ret
     refine⟨⟨_,rfl,?_⟩,HN.out⟩
     unfold V9
     rw[if_neg (by rw[HVIA.out];simp),HNW.out,show nw-1=k by have:=HNM.out;omega]
     exact HF.out
 ·have HVIA:Hid (r.via=true):=hvia
  go_upto_region 2 with fail
  clear hvia
  generalize hW0:w.alloc (.cells #[.int .i64 r.id,.bool r.only,.int .i64 r.frm,.int .i64 r.to,.bool true,.int .i64 r.node,.slice wa nw wc] 41)=w0
  have HX0:Hid (Nx w w0):=by unfold Hid;rw[<-hW0];exact Qc _ _
  have HB0:Hid (BT w0 w.heap.size #[.int .i64 r.id,.bool r.only,.int .i64 r.frm,.int .i64 r.to,.bool true,.int .i64 r.node,.slice wa nw wc] 41):=by unfold Hid;rw[<-hW0];exact BT.new _ _ _ _ rfl
  have rd:=((HR.out.ck HK.out).next HX0.out).road
  have HSS:Hid ((λq=>q.cell? ⟨L.br,0,none⟩=some L.v0/\q.cell? ⟨L.br,1,none⟩=some L.v1/\q.cell? ⟨L.br,2,none⟩=some L.v2/\q.cell? ⟨L.br,3,none⟩=some L.v3/\q.cell? ⟨L.br,4,none⟩=some (.int .i64 N.uturn)/\q.cell? ⟨w.heap.size,5,none⟩=some (.int .i64 r.node)) w0.drew):=⟨rd.blk.cell (i:=0) rfl,rd.blk.cell (i:=1) rfl,rd.blk.cell (i:=2) rfl,rd.blk.cell (i:=3) rfl,rd.blk.cell (i:=4) rfl,HB0.out.blk.cell (i:=5) rfl⟩
  clear hW0 rd
  refine(wpIn_wide (n:=9)).1 ?_
  refine Q9 (c:=6) (S:=λq=>q.cell? ⟨L.br,0,none⟩=some L.v0/\q.cell? ⟨L.br,1,none⟩=some L.v1/\q.cell? ⟨L.br,2,none⟩=some L.v2/\q.cell? ⟨L.br,3,none⟩=some L.v3/\q.cell? ⟨L.br,4,none⟩=some (.int .i64 N.uturn)/\q.cell? ⟨w.heap.size,5,none⟩=some (.int .i64 r.node)) hmx (by kernel_rfl) (λhw hcl=>?_)
  refine tq (i:=0) (v:=.pointer (some ⟨L.br,0,none⟩)) (λhcl=>?_)
  refine tq (i:=1) (v:=.pointer (some ⟨L.br,0,none⟩)) (λhcl=>?_)
  refine tq (i:=2) (v:=.pointer (some ⟨L.br,0,none⟩)) (λhcl=>?_)
  refine tq (i:=3) (v:=.agg #[L.v0,L.v1,L.v2,L.v3,.int .i64 N.uturn]) (λhcl=>?_)
  refine tq (i:=4) (v:=.pointer (some ⟨w.heap.size,5,none⟩)) (λhcl=>?_)
  refine tq (i:=5) (v:=.int .i64 r.node) (λhcl=>?_)
  refine Q5 (i:=6) (by kernel_rfl) (wpOpIn_step rfl (λK hK=>?_))
  go_simp
  refine⟨trivial,(callsIn_wide.2 (Xx B L.v0 L.v1 L.v2 L.v3 N.uturn r.node N.nodes _ ?_ (Jq HV.out).asc (HG.out.node HVIA.out))).mono ?_⟩
  ·exact H0.out.next (HX0.out.trans (show Nx w0 w0.drew from(Below.refl _ _).drew))
  rintro e w1 ⟨rfl,hx1⟩
  have HX1:Hid (Nx w w1):=HX0.out.trans ((show Nx w0 w0.drew from(Below.refl _ _).drew).trans hx1)
  clear hx1
  refine hK _ _ ⟨Or.inl (Nat.le_refl _),?_⟩
  clear hK K
  refine Q5 (i:=7) (by kernel_rfl) (wpOpIn_step rfl (λK hK=>?_))
  go_simp
  refine hK _ _ ⟨Or.inl (by decide),?_⟩
  clear hK K
  refine Qj (by kernel_rfl) ?_ _
  clear hw hcl HSS
  go_wp2_with (go_at_call 86;refine(values_any _ _ _ _).mono ?_;rintro e w2 ⟨rfl,rfl⟩)
  go_ret
  refine⟨⟨.func (.func 92) #[] #[.pointer (some ⟨w1.heap.size+1,0,none⟩)],rfl,?_⟩,(HX1.out.trans (Qc _ _)).trans (Qc _ _)⟩
  unfold V9
  rw[if_pos HVIA.out]
  have hF:=Fd.values (z:=wR.heap.size) (c:=w.heap.size) (one_stx (BT.new w1 #[.int .i64 (pos N.nodes r.node),.int .i64 (pos N.nodes r.node),.slice none 0 0] 116 _ rfl)) (λg hg=>Or.inr ?_) (Nat.le_trans HX1.out.size (Qc _ _).size)
  ·rw[Q1] at hF
   exact hF
  have hg':w1.heap.size=g:=by simpa [Value.ownBlock] using hg
  have:=HX1.out.size
  omega
end Go.Proofs.YthhbdfiopjclcaaGreatDoor
namespace Go.Proofs.YthhbdfiopjclcaaGreatDoor
set_option linter.unusedVariables false
set_option maxHeartbeats 16000000
def Xv (es:List Eg)(F T:List Nat)(M:List Sx):List (List Nat):=M.flatMap λm=>(F.filter λa=>decide ((eat es a).head=m.t)).flatMap λa=>(T.filter λb=>decide ((eat es b).tail=m.h)).map λb=>[a]++m.l++[b]
def chP (N:Nt)(r:Rl):List (List Nat):=Xv (E1 N) (Qp N (E1 N) r) (J2 N (E1 N) r) (V9 N r)
theorem chainS_map (es:List Eg)(F T:List Nat)(ms:List (List Nat)):Xv es F T (ms.map (Ye es))=chainsP es F T ms:=by
 unfold Xv chainsP
 rw[List.flatMap_map]
 rfl
theorem midL_all {N:Nt}{r:Rl}{w0:Int}{rest:List Int}(hw:r.ways=w0::rest):∀k,k<=rest.length->midL N r k=Jb (E1 N) (J1 N (E1 N) (wpos N.ways w0)) ((rest.take k).map λid=>J1 N (E1 N) (wpos N.ways id))
 |0,_=>by
  unfold midL
  rw[hw]
  rfl
 |k+1,hk=>by
  show J3 _ (midL N r k) _=_
  have hlt:k<rest.length:=by omega
  rw[midL_all hw k (by omega),List.take_succ_eq_append_getElem hlt,List.map_append]
  unfold Jb
  rw[List.foldl_append]
  have e:iat r.ways (k+1)=rest[k]:=by rw[hw,Vp (by simpa using hlt)];rfl
  rw[e]
  rfl
theorem node_pos {zs:List Int}(ha:Yh zs=true){id:Int}(hh:Vt zs id=true){x:Int}(h0:0<=x)(h1:x<zs.length):iat zs x.toNat=id↔x=pos zs id:=by
 have hm:∀i j,i<j->j<zs.length->iat zs i<iat zs j:=Yv (λi j=>rfl) ha
 have hlt:pos zs id<zs.length:=by
  unfold pos Vt at *
  exact List.findIdx_lt_length.2 (by simpa using List.any_eq_true.1 hh)
 constructor
 ·intro e
  have hx:x.toNat<zs.length:=by omega
  have:=pos_at hm hx
  rw[e] at this
  omega
 ·intro e
  rw[e]
  have h2:(zs[pos zs id]==id)=true:=List.findIdx_getElem (p:=λz:Int=>z==id) (xs:=zs) (w:=hlt)
  rw[show((pos zs id:Nat):Int).toNat=pos zs id by omega,Vp hlt]
  simpa using h2
theorem ways_cons {l:List Int}(h:1<=l.length):∃a t,l=a::t:=by
 cases l with
 |nil=>simp at h
 |cons a t=>exact⟨a,t,rfl⟩
theorem chains_same {N:Nt}{r:Rl}(hv:Qh N=true)(hg:RelG N r):(Y1 N N.nodes (E1 N) r).Perm (chP N r):=by
 unfold Y1 chP V9
 cases hvia:r.via
 ·rw[if_neg (by simp),if_neg (by simp),chainS_map]
  obtain⟨w0,rest,hw⟩:=ways_cons (hg.one hvia).1
  refine List.Perm.trans (List.Perm.of_eq ?_) (chains_perm (E1 N) _ _ _)
  have hlen:r.ways.length=rest.length+1:=by rw[hw];rfl
  have hne:∀k,k<r.ways.length->∀l∈midL N r k,l≠[]:=λk hk l hl=>(Zp hv hg hvia k hk l hl).1.1
  have em:midL N r (r.ways.length-1)=Jb (E1 N) (J1 N (E1 N) (wpos N.ways w0)) (rest.map λid=>J1 N (E1 N) (wpos N.ways id)):=by
   rw[midL_all hw _ (by omega),show r.ways.length-1=rest.length by omega,List.take_length]
  have e0:midL N r 0=J1 N (E1 N) (wpos N.ways w0):=by
   unfold midL
   rw[hw]
   rfl
  unfold Y9
  rw[List.take_length,em]
  have hmap:(r.ways.map λid=>J1 N (E1 N) (wpos N.ways id))=J1 N (E1 N) (wpos N.ways w0)::(rest.map λid=>J1 N (E1 N) (wpos N.ways id)):=by rw[hw];rfl
  rw[hmap]
  refine grow_chains (E1 N) _ _ _ _ ?_ ?_
  ·rw[<-e0];exact hne 0 (by omega)
  ·rw[<-em];exact hne _ (by omega)
 ·rw[if_pos rfl,if_pos rfl]
  refine List.Perm.of_eq ?_
  have hn:=hg.node hvia
  have ha:=(Jq hv).asc
  unfold Xv J3 Vg
  simp only[List.flatMap_cons,List.flatMap_nil,List.append_nil]
  rw[List.flatMap_map]
  have ef:(Qp N (E1 N) r).filter (Vf N.nodes (E1 N) r.node)=(Qp N (E1 N) r).filter (λa=>decide ((eat (E1 N) a).head=(pos N.nodes r.node:Int))):=by
   refine List.filter_congr (λa hm=>?_)
   have hb:=E1_head (Jq hv) (ofTo_lt hm)
   unfold Vf
   rw[decide_eq_decide]
   exact node_pos ha hn hb.1 hb.2
  rw[ef]
  refine Ya (λa hm=>?_)
  have hh:(eat (E1 N) a).head=(pos N.nodes r.node:Int):=by simpa using(List.mem_filter.1 hm).2
  rw[List.filter_map,List.map_map]
  have e2:(J2 N (E1 N) r).filter ((λp=>decide (hdL (E1 N) [a]=tlL (E1 N) p)) ∘ λe=>[e])=(J2 N (E1 N) r).filter (λb=>decide ((eat (E1 N) b).tail=(pos N.nodes r.node:Int))):=by
   refine List.filter_congr (λb _=>?_)
   show decide ((eat (E1 N) a).head=(eat (E1 N) b).tail)=_
   rw[hh,decide_eq_decide]
   exact eq_comm
  rw[e2]
  rfl
theorem res_same {N:Nt}(hv:Qh N=true):J5 N=Qq (chP N) N.rels N.rels.length:=by
 unfold J5
 rw[if_pos hv]
 refine resTo_perm (λk hk=>?_) _ (Nat.le_refl _)
 exact chains_same hv (rel_g ((X9 hv).rel k hk))
section
variable (es:List Eg) (F T:List Nat)
def Xi (m:Sx):List Nat:=F.filter λa=>decide ((eat es a).head=m.t)
def V2 (m:Sx):List Nat:=T.filter λb=>decide ((eat es b).tail=m.h)
def natat (l:List Nat)(i:Nat):Nat:=l.getD i 0
def ch1 (m:Sx)(a b:Nat):List Nat:=[a]++m.l++[b]
def Yg (M:List Sx)(k i j:Nat):List (List Nat):=Xv es F T (M.take k)++(((Xi es F (Ql M k)).take i).flatMap λa=>(V2 es T (Ql M k)).map (ch1 (Ql M k) a))++((V2 es T (Ql M k)).take j).map (ch1 (Ql M k) (natat (Xi es F (Ql M k)) i))
theorem nat_take {l:List Nat}{i:Nat}(h:i<l.length):l.take (i+1)=l.take i++[natat l i]:=by
 rw[List.take_add_one]
 simp[natat,List.getD_eq_getElem?_getD,h]
theorem chTo_start (M:List Sx):Yg es F T M 0 0 0=[]:=by simp[Yg,Xv]
theorem chTo_zero (M:List Sx)(k:Nat):Yg es F T M k 0 0=Xv es F T (M.take k):=by simp[Yg]
theorem chTo_row {M:List Sx}{k i:Nat}(hi:i<(Xi es F (Ql M k)).length):Yg es F T M k i (V2 es T (Ql M k)).length=Yg es F T M k (i+1) 0:=by
 unfold Yg
 rw[List.take_length,nat_take hi,List.flatMap_append]
 simp
theorem chTo_full {M:List Sx}{k:Nat}(hk:k<M.length):Yg es F T M k (Xi es F (Ql M k)).length 0=Yg es F T M (k+1) 0 0:=by
 rw[chTo_zero,sx_take hk]
 unfold Yg Xv
 rw[List.take_length,List.flatMap_append]
 simp[Xi,V2]
 rfl
theorem chTo_all (M:List Sx):Yg es F T M M.length 0 0=Xv es F T M:=by rw[chTo_zero,List.take_length]
theorem chTo_succ {M:List Sx}{k i j:Nat}(hj:j<(V2 es T (Ql M k)).length):Yg es F T M k i (j+1)=Yg es F T M k i j++[ch1 (Ql M k) (natat (Xi es F (Ql M k)) i) (natat (V2 es T (Ql M k)) j)]:=by
 unfold Yg
 rw[nat_take hj,List.map_append,<-List.append_assoc]
 rfl
theorem chTo_pre0 {M:List Sx}{k:Nat}(hk:k<=M.length):Yg es F T M k 0 0 <+: Xv es F T M:=by
 rw[chTo_zero]
 refine⟨Xv es F T (M.drop k),?_⟩
 unfold Xv
 rw[<-List.flatMap_append,List.take_append_drop]
theorem chTo_pre1 {M:List Sx}{k i:Nat}(hk:k<M.length)(hi:i<=(Xi es F (Ql M k)).length):Yg es F T M k i 0 <+: Xv es F T M:=by
 refine List.IsPrefix.trans ?_ (chTo_pre0 es F T (k:=k+1) hk)
 rw[<-chTo_full es F T hk]
 unfold Yg
 rw[List.take_length]
 simp only[List.take_zero,List.map_nil,List.append_nil]
 refine(List.prefix_append_right_inj _).2 ?_
 refine⟨((Xi es F (Ql M k)).drop i).flatMap λa=>(V2 es T (Ql M k)).map (ch1 (Ql M k) a),?_⟩
 rw[<-List.flatMap_append,List.take_append_drop]
theorem chTo_pre {M:List Sx}{k i j:Nat}(hk:k<M.length)(hi:i<(Xi es F (Ql M k)).length):Yg es F T M k i j <+: Xv es F T M:=by
 refine List.IsPrefix.trans ?_ (chTo_pre1 es F T (i:=i+1) hk hi)
 rw[<-chTo_row es F T hi]
 unfold Yg
 refine(List.prefix_append_right_inj _).2 ?_
 rw[List.take_length]
 exact List.IsPrefix.map _ (List.take_prefix _ _)
theorem chTo_next {M:List Sx}{k i j:Nat}(hk:k<M.length)(hi:i<(Xi es F (Ql M k)).length)(hj:j<(V2 es T (Ql M k)).length):(Yg es F T M k i j).length<(Xv es F T M).length/\Jj (Xv es F T M) (Yg es F T M k i j).length=ch1 (Ql M k) (natat (Xi es F (Ql M k)) i) (natat (V2 es T (Ql M k)) j):=by
 obtain⟨r,hr⟩:=chTo_pre es F T (j:=j+1) hk hi
 rw[chTo_succ es F T hj] at hr
 rw[<-hr]
 refine⟨by simp,?_⟩
 simp[Jj,List.getD_eq_getElem?_getD]
end
end Go.Proofs.YthhbdfiopjclcaaGreatDoor
namespace Go.Proofs.YthhbdfiopjclcaaGreatDoor
open Go.RowKit Go.Sort Go.Maps Go.Shelf
set_option linter.unusedVariables false
set_option maxRecDepth 1000000
set_option maxHeartbeats 16000000
attribute [local go_sem] Oper.semAt_some
theorem anyS_two {F:Fence}{n:Nat}{P:Program}{ops:Array Oper}{Q:Exit->Act->World->Prop}{md:Region.Mode}{S:World->Prop}{c i j fuel:Nat}{listed:Array Bool}{a:Act}{w:World}(hr:Region.ready md ops listed=[i,j])(h1:wpOpIn F n P ops Q i (λa' w'=>(c<=i\/S w')/\Jy F n P md ops Q S c fuel (listed.setIfInBounds i true) a' w') a w)(h2:wpOpIn F n P ops Q j (λa' w'=>(c<=j\/S w')/\Jy F n P md ops Q S c fuel (listed.setIfInBounds j true) a' w') a w):Jy F n P md ops Q S c (fuel+1) listed a w:=
 ⟨λh0=>absurd (hr▸h0) (by simp),λx hx=>by
  rw[hr] at hx
  simp at hx
  rcases hx with rfl|rfl
  ·exact h1
  ·exact h2⟩
theorem one_ints {w:World}{g t:Nat}{x:Int}(h:BT w g #[.int .i64 x] t):Qo 0 w (.slice (some ⟨g,0,none⟩) 1 1) [x]:=by
 refine⟨_,_,rfl,by simp[maxLen],λ_=>⟨g,0,rfl,Nat.zero_le _,h.lt,λi hi=>?_⟩⟩
 have hi0:i=0:=by simpa using hi
 subst hi0
 exact h.blk.cell (i:=0) rfl
theorem LR.wayP {C:Nat}{N:Nt}{w:World}{L:Lk}{m:Nat}(h:LR C N (E1 N) N.ways.length m m m N.ways.length w L)(hv:Qh N=true)(hm:m=(E1 N).length){id:Int}(hid:Ji N.ways id=true) :
  w.cell? ⟨L.wb (wpos N.ways id),1,none⟩=some (L.vs (wpos N.ways id))/\Zk C w (L.vs (wpos N.ways id)) ((Jp (E1 N) (wpos N.ways id) (E1 N).length).map L.eb)/\(Jp (E1 N) (wpos N.ways id) (E1 N).length).length<=4000/\∀e∈Jp (E1 N) (wpos N.ways id) (E1 N).length,EB w (L.eb e) e (eat (E1 N) e):=by
 subst hm
 have hp:=V8 hid
 refine⟨(h.way _ hp).blk.cell (i:=1) rfl,(h.row _ hp).held,?_,λe he=>(h.edge e (ofTo_lt he)).eb⟩
 refine Nat.le_trans (List.length_filter_le _ _) ?_
 rw[List.length_range]
 exact E1_le' hv
theorem iat_nums {l:List Nat}{i:Nat}(h:i<l.length):iat (Qd l) i=(natat l i:Int):=by
 simp[iat,Qd,natat,List.getD_eq_getElem?_getD,h]
def InvC (N:Nt)(L:Lk)(wR:World)(r:Rl)(vw:Value)(b2 b3 b5 b6:Nat)(W:World):Prop:=Ck noX noX wR W/\Qo 0 W L.v0 N.nodes/\Qo 0 W vw r.ways/\BT W b2 #[.pointer (some ⟨L.br,0,none⟩)] 55/\BT W b3 #[.int .i64 r.id,.bool r.only,.int .i64 r.frm,.int .i64 r.to,.bool r.via,.int .i64 r.node,vw] 41/\BT W b5 #[.pointer (some ⟨L.wb (wpos N.ways r.frm),0,none⟩)] 78/\BT W b6 #[.pointer (some ⟨L.wb (wpos N.ways r.to),0,none⟩)] 78
theorem mid_short {N:Nt}{r:Rl}(hv:Qh N=true)(hg:RelG N r){k:Nat}(hk:k<(V9 N r).length):(Ql (V9 N r) k).l.length<=16000:=by
 unfold V9 at hk ⊢
 cases hvia:r.via
 ·rw[hvia] at hk
  simp only[Bool.false_eq_true,if_false] at hk ⊢
  obtain⟨l,hl,el⟩:=sx_mem hk
  have h4:=(hg.one hvia)
  have h1:=Zp hv hg hvia (r.ways.length-1) (by omega) l hl
  rw[el]
  simp only[Ye]
  omega
 ·rw[hvia] at hk
  simp only[if_true] at hk ⊢
  have:k=0:=by simpa using hk
  subst this
  simp[Ql]
theorem chains1_in (C z:Nat)(N:Nt)(L:Lk)(wR:World)(r:Rl)(vw:Value)(b2 b3 b5 b6:Nat)(hv:Qh N=true)(hR:LR C N (E1 N) N.ways.length (E1 N).length (E1 N).length (E1 N).length N.ways.length wR L)(hz:wR.heap.size<=z)(hg:RelG N r)(hcp:Yx vw)(X:Nat->Prop)(l m:Nat)(J:Nat->World->Prop)(Jx:World->Prop)(W:World)(hX:∀b,X b->z<=b/\b<W.heap.size)
  (hInv:∀B,Ck X noX W B->InvC N L wR r vw b2 b3 b5 b6 B) (hJ:∀k A B,J k A->Ck noX (λb=>b<W.heap.size) A B->J k B) (hJx:∀A B,Jx A->Ck noX (λb=>b<W.heap.size) A B->Jx B)
  (hY:∀k args W1,k<(chP N r).length->J k W1->Ck X noX W W1->PyC (chP N r) W.heap.size k args W1->YieldAt Fence.wide m Tryz.prog l args W1 λe W'=>Ck X (λb=>W.heap.size<=b) W1 W'/\((e=.returned (.bool true)/\J (k+1) W')\/(e=.returned (.bool false)/\Jx W')))
  (h0:J 0 W) :
  Calls Tryz.prog 65 #[.func (.yield l) #[] #[],.pointer (some ⟨b2,0,none⟩),.pointer (some ⟨b3,0,none⟩),.pointer (some ⟨b5,0,none⟩),.pointer (some ⟨b6,0,none⟩)] W λe W'=>(∃v,e=.returned v)/\Ck X noX W W'/\(J (chP N r).length W'\/Jx W'):=by
 have HV:=mh hv
 have HR:=mh hR
 have HZ:=mh hz
 have HG:Hid (RelG N r):=hg
 have HIN:=mh hInv
 have HJ:=mh hJ
 have HJX:=mh hJx
 have HY:=mh hY
 have HJ0:Hid (J 0 W):=h0
 have HX:=mh hX
 have HCP:Hid (Yx vw):=hcp
 obtain⟨va,vn,vc,rfl,_⟩:=hcp
 have HI0:Hid (InvC N L wR r (.slice va vn vc) b2 b3 b5 b6 W):=hInv W (Ck.refl _ _ _)
 have x1:=Q3 (Qc W (.cells #[.func (.yield l) #[] #[]] 119)) (HI0.out.2.2.2.1.blk.cell (i:=0) rfl)
 have hb3:=HI0.out.2.2.2.2.1.next (Qc W (.cells #[.func (.yield l) #[] #[]] 119))
 have d0:=hb3.blk.cell (i:=0) rfl
 have d1:=hb3.blk.cell (i:=1) rfl
 have d2:=hb3.blk.cell (i:=2) rfl
 have d3:=hb3.blk.cell (i:=3) rfl
 have d4:=hb3.blk.cell (i:=4) rfl
 have d5:=hb3.blk.cell (i:=5) rfl
 have d6:=hb3.blk.cell (i:=6) rfl
 clear hv hR hz hg hInv hJ hJx hY h0 hX hb3
 refine(callsIn_wide (n:=m+1)).1 (callsIn_of_wp_marks Tryz.func65 rfl trivial ?_ rfl)
 refine wpIn_wide.2 ?_
 simp only[Tryz.ntmps65,List.size_toArray,List.length_cons,List.length_nil,Nat.reduceAdd,Nat.reduceSub,Array.replicate_succ,Array.replicate_zero,List.push_toArray,List.append_toArray,List.nil_append,List.cons_append]
 go_wp2_with fail
 generalize hW0:W.alloc (.cells #[.func (.yield l) #[] #[]] 119)=w0
 have HX0:Hid (Nx W w0):=by unfold Hid;rw[<-hW0];exact Qc _ _
 have HS0:Hid (w0.heap.size=W.heap.size+1):=by unfold Hid;rw[<-hW0];simp
 have HB0:Hid (BT w0 W.heap.size #[.func (.yield l) #[] #[]] 119):=by unfold Hid;rw[<-hW0];exact BT.new _ _ _ _ rfl
 clear hW0 x1 d0 d1 d2 d3 d4 d5 d6
 refine(middles_any C 0 N L wR r _ _ HV.out HR.out (HI0.out.1.trans (Ck.nx HX0.out)) (HI0.out.2.1.next HX0.out) (HI0.out.2.2.1.next HX0.out) HG.out HCP.out).mono ?_
 rintro e w1 ⟨⟨fv,rfl,gf,lb,Inv,rfl,hG,heg,hFI⟩,hx1⟩
 have HGM:=mh hG
 have HEG:=mh heg
 have HFI:=mh hFI
 have HX1:Hid (Nx w0 w1):=hx1
 have HXW:Hid (Nx W w1):=HX0.out.trans hx1
 have HZ1:=mh hx1.size
 have HB1:=mh (HB0.out.next hx1)
 clear hG heg hFI hx1
 go_wp2_with fail
 refine(wpIn_wide (n:=m+1)).1 ?_
 refine range_gives HGM.out rfl HEG.out X ?hX ?hps ?hPy ?hInv (λk W'=>J (Yg (E1 N) (Qp N (E1 N) r) (J2 N (E1 N) r) (V9 N r) k 0 0).length W'/\BT W' W.heap.size #[.func (.yield l) #[] #[]] 119) Jx ?hI ?hIx ?h0 (λargs a' W'=>∃Ba ta ha u,args=#[.agg #[.int .i64 ta,.int .i64 ha,u]]/\w1.heap.size<=Ba/\BT W' Ba #[.int .i64 ta,.int .i64 ha,u] 116/\a'=⟨#[.func (.yield l) #[] #[],.pointer (some ⟨b2,0,none⟩),.pointer (some ⟨b3,0,none⟩),.pointer (some ⟨b5,0,none⟩),.pointer (some ⟨b6,0,none⟩),.pointer (some ⟨W.heap.size,0,none⟩),.pointer (some ⟨Ba,0,none⟩),undef,undef,undef,undef,undef,undef,.pointer (some ⟨L.br,0,none⟩),.agg #[.int .i64 r.id,.bool r.only,.int .i64 r.frm,.int .i64 r.to,.bool r.via,.int .i64 r.node,.slice va vn vc],.func (.func gf) #[] lb,.agg #[.int .i64 ta,.int .i64 ha,u],undef,undef,undef,undef,undef,undef,undef,undef,undef,undef,undef,undef,undef,undef,undef,undef,undef,undef,undef,undef,undef,undef,undef,undef,undef,undef,undef,undef,undef,undef,undef],[]⟩) ?hAx ?assign ?body ?done ?stop
 case hX=>intro b h;have:=HX.out b h;have:=HS0.out;have:=HZ1.out;have:=HZ.out;exact⟨by omega,by omega⟩
 case hps=>rintro k args W ⟨u,rfl,_⟩;rfl
 case hPy=>rintro k args A B ⟨u,h1,h2,h3⟩ hc;exact⟨u,h1,h2.ck hc,h3⟩
 case hInv=>exact λB hc=>HFI.out X B (λb h=>by have:=HX.out b h;have:=HS0.out;have:=HZ.out;exact⟨by omega,by omega⟩) hc
 case hI=>exact λk A B h hc=>⟨HJ.out _ A B h.1 (hc.mono (λ_ x=>x) (λb q=>by have:=HS0.out;have:=HZ1.out;omega)),h.2.ck hc id⟩
 case hIx=>exact λA B h hc=>HJX.out A B h (hc.mono (λ_ x=>x) (λb q=>by have:=HS0.out;have:=HZ1.out;omega))
 case h0=>exact⟨by rw[chTo_start];exact HJ.out 0 _ _ HJ0.out (Ck.nx HXW.out),HB1.out⟩
 case hAx=>rintro args a' A B ⟨Ba,ta,ha,u,h1,h2,h3,h4⟩ hc;exact⟨Ba,ta,ha,u,h1,h2,h3.ck hc id,h4⟩
 case assign=>
  rintro l' k args W' K hk hWz ⟨u,rfl,hu,_⟩ hK
  obtain⟨ua,uc,rfl,_⟩:=hu.slice
  clear hu
  have HWZ:=mh hWz
  clear hWz
  gi_wp2
  exact hK _ _ (Qc _ _) ⟨W'.heap.size,_,_,_,rfl,HWZ.out,BT.new _ _ _ _ rfl,rfl⟩
 case done=>
  intro D W' hDw hI hc hD
  have HF:Hid (J (chP N r).length W'):=by unfold Hid chP;rw[<-chTo_all];exact hI.1
  have HCW:Hid (Ck X noX W W'):=(Ck.nx HXW.out).trans hc
  clear hI hc
  go_wp2
  refine Xr D _ hD (λW2 ho=>?_)
  refine⟨_,results_none rfl _ _ _,⟨_,rfl⟩,HCW.out.trans (ho.mono (λ_ x=>x.elim) (λ_ x=>x.elim)),Or.inl (HJ.out _ _ _ HF.out (ho.mono (λ_ x=>x) (λb q=>by have:=HS0.out;have:=HZ1.out;omega)))⟩
 case stop=>
  intro D W' hDw hI hc hD
  have HCW:Hid (Ck X noX W W'):=(Ck.nx HXW.out).trans hc
  refine wpIn_wide.2 ?_
  go_wp2
  refine Xr D _ hD (λW2 ho=>?_)
  refine⟨_,results_none rfl _ _ _,⟨_,rfl⟩,HCW.out.trans (ho.mono (λ_ x=>x.elim) (λ_ x=>x.elim)),Or.inr (HJX.out _ _ hI (ho.mono (λ_ x=>x) (λb q=>by have:=HS0.out;have:=HZ1.out;omega)))⟩
 case body=>
  rintro l' k args a' w2 hk ⟨hJ1,hBY⟩ ⟨u,rfl,hu,hlu,hcu⟩ ⟨Ba,ta,ha,u',e',hBa,hbt,rfl⟩ hc
  have e2:(Ql (V9 N r) k).t=ta/\(Ql (V9 N r) k).h=ha/\u=u':=by simpa using e'
  obtain⟨rfl,rfl,rfl⟩:=e2
  clear e'
  obtain⟨ua,uc,rfl,_⟩:=hu.slice
  have HU:=mh hu
  have HCU:=mh hcu
  have HLU:=mh hlu
  have HJ1:=mh hJ1
  have HBY:=mh hBY
  generalize hun:(Qd (Ql (V9 N r) k).l).length=un at *
  have HUN:=mh hun
  have HBA:Hid (w1.heap.size<=Ba/\BT w2 Ba #[.int .i64 (Ql (V9 N r) k).t,.int .i64 (Ql (V9 N r) k).h,.slice ua un uc] 116):=⟨hBa,hbt⟩
  have HC2:Hid (Ck X noX W w2):=(Ck.nx HXW.out).trans hc
  have HI2:=mh (HIN.out w2 HC2.out)
  have HL2:=mh (HR.out.ck HI2.out.1)
  have y5:=HI2.out.2.2.2.2.2.1.blk.cell (i:=0) rfl
  have y6:=HI2.out.2.2.2.2.2.2.blk.cell (i:=0) rfl
  have hmf:∀(fn:Fn) (first cap:Array Value) (w:World),(Instr.makeFunc fn first cap).run Tryz.prog w=.ok (.func fn first cap) w:=λ_ _ _ _=>rfl
  have HPE:=mkHid (HL2.out.wayP HV.out rfl HG.out.frm)
  have HPS:=mkHid (HL2.out.wayP HV.out rfl HG.out.dst)
  clear hu hlu hcu hJ1 hBa hbt hc hBY hun
  gi_wp2_with (refine⟨trivial,?_⟩;gi_at_call 67;first|(refine(CallsIn.inRound l' (callsIn_wide.2 (pickEnd_any C _ Ba _ (E1 N) L.eb _ _ _ HPE.out.1 HPE.out.2.1 HPE.out.2.2.1 HPE.out.2.2.2 (HBA.out.2.blk.cell (i:=0) rfl)))).mono ?_;rintro e w3 ⟨⟨ue,rfl,hue0⟩,hx3⟩;have hue:Q6 w2.heap.size w3 ue (Qd (Xi (E1 N) (Qp N (E1 N) r) (Ql (V9 N r) k))):=hue0;clear hue0;obtain⟨ea,ec,rfl⟩:=Q2 hue;generalize hne:(Qd (Xi (E1 N) (Qp N (E1 N) r) (Ql (V9 N r) k))).length=ne at *;have y6':=Q3 hx3 y6;have HPL:Hid (_<=4000):=HPE.out.2.2.1;clear HPE)|(refine(CallsIn.inRound l' (callsIn_wide.2 (pickStart_any C _ Ba _ (E1 N) L.eb _ _ _ (by exact Q3 hx3 HPS.out.1) (by exact HPS.out.2.1.next hx3) HPS.out.2.2.1 (λe he=>(HPS.out.2.2.2 e he).next hx3) (by exact Q3 hx3 (HBA.out.2.blk.cell (i:=1) rfl))))).mono ?_;rintro e w4 ⟨⟨us,rfl,hus0⟩,hx4⟩;have hus:Q6 w3.heap.size w4 us (Qd (V2 (E1 N) (J2 N (E1 N) r) (Ql (V9 N r) k))):=hus0;clear hus0;obtain⟨sa,sc,rfl⟩:=Q2 hus;generalize hns:(Qd (V2 (E1 N) (J2 N (E1 N) r) (Ql (V9 N r) k))).length=ns at *))
  have HNE:Hid ((Xi (E1 N) (Qp N (E1 N) r) (Ql (V9 N r) k)).length=ne):=by unfold Hid;rw[<-hne,Qw]
  have HNS:Hid ((V2 (E1 N) (J2 N (E1 N) r) (Ql (V9 N r) k)).length=ns):=by unfold Hid;rw[<-hns,Qw]
  have hneb:ne<=4000:=by rw[<-HNE.out];exact Nat.le_trans (List.length_filter_le _ _) HPL.out
  have hnsb:ns<=4000:=by rw[<-HNS.out];exact Nat.le_trans (List.length_filter_le _ _) HPS.out.2.2.1
  have HX24:Hid (Nx w2 w4):=hx3.trans hx4
  have HZ2:Hid (W.heap.size<=w2.heap.size/\w2.heap.size<=w3.heap.size):=⟨HC2.out.size,hx3.size⟩
  have HUE:=mh (Q6.next hue hx4)
  have HUS:=mh hus
  have HU4:=mh (HU.out.next HX24.out)
  have HBA4:=mh (HBA.out.2.next HX24.out)
  have HBY4:=mh (HBY.out.next HX24.out)
  have HJ4:Hid (J (Yg (E1 N) (Qp N (E1 N) r) (J2 N (E1 N) r) (V9 N r) k 0 0).length w4):=HJ.out _ _ _ HJ1.out (Ck.nx HX24.out)
  have HC4:Hid (Ck X noX W w4):=HC2.out.trans (Ck.nx HX24.out)
  have HMS:=mh (mid_short HV.out HG.out hk)
  clear hue hus hx3 hx4 hne hns y5 y6 y6' HPS HJ1
  gi_loopw [10,12,25,31] (λp10 p12 i p31 wr=>∃c:Nat,c<=ne/\i=.int .i64 c/\Hid (J (Yg (E1 N) (Qp N (E1 N) r) (J2 N (E1 N) r) (V9 N r) k c 0).length wr)/\Hid (Ck X (λb=>w1.heap.size<=b) w4 wr)) (λ_ _ i _ _=>ne-(intOf i).toNat)
  case atStart=>exact⟨0,Nat.zero_le _,rfl,HJ4,Ck.refl _ _ _⟩
  case round=>
   clear HJ4
   obtain⟨c,hc,rfl,HJc,HCc⟩:=hrel
   by_cases hlt:c<ne
   ·have HEI:Hid (Qo 0 wr (.slice ea ne ec) (Qd (Xi (E1 N) (Qp N (E1 N) r) (Ql (V9 N r) k)))):=(Q6.base HUE.out (Nat.zero_le _)).held.ckX HCc.out (λg hg x=>by have h1:=HX.out _ x;have h2:=Qf HUE.out g hg;have:=HZ2.out;omega)
    obtain⟨ea',ec',hse,_,hk0⟩:=HEI.out
    obtain⟨be,oe,rfl,_,_,hce⟩:=hk0 (by rw[Qw,HNE.out];omega)
    simp only[Value.slice.injEq] at hse
    obtain⟨rfl,hzz,rfl⟩:=hse
    have xe:wr.cell? ⟨be,oe+c,none⟩=some (.int .i64 (natat (Xi (E1 N) (Qp N (E1 N) r) (Ql (V9 N r) k)) c:Int)):=by rw[<-iat_nums (by rw[HNE.out];exact hlt)];exact hce c (by rw[Qw,HNE.out];exact hlt)
    have hlt':(c:Int)<ne:=by omega
    generalize hna:natat (Xi (E1 N) (Qp N (E1 N) r) (Ql (V9 N r) k)) c=na at xe
    have HNA:=mh hna
    clear hk0 hce hzz hna
    gi_wp2
    clear xe
    gi_loopw [12,31] (λp12 i wq=>∃d:Nat,d<=ns/\i=.int .i64 d/\Hid (J (Yg (E1 N) (Qp N (E1 N) r) (J2 N (E1 N) r) (V9 N r) k c d).length wq)/\Hid (Ck X (λb=>w1.heap.size<=b) w4 wq)) (λ_ i _=>ns-(intOf i).toNat)
    case atStart=>exact⟨0,Nat.zero_le _,rfl,HJc,HCc⟩
    case round=>
     clear HJc HCc HEI
     obtain⟨d,hd,rfl,HJd,HCd⟩:=hrel
     by_cases hlt2:d<ns
     ·have HSI:Hid (Qo 0 wr (.slice sa ns sc) (Qd (V2 (E1 N) (J2 N (E1 N) r) (Ql (V9 N r) k)))):=(Q6.base HUS.out (Nat.zero_le _)).held.ckX HCd.out (λg hg x=>by have h1:=HX.out _ x;have h2:=Qf HUS.out g hg;have:=HZ2.out;omega)
      obtain⟨sa',sc',hse,_,hk0⟩:=HSI.out
      obtain⟨bs,os,rfl,_,_,hce⟩:=hk0 (by rw[Qw,HNS.out];omega)
      simp only[Value.slice.injEq] at hse
      obtain⟨rfl,hzz,rfl⟩:=hse
      have xs:wr.cell? ⟨bs,os+d,none⟩=some (.int .i64 (natat (V2 (E1 N) (J2 N (E1 N) r) (Ql (V9 N r) k)) d:Int)):=by rw[<-iat_nums (by rw[HNS.out];exact hlt2)];exact hce d (by rw[Qw,HNS.out];exact hlt2)
      have hlt2':(d:Int)<ns:=by omega
      have nXW:∀b,W.heap.size<=b->¬X b:=λb q x=>by have:=(HX.out _ x).2;omega
      have HUr:Hid (Qo 0 wr (.slice ua un uc) (Qd (Ql (V9 N r) k).l)):=HU4.out.ckX HCd.out (λg hg x=>by have h1:=HX.out _ x;have h2:=HS0.out;have h3:=HZ1.out;have h4:=HZ.out;rcases HLU.out g hg with q|q<;>omega)
      have HBAr:Hid (BT wr Ba #[.int .i64 (Ql (V9 N r) k).t,.int .i64 (Ql (V9 N r) k).h,.slice ua un uc] 116):=HBA4.out.ck HCd.out (nXW _ (by have:=HBA.out.1;have:=HXW.out.size;omega))
      have HBYr:Hid (BT wr W.heap.size #[.func (.yield l) #[] #[]] 119):=HBY4.out.ck HCd.out (nXW _ (Nat.le_refl _))
      have HCW:Hid (Ck X noX W wr):=HC4.out.trans (HCd.out.mono (λ_ x=>x) (λ_ x=>x.elim))
      have hnx:=chTo_next (E1 N) (Qp N (E1 N) r) (J2 N (E1 N) r) hk (show c<(Xi (E1 N) (Qp N (E1 N) r) (Ql (V9 N r) k)).length by rw[HNE.out];exact hlt) (show d<(V2 (E1 N) (J2 N (E1 N) r) (Ql (V9 N r) k)).length by rw[HNS.out];exact hlt2)
      have hsu:=chTo_succ (i:=c) (E1 N) (Qp N (E1 N) r) (J2 N (E1 N) r) (show d<(V2 (E1 N) (J2 N (E1 N) r) (Ql (V9 N r) k)).length by rw[HNS.out];exact hlt2)
      rw[HNA.out] at hnx hsu
      generalize hnb:natat (V2 (E1 N) (J2 N (E1 N) r) (Ql (V9 N r) k)) d=nb at xs hnx hsu
      have HNXT:=mkHid hnx
      have HSUC:=mkHid hsu
      clear hk0 hce hzz hnb hnx hsu
      gi_wp2
      clear xs
      have HSN:Hid (∀q,Nx wr q->(λq=>q.cell? ⟨W.heap.size,0,none⟩=some (.func (.yield l) #[] #[])/\q.cell? ⟨Ba,2,none⟩=some (.slice ua un uc)) q):=λq hq=>⟨Q3 hq (HBYr.out.blk.cell (i:=0) rfl),Q3 hq (HBAr.out.blk.cell (i:=2) rfl)⟩
      have hmx2:Tryz.prog.follows .mixedOrders=true:=by kernel_rfl
      have HSS:Hid ((λq=>q.cell? ⟨W.heap.size,0,none⟩=some (.func (.yield l) #[] #[])/\q.cell? ⟨Ba,2,none⟩=some (.slice ua un uc)) wr.drew):=HSN.out _ (show Nx wr wr.drew from(Below.refl _ _).drew)
      refine Q9 (c:=9) (S:=λq=>q.cell? ⟨W.heap.size,0,none⟩=some (.func (.yield l) #[] #[])/\q.cell? ⟨Ba,2,none⟩=some (.slice ua un uc)) hmx2 (by kernel_rfl) (λhw hcl=>?_)
      refine tq (i:=0) (v:=.func (.yield l) #[] #[]) (λhcl=>?_)
      refine tq (i:=1) (v:=.int .i64 (na:Int)) (λhcl=>?_)
      refine tq (i:=3) (v:=.pointer (some ⟨Ba,2,none⟩)) (λhcl=>?_)
      refine tq (i:=4) (v:=.slice ua un uc) (λhcl=>?_)
      refine tq (i:=5) (v:=.int .i64 (nb:Int)) (λhcl=>?_)
      refine anyS_two (i:=2) (j:=6) (by kernel_rfl) (wpOpIn_step rfl (λK hK=>?_)) (wpOpIn_step rfl (λK hK=>?_))
      ·go_simp
       generalize hWa:(wr.alloc (.cells #[.int .i64 (na:Int)] 2)).drew=wa
       have HXa:Hid (Nx wr wa):=by unfold Hid;rw[<-hWa];exact(Qc _ _).drew
       have HGa0:Hid (BT wa wr.heap.size #[.int .i64 (na:Int)] 2):=by unfold Hid;rw[<-hWa];exact BT.new wr _ _ _ rfl
       clear hWa
       refine hK _ _ ⟨Or.inr (HSN.out _ HXa.out),?_⟩
       clear hK K
       refine Q5 (i:=6) (by kernel_rfl) (wpOpIn_step rfl (λK hK=>?_))
       go_simp
       generalize hWb:wa.alloc (.cells #[.int .i64 (nb:Int)] 2)=wb
       have HXab:Hid (Nx wa wb):=by unfold Hid;rw[<-hWb];exact Qc _ _
       have HXb:Hid (Nx wr wb):=HXa.out.trans HXab.out
       have HGb0:Hid (BT wb wa.heap.size #[.int .i64 (nb:Int)] 2):=by unfold Hid;rw[<-hWb];exact BT.new wa _ _ _ rfl
       clear hWb
       refine hK _ _ ⟨Or.inr (HSN.out _ HXb.out),?_⟩
       clear hK K
       refine Q5 (i:=7) (by kernel_rfl) (wpOpIn_step rfl (λK hK=>?_))
       go_simp
       generalize hWc:wb.alloc (.cells #[.slice (some ⟨wr.heap.size,0,none⟩) 1 1,.slice ua un uc,.slice (some ⟨wa.heap.size,0,none⟩) 1 1] 23)=wc
       have HXbc:Hid (Nx wb wc):=by unfold Hid;rw[<-hWc];exact Qc _ _
       have HXc:Hid (Nx wr wc):=HXb.out.trans HXbc.out
       have HGa:=(HGa0.out.next HXab.out).next HXbc.out
       have HGb:=HGb0.out.next HXbc.out
       have HWD:Hid (Vl 0 wc (.slice (some ⟨wb.heap.size,0,none⟩) 3 3) [[(na:Int)],Qd (Ql (V9 N r) k).l,[(nb:Int)]]):=words3 (t:=23) (by rw[<-hWc];exact BT.new wb _ _ _ rfl) (one_ints HGa) ⟨_,_,_,rfl,Nat.le_refl _⟩ (HUr.out.next HXc.out) HCU.out (one_ints HGb) ⟨_,_,_,rfl,Nat.le_refl _⟩
       clear hWc HGa HGb
       refine hK _ _ ⟨Or.inr (HSN.out _ HXc.out),?_⟩
       clear hK K
       refine Q5 (i:=8) (by kernel_rfl) (wpOpIn_step rfl (λK hK=>?_))
       go_simp
       refine⟨trivial,(callsIn_wide.2 (concat_any 0 _ _ wc HWD.out (by simp) (by have:=HMS.out;simp[Qw];omega) (by simp))).mono ?_⟩
       rintro e w7 ⟨⟨u7,rfl,hu7⟩,hx7⟩
       have HXc7:Hid (Nx wc w7):=hx7
       have HU7:Hid (Q6 wc.heap.size w7 u7 (Qd (ch1 (Ql (V9 N r) k) na nb))):=by unfold Hid;simpa [ch1,Qd] using hu7
       obtain⟨a7,c7,rfl⟩:=Q2 HU7.out
       clear hu7 hx7
       generalize hn7:(Qd (ch1 (Ql (V9 N r) k) na nb)).length=n7 at *
       clear hn7
       have HX7:Hid (Nx wr w7):=HXc.out.trans HXc7.out
       refine hK _ _ ⟨Or.inr (HSN.out _ HX7.out),?_⟩
       clear hK K
       have HCW7:Hid (Ck X noX W w7):=HCW.out.trans (Ck.nx HX7.out)
       obtain⟨fn,tmps,assign,body,hy,hR⟩:=HY.out (Yg (E1 N) (Qp N (E1 N) r) (J2 N (E1 N) r) (V9 N r) k c d).length #[.slice a7 n7 c7] w7 HNXT.out.1 (HJ.out _ _ _ HJd.out (Ck.nx HX7.out)) HCW7.out ⟨_,rfl,by unfold chP;rw[HNXT.out.2];exact Q6.base HU7.out (Nat.le_trans HCW.out.size HXc.out.size),by unfold chP;rw[HNXT.out.2];simp[ch1]⟩
       have HR:=mh hR
       clear hR
       refine Q5 (i:=9) (by kernel_rfl) (wpOpIn_step rfl (λK hK=>?_))
       go_simp
       refine RoundIn.mono HR.out ?_
       rintro e w8 ⟨hc8,hh8⟩
       have HC8:Hid (Ck X (λb=>w1.heap.size<=b) w4 w8):=(HCd.out.trans (Ck.nx HX7.out)).trans (hc8.mono (λ_ x=>x) (λb q=>by have:=HXW.out.size;omega))
       clear hc8
       rcases hh8 with⟨rfl,hj8⟩|⟨rfl,hj8⟩
       ·have HJ8:Hid (J (Yg (E1 N) (Qp N (E1 N) r) (J2 N (E1 N) r) (V9 N r) k c (d+1)).length w8):=by unfold Hid;rw[HSUC.out,List.length_append];exact hj8
        clear hj8
        refine hK _ _ ⟨Or.inl (Nat.le_refl _),?_⟩
        clear hK K hy
        refine Q5 (i:=10) (by kernel_rfl) (wpOpIn_step rfl (λK hK=>?_))
        go_simp
        refine hK _ _ ⟨Or.inl (by decide),?_⟩
        clear hK K
        refine Qj (by kernel_rfl) ?_ _
        clear hw hcl HSS HSN
        gi_wp2
        go_roundw
        case rel=>exact⟨d+1,by omega,by go_num,HJ8,HC8⟩
        case measure=>simp[intOf];omega
       ·have HJ8:Hid (Jx w8):=hj8
        clear hj8
        refine hK _ _ ⟨Or.inl (Nat.le_refl _),?_⟩
        clear hK K hy
        refine Q5 (i:=10) (by kernel_rfl) (wpOpIn_step rfl (λK hK=>?_))
        go_simp
        refine hK _ _ ⟨Or.inl (by decide),?_⟩
        clear hK K
        refine Qj (by kernel_rfl) ?_ _
        clear hw hcl HSS HSN
        gi_wp2
        exact⟨(Ck.nx HX24.out).trans HC8.out,HJ8.out⟩
      ·go_simp
       generalize hWa:(wr.alloc (.cells #[.int .i64 (nb:Int)] 2)).drew=wa
       have HXa:Hid (Nx wr wa):=by unfold Hid;rw[<-hWa];exact(Qc _ _).drew
       have HGa0:Hid (BT wa wr.heap.size #[.int .i64 (nb:Int)] 2):=by unfold Hid;rw[<-hWa];exact BT.new wr _ _ _ rfl
       clear hWa
       refine hK _ _ ⟨Or.inr (HSN.out _ HXa.out),?_⟩
       clear hK K
       refine Q5 (i:=2) (by kernel_rfl) (wpOpIn_step rfl (λK hK=>?_))
       go_simp
       generalize hWb:wa.alloc (.cells #[.int .i64 (na:Int)] 2)=wb
       have HXab:Hid (Nx wa wb):=by unfold Hid;rw[<-hWb];exact Qc _ _
       have HXb:Hid (Nx wr wb):=HXa.out.trans HXab.out
       have HGb0:Hid (BT wb wa.heap.size #[.int .i64 (na:Int)] 2):=by unfold Hid;rw[<-hWb];exact BT.new wa _ _ _ rfl
       clear hWb
       refine hK _ _ ⟨Or.inr (HSN.out _ HXb.out),?_⟩
       clear hK K
       refine Q5 (i:=7) (by kernel_rfl) (wpOpIn_step rfl (λK hK=>?_))
       go_simp
       generalize hWc:wb.alloc (.cells #[.slice (some ⟨wa.heap.size,0,none⟩) 1 1,.slice ua un uc,.slice (some ⟨wr.heap.size,0,none⟩) 1 1] 23)=wc
       have HXbc:Hid (Nx wb wc):=by unfold Hid;rw[<-hWc];exact Qc _ _
       have HXc:Hid (Nx wr wc):=HXb.out.trans HXbc.out
       have HGa:=(HGa0.out.next HXab.out).next HXbc.out
       have HGb:=HGb0.out.next HXbc.out
       have HWD:Hid (Vl 0 wc (.slice (some ⟨wb.heap.size,0,none⟩) 3 3) [[(na:Int)],Qd (Ql (V9 N r) k).l,[(nb:Int)]]):=words3 (t:=23) (by rw[<-hWc];exact BT.new wb _ _ _ rfl) (one_ints HGb) ⟨_,_,_,rfl,Nat.le_refl _⟩ (HUr.out.next HXc.out) HCU.out (one_ints HGa) ⟨_,_,_,rfl,Nat.le_refl _⟩
       clear hWc HGa HGb
       refine hK _ _ ⟨Or.inr (HSN.out _ HXc.out),?_⟩
       clear hK K
       refine Q5 (i:=8) (by kernel_rfl) (wpOpIn_step rfl (λK hK=>?_))
       go_simp
       refine⟨trivial,(callsIn_wide.2 (concat_any 0 _ _ wc HWD.out (by simp) (by have:=HMS.out;simp[Qw];omega) (by simp))).mono ?_⟩
       rintro e w7 ⟨⟨u7,rfl,hu7⟩,hx7⟩
       have HXc7:Hid (Nx wc w7):=hx7
       have HU7:Hid (Q6 wc.heap.size w7 u7 (Qd (ch1 (Ql (V9 N r) k) na nb))):=by unfold Hid;simpa [ch1,Qd] using hu7
       obtain⟨a7,c7,rfl⟩:=Q2 HU7.out
       clear hu7 hx7
       generalize hn7:(Qd (ch1 (Ql (V9 N r) k) na nb)).length=n7 at *
       clear hn7
       have HX7:Hid (Nx wr w7):=HXc.out.trans HXc7.out
       refine hK _ _ ⟨Or.inr (HSN.out _ HX7.out),?_⟩
       clear hK K
       have HCW7:Hid (Ck X noX W w7):=HCW.out.trans (Ck.nx HX7.out)
       obtain⟨fn,tmps,assign,body,hy,hR⟩:=HY.out (Yg (E1 N) (Qp N (E1 N) r) (J2 N (E1 N) r) (V9 N r) k c d).length #[.slice a7 n7 c7] w7 HNXT.out.1 (HJ.out _ _ _ HJd.out (Ck.nx HX7.out)) HCW7.out ⟨_,rfl,by unfold chP;rw[HNXT.out.2];exact Q6.base HU7.out (Nat.le_trans HCW.out.size HXc.out.size),by unfold chP;rw[HNXT.out.2];simp[ch1]⟩
       have HR:=mh hR
       clear hR
       refine Q5 (i:=9) (by kernel_rfl) (wpOpIn_step rfl (λK hK=>?_))
       go_simp
       refine RoundIn.mono HR.out ?_
       rintro e w8 ⟨hc8,hh8⟩
       have HC8:Hid (Ck X (λb=>w1.heap.size<=b) w4 w8):=(HCd.out.trans (Ck.nx HX7.out)).trans (hc8.mono (λ_ x=>x) (λb q=>by have:=HXW.out.size;omega))
       clear hc8
       rcases hh8 with⟨rfl,hj8⟩|⟨rfl,hj8⟩
       ·have HJ8:Hid (J (Yg (E1 N) (Qp N (E1 N) r) (J2 N (E1 N) r) (V9 N r) k c (d+1)).length w8):=by unfold Hid;rw[HSUC.out,List.length_append];exact hj8
        clear hj8
        refine hK _ _ ⟨Or.inl (Nat.le_refl _),?_⟩
        clear hK K hy
        refine Q5 (i:=10) (by kernel_rfl) (wpOpIn_step rfl (λK hK=>?_))
        go_simp
        refine hK _ _ ⟨Or.inl (by decide),?_⟩
        clear hK K
        refine Qj (by kernel_rfl) ?_ _
        clear hw hcl HSS HSN
        gi_wp2
        go_roundw
        case rel=>exact⟨d+1,by omega,by go_num,HJ8,HC8⟩
        case measure=>simp[intOf];omega
       ·have HJ8:Hid (Jx w8):=hj8
        clear hj8
        refine hK _ _ ⟨Or.inl (Nat.le_refl _),?_⟩
        clear hK K hy
        refine Q5 (i:=10) (by kernel_rfl) (wpOpIn_step rfl (λK hK=>?_))
        go_simp
        refine hK _ _ ⟨Or.inl (by decide),?_⟩
        clear hK K
        refine Qj (by kernel_rfl) ?_ _
        clear hw hcl HSS HSN
        gi_wp2
        exact⟨(Ck.nx HX24.out).trans HC8.out,HJ8.out⟩
     ·have ed:d=ns:=by omega
      subst ed
      have HJn:Hid (J (Yg (E1 N) (Qp N (E1 N) r) (J2 N (E1 N) r) (V9 N r) k (c+1) 0).length wr):=by unfold Hid;rw[<-chTo_row (E1 N) (Qp N (E1 N) r) (J2 N (E1 N) r) (by rw[HNE.out];exact hlt),HNS.out];exact HJd.out
      gi_wp2
      go_roundw
      case rel=>exact⟨c+1,by omega,by go_num,HJn,HCd⟩
      case measure=>simp[intOf];omega
   ·have ec:c=ne:=by omega
    subst ec
    gi_wp2
    refine⟨(Ck.nx HX24.out).trans HCc.out,?_,?_⟩
    ·show J (Yg (E1 N) (Qp N (E1 N) r) (J2 N (E1 N) r) (V9 N r) (k+1) 0 0).length wr
     rw[<-chTo_full (E1 N) (Qp N (E1 N) r) (J2 N (E1 N) r) hk,HNE.out]
     exact HJc.out
    ·exact HBY4.out.ck HCc.out (λx=>by have:=(HX.out _ x).2;omega)
theorem chains_any (C:Nat)(N:Nt)(L:Lk)(r:Rl)(va:Option Addr)(vn vc:Nat)(w:World)(hv:Qh N=true)(hR:LR C N (E1 N) N.ways.length (E1 N).length (E1 N).length (E1 N).length N.ways.length w L)(hg:RelG N r) :
  Calls Tryz.prog 38 #[.pointer (some ⟨L.br,0,none⟩),.agg #[.int .i64 r.id,.bool r.only,.int .i64 r.frm,.int .i64 r.to,.bool r.via,.int .i64 r.node,.slice va vn vc]] w λe w'=>(∃b2 b3 b5 b6,e=.returned (.func (.func 65) #[] #[.pointer (some ⟨b2,0,none⟩),.pointer (some ⟨b3,0,none⟩),.pointer (some ⟨b5,0,none⟩),.pointer (some ⟨b6,0,none⟩)])/\BT w' b2 #[.pointer (some ⟨L.br,0,none⟩)] 55/\BT w' b3 #[.int .i64 r.id,.bool r.only,.int .i64 r.frm,.int .i64 r.to,.bool r.via,.int .i64 r.node,.slice va vn vc] 41/\BT w' b5 #[.pointer (some ⟨L.wb (wpos N.ways r.frm),0,none⟩)] 78/\BT w' b6 #[.pointer (some ⟨L.wb (wpos N.ways r.to),0,none⟩)] 78)/\Nx w w':=by
 have HV:=mh hv
 have HR:=mh hR
 have HG:Hid (RelG N r):=hg
 have hmx:Tryz.prog.follows .mixedOrders=true:=by kernel_rfl
 have hmf:∀(fn:Fn) (first cap:Array Value) (w:World),(Instr.makeFunc fn first cap).run Tryz.prog w=.ok (.func fn first cap) w:=λ_ _ _ _=>rfl
 clear hv hR hg
 go_enter Tryz.func38,Tryz.ntmps38
 go_upto_region 1 with fail
 generalize hW0:(w.alloc (.cells #[.pointer (some ⟨L.br,0,none⟩)] 55)).alloc (.cells #[.int .i64 r.id,.bool r.only,.int .i64 r.frm,.int .i64 r.to,.bool r.via,.int .i64 r.node,.slice va vn vc] 41)=w0
 have HX0:Hid (Nx w w0):=by unfold Hid;rw[<-hW0];exact(Qc _ _).trans (Qc _ _)
 have HS0:Hid (w0.heap.size=w.heap.size+2):=by unfold Hid;rw[<-hW0];simp
 have HB2:Hid (BT w0 w.heap.size #[.pointer (some ⟨L.br,0,none⟩)] 55):=by unfold Hid;rw[<-hW0];exact(BT.new w _ _ _ rfl).alloc _
 have HB3:Hid (BT w0 (w.heap.size+1) #[.int .i64 r.id,.bool r.only,.int .i64 r.frm,.int .i64 r.to,.bool r.via,.int .i64 r.node,.slice va vn vc] 41):=by unfold Hid;rw[<-hW0];exact BT.new _ _ _ _ (by simp)
 clear hW0
 have HSN0:Hid (∀q,Nx w0 q->LR C N (E1 N) N.ways.length (E1 N).length (E1 N).length (E1 N).length N.ways.length q L):=λq hq=>(HR.out.next HX0.out).next hq
 generalize hpf:wpos N.ways r.frm=pf at *
 generalize hpt:wpos N.ways r.to=pt at *
 have HPF:=mh hpf
 have HPT:=mh hpt
 have HPFX:=HPF
 have HPTX:=HPT
 clear hpf hpt
 have HSN:Hid (∀q,Nx w0 q->(λq=>q.cell? ⟨w.heap.size,0,none⟩=some (.pointer (some ⟨L.br,0,none⟩))/\q.cell? ⟨L.br,6,none⟩=some (.map (some L.bm))/\q.cell? ⟨w.heap.size+1,2,none⟩=some (.int .i64 r.frm)/\q.cell? ⟨w.heap.size+1,3,none⟩=some (.int .i64 r.to)/\(Instr.lookup 74 (.map (some L.bm)) (.int .i64 r.frm) false).run Tryz.prog q=.ok (.pointer (some ⟨L.wb pf,0,none⟩)) q/\(Instr.lookup 74 (.map (some L.bm)) (.int .i64 r.to) false).run Tryz.prog q=.ok (.pointer (some ⟨L.wb pt,0,none⟩)) q) q):=λq hq=>by
  have hl:=HSN0.out q hq
  have h1:=(hl.ways HV.out rfl HG.out.frm).1
  have h2:=(hl.ways HV.out rfl HG.out.dst).1
  rw[HPF.out] at h1
  rw[HPT.out] at h2
  exact⟨Q3 hq (HB2.out.blk.cell (i:=0) rfl),hl.road.blk.cell (i:=6) rfl,Q3 hq (HB3.out.blk.cell (i:=2) rfl),Q3 hq (HB3.out.blk.cell (i:=3) rfl),h1,h2⟩
 have HSS:Hid ((λq=>q.cell? ⟨w.heap.size,0,none⟩=some (.pointer (some ⟨L.br,0,none⟩))/\q.cell? ⟨L.br,6,none⟩=some (.map (some L.bm))/\q.cell? ⟨w.heap.size+1,2,none⟩=some (.int .i64 r.frm)/\q.cell? ⟨w.heap.size+1,3,none⟩=some (.int .i64 r.to)/\(Instr.lookup 74 (.map (some L.bm)) (.int .i64 r.frm) false).run Tryz.prog q=.ok (.pointer (some ⟨L.wb pf,0,none⟩)) q/\(Instr.lookup 74 (.map (some L.bm)) (.int .i64 r.to) false).run Tryz.prog q=.ok (.pointer (some ⟨L.wb pt,0,none⟩)) q) w0.drew):=HSN.out _ (show Nx w0 w0.drew from(Below.refl _ _).drew)
 refine(wpIn_wide (n:=9)).1 ?_
 refine Q9 (c:=18) (S:=λq=>q.cell? ⟨w.heap.size,0,none⟩=some (.pointer (some ⟨L.br,0,none⟩))/\q.cell? ⟨L.br,6,none⟩=some (.map (some L.bm))/\q.cell? ⟨w.heap.size+1,2,none⟩=some (.int .i64 r.frm)/\q.cell? ⟨w.heap.size+1,3,none⟩=some (.int .i64 r.to)/\(Instr.lookup 74 (.map (some L.bm)) (.int .i64 r.frm) false).run Tryz.prog q=.ok (.pointer (some ⟨L.wb pf,0,none⟩)) q/\(Instr.lookup 74 (.map (some L.bm)) (.int .i64 r.to) false).run Tryz.prog q=.ok (.pointer (some ⟨L.wb pt,0,none⟩)) q) hmx (by kernel_rfl) (λhw hcl=>?_)
 refine tq (i:=0) (v:=.pointer (some ⟨L.br,0,none⟩)) (λhcl=>?_)
 refine tq (i:=1) (v:=.pointer (some ⟨L.br,0,none⟩)) (λhcl=>?_)
 refine tq (i:=2) (v:=.pointer (some ⟨L.br,6,none⟩)) (λhcl=>?_)
 refine tq (i:=3) (v:=.map (some L.bm)) (λhcl=>?_)
 refine tq (i:=4) (v:=.pointer (some ⟨w.heap.size+1,2,none⟩)) (λhcl=>?_)
 refine tq (i:=5) (v:=.int .i64 r.frm) (λhcl=>?_)
 refine tq (i:=6) (v:=.pointer (some ⟨L.wb pf,0,none⟩)) (λhcl=>?_)
 refine tq (i:=7) (v:=.pointer (some ⟨L.br,0,none⟩)) (λhcl=>?_)
 refine tq (i:=8) (v:=.pointer (some ⟨L.br,0,none⟩)) (λhcl=>?_)
 refine tq (i:=9) (v:=.pointer (some ⟨L.br,6,none⟩)) (λhcl=>?_)
 refine tq (i:=10) (v:=.map (some L.bm)) (λhcl=>?_)
 refine tq (i:=11) (v:=.pointer (some ⟨w.heap.size+1,3,none⟩)) (λhcl=>?_)
 refine tq (i:=12) (v:=.int .i64 r.to) (λhcl=>?_)
 refine tq (i:=13) (v:=.pointer (some ⟨L.wb pt,0,none⟩)) (λhcl=>?_)
 refine anyS_two (i:=14) (j:=15) (by kernel_rfl) (wpOpIn_step rfl (λK hK=>?_)) (wpOpIn_step rfl (λK hK=>?_))
 ·go_simp
  generalize hW0:(w0.alloc (.cells #[.pointer none] 78)).drew=wx0
  have HL0:Hid (Nx w0 wx0):=by unfold Hid;rw[<-hW0];exact(Qc _ _).drew
  have HN0:Hid (Nx w0 wx0):=HL0.out
  have HB50:Hid (BT wx0 w0.heap.size #[.pointer none] 78):=by unfold Hid;rw[<-hW0];exact BT.new w0 _ _ _ rfl
  clear hW0
  refine hK _ _ ⟨Or.inr (HSN.out _ HN0.out),?_⟩
  clear hK K
  refine Q5 (i:=15) (by kernel_rfl) (wpOpIn_step rfl (λK hK=>?_))
  go_simp
  generalize hW1:(wx0.alloc (.cells #[.pointer none] 78))=wx1
  have HL1:Hid (Nx wx0 wx1):=by unfold Hid;rw[<-hW1];exact Qc _ _
  have HN1:Hid (Nx w0 wx1):=HN0.out.trans HL1.out
  have HB61:Hid (BT wx1 wx0.heap.size #[.pointer none] 78):=by unfold Hid;rw[<-hW1];exact BT.new wx0 _ _ _ rfl
  have HLT:=mh HB50.out.lt
  have HB51:=mh (HB50.out.next HL1.out)
  clear hW1
  refine hK _ _ ⟨Or.inr (HSN.out _ HN1.out),?_⟩
  clear hK K
  refine Q5 (i:=16) (by kernel_rfl) (wpOpIn_step rfl (λK hK=>?_))
  have xc:=HB51.out.blk.cell (i:=0) rfl
  have xf:=HB51.out.blk.frozen 0
  go_simp
  clear xc xf
  generalize hW2:wx1.setCell ⟨w0.heap.size,0,none⟩ (.pointer (some ⟨L.wb pf,0,none⟩))=wx2
  have HN2:Hid (Nx w0 wx2):=by unfold Hid;rw[<-hW2];exact Below.setCell HN1.out (by first|exact Nat.le_refl _|exact HN0.out.size|exact HN1.out.size) _
  have HB52:Hid (BT wx2 w0.heap.size #[.pointer (some ⟨L.wb pf,0,none⟩)] 78):=by unfold Hid;rw[<-hW2];exact HB51.out.set 0 _
  have HB62:Hid (BT wx2 wx0.heap.size #[.pointer none] 78):=by unfold Hid;rw[<-hW2];exact HB61.out.chg (S:=λx=>x=w0.heap.size) (Chg.set _ _ _ rfl) (λe=>by have:=HLT.out;omega)
  clear hW2
  refine hK _ _ ⟨Or.inr (HSN.out _ HN2.out),?_⟩
  clear hK K
  refine Q5 (i:=17) (by kernel_rfl) (wpOpIn_step rfl (λK hK=>?_))
  have xc:=HB62.out.blk.cell (i:=0) rfl
  have xf:=HB62.out.blk.frozen 0
  go_simp
  clear xc xf
  generalize hW3:wx2.setCell ⟨wx0.heap.size,0,none⟩ (.pointer (some ⟨L.wb pt,0,none⟩))=wx3
  have HN3:Hid (Nx w0 wx3):=by unfold Hid;rw[<-hW3];exact Below.setCell HN2.out (by first|exact Nat.le_refl _|exact HN0.out.size|exact HN1.out.size) _
  have HB63:Hid (BT wx3 wx0.heap.size #[.pointer (some ⟨L.wb pt,0,none⟩)] 78):=by unfold Hid;rw[<-hW3];exact HB62.out.set 0 _
  have HB53:Hid (BT wx3 w0.heap.size #[.pointer (some ⟨L.wb pf,0,none⟩)] 78):=by unfold Hid;rw[<-hW3];exact HB52.out.chg (S:=λx=>x=wx0.heap.size) (Chg.set _ _ _ rfl) (λe=>by have:=HLT.out;omega)
  clear hW3
  refine hK _ _ ⟨Or.inr (HSN.out _ HN3.out),?_⟩
  clear hK K
  refine Qj (by kernel_rfl) ?_ _
  clear hw hcl HSS HSN HSN0
  go_wp2
  go_ret
  exact⟨⟨_,_,_,_,rfl,HB2.out.next HN3.out,HB3.out.next HN3.out,by rw[HPFX.out];exact HB53.out,by rw[HPTX.out];exact HB63.out⟩,HX0.out.trans HN3.out⟩
 ·go_simp
  generalize hW0:(w0.alloc (.cells #[.pointer none] 78)).drew=wx0
  have HL0:Hid (Nx w0 wx0):=by unfold Hid;rw[<-hW0];exact(Qc _ _).drew
  have HN0:Hid (Nx w0 wx0):=HL0.out
  have HB60:Hid (BT wx0 w0.heap.size #[.pointer none] 78):=by unfold Hid;rw[<-hW0];exact BT.new w0 _ _ _ rfl
  clear hW0
  refine hK _ _ ⟨Or.inr (HSN.out _ HN0.out),?_⟩
  clear hK K
  refine Q5 (i:=14) (by kernel_rfl) (wpOpIn_step rfl (λK hK=>?_))
  go_simp
  generalize hW1:(wx0.alloc (.cells #[.pointer none] 78))=wx1
  have HL1:Hid (Nx wx0 wx1):=by unfold Hid;rw[<-hW1];exact Qc _ _
  have HN1:Hid (Nx w0 wx1):=HN0.out.trans HL1.out
  have HB51:Hid (BT wx1 wx0.heap.size #[.pointer none] 78):=by unfold Hid;rw[<-hW1];exact BT.new wx0 _ _ _ rfl
  have HLT:=mh HB60.out.lt
  have HB61:=mh (HB60.out.next HL1.out)
  clear hW1
  refine hK _ _ ⟨Or.inr (HSN.out _ HN1.out),?_⟩
  clear hK K
  refine Q5 (i:=16) (by kernel_rfl) (wpOpIn_step rfl (λK hK=>?_))
  have xc:=HB51.out.blk.cell (i:=0) rfl
  have xf:=HB51.out.blk.frozen 0
  go_simp
  clear xc xf
  generalize hW2:wx1.setCell ⟨wx0.heap.size,0,none⟩ (.pointer (some ⟨L.wb pf,0,none⟩))=wx2
  have HN2:Hid (Nx w0 wx2):=by unfold Hid;rw[<-hW2];exact Below.setCell HN1.out (by first|exact Nat.le_refl _|exact HN0.out.size|exact HN1.out.size) _
  have HB52:Hid (BT wx2 wx0.heap.size #[.pointer (some ⟨L.wb pf,0,none⟩)] 78):=by unfold Hid;rw[<-hW2];exact HB51.out.set 0 _
  have HB62:Hid (BT wx2 w0.heap.size #[.pointer none] 78):=by unfold Hid;rw[<-hW2];exact HB61.out.chg (S:=λx=>x=wx0.heap.size) (Chg.set _ _ _ rfl) (λe=>by have:=HLT.out;omega)
  clear hW2
  refine hK _ _ ⟨Or.inr (HSN.out _ HN2.out),?_⟩
  clear hK K
  refine Q5 (i:=17) (by kernel_rfl) (wpOpIn_step rfl (λK hK=>?_))
  have xc:=HB62.out.blk.cell (i:=0) rfl
  have xf:=HB62.out.blk.frozen 0
  go_simp
  clear xc xf
  generalize hW3:wx2.setCell ⟨w0.heap.size,0,none⟩ (.pointer (some ⟨L.wb pt,0,none⟩))=wx3
  have HN3:Hid (Nx w0 wx3):=by unfold Hid;rw[<-hW3];exact Below.setCell HN2.out (by first|exact Nat.le_refl _|exact HN0.out.size|exact HN1.out.size) _
  have HB63:Hid (BT wx3 w0.heap.size #[.pointer (some ⟨L.wb pt,0,none⟩)] 78):=by unfold Hid;rw[<-hW3];exact HB62.out.set 0 _
  have HB53:Hid (BT wx3 wx0.heap.size #[.pointer (some ⟨L.wb pf,0,none⟩)] 78):=by unfold Hid;rw[<-hW3];exact HB52.out.chg (S:=λx=>x=w0.heap.size) (Chg.set _ _ _ rfl) (λe=>by have:=HLT.out;omega)
  clear hW3
  refine hK _ _ ⟨Or.inr (HSN.out _ HN3.out),?_⟩
  clear hK K
  refine Qj (by kernel_rfl) ?_ _
  clear hw hcl HSS HSN HSN0
  go_wp2
  go_ret
  exact⟨⟨_,_,_,_,rfl,HB2.out.next HN3.out,HB3.out.next HN3.out,by rw[HPFX.out];exact HB53.out,by rw[HPTX.out];exact HB63.out⟩,HX0.out.trans HN3.out⟩
end Go.Proofs.YthhbdfiopjclcaaGreatDoor
