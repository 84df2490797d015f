import Derived.Test.YtahpodmokbdjeaaGreatDoorQLD
namespace Go.Proofs.YtahpodmokbdjeaaGreatDoor
open Go.RowKit Go.Sort Go.Maps Go.Shelf Tryz
set_option linter.unusedVariables false
set_option maxRecDepth 1000000
set_option maxHeartbeats 16000000
attribute [local go_sem] Oper.semAt_some
theorem Qfs {K:Nat->Prop}{A B:World}(k:Ck noX K A B){b i:Nat}{v:Value}(h:A.cell? (aD b i)=some v):B.cell? (aD b i)=some v:=by
 have h':=h
 unfold World.cell? at h
 cases e:A.heap[b]? with
 |none=>simp[e] at h
 |some o=>
  cases o with
  |cells c t fz=>
   rw[World.cell?_of_block ((k.block b _ e id (oR rfl)).trans e.symm)]
   exact h'
  |_=>simp[e] at h
theorem Q8.ck {K:Nat->Prop}{A B:World}(k:Ck noX K A B){v:Value}{zs:List Int}(h:Q8 0 A v zs):Q8 0 B v zs:=by
 obtain⟨a,cap,e,hm,hk⟩:=h
 refine⟨a,cap,e,hm,λhp=>?_⟩
 obtain⟨b,off,e,h0,hb,hc⟩:=hk hp
 exact⟨b,off,e,h0,zK hb k.size,λi hi=>Qfs k (hc i hi)⟩
theorem Ib {X K:Nat->Prop}{A B:World}(k:Ck X K A B){b i:Nat}{v:Value}(hx:¬X b)(h:A.cell? (aD b i)=some v):B.cell? (aD b i)=some v:=by
 have h':=h
 unfold World.cell? at h
 cases e:A.heap[b]? with
 |none=>simp[e] at h
 |some o=>
  cases o with
  |cells c t fz=>
   rw[World.cell?_of_block ((k.block b _ e hx (oR rfl)).trans e.symm)]
   exact h'
  |_=>simp[e] at h
theorem Q8.ckX {X K:Nat->Prop}{A B:World}(k:Ck X K A B){v:Value}{zs:List Int}(h:Q8 0 A v zs)(hx:∀g,v.ownBlock=some g->¬X g):Q8 0 B v zs:=by
 obtain⟨a,cap,e,hm,hk⟩:=h
 refine⟨a,cap,e,hm,λhp=>?_⟩
 obtain⟨b,off,rfl,h0,hb,hc⟩:=hk hp
 exact⟨b,off,rfl,h0,zK hb k.size,λi hi=>Ib k (hx b (by rw[e];rfl)) (hc i hi)⟩
theorem Q5s {F:Fence}{n:Nat}{P:Program}{ops:Array Oper}{Q:Exit->Act->World->Prop}{md:Region.Mode}{S:World->Prop}{c fuel:Nat}{listed:Array Bool}{a a':Act}{w:World}(e:a=a')(h:V2 F n P md ops Q S c fuel listed a' w):V2 F n P md ops Q S c fuel listed a w:=e▸h
theorem Q1l {F:Fence}{n:Nat}{P:Program}{ops:Array Oper}{Q:Exit->Act->World->Prop}{md:Region.Mode}{S:World->Prop}{c i fuel:Nat}{listed:Array Bool}{a:Act}{w:World}{o:Oper}(hr:Region.ready md ops listed=[i])(hi:ops[i]?=some o)(hw:Region.wanted o (yielded ops a.tmps)=false)(ha:∀f,o.about P w a.eval=some f->F.fn f)(hS:c<=i\/S w)(hcl:Cl md ops listed)(h:Cl md ops (listed.setIfInBounds i true)->V2 F n P md ops Q S c fuel (listed.setIfInBounds i true) (a.put o.dst undef) w):V2 F n P md ops Q S c (fuel+1) listed a w:=
 Qg hr (by
  unfold wpOpIn
  simp only[hi,hw]
  exact⟨ha,hS,h (hcl.step (by rw[hr];simp))⟩)
theorem W5 {F:Fence}{n:Nat}{P:Program}{ops:Array Oper}{Q:Exit->Act->World->Prop}{md:Region.Mode}{S:World->Prop}{c i fuel:Nat}{listed:Array Bool}{a:Act}{w:World}{o:Oper}(hr:Region.ready md ops listed=[i])(hi:ops[i]?=some o)(hw:Region.wanted o (yielded ops a.tmps)=true)(h:∀K:Act->World->Prop,(∀a' w',(c<=i\/S w')/\V2 F n P md ops Q S c fuel (listed.setIfInBounds i true) a' w'->K a' w')->Oper.wpIn F n P o a w K Q):V2 F n P md ops Q S c (fuel+1) listed a w:=
 Qg hr (by
  unfold wpOpIn
  simp only[hi,hw]
  exact h _ (λ_ _ h=>h))
def Qc7:Op->Bool
 |.defer _=>false
 |_=>true
theorem noDefer_round {l:Nat}{ops:Array Oper}(h:ops.toList.all (λo=>Qc7 o.op)=true):Tc (Fence.wide.inRound l) ops:=λj o ρ hj=>Oper.semAt_some l ρ o (λc e=>by
 have h1:=List.all_eq_true.1 h o (by have:=Array.mem_of_getElem? hj;simpa using this)
 rw[e] at h1
 cases h1)
theorem Qgh {w:World}{g t:Nat}{v1 v2:Value}{z1 z2:List Int}(h:BT w g #[v1,v2] t)(h1:Q8 0 w v1 z1)(c1:Vw v1)(h2:Q8 0 w v2 z2)(c2:Vw v2):J7 0 w (sL (sA g) 2 2) [z1,z2]:=by
 refine⟨_,_,rfl,by simp[maxLen],λ_=>⟨g,0,rfl,nZ,h.lt,λi hi=>?_⟩⟩
 match i,hi with
 |0,_=>exact⟨v1,h.c 0 rfl,h1,c1⟩
 |1,_=>exact⟨v2,h.c 1 rfl,h2,c2⟩
theorem Qaq {w:World}{g t:Nat}{v1 v2 v3:Value}{z1 z2 z3:List Int}(h:BT w g #[v1,v2,v3] t)(h1:Q8 0 w v1 z1)(c1:Vw v1)(h2:Q8 0 w v2 z2)(c2:Vw v2)(h3:Q8 0 w v3 z3)(c3:Vw v3):J7 0 w (sL (sA g) 3 3) [z1,z2,z3]:=by
 refine⟨_,_,rfl,by simp[maxLen],λ_=>⟨g,0,rfl,nZ,h.lt,λi hi=>?_⟩⟩
 match i,hi with
 |0,_=>exact⟨v1,h.c 0 rfl,h1,c1⟩
 |1,_=>exact⟨v2,h.c 1 rfl,h2,c2⟩
 |2,_=>exact⟨v3,h.c 2 rfl,h3,c3⟩
def Qhr (z bf bn gf:Nat)(lb:Array Value)(v:Value)(ys:List Sx)(InvB:World->Prop)(W:World):Prop:=W.cell? (aD bf 0)=some (.func (.func gf) #[] lb)/\W.cell? (aD bn 0)=some v/\Td z W v ys/\InvB W
theorem Q6u (z bf bn gf:Nat)(lb:Array Value)(v:Value)(xs ys:List Sx)(hLen:∀k j,k<xs.length->j<ys.length->0<(Qb (Qh xs k).l++Qb (Qh ys j).l).length/\(Qb (Qh xs k).l++Qb (Qh ys j).l).length<=1000000)(InvB:World->Prop)(hG:Ik prog gf lb (PyS z xs) z xs.length InvB)(eg:∀args w,(callFunc gf args).run prog w=.ok (.enter gf args) w)(X:Nat->Prop)(l m:Nat)(J:Nat->World->Prop)(Jx:World->Prop)(W:World)(hX:∀b,X b->z<=b/\b<W.heap.size)
  (hInv:∀B,Ck X noX W B->Qhr z bf bn gf lb v ys InvB B) (hJ:∀k A B,J k A->Ck noX (λb=>b<W.heap.size) A B->J k B) (hJx:∀A B,Jx A->Ck noX (λb=>b<W.heap.size) A B->Jx B)
  (hY:∀k args W1,k<(Wk xs ys).length->J k W1->Ck X noX W W1->PyS z (Wk xs ys) W.heap.size k args W1->YieldAt Fence.wide m prog l args W1 λe W'=>Ck X (λb=>W.heap.size<=b) W1 W'/\((e=.returned (.bool true)/\J (k+1) W')\/(e=.returned (.bool false)/\Jx W')))
  (h0:J 0 W) :
  Calls prog 174 #[.func (.yield l) #[] #[],pT bf,pT bn] W λe W'=>(∃v,e=.returned v)/\Ck X noX W W'/\(J (Wk xs ys).length W'\/Jx W'):=by
 have HG:Z (Ik prog gf lb (PyS z xs) z xs.length InvB):=hG
 have HEG:Z (∀args w,(callFunc gf args).run prog w=.ok (.enter gf args) w):=eg
 have HIN:Z (∀B,Ck X noX W B->Qhr z bf bn gf lb v ys InvB B):=hInv
 have HJ:Z (∀k A B,J k A->Ck noX (λb=>b<W.heap.size) A B->J k B):=hJ
 have HJX:Z (∀A B,Jx A->Ck noX (λb=>b<W.heap.size) A B->Jx B):=hJx
 have HY:Z (∀k args W1,k<(Wk xs ys).length->J k W1->Ck X noX W W1->PyS z (Wk xs ys) W.heap.size k args W1->YieldAt Fence.wide m prog l args W1 λe W'=>Ck X (λb=>W.heap.size<=b) W1 W'/\((e=.returned (.bool true)/\J (k+1) W')\/(e=.returned (.bool false)/\Jx W'))):=hY
 have HJ0:Z (J 0 W):=h0
 have HX:Z (∀b,X b->z<=b/\b<W.heap.size):=hX
 have x1:=Q1 (Q4 W (.cells #[.func (.yield l) #[] #[]] 267)) (hInv W (Ck.refl _ _ _)).1
 have HLEN:Z (∀k j,k<xs.length->j<ys.length->0<(Qb (Qh xs k).l++Qb (Qh ys j).l).length/\(Qb (Qh xs k).l++Qb (Qh ys j).l).length<=1000000):=hLen
 clear hG eg hInv hJ hJx hY h0 hX hLen
 refine(callsIn_wide (n:=m+1)).1 (callsIn_of_wp_marks func174 rfl trivial ?_ rfl)
 refine wpIn_wide.2 ?_
 simp only[ntmps174,List.size_toArray,List.length_cons,List.length_nil,Nat.reduceAdd,Nat.reduceSub,Array.replicate_succ,Array.replicate_zero,List.push_toArray,List.append_toArray,List.nil_append,List.cons_append]
 go_wp2
 generalize hW0:W.alloc (.cells #[.func (.yield l) #[] #[]] 267)=w0
 have HX0:Z (Nx W w0):=by rw[<-hW0];exact Q4 _ _
 have HS0:Z (w0.heap.size=W.heap.size+1):=by unfold Z;rw[<-hW0];simp
 have HB0:Z (BT w0 W.heap.size #[.func (.yield l) #[] #[]] 267):=by rw[<-hW0];exact BT.new _ _ _ _ rfl
 clear hW0 x1
 refine(wpIn_wide (n:=m+1)).1 ?_
 refine Ts HG.o rfl HEG.o X ?hX ?hps ?hPy ?hInv (λk W'=>J (Xm xs ys k 0).length W'/\BT W' W.heap.size #[.func (.yield l) #[] #[]] 267) Jx ?hI ?hIx ?h0 (λargs a' W'=>∃Ba ta ha u,args=#[.agg #[iV ta,iV ha,u]]/\w0.heap.size<=Ba/\BT W' Ba #[iV ta,iV ha,u] 208/\a'=⟨#[.func (.yield l) #[] #[],pT bf,pT bn,pT W.heap.size,pT Ba,undef,undef,.func (.func gf) #[] lb,.agg #[iV ta,iV ha,u],undef,undef,undef,undef,undef,undef,undef,undef,undef,undef,undef,undef,undef,undef,undef,undef,undef,undef,undef,undef,undef,undef,undef,undef,undef,undef,undef,undef],[]⟩) ?hAx ?assign ?body ?done ?stop
 case hX=>intro b h;have:=HX.o b h;have:=HS0.o;exact⟨by omega,by omega⟩
 case hps=>rintro k args W ⟨u,rfl,_⟩;rfl
 case hPy=>rintro k args A B ⟨u,h1,h2,h3⟩ hc;exact⟨u,h1,h2.ck hc,h3⟩
 case hInv=>exact λB hc=>(HIN.o B ((Ck.nx HX0.o).trans hc)).2.2.2
 case hI=>exact λk A B h hc=>⟨HJ.o _ A B h.1 (hc.mono (λ_ x=>x) (λb q=>by have:=HS0.o;omega)),h.2.ck hc id⟩
 case hIx=>exact λA B h hc=>HJX.o A B h (hc.mono (λ_ x=>x) (λb q=>by have:=HS0.o;omega))
 case h0=>exact⟨by rw[Q57];exact HJ.o 0 _ _ HJ0.o (Ck.nx HX0.o),HB0.o⟩
 case hAx=>rintro args a' A B ⟨Ba,ta,ha,u,h1,h2,h3,h4⟩ hc;exact⟨Ba,ta,ha,u,h1,h2,h3.ck hc id,h4⟩
 case assign=>
  rintro l' k args W' K hk hWz ⟨u,rfl,hu,_⟩ hK
  obtain⟨ua,uc,rfl,_⟩:=hu.slice
  clear hu
  have HWZ:Z (w0.heap.size<=W'.heap.size):=hWz
  clear hWz
  gi_wp2
  exact hK _ _ (Q4 _ _) ⟨W'.heap.size,_,_,_,rfl,HWZ.o,BT.new _ _ _ _ rfl,rfl⟩
 case done=>
  intro D W' hDw hI hc hD
  have HF:Z (J (Wk xs ys).length W'):=by rw[<-Qad];exact hI.1
  have HCW:Z (Ck X noX W W'):=(Ck.nx HX0.o).trans hc
  clear hI hc
  go_wp2
  refine Y6 D _ hD (λW2 ho=>?_)
  refine⟨_,results_none rfl _ _ _,⟨_,rfl⟩,HCW.o.trans (ho.mono (λ_ x=>x.elim) (λ_ x=>x.elim)),oL (HJ.o _ _ _ HF.o (ho.mono (λ_ x=>x) (λb q=>by have:=HS0.o;omega)))⟩
 case stop=>
  intro D W' hDw hI hc hD
  have HCW:Z (Ck X noX W W'):=(Ck.nx HX0.o).trans hc
  refine wpIn_wide.2 ?_
  go_wp2
  refine Y6 D _ hD (λW2 ho=>?_)
  refine⟨_,results_none rfl _ _ _,⟨_,rfl⟩,HCW.o.trans (ho.mono (λ_ x=>x.elim) (λ_ x=>x.elim)),oR (HJX.o _ _ hI (ho.mono (λ_ x=>x) (λb q=>by have:=HS0.o;omega)))⟩
 case body=>
  rintro l' k args a' w1 hk ⟨hJ1,hBY⟩ ⟨u,rfl,hu,hlu,hcu⟩ ⟨Ba,ta,ha,u',e',hBa,hbt,rfl⟩ hc
  have e2:(Qh xs k).t=ta/\(Qh xs k).h=ha/\u=u':=by simpa using e'
  obtain⟨rfl,rfl,rfl⟩:=e2
  clear e'
  obtain⟨ua,uc,rfl,_⟩:=hu.slice
  have HU:Z (Q8 0 w1 (sL ua (Qb (Qh xs k).l).length uc) (Qb (Qh xs k).l)):=hu
  have HCU:Z (Vw (sL ua (Qb (Qh xs k).l).length uc)):=hcu
  have HLU:Z (Qhq z (w0.heap.size+2) (sL ua (Qb (Qh xs k).l).length uc)):=hlu
  have HJ1:Z (J (Xm xs ys k 0).length w1):=hJ1
  have HBY:Z (BT w1 W.heap.size #[.func (.yield l) #[] #[]] 267):=hBY
  have HBA:Z (w0.heap.size<=Ba/\BT w1 Ba #[iV (Qh xs k).t,iV (Qh xs k).h,sL ua (Qb (Qh xs k).l).length uc] 208):=⟨hBa,hbt⟩
  have HC1:Z (Ck X noX W w1):=(Ck.nx HX0.o).trans hc
  obtain⟨_,x2,hys,_⟩:=HIN.o w1 HC1.o
  obtain⟨sa,cap,rfl,hmx,hk0⟩:=hys
  unfold maxLen at hmx
  generalize hny:ys.length=ny at *
  have HNY:Z (ys.length=ny):=hny
  clear hu hlu hcu hJ1 hBa hbt hc hny hk0 hBY
  gi_wp2
  clear x2
  gi_loopw [6,11] (λp6 i wr=>∃j:Nat,j<=ny/\i=iV j/\Z (J (Xm xs ys k j).length wr)/\Z (Ck X (λb=>w0.heap.size<=b) w1 wr)) (λ_ i _=>ny-(intOf i).toNat)
  case atStart=>exact⟨0,nZ,rfl,HJ1,Ck.refl _ _ _⟩
  case round=>
   clear HJ1
   obtain⟨j,hj,rfl,HJj,HCj⟩:=hrel
   by_cases hlt:j<ny
   ·have HCW:Z (Ck X noX W wr):=HC1.o.trans (HCj.o.mono (λ_ x=>x) (λ_ x=>x.elim))
    obtain⟨_,_,hys,_⟩:=HIN.o wr HCW.o
    obtain⟨sa',cap',hse,_,hk0⟩:=hys
    obtain⟨b,off,rfl,_,hb,hcs⟩:=hk0 (by rw[HNY.o];omega)
    simp only[zC] at hse
    obtain⟨rfl,hzz,rfl⟩:=hse
    clear hzz
    obtain⟨u2,z0,z1,z2,hu2,hl2,hc2⟩:=hcs j (by rw[HNY.o];exact hlt)
    obtain⟨u2a,u2c,rfl,_⟩:=hu2.slice
    have HU2:Z (Q8 0 wr (sL u2a (Qb (Qh ys j).l).length u2c) (Qb (Qh ys j).l)):=hu2
    have HC2:Z (Vw (sL u2a (Qb (Qh ys j).l).length u2c)):=hc2
    have nXW:∀b,W.heap.size<=b->¬X b:=λb q x=>by have:=(HX.o _ x).2;omega
    have HUr:Z (Q8 0 wr (sL ua (Qb (Qh xs k).l).length uc) (Qb (Qh xs k).l)):=HU.o.ckX HCj.o (λg hg x=>by have h1:=HX.o _ x;have h2:=HS0.o;rcases HLU.o g hg with q|q<;>omega)
    have HBAr:Z (BT wr Ba #[iV (Qh xs k).t,iV (Qh xs k).h,sL ua (Qb (Qh xs k).l).length uc] 208):=HBA.o.2.ck HCj.o (nXW _ (by have:=HBA.o.1;have:=HS0.o;omega))
    have HBYr:Z (BT wr W.heap.size #[.func (.yield l) #[] #[]] 267):=HBY.o.ck HCj.o (nXW _ lR)
    have hlt':(j:Int)<ny:=by omega
    clear hcs hk0 hu2 hl2 hc2
    gi_wp2
    generalize hW5:wr.alloc (.cells #[iV (Qh ys j).t,iV (Qh ys j).h,sL u2a (Qb (Qh ys j).l).length u2c] 208)=w5
    have HX5:Z (Nx wr w5):=by rw[<-hW5];exact Q4 _ _
    have HB5:Z (BT w5 wr.heap.size #[iV (Qh ys j).t,iV (Qh ys j).h,sL u2a (Qb (Qh ys j).l).length u2c] 208):=by rw[<-hW5];exact BT.new _ _ _ _ rfl
    have a5:=(HBAr.o.next HX5.o)
    have HSS:Z ((λq=>q.cell? (aD Ba 0)=some (iV (Qh xs k).t)/\q.cell? (aD Ba 1)=some (iV (Qh xs k).h)/\q.cell? (aD Ba 2)=some (sL ua (Qb (Qh xs k).l).length uc)/\q.cell? (aD wr.heap.size 0)=some (iV (Qh ys j).t)/\q.cell? (aD wr.heap.size 1)=some (iV (Qh ys j).h)/\q.cell? (aD wr.heap.size 2)=some (sL u2a (Qb (Qh ys j).l).length u2c)/\q.cell? (aD W.heap.size 0)=some (.func (.yield l) #[] #[])) w5.drew):=⟨a5.c 0 rfl,a5.c 1 rfl,a5.c 2 rfl,HB5.o.c 0 rfl,HB5.o.c 1 rfl,HB5.o.c 2 rfl,(HBYr.o.next HX5.o).c 0 rfl⟩
    have hmx2:prog.follows .mixedOrders=true:=by kernel_rfl
    have HXD:Z (Nx wr w5.drew):=HX5.o.trans (show Nx w5 w5.drew from(Below.refl _ _).drew)
    clear hW5 a5 z0 z1 z2
    by_cases heq:(Qh xs k).h=(Qh ys j).t
    ·have hbq:((Qh xs k).h==(Qh ys j).t)=true:=by simp[heq]
     have HEQ:Z ((Qh xs k).h=(Qh ys j).t):=heq
     clear heq
     refine Qj (c:=18) (S:=λq=>q.cell? (aD Ba 0)=some (iV (Qh xs k).t)/\q.cell? (aD Ba 1)=some (iV (Qh xs k).h)/\q.cell? (aD Ba 2)=some (sL ua (Qb (Qh xs k).l).length uc)/\q.cell? (aD wr.heap.size 0)=some (iV (Qh ys j).t)/\q.cell? (aD wr.heap.size 1)=some (iV (Qh ys j).h)/\q.cell? (aD wr.heap.size 2)=some (sL u2a (Qb (Qh ys j).l).length u2c)/\q.cell? (aD W.heap.size 0)=some (.func (.yield l) #[] #[])) hmx2 (by kernel_rfl) (λhw hcl=>?_)
     refine tq (i:=0) (v:=.pointer (some (aD Ba 1))) (λhcl=>?_)
     refine tq (i:=1) (v:=iV (Qh xs k).h) (λhcl=>?_)
     refine tq (i:=2) (v:=pT wr.heap.size) (λhcl=>?_)
     refine tq (i:=3) (v:=iV (Qh ys j).t) (λhcl=>?_)
     refine tq (i:=4) (v:=.bool true) (λhcl=>?_)
     refine tq (i:=5) (v:=.bool true) (λhcl=>?_)
     refine tq (i:=6) (v:=.func (.yield l) #[] #[]) (λhcl=>?_)
     refine tq (i:=7) (v:=pT Ba) (λhcl=>?_)
     refine tq (i:=8) (v:=iV (Qh xs k).t) (λhcl=>?_)
     refine tq (i:=9) (v:=.pointer (some (aD wr.heap.size 1))) (λhcl=>?_)
     refine tq (i:=10) (v:=iV (Qh ys j).h) (λhcl=>?_)
     refine tq (i:=11) (v:=.pointer (some (aD Ba 2))) (λhcl=>?_)
     refine tq (i:=12) (v:=sL ua (Qb (Qh xs k).l).length uc) (λhcl=>?_)
     refine tq (i:=13) (v:=.pointer (some (aD wr.heap.size 2))) (λhcl=>?_)
     refine tq (i:=14) (v:=sL u2a (Qb (Qh ys j).l).length u2c) (λhcl=>?_)
     refine Q5s (a':=⟨#[.func (.yield l) #[] #[],pT bf,pT bn,pT W.heap.size,pT Ba,undef,pT wr.heap.size,.func (.func gf) #[] lb,.agg #[iV (Qh xs k).t,iV (Qh xs k).h,sL ua (Qb (Qh xs k).l).length uc],sL (some (aD b off)) ny cap,.int .i64 ny,iV j,.bool true,.pointer (some (aD b (off+j*3))),.agg #[iV (Qh ys j).t,iV (Qh ys j).h,sL u2a (Qb (Qh ys j).l).length u2c],.pointer (some (aD Ba 1)),iV (Qh xs k).h,pT wr.heap.size,iV (Qh ys j).t,.bool true,.bool true,.func (.yield l) #[] #[],pT Ba,iV (Qh xs k).t,.pointer (some (aD wr.heap.size 1)),iV (Qh ys j).h,.pointer (some (aD Ba 2)),sL ua (Qb (Qh xs k).l).length uc,.pointer (some (aD wr.heap.size 2)),sL u2a (Qb (Qh ys j).l).length u2c,u30,u31,u32,u33,u34,u35,u36],[]⟩) (by kernel_rfl) ?_
     refine W5 (i:=15) (by kernel_rfl) rfl (by kernel_rfl) (λK hK=>?_)
     go_simp
     generalize hW6:(w5.alloc (.cells #[sL ua (Qb (Qh xs k).l).length uc,sL u2a (Qb (Qh ys j).l).length u2c] 22)).drew=w6 at *
     have HX56:Z (Nx w5 w6):=by rw[<-hW6];exact(Q4 _ _).drew
     have HX6:Z (Nx wr w6):=HX5.o.trans HX56.o
     have HZ6:Z (wr.heap.size<w6.heap.size):=zK HB5.o.lt HX56.o.size
     have HWD:Z (J7 0 w6 (sL (sA w5.heap.size) 2 2) [Qb (Qh xs k).l,Qb (Qh ys j).l]):=Qgh (t:=22) (by rw[<-hW6];exact BT.new w5 _ _ _ rfl) (HUr.o.next HX6.o) HCU.o (HU2.o.next HX6.o) HC2.o
     have HSN:Z (∀q,Nx w5 q->(λq=>q.cell? (aD Ba 0)=some (iV (Qh xs k).t)/\q.cell? (aD Ba 1)=some (iV (Qh xs k).h)/\q.cell? (aD Ba 2)=some (sL ua (Qb (Qh xs k).l).length uc)/\q.cell? (aD wr.heap.size 0)=some (iV (Qh ys j).t)/\q.cell? (aD wr.heap.size 1)=some (iV (Qh ys j).h)/\q.cell? (aD wr.heap.size 2)=some (sL u2a (Qb (Qh ys j).l).length u2c)/\q.cell? (aD W.heap.size 0)=some (.func (.yield l) #[] #[])) q):=λq hq=>by
      obtain⟨c1,c2,c3,c4,c5,c6,c7⟩:=HSS.o
      exact⟨Q1 hq c1,Q1 hq c2,Q1 hq c3,Q1 hq c4,Q1 hq c5,Q1 hq c6,Q1 hq c7⟩
     refine hK _ _ ⟨oR (HSN.o _ HX56.o),?_⟩
     clear hK K hW6
     refine W5 (i:=16) (by kernel_rfl) rfl (by kernel_rfl) (λK hK=>?_)
     go_simp
     obtain⟨l1,l2⟩:=HLEN.o k j hk hlt
     refine⟨trivial,(callsIn_wide.2 (Kc 0 _ _ w6 HWD.o (by simpa using l1) (by simpa using l2) (by simp))).mono ?_⟩
     rintro e w7 ⟨⟨u7,rfl,hu7⟩,hx7⟩
     have HX67:Z (Nx w6 w7):=hx7
     have HU7:Z (Qd w6.heap.size w7 u7 (Qb ((Qh xs k).l++(Qh ys j).l))):=by
      unfold Z
      rw[Q44]
      simpa using hu7
     obtain⟨a7,c7,rfl⟩:=Q7 HU7.o
     clear hu7 hx7 l1 l2
     generalize hn7:(Qb ((Qh xs k).l++(Qh ys j).l)).length=n7 at *
     have HN7:Z ((Qb ((Qh xs k).l++(Qh ys j).l)).length=n7):=hn7
     clear hn7
     refine hK _ _ ⟨oR (HSN.o _ (HX56.o.trans HX67.o)),?_⟩
     clear hK K
     refine W5 (i:=17) (by kernel_rfl) rfl (by kernel_rfl) (λK hK=>?_)
     go_simp
     refine hK _ _ ⟨oR (HSN.o _ (HX56.o.trans HX67.o)),?_⟩
     clear hK K
     have HNXT:=Q6v hk (show j<ys.length by rw[HNY.o];exact hlt) HEQ.o
     have HX7:Z (Nx wr w7):=HX6.o.trans HX67.o
     have HCW7:Z (Ck X noX W w7):=HCW.o.trans (Ck.nx HX7.o)
     obtain⟨fn,tmps,assign,body,hy,hR⟩:=HY.o (Xm xs ys k j).length #[.agg #[iV (Qh xs k).t,iV (Qh ys j).h,sL a7 n7 c7]] w7 HNXT.1 (HJ.o _ _ _ HJj.o (Ck.nx HX7.o)) HCW7.o ⟨_,by rw[HNXT.2];rfl,by rw[HNXT.2];exact(Qd.base HU7.o nZ).held,λg hg=>oR (zP HCW.o.size (zP HX6.o.size (Q5 HU7.o g hg).1)),HU7.o.capOk⟩
     have HR:Z (RoundIn Fence.wide m prog l fn tmps assign body w7 _):=hR
     clear hR HNXT
     refine W5 (i:=18) (by kernel_rfl) rfl (by kernel_rfl) (λK hK=>?_)
     go_simp
     refine RoundIn.mono HR.o ?_
     rintro e w8 ⟨hc8,hh8⟩
     have HC8:Z (Ck X (λb=>w0.heap.size<=b) w1 w8):=(HCj.o.trans (Ck.nx HX7.o)).trans (hc8.mono (λ_ x=>x) (λb q=>by have:=HS0.o;omega))
     clear hc8
     rcases hh8 with⟨rfl,hj8⟩|⟨rfl,hj8⟩
     ·have HJ8:Z (J (Xm xs ys k (j+1)).length w8):=by unfold Z;rw[Q1c (by rw[HNY.o];exact hlt) HEQ.o,zA];exact hj8
      clear hj8
      refine hK _ _ ⟨oL lR,?_⟩
      clear hK K hy
      refine W5 (i:=19) (by kernel_rfl) rfl (by kernel_rfl) (λK hK=>?_)
      go_simp
      refine hK _ _ ⟨oL (by decide),?_⟩
      clear hK K
      refine W5 (i:=20) (by kernel_rfl) rfl (by kernel_rfl) (λK hK=>?_)
      go_simp
      refine hK _ _ ⟨oL (by decide),?_⟩
      clear hK K
      refine Qm (by kernel_rfl) ?_ _
      clear hw hcl HSS HSN
      gi_wp2
      go_roundw
      case rel=>exact⟨j+1,by omega,by go_num,HJ8,HC8⟩
      case measure=>simp[intOf];omega
     ·have HJ8:Z (Jx w8):=hj8
      clear hj8
      refine hK _ _ ⟨oL lR,?_⟩
      clear hK K hy
      refine W5 (i:=19) (by kernel_rfl) rfl (by kernel_rfl) (λK hK=>?_)
      go_simp
      refine hK _ _ ⟨oL (by decide),?_⟩
      clear hK K
      refine W5 (i:=20) (by kernel_rfl) rfl (by kernel_rfl) (λK hK=>?_)
      go_simp
      refine hK _ _ ⟨oL (by decide),?_⟩
      clear hK K
      refine Qm (by kernel_rfl) ?_ _
      clear hw hcl HSS HSN
      gi_wp2
      exact⟨HC8.o,HJ8.o⟩
    ·have hbq:((Qh xs k).h==(Qh ys j).t)=false:=by simp[heq]
     refine Qj (c:=21) (S:=λq=>q.cell? (aD Ba 0)=some (iV (Qh xs k).t)/\q.cell? (aD Ba 1)=some (iV (Qh xs k).h)/\q.cell? (aD Ba 2)=some (sL ua (Qb (Qh xs k).l).length uc)/\q.cell? (aD wr.heap.size 0)=some (iV (Qh ys j).t)/\q.cell? (aD wr.heap.size 1)=some (iV (Qh ys j).h)/\q.cell? (aD wr.heap.size 2)=some (sL u2a (Qb (Qh ys j).l).length u2c)/\q.cell? (aD W.heap.size 0)=some (.func (.yield l) #[] #[])) hmx2 (by kernel_rfl) (λhw hcl=>?_)
     refine tq (i:=0) (v:=.pointer (some (aD Ba 1))) (λhcl=>?_)
     refine tq (i:=1) (v:=iV (Qh xs k).h) (λhcl=>?_)
     refine tq (i:=2) (v:=pT wr.heap.size) (λhcl=>?_)
     refine tq (i:=3) (v:=iV (Qh ys j).t) (λhcl=>?_)
     refine tq (i:=4) (v:=.bool false) (λhcl=>?_)
     refine tq (i:=5) (v:=.bool false) (λhcl=>?_)
     refine Qf (i:=6) (v:=undef) hw (by decide) hcl (noDefer_round (by kernel_rfl)) rfl (by kernel_rfl) (by kernel_rfl) (by kernel_rfl) (λ_ _ _ h=>h) ⟨oR ⟨by kernel_rfl,rfl⟩,λ_=>rfl⟩ HSS.o (λhcl=>?_)
     refine Qf (i:=7) (v:=undef) hw (by decide) hcl (noDefer_round (by kernel_rfl)) rfl (by kernel_rfl) (by kernel_rfl) (by kernel_rfl) (λ_ _ _ h=>h) ⟨oR ⟨by kernel_rfl,rfl⟩,λ_=>rfl⟩ HSS.o (λhcl=>?_)
     refine Qf (i:=8) (v:=undef) hw (by decide) hcl (noDefer_round (by kernel_rfl)) rfl (by kernel_rfl) (by kernel_rfl) (by kernel_rfl) (λ_ _ _ h=>h) ⟨oR ⟨by kernel_rfl,rfl⟩,λ_=>rfl⟩ HSS.o (λhcl=>?_)
     refine Qf (i:=9) (v:=undef) hw (by decide) hcl (noDefer_round (by kernel_rfl)) rfl (by kernel_rfl) (by kernel_rfl) (by kernel_rfl) (λ_ _ _ h=>h) ⟨oR ⟨by kernel_rfl,rfl⟩,λ_=>rfl⟩ HSS.o (λhcl=>?_)
     refine Qf (i:=10) (v:=undef) hw (by decide) hcl (noDefer_round (by kernel_rfl)) rfl (by kernel_rfl) (by kernel_rfl) (by kernel_rfl) (λ_ _ _ h=>h) ⟨oR ⟨by kernel_rfl,rfl⟩,λ_=>rfl⟩ HSS.o (λhcl=>?_)
     refine Qf (i:=11) (v:=undef) hw (by decide) hcl (noDefer_round (by kernel_rfl)) rfl (by kernel_rfl) (by kernel_rfl) (by kernel_rfl) (λ_ _ _ h=>h) ⟨oR ⟨by kernel_rfl,rfl⟩,λ_=>rfl⟩ HSS.o (λhcl=>?_)
     refine Qf (i:=12) (v:=undef) hw (by decide) hcl (noDefer_round (by kernel_rfl)) rfl (by kernel_rfl) (by kernel_rfl) (by kernel_rfl) (λ_ _ _ h=>h) ⟨oR ⟨by kernel_rfl,rfl⟩,λ_=>rfl⟩ HSS.o (λhcl=>?_)
     refine Qf (i:=13) (v:=undef) hw (by decide) hcl (noDefer_round (by kernel_rfl)) rfl (by kernel_rfl) (by kernel_rfl) (by kernel_rfl) (λ_ _ _ h=>h) ⟨oR ⟨by kernel_rfl,rfl⟩,λ_=>rfl⟩ HSS.o (λhcl=>?_)
     refine Qf (i:=14) (v:=undef) hw (by decide) hcl (noDefer_round (by kernel_rfl)) rfl (by kernel_rfl) (by kernel_rfl) (by kernel_rfl) (λ_ _ _ h=>h) ⟨oR ⟨by kernel_rfl,rfl⟩,λ_=>rfl⟩ HSS.o (λhcl=>?_)
     refine Qf (i:=15) (v:=undef) hw (by decide) hcl (noDefer_round (by kernel_rfl)) rfl (by kernel_rfl) (by kernel_rfl) (by kernel_rfl) (λ_ _ _ h=>h) ⟨oR ⟨by kernel_rfl,rfl⟩,λ_=>rfl⟩ HSS.o (λhcl=>?_)
     refine Q1l (i:=16) (by kernel_rfl) rfl (by kernel_rfl) (λ_ _=>trivial) (oR HSS.o) hcl (λhcl=>?_)
     refine Qf (i:=17) (v:=undef) hw (by decide) hcl (noDefer_round (by kernel_rfl)) rfl (by kernel_rfl) (by kernel_rfl) (by kernel_rfl) (λ_ _ _ h=>h) ⟨oR ⟨by kernel_rfl,rfl⟩,λ_=>rfl⟩ HSS.o (λhcl=>?_)
     refine Q1l (i:=18) (by kernel_rfl) rfl (by kernel_rfl) (λ_ _=>trivial) (oR HSS.o) hcl (λhcl=>?_)
     refine Qf (i:=19) (v:=undef) hw (by decide) hcl (noDefer_round (by kernel_rfl)) rfl (by kernel_rfl) (by kernel_rfl) (by kernel_rfl) (λ_ _ _ h=>h) ⟨oR ⟨by kernel_rfl,rfl⟩,λ_=>rfl⟩ HSS.o (λhcl=>?_)
     refine Qf (i:=20) (v:=.bool false) hw (by decide) hcl (noDefer_round (by kernel_rfl)) rfl (by kernel_rfl) (by kernel_rfl) (by kernel_rfl) (λ_ _ _ h=>h) ⟨oL ⟨by kernel_rfl,?y20⟩,λ_=>rfl⟩ HSS.o (λhcl=>?_)
     case y20=>
      rintro q ⟨c1,c2,c3,c4,c5,c6,c7⟩
      kernel_rfl
     refine Q5s (a':=⟨#[.func (.yield l) #[] #[],pT bf,pT bn,pT W.heap.size,pT Ba,undef,pT wr.heap.size,.func (.func gf) #[] lb,.agg #[iV (Qh xs k).t,iV (Qh xs k).h,sL ua (Qb (Qh xs k).l).length uc],sL (some (aD b off)) ny cap,.int .i64 ny,iV j,.bool true,.pointer (some (aD b (off+j*3))),.agg #[iV (Qh ys j).t,iV (Qh ys j).h,sL u2a (Qb (Qh ys j).l).length u2c],.pointer (some (aD Ba 1)),iV (Qh xs k).h,pT wr.heap.size,iV (Qh ys j).t,.bool false,.bool false,undef,undef,undef,undef,undef,undef,undef,undef,undef,undef,undef,undef,undef,undef,.bool false,u36],[]⟩) (by kernel_rfl) ?_
     refine Qm (by kernel_rfl) ?_ _
     clear hw hcl HSS
     have HJn:Z (J (Xm xs ys k (j+1)).length w5.drew):=by unfold Z;rw[Qd9 (by rw[HNY.o];exact hlt) heq];exact HJ.o _ _ _ HJj.o (Ck.nx HXD.o)
     have HCn:Z (Ck X (λb=>w0.heap.size<=b) w1 w5.drew):=HCj.o.trans (Ck.nx HXD.o)
     gi_wp2
     go_roundw
     case rel=>exact⟨j+1,by omega,by go_num,HJn,HCn⟩
     case measure=>simp[intOf];omega
   ·have ej:j=ny:=by omega
    subst ej
    gi_wp2
    refine⟨HCj.o,?_,?_⟩
    ·show J (Xm xs ys (k+1) 0).length wr
     rw[<-Q6w hk,HNY.o]
     exact HJj.o
    ·exact HBY.o.ck HCj.o (λx=>by have:=(HX.o _ x).2;omega)
theorem Qgs {K:Nat->Prop}{A B:World}{mb n:Nat}{ks:DataW Unit}(h:A.ownsMap prog 2 Zh mb n ks)(k:Ck noX K A B):B.ownsMap prog 2 Zh mb n ks:=by
 obtain⟨es,clock,h1,r⟩:=h
 exact⟨es,clock,k.block mb _ h1 id (oR rfl),r⟩
theorem Wa.ck {K:Nat->Prop}{C D:Nat}{A B:World}{v:Value}{es:List Eg}{ls:List (List Nat)}(h:Wa C D A v es ls)(k:Ck noX K A B):Wa C D B v es ls:=by
 obtain⟨us,hl,hr,hi⟩:=h
 exact⟨us,hl,Px hr k (λ_ _=>id),λi hlt=>Px (hi i hlt) k (λ_ _=>id)⟩
theorem LR.ck {K:Nat->Prop}{C:Nat}{N:Nt}{es:List Eg}{kw me mr ma tk:Nat}{A B:World}{L:Lk}(h:LR C N es kw me mr ma tk A L)(c:Ck noX K A B):LR C N es kw me mr ma tk B L:=
 ⟨h.road.ck c id,h.cr,h.cm,h.cw,h.ce,Qgs h.map c,λi hi=>(h.way i hi).ck c id,λi hi=>Px (h.row i hi) c (λ_ _=>id),Px h.all c (λ_ _=>id),λe he=>(h.edge e he).ck c id,h.apart,h.apartE,λi hi=>(h.trav i hi).ck c,h.bare⟩
def Xq (es:List Eg)(l:List Nat):Sx:=⟨tlL es l,hdL es l,l⟩
theorem Q3i {es:List Eg}{ls:List (List Nat)}{i:Nat}(hi:i<ls.length):Qh (ls.map (Xq es)) i=Xq es (Jd ls i):=by
 simp[Qh,Jd,List.getD_eq_getElem?_getD,hi]
theorem Wa.stx {C D:Nat}{w:World}{v:Value}{es:List Eg}{ls:List (List Nat)}(h:Wa C D w v es ls):Td w.heap.size w v (ls.map (Xq es)):=by
 obtain⟨us,hl,hr,hi⟩:=h
 obtain⟨h1,h2⟩:=hr
 rcases h2 with⟨rfl,h3⟩|⟨g,cap,cur,hv,hg,hh,hc,hm,hs,ht⟩
 ·exact⟨none,0,by simp[h3],by simp[h3],λhp=>by simp[h3] at hp⟩
 ·refine⟨some (aD g 0),cap,by simpa using hv,by simp;omega,λ_=>⟨g,0,rfl,nZ,(Array.getElem?_eq_some_iff.1 hh).1,λi hlt=>?_⟩⟩
  have hlt':i<ls.length:=by simpa using hlt
  have hz:(ls.zip us)[i]?=some (Jd ls i,vat us i):=by
   rw[List.getElem?_zip_eq_some]
   exact⟨by simp[Jd,List.getD_eq_getElem?_getD,hlt'],by simp[vat,List.getD,List.getElem?_eq_getElem (show i<us.length by omega)]⟩
  have key:∀q,q<3->w.cell? (aD g (0+i*3+q))=(stc es (Jd ls i,vat us i))[q]?:=λq hq=>by
   have e1:(cur.toList.take (ls.length*3))[i*3+q]?=((ls.zip us).flatMap (stc es))[i*3+q]?:=by rw[ht]
   rw[zT (by omega),zQ] at e1
   rw[Qgc (ls.zip us) (stc es) (λ_=>rfl) i q hq _ hz] at e1
   have hlt:i*3+q<cur.size:=by omega
   rw[Nat.zero_add]
   simp only[World.cell?,hh,e1]
   rfl
  simp only[]
  rw[Q3i hlt']
  have ho:=hi i hlt'
  exact⟨vat us i,key 0 (by omega),key 1 (by omega),key 2 (by omega),(Qd.base ho nZ).held,λg hg=>(Q5 ho g hg).2,ho.capOk⟩
theorem Td.ckX {X K:Nat->Prop}{z:Nat}{A B:World}{v:Value}{xs:List Sx}(h:Td z A v xs)(c:Ck X K A B)(hx:∀b,X b->z<=b)(hv:∀g,v.ownBlock=some g->¬X g):Td z B v xs:=by
 obtain⟨a,cap,rfl,hm,hk⟩:=h
 refine⟨a,cap,rfl,hm,λhp=>?_⟩
 obtain⟨b,off,rfl,h0,hb,hc⟩:=hk hp
 have nb:¬X b:=hv b rfl
 refine⟨b,off,rfl,h0,zK hb c.size,λi hi=>?_⟩
 obtain⟨u,z0,z1,z2,hu,hl,hcp⟩:=hc i hi
 exact⟨u,Ib c nb z0,Ib c nb z1,Ib c nb z2,hu.ckX c (λg hg x=>by have:=hx g x;have:=hl g hg;omega),hl,hcp⟩
theorem Td.ck {K:Nat->Prop}{z:Nat}{A B:World}{v:Value}{xs:List Sx}(h:Td z A v xs)(c:Ck noX K A B):Td z B v xs:=h.ckX c (λ_ x=>x.elim) (λ_ _=>id)
def Fd (z c:Nat)(M:List Sx)(fv:Value)(w:World):Prop:=∃gf lb Inv,fv=.func (.func gf) #[] lb/\Ik prog gf lb (PyS z M) z M.length Inv/\(∀args w,(callFunc gf args).run prog w=.ok (.enter gf args) w)/\∀(X:Nat->Prop) B,(∀b,X b->z<=b/\b<c)->Ck X noX w B->Inv B
theorem Fd.values {z c:Nat}{M:List Sx}{a:Option Addr}{n cp:Nat}{w:World}(h:Td z w (sL a n cp) M)(hv:∀g,(sL a n cp).ownBlock=some g->g<z\/c<=g)(hc:c<=w.heap.size) :
  Fd z c M (.func (.func 173) #[] #[pT w.heap.size]) (w.alloc (.cells #[sL a n cp] 140)):=by
 refine⟨_,_,Qdu z w.heap.size (sL a n cp) M,rfl,Q1p z w.heap.size _ M,λ_ _=>rfl,λX B hX hk=>⟨?_,?_⟩⟩
 ·exact((BT.new w #[sL a n cp] 140 _ rfl).ck hk (λx=>by have:=(hX _ x).2;omega)).c 0 rfl
 ·exact h.ckX ((Ck.nx (Q4 _ _)).trans hk) (λb x=>(hX b x).1) (λg hg x=>by have:=hX g x;rcases hv g hg with q|q<;>omega)
theorem Ae (gf:Nat)(lb:Array Value)(a:Option Addr)(n c:Nat)(w:World) :
  Calls prog 155 #[.func (.func gf) #[] lb,sL a n c] w λe w'=>e=.returned (.func (.func 174) #[] #[pT w.heap.size,pT (w.heap.size+1)])/\w'=(w.alloc (.cells #[.func (.func gf) #[] lb] 228)).alloc (.cells #[sL a n c] 140):=by
 have hmf:∀(fn:Fn) (first cap:Array Value) (w:World),(Instr.makeFunc fn first cap).run prog w=.ok (.func fn first cap) w:=λ_ _ _ _=>rfl
 go_enter func155,ntmps155
 go_wp2
 go_ret
 exact⟨rfl,rfl⟩
theorem Fd.ext {z c:Nat}{M ys:List Sx}{gf:Nat}{lb:Array Value}{a:Option Addr}{n cp:Nat}{w:World}(h0:Fd z c M (.func (.func gf) #[] lb) w)(hLen:∀k j,k<M.length->j<ys.length->0<(Qb (Qh M k).l++Qb (Qh ys j).l).length/\(Qb (Qh M k).l++Qb (Qh ys j).l).length<=1000000)
  (h:Td z w (sL a n cp) ys) (hv:∀g,(sL a n cp).ownBlock=some g->g<z\/c<=g) (hc:c<=w.heap.size) :
  Fd z c (Wk M ys) (.func (.func 174) #[] #[pT w.heap.size,pT (w.heap.size+1)]) ((w.alloc (.cells #[.func (.func gf) #[] lb] 228)).alloc (.cells #[sL a n cp] 140)):=by
 obtain⟨gf',lb',InvB,e,h1,h2,h3⟩:=h0
 simp only[Value.func.injEq,Fn.func.injEq,true_and] at e
 obtain⟨rfl,rfl⟩:=e
 refine⟨_,_,Qhr z w.heap.size (w.heap.size+1) gf lb (sL a n cp) ys InvB,rfl,λX l m J Jx W hX hInv hJ hJx hY h0=>Q6u z _ _ gf lb _ M ys hLen InvB h1 h2 X l m J Jx W hX hInv hJ hJx hY h0,λ_ _=>rfl,λX B hX hk=>?_⟩
 have nx:∀b,c<=b->¬X b:=λb q x=>by have:=(hX _ x).2;omega
 have hk':Ck X noX w B:=((Ck.nx (Q4 _ _)).trans (Ck.nx (Q4 _ _))).trans hk
 refine⟨?_,?_,?_,h3 X B hX hk'⟩
 ·exact(((BT.new w #[.func (.func gf) #[] lb] 228 _ rfl).alloc _).ck hk (nx _ hc)).c 0 rfl
 ·exact((BT.new (w.alloc (.cells #[.func (.func gf) #[] lb] 228)) #[sL a n cp] 140 _ (by simp)).ck hk (nx _ (by omega))).c 0 rfl
 ·exact h.ckX hk' (λb x=>(hX b x).1) (λg hg x=>by have:=hX g x;rcases hv g hg with q|q<;>omega)
theorem Ti {p:Prop}(h:p):Z p:=h
theorem Qff {es:List Eg}{A B:List (List Nat)}(hA:∀l∈A,l≠[])(hB:∀p∈B,p≠[]):Wk (A.map (Xq es)) (B.map (Xq es))=(Qy es A B).map (Xq es):=by
 unfold Wk Qy
 rw[List.flatMap_map,List.map_flatMap]
 refine Ys (λl hl=>?_)
 unfold Tl
 rw[List.filter_map,List.map_map,List.map_map]
 refine List.map_congr_left (λp hp=>?_)
 have hp':p∈B:=(List.mem_filter.1 hp).1
 simp only[Function.comp,Q8f,Xq]
 rw[Q7p es (hA l hl),Q2h es (hB p hp')]
def T1 (N:Nt)(r:Rl):Nat->List (List Nat)
 |0=>Jm N (E1 N) (wpos N.ways (iat r.ways 0))
 |k+1=>Qy (E1 N) (T1 N r k) (Jm N (E1 N) (wpos N.ways (iat r.ways (k+1))))
def Jt (N:Nt)(r:Rl):List Sx:=if r.via then [⟨pos N.nodes r.node,pos N.nodes r.node,[]⟩] else (T1 N r (r.ways.length-1)).map (Xq (E1 N))
structure Ke (N:Nt)(r:Rl):Prop where
 frm:Ju N.ways r.frm=true
 dst:Ju N.ways r.to=true
 node:r.via=true->Vs N.nodes r.node=true
 one:r.via=false->1<=r.ways.length/\r.ways.length<=4
 ways:r.via=false->∀k,k<r.ways.length->Ju N.ways (iat r.ways k)=true
theorem Qg6 {N:Nt}{r:Rl}(h:J8 N r=true):Ke N r:=by
 simp only[J8,zH] at h
 obtain⟨_,hf,ht,hT⟩:=h
 unfold J3 at hT
 refine⟨hf,ht,λe=>?_,λe=>?_,λe k hk=>?_⟩
 ·rw[if_pos e] at hT
  simp only[zH] at hT
  exact hT.2
 ·rw[if_neg (by simp[e])] at hT
  simp only[zH,decide_eq_true_eq] at hT
  exact⟨hT.2.1,hT.2.2.1⟩
 ·rw[if_neg (by simp[e])] at hT
  simp only[zH,decide_eq_true_eq] at hT
  exact Yj hT.2.2.2 hk
theorem Gu {N:Nt}(hv:Qe N=true):(E1 N).length<=4000:=Ar (Jz hv)
theorem Uf {N:Nt}{r:Rl}(hv:Qe N=true)(hg:Ke N r)(hvia:r.via=false):∀k,k<r.ways.length->∀l∈T1 N r k,U3 (E1 N).length l/\l.length<=4000*(k+1)
 |0,hk=>by
  have hw:=Xu (hg.ways hvia 0 hk)
  have he:=Z3 (Jz hv) (Yv hv) hw
  intro l hl
  exact Zr (Gu hv) he.1 he.2 l hl
 |k+1,hk=>by
  have hw:=Xu (hg.ways hvia (k+1) hk)
  have he:=Z3 (Jz hv) (Yv hv) hw
  have hl4:=(hg.one hvia).2
  intro l hl
  exact A8 (Uf hv hg hvia k (by omega)) (Zr (Gu hv) he.1 he.2) (by omega) l hl
theorem Q67 {es:List Eg}{A:List (List Nat)}{k:Nat}(hk:k<(A.map (Xq es)).length):∃l∈A,Qh (A.map (Xq es)) k=Xq es l:=by
 have hk':k<A.length:=by simpa using hk
 exact⟨Jd A k,by simp[Jd,List.getD_eq_getElem?_getD,hk'],Q3i hk'⟩
theorem Q85 {N:Nt}{r:Rl}(hv:Qe N=true)(hg:Ke N r)(hvia:r.via=false){k:Nat}(hk:k+1<r.ways.length):∀a c,a<((T1 N r k).map (Xq (E1 N))).length->c<((Jm N (E1 N) (wpos N.ways (iat r.ways (k+1)))).map (Xq (E1 N))).length->0<(Qb (Qh ((T1 N r k).map (Xq (E1 N))) a).l++Qb (Qh ((Jm N (E1 N) (wpos N.ways (iat r.ways (k+1)))).map (Xq (E1 N))) c).l).length/\(Qb (Qh ((T1 N r k).map (Xq (E1 N))) a).l++Qb (Qh ((Jm N (E1 N) (wpos N.ways (iat r.ways (k+1)))).map (Xq (E1 N))) c).l).length<=1000000:=by
 intro a c ha hc
 obtain⟨l,hl,el⟩:=Q67 ha
 obtain⟨p,hp,ep⟩:=Q67 hc
 have h1:=Uf hv hg hvia k (by omega) l hl
 have he:=Z3 (Jz hv) (Yv hv) (Xu (hg.ways hvia (k+1) hk))
 have h2:=Zr (Gu hv) he.1 he.2 p hp
 have h4:=(hg.one hvia).2
 have hl0:0<l.length:=List.length_pos_iff.2 h1.1.1
 rw[el,ep]
 simp only[Xq,zA,J6]
 omega
theorem Q86 {N:Nt}{r:Rl}(hv:Qe N=true)(hg:Ke N r)(hvia:r.via=false){k:Nat}(hk:k+1<r.ways.length):(T1 N r (k+1)).map (Xq (E1 N))=Wk ((T1 N r k).map (Xq (E1 N))) ((Jm N (E1 N) (wpos N.ways (iat r.ways (k+1)))).map (Xq (E1 N))):=by
 have he:=Z3 (Jz hv) (Yv hv) (Xu (hg.ways hvia (k+1) hk))
 rw[Qff (λl hl=>(Uf hv hg hvia k (by omega) l hl).1.1) (λp hp=>(Zr (Gu hv) he.1 he.2 p hp).1.1)]
 rfl
theorem LR.ways {C:Nat}{N:Nt}{w:World}{L:Lk}{m:Nat}(h:LR C N (E1 N) N.ways.length m m m N.ways.length w L)(hv:Qe N=true)(hm:m=(E1 N).length){id:Int}(hid:Ju N.ways id=true) :
  (Instr.lookup 135 (.map (some L.bm)) (iV id) false).run prog w=.ok (pT (L.wb (wpos N.ways id))) w/\Td w.heap.size w (L.ts (wpos N.ways id)) ((Jm N (E1 N) (wpos N.ways id)).map (Xq (E1 N))):=by
 subst hm
 have hp:=Xu hid
 have hk:=Q89 hv
 have hi:=Q7j hid
 refine⟨?_,?_⟩
 ·have:=Fx (N:=N) (wb:=L.wb) hp (hk.inj lR)
  rw[hi] at this
  exact Jp h.map (by rw[<-hi];exact hk.wf _ hp) this
 ·rw[<-Q9c hv hp]
  exact(h.trav _ hp).stx
theorem Wa.lt {C D:Nat}{w:World}{v:Value}{es:List Eg}{ls:List (List Nat)}(h:Wa C D w v es ls):∀g,v.ownBlock=some g->g<w.heap.size:=λg hg=>by
 obtain⟨us,_,hr,_⟩:=h
 exact(Q5 hr g hg).2
theorem Td.next {z:Nat}{A B:World}{v:Value}{xs:List Sx}(h:Td z A v xs)(k:Nx A B):Td z B v xs:=h.ck (Ck.nx (K:=noX) k)
theorem Qet {z g t:Nat}{w:World}{x:Int}(h:BT w g #[iV x,iV x,sN] t):Td z w (sL (sA g) 1 1) [⟨x,x,[]⟩]:=by
 refine⟨_,_,rfl,by simp[maxLen],λ_=>⟨g,0,rfl,nZ,h.lt,λi hi=>?_⟩⟩
 have hi0:i=0:=by simpa using hi
 subst hi0
 exact⟨sN,h.c 0 rfl,h.c 1 rfl,h.c 2 rfl,⟨none,0,rfl,by simp[Qb,Qh],λhp=>by simp[Qb,Qh] at hp⟩,λg hg=>by simp[Value.ownBlock] at hg,⟨_,_,_,rfl,lR⟩⟩
theorem Q4a (C B:Nat)(N:Nt)(L:Lk)(wR:World)(r:Rl)(vw:Value)(w:World)(hv:Qe N=true)(hR:LR C N (E1 N) N.ways.length (E1 N).length (E1 N).length (E1 N).length N.ways.length wR L)(hk:Ck noX noX wR w)(h0:Q8 B w L.v0 N.nodes)(hw:Q8 B w vw r.ways)(hg:Ke N r)(hcp:Vw vw) :
  Calls prog 132 #[pT L.br,.agg #[iV r.id,.bool r.only,iV r.frm,iV r.to,.bool r.via,iV r.node,vw]] w λe w'=>(∃fv,e=.returned fv/\Fd wR.heap.size w.heap.size (Jt N r) fv w')/\Nx w w':=by
 have HV:Z (Qe N=true):=hv
 have HR:Z (LR C N (E1 N) N.ways.length (E1 N).length (E1 N).length (E1 N).length N.ways.length wR L):=hR
 have HK:Z (Ck noX noX wR w):=hk
 have H0:Z (Q8 B w L.v0 N.nodes):=h0
 have HG:Z (Ke N r):=hg
 have HCP:Z (Vw vw):=hcp
 have HW:Z (Q8 B w vw r.ways):=hw
 have hmx:prog.follows .mixedOrders=true:=by kernel_rfl
 obtain⟨wa,wc,rfl,hwm,hwk⟩:=hw
 unfold maxLen at hwm
 generalize hnw:r.ways.length=nw at *
 have HNW:Z (r.ways.length=nw):=hnw
 clear hv hR hk h0 hg hwk hnw hcp
 go_enter func132,ntmps132
 cases hvia:r.via
 ·
  have HVIA:Z (r.via=false):=hvia
  have HONE:Z (1<=nw/\nw<=4):=by have:=HG.o.one hvia;rw[HNW.o] at this;exact this
  have HWS:Z (∀k,k<nw->Ju N.ways (iat r.ways k)=true):=by have:=HG.o.ways hvia;rw[HNW.o] at this;exact this
  go_upto_region 4 with fail
  clear hvia
  generalize hW0:w.alloc (.cells #[iV r.id,.bool r.only,iV r.frm,iV r.to,.bool false,iV r.node,sL wa nw wc] 111)=w0
  have HX0:Z (Nx w w0):=by rw[<-hW0];exact Q4 _ _
  have HB0:Z (BT w0 w.heap.size #[iV r.id,.bool r.only,iV r.frm,iV r.to,.bool false,iV r.node,sL wa nw wc] 111):=by rw[<-hW0];exact BT.new _ _ _ _ rfl
  have HZ0:Z (w.heap.size<w0.heap.size):=HB0.o.lt
  have HLR:Z (LR C N (E1 N) N.ways.length (E1 N).length (E1 N).length (E1 N).length N.ways.length w0 L):=(HR.o.ck HK.o).next HX0.o
  have HKW:Z (Ck noX noX wR w0):=HK.o.trans (Ck.nx HX0.o)
  have HWK:Z (Q8 B w0 (sL wa nw wc) r.ways):=HW.o.next HX0.o
  clear hW0
  obtain⟨wa',wc',hse,_,hwk⟩:=HWK.o
  have hn1:=HONE.o.1
  obtain⟨wb,wo,rfl,_,_,hwc⟩:=hwk (by rw[HNW.o];omega)
  simp only[zC] at hse
  obtain⟨rfl,hzz,rfl⟩:=hse
  clear hzz
  have hwc0:=hwc 0 (by rw[HNW.o];omega)
  obtain⟨hlk,hst⟩:=HLR.o.ways HV.o rfl (HWS.o 0 (by omega))
  have hst':=(HR.o.ways HV.o rfl (HWS.o 0 (by omega))).2.ck HKW.o
  have hp0:=Xu (HWS.o 0 (by omega))
  have hwy:=HLR.o.way _ hp0
  generalize hp:wpos N.ways (iat r.ways 0)=p0 at *
  have HP0:Z (wpos N.ways (iat r.ways 0)=p0):=hp
  have HTS:Z (Td wR.heap.size w0 (L.ts p0) ((Jm N (E1 N) p0).map (Xq (E1 N)))):=hst'
  obtain⟨ta,tc,hte,_,_⟩:=hst'
  generalize htn:((Jm N (E1 N) p0).map (Xq (E1 N))).length=tn at *
  have HTN:Z (((Jm N (E1 N) p0).map (Xq (E1 N))).length=tn):=htn
  have HTE:Z (L.ts p0=sL ta tn tc):=hte
  have hlk':(Instr.lookup 135 (.map (some L.bm)) (iV (iat r.ways 0)) false).run prog w0.drew=.ok (pT (L.wb p0)) w0.drew:=by
   have:=((HLR.o.next (show Nx w0 w0.drew from(Below.refl _ _).drew)).ways HV.o rfl (HWS.o 0 (by omega))).1
   rw[HP0.o] at this
   exact this
  have HSS:Z ((λq=>q.cell? (aD L.br 6)=some (.map (some L.bm))/\q.cell? (aD w.heap.size 6)=some (sL (some (aD wb wo)) nw wc)/\q.cell? (aD wb wo)=some (iV (iat r.ways 0))/\(Instr.lookup 135 (.map (some L.bm)) (iV (iat r.ways 0)) false).run prog q=.ok (pT (L.wb p0)) q/\q.cell? (aD (L.wb p0) 2)=some (sL ta tn tc)) w0.drew):=⟨HLR.o.road.c 6 rfl,HB0.o.c 6 rfl,hwc0,hlk',by have:=hwy.c 2 rfl;rw[hte] at this;exact this⟩
  clear hlk hlk' hst hp0 hwy hp hte htn hwc0 hwc hwk
  refine(wpIn_wide (n:=9)).1 ?_
  refine Qj (c:=12) (S:=λq=>q.cell? (aD L.br 6)=some (.map (some L.bm))/\q.cell? (aD w.heap.size 6)=some (sL (some (aD wb wo)) nw wc)/\q.cell? (aD wb wo)=some (iV (iat r.ways 0))/\(Instr.lookup 135 (.map (some L.bm)) (iV (iat r.ways 0)) false).run prog q=.ok (pT (L.wb p0)) q/\q.cell? (aD (L.wb p0) 2)=some (sL ta tn tc)) hmx (by kernel_rfl) (λhw hcl=>?_)
  refine tq (i:=0) (v:=pT L.br) (λhcl=>?_)
  refine tq (i:=1) (v:=pT L.br) (λhcl=>?_)
  refine tq (i:=2) (v:=.pointer (some (aD L.br 6))) (λhcl=>?_)
  refine tq (i:=3) (v:=.map (some L.bm)) (λhcl=>?_)
  refine tq (i:=4) (v:=.pointer (some (aD w.heap.size 6))) (λhcl=>?_)
  refine tq (i:=5) (v:=sL (some (aD wb wo)) nw wc) (λhcl=>?_)
  refine Qf (i:=6) (v:=.pointer (some (aD wb wo))) hw (by decide) hcl (Qa rfl) rfl (by kernel_rfl) (by kernel_rfl) (by kernel_rfl) (λ_ _ _ h=>h) ⟨oL ⟨by kernel_rfl,?y6⟩,λ_=>rfl⟩ HSS.o (λhcl=>?_)
  case y6=>
   rintro q ⟨c1,c2,c3,c4,c5⟩
   go_simp
   try (intro h;omega)
  refine tq (i:=7) (v:=iV (iat r.ways 0)) (λhcl=>?_)
  refine tq (i:=8) (v:=pT (L.wb p0)) (λhcl=>?_)
  refine tq (i:=9) (v:=pT (L.wb p0)) (λhcl=>?_)
  refine tq (i:=10) (v:=.pointer (some (aD (L.wb p0) 2))) (λhcl=>?_)
  refine tq (i:=11) (v:=sL ta tn tc) (λhcl=>?_)
  refine Qg (i:=12) (by kernel_rfl) (wpOpIn_step rfl (λK hK=>?_))
  go_simp
  refine⟨trivial,(callsIn_wide.2 (Fz ta tn tc _)).mono ?_⟩
  rintro e w1 ⟨rfl,hw1⟩
  have HX1:Z (Nx w0 w1):=by rw[hw1];exact((Below.refl _ _).drew).alloc lR _
  have HF1:Z (Fd wR.heap.size w.heap.size ((T1 N r 0).map (Xq (E1 N))) (.func (.func 173) #[] #[pT w0.heap.size]) w1):=by
   unfold Z
   rw[hw1,show T1 N r 0=Jm N (E1 N) p0 by rw[<-HP0.o];rfl]
   refine Fd.values (w:=w0.drew) (by have:=HTS.o;rw[HTE.o] at this;exact this.next (show Nx w0 w0.drew from(Below.refl _ _).drew)) (λg hg=>Or.inl ?_) (Nat.le_of_lt HZ0.o)
   have hrow:=(HR.o.trav p0 (by rw[<-HP0.o];exact Xu (HWS.o 0 (by omega))))
   rw[HTE.o] at hrow
   exact hrow.lt g hg
  clear hw1
  refine hK _ _ ⟨oL lR,?_⟩
  clear hK K
  refine Qg (i:=13) (by kernel_rfl) (wpOpIn_step rfl (λK hK=>?_))
  go_simp
  refine hK _ _ ⟨oL (by decide),?_⟩
  clear hK K
  refine Qm (by kernel_rfl) ?_ _
  clear hw hcl HSS
  have HB1:Z (BT w1 w.heap.size #[iV r.id,.bool r.only,iV r.frm,iV r.to,.bool false,iV r.node,sL (some (aD wb wo)) nw wc] 111):=HB0.o.next HX1.o
  have x6:=HB1.o.c 6 rfl
  have HXA:Z (Nx w w1):=HX0.o.trans HX1.o
  have HCELL:Z (∀k,k<nw->∀q,Nx w q->q.cell? (aD wb (wo+k))=some (iV (iat r.ways k))):=λk hk q hq=>by
   obtain⟨a',c',e',_,hh⟩:=HW.o.next hq
   obtain⟨b',o',rfl,_,_,hcc⟩:=hh (by rw[HNW.o];omega)
   simp only[zC,Option.some.injEq,Addr.mk.injEq] at e'
   obtain⟨⟨rfl,rfl,_⟩,_,_⟩:=e'
   exact hcc k (by rw[HNW.o];exact hk)
  have hw1':1<=nw:=HONE.o.1
  have hcap:nw<=wc:=by
   obtain⟨_,_,_,e',h'⟩:=HCP.o
   simp only[zC] at e'
   omega
  by_cases hc1:wc=1
  ·have HOO:Z (∀k,k+1<nw->∀q,Nx w q->q.cell? (aD wb (wo+k))=some (iV (iat r.ways (k+1)))):=λk hk=>by omega
   go_wp2_with fail
   generalize hnm:nw-1=nm at *
   have HNM:Z (nw=nm+1):=by unfold Z;omega
   have hnmb:nm<=3:=by have:=HONE.o.2;omega
   clear hnm
   go_loopw [6,8,40] (λf id i wr=>∃k:Nat,k<=nm/\i=iV k/\Z (Fd wR.heap.size w.heap.size ((T1 N r k).map (Xq (E1 N))) f wr)/\Z (Nx w wr)) (λ_ _ i _=>nm-(intOf i).toNat)
   case atStart=>exact⟨0,nZ,rfl,HF1,HXA⟩
   case round=>
    clear HF1
    obtain⟨k,hk,rfl,HF,HN⟩:=hrel
    by_cases hlt:k<nm
    ·obtain⟨gf,lb,Inv,rfl,_,_,_⟩:=HF.o
     have hk1:k+1<nw:=by have:=HNM.o;omega
     have x1:=HOO.o k hk1 wr HN.o
     have HLW:Z (LR C N (E1 N) N.ways.length (E1 N).length (E1 N).length (E1 N).length N.ways.length wr L):=(HR.o.ck HK.o).next HN.o
     have x2:=HLW.o.road.c 6 rfl
     obtain⟨x3,_⟩:=HLW.o.ways HV.o rfl (HWS.o (k+1) hk1)
     have hst:=(HR.o.ways HV.o rfl (HWS.o (k+1) hk1)).2.ck (HK.o.trans (Ck.nx (X:=noX) (K:=noX) HN.o))
     have hpk:=Xu (HWS.o (k+1) hk1)
     have HLEN:=Ti (Q85 HV.o HG.o HVIA.o (by rw[HNW.o];exact hk1))
     have HEX:=Ti (Q86 HV.o HG.o HVIA.o (by rw[HNW.o];exact hk1))
     have x4:=(HLW.o.way _ hpk).c 2 rfl
     have HROW:Z (∀g,(L.ts (wpos N.ways (iat r.ways (k+1)))).ownBlock=some g->g<wR.heap.size):=(HR.o.trav _ hpk).lt
     generalize hpp:wpos N.ways (iat r.ways (k+1))=pk at *
     generalize hid:iat r.ways (k+1)=idk at *
     have HST:Z (Td wR.heap.size wr (L.ts pk) ((Jm N (E1 N) pk).map (Xq (E1 N)))):=hst
     obtain⟨sa,sc,hse,_,_⟩:=hst
     generalize hsn:((Jm N (E1 N) pk).map (Xq (E1 N))).length=sn at *
     have HSE:Z (L.ts pk=sL sa sn sc):=hse
     have HSN:Z (((Jm N (E1 N) pk).map (Xq (E1 N))).length=sn):=hsn
     have x4':wr.cell? (aD (L.wb pk) 2)=some (sL sa sn sc):=by rw[<-hse];exact x4
     have hlt':(k:Int)<nm:=by omega
     clear hpk hsn hse hpp hid x4 hk1
     go_wp2_with (go_at_call 155;refine(Ae _ _ _ _ _ _).mono ?_;rintro e w2 ⟨rfl,rfl⟩)
     go_roundw
     case rel=>
      refine⟨k+1,by omega,by go_num,?_,HN.o.trans ((Q4 _ _).trans (Q4 _ _))⟩
      unfold Z
      rw[HEX.o]
      exact Fd.ext HF.o (by rw[HSN.o];exact HLEN.o) (by have:=HST.o;rw[HSE.o] at this;exact this) (λg hg=>oL (HROW.o g (by rw[HSE.o];exact hg))) HN.o.size
     case measure=>simp[intOf];omega
    ·have ek:k=nm:=by omega
     subst ek
     go_wp2
     go_ret
     refine⟨⟨_,rfl,?_⟩,HN.o⟩
     unfold Jt
     rw[if_neg (by rw[HVIA.o];simp),HNW.o,show nw-1=k by have:=HNM.o;omega]
     exact HF.o
  ·have HOO:Z (∀k,k+1<nw->∀q,Nx w q->q.cell? (aD wb (wo+1+k))=some (iV (iat r.ways (k+1)))):=λk hk q hq=>by rw[show wo+1+k=wo+(k+1) by omega];exact HCELL.o (k+1) hk q hq
   go_wp2_with fail
   generalize hnm:nw-1=nm at *
   have HNM:Z (nw=nm+1):=by unfold Z;omega
   have hnmb:nm<=3:=by have:=HONE.o.2;omega
   clear hnm
   go_loopw [6,8,40] (λf id i wr=>∃k:Nat,k<=nm/\i=iV k/\Z (Fd wR.heap.size w.heap.size ((T1 N r k).map (Xq (E1 N))) f wr)/\Z (Nx w wr)) (λ_ _ i _=>nm-(intOf i).toNat)
   case atStart=>exact⟨0,nZ,rfl,HF1,HXA⟩
   case round=>
    clear HF1
    obtain⟨k,hk,rfl,HF,HN⟩:=hrel
    by_cases hlt:k<nm
    ·obtain⟨gf,lb,Inv,rfl,_,_,_⟩:=HF.o
     have hk1:k+1<nw:=by have:=HNM.o;omega
     have x1:=HOO.o k hk1 wr HN.o
     have HLW:Z (LR C N (E1 N) N.ways.length (E1 N).length (E1 N).length (E1 N).length N.ways.length wr L):=(HR.o.ck HK.o).next HN.o
     have x2:=HLW.o.road.c 6 rfl
     obtain⟨x3,_⟩:=HLW.o.ways HV.o rfl (HWS.o (k+1) hk1)
     have hst:=(HR.o.ways HV.o rfl (HWS.o (k+1) hk1)).2.ck (HK.o.trans (Ck.nx (X:=noX) (K:=noX) HN.o))
     have hpk:=Xu (HWS.o (k+1) hk1)
     have HLEN:=Ti (Q85 HV.o HG.o HVIA.o (by rw[HNW.o];exact hk1))
     have HEX:=Ti (Q86 HV.o HG.o HVIA.o (by rw[HNW.o];exact hk1))
     have x4:=(HLW.o.way _ hpk).c 2 rfl
     have HROW:Z (∀g,(L.ts (wpos N.ways (iat r.ways (k+1)))).ownBlock=some g->g<wR.heap.size):=(HR.o.trav _ hpk).lt
     generalize hpp:wpos N.ways (iat r.ways (k+1))=pk at *
     generalize hid:iat r.ways (k+1)=idk at *
     have HST:Z (Td wR.heap.size wr (L.ts pk) ((Jm N (E1 N) pk).map (Xq (E1 N)))):=hst
     obtain⟨sa,sc,hse,_,_⟩:=hst
     generalize hsn:((Jm N (E1 N) pk).map (Xq (E1 N))).length=sn at *
     have HSE:Z (L.ts pk=sL sa sn sc):=hse
     have HSN:Z (((Jm N (E1 N) pk).map (Xq (E1 N))).length=sn):=hsn
     have x4':wr.cell? (aD (L.wb pk) 2)=some (sL sa sn sc):=by rw[<-hse];exact x4
     have hlt':(k:Int)<nm:=by omega
     clear hpk hsn hse hpp hid x4 hk1
     go_wp2_with (go_at_call 155;refine(Ae _ _ _ _ _ _).mono ?_;rintro e w2 ⟨rfl,rfl⟩)
     go_roundw
     case rel=>
      refine⟨k+1,by omega,by go_num,?_,HN.o.trans ((Q4 _ _).trans (Q4 _ _))⟩
      unfold Z
      rw[HEX.o]
      exact Fd.ext HF.o (by rw[HSN.o];exact HLEN.o) (by have:=HST.o;rw[HSE.o] at this;exact this) (λg hg=>oL (HROW.o g (by rw[HSE.o];exact hg))) HN.o.size
     case measure=>simp[intOf];omega
    ·have ek:k=nm:=by omega
     subst ek
     go_wp2
     go_ret
     refine⟨⟨_,rfl,?_⟩,HN.o⟩
     unfold Jt
     rw[if_neg (by rw[HVIA.o];simp),HNW.o,show nw-1=k by have:=HNM.o;omega]
     exact HF.o
 ·have HVIA:Z (r.via=true):=hvia
  go_upto_region 2 with fail
  clear hvia
  generalize hW0:w.alloc (.cells #[iV r.id,.bool r.only,iV r.frm,iV r.to,.bool true,iV r.node,sL wa nw wc] 111)=w0
  have HX0:Z (Nx w w0):=by rw[<-hW0];exact Q4 _ _
  have HB0:Z (BT w0 w.heap.size #[iV r.id,.bool r.only,iV r.frm,iV r.to,.bool true,iV r.node,sL wa nw wc] 111):=by rw[<-hW0];exact BT.new _ _ _ _ rfl
  have rd:=((HR.o.ck HK.o).next HX0.o).road
  have HSS:Z ((λq=>q.cell? (aD L.br 0)=some L.v0/\q.cell? (aD L.br 1)=some L.v1/\q.cell? (aD L.br 2)=some L.v2/\q.cell? (aD L.br 3)=some L.v3/\q.cell? (aD L.br 4)=some (iV N.uturn)/\q.cell? (aD w.heap.size 5)=some (iV r.node)) w0.drew):=⟨rd.c 0 rfl,rd.c 1 rfl,rd.c 2 rfl,rd.c 3 rfl,rd.c 4 rfl,HB0.o.c 5 rfl⟩
  clear hW0 rd
  refine(wpIn_wide (n:=9)).1 ?_
  refine Qj (c:=6) (S:=λq=>q.cell? (aD L.br 0)=some L.v0/\q.cell? (aD L.br 1)=some L.v1/\q.cell? (aD L.br 2)=some L.v2/\q.cell? (aD L.br 3)=some L.v3/\q.cell? (aD L.br 4)=some (iV N.uturn)/\q.cell? (aD w.heap.size 5)=some (iV r.node)) hmx (by kernel_rfl) (λhw hcl=>?_)
  refine tq (i:=0) (v:=pT L.br) (λhcl=>?_)
  refine tq (i:=1) (v:=pT L.br) (λhcl=>?_)
  refine tq (i:=2) (v:=pT L.br) (λhcl=>?_)
  refine tq (i:=3) (v:=.agg #[L.v0,L.v1,L.v2,L.v3,iV N.uturn]) (λhcl=>?_)
  refine tq (i:=4) (v:=.pointer (some (aD w.heap.size 5))) (λhcl=>?_)
  refine tq (i:=5) (v:=iV r.node) (λhcl=>?_)
  refine Qg (i:=6) (by kernel_rfl) (wpOpIn_step rfl (λK hK=>?_))
  go_simp
  refine⟨trivial,(callsIn_wide.2 (Yf B L.v0 L.v1 L.v2 L.v3 N.uturn r.node N.nodes _ ?_ (Jz HV.o).asc (HG.o.node HVIA.o))).mono ?_⟩
  ·exact H0.o.next (HX0.o.trans (show Nx w0 w0.drew from(Below.refl _ _).drew))
  rintro e w1 ⟨rfl,hx1⟩
  have HX1:Z (Nx w w1):=HX0.o.trans ((show Nx w0 w0.drew from(Below.refl _ _).drew).trans hx1)
  clear hx1
  refine hK _ _ ⟨oL lR,?_⟩
  clear hK K
  refine Qg (i:=7) (by kernel_rfl) (wpOpIn_step rfl (λK hK=>?_))
  go_simp
  refine hK _ _ ⟨oL (by decide),?_⟩
  clear hK K
  refine Qm (by kernel_rfl) ?_ _
  clear hw hcl HSS
  go_wp2_with (go_at_call 154;refine(Fz _ _ _ _).mono ?_;rintro e w2 ⟨rfl,rfl⟩)
  go_ret
  refine⟨⟨.func (.func 173) #[] #[pT (w1.heap.size+1)],rfl,?_⟩,(HX1.o.trans (Q4 _ _)).trans (Q4 _ _)⟩
  unfold Jt
  rw[if_pos HVIA.o]
  have hF:=Fd.values (z:=wR.heap.size) (c:=w.heap.size) (Qet (BT.new w1 #[iV (pos N.nodes r.node),iV (pos N.nodes r.node),sN] 208 _ rfl)) (λg hg=>Or.inr ?_) (zP HX1.o.size (Q4 _ _).size)
  ·rw[Q3] at hF
   exact hF
  have hg':w1.heap.size=g:=by simpa [Value.ownBlock] using hg
  have:=HX1.o.size
  omega
end Go.Proofs.YtahpodmokbdjeaaGreatDoor
namespace Go.Proofs.YtahpodmokbdjeaaGreatDoor
set_option linter.unusedVariables false
set_option maxHeartbeats 16000000
def Ya (es:List Eg)(F T:List Nat)(M:List Sx):List (List Nat):=M.flatMap λm=>(F.filter λa=>decide ((eat es a).head=m.t)).flatMap λa=>(T.filter λb=>decide ((eat es b).tail=m.h)).map λb=>[a]++m.l++[b]
def chP (N:Nt)(r:Rl):List (List Nat):=Ya (E1 N) (Qt N (E1 N) r) (Qx N (E1 N) r) (Jt N r)
theorem Q76 (es:List Eg)(F T:List Nat)(ms:List (List Nat)):Ya es F T (ms.map (Xq es))=Ia es F T ms:=by
 unfold Ya Ia
 rw[List.flatMap_map]
 rfl
theorem Q4b {N:Nt}{r:Rl}{w0:Int}{rest:List Int}(hw:r.ways=w0::rest):∀k,k<=rest.length->T1 N r k=Jc (E1 N) (Jm N (E1 N) (wpos N.ways w0)) ((rest.take k).map λid=>Jm N (E1 N) (wpos N.ways id))
 |0,_=>by
  unfold T1
  rw[hw]
  rfl
 |k+1,hk=>by
  show Qy _ (T1 N r k) _=_
  have hlt:k<rest.length:=by omega
  rw[Q4b hw k (by omega),zR hlt,yL]
  unfold Jc
  rw[List.foldl_append]
  have e:iat r.ways (k+1)=rest[k]:=by rw[hw,Vl (by simpa using hlt)];rfl
  rw[e]
  rfl
theorem Qc8 {zs:List Int}(ha:Z4 zs=true){id:Int}(hh:Vs zs id=true){x:Int}(h0:0<=x)(h1:x<zs.length):iat zs x.toNat=id↔x=pos zs id:=by
 have hm:∀i j,i<j->j<zs.length->iat zs i<iat zs j:=Uq (λi j=>rfl) ha
 have hlt:pos zs id<zs.length:=by
  unfold pos Vs at *
  exact List.findIdx_lt_length.2 (by simpa using List.any_eq_true.1 hh)
 constructor
 ·intro e
  have hx:x.toNat<zs.length:=by omega
  have:=Q23 hm hx
  rw[e] at this
  omega
 ·intro e
  rw[e]
  have h2:(zs[pos zs id]==id)=true:=List.findIdx_getElem (p:=λz:Int=>z==id) (xs:=zs) (w:=hlt)
  rw[show((pos zs id:Nat):Int).toNat=pos zs id by omega,Vl hlt]
  simpa using h2
theorem Q99 {l:List Int}(h:1<=l.length):∃a t,l=a::t:=by
 cases l with
 |nil=>simp at h
 |cons a t=>exact⟨a,t,rfl⟩
theorem Q5h {N:Nt}{r:Rl}(hv:Qe N=true)(hg:Ke N r):(Xw N N.nodes (E1 N) r).Perm (chP N r):=by
 unfold Xw chP Jt
 cases hvia:r.via
 ·rw[if_neg (by simp),if_neg (by simp),Q76]
  obtain⟨w0,rest,hw⟩:=Q99 (hg.one hvia).1
  refine List.Perm.trans (List.Perm.of_eq ?_) (Q5i (E1 N) _ _ _)
  have hlen:r.ways.length=rest.length+1:=by rw[hw];rfl
  have hne:∀k,k<r.ways.length->∀l∈T1 N r k,l≠[]:=λk hk l hl=>(Uf hv hg hvia k hk l hl).1.1
  have em:T1 N r (r.ways.length-1)=Jc (E1 N) (Jm N (E1 N) (wpos N.ways w0)) (rest.map λid=>Jm N (E1 N) (wpos N.ways id)):=by
   rw[Q4b hw _ (by omega),show r.ways.length-1=rest.length by omega,zU]
  have e0:T1 N r 0=Jm N (E1 N) (wpos N.ways w0):=by
   unfold T1
   rw[hw]
   rfl
  unfold Z7
  rw[zU,em]
  have hmap:(r.ways.map λid=>Jm N (E1 N) (wpos N.ways id))=Jm N (E1 N) (wpos N.ways w0)::(rest.map λid=>Jm N (E1 N) (wpos N.ways id)):=by rw[hw];rfl
  rw[hmap]
  refine Q4z (E1 N) _ _ _ _ ?_ ?_
  ·rw[<-e0];exact hne 0 (by omega)
  ·rw[<-em];exact hne _ (by omega)
 ·rw[if_pos rfl,if_pos rfl]
  refine List.Perm.of_eq ?_
  have hn:=hg.node hvia
  have ha:=(Jz hv).asc
  unfold Ya Qy Ve
  simp only[List.flatMap_cons,List.flatMap_nil,List.append_nil]
  rw[List.flatMap_map]
  have ef:(Qt N (E1 N) r).filter (V4 N.nodes (E1 N) r.node)=(Qt N (E1 N) r).filter (λa=>decide ((eat (E1 N) a).head=(pos N.nodes r.node:Int))):=by
   refine List.filter_congr (λa hm=>?_)
   have hb:=Q35 (Jz hv) (Wx hm)
   unfold V4
   rw[decide_eq_decide]
   exact Qc8 ha hn hb.1 hb.2
  rw[ef]
  refine Ys (λa hm=>?_)
  have hh:(eat (E1 N) a).head=(pos N.nodes r.node:Int):=by simpa using(List.mem_filter.1 hm).2
  rw[List.filter_map,List.map_map]
  have e2:(Qx N (E1 N) r).filter ((λp=>decide (hdL (E1 N) [a]=tlL (E1 N) p)) ∘ λe=>[e])=(Qx N (E1 N) r).filter (λb=>decide ((eat (E1 N) b).tail=(pos N.nodes r.node:Int))):=by
   refine List.filter_congr (λb _=>?_)
   show decide ((eat (E1 N) a).head=(eat (E1 N) b).tail)=_
   rw[hh,decide_eq_decide]
   exact eq_comm
  rw[e2]
  rfl
theorem Qbi {N:Nt}(hv:Qe N=true):J5 N=Qq (chP N) N.rels N.rels.length:=by
 unfold J5
 rw[if_pos hv]
 refine Ef (λk hk=>?_) _ lR
 exact Q5h hv (Qg6 ((Yv hv).rel k hk))
section
variable (es:List Eg) (F T:List Nat)
def Xe (m:Sx):List Nat:=F.filter λa=>decide ((eat es a).head=m.t)
def V6 (m:Sx):List Nat:=T.filter λb=>decide ((eat es b).tail=m.h)
def natat (l:List Nat)(i:Nat):Nat:=l.getD i 0
def ch1 (m:Sx)(a b:Nat):List Nat:=[a]++m.l++[b]
def Yt (M:List Sx)(k i j:Nat):List (List Nat):=Ya es F T (M.take k)++(((Xe es F (Qh M k)).take i).flatMap λa=>(V6 es T (Qh M k)).map (ch1 (Qh M k) a))++((V6 es T (Qh M k)).take j).map (ch1 (Qh M k) (natat (Xe es F (Qh M k)) i))
theorem Q49 {l:List Nat}{i:Nat}(h:i<l.length):l.take (i+1)=l.take i++[natat l i]:=by
 rw[List.take_add_one]
 simp[natat,List.getD_eq_getElem?_getD,h]
theorem Q77 (M:List Sx):Yt es F T M 0 0 0=[]:=by simp[Yt,Ya]
theorem Gk (M:List Sx)(k:Nat):Yt es F T M k 0 0=Ya es F T (M.take k):=by simp[Yt]
theorem Q5j {M:List Sx}{k i:Nat}(hi:i<(Xe es F (Qh M k)).length):Yt es F T M k i (V6 es T (Qh M k)).length=Yt es F T M k (i+1) 0:=by
 unfold Yt
 rw[zU,Q49 hi,List.flatMap_append]
 simp
theorem Q1i {M:List Sx}{k:Nat}(hk:k<M.length):Yt es F T M k (Xe es F (Qh M k)).length 0=Yt es F T M (k+1) 0 0:=by
 rw[Gk,Kn hk]
 unfold Yt Ya
 rw[zU,List.flatMap_append]
 simp[Xe,V6]
 rfl
theorem Qdf (M:List Sx):Yt es F T M M.length 0 0=Ya es F T M:=by rw[Gk,zU]
theorem Q1h {M:List Sx}{k i j:Nat}(hj:j<(V6 es T (Qh M k)).length):Yt es F T M k i (j+1)=Yt es F T M k i j++[ch1 (Qh M k) (natat (Xe es F (Qh M k)) i) (natat (V6 es T (Qh M k)) j)]:=by
 unfold Yt
 rw[Q49 hj,yL,<-yE]
 rfl
theorem Qah {M:List Sx}{k:Nat}(hk:k<=M.length):Yt es F T M k 0 0 <+: Ya es F T M:=by
 rw[Gk]
 refine⟨Ya es F T (M.drop k),?_⟩
 unfold Ya
 rw[<-List.flatMap_append,yF]
theorem Qag {M:List Sx}{k i:Nat}(hk:k<M.length)(hi:i<=(Xe es F (Qh M k)).length):Yt es F T M k i 0 <+: Ya es F T M:=by
 refine List.IsPrefix.trans ?_ (Qah es F T (k:=k+1) hk)
 rw[<-Q1i es F T hk]
 unfold Yt
 rw[zU]
 simp only[List.take_zero,List.map_nil,List.append_nil]
 refine(List.prefix_append_right_inj _).2 ?_
 refine⟨((Xe es F (Qh M k)).drop i).flatMap λa=>(V6 es T (Qh M k)).map (ch1 (Qh M k) a),?_⟩
 rw[<-List.flatMap_append,yF]
theorem Qde {M:List Sx}{k i j:Nat}(hk:k<M.length)(hi:i<(Xe es F (Qh M k)).length):Yt es F T M k i j <+: Ya es F T M:=by
 refine List.IsPrefix.trans ?_ (Qag es F T (i:=i+1) hk hi)
 rw[<-Q5j es F T hi]
 unfold Yt
 refine(List.prefix_append_right_inj _).2 ?_
 rw[zU]
 exact List.IsPrefix.map _ (List.take_prefix _ _)
theorem Qai {M:List Sx}{k i j:Nat}(hk:k<M.length)(hi:i<(Xe es F (Qh M k)).length)(hj:j<(V6 es T (Qh M k)).length):(Yt es F T M k i j).length<(Ya es F T M).length/\Jd (Ya es F T M) (Yt es F T M k i j).length=ch1 (Qh M k) (natat (Xe es F (Qh M k)) i) (natat (V6 es T (Qh M k)) j):=by
 obtain⟨r,hr⟩:=Qde es F T (j:=j+1) hk hi
 rw[Q1h es F T hj] at hr
 rw[<-hr]
 refine⟨by simp,?_⟩
 simp[Jd,List.getD_eq_getElem?_getD]
end
end Go.Proofs.YtahpodmokbdjeaaGreatDoor
namespace Go.Proofs.YtahpodmokbdjeaaGreatDoor
open Go.RowKit Go.Sort Go.Maps Go.Shelf Tryz
set_option linter.unusedVariables false
set_option maxRecDepth 1000000
set_option maxHeartbeats 16000000
attribute [local go_sem] Oper.semAt_some
theorem P7 {F:Fence}{n:Nat}{P:Program}{ops:Array Oper}{Q:Exit->Act->World->Prop}{md:Region.Mode}{S:World->Prop}{c i j fuel:Nat}{listed:Array Bool}{a:Act}{w:World}(hr:Region.ready md ops listed=[i,j])(h1:wpOpIn F n P ops Q i (λa' w'=>(c<=i\/S w')/\V2 F n P md ops Q S c fuel (listed.setIfInBounds i true) a' w') a w)(h2:wpOpIn F n P ops Q j (λa' w'=>(c<=j\/S w')/\V2 F n P md ops Q S c fuel (listed.setIfInBounds j true) a' w') a w):V2 F n P md ops Q S c (fuel+1) listed a w:=
 ⟨λh0=>absurd (hr▸h0) (by simp),λx hx=>by
  rw[hr] at hx
  simp at hx
  rcases hx with rfl|rfl
  ·exact h1
  ·exact h2⟩
theorem Kt {w:World}{g t:Nat}{x:Int}(h:BT w g #[iV x] t):Q8 0 w (sL (sA g) 1 1) [x]:=by
 refine⟨_,_,rfl,by simp[maxLen],λ_=>⟨g,0,rfl,nZ,h.lt,λi hi=>?_⟩⟩
 have hi0:i=0:=by simpa using hi
 subst hi0
 exact h.c 0 rfl
theorem LR.wayP {C:Nat}{N:Nt}{w:World}{L:Lk}{m:Nat}(h:LR C N (E1 N) N.ways.length m m m N.ways.length w L)(hv:Qe N=true)(hm:m=(E1 N).length){id:Int}(hid:Ju N.ways id=true) :
  w.cell? (aD (L.wb (wpos N.ways id)) 1)=some (L.vs (wpos N.ways id))/\Zb C w (L.vs (wpos N.ways id)) ((Jl (E1 N) (wpos N.ways id) (E1 N).length).map L.eb)/\(Jl (E1 N) (wpos N.ways id) (E1 N).length).length<=4000/\∀e∈Jl (E1 N) (wpos N.ways id) (E1 N).length,EB w (L.eb e) e (eat (E1 N) e):=by
 subst hm
 have hp:=Xu hid
 refine⟨(h.way _ hp).c 1 rfl,(h.row _ hp).held,?_,λe he=>(h.edge e (Wx he)).eb⟩
 refine zP (yA _ _) ?_
 rw[zY]
 exact Gu hv
theorem A1 {l:List Nat}{i:Nat}(h:i<l.length):iat (Qb l) i=(natat l i:Int):=by
 simp[iat,Qb,natat,List.getD_eq_getElem?_getD,h]
def Qdv (N:Nt)(L:Lk)(wR:World)(r:Rl)(vw:Value)(b2 b3 b5 b6:Nat)(W:World):Prop:=Ck noX noX wR W/\Q8 0 W L.v0 N.nodes/\Q8 0 W vw r.ways/\BT W b2 #[pT L.br] 81/\BT W b3 #[iV r.id,.bool r.only,iV r.frm,iV r.to,.bool r.via,iV r.node,vw] 111/\BT W b5 #[pT (L.wb (wpos N.ways r.frm))] 139/\BT W b6 #[pT (L.wb (wpos N.ways r.to))] 139
theorem Qa2 {N:Nt}{r:Rl}(hv:Qe N=true)(hg:Ke N r){k:Nat}(hk:k<(Jt N r).length):(Qh (Jt N r) k).l.length<=16000:=by
 unfold Jt at hk ⊢
 cases hvia:r.via
 ·rw[hvia] at hk
  simp only[Bool.false_eq_true,if_false] at hk ⊢
  obtain⟨l,hl,el⟩:=Q67 hk
  have h4:=(hg.one hvia)
  have h1:=Uf hv hg hvia (r.ways.length-1) (by omega) l hl
  rw[el]
  simp only[Xq]
  omega
 ·rw[hvia] at hk
  simp only[if_true] at hk ⊢
  have:k=0:=by simpa using hk
  subst this
  simp[Qh]
theorem Q75 (C z:Nat)(N:Nt)(L:Lk)(wR:World)(r:Rl)(vw:Value)(b2 b3 b5 b6:Nat)(hv:Qe N=true)(hR:LR C N (E1 N) N.ways.length (E1 N).length (E1 N).length (E1 N).length N.ways.length wR L)(hz:wR.heap.size<=z)(hg:Ke N r)(hcp:Vw vw)(X:Nat->Prop)(l m:Nat)(J:Nat->World->Prop)(Jx:World->Prop)(W:World)(hX:∀b,X b->z<=b/\b<W.heap.size)
  (hInv:∀B,Ck X noX W B->Qdv N L wR r vw b2 b3 b5 b6 B) (hJ:∀k A B,J k A->Ck noX (λb=>b<W.heap.size) A B->J k B) (hJx:∀A B,Jx A->Ck noX (λb=>b<W.heap.size) A B->Jx B)
  (hY:∀k args W1,k<(chP N r).length->J k W1->Ck X noX W W1->PyC (chP N r) W.heap.size k args W1->YieldAt Fence.wide m prog l args W1 λe W'=>Ck X (λb=>W.heap.size<=b) W1 W'/\((e=.returned (.bool true)/\J (k+1) W')\/(e=.returned (.bool false)/\Jx W')))
  (h0:J 0 W) :
  Calls prog 131 #[.func (.yield l) #[] #[],pT b2,pT b3,pT b5,pT b6] W λe W'=>(∃v,e=.returned v)/\Ck X noX W W'/\(J (chP N r).length W'\/Jx W'):=by
 have HV:Z (Qe N=true):=hv
 have HR:Z (LR C N (E1 N) N.ways.length (E1 N).length (E1 N).length (E1 N).length N.ways.length wR L):=hR
 have HZ:Z (wR.heap.size<=z):=hz
 have HG:Z (Ke N r):=hg
 have HIN:Z (∀B,Ck X noX W B->Qdv N L wR r vw b2 b3 b5 b6 B):=hInv
 have HJ:Z (∀k A B,J k A->Ck noX (λb=>b<W.heap.size) A B->J k B):=hJ
 have HJX:Z (∀A B,Jx A->Ck noX (λb=>b<W.heap.size) A B->Jx B):=hJx
 have HY:Z (∀k args W1,k<(chP N r).length->J k W1->Ck X noX W W1->PyC (chP N r) W.heap.size k args W1->YieldAt Fence.wide m prog l args W1 λe W'=>Ck X (λb=>W.heap.size<=b) W1 W'/\((e=.returned (.bool true)/\J (k+1) W')\/(e=.returned (.bool false)/\Jx W'))):=hY
 have HJ0:Z (J 0 W):=h0
 have HX:Z (∀b,X b->z<=b/\b<W.heap.size):=hX
 have HCP:Z (Vw vw):=hcp
 obtain⟨va,vn,vc,rfl,_⟩:=hcp
 have HI0:Z (Qdv N L wR r (sL va vn vc) b2 b3 b5 b6 W):=hInv W (Ck.refl _ _ _)
 have x1:=Q1 (Q4 W (.cells #[.func (.yield l) #[] #[]] 226)) (HI0.o.2.2.2.1.c 0 rfl)
 have hb3:=HI0.o.2.2.2.2.1.next (Q4 W (.cells #[.func (.yield l) #[] #[]] 226))
 have d0:=hb3.c 0 rfl
 have d1:=hb3.c 1 rfl
 have d2:=hb3.c 2 rfl
 have d3:=hb3.c 3 rfl
 have d4:=hb3.c 4 rfl
 have d5:=hb3.c 5 rfl
 have d6:=hb3.c 6 rfl
 clear hv hR hz hg hInv hJ hJx hY h0 hX hb3
 refine(callsIn_wide (n:=m+1)).1 (callsIn_of_wp_marks func131 rfl trivial ?_ rfl)
 refine wpIn_wide.2 ?_
 simp only[ntmps131,List.size_toArray,List.length_cons,List.length_nil,Nat.reduceAdd,Nat.reduceSub,Array.replicate_succ,Array.replicate_zero,List.push_toArray,List.append_toArray,List.nil_append,List.cons_append]
 go_wp2_with fail
 generalize hW0:W.alloc (.cells #[.func (.yield l) #[] #[]] 226)=w0
 have HX0:Z (Nx W w0):=by rw[<-hW0];exact Q4 _ _
 have HS0:Z (w0.heap.size=W.heap.size+1):=by unfold Z;rw[<-hW0];simp
 have HB0:Z (BT w0 W.heap.size #[.func (.yield l) #[] #[]] 226):=by rw[<-hW0];exact BT.new _ _ _ _ rfl
 clear hW0 x1 d0 d1 d2 d3 d4 d5 d6
 refine(Q4a C 0 N L wR r _ _ HV.o HR.o (HI0.o.1.trans (Ck.nx HX0.o)) (HI0.o.2.1.next HX0.o) (HI0.o.2.2.1.next HX0.o) HG.o HCP.o).mono ?_
 rintro e w1 ⟨⟨fv,rfl,gf,lb,Inv,rfl,hG,heg,hFI⟩,hx1⟩
 have HGM:Z (Ik prog gf lb (PyS wR.heap.size (Jt N r)) wR.heap.size (Jt N r).length Inv):=hG
 have HEG:Z (∀args w,(callFunc gf args).run prog w=.ok (.enter gf args) w):=heg
 have HFI:Z (∀(X:Nat->Prop) B,(∀b,X b->wR.heap.size<=b/\b<w0.heap.size)->Ck X noX w1 B->Inv B):=hFI
 have HX1:Z (Nx w0 w1):=hx1
 have HXW:Z (Nx W w1):=HX0.o.trans hx1
 have HZ1:Z (w0.heap.size<=w1.heap.size):=hx1.size
 have HB1:Z (BT w1 W.heap.size #[.func (.yield l) #[] #[]] 226):=HB0.o.next hx1
 clear hG heg hFI hx1
 go_wp2_with fail
 refine(wpIn_wide (n:=m+1)).1 ?_
 refine Ts HGM.o rfl HEG.o X ?hX ?hps ?hPy ?hInv (λk W'=>J (Yt (E1 N) (Qt N (E1 N) r) (Qx N (E1 N) r) (Jt N r) k 0 0).length W'/\BT W' W.heap.size #[.func (.yield l) #[] #[]] 226) Jx ?hI ?hIx ?h0 (λargs a' W'=>∃Ba ta ha u,args=#[.agg #[iV ta,iV ha,u]]/\w1.heap.size<=Ba/\BT W' Ba #[iV ta,iV ha,u] 208/\a'=⟨#[.func (.yield l) #[] #[],pT b2,pT b3,pT b5,pT b6,pT W.heap.size,pT Ba,undef,undef,undef,undef,undef,undef,pT L.br,.agg #[iV r.id,.bool r.only,iV r.frm,iV r.to,.bool r.via,iV r.node,sL va vn vc],.func (.func gf) #[] lb,.agg #[iV ta,iV ha,u],undef,undef,undef,undef,undef,undef,undef,undef,undef,undef,undef,undef,undef,undef,undef,undef,undef,undef,undef,undef,undef,undef,undef,undef,undef,undef,undef,undef,undef,undef,undef],[]⟩) ?hAx ?assign ?body ?done ?stop
 case hX=>intro b h;have:=HX.o b h;have:=HS0.o;have:=HZ1.o;have:=HZ.o;exact⟨by omega,by omega⟩
 case hps=>rintro k args W ⟨u,rfl,_⟩;rfl
 case hPy=>rintro k args A B ⟨u,h1,h2,h3⟩ hc;exact⟨u,h1,h2.ck hc,h3⟩
 case hInv=>exact λB hc=>HFI.o X B (λb h=>by have:=HX.o b h;have:=HS0.o;have:=HZ.o;exact⟨by omega,by omega⟩) hc
 case hI=>exact λk A B h hc=>⟨HJ.o _ A B h.1 (hc.mono (λ_ x=>x) (λb q=>by have:=HS0.o;have:=HZ1.o;omega)),h.2.ck hc id⟩
 case hIx=>exact λA B h hc=>HJX.o A B h (hc.mono (λ_ x=>x) (λb q=>by have:=HS0.o;have:=HZ1.o;omega))
 case h0=>exact⟨by rw[Q77];exact HJ.o 0 _ _ HJ0.o (Ck.nx HXW.o),HB1.o⟩
 case hAx=>rintro args a' A B ⟨Ba,ta,ha,u,h1,h2,h3,h4⟩ hc;exact⟨Ba,ta,ha,u,h1,h2,h3.ck hc id,h4⟩
 case assign=>
  rintro l' k args W' K hk hWz ⟨u,rfl,hu,_⟩ hK
  obtain⟨ua,uc,rfl,_⟩:=hu.slice
  clear hu
  have HWZ:Z (w1.heap.size<=W'.heap.size):=hWz
  clear hWz
  gi_wp2
  exact hK _ _ (Q4 _ _) ⟨W'.heap.size,_,_,_,rfl,HWZ.o,BT.new _ _ _ _ rfl,rfl⟩
 case done=>
  intro D W' hDw hI hc hD
  have HF:Z (J (chP N r).length W'):=by unfold Z chP;rw[<-Qdf];exact hI.1
  have HCW:Z (Ck X noX W W'):=(Ck.nx HXW.o).trans hc
  clear hI hc
  go_wp2
  refine Y6 D _ hD (λW2 ho=>?_)
  refine⟨_,results_none rfl _ _ _,⟨_,rfl⟩,HCW.o.trans (ho.mono (λ_ x=>x.elim) (λ_ x=>x.elim)),oL (HJ.o _ _ _ HF.o (ho.mono (λ_ x=>x) (λb q=>by have:=HS0.o;have:=HZ1.o;omega)))⟩
 case stop=>
  intro D W' hDw hI hc hD
  have HCW:Z (Ck X noX W W'):=(Ck.nx HXW.o).trans hc
  refine wpIn_wide.2 ?_
  go_wp2
  refine Y6 D _ hD (λW2 ho=>?_)
  refine⟨_,results_none rfl _ _ _,⟨_,rfl⟩,HCW.o.trans (ho.mono (λ_ x=>x.elim) (λ_ x=>x.elim)),oR (HJX.o _ _ hI (ho.mono (λ_ x=>x) (λb q=>by have:=HS0.o;have:=HZ1.o;omega)))⟩
 case body=>
  rintro l' k args a' w2 hk ⟨hJ1,hBY⟩ ⟨u,rfl,hu,hlu,hcu⟩ ⟨Ba,ta,ha,u',e',hBa,hbt,rfl⟩ hc
  have e2:(Qh (Jt N r) k).t=ta/\(Qh (Jt N r) k).h=ha/\u=u':=by simpa using e'
  obtain⟨rfl,rfl,rfl⟩:=e2
  clear e'
  obtain⟨ua,uc,rfl,_⟩:=hu.slice
  have HU:Z (Q8 0 w2 (.slice ua (Qb (Qh (Jt N r) k).l).length uc) (Qb (Qh (Jt N r) k).l)):=hu
  have HCU:Z (Vw (.slice ua (Qb (Qh (Jt N r) k).l).length uc)):=hcu
  have HLU:Z (Qhq wR.heap.size (w1.heap.size+2) (.slice ua (Qb (Qh (Jt N r) k).l).length uc)):=hlu
  have HJ1:Z (J (Yt (E1 N) (Qt N (E1 N) r) (Qx N (E1 N) r) (Jt N r) k 0 0).length w2):=hJ1
  have HBY:Z (BT w2 W.heap.size #[.func (.yield l) #[] #[]] 226):=hBY
  generalize hun:(Qb (Qh (Jt N r) k).l).length=un at *
  have HUN:Z ((Qb (Qh (Jt N r) k).l).length=un):=hun
  have HBA:Z (w1.heap.size<=Ba/\BT w2 Ba #[iV (Qh (Jt N r) k).t,iV (Qh (Jt N r) k).h,sL ua un uc] 208):=⟨hBa,hbt⟩
  have HC2:Z (Ck X noX W w2):=(Ck.nx HXW.o).trans hc
  have HI2:Z (Qdv N L wR r (sL va vn vc) b2 b3 b5 b6 w2):=HIN.o w2 HC2.o
  have HL2:Z (LR C N (E1 N) N.ways.length (E1 N).length (E1 N).length (E1 N).length N.ways.length w2 L):=HR.o.ck HI2.o.1
  have y5:=HI2.o.2.2.2.2.2.1.c 0 rfl
  have y6:=HI2.o.2.2.2.2.2.2.c 0 rfl
  have hmf:∀(fn:Fn) (first cap:Array Value) (w:World),(Instr.makeFunc fn first cap).run prog w=.ok (.func fn first cap) w:=λ_ _ _ _=>rfl
  have HPE:=Ti (HL2.o.wayP HV.o rfl HG.o.frm)
  have HPS:=Ti (HL2.o.wayP HV.o rfl HG.o.dst)
  clear hu hlu hcu hJ1 hBa hbt hc hBY hun
  gi_wp2_with (refine⟨trivial,?_⟩;gi_at_call 133;first|(refine(CallsIn.inRound l' (callsIn_wide.2 (Q3y C _ Ba _ (E1 N) L.eb _ _ _ HPE.o.1 HPE.o.2.1 HPE.o.2.2.1 HPE.o.2.2.2 (HBA.o.2.c 0 rfl)))).mono ?_;rintro e w3 ⟨⟨ue,rfl,hue0⟩,hx3⟩;have hue:Qd w2.heap.size w3 ue (Qb (Xe (E1 N) (Qt N (E1 N) r) (Qh (Jt N r) k))):=hue0;clear hue0;obtain⟨ea,ec,rfl⟩:=Q7 hue;generalize hne:(Qb (Xe (E1 N) (Qt N (E1 N) r) (Qh (Jt N r) k))).length=ne at *;have y6':=Q1 hx3 y6;have HPL:Z (_<=4000):=HPE.o.2.2.1;clear HPE)|(refine(CallsIn.inRound l' (callsIn_wide.2 (Q00 C _ Ba _ (E1 N) L.eb _ _ _ (by exact Q1 hx3 HPS.o.1) (by exact HPS.o.2.1.next hx3) HPS.o.2.2.1 (λe he=>(HPS.o.2.2.2 e he).next hx3) (by exact Q1 hx3 (HBA.o.2.c 1 rfl))))).mono ?_;rintro e w4 ⟨⟨us,rfl,hus0⟩,hx4⟩;have hus:Qd w3.heap.size w4 us (Qb (V6 (E1 N) (Qx N (E1 N) r) (Qh (Jt N r) k))):=hus0;clear hus0;obtain⟨sa,sc,rfl⟩:=Q7 hus;generalize hns:(Qb (V6 (E1 N) (Qx N (E1 N) r) (Qh (Jt N r) k))).length=ns at *))
  have HNE:Z ((Xe (E1 N) (Qt N (E1 N) r) (Qh (Jt N r) k)).length=ne):=by unfold Z;rw[<-hne,J6]
  have HNS:Z ((V6 (E1 N) (Qx N (E1 N) r) (Qh (Jt N r) k)).length=ns):=by unfold Z;rw[<-hns,J6]
  have hneb:ne<=4000:=by rw[<-HNE.o];exact zP (yA _ _) HPL.o
  have hnsb:ns<=4000:=by rw[<-HNS.o];exact zP (yA _ _) HPS.o.2.2.1
  have HX24:Z (Nx w2 w4):=hx3.trans hx4
  have HZ2:Z (W.heap.size<=w2.heap.size/\w2.heap.size<=w3.heap.size):=⟨HC2.o.size,hx3.size⟩
  have HUE:Z (Qd w2.heap.size w4 (sL ea ne ec) (Qb (Xe (E1 N) (Qt N (E1 N) r) (Qh (Jt N r) k)))):=Qd.next hue hx4
  have HUS:Z (Qd w3.heap.size w4 (sL sa ns sc) (Qb (V6 (E1 N) (Qx N (E1 N) r) (Qh (Jt N r) k)))):=hus
  have HU4:Z (Q8 0 w4 (sL ua un uc) (Qb (Qh (Jt N r) k).l)):=HU.o.next HX24.o
  have HBA4:Z (BT w4 Ba #[iV (Qh (Jt N r) k).t,iV (Qh (Jt N r) k).h,sL ua un uc] 208):=HBA.o.2.next HX24.o
  have HBY4:Z (BT w4 W.heap.size #[.func (.yield l) #[] #[]] 226):=HBY.o.next HX24.o
  have HJ4:Z (J (Yt (E1 N) (Qt N (E1 N) r) (Qx N (E1 N) r) (Jt N r) k 0 0).length w4):=HJ.o _ _ _ HJ1.o (Ck.nx HX24.o)
  have HC4:Z (Ck X noX W w4):=HC2.o.trans (Ck.nx HX24.o)
  have HMS:Z ((Qh (Jt N r) k).l.length<=16000):=Qa2 HV.o HG.o hk
  clear hue hus hx3 hx4 hne hns y5 y6 y6' HPS HJ1
  gi_loopw [10,12,25,31] (λp10 p12 i p31 wr=>∃c:Nat,c<=ne/\i=iV c/\Z (J (Yt (E1 N) (Qt N (E1 N) r) (Qx N (E1 N) r) (Jt N r) k c 0).length wr)/\Z (Ck X (λb=>w1.heap.size<=b) w4 wr)) (λ_ _ i _ _=>ne-(intOf i).toNat)
  case atStart=>exact⟨0,nZ,rfl,HJ4,Ck.refl _ _ _⟩
  case round=>
   clear HJ4
   obtain⟨c,hc,rfl,HJc,HCc⟩:=hrel
   by_cases hlt:c<ne
   ·have HEI:Z (Q8 0 wr (sL ea ne ec) (Qb (Xe (E1 N) (Qt N (E1 N) r) (Qh (Jt N r) k)))):=(Qd.base HUE.o nZ).held.ckX HCc.o (λg hg x=>by have h1:=HX.o _ x;have h2:=Q5 HUE.o g hg;have:=HZ2.o;omega)
    obtain⟨ea',ec',hse,_,hk0⟩:=HEI.o
    obtain⟨be,oe,rfl,_,_,hce⟩:=hk0 (by rw[J6,HNE.o];omega)
    simp only[zC] at hse
    obtain⟨rfl,hzz,rfl⟩:=hse
    have xe:wr.cell? (aD be (oe+c))=some (iV (natat (Xe (E1 N) (Qt N (E1 N) r) (Qh (Jt N r) k)) c:Int)):=by rw[<-A1 (by rw[HNE.o];exact hlt)];exact hce c (by rw[J6,HNE.o];exact hlt)
    have hlt':(c:Int)<ne:=by omega
    generalize hna:natat (Xe (E1 N) (Qt N (E1 N) r) (Qh (Jt N r) k)) c=na at xe
    have HNA:Z (natat (Xe (E1 N) (Qt N (E1 N) r) (Qh (Jt N r) k)) c=na):=hna
    clear hk0 hce hzz hna
    gi_wp2
    clear xe
    gi_loopw [12,31] (λp12 i wq=>∃d:Nat,d<=ns/\i=iV d/\Z (J (Yt (E1 N) (Qt N (E1 N) r) (Qx N (E1 N) r) (Jt N r) k c d).length wq)/\Z (Ck X (λb=>w1.heap.size<=b) w4 wq)) (λ_ i _=>ns-(intOf i).toNat)
    case atStart=>exact⟨0,nZ,rfl,HJc,HCc⟩
    case round=>
     clear HJc HCc HEI
     obtain⟨d,hd,rfl,HJd,HCd⟩:=hrel
     by_cases hlt2:d<ns
     ·have HSI:Z (Q8 0 wr (sL sa ns sc) (Qb (V6 (E1 N) (Qx N (E1 N) r) (Qh (Jt N r) k)))):=(Qd.base HUS.o nZ).held.ckX HCd.o (λg hg x=>by have h1:=HX.o _ x;have h2:=Q5 HUS.o g hg;have:=HZ2.o;omega)
      obtain⟨sa',sc',hse,_,hk0⟩:=HSI.o
      obtain⟨bs,os,rfl,_,_,hce⟩:=hk0 (by rw[J6,HNS.o];omega)
      simp only[zC] at hse
      obtain⟨rfl,hzz,rfl⟩:=hse
      have xs:wr.cell? (aD bs (os+d))=some (iV (natat (V6 (E1 N) (Qx N (E1 N) r) (Qh (Jt N r) k)) d:Int)):=by rw[<-A1 (by rw[HNS.o];exact hlt2)];exact hce d (by rw[J6,HNS.o];exact hlt2)
      have hlt2':(d:Int)<ns:=by omega
      have nXW:∀b,W.heap.size<=b->¬X b:=λb q x=>by have:=(HX.o _ x).2;omega
      have HUr:Z (Q8 0 wr (sL ua un uc) (Qb (Qh (Jt N r) k).l)):=HU4.o.ckX HCd.o (λg hg x=>by have h1:=HX.o _ x;have h2:=HS0.o;have h3:=HZ1.o;have h4:=HZ.o;rcases HLU.o g hg with q|q<;>omega)
      have HBAr:Z (BT wr Ba #[iV (Qh (Jt N r) k).t,iV (Qh (Jt N r) k).h,sL ua un uc] 208):=HBA4.o.ck HCd.o (nXW _ (by have:=HBA.o.1;have:=HXW.o.size;omega))
      have HBYr:Z (BT wr W.heap.size #[.func (.yield l) #[] #[]] 226):=HBY4.o.ck HCd.o (nXW _ lR)
      have HCW:Z (Ck X noX W wr):=HC4.o.trans (HCd.o.mono (λ_ x=>x) (λ_ x=>x.elim))
      have hnx:=Qai (E1 N) (Qt N (E1 N) r) (Qx N (E1 N) r) hk (show c<(Xe (E1 N) (Qt N (E1 N) r) (Qh (Jt N r) k)).length by rw[HNE.o];exact hlt) (show d<(V6 (E1 N) (Qx N (E1 N) r) (Qh (Jt N r) k)).length by rw[HNS.o];exact hlt2)
      have hsu:=Q1h (i:=c) (E1 N) (Qt N (E1 N) r) (Qx N (E1 N) r) (show d<(V6 (E1 N) (Qx N (E1 N) r) (Qh (Jt N r) k)).length by rw[HNS.o];exact hlt2)
      rw[HNA.o] at hnx hsu
      generalize hnb:natat (V6 (E1 N) (Qx N (E1 N) r) (Qh (Jt N r) k)) d=nb at xs hnx hsu
      have HNXT:=Ti hnx
      have HSUC:=Ti hsu
      clear hk0 hce hzz hnb hnx hsu
      gi_wp2
      clear xs
      have HSN:Z (∀q,Nx wr q->(λq=>q.cell? (aD W.heap.size 0)=some (.func (.yield l) #[] #[])/\q.cell? (aD Ba 2)=some (sL ua un uc)) q):=λq hq=>⟨Q1 hq (HBYr.o.c 0 rfl),Q1 hq (HBAr.o.c 2 rfl)⟩
      have hmx2:prog.follows .mixedOrders=true:=by kernel_rfl
      have HSS:Z ((λq=>q.cell? (aD W.heap.size 0)=some (.func (.yield l) #[] #[])/\q.cell? (aD Ba 2)=some (sL ua un uc)) wr.drew):=HSN.o _ (show Nx wr wr.drew from(Below.refl _ _).drew)
      refine Qj (c:=9) (S:=λq=>q.cell? (aD W.heap.size 0)=some (.func (.yield l) #[] #[])/\q.cell? (aD Ba 2)=some (sL ua un uc)) hmx2 (by kernel_rfl) (λhw hcl=>?_)
      refine tq (i:=0) (v:=.func (.yield l) #[] #[]) (λhcl=>?_)
      refine tq (i:=1) (v:=iV (na:Int)) (λhcl=>?_)
      refine tq (i:=3) (v:=.pointer (some (aD Ba 2))) (λhcl=>?_)
      refine tq (i:=4) (v:=sL ua un uc) (λhcl=>?_)
      refine tq (i:=5) (v:=iV (nb:Int)) (λhcl=>?_)
      refine P7 (i:=2) (j:=6) (by kernel_rfl) (wpOpIn_step rfl (λK hK=>?_)) (wpOpIn_step rfl (λK hK=>?_))
      ·go_simp
       generalize hWa:(wr.alloc (.cells #[iV (na:Int)] 2)).drew=wa
       have HXa:Z (Nx wr wa):=by rw[<-hWa];exact(Q4 _ _).drew
       have HGa0:Z (BT wa wr.heap.size #[iV (na:Int)] 2):=by rw[<-hWa];exact BT.new wr _ _ _ rfl
       clear hWa
       refine hK _ _ ⟨oR (HSN.o _ HXa.o),?_⟩
       clear hK K
       refine Qg (i:=6) (by kernel_rfl) (wpOpIn_step rfl (λK hK=>?_))
       go_simp
       generalize hWb:wa.alloc (.cells #[iV (nb:Int)] 2)=wb
       have HXab:Z (Nx wa wb):=by rw[<-hWb];exact Q4 _ _
       have HXb:Z (Nx wr wb):=HXa.o.trans HXab.o
       have HGb0:Z (BT wb wa.heap.size #[iV (nb:Int)] 2):=by rw[<-hWb];exact BT.new wa _ _ _ rfl
       clear hWb
       refine hK _ _ ⟨oR (HSN.o _ HXb.o),?_⟩
       clear hK K
       refine Qg (i:=7) (by kernel_rfl) (wpOpIn_step rfl (λK hK=>?_))
       go_simp
       generalize hWc:wb.alloc (.cells #[sL (sA wr.heap.size) 1 1,sL ua un uc,sL (sA wa.heap.size) 1 1] 22)=wc
       have HXbc:Z (Nx wb wc):=by rw[<-hWc];exact Q4 _ _
       have HXc:Z (Nx wr wc):=HXb.o.trans HXbc.o
       have HGa:=(HGa0.o.next HXab.o).next HXbc.o
       have HGb:=HGb0.o.next HXbc.o
       have HWD:Z (J7 0 wc (sL (sA wb.heap.size) 3 3) [[(na:Int)],Qb (Qh (Jt N r) k).l,[(nb:Int)]]):=Qaq (t:=22) (by rw[<-hWc];exact BT.new wb _ _ _ rfl) (Kt HGa) ⟨_,_,_,rfl,lR⟩ (HUr.o.next HXc.o) HCU.o (Kt HGb) ⟨_,_,_,rfl,lR⟩
       clear hWc HGa HGb
       refine hK _ _ ⟨oR (HSN.o _ HXc.o),?_⟩
       clear hK K
       refine Qg (i:=8) (by kernel_rfl) (wpOpIn_step rfl (λK hK=>?_))
       go_simp
       refine⟨trivial,(callsIn_wide.2 (Kc 0 _ _ wc HWD.o (by simp) (by have:=HMS.o;simp[J6];omega) (by simp))).mono ?_⟩
       rintro e w7 ⟨⟨u7,rfl,hu7⟩,hx7⟩
       have HXc7:Z (Nx wc w7):=hx7
       have HU7:Z (Qd wc.heap.size w7 u7 (Qb (ch1 (Qh (Jt N r) k) na nb))):=by unfold Z;simpa [ch1,Qb] using hu7
       obtain⟨a7,c7,rfl⟩:=Q7 HU7.o
       clear hu7 hx7
       generalize hn7:(Qb (ch1 (Qh (Jt N r) k) na nb)).length=n7 at *
       clear hn7
       have HX7:Z (Nx wr w7):=HXc.o.trans HXc7.o
       refine hK _ _ ⟨oR (HSN.o _ HX7.o),?_⟩
       clear hK K
       have HCW7:Z (Ck X noX W w7):=HCW.o.trans (Ck.nx HX7.o)
       obtain⟨fn,tmps,assign,body,hy,hR⟩:=HY.o (Yt (E1 N) (Qt N (E1 N) r) (Qx N (E1 N) r) (Jt N r) k c d).length #[sL a7 n7 c7] w7 HNXT.o.1 (HJ.o _ _ _ HJd.o (Ck.nx HX7.o)) HCW7.o ⟨_,rfl,by unfold chP;rw[HNXT.o.2];exact Qd.base HU7.o (zP HCW.o.size HXc.o.size),by unfold chP;rw[HNXT.o.2];simp[ch1]⟩
       have HR:Z (RoundIn Fence.wide m prog l fn tmps assign body w7 _):=hR
       clear hR
       refine Qg (i:=9) (by kernel_rfl) (wpOpIn_step rfl (λK hK=>?_))
       go_simp
       refine RoundIn.mono HR.o ?_
       rintro e w8 ⟨hc8,hh8⟩
       have HC8:Z (Ck X (λb=>w1.heap.size<=b) w4 w8):=(HCd.o.trans (Ck.nx HX7.o)).trans (hc8.mono (λ_ x=>x) (λb q=>by have:=HXW.o.size;omega))
       clear hc8
       rcases hh8 with⟨rfl,hj8⟩|⟨rfl,hj8⟩
       ·have HJ8:Z (J (Yt (E1 N) (Qt N (E1 N) r) (Qx N (E1 N) r) (Jt N r) k c (d+1)).length w8):=by rw[HSUC.o,zA];exact hj8
        clear hj8
        refine hK _ _ ⟨oL lR,?_⟩
        clear hK K hy
        refine Qg (i:=10) (by kernel_rfl) (wpOpIn_step rfl (λK hK=>?_))
        go_simp
        refine hK _ _ ⟨oL (by decide),?_⟩
        clear hK K
        refine Qm (by kernel_rfl) ?_ _
        clear hw hcl HSS HSN
        gi_wp2
        go_roundw
        case rel=>exact⟨d+1,by omega,by go_num,HJ8,HC8⟩
        case measure=>simp[intOf];omega
       ·have HJ8:Z (Jx w8):=hj8
        clear hj8
        refine hK _ _ ⟨oL lR,?_⟩
        clear hK K hy
        refine Qg (i:=10) (by kernel_rfl) (wpOpIn_step rfl (λK hK=>?_))
        go_simp
        refine hK _ _ ⟨oL (by decide),?_⟩
        clear hK K
        refine Qm (by kernel_rfl) ?_ _
        clear hw hcl HSS HSN
        gi_wp2
        exact⟨(Ck.nx HX24.o).trans HC8.o,HJ8.o⟩
      ·go_simp
       generalize hWa:(wr.alloc (.cells #[iV (nb:Int)] 2)).drew=wa
       have HXa:Z (Nx wr wa):=by rw[<-hWa];exact(Q4 _ _).drew
       have HGa0:Z (BT wa wr.heap.size #[iV (nb:Int)] 2):=by rw[<-hWa];exact BT.new wr _ _ _ rfl
       clear hWa
       refine hK _ _ ⟨oR (HSN.o _ HXa.o),?_⟩
       clear hK K
       refine Qg (i:=2) (by kernel_rfl) (wpOpIn_step rfl (λK hK=>?_))
       go_simp
       generalize hWb:wa.alloc (.cells #[iV (na:Int)] 2)=wb
       have HXab:Z (Nx wa wb):=by rw[<-hWb];exact Q4 _ _
       have HXb:Z (Nx wr wb):=HXa.o.trans HXab.o
       have HGb0:Z (BT wb wa.heap.size #[iV (na:Int)] 2):=by rw[<-hWb];exact BT.new wa _ _ _ rfl
       clear hWb
       refine hK _ _ ⟨oR (HSN.o _ HXb.o),?_⟩
       clear hK K
       refine Qg (i:=7) (by kernel_rfl) (wpOpIn_step rfl (λK hK=>?_))
       go_simp
       generalize hWc:wb.alloc (.cells #[sL (sA wa.heap.size) 1 1,sL ua un uc,sL (sA wr.heap.size) 1 1] 22)=wc
       have HXbc:Z (Nx wb wc):=by rw[<-hWc];exact Q4 _ _
       have HXc:Z (Nx wr wc):=HXb.o.trans HXbc.o
       have HGa:=(HGa0.o.next HXab.o).next HXbc.o
       have HGb:=HGb0.o.next HXbc.o
       have HWD:Z (J7 0 wc (sL (sA wb.heap.size) 3 3) [[(na:Int)],Qb (Qh (Jt N r) k).l,[(nb:Int)]]):=Qaq (t:=22) (by rw[<-hWc];exact BT.new wb _ _ _ rfl) (Kt HGb) ⟨_,_,_,rfl,lR⟩ (HUr.o.next HXc.o) HCU.o (Kt HGa) ⟨_,_,_,rfl,lR⟩
       clear hWc HGa HGb
       refine hK _ _ ⟨oR (HSN.o _ HXc.o),?_⟩
       clear hK K
       refine Qg (i:=8) (by kernel_rfl) (wpOpIn_step rfl (λK hK=>?_))
       go_simp
       refine⟨trivial,(callsIn_wide.2 (Kc 0 _ _ wc HWD.o (by simp) (by have:=HMS.o;simp[J6];omega) (by simp))).mono ?_⟩
       rintro e w7 ⟨⟨u7,rfl,hu7⟩,hx7⟩
       have HXc7:Z (Nx wc w7):=hx7
       have HU7:Z (Qd wc.heap.size w7 u7 (Qb (ch1 (Qh (Jt N r) k) na nb))):=by unfold Z;simpa [ch1,Qb] using hu7
       obtain⟨a7,c7,rfl⟩:=Q7 HU7.o
       clear hu7 hx7
       generalize hn7:(Qb (ch1 (Qh (Jt N r) k) na nb)).length=n7 at *
       clear hn7
       have HX7:Z (Nx wr w7):=HXc.o.trans HXc7.o
       refine hK _ _ ⟨oR (HSN.o _ HX7.o),?_⟩
       clear hK K
       have HCW7:Z (Ck X noX W w7):=HCW.o.trans (Ck.nx HX7.o)
       obtain⟨fn,tmps,assign,body,hy,hR⟩:=HY.o (Yt (E1 N) (Qt N (E1 N) r) (Qx N (E1 N) r) (Jt N r) k c d).length #[sL a7 n7 c7] w7 HNXT.o.1 (HJ.o _ _ _ HJd.o (Ck.nx HX7.o)) HCW7.o ⟨_,rfl,by unfold chP;rw[HNXT.o.2];exact Qd.base HU7.o (zP HCW.o.size HXc.o.size),by unfold chP;rw[HNXT.o.2];simp[ch1]⟩
       have HR:Z (RoundIn Fence.wide m prog l fn tmps assign body w7 _):=hR
       clear hR
       refine Qg (i:=9) (by kernel_rfl) (wpOpIn_step rfl (λK hK=>?_))
       go_simp
       refine RoundIn.mono HR.o ?_
       rintro e w8 ⟨hc8,hh8⟩
       have HC8:Z (Ck X (λb=>w1.heap.size<=b) w4 w8):=(HCd.o.trans (Ck.nx HX7.o)).trans (hc8.mono (λ_ x=>x) (λb q=>by have:=HXW.o.size;omega))
       clear hc8
       rcases hh8 with⟨rfl,hj8⟩|⟨rfl,hj8⟩
       ·have HJ8:Z (J (Yt (E1 N) (Qt N (E1 N) r) (Qx N (E1 N) r) (Jt N r) k c (d+1)).length w8):=by rw[HSUC.o,zA];exact hj8
        clear hj8
        refine hK _ _ ⟨oL lR,?_⟩
        clear hK K hy
        refine Qg (i:=10) (by kernel_rfl) (wpOpIn_step rfl (λK hK=>?_))
        go_simp
        refine hK _ _ ⟨oL (by decide),?_⟩
        clear hK K
        refine Qm (by kernel_rfl) ?_ _
        clear hw hcl HSS HSN
        gi_wp2
        go_roundw
        case rel=>exact⟨d+1,by omega,by go_num,HJ8,HC8⟩
        case measure=>simp[intOf];omega
       ·have HJ8:Z (Jx w8):=hj8
        clear hj8
        refine hK _ _ ⟨oL lR,?_⟩
        clear hK K hy
        refine Qg (i:=10) (by kernel_rfl) (wpOpIn_step rfl (λK hK=>?_))
        go_simp
        refine hK _ _ ⟨oL (by decide),?_⟩
        clear hK K
        refine Qm (by kernel_rfl) ?_ _
        clear hw hcl HSS HSN
        gi_wp2
        exact⟨(Ck.nx HX24.o).trans HC8.o,HJ8.o⟩
     ·have ed:d=ns:=by omega
      subst ed
      have HJn:Z (J (Yt (E1 N) (Qt N (E1 N) r) (Qx N (E1 N) r) (Jt N r) k (c+1) 0).length wr):=by unfold Z;rw[<-Q5j (E1 N) (Qt N (E1 N) r) (Qx N (E1 N) r) (by rw[HNE.o];exact hlt),HNS.o];exact HJd.o
      gi_wp2
      go_roundw
      case rel=>exact⟨c+1,by omega,by go_num,HJn,HCd⟩
      case measure=>simp[intOf];omega
   ·have ec:c=ne:=by omega
    subst ec
    gi_wp2
    refine⟨(Ck.nx HX24.o).trans HCc.o,?_,?_⟩
    ·show J (Yt (E1 N) (Qt N (E1 N) r) (Qx N (E1 N) r) (Jt N r) (k+1) 0 0).length wr
     rw[<-Q1i (E1 N) (Qt N (E1 N) r) (Qx N (E1 N) r) hk,HNE.o]
     exact HJc.o
    ·exact HBY4.o.ck HCc.o (λx=>by have:=(HX.o _ x).2;omega)
theorem Q74 (C:Nat)(N:Nt)(L:Lk)(r:Rl)(va:Option Addr)(vn vc:Nat)(w:World)(hv:Qe N=true)(hR:LR C N (E1 N) N.ways.length (E1 N).length (E1 N).length (E1 N).length N.ways.length w L)(hg:Ke N r) :
  Calls prog 84 #[pT L.br,.agg #[iV r.id,.bool r.only,iV r.frm,iV r.to,.bool r.via,iV r.node,sL va vn vc]] w λe w'=>(∃b2 b3 b5 b6,e=.returned (.func (.func 131) #[] #[pT b2,pT b3,pT b5,pT b6])/\BT w' b2 #[pT L.br] 81/\BT w' b3 #[iV r.id,.bool r.only,iV r.frm,iV r.to,.bool r.via,iV r.node,sL va vn vc] 111/\BT w' b5 #[pT (L.wb (wpos N.ways r.frm))] 139/\BT w' b6 #[pT (L.wb (wpos N.ways r.to))] 139)/\Nx w w':=by
 have HV:Z (Qe N=true):=hv
 have HR:Z (LR C N (E1 N) N.ways.length (E1 N).length (E1 N).length (E1 N).length N.ways.length w L):=hR
 have HG:Z (Ke N r):=hg
 have hmx:prog.follows .mixedOrders=true:=by kernel_rfl
 have hmf:∀(fn:Fn) (first cap:Array Value) (w:World),(Instr.makeFunc fn first cap).run prog w=.ok (.func fn first cap) w:=λ_ _ _ _=>rfl
 clear hv hR hg
 go_enter func84,ntmps84
 go_upto_region 1 with fail
 generalize hW0:(w.alloc (.cells #[pT L.br] 81)).alloc (.cells #[iV r.id,.bool r.only,iV r.frm,iV r.to,.bool r.via,iV r.node,sL va vn vc] 111)=w0
 have HX0:Z (Nx w w0):=by rw[<-hW0];exact(Q4 _ _).trans (Q4 _ _)
 have HS0:Z (w0.heap.size=w.heap.size+2):=by unfold Z;rw[<-hW0];simp
 have HB2:Z (BT w0 w.heap.size #[pT L.br] 81):=by rw[<-hW0];exact(BT.new w _ _ _ rfl).alloc _
 have HB3:Z (BT w0 (w.heap.size+1) #[iV r.id,.bool r.only,iV r.frm,iV r.to,.bool r.via,iV r.node,sL va vn vc] 111):=by rw[<-hW0];exact BT.new _ _ _ _ (by simp)
 clear hW0
 have HSN0:Z (∀q,Nx w0 q->LR C N (E1 N) N.ways.length (E1 N).length (E1 N).length (E1 N).length N.ways.length q L):=λq hq=>(HR.o.next HX0.o).next hq
 generalize hpf:wpos N.ways r.frm=pf at *
 generalize hpt:wpos N.ways r.to=pt at *
 have HPF:Z (wpos N.ways r.frm=pf):=hpf
 have HPT:Z (wpos N.ways r.to=pt):=hpt
 have HPFX:=HPF
 have HPTX:=HPT
 clear hpf hpt
 have HSN:Z (∀q,Nx w0 q->(λq=>q.cell? (aD w.heap.size 0)=some (pT L.br)/\q.cell? (aD L.br 6)=some (.map (some L.bm))/\q.cell? (aD (w.heap.size+1) 2)=some (iV r.frm)/\q.cell? (aD (w.heap.size+1) 3)=some (iV r.to)/\(Instr.lookup 135 (.map (some L.bm)) (iV r.frm) false).run prog q=.ok (pT (L.wb pf)) q/\(Instr.lookup 135 (.map (some L.bm)) (iV r.to) false).run prog q=.ok (pT (L.wb pt)) q) q):=λq hq=>by
  have hl:=HSN0.o q hq
  have h1:=(hl.ways HV.o rfl HG.o.frm).1
  have h2:=(hl.ways HV.o rfl HG.o.dst).1
  rw[HPF.o] at h1
  rw[HPT.o] at h2
  exact⟨Q1 hq (HB2.o.c 0 rfl),hl.road.c 6 rfl,Q1 hq (HB3.o.c 2 rfl),Q1 hq (HB3.o.c 3 rfl),h1,h2⟩
 have HSS:Z ((λq=>q.cell? (aD w.heap.size 0)=some (pT L.br)/\q.cell? (aD L.br 6)=some (.map (some L.bm))/\q.cell? (aD (w.heap.size+1) 2)=some (iV r.frm)/\q.cell? (aD (w.heap.size+1) 3)=some (iV r.to)/\(Instr.lookup 135 (.map (some L.bm)) (iV r.frm) false).run prog q=.ok (pT (L.wb pf)) q/\(Instr.lookup 135 (.map (some L.bm)) (iV r.to) false).run prog q=.ok (pT (L.wb pt)) q) w0.drew):=HSN.o _ (show Nx w0 w0.drew from(Below.refl _ _).drew)
 refine(wpIn_wide (n:=9)).1 ?_
 refine Qj (c:=18) (S:=λq=>q.cell? (aD w.heap.size 0)=some (pT L.br)/\q.cell? (aD L.br 6)=some (.map (some L.bm))/\q.cell? (aD (w.heap.size+1) 2)=some (iV r.frm)/\q.cell? (aD (w.heap.size+1) 3)=some (iV r.to)/\(Instr.lookup 135 (.map (some L.bm)) (iV r.frm) false).run prog q=.ok (pT (L.wb pf)) q/\(Instr.lookup 135 (.map (some L.bm)) (iV r.to) false).run prog q=.ok (pT (L.wb pt)) q) hmx (by kernel_rfl) (λhw hcl=>?_)
 refine tq (i:=0) (v:=pT L.br) (λhcl=>?_)
 refine tq (i:=1) (v:=pT L.br) (λhcl=>?_)
 refine tq (i:=2) (v:=.pointer (some (aD L.br 6))) (λhcl=>?_)
 refine tq (i:=3) (v:=.map (some L.bm)) (λhcl=>?_)
 refine tq (i:=4) (v:=.pointer (some (aD (w.heap.size+1) 2))) (λhcl=>?_)
 refine tq (i:=5) (v:=iV r.frm) (λhcl=>?_)
 refine tq (i:=6) (v:=pT (L.wb pf)) (λhcl=>?_)
 refine tq (i:=7) (v:=pT L.br) (λhcl=>?_)
 refine tq (i:=8) (v:=pT L.br) (λhcl=>?_)
 refine tq (i:=9) (v:=.pointer (some (aD L.br 6))) (λhcl=>?_)
 refine tq (i:=10) (v:=.map (some L.bm)) (λhcl=>?_)
 refine tq (i:=11) (v:=.pointer (some (aD (w.heap.size+1) 3))) (λhcl=>?_)
 refine tq (i:=12) (v:=iV r.to) (λhcl=>?_)
 refine tq (i:=13) (v:=pT (L.wb pt)) (λhcl=>?_)
 refine P7 (i:=14) (j:=15) (by kernel_rfl) (wpOpIn_step rfl (λK hK=>?_)) (wpOpIn_step rfl (λK hK=>?_))
 ·go_simp
  generalize hW0:(w0.alloc (.cells #[.pointer none] 139)).drew=wx0
  have HL0:Z (Nx w0 wx0):=by rw[<-hW0];exact(Q4 _ _).drew
  have HN0:Z (Nx w0 wx0):=HL0.o
  have HB50:Z (BT wx0 w0.heap.size #[.pointer none] 139):=by rw[<-hW0];exact BT.new w0 _ _ _ rfl
  clear hW0
  refine hK _ _ ⟨oR (HSN.o _ HN0.o),?_⟩
  clear hK K
  refine Qg (i:=15) (by kernel_rfl) (wpOpIn_step rfl (λK hK=>?_))
  go_simp
  generalize hW1:(wx0.alloc (.cells #[.pointer none] 139))=wx1
  have HL1:Z (Nx wx0 wx1):=by rw[<-hW1];exact Q4 _ _
  have HN1:Z (Nx w0 wx1):=HN0.o.trans HL1.o
  have HB61:Z (BT wx1 wx0.heap.size #[.pointer none] 139):=by rw[<-hW1];exact BT.new wx0 _ _ _ rfl
  have HLT:Z (w0.heap.size<wx0.heap.size):=HB50.o.lt
  have HB51:Z (BT wx1 w0.heap.size #[.pointer none] 139):=HB50.o.next HL1.o
  clear hW1
  refine hK _ _ ⟨oR (HSN.o _ HN1.o),?_⟩
  clear hK K
  refine Qg (i:=16) (by kernel_rfl) (wpOpIn_step rfl (λK hK=>?_))
  have xc:=HB51.o.c 0 rfl
  have xf:=HB51.o.blk.frozen 0
  go_simp
  clear xc xf
  generalize hW2:wx1.setCell (aD w0.heap.size 0) (pT (L.wb pf))=wx2
  have HN2:Z (Nx w0 wx2):=by rw[<-hW2];exact Below.setCell HN1.o (by first|exact lR|exact HN0.o.size|exact HN1.o.size) _
  have HB52:Z (BT wx2 w0.heap.size #[pT (L.wb pf)] 139):=by rw[<-hW2];exact HB51.o.set 0 _
  have HB62:Z (BT wx2 wx0.heap.size #[.pointer none] 139):=by rw[<-hW2];exact HB61.o.chg (S:=λx=>x=w0.heap.size) (Chg.set _ _ _ rfl) (λe=>by have:=HLT.o;omega)
  clear hW2
  refine hK _ _ ⟨oR (HSN.o _ HN2.o),?_⟩
  clear hK K
  refine Qg (i:=17) (by kernel_rfl) (wpOpIn_step rfl (λK hK=>?_))
  have xc:=HB62.o.c 0 rfl
  have xf:=HB62.o.blk.frozen 0
  go_simp
  clear xc xf
  generalize hW3:wx2.setCell (aD wx0.heap.size 0) (pT (L.wb pt))=wx3
  have HN3:Z (Nx w0 wx3):=by rw[<-hW3];exact Below.setCell HN2.o (by first|exact lR|exact HN0.o.size|exact HN1.o.size) _
  have HB63:Z (BT wx3 wx0.heap.size #[pT (L.wb pt)] 139):=by rw[<-hW3];exact HB62.o.set 0 _
  have HB53:Z (BT wx3 w0.heap.size #[pT (L.wb pf)] 139):=by rw[<-hW3];exact HB52.o.chg (S:=λx=>x=wx0.heap.size) (Chg.set _ _ _ rfl) (λe=>by have:=HLT.o;omega)
  clear hW3
  refine hK _ _ ⟨oR (HSN.o _ HN3.o),?_⟩
  clear hK K
  refine Qm (by kernel_rfl) ?_ _
  clear hw hcl HSS HSN HSN0
  go_wp2
  go_ret
  exact⟨⟨_,_,_,_,rfl,HB2.o.next HN3.o,HB3.o.next HN3.o,by rw[HPFX.o];exact HB53.o,by rw[HPTX.o];exact HB63.o⟩,HX0.o.trans HN3.o⟩
 ·go_simp
  generalize hW0:(w0.alloc (.cells #[.pointer none] 139)).drew=wx0
  have HL0:Z (Nx w0 wx0):=by rw[<-hW0];exact(Q4 _ _).drew
  have HN0:Z (Nx w0 wx0):=HL0.o
  have HB60:Z (BT wx0 w0.heap.size #[.pointer none] 139):=by rw[<-hW0];exact BT.new w0 _ _ _ rfl
  clear hW0
  refine hK _ _ ⟨oR (HSN.o _ HN0.o),?_⟩
  clear hK K
  refine Qg (i:=14) (by kernel_rfl) (wpOpIn_step rfl (λK hK=>?_))
  go_simp
  generalize hW1:(wx0.alloc (.cells #[.pointer none] 139))=wx1
  have HL1:Z (Nx wx0 wx1):=by rw[<-hW1];exact Q4 _ _
  have HN1:Z (Nx w0 wx1):=HN0.o.trans HL1.o
  have HB51:Z (BT wx1 wx0.heap.size #[.pointer none] 139):=by rw[<-hW1];exact BT.new wx0 _ _ _ rfl
  have HLT:Z (w0.heap.size<wx0.heap.size):=HB60.o.lt
  have HB61:Z (BT wx1 w0.heap.size #[.pointer none] 139):=HB60.o.next HL1.o
  clear hW1
  refine hK _ _ ⟨oR (HSN.o _ HN1.o),?_⟩
  clear hK K
  refine Qg (i:=16) (by kernel_rfl) (wpOpIn_step rfl (λK hK=>?_))
  have xc:=HB51.o.c 0 rfl
  have xf:=HB51.o.blk.frozen 0
  go_simp
  clear xc xf
  generalize hW2:wx1.setCell (aD wx0.heap.size 0) (pT (L.wb pf))=wx2
  have HN2:Z (Nx w0 wx2):=by rw[<-hW2];exact Below.setCell HN1.o (by first|exact lR|exact HN0.o.size|exact HN1.o.size) _
  have HB52:Z (BT wx2 wx0.heap.size #[pT (L.wb pf)] 139):=by rw[<-hW2];exact HB51.o.set 0 _
  have HB62:Z (BT wx2 w0.heap.size #[.pointer none] 139):=by rw[<-hW2];exact HB61.o.chg (S:=λx=>x=wx0.heap.size) (Chg.set _ _ _ rfl) (λe=>by have:=HLT.o;omega)
  clear hW2
  refine hK _ _ ⟨oR (HSN.o _ HN2.o),?_⟩
  clear hK K
  refine Qg (i:=17) (by kernel_rfl) (wpOpIn_step rfl (λK hK=>?_))
  have xc:=HB62.o.c 0 rfl
  have xf:=HB62.o.blk.frozen 0
  go_simp
  clear xc xf
  generalize hW3:wx2.setCell (aD w0.heap.size 0) (pT (L.wb pt))=wx3
  have HN3:Z (Nx w0 wx3):=by rw[<-hW3];exact Below.setCell HN2.o (by first|exact lR|exact HN0.o.size|exact HN1.o.size) _
  have HB63:Z (BT wx3 w0.heap.size #[pT (L.wb pt)] 139):=by rw[<-hW3];exact HB62.o.set 0 _
  have HB53:Z (BT wx3 wx0.heap.size #[pT (L.wb pf)] 139):=by rw[<-hW3];exact HB52.o.chg (S:=λx=>x=w0.heap.size) (Chg.set _ _ _ rfl) (λe=>by have:=HLT.o;omega)
  clear hW3
  refine hK _ _ ⟨oR (HSN.o _ HN3.o),?_⟩
  clear hK K
  refine Qm (by kernel_rfl) ?_ _
  clear hw hcl HSS HSN HSN0
  go_wp2
  go_ret
  exact⟨⟨_,_,_,_,rfl,HB2.o.next HN3.o,HB3.o.next HN3.o,by rw[HPFX.o];exact HB53.o,by rw[HPTX.o];exact HB63.o⟩,HX0.o.trans HN3.o⟩
end Go.Proofs.YtahpodmokbdjeaaGreatDoor
