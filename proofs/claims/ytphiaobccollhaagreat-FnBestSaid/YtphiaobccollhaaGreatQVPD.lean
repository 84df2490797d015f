import Derived.Test.YtphiaobccollhaaGreatQVPA
import Derived.Test.YtphiaobccollhaaGreatQVSN
import Derived.Maps.OwnSet
namespace Go.Proofs.YtphiaobccollhaaGreat
open Go.RowKit Go.Sort Tryz
set_option linter.unusedVariables false
set_option maxRecDepth 1000000
set_option maxHeartbeats 16000000
variable {C a b g i k mb n p pp q rb sb v x:Nat}{L L' M S:List Nat}{w w' w2:World}{K K':Nat->Rk}{zs:List Int}{iv sv:Value}{D D':DM}{gv:List Value}{t:Int}
def Jy (a b:Rk):Int:=if a.1=b.1 then Y9 a.2 b.2 else Y9 a.1 b.1
theorem Q2g (a b:Rk):Jy a b<0↔rlt a b:=by
 unfold Jy rlt Y9
 split<;>(repeat' split)<;>omega
theorem Pw (a b:Rk):-1<=Jy a b/\Jy a b<=1:=by
 unfold Jy Y9
 split<;>(repeat' split)<;>omega
theorem Q2h (a b:Rk):Jy a b<=0↔¬rlt b a:=by
 unfold Jy rlt Y9
 split<;>(repeat' split)<;>omega
theorem Q7z {x y:Int}(h:x≠y):Y9 x y≠0:=by
 unfold Y9
 (repeat' split)<;>omega
theorem Gz (x:Int):Y9 x x=0:=by
 unfold Y9
 (repeat' split)<;>omega
theorem Q1p (b b' c c':Nat)(x1 x2 y1 y2:Int)(w:World)(hx1:w.cell? (aD b 0)=some (iV x1))(hx2:w.cell? (aD b 1)=some (iV x2))(hy1:w.cell? (aD b' 0)=some (iV y1))(hy2:w.cell? (aD b' 1)=some (iV y2)) :
  Calls prog 71 #[sL (sA b) 2 c,sL (sA b') 2 c'] w λe w'=>e=.returned (iV (Jy (x1,x2) (y1,y2)))/\w'=w:=by
 go_enter func71,ntmps71
 go_wp2
 go_loop [5,6,7,8,11] (λ_ _ _ _ i=>∃k:Nat,k<=2/\i=iV (k:Int)/\Z (1<=k->x1=y1)/\Z (2<=k->x2=y2)) (λ_ _ _ _ i=>2-(intOf i).toNat)
 case atStart=>exact⟨0,by omega,rfl,λh=>by omega,λh=>by omega⟩
 case round=>
  obtain⟨k,hk,rfl,H1,H2⟩:=hrel
  by_cases h0:k=0
  ·subst h0
   clear H1 H2
   by_cases e:x1=y1
   ·have HE:=mh e
    have hc:Y9 x1 y1=0:=by rw[e];exact Gz _
    clear e
    go_wp2_with (go_at_call 41;refine(Tb _ _ _).mono ?_;rintro e w' ⟨rfl,rfl⟩)
    go_round
    case rel=>exact⟨1,by omega,by go_num,λ_=>HE.o,λh=>by omega⟩
    case measure=>simp[intOf]
   ·have hc:=Q7z e
    have HR:Z (Y9 x1 y1=Jy (x1,x2) (y1,y2)):=by unfold Z Jy;rw[if_neg e]
    have hc':(Y9 x1 y1 !=0)=true:=by simpa using hc
    clear e
    go_wp2_with (go_at_call 41;refine(Tb _ _ _).mono ?_;rintro e w' ⟨rfl,rfl⟩)
    go_ret
    exact⟨Qu HR.o,rfl⟩
  ·by_cases h1:k=1
   ·subst h1
    have HE1:=mh (H1.o lR)
    clear H1 H2
    by_cases e:x2=y2
    ·have HE:=mh e
     have hc:Y9 x2 y2=0:=by rw[e];exact Gz _
     clear e
     go_wp2_with (go_at_call 41;refine(Tb _ _ _).mono ?_;rintro e w' ⟨rfl,rfl⟩)
     go_round
     case rel=>exact⟨2,by omega,by go_num,λ_=>HE1.o,λ_=>HE.o⟩
     case measure=>simp[intOf]
    ·have hc:=Q7z e
     have HR:Z (Y9 x2 y2=Jy (x1,x2) (y1,y2)):=by unfold Z Jy;rw[if_pos HE1.o]
     have hc':(Y9 x2 y2 !=0)=true:=by simpa using hc
     clear e
     go_wp2_with (go_at_call 41;refine(Tb _ _ _).mono ?_;rintro e w' ⟨rfl,rfl⟩)
     go_ret
     exact⟨Qu HR.o,rfl⟩
   ·have h2:k=2:=by omega
    subst h2
    have HE1:=mh (H1.o (by omega))
    have HE2:=mh (H2.o (by omega))
    have HR:Z (0=Jy (x1,x2) (y1,y2)):=by unfold Z Jy;rw[if_pos HE1.o];simp only;rw[HE2.o,Gz]
    clear H1 H2
    go_wp2_with (go_at_call 41;refine(Tb _ _ _).mono ?_;rintro e w' ⟨rfl,rfl⟩)
    go_ret
    exact⟨Qu HR.o,rfl⟩
theorem Iv (a b:Rk)(w:World) :
  Calls prog 46 #[.agg #[iV a.1,iV a.2],.agg #[iV b.1,iV b.2]] w λe w'=>e=.returned (iV (Jy a b))/\Nx w w':=by
 obtain⟨a1,a2⟩:=a
 obtain⟨b1,b2⟩:=b
 go_enter func46,ntmps46
 go_upto_region 1 with fail
 have x1:=(Blk.new w #[iV a1,iV a2] 52 _ rfl).alloc (.cells #[iV b1,iV b2] 52)
 have y1:=Blk.new (w.alloc (.cells #[iV a1,iV a2] 52)) #[iV b1,iV b2] 52 (w.heap.size+1) (Q1 _ _).symm
 have HX:Z (Nx w ((w.alloc (.cells #[iV a1,iV a2] 52)).alloc (.cells #[iV b1,iV b2] 52))):=Uk _ _ _
 generalize (w.alloc (.cells #[iV a1,iV a2] 52)).alloc (.cells #[iV b1,iV b2] 52)=w2 at *
 have p0:w2.cell? (aD w.heap.size 0)=some (iV a1):=x1.c 0 rfl
 have p1:w2.cell? (aD w.heap.size 1)=some (iV a2):=x1.c 1 rfl
 have r0:w2.cell? (aD (w.heap.size+1) 0)=some (iV b1):=y1.c 0 rfl
 have r1:w2.cell? (aD (w.heap.size+1) 1)=some (iV b2):=y1.c 1 rfl
 clear x1 y1
 go_quiet ((go_at_call 71;exact Calls.quiet_of_same (Q1p _ _ _ _ a1 a2 b1 b2 _ p0 p1 r0 r1)))
 go_wp2
 go_ret
 exact⟨rfl,HX.o.trans (J3 _ _)⟩
open Go.Maps
structure OnS (S:List Nat)(w w':World):Prop where
 os:w'.os=w.os
 tape:w'.tape=w.tape
 output:w'.output=w.output
 size:w.heap.size<=w'.heap.size
 block:∀b,b<w.heap.size->b∉S->w'.heap[b]?=w.heap[b]?
theorem OnS.refl (S:List Nat)(w:World):OnS S w w:=⟨rfl,rfl,rfl,lR,λ_ _ _=>rfl⟩
theorem OnS.nx (h:Nx w w'):OnS S w w':=⟨h.os,h.tape,h.output,h.size,λb hb _=>h.block b hb⟩
theorem OnS.trans {S':List Nat}{a b c:World}(h:OnS S a b)(k:OnS S' b c)(hs:∀x∈S',x∈S\/a.heap.size<=x):OnS S a c:=
 ⟨k.os.trans h.os,k.tape.trans h.tape,k.output.trans h.output,zM h.size k.size,λx hx hn=>(k.block x (zJ hx h.size) (λg=>(hs x g).elim hn (λg=>by omega))).trans (h.block x hx hn)⟩
theorem OnS.tr {a b c:World}(h:OnS S a b)(k:OnS S b c):OnS S a c:=h.trans k (λx hx=>oL hx)
theorem OnS.mono {S':List Nat}{a b:World}(h:OnS S a b)(hs:∀x∈S,x∈S'):OnS S' a b:=⟨h.os,h.tape,h.output,h.size,λx hx hn=>h.block x hx (λg=>hn (hs x g))⟩
theorem OnS.set (S:List Nat)(w:World)(hg:g∈S)(i:Nat)(u:Value):OnS S w (w.setCell (aD g i) u):=
 ⟨rfl,rfl,rfl,by simp[World.setCell],λb hb hn=>Below.heap_setCell _ _ _ _ (λe=>hn (e▸hg))⟩
theorem OnS.grown {o:Option Nat}(h:w.grownBy w' o)(ho:∀g,o=some g->g∈S):OnS S w w':=
 ⟨h.os,h.tape,h.output,h.size,λb hb hn=>h.block b hb (λe=>hn (ho b e.symm))⟩
theorem OnS.below (h:OnS S w w')(hC:C<=w.heap.size)(hS:∀b∈S,C<=b):Below C w w':=⟨h.os,h.tape,h.output,h.size,λb hb=>h.block b (by omega) (λg=>by have:=hS b g;omega)⟩
def RKM (w:World)(rb n:Nat)(K:Nat->Rk):Prop:=∃c:Array Value,w.heap[rb]?=some (.cells c 52 (0,0))/\c.size=n*2/\∀v,v<n->c[v*2]?=some (iV (K v).1)/\c[v*2+1]?=some (iV (K v).2)
theorem RKM.c1 (h:RKM w rb n K)(hv:v<n):w.cell? (aD rb (v*2))=some (iV (K v).1):=by
 obtain⟨c,h1,_,h3⟩:=h
 simp[World.cell?,h1,(h3 v hv).1]
theorem RKM.c2 (h:RKM w rb n K)(hv:v<n):w.cell? (aD rb (v*2+1))=some (iV (K v).2):=by
 obtain⟨c,h1,_,h3⟩:=h
 simp[World.cell?,h1,(h3 v hv).2]
theorem RKM.fz (h:RKM w rb n K)(o:Nat):w.frozen? (aD rb o)=false:=by
 obtain⟨c,h1,_,_⟩:=h
 simp[World.frozen?,h1]
theorem RKM.lt (h:RKM w rb n K):rb<w.heap.size:=by
 obtain⟨c,h1,_,_⟩:=h
 exact(Array.getElem?_eq_some_iff.1 h1).1
theorem RKM.kept (h:RKM w rb n K)(k:w'.heap[rb]?=w.heap[rb]?):RKM w' rb n K:=by
 obtain⟨c,h1,h2,h3⟩:=h
 exact⟨c,k.trans h1,h2,h3⟩
theorem RKM.next (h:RKM w rb n K)(k:Nx w w'):RKM w' rb n K:=h.kept (k.block rb h.lt)
structure CM (w:World)(sb p rb n:Nat)(K:Nat->Rk):Prop where
 b:w.cell? (aD sb 0)=some (pT p)
 r:∃c,w.cell? (aD p 8)=some (sL (sA rb) n c)
 k:RKM w rb n K
theorem CM.next (h:CM w sb p rb n K)(k:Nx w w'):CM w' sb p rb n K:=by
 obtain⟨h1,⟨c,h2⟩,h3⟩:=h
 exact⟨Q0 k h1,⟨c,Q0 k h2⟩,h3.next k⟩
theorem Zu (sb p rb n v u:Nat)(K:Nat->Rk)(w:World)(h:CM w sb p rb n K)(hv:v<n)(hu:u<n)(hn:n<=6000) :
  Calls prog 45 #[iV (v:Int),iV (u:Int),pT sb] w λe w'=>e=.returned (iV (Jy (K v) (K u)))/\Nx w w':=by
 obtain⟨h1,⟨c,h2⟩,h3⟩:=h
 have hv0:(v:Int)<n:=by omega
 have hu0:(u:Int)<n:=by omega
 have CG:Z (∀d os,Calls prog 46 #[.agg #[iV (K v).1,iV (K v).2],.agg #[iV (K u).1,iV (K u).2]] (Sort.grow (redrawn w d) os) λe w''=>e=.returned (iV (Jy (K v) (K u)))/\∃p:Regrown,w''=Sort.grow (redrawn w p.d) p.os):=
  λd os=>Calls.regrown_of (Iv (K v) (K u) _)
 have v1:=cell_regrown (h3.c1 hv)
 have v2:=cell_regrown (h3.c2 hv)
 have u1:=cell_regrown (h3.c1 hu)
 have u2:=cell_regrown (h3.c2 hu)
 have q1:=cell_regrown h1
 have q2:=cell_regrown h2
 generalize Jy (K v) (K u)=cc at *
 generalize (K v).1=a1 at *
 generalize (K v).2=a2 at *
 generalize (K u).1=b1 at *
 generalize (K u).2=b2 at *
 clear h3
 go_enter func45,ntmps45
 go_wp2
 refine wp_region_quiet_below (by kernel_rfl) (by kernel_rfl) ?_
 repeat (go_big_quiet_step (exact CG.o _ _))
 refine wpQuiet_nil ?_
 intro _ hw'
 obtain⟨⟨dq,osq⟩,hw''⟩:=hw'
 subst hw''
 have HQ:Z (Nx w (Sort.grow (redrawn w dq) osq)):=below_regrown w dq osq
 clear v1 v2 u1 u2 q1 q2 CG
 generalize Sort.grow (redrawn w dq) osq=wq at *
 go_wp2
 go_ret
 exact⟨rfl,HQ.o⟩
theorem Q5.put {c:Nat}(h:Q5 C w (.slice (some ⟨g,0,none⟩) n c) zs)(hi:i<zs.length)(x:Int):Q5 C (w.setCell ⟨g,i,none⟩ (.int .i64 x)) (.slice (some ⟨g,0,none⟩) n c) (zs.set i x):=by
 obtain⟨h1,h2⟩:=h
 rcases h2 with⟨h2,_⟩|⟨g',cap,cur,hv,hg,hh,hc,hm,hs,ht⟩
 ·simp at h2
 simp only[zC,Option.some.injEq,Addr.mk.injEq,and_true] at hv
 obtain⟨rfl,rfl,rfl⟩:=hv
 refine⟨by simp[J0],oR ⟨g,c,cur.setIfInBounds i (.int .i64 x),by rw[List.length_set],hg,?_,by rw[List.length_set];exact hc,hm,by simp[hs],?_⟩⟩
 ·simp[World.setCell,Array.getElem?_modify,hh]
 ·rw[List.length_set]
  apply List.ext_getElem?
  intro j
  by_cases hj:j<zs.length*1
  ·have e0:(cur.toList.take (zs.length*1))[j]?=(J0 zs)[j]?:=by rw[ht]
   rw[zQ hj,zN] at e0
   rw[zQ hj,zN,Array.getElem?_setIfInBounds]
   unfold J0 at e0 ⊢
   rw[zY] at e0 ⊢
   rw[List.getElem?_set]
   have hj':j<zs.length:=by omega
   by_cases c1:i=j
   ·subst c1;simp[show i<cur.size by omega,hj']
   ·rw[if_neg c1,if_neg c1,e0]
  ·rw[List.getElem?_eq_none (by simp;omega),List.getElem?_eq_none (by simp[J0];omega)]
theorem Q5.fz {c:Nat}(h:Q5 C w (.slice (some ⟨g,0,none⟩) n c) zs)(o:Nat):w.frozen? ⟨g,o,none⟩=false:=by
 obtain⟨h1,h2⟩:=h
 rcases h2 with⟨h2,_⟩|⟨g',cap,cur,hv,hg,hh,_⟩
 ·simp at h2
 simp only[zC,Option.some.injEq,Addr.mk.injEq,and_true] at hv
 obtain⟨rfl,rfl,rfl⟩:=hv
 simp[World.frozen?,hh]
theorem Q5.kept {v:Value}(h:Q5 C w v zs)(k:∀g,v.ownBlock=some g->w'.heap[g]?=w.heap[g]?):Q5 C w' v zs:=by
 obtain⟨h1,h2⟩:=h
 refine⟨h1,?_⟩
 rcases h2 with h2|⟨g,cap,cur,hv,hg,hh,r⟩
 ·exact oL h2
 ·exact oR ⟨g,cap,cur,hv,hg,(k g (by rw[hv];rfl)).trans hh,r⟩
theorem Q5.blk {v:Value}(h:Q5 C w v zs)(hg:v.ownBlock=some g):C<=g/\g<w.heap.size/\∃cur,w.heap[g]?=some (.cells cur 2 (0,0)):=by
 obtain⟨h1,h2⟩:=h
 rcases h2 with⟨h2,_⟩|⟨g',cap,cur,hv,hC,hh,r⟩
 ·subst h2;simp[Value.ownBlock] at hg
 ·subst hv
  simp[Value.ownBlock] at hg
  subst hg
  exact⟨hC,(Array.getElem?_eq_some_iff.1 hh).1,cur,hh⟩
def Ys (L:List Nat):List Int:=L.map (λv:Nat=>(v:Int))
theorem Ja (L:List Nat):(Ys L).length=L.length:=by simp[Ys]
theorem Q25 (h:i<L.length):iat (Ys L) i=(lat L i:Int):=by
 unfold iat Ys lat
 simp[List.getElem?_eq_getElem h,List.getD_eq_getElem?_getD]
theorem Qbg (L:List Nat)(i x:Nat):(Ys L).set i (x:Int)=Ys (L.set i x):=by
 unfold Ys;rw[List.map_set]
theorem wfN (h:i<=100000):(Lit.int .i64 (i:Int)).wf=true:=by
 simp[Lit.wf,IntKind.min,IntKind.max,IntKind.bits,IntKind.signed]
 omega
theorem Qe6 (i:Nat)(h:i<=100000):(plainElem prog 3) (.int .i64 (i:Int))=some (pv i,[]):=plainElem_int underlying3 (wfN h)
theorem Q7m (v:Nat)(h:v<=100000):keyOf prog 2 (.int .i64 (v:Int))=some (kv v):=keyOf_int_mk underlying2 (wfN h)
def Ae (sb:Nat):Value:=.func (.func 45) #[] #[.pointer (some ⟨sb,0,none⟩)]
def QB (w:World)(q sb:Nat)(iv:Value)(mb:Nat):Prop:=w.heap[q]?=some (.cells #[Ae sb,iv,.map (some mb)] 124 (0,0))
theorem QB.blk (h:QB w q sb iv mb):Blk w q #[Ae sb,iv,.map (some mb)]:=⟨_,h⟩
theorem QB.c (h:QB w q sb iv mb)(i:Nat){v:Value}(hi:(#[Ae sb,iv,.map (some mb)]:Array Value)[i]?=some v):w.cell? ⟨q,i,none⟩=some v:=h.blk.cell hi
structure HM (C:Nat)(w:World)(q sb:Nat)(iv:Value)(mb:Nat)(L:List Nat)(D:DM):Prop where
 q:QB w q sb iv mb
 i:Q5 C w iv (Ys L)
 m:w.ownsMap prog 2 (plainElem prog 3) mb (size D) D
theorem Q0k {P:Program}{k:TypeId}{R:Value->Option (DataW Unit×List MemPlace)}(h:w.ownsMap P k R b n D):w.ownsMap P k R b (size D) D:=by
 obtain⟨es,clock,hb,F,hs,hD⟩:=h
 refine⟨es,clock,hb,F,?_,hD⟩
 rw[hD]
 simp[size,length_sorted]
theorem HM.kept (h:HM C w q sb iv mb L D)(k:Nx w w'):HM C w' q sb iv mb L D:=
 ⟨(k.block q (Array.getElem?_eq_some_iff.1 h.q).1).trans h.q,h.i.next k,by
   obtain⟨es,clock,hb,r⟩:=h.m
   exact⟨es,clock,(k.block mb (Array.getElem?_eq_some_iff.1 hb).1).trans hb,r⟩⟩
theorem HM.ne (h:HM C w q sb iv mb L D):q≠mb/\∀g,iv.ownBlock=some g->g≠q/\g≠mb:=by
 obtain⟨es,clock,hb,_⟩:=h.m
 have hq:=h.q
 unfold QB at hq
 refine⟨λe=>(by rw[e,hb] at hq;cases hq),λg hg=>?_⟩
 obtain⟨_,_,cur,hc⟩:=h.i.blk hg
 refine⟨λe=>?_,λe=>(by rw[e,hb] at hc;cases hc)⟩
 rw[e,hq] at hc
 simp at hc
theorem Zn (C q sb mb g c:Nat)(L:List Nat)(D:DM)(a x:Nat)(w:World)(h:HM C w q sb (.slice (some ⟨g,0,none⟩) L.length c) mb L D)(ha:a<L.length)(hL:L.length<=10000)(hx:x<=10000)(hD:size D<=10000) :
  Calls prog 99 #[.pointer (some ⟨q,0,none⟩),.int .i64 (a:Int),.int .i64 (x:Int)] w λe w'=>∃v,e=.returned v/\HM C w' q sb (.slice (some ⟨g,0,none⟩) L.length c) mb (L.set a x) (D.put (kv x) (pv a))/\OnS [g,mb] w w':=by
 have H:=mh h
 have hne:=h.ne
 have hgq:=hne.2 g rfl
 have k1:w.cell? ⟨q,1,none⟩=some (.slice (some ⟨g,0,none⟩) L.length c):=h.q.c 1 rfl
 have hc:w.cell? ⟨g,a,none⟩=some (.int .i64 (iat (Ys L) a)):=by
  obtain⟨g',e,hc⟩:=h.i.cell (i:=a) (by rw[Ja];exact ha)
  simp only[Option.some.injEq,Addr.mk.injEq,and_true] at e
  subst e
  exact hc
 have hz:=h.i.fz a
 have ha':(a:Int)<(L.length:Int):=by omega
 have HI1:Z (Q5 C (w.setCell ⟨g,a,none⟩ (.int .i64 (x:Int))) (.slice (some ⟨g,0,none⟩) L.length c) (Ys (L.set a x))):=by
  have:=h.i.put (i:=a) (by rw[Ja];exact ha) (x:Int)
  rw[Qbg] at this
  exact this
 have HQ1:Z (QB (w.setCell ⟨g,a,none⟩ (.int .i64 (x:Int))) q sb (.slice (some ⟨g,0,none⟩) L.length c) mb):=(Below.heap_setCell _ _ _ _ (λe=>hgq.1 e.symm)).trans h.q
 have HM1:Z ((w.setCell ⟨g,a,none⟩ (.int .i64 (x:Int))).ownsMap prog 2 (plainElem prog 3) mb (size D) D):=h.m.setCell (λe=>hgq.2 e.symm) _
 have HO1:Z (OnS [g,mb] w (w.setCell ⟨g,a,none⟩ (.int .i64 (x:Int)))):=OnS.set _ w (by simp) _ _
 have k2:(w.setCell ⟨g,a,none⟩ (.int .i64 (x:Int))).cell? ⟨q,2,none⟩=some (.map (some mb)):=HQ1.o.c 2 rfl
 have HNE:Z (g≠q/\g≠mb/\q≠mb):=⟨hgq.1,hgq.2,hne.1⟩
 clear h hne hgq
 go_enter func99,ntmps99
 go_upto_region 1 with fail
 clear hc hz k1
 generalize w.setCell ⟨g,a,none⟩ (.int .i64 (x:Int))=w1 at *
 go_wp2_with (at_mapUpdate;refine wpList_mapUpdate_own _ rfl _ _ _ 122 rfl 2 3 Qdu underlying122 (plainElem prog 3) mb (size D) D rfl HM1.o (by unfold maxLen;omega) (.int .i64 (x:Int)) (.int .i64 (a:Int)) (kv x) rfl rfl (Q7m x (by omega)) (pv a) [] (Qe6 a (by omega)) ?_)
 intro w4 hown hg
 have HF:Z (HM C w4 q sb (.slice (some ⟨g,0,none⟩) L.length c) mb (L.set a x) (D.put (kv x) (pv a))):=by
  refine⟨(hg.block q (Array.getElem?_eq_some_iff.1 HQ1.o).1 (λe=>HNE.o.2.2 (zE e))).trans HQ1.o,HI1.o.kept (λg' e=>?_),Q0k hown⟩
  have e':g=g':=zE e
  subst e'
  exact hg.block g (HI1.o.blk rfl).2.1 (λe=>HNE.o.2.1 (zE e))
 have HO:=mh (HO1.o.tr (OnS.grown hg (λg' e=>by cases e;simp)))
 clear hown hg k2
 go_wp2
 refine bodyPost_end (v:=.tuple #[]) (by simp[results,results99,go_sem]) rfl ⟨_,rfl,HF.o,HO.o⟩
theorem OnS.cell (h:OnS S w w'){o:Nat}{v:Value}(hb:b∉S)(hc:w.cell? (aD b o)=some v):w'.cell? (aD b o)=some v:=by
 have:=h.block b (Jk hc) hb
 rw[<-hc]
 simp only[World.cell?,this]
theorem CM.on (h:CM w sb p rb n K)(k:OnS S w w')(h1:sb∉S)(h2:p∉S)(h3:rb∉S):CM w' sb p rb n K:=by
 obtain⟨q1,⟨c,q2⟩,q3⟩:=h
 exact⟨k.cell h1 q1,⟨c,k.cell h2 q2⟩,q3.kept (k.block rb q3.lt h3)⟩
theorem Q4b (hm:IsMap D)(u:Nat)(d:DM)(h:has D (kv v)=true):has (D.put (kv u) d) (kv v)=true:=by
 by_cases e:v=u
 ·subst e;exact has_put_same hm (Kt _) _
 ·rw[has_put_other (Uf e)];exact h
structure HE (C:Nat)(w w':World)(q sb g c mb:Nat)(K:Nat->Rk)(M:List Nat)(x:Nat)(D:DM)(X:Nat->Prop)(L':List Nat)(D':DM):Prop where
 h:HM C w' q sb (sL (sA g) L'.length c) mb L' D'
 l:L'.length=M.length
 o:Up K L'
 j:Inj L'
 e:∀y,y∈L'↔y∈M
 p:PL D' L' L'.length X
 s:size D'<=size D+1
 t:has D (kv x)=true->size D'=size D
 k:∀v,has D (kv v)=true->has D' (kv v)=true
 on:OnS [g,mb] w w'
structure RI (C:Nat)(w w':World)(q sb g c mb pp rb nv:Nat)(K:Nat->Rk)(M:List Nat)(x:Nat)(D:DM)(X:Nat->Prop)(a:Nat)(L':List Nat)(D':DM):Prop where
 h:HM C w' q sb (sL (sA g) L'.length c) mb L' D'
 lt:a<L'.length
 l:L'.length=M.length
 j:Inj (L'.set a x)
 e:∀y,y∈L'.set a x↔y∈M
 p:PL D' (L'.set a x) a X
 s:size D'=size D
 t:has D' (kv x)=has D (kv x)
 k:∀v,has D (kv v)=true->has D' (kv v)=true
 on:OnS [g,mb] w w'
 cm:CM w' sb pp rb nv K
theorem RI.next {c nv:Nat}{X:Nat->Prop}(h:RI C w w' q sb g c mb pp rb nv K M x D X a L' D')(k:Nx w' w2):RI C w w2 q sb g c mb pp rb nv K M x D X a L' D':=
 ⟨h.h.kept k,h.lt,h.l,h.j,h.e,h.p,h.s,h.t,h.k,h.on.tr (OnS.nx k),h.cm.next k⟩
theorem RI.step {c nv:Nat}{X:Nat->Prop}(h:RI C w w' q sb g c mb pp rb nv K M x D X a L' D')(hb:b<L'.length)(hab:a≠b)(hs:sb∉[g,mb]/\pp∉[g,mb]/\rb∉[g,mb])(k:HM C w2 q sb (sL (sA g) L'.length c) mb (L'.set a (lat L' b)) (D'.put (kv (lat L' b)) (pv a)))(k2:OnS [g,mb] w' w2):RI C w w2 q sb g c mb pp rb nv K M x D X b (L'.set a (lat L' b)) (D'.put (kv (lat L' b)) (pv a)):=by
 obtain⟨h1,h2⟩:=h.p.step h.lt hb hab h.j
 have hne:x≠lat L' b:=λe=>hab (h.j a b (by simpa using h.lt) (by simpa using hb) (by rw[Qw h.lt,Qw h.lt,if_pos rfl,if_neg (λe=>hab e.symm)];exact e))
 exact⟨by rw[List.length_set];exact k,by simpa using hb,by simpa using h.l,Qa8 h.lt hb hab h.j,λy=>(Q33 h.lt hb hab y).trans (h.e y),h1,h2.trans h.s,by rw[has_put_other (Uf hne)];exact h.t,λv hv=>Q4b h.p.m _ _ (h.k v hv),h.on.tr k2,h.cm.on k2 hs.1 hs.2.1 hs.2.2⟩
theorem RI.close {c nv:Nat}{X:Nat->Prop}(h:RI C w w' q sb g c mb pp rb nv K M x D X a L' D')(ho:Up K (L'.set a x))(k:HM C w2 q sb (sL (sA g) L'.length c) mb (L'.set a x) (D'.put (kv x) (pv a)))(k2:OnS [g,mb] w' w2):HE C w w2 q sb g c mb K M x D X (L'.set a x) (D'.put (kv x) (pv a)):=by
 obtain⟨h1,h2,h3⟩:=h.p.close h.lt h.j
 exact⟨by rw[List.length_set];exact k,by simpa using h.l,ho,h.j,h.e,h1,by rw[<-h.s];exact h2,λe=>by rw[<-h.s];exact h3 (by rw[h.t];exact e),λv hv=>Q4b h.p.m _ _ (h.k v hv),h.on.tr k2⟩
theorem Q39 (C q sb mb g c pp rb nv:Nat)(K:Nat->Rk)(L:List Nat)(D:DM)(X:Nat->Prop)(a0 x:Nat)(w:World)(h:HM C w q sb (sL (sA g) L.length c) mb L D)(hcm:CM w sb pp rb nv K)(hs:sb∉[g,mb]/\pp∉[g,mb]/\rb∉[g,mb])(ha:a0<L.length)(hup:UP K (L.set a0 x) a0)(hj:Inj (L.set a0 x))(hpl:PL D (L.set a0 x) a0 X)(hv:∀y∈L.set a0 x,y<nv)(hnv:nv<=6000)(hL:L.length<=10000)(hD:size D<=9000) :
  Calls prog 98 #[pT q,iV (a0:Int),iV (x:Int)] w λe w'=>∃v L' D',e=.returned v/\HE C w w' q sb g c mb K (L.set a0 x) x D X L' D':=by
 have HS:=mh hs
 have H0:Z (RI C w w q sb g c mb pp rb nv K (L.set a0 x) x D X a0 L D):=⟨h,ha,by simp,hj,λy=>Iff.rfl,hpl,rfl,rfl,λv hv=>hv,OnS.refl _ _,hcm⟩
 have HU0:=mh hup
 have HV:=mh hv
 have HX:=mh (hv x (Jo.2 ⟨a0,by simpa using ha,by rw[Qw ha,if_pos rfl]⟩))
 have hxv:x<=6000:=by have:=HX.o;omega
 have HD:=mh hD
 have HL:=mh hL
 have hal:a0<=10000:=by omega
 have HLM:Z ((L.set a0 x).length=L.length):=by unfold Z;simp
 clear h hcm hs hup hj hpl hv hD
 go_enter func98,ntmps98
 go_wp2
 go_loopw [1,6] (λa1 _ wr=>∃(a:Nat) (L':List Nat) (D':DM),a<=10000/\a1=iV (a:Int)/\Z (RI C w wr q sb g c mb pp rb nv K (L.set a0 x) x D X a L' D')/\Z (UP K (L'.set a x) a)) (λa1 _ _=>(intOf a1).toNat)
 case atStart=>exact⟨a0,L,D,hal,rfl,H0,HU0⟩
 clear H0 HU0 hal ha
 obtain⟨a,L',D',hal,rfl,HR,HU⟩:=hrel
 have HLL:Z (L'.length<=10000):=by have:=HR.o.l;have:=HLM.o;have:=HL.o;unfold Z;omega
 have HDD:Z (size D'<=9000):=by have:=HR.o.s;have:=HD.o;unfold Z;omega
 by_cases ha0:a=0
 ·subst ha0
  have d1:decide ((0:Int)<((0:Nat):Int))=false:=rfl
  go_wp2_with fail
  refine(Zn C q sb mb g c L' D' 0 x _ HR.o.h HR.o.lt HLL.o (by omega) (by have:=HDD.o;omega)).mono ?_
  rintro e w2 ⟨v,rfl,hm,hon⟩
  have HF:=HR.o.close (HU.o.done (oL rfl)) hm hon
  clear hm hon
  go_wp2
  refine bodyPost_end (v:=.tuple #[]) (by simp[results,results98,go_sem]) rfl ⟨_,_,_,rfl,HF⟩
 have d1:decide ((0:Int)<(a:Int))=true:=yB (by omega)
 have d1':decide (0<a)=true:=yB (by omega)
 obtain⟨b,hb⟩:∃b:Nat,((a:Int)-1)/2=(b:Int):=⟨(a-1)/2,by omega⟩
 have hba:b<a:=by omega
 have HBE:Z ((a-1)/2=b):=by unfold Z;omega
 have HBL:Z (b<L'.length):=by have:=HR.o.lt;unfold Z;omega
 have hbl:(b:Int)<(L'.length:Int):=by have:=HBL.o;omega
 have HYV:=mh (HV.o _ ((HR.o.e _).1 (Jo.2 ⟨b,by simpa using HBL.o,by rw[Qw HR.o.lt,if_neg (by omega)]⟩)))
 have HB:=mh hb
 clear hb
 have K0:Z (wr.cell? (aD q 0)=some (.func (.func 45) #[] #[pT sb])):=HR.o.h.q.c 0 rfl
 have K1:Z (wr.cell? (aD q 1)=some (sL (sA g) L'.length c)):=HR.o.h.q.c 1 rfl
 have KC:Z (wr.cell? (aD g b)=some (iV (lat L' b:Int))):=by
  obtain⟨g',e,hc⟩:=HR.o.h.i.cell (i:=b) (by rw[Ja];exact HBL.o)
  simp only[Option.some.injEq,Addr.mk.injEq,and_true] at e
  subst e
  rw[Q25 HBL.o] at hc
  exact hc
 have HCB:=Pw (K x) (K (lat L' b))
 have HCL:Z (Jy (K x) (K (lat L' b))<0↔rlt (K x) (K (lat L' b))):=Q2g _ _
 have CG:Z (∀d os,Calls prog 45 #[iV (x:Int),iV (lat L' b:Int),pT sb] (Sort.grow (redrawn wr d) os) λe w''=>e=.returned (iV (Jy (K x) (K (lat L' b))))/\∃p:Regrown,w''=Sort.grow (redrawn wr p.d) p.os):=
  λd os=>Calls.regrown_of (Zu sb pp rb nv x (lat L' b) K _ (HR.o.cm.next (below_regrown wr d os)) HX.o HYV.o hnv)
 have hyl:lat L' b<=10000:=by have:=HYV.o;omega
 generalize hy:lat L' b=y at *
 have HY:=mh hy
 clear hy
 have k0:=cell_regrown K0.o
 have k1:=cell_regrown K1.o
 have kc:=cell_regrown KC.o
 go_upto_region 2 with fail
 rw[HB.o]
 by_cases hlt:Jy (K x) (K y)<0
 ·have d2:decide (0<=Jy (K x) (K y))=false:=yC (by omega)
  have HRL:Z (rlt (K x) (K (lat L' b))):=by rw[HY.o];exact HCL.o.1 hlt
  have HU2:Z (UP K ((L'.set a (lat L' b)).set b x) b):=by
   have:=HU.o.step HR.o.lt (by omega) (by rw[HBE.o];exact HRL.o)
   rw[HBE.o] at this
   exact this
  generalize Jy (K x) (K y)=cc at *
  refine wp_region_quiet_below (by kernel_rfl) (by kernel_rfl) ?_
  repeat (go_big_quiet_step (exact CG.o _ _))
  refine wpQuiet_nil ?_
  intro _ hw'
  obtain⟨⟨dq,osq⟩,hw''⟩:=hw'
  subst hw''
  have HQ:Z (Nx wr (Sort.grow (redrawn wr dq) osq)):=below_regrown wr dq osq
  clear k0 k1 kc CG
  generalize Sort.grow (redrawn wr dq) osq=wq at *
  have HRq:=mh (HR.o.next HQ.o)
  have k1:=Q0 HQ.o K1.o
  have kc:=Q0 HQ.o KC.o
  go_wp2_with fail
  refine(Zn C q sb mb g c L' D' a y _ HRq.o.h HRq.o.lt HLL.o (by omega) (by have:=HDD.o;omega)).mono ?_
  rintro e w2 ⟨v,rfl,hm,hon⟩
  have HF:=mh (HRq.o.step HBL.o (by omega) HS.o (by rw[HY.o];exact hm) hon)
  clear hm hon k1 kc
  go_wp2
  go_roundw
  case rel=>exact⟨b,_,_,by omega,rfl,HF,HU2⟩
  case measure=>simp[intOf];omega
 ·have d2:decide (0<=Jy (K x) (K y))=true:=yB (by omega)
  have HRL:Z (¬rlt (K x) (K (lat L' b))):=by rw[HY.o];exact λe=>hlt (HCL.o.2 e)
  have HOK:=mh (HU.o.done (oR (by rw[HBE.o,Qw HR.o.lt,Qw HR.o.lt,if_pos rfl,if_neg (by omega)];exact HRL.o)))
  generalize Jy (K x) (K y)=cc at *
  refine wp_region_quiet_below (by kernel_rfl) (by kernel_rfl) ?_
  repeat (go_big_quiet_step (exact CG.o _ _))
  refine wpQuiet_nil ?_
  intro _ hw'
  obtain⟨⟨dq,osq⟩,hw''⟩:=hw'
  subst hw''
  have HQ:Z (Nx wr (Sort.grow (redrawn wr dq) osq)):=below_regrown wr dq osq
  clear k0 k1 kc CG
  generalize Sort.grow (redrawn wr dq) osq=wq at *
  have HRq:=mh (HR.o.next HQ.o)
  go_wp2_with fail
  refine(Zn C q sb mb g c L' D' a x _ HRq.o.h HRq.o.lt HLL.o (by omega) (by have:=HDD.o;omega)).mono ?_
  rintro e w2 ⟨v,rfl,hm,hon⟩
  have HF:=HRq.o.close HOK.o hm hon
  clear hm hon
  go_wp2
  refine bodyPost_end (v:=.tuple #[]) (by simp[results,results98,go_sem]) rfl ⟨_,_,_,rfl,HF⟩
theorem T9 {c:Nat}(h:Q5 C w (sL (sA g) n c) (Ys L))(hb:b<L.length):w.cell? (aD g b)=some (iV (lat L b:Int)):=by
 obtain⟨g',e,hc⟩:=h.cell (i:=b) (by rw[Ja];exact hb)
 simp only[Option.some.injEq,Addr.mk.injEq,and_true] at e
 subst e
 rw[Q25 hb] at hc
 exact hc
theorem Qag (C q sb mb g c pp rb nv:Nat)(K:Nat->Rk)(L:List Nat)(D:DM)(X:Nat->Prop)(a0 x:Nat)(w:World)(h:HM C w q sb (sL (sA g) L.length c) mb L D)(hcm:CM w sb pp rb nv K)(hs:sb∉[g,mb]/\pp∉[g,mb]/\rb∉[g,mb])(ha:a0<L.length)(hup:DN K (L.set a0 x) a0)(hj:Inj (L.set a0 x))(hpl:PL D (L.set a0 x) a0 X)(hv:∀y∈L.set a0 x,y<nv)(hnv:nv<=6000)(hL:L.length<=10000)(hD:size D<=9000) :
  Calls prog 73 #[pT q,iV (a0:Int),iV (x:Int)] w λe w'=>∃v L' D',e=.returned v/\HE C w w' q sb g c mb K (L.set a0 x) x D X L' D':=by
 have HS:=mh hs
 have H0:Z (RI C w w q sb g c mb pp rb nv K (L.set a0 x) x D X a0 L D):=⟨h,ha,by simp,hj,λy=>Iff.rfl,hpl,rfl,rfl,λv hv=>hv,OnS.refl _ _,hcm⟩
 have HU0:=mh hup
 have HX:=mh (hv x (Jo.2 ⟨a0,by simpa using ha,by rw[Qw ha,if_pos rfl]⟩))
 have hxv:x<=6000:=by have:=HX.o;omega
 have HD:=mh hD
 have HL:=mh hL
 have hal:a0<=10000:=by omega
 obtain⟨M,hM⟩:∃M,L.set a0 x=M:=⟨_,rfl⟩
 have HV:Z (∀y∈M,y<nv):=by rw[<-hM];exact hv
 have HLM:Z (M.length=L.length):=by unfold Z;rw[<-hM];simp
 have H1:Z (RI C w w q sb g c mb pp rb nv K M x D X a0 L D):=by rw[<-hM];exact H0.o
 rw[hM]
 clear h hcm hs hup hj hpl hv hD hM H0
 go_enter func73,ntmps73
 go_wp2
 go_loopw [1,6,7] (λa1 _ _ wr=>∃(a:Nat) (L':List Nat) (D':DM),a<=10000/\a1=iV (a:Int)/\Z (RI C w wr q sb g c mb pp rb nv K M x D X a L' D')/\Z (DN K (L'.set a x) a)) (λa1 _ _ _=>20000-(intOf a1).toNat)
 case atStart=>exact⟨a0,L,D,hal,rfl,H1,HU0⟩
 clear H1 HU0 hal ha
 obtain⟨a,L',D',hal,rfl,HR,HDN⟩:=hrel
 have HLL:Z (L'.length<=10000):=by have:=HR.o.l;have:=HLM.o;have:=HL.o;unfold Z;omega
 have HDD:Z (size D'<=9000):=by have:=HR.o.s;have:=HD.o;unfold Z;omega
 have k1:wr.cell? (aD q 1)=some (sL (sA g) L'.length c):=HR.o.h.q.c 1 rfl
 obtain⟨bl,hbl⟩:∃bl:Nat,2*(a:Int)+1=(bl:Int):=⟨2*a+1,by omega⟩
 have hble:bl=2*a+1:=by omega
 have hblb:bl<=30000:=by omega
 have HBLE:=mh hble
 have HBI:=mh hbl
 clear hbl
 have hl1:=HLL.o
 by_cases hend:L'.length<=bl
 ·have d1:decide ((L'.length:Int)<=(bl:Int))=true:=yB (by omega)
  have d1':=yB hend
  have HOK:=mh (HDN.o.done (λi h0 hl hp=>by rw[List.length_set] at hl;omega))
  clear hble
  go_upto_region 1 with fail
  rw[HBI.o]
  go_wp2_with fail
  refine(Zn C q sb mb g c L' D' a x _ HR.o.h HR.o.lt HLL.o (by omega) (by have:=HDD.o;omega)).mono ?_
  rintro e w2 ⟨v,rfl,hm,hon⟩
  have HF:=HR.o.close HOK.o hm hon
  clear hm hon
  go_wp2
  refine bodyPost_end (v:=.tuple #[]) (by simp[results,results73,go_sem]) rfl ⟨_,_,_,rfl,HF⟩
 have d1:decide ((L'.length:Int)<=(bl:Int))=false:=yC (by omega)
 have d1':=yC hend
 obtain⟨br,hbr⟩:∃br:Nat,(bl:Int)+1=(br:Int):=⟨bl+1,by omega⟩
 have hbre:br=bl+1:=by omega
 have HBR:=mh hbr
 have HBRE:=mh hbre
 have HBLL:Z (bl<L'.length):=by unfold Z;omega
 by_cases hr:br<L'.length
 case neg=>
  have d3:decide ((br:Int)<(L'.length:Int))=false:=yC (by omega)
  have d3':=yC hr
  have HMIN:Z (∀i,0<i->i<L'.length->(i-1)/2=a->¬rlt (K (lat L' i)) (K (lat L' bl))):=λi h0 hl hp=>by
   have:i=bl:=by omega
   subst this
   exact Ye _
  clear hbr hbre hble hend
  go_upto_region 1 with fail
  rw[HBI.o]
  go_upto_region 3 with fail
  rw[HBR.o]
  go_quiet (fail)
  have HR5:Z (RI C w (wr.drewN nq) q sb g c mb pp rb nv K M x D X a L' D'):=HR.o.next (J3 _ _)
  generalize wr.drewN nq=w5 at *
  clear k1 d1 d1' d3 d3' hr
  obtain⟨b,hb⟩:∃b:Nat,b=bl:=⟨_,rfl⟩
  subst hb
  have HBL:=mh HBLL.o
  have HBP:Z ((b-1)/2=a):=by have:=HBLE.o;unfold Z;omega
  have hba:a<b:=by have:=HBLE.o;omega
  have K0:Z (w5.cell? (aD q 0)=some (.func (.func 45) #[] #[pT sb])):=HR5.o.h.q.c 0 rfl
  have K1:Z (w5.cell? (aD q 1)=some (sL (sA g) L'.length c)):=HR5.o.h.q.c 1 rfl
  have KC:=mh (T9 HR5.o.h.i HBL.o)
  have HYV:=mh (HV.o _ ((HR5.o.e _).1 (Jo.2 ⟨b,by simpa using HBL.o,by rw[Qw HR5.o.lt,if_neg (by omega)]⟩)))
  have HCB:=Pw (K x) (K (lat L' b))
  have HCL:Z (Jy (K x) (K (lat L' b))<=0↔¬rlt (K (lat L' b)) (K x)):=Q2h _ _
  have CG:Z (∀d os,Calls prog 45 #[iV (x:Int),iV (lat L' b:Int),pT sb] (Sort.grow (redrawn w5 d) os) λe w''=>e=.returned (iV (Jy (K x) (K (lat L' b))))/\∃p:Regrown,w''=Sort.grow (redrawn w5 p.d) p.os):=
   λd os=>Calls.regrown_of (Zu sb pp rb nv x (lat L' b) K _ (HR5.o.cm.next (below_regrown w5 d os)) HX.o HYV.o hnv)
  have hyl:lat L' b<=10000:=by have:=HYV.o;omega
  have hbl:(b:Int)<(L'.length:Int):=by have:=HBL.o;omega
  generalize hy:lat L' b=y at *
  have HY:=mh hy
  clear hy
  have k0:=cell_regrown K0.o
  have k1:=cell_regrown K1.o
  have kc:=cell_regrown KC.o
  go_upto_region 5 with fail
  by_cases hlt:Jy (K x) (K y)<=0
  ·have d2:=yB hlt
   have HOK:Z (Up K (L'.set a x)):=HDN.o.done (λi h0 hl hp=>by
    rw[List.length_set] at hl
    rw[Qw HR5.o.lt,Qw HR5.o.lt,if_pos rfl,if_neg (by omega)]
    have h1:=HMIN.o i h0 hl hp
    exact Zd (HCL.o.1 hlt) h1)
   generalize Jy (K x) (K y)=cc at *
   refine wp_region_quiet_below (by kernel_rfl) (by kernel_rfl) ?_
   repeat (go_big_quiet_step (exact CG.o _ _))
   refine wpQuiet_nil ?_
   intro _ hw'
   obtain⟨⟨dq,osq⟩,hw''⟩:=hw'
   subst hw''
   have HQ:Z (Nx w5 (Sort.grow (redrawn w5 dq) osq)):=below_regrown w5 dq osq
   clear k0 k1 kc CG
   generalize Sort.grow (redrawn w5 dq) osq=w6 at *
   have HR6:=mh (HR5.o.next HQ.o)
   go_wp2_with fail
   refine(Zn C q sb mb g c L' D' a x _ HR6.o.h HR6.o.lt HLL.o (by omega) (by have:=HDD.o;omega)).mono ?_
   rintro e w2 ⟨v,rfl,hm,hon⟩
   have HF:=HR6.o.close HOK.o hm hon
   clear hm hon
   go_wp2
   refine bodyPost_end (v:=.tuple #[]) (by simp[results,results73,go_sem]) rfl ⟨_,_,_,rfl,HF⟩
  ·have d2:=yC hlt
   have HRL:Z (rlt (K (lat L' b)) (K x)):=by
    unfold Z
    rw[HY.o]
    exact Classical.byContradiction λe=>hlt (HCL.o.2 e)
   have HD2:=mh (HDN.o.step HR5.o.lt HBL.o (by omega) HBP.o HRL.o (λi h0 hl hp=>by rw[HY.o];exact HMIN.o i h0 hl hp))
   generalize Jy (K x) (K y)=cc at *
   refine wp_region_quiet_below (by kernel_rfl) (by kernel_rfl) ?_
   repeat (go_big_quiet_step (exact CG.o _ _))
   refine wpQuiet_nil ?_
   intro _ hw'
   obtain⟨⟨dq,osq⟩,hw''⟩:=hw'
   subst hw''
   have HQ:Z (Nx w5 (Sort.grow (redrawn w5 dq) osq)):=below_regrown w5 dq osq
   clear k0 k1 kc CG
   generalize Sort.grow (redrawn w5 dq) osq=w6 at *
   have HR6:=mh (HR5.o.next HQ.o)
   have k1:=Q0 HQ.o K1.o
   have kc:=Q0 HQ.o KC.o
   go_wp2_with fail
   refine(Zn C q sb mb g c L' D' a y _ HR6.o.h HR6.o.lt HLL.o (by omega) (by have:=HDD.o;omega)).mono ?_
   rintro e w2 ⟨v,rfl,hm,hon⟩
   have HF:=mh (HR6.o.step HBL.o (by omega) HS.o (by rw[HY.o];exact hm) hon)
   clear hm hon k1 kc
   go_wp2
   go_roundw
   case rel=>exact⟨b,_,_,by have:=HBL.o;have:=HLL.o;omega,rfl,HF,HD2⟩
   case measure=>simp[intOf];omega
 have d3:decide ((br:Int)<(L'.length:Int))=true:=yB (by omega)
 have d3':=yB hr
 have HBRL:=mh hr
 have hbr2:(br:Int)<(L'.length:Int):=by omega
 have hbl2:(bl:Int)<(L'.length:Int):=by have:=HBLL.o;omega
 have HYL:=mh (HV.o _ ((HR.o.e _).1 (Jo.2 ⟨bl,by simpa using HBLL.o,by rw[Qw HR.o.lt,if_neg (by omega)]⟩)))
 have HYR:=mh (HV.o _ ((HR.o.e _).1 (Jo.2 ⟨br,by simpa using hr,by rw[Qw HR.o.lt,if_neg (by omega)]⟩)))
 have P0:Z (wr.cell? (aD q 0)=some (.func (.func 45) #[] #[pT sb])):=HR.o.h.q.c 0 rfl
 have P1:Z (wr.cell? (aD q 1)=some (sL (sA g) L'.length c)):=HR.o.h.q.c 1 rfl
 have PL0:=mh (T9 HR.o.h.i HBLL.o)
 have PR0:=mh (T9 HR.o.h.i HBRL.o)
 have CG1:Z (∀d os,Calls prog 45 #[iV (lat L' br:Int),iV (lat L' bl:Int),pT sb] (Sort.grow (redrawn wr d) os) λe w''=>e=.returned (iV (Jy (K (lat L' br)) (K (lat L' bl))))/\∃p:Regrown,w''=Sort.grow (redrawn wr p.d) p.os):=
  λd os=>Calls.regrown_of (Zu sb pp rb nv (lat L' br) (lat L' bl) K _ (HR.o.cm.next (below_regrown wr d os)) HYR.o HYL.o hnv)
 have HCB1:=Pw (K (lat L' br)) (K (lat L' bl))
 have HCL1:Z (Jy (K (lat L' br)) (K (lat L' bl))<0↔rlt (K (lat L' br)) (K (lat L' bl))):=Q2g _ _
 clear hbr hbre hble hend hr
 go_upto_region 1 with fail
 rw[HBI.o]
 go_upto_region 3 with fail
 rw[HBR.o]
 clear k1
 have p0:=cell_regrown P0.o
 have p1:=cell_regrown P1.o
 have pl:=cell_regrown PL0.o
 have pr:=cell_regrown PR0.o
 by_cases hc1:Jy (K (lat L' br)) (K (lat L' bl))<0
 ·have d4:=yB hc1
  have HMIN:Z (∀i,0<i->i<L'.length->(i-1)/2=a->¬rlt (K (lat L' i)) (K (lat L' br))):=λi h0 hl hp=>by
   have h1:=HBLE.o
   have h2:=HBRE.o
   have:i=bl\/i=br:=by omega
   rcases this with e|e
   ·subst e;exact Yq (HCL1.o.1 hc1)
   ·subst e;exact Ye _
  generalize Jy (K (lat L' br)) (K (lat L' bl))=c1 at *
  refine wp_region_quiet_below (by kernel_rfl) (by kernel_rfl) ?_
  repeat (go_big_quiet_step (exact CG1.o _ _))
  refine wpQuiet_nil ?_
  intro _ hw'
  obtain⟨⟨dq,osq⟩,hw''⟩:=hw'
  subst hw''
  have HQ:Z (Nx wr (Sort.grow (redrawn wr dq) osq)):=below_regrown wr dq osq
  clear p0 p1 pl pr CG1
  generalize Sort.grow (redrawn wr dq) osq=w5 at *
  have HR5:=mh (HR.o.next HQ.o)
  clear d1 d1' d3 d3' hc1 HQ HCL1 HCB1
  obtain⟨b,hb⟩:∃b:Nat,b=br:=⟨_,rfl⟩
  subst hb
  have HBL:=mh HBRL.o
  have HBP:Z ((b-1)/2=a):=by have:=HBLE.o;have:=HBRE.o;unfold Z;omega
  have hba:a<b:=by have:=HBLE.o;have:=HBRE.o;omega
  have K0:Z (w5.cell? (aD q 0)=some (.func (.func 45) #[] #[pT sb])):=HR5.o.h.q.c 0 rfl
  have K1:Z (w5.cell? (aD q 1)=some (sL (sA g) L'.length c)):=HR5.o.h.q.c 1 rfl
  have KC:=mh (T9 HR5.o.h.i HBL.o)
  have HYV:=mh (HV.o _ ((HR5.o.e _).1 (Jo.2 ⟨b,by simpa using HBL.o,by rw[Qw HR5.o.lt,if_neg (by omega)]⟩)))
  have HCB:=Pw (K x) (K (lat L' b))
  have HCL:Z (Jy (K x) (K (lat L' b))<=0↔¬rlt (K (lat L' b)) (K x)):=Q2h _ _
  have CG:Z (∀d os,Calls prog 45 #[iV (x:Int),iV (lat L' b:Int),pT sb] (Sort.grow (redrawn w5 d) os) λe w''=>e=.returned (iV (Jy (K x) (K (lat L' b))))/\∃p:Regrown,w''=Sort.grow (redrawn w5 p.d) p.os):=
   λd os=>Calls.regrown_of (Zu sb pp rb nv x (lat L' b) K _ (HR5.o.cm.next (below_regrown w5 d os)) HX.o HYV.o hnv)
  have hyl:lat L' b<=10000:=by have:=HYV.o;omega
  have hbl:(b:Int)<(L'.length:Int):=by have:=HBL.o;omega
  generalize hy:lat L' b=y at *
  have HY:=mh hy
  clear hy
  have k0:=cell_regrown K0.o
  have k1:=cell_regrown K1.o
  have kc:=cell_regrown KC.o
  go_upto_region 5 with fail
  by_cases hlt:Jy (K x) (K y)<=0
  ·have d2:=yB hlt
   have HOK:Z (Up K (L'.set a x)):=HDN.o.done (λi h0 hl hp=>by
    rw[List.length_set] at hl
    rw[Qw HR5.o.lt,Qw HR5.o.lt,if_pos rfl,if_neg (by omega)]
    have h1:=HMIN.o i h0 hl hp
    exact Zd (HCL.o.1 hlt) h1)
   generalize Jy (K x) (K y)=cc at *
   refine wp_region_quiet_below (by kernel_rfl) (by kernel_rfl) ?_
   repeat (go_big_quiet_step (exact CG.o _ _))
   refine wpQuiet_nil ?_
   intro _ hw'
   obtain⟨⟨dq,osq⟩,hw''⟩:=hw'
   subst hw''
   have HQ:Z (Nx w5 (Sort.grow (redrawn w5 dq) osq)):=below_regrown w5 dq osq
   clear k0 k1 kc CG
   generalize Sort.grow (redrawn w5 dq) osq=w6 at *
   have HR6:=mh (HR5.o.next HQ.o)
   go_wp2_with fail
   refine(Zn C q sb mb g c L' D' a x _ HR6.o.h HR6.o.lt HLL.o (by omega) (by have:=HDD.o;omega)).mono ?_
   rintro e w2 ⟨v,rfl,hm,hon⟩
   have HF:=HR6.o.close HOK.o hm hon
   clear hm hon
   go_wp2
   refine bodyPost_end (v:=.tuple #[]) (by simp[results,results73,go_sem]) rfl ⟨_,_,_,rfl,HF⟩
  ·have d2:=yC hlt
   have HRL:Z (rlt (K (lat L' b)) (K x)):=by
    unfold Z
    rw[HY.o]
    exact Classical.byContradiction λe=>hlt (HCL.o.2 e)
   have HD2:=mh (HDN.o.step HR5.o.lt HBL.o (by omega) HBP.o HRL.o (λi h0 hl hp=>by rw[HY.o];exact HMIN.o i h0 hl hp))
   generalize Jy (K x) (K y)=cc at *
   refine wp_region_quiet_below (by kernel_rfl) (by kernel_rfl) ?_
   repeat (go_big_quiet_step (exact CG.o _ _))
   refine wpQuiet_nil ?_
   intro _ hw'
   obtain⟨⟨dq,osq⟩,hw''⟩:=hw'
   subst hw''
   have HQ:Z (Nx w5 (Sort.grow (redrawn w5 dq) osq)):=below_regrown w5 dq osq
   clear k0 k1 kc CG
   generalize Sort.grow (redrawn w5 dq) osq=w6 at *
   have HR6:=mh (HR5.o.next HQ.o)
   have k1:=Q0 HQ.o K1.o
   have kc:=Q0 HQ.o KC.o
   go_wp2_with fail
   refine(Zn C q sb mb g c L' D' a y _ HR6.o.h HR6.o.lt HLL.o (by omega) (by have:=HDD.o;omega)).mono ?_
   rintro e w2 ⟨v,rfl,hm,hon⟩
   have HF:=mh (HR6.o.step HBL.o (by omega) HS.o (by rw[HY.o];exact hm) hon)
   clear hm hon k1 kc
   go_wp2
   go_roundw
   case rel=>exact⟨b,_,_,by have:=HBL.o;have:=HLL.o;omega,rfl,HF,HD2⟩
   case measure=>simp[intOf];omega
 ·have d4:=yC hc1
  have HMIN:Z (∀i,0<i->i<L'.length->(i-1)/2=a->¬rlt (K (lat L' i)) (K (lat L' bl))):=λi h0 hl hp=>by
   have h1:=HBLE.o
   have h2:=HBRE.o
   have:i=bl\/i=br:=by omega
   rcases this with e|e
   ·subst e;exact Ye _
   ·subst e;exact λe=>hc1 (HCL1.o.2 e)
  generalize Jy (K (lat L' br)) (K (lat L' bl))=c1 at *
  refine wp_region_quiet_below (by kernel_rfl) (by kernel_rfl) ?_
  repeat (go_big_quiet_step (exact CG1.o _ _))
  refine wpQuiet_nil ?_
  intro _ hw'
  obtain⟨⟨dq,osq⟩,hw''⟩:=hw'
  subst hw''
  have HQ:Z (Nx wr (Sort.grow (redrawn wr dq) osq)):=below_regrown wr dq osq
  clear p0 p1 pl pr CG1
  generalize Sort.grow (redrawn wr dq) osq=w5 at *
  have HR5:=mh (HR.o.next HQ.o)
  clear d1 d1' d3 d3' hc1 HQ HCL1 HCB1
  obtain⟨b,hb⟩:∃b:Nat,b=bl:=⟨_,rfl⟩
  subst hb
  have HBL:=mh HBLL.o
  have HBP:Z ((b-1)/2=a):=by have:=HBLE.o;unfold Z;omega
  have hba:a<b:=by have:=HBLE.o;omega
  have K0:Z (w5.cell? (aD q 0)=some (.func (.func 45) #[] #[pT sb])):=HR5.o.h.q.c 0 rfl
  have K1:Z (w5.cell? (aD q 1)=some (sL (sA g) L'.length c)):=HR5.o.h.q.c 1 rfl
  have KC:=mh (T9 HR5.o.h.i HBL.o)
  have HYV:=mh (HV.o _ ((HR5.o.e _).1 (Jo.2 ⟨b,by simpa using HBL.o,by rw[Qw HR5.o.lt,if_neg (by omega)]⟩)))
  have HCB:=Pw (K x) (K (lat L' b))
  have HCL:Z (Jy (K x) (K (lat L' b))<=0↔¬rlt (K (lat L' b)) (K x)):=Q2h _ _
  have CG:Z (∀d os,Calls prog 45 #[iV (x:Int),iV (lat L' b:Int),pT sb] (Sort.grow (redrawn w5 d) os) λe w''=>e=.returned (iV (Jy (K x) (K (lat L' b))))/\∃p:Regrown,w''=Sort.grow (redrawn w5 p.d) p.os):=
   λd os=>Calls.regrown_of (Zu sb pp rb nv x (lat L' b) K _ (HR5.o.cm.next (below_regrown w5 d os)) HX.o HYV.o hnv)
  have hyl:lat L' b<=10000:=by have:=HYV.o;omega
  have hbl:(b:Int)<(L'.length:Int):=by have:=HBL.o;omega
  generalize hy:lat L' b=y at *
  have HY:=mh hy
  clear hy
  have k0:=cell_regrown K0.o
  have k1:=cell_regrown K1.o
  have kc:=cell_regrown KC.o
  go_upto_region 5 with fail
  by_cases hlt:Jy (K x) (K y)<=0
  ·have d2:=yB hlt
   have HOK:Z (Up K (L'.set a x)):=HDN.o.done (λi h0 hl hp=>by
    rw[List.length_set] at hl
    rw[Qw HR5.o.lt,Qw HR5.o.lt,if_pos rfl,if_neg (by omega)]
    have h1:=HMIN.o i h0 hl hp
    exact Zd (HCL.o.1 hlt) h1)
   generalize Jy (K x) (K y)=cc at *
   refine wp_region_quiet_below (by kernel_rfl) (by kernel_rfl) ?_
   repeat (go_big_quiet_step (exact CG.o _ _))
   refine wpQuiet_nil ?_
   intro _ hw'
   obtain⟨⟨dq,osq⟩,hw''⟩:=hw'
   subst hw''
   have HQ:Z (Nx w5 (Sort.grow (redrawn w5 dq) osq)):=below_regrown w5 dq osq
   clear k0 k1 kc CG
   generalize Sort.grow (redrawn w5 dq) osq=w6 at *
   have HR6:=mh (HR5.o.next HQ.o)
   go_wp2_with fail
   refine(Zn C q sb mb g c L' D' a x _ HR6.o.h HR6.o.lt HLL.o (by omega) (by have:=HDD.o;omega)).mono ?_
   rintro e w2 ⟨v,rfl,hm,hon⟩
   have HF:=HR6.o.close HOK.o hm hon
   clear hm hon
   go_wp2
   refine bodyPost_end (v:=.tuple #[]) (by simp[results,results73,go_sem]) rfl ⟨_,_,_,rfl,HF⟩
  ·have d2:=yC hlt
   have HRL:Z (rlt (K (lat L' b)) (K x)):=by
    unfold Z
    rw[HY.o]
    exact Classical.byContradiction λe=>hlt (HCL.o.2 e)
   have HD2:=mh (HDN.o.step HR5.o.lt HBL.o (by omega) HBP.o HRL.o (λi h0 hl hp=>by rw[HY.o];exact HMIN.o i h0 hl hp))
   generalize Jy (K x) (K y)=cc at *
   refine wp_region_quiet_below (by kernel_rfl) (by kernel_rfl) ?_
   repeat (go_big_quiet_step (exact CG.o _ _))
   refine wpQuiet_nil ?_
   intro _ hw'
   obtain⟨⟨dq,osq⟩,hw''⟩:=hw'
   subst hw''
   have HQ:Z (Nx w5 (Sort.grow (redrawn w5 dq) osq)):=below_regrown w5 dq osq
   clear k0 k1 kc CG
   generalize Sort.grow (redrawn w5 dq) osq=w6 at *
   have HR6:=mh (HR5.o.next HQ.o)
   have k1:=Q0 HQ.o K1.o
   have kc:=Q0 HQ.o KC.o
   go_wp2_with fail
   refine(Zn C q sb mb g c L' D' a y _ HR6.o.h HR6.o.lt HLL.o (by omega) (by have:=HDD.o;omega)).mono ?_
   rintro e w2 ⟨v,rfl,hm,hon⟩
   have HF:=mh (HR6.o.step HBL.o (by omega) HS.o (by rw[HY.o];exact hm) hon)
   clear hm hon k1 kc
   go_wp2
   go_roundw
   case rel=>exact⟨b,_,_,by have:=HBL.o;have:=HLL.o;omega,rfl,HF,HD2⟩
   case measure=>simp[intOf];omega
structure HQ (C:Nat)(w:World)(q sb:Nat)(iv:Value)(mb:Nat)(K:Nat->Rk)(nv:Nat)(L:List Nat)(D:DM):Prop where
 h:HM C w q sb iv mb L D
 o:Up K L
 j:Inj L
 p:PL D L L.length (λ_=>False)
 v:∀y∈L,y<nv
 s:size D<=L.length
theorem Ik (h:i<=L.length):lat (L++[x]) i=if i=L.length then x else lat L i:=by
 unfold lat
 rw[zD,zD,List.getElem?_append]
 by_cases e:i=L.length
 ·subst e;simp
 ·rw[if_pos (by omega),if_neg e]
theorem Q84 (L:List Nat)(x:Nat):(L++[x]).set L.length x=L++[x]:=by
 apply List.ext_getElem?
 intro i
 rw[List.getElem?_set]
 by_cases e:L.length=i
 ·subst e;simp
 ·rw[if_neg e]
theorem Q37 (ha:a<L.length)(h:lat L a=x):L.set a x=L:=by
 apply List.ext_getElem?
 intro i
 rw[List.getElem?_set]
 by_cases e:a=i
 ·subst e
  rw[if_pos rfl,if_pos ha]
  unfold lat at h
  rw[zD,zH ha] at h
  rw[zH ha]
  simpa using h.symm
 ·rw[if_neg e]
theorem HQ.app {nv:Nat}(h:HQ C w q sb iv mb K nv L D)(hx:x∉L)(hK:∀y,y≠x->K' y=K y) :
  UP K' ((L++[x]).set L.length x) L.length/\Inj ((L++[x]).set L.length x)/\PL D ((L++[x]).set L.length x) L.length (λ_=>False):=by
 rw[Q84]
 have hne:∀i,i<L.length->lat L i≠x:=λi hi e=>hx (e▸T7 hi)
 refine⟨⟨λi h0 hl hi=>?_,λi h0 hl hp h1=>?_⟩,λi j hi hj e=>?_,h.p.m,h.p.t,λi hi hi'=>?_,λv hv=>?_⟩
 ·rw[zA,List.length_singleton] at hl
  rw[Ik (by omega),Ik (by omega),if_neg (by omega),if_neg (by omega),hK _ (hne i (by omega)),hK _ (hne _ (by omega))]
  exact h.o i h0 (by omega)
 ·rw[zA,List.length_singleton] at hl
  omega
 ·rw[zA,List.length_singleton] at hi hj
  rw[Ik (by omega),Ik (by omega)] at e
  by_cases c1:i=L.length
  ·by_cases c2:j=L.length
   ·omega
   ·rw[if_pos c1,if_neg c2] at e
    exact absurd e.symm (hne j (by omega))
  ·by_cases c2:j=L.length
   ·rw[if_neg c1,if_pos c2] at e
    exact absurd e (hne i (by omega))
   ·rw[if_neg c1,if_neg c2] at e
    exact h.j i j (by omega) (by omega) e
 ·rw[zA,List.length_singleton] at hi
  rw[Ik (by omega),if_neg hi']
  exact h.p.p i (by omega) (by omega)
 ·rcases h.p.k v hv with g|g
  ·exact oL (List.mem_append_left _ g)
  ·exact g.elim
theorem HQ.dec {nv:Nat}(h:HQ C w q sb iv mb K nv L D)(ha:a<L.length)(hx:lat L a=x)(hK:∀y,y≠x->K' y=K y)(hd:¬rlt (K x) (K' x)) :
  UP K' (L.set a x) a/\Inj (L.set a x)/\PL D (L.set a x) a (λ_=>False):=by
 rw[Q37 ha hx]
 have hne:∀i,i<L.length->i≠a->lat L i≠x:=λi hi hia e=>hia (h.j i a hi ha (e.trans hx.symm))
 refine⟨⟨λi h0 hl hi=>?_,λi h0 hl hp h1=>?_⟩,h.j,h.p.m,h.p.t,λi hi hi'=>h.p.p i hi (by omega),h.p.k⟩
 ·rw[hK _ (hne i hl hi)]
  have q1:=h.o i h0 hl
  by_cases c:(i-1)/2=a
  ·rw[c,hx] at q1 ⊢
   exact Zd hd q1
  ·rw[hK _ (hne _ (by omega) c)]
   exact q1
 ·rw[hK _ (hne i hl (by omega)),hK _ (hne _ (by omega) (by omega))]
  have q1:=h.o i h0 hl
  have q2:=h.o a h1 ha
  rw[hp] at q1
  exact Zd q2 q1
theorem Qbe (h:i<k):lat (L.take k) i=lat L i:=by
 unfold lat
 rw[zD,zD,zQ h]
theorem HQ.pop {nv:Nat}(h:HQ C w q sb iv mb K nv L D)(hk:L.length=k+1)(h0:0<k) :
  DN K ((L.take k).set 0 (lat L k)) 0/\Inj ((L.take k).set 0 (lat L k))/\PL D ((L.take k).set 0 (lat L k)) 0 (λv=>v=lat L 0)/\(∀y,y∈(L.take k).set 0 (lat L k)↔y∈L/\y≠lat L 0):=by
 have hl:(L.take k).length=k:=by rw[zX];omega
 have e:∀i,i<k->lat ((L.take k).set 0 (lat L k)) i=if i=0 then lat L k else lat L i:=λi hi=>by
  rw[Qw (by omega)]
  by_cases c:i=0
  ·rw[if_pos c,if_pos c]
  ·rw[if_neg c,if_neg c,Qbe hi]
 have hmem:∀y,y∈(L.take k).set 0 (lat L k)↔y∈L/\y≠lat L 0:=by
  intro y
  rw[Jo,Jo]
  simp only[List.length_set,hl]
  constructor
  ·rintro⟨i,hi,ei⟩
   rw[e i hi] at ei
   by_cases c:i=0
   ·rw[if_pos c] at ei
    refine⟨⟨k,by omega,ei⟩,λg=>?_⟩
    have:=h.j k 0 (by omega) (by omega) (ei.trans g)
    omega
   ·rw[if_neg c] at ei
    refine⟨⟨i,by omega,ei⟩,λg=>?_⟩
    exact c (h.j i 0 (by omega) (by omega) (ei.trans g))
  ·rintro⟨⟨i,hi,ei⟩,hne⟩
   have c:i≠0:=λg=>hne (by rw[<-ei,g])
   by_cases c2:i=k
   ·exact⟨0,h0,by rw[e 0 h0,if_pos rfl,<-c2];exact ei⟩
   ·exact⟨i,by omega,by rw[e i (by omega),if_neg c];exact ei⟩
 refine⟨⟨λi hi hlt hp=>?_,λi hi hlt hp h1=>absurd h1 (by omega)⟩,λi j hi hj eij=>?_,⟨h.p.m,h.p.t,λi hi hne=>?_,λv hv=>?_⟩,hmem⟩
 ·rw[List.length_set,hl] at hlt
  rw[e i hlt,e _ (by omega),if_neg (by omega),if_neg hp]
  exact h.o i hi (by omega)
 ·rw[List.length_set,hl] at hi hj
  rw[e i hi,e j hj] at eij
  by_cases c1:i=0
  ·by_cases c2:j=0
   ·omega
   ·rw[if_pos c1,if_neg c2] at eij
    have:=h.j k j (by omega) (by omega) eij
    omega
  ·by_cases c2:j=0
   ·rw[if_neg c1,if_pos c2] at eij
    have:=h.j i k (by omega) (by omega) eij
    omega
   ·rw[if_neg c1,if_neg c2] at eij
    exact h.j i j (by omega) (by omega) eij
 ·rw[List.length_set,hl] at hi
  rw[e i hi,if_neg hne]
  exact h.p.p i (by omega) (by omega)
 ·rcases h.p.k v hv with g|g
  ·by_cases c:v=lat L 0
   ·exact oR c
   ·exact oL ((hmem v).2 ⟨g,c⟩)
  ·exact g.elim
theorem PL.drop (h:PL D M M.length (λv=>v=x))(hx:x∉M):PL (D.del (kv x)) M M.length (λ_=>False)/\size (D.del (kv x))<=size D:=by
 refine⟨⟨h.m.del _,h.t.del _,λi hi hne=>?_,λv hv=>?_⟩,?_⟩
 ·have hn:lat M i≠x:=λe=>hx (e▸T7 hi)
  rw[has_del_other (Uf hn),atKey_del_other (Uf hn)]
  exact h.p i hi hne
 ·by_cases e:v=x
  ·subst e;rw[has_del_same] at hv;cases hv
  ·rw[has_del_other (Uf e)] at hv
   rcases h.k v hv with g|g
   ·exact oL g
   ·exact absurd g e
 ·have:=size_del (k:=kv x) h.t
  split at this<;>omega
theorem PL.dropsz (h:PL D M M.length (λv=>v=x))(hx:has D (kv x)=true):size (D.del (kv x))+1=size D:=by
 have:=size_del (k:=kv x) h.t
 rw[if_pos hx] at this
 exact this
theorem Q5.cut {c:Nat}(h:Q5 C w (.slice (some ⟨g,0,none⟩) n c) zs)(hk:k<=zs.length):Q5 C w (.slice (some ⟨g,0,none⟩) k c) (zs.take k):=by
 obtain⟨h1,h2⟩:=h
 rcases h2 with⟨h2,_⟩|⟨g',cap,cur,hv,hg,hh,hc,hm,hs,ht⟩
 ·simp at h2
 simp only[zC,Option.some.injEq,Addr.mk.injEq,and_true] at hv
 obtain⟨rfl,rfl,rfl⟩:=hv
 have hl:(zs.take k).length=k:=by rw[zX];omega
 refine⟨by simp[J0],oR ⟨g,c,cur,by rw[hl],hg,hh,by rw[hl];omega,hm,hs,?_⟩⟩
 rw[hl]
 have:J0 (zs.take k)=(J0 zs).take k:=by simp[J0,List.map_take]
 rw[this,<-ht,List.take_take]
 congr 1
 omega
theorem Q9e (L:List Nat)(k:Nat):(Ys L).take k=Ys (L.take k):=by unfold Ys;rw[List.map_take]
theorem Q43 (L:List Nat)(x:Nat):Ys L++[(x:Int)]=Ys (L++[x]):=by unfold Ys;simp
theorem Qcs (w:World):(zeroValue 3).run prog w=.ok (.int .i64 0) w:=by kernel_rfl
theorem Qb8 (h:w.ownsMap prog 2 (plainElem prog 3) mb n D)(hx:x<=100000):∃c:Int,(Instr.lookup 122 (.map (some mb)) (.int .i64 (x:Int)) true).run prog w=.ok (.tuple #[.int .i64 c,.bool (has D (kv x))]) w/\D.atKey (kv x) (.lit (.int .i64 0))=.lit (.int .i64 c):=by
 obtain⟨v,ps,hrun,hv⟩:=h.look_ok Qdu underlying122 (Qcs w) (zd:=.lit (.int .i64 0)) (zp:=[]) (plainElem_int underlying3 (by decide)) (Q7m x hx)
 obtain⟨c,rfl,hc,_⟩:=plainElem_int_inv underlying3 hv
 exact⟨c,hrun,congrArg Prod.fst hc⟩
def hbl (q mb:Nat)(iv:Value):List Nat:=q::mb::iv.ownBlock.toList
theorem Pv (h:iv.ownBlock=some g):g∈hbl q mb iv:=by simp[hbl,h]
theorem Pu {c:Nat}(h:b∉hbl q mb (sL (sA g) n c)):b∉[g,mb]:=by
 simp[hbl,Value.ownBlock] at h
 simp
 exact⟨h.2.2,h.2.1⟩
theorem HE.hq {c:Nat}{nv:Nat}(h:HE C w w' q sb g c mb K M x D (λ_=>False) L' D')(hv:∀y∈M,y<nv)(hs:size D'<=M.length):HQ C w' q sb (sL (sA g) L'.length c) mb K nv L' D':=
 ⟨h.h,h.o,h.j,h.p,λy hy=>hv y ((h.e y).1 hy),by rw[h.l];exact hs⟩
theorem QB.set (h:QB w q sb iv mb)(v:Value):QB (w.setCell (aD q 1) v) q sb v mb:=by
 unfold QB at *
 simp[World.setCell,Array.getElem?_modify,h]
structure PTV (C:Nat)(w w':World)(q sb mb:Nat)(iv:Value)(K:Nat->Rk)(nv:Nat)(L:List Nat)(x:Nat)(iv':Value)(L':List Nat)(D':DM):Prop where
 h:HQ C w' q sb iv' mb K nv L' D'
 e:∀y,y∈L'↔y∈L\/y=x
 b:∀g,iv'.ownBlock=some g->iv.ownBlock=some g\/w.heap.size<=g
 on:OnS (hbl q mb iv) w w'
theorem Q79 (C q sb mb pp rb nv:Nat)(iv:Value)(K K':Nat->Rk)(L:List Nat)(D:DM)(x:Nat)(w:World)(h:HQ C w q sb iv mb K nv L D)(hcm:CM w sb pp rb nv K')(hK:∀y,y≠x->K' y=K y)(hd:x∈L->¬rlt (K x) (K' x))(hx:x<nv)(hnv:nv<=6000)(hs:sb∉hbl q mb iv/\pp∉hbl q mb iv/\rb∉hbl q mb iv)(hC:C<=w.heap.size) :
  Calls prog 72 #[pT q,iV (x:Int)] w λe w'=>∃v iv' L' D',e=.returned v/\PTV C w w' q sb mb iv K' nv L x iv' L' D':=by
 obtain⟨ii,hi,hz0,hz1,hz2⟩:=info_parts Zp
 have H:=mh h
 have HCM:=mh hcm
 have HK:=mh hK
 have HS:=mh hs
 have HLN:Z (L.length<=6000):=by have:=Pr nv L h.j.nodup h.v;unfold Z;omega
 have HSZ:=mh h.s
 have hxb:x<=6000:=by omega
 have HXV:=mh hx
 have HC:=mh hC
 obtain⟨c0,hrun,hat⟩:=Qb8 h.h.m (x:=x) (by omega)
 have k2:w.cell? (aD q 2)=some (.map (some mb)):=h.h.q.c 2 rfl
 obtain⟨av,cv,hvs⟩:=h.h.i.slice
 rw[Ja] at hvs
 have k1:w.cell? (aD q 1)=some (sL av L.length cv):=by rw[<-hvs];exact h.h.q.c 1 rfl
 by_cases hin:has D (kv x)=true
 ·have hxL:=(h.p.k x hin).elim id (λg=>g.elim)
  obtain⟨a,ha,hax⟩:=Jo.1 hxL
  obtain⟨hu,hj,hp⟩:=h.dec ha hax hK (hd hxL)
  have hca:c0=(a:Int):=by
   have:=(h.p.p a ha (by omega)).2
   rw[hax,hat] at this
   unfold pv at this
   simpa using this
  have HU:=mh hu
  have HJ:=mh hj
  have HP:=mh hp
  have HA:=mh ha
  have HSS:=mh (Q37 ha hax)
  have HHIN:=mh hin
  obtain⟨g,hg⟩:∃g,av=some (aD g 0):=by
   have hi:=h.h.i
   rw[hvs] at hi
   obtain⟨g,e,_⟩:=hi.cell (i:=a) (by rw[Ja];exact ha)
   exact⟨g,e⟩
  have HVS:Z (iv=sL (sA g) L.length cv):=by unfold Z;rw[hvs,hg]
  rw[hin,hca] at hrun
  subst hg
  clear h hcm hK hd hs hu hj hp hax hxL hat hca hvs hin hC hx ha
  go_enter func72,ntmps72
  go_wp2_with fail
  refine(Q39 C q sb mb g cv pp rb nv K' L D (λ_=>False) a x _ (by rw[<-HVS.o];exact H.o.h) HCM.o (by have:=HS.o;rw[HVS.o] at this;exact⟨Pu this.1,Pu this.2.1,Pu this.2.2⟩) HA.o HU.o HJ.o HP.o (by rw[HSS.o];exact H.o.v) hnv (by have:=HLN.o;omega) (by have:=HLN.o;have:=HSZ.o;omega)).mono ?_
  rintro e w2 ⟨v,L',D',rfl,he⟩
  have HF:PTV C w w2 q sb mb iv K' nv L x (sL (sA g) L'.length cv) L' D':=by
   refine⟨he.hq (by rw[HSS.o];exact H.o.v) (by rw[HSS.o,he.t HHIN.o];exact HSZ.o),λy=>?_,λg' e=>?_,he.on.mono (λb hb=>?_)⟩
   ·rw[he.e,HSS.o]
    refine⟨Or.inl,λg=>g.elim id (λg=>?_)⟩
    rw[g]
    exact(H.o.p.k x HHIN.o).elim id (λg=>g.elim)
   ·left;rw[HVS.o];exact e
   ·rw[HVS.o]
    simp[hbl,Value.ownBlock] at hb ⊢
    omega
  clear he
  go_wp2
  refine bodyPost_end (v:=.tuple #[]) (by simp[results,results72,go_sem]) rfl ⟨_,_,_,_,rfl,HF⟩
 ·have hin':has D (kv x)=false:=by simpa using hin
  have hxL:x∉L:=λg=>by
   obtain⟨a,ha,hax⟩:=Jo.1 g
   have:=(h.p.p a ha (by omega)).1
   rw[hax] at this
   exact hin this
  obtain⟨hu,hj,hp⟩:=h.app hxL hK
  have HU:=mh hu
  have HJ:=mh hj
  have HP:=mh hp
  have HSS:=mh (Q84 L x)
  have HI:Z (Q5 C w (sL av L.length cv) (Ys L)):=by rw[<-hvs];exact h.h.i
  have HVS:=mh hvs
  rw[hin'] at hrun
  clear h hcm hK hd hs hu hj hp hat hvs hin hin' hC hx hxL
  generalize hn:L.length=n at *
  have HN:=mh hn
  have hnb:=HLN.o
  clear hn
  go_enter func72,ntmps72
  go_wp2_with (at_builtin;refine wpList_append_own_at _ rfl _ _ 23 rfl C 2 ii (iV 0) 1 8 underlying23 hi hz0 hz1 hz2 rfl (by decide) _ _ _ rfl (zB HI.o _) (aD w.heap.size 0) 1 1 [iV (x:Int)] rfl rfl (λj u hj=>Qn w _ _ _ rfl j u hj) ?c2 ?c3 ?c4 ?c5 ?_)
  case c2=>intro u hu;simp at hu;subst hu;rfl
  case c3=>rw[Ja,HN.o];unfold maxLen;omega
  case c4=>rw[Ja,HN.o];omega
  case c5=>rw[Q1];have:=HC.o;omega
  intro v7 w7 hown hgrow _ hat7
  have HI7:Z (Q5 C w7 v7 (Ys (L++[x]))):=by rw[<-Q43];exact Q5.snoc hown
  obtain⟨g7,c7,hv7⟩:∃g7 c7,v7=.slice (sA g7) (L++[x]).length c7:=by
   obtain⟨a,c,e⟩:=HI7.o.slice
   have hi7:=HI7.o
   rw[e] at hi7
   obtain⟨g,e2,_⟩:=hi7.cell (i:=n) (by rw[Ja,zA,HN.o];simp)
   exact⟨g,c,by rw[e,e2,Ja]⟩
  have HV7:=mh hv7
  have HQW:=mh H.o.h.q
  have HNE:=mh H.o.h.ne
  have hql:=(Array.getElem?_eq_some_iff.1 HQW.o).1
  have HQ7:Z (QB w7 q sb iv mb):=by
   have h1:QB (w.alloc (.cells #[iV (x:Int)] 2)) q sb iv mb:=(Below.heap_alloc w _ q hql).trans HQW.o
   exact(hgrow.block q (by rw[Q1];omega) (λe=>(HNE.o.2 q (by rw[HVS.o];exact e.symm)).1 rfl)).trans h1
  have HM7:=mh ((H.o.h.m.alloc _).kept hgrow (λe=>(HNE.o.2 mb (by rw[HVS.o];exact e.symm)).2 rfl))
  have HG7:Z (iv.ownBlock=some g7\/g7=w.heap.size+1):=by
   unfold Z
   rw[HV7.o] at hat7
   rcases hat7 with e|e
   ·left;rw[HVS.o];exact e.symm
   ·right;exact zE e
  have HG7q:Z (g7≠q):=by
   rcases HG7.o with e|e
   ·exact(HNE.o.2 g7 e).1
   ·intro e';omega
  have HM8:Z (HM C (w7.setCell (aD q 1) v7) q sb v7 mb (L++[x]) D):=by
   refine⟨HQ7.o.set v7,HI7.o.kept (λg e=>?_),HM7.o.setCell (λe=>HNE.o.1 e.symm) _⟩
   rw[HV7.o] at e
   have:g7=g:=zE e
   subst this
   exact Below.heap_setCell _ _ _ _ HG7q.o
  have HO8:Z (OnS (hbl q mb iv) w (w7.setCell (aD q 1) v7)):=((OnS.nx (Qe w _)).tr (OnS.grown hgrow (λg e=>Pv (by rw[HVS.o];exact e)))).tr (OnS.set _ _ (by simp[hbl]) _ _)
  have HCM8:=mh (HCM.o.on HO8.o HS.o.1 HS.o.2.1 HS.o.2.2)
  have HS8:Z (sb∉[g7,mb]/\pp∉[g7,mb]/\rb∉[g7,mb]):=by
   obtain⟨q1,⟨c,q2⟩,q3⟩:=HCM.o
   have l1:=Jk q1
   have l2:=Jk q2
   have l3:=q3.lt
   have key:∀b,b∉hbl q mb iv->b<w.heap.size->b∉[g7,mb]:=λb hb hl hb'=>by
    simp at hb'
    rcases hb' with e|e
    ·rcases HG7.o with e'|e'
     ·exact hb (e▸Pv e')
     ·omega
    ·exact hb (by rw[e];simp[hbl])
   exact⟨key _ HS.o.1 l1,key _ HS.o.2.1 l2,key _ HS.o.2.2 l3⟩
  have k7:w7.cell? (aD q 1)=some iv:=HQ7.o.c 1 rfl
  have z7:=HQ7.o.blk.frozen 1
  have HVV:Z (∀y∈(L++[x]).set n x,y<nv):=by
   unfold Z
   rw[HSS.o]
   intro y hy
   rcases List.mem_append.1 hy with g|g
   ·exact H.o.v y g
   ·have:y=x:=by simpa using g
    subst this
    exact HXV.o
  have HLA:Z ((L++[x]).length=n+1):=by unfold Z;rw[zA,HN.o];rfl
  generalize hll:(L++[x]).length=l7 at hv7
  have HLL:=mh hll
  subst hv7
  clear hown hgrow hat7 hll k1 k2 hrun
  rw[HVS.o] at k7
  go_wp2_with fail
  refine(Q39 C q sb mb g7 c7 pp rb nv K' (L++[x]) D (λ_=>False) n x _ (by rw[HLL.o];exact HM8.o) HCM8.o HS8.o (by have:=HLA.o;omega) HU.o HJ.o HP.o HVV.o hnv (by have:=HLA.o;omega) (by have:=HSZ.o;omega)).mono ?_
  rintro e w2 ⟨v,L',D',rfl,he⟩
  have HF:PTV C w w2 q sb mb iv K' nv L x (sL (sA g7) L'.length c7) L' D':=by
   refine⟨he.hq HVV.o (by rw[HSS.o];have h1:=he.s;have h2:=HSZ.o;have h3:=HLA.o;omega),λy=>?_,λg' e=>?_,HO8.o.trans he.on (λb hb=>?_)⟩
   ·rw[he.e,HSS.o]
    simp
   ·have:g7=g':=zE e
    subst this
    rcases HG7.o with e'|e'
    ·exact oL e'
    ·exact oR (by omega)
   ·simp at hb
    rcases hb with e'|e'
    ·rcases HG7.o with e''|e''
     ·exact oL (e'▸Pv e'')
     ·exact oR (by omega)
    ·exact oL (by rw[e'];simp[hbl])
  clear he
  go_wp2
  refine bodyPost_end (v:=.tuple #[]) (by simp[results,results72,go_sem]) rfl ⟨_,_,_,_,rfl,HF⟩
theorem OnS.turned (h:w.mapTurned w' mb):OnS [mb] w w':=by
 obtain⟨es,clock,es',clock',hb,rfl⟩:=h
 exact⟨rfl,rfl,rfl,by simp[ChangeMaps.setBlock],λb hb' hn=>ChangeMaps.heap_setBlock_other hb _ (λe=>hn (by simp[e]))⟩
theorem Q5.cap {a:Option Addr}{c:Nat}(h:Q5 C w (sL a n c) zs):n<=c:=by
 obtain⟨h1,h2⟩:=h
 rcases h2 with⟨h2,_⟩|⟨g',cap,cur,hv,hg,hh,hc,_⟩
 ·simp at h2;omega
 ·simp only[zC] at hv
  omega
structure TK (C:Nat)(w w':World)(q sb mb:Nat)(iv:Value)(K:Nat->Rk)(nv:Nat)(L:List Nat)(iv':Value)(L':List Nat)(D':DM):Prop where
 h:HQ C w' q sb iv' mb K nv L' D'
 e:∀y,y∈L'↔y∈L/\y≠lat L 0
 b:iv'.ownBlock=iv.ownBlock
 on:OnS (hbl q mb iv) w w'
theorem Qa5 {w3:World}{iv':Value}{nv:Nat}(hm:HM C w2 q sb iv' mb L' D')(ho:Up K L')(hj:Inj L')(hp:PL D' L' L'.length (λv=>v=lat L 0))(hh:has D' (kv (lat L 0))=true)(hs:size D'<=L'.length+1)(he:∀y,y∈L'↔y∈L/\y≠lat L 0)(hv:∀y∈L,y<nv)(hb:iv'.ownBlock=iv.ownBlock)(hon:OnS (hbl q mb iv) w w2)
  (h3:w3.ownsMap prog 2 (plainElem prog 3) mb n (D'.del (kv (lat L 0)))) (ht:w2.mapTurned w3 mb):TK C w w3 q sb mb iv K nv L iv' L' (D'.del (kv (lat L 0))):=by
 have hon3:=OnS.turned ht
 have hne:=hm.ne
 have hx:lat L 0∉L':=λg=>((he _).1 g).2 rfl
 refine⟨⟨⟨(hon3.block q (Array.getElem?_eq_some_iff.1 hm.q).1 (by simpa using hne.1)).trans hm.q,hm.i.kept (λg e=>hon3.block g (hm.i.blk e).2.1 (by simpa using(hne.2 g e).2)),Q0k h3⟩,ho,hj,(hp.drop hx).1,λy hy=>hv y ((he y).1 hy).1,?_⟩,he,hb,hon.tr (hon3.mono (λb hb=>by simp at hb;rw[hb];simp[hbl]))⟩
 have:=hp.dropsz hh
 omega
theorem Qd6 (C q sb mb nv:Nat)(iv:Value)(K:Nat->Rk)(D:DM)(w:World)(h:HQ C w q sb iv mb K nv [] D) :
  Calls prog 48 #[pT q] w λe w'=>e=.returned (.tuple #[iV 0,.bool false])/\Nx w w':=by
 obtain⟨av,cv,hvs⟩:=h.h.i.slice
 rw[Ja] at hvs
 have k1:w.cell? (aD q 1)=some (sL av 0 cv):=by rw[show(0:Nat)=([]:List Nat).length from rfl,<-hvs];exact h.h.q.c 1 rfl
 clear h hvs
 go_enter func48,ntmps48
 go_wp2
 refine bodyPost_ret (v:=.tuple #[iV 0,.bool false]) (by simp[results,results48,go_sem]) rfl ⟨rfl,Nx.refl _⟩
theorem Q32 (C q sb mb pp rb nv:Nat)(iv:Value)(K:Nat->Rk)(L:List Nat)(D:DM)(k:Nat)(w:World)(h:HQ C w q sb iv mb K nv L D)(hk:L.length=k+1)(hcm:CM w sb pp rb nv K)(hnv:nv<=6000)(hs:sb∉hbl q mb iv/\pp∉hbl q mb iv/\rb∉hbl q mb iv) :
  Calls prog 48 #[pT q] w λe w'=>∃iv' L' D',e=.returned (.tuple #[iV (lat L 0:Int),.bool true])/\TK C w w' q sb mb iv K nv L iv' L' D':=by
 have H:=mh h
 have HCM:=mh hcm
 have HS:=mh hs
 have HKL:=mh hk
 have hkb:k<=6000:=by have:=Pr nv L h.j.nodup h.v;omega
 have HSZ:=mh h.s
 obtain⟨av,cv,hvs⟩:=h.h.i.slice
 rw[Ja] at hvs
 have hi:=h.h.i
 rw[hvs] at hi
 obtain⟨g,hg,_hj⟩:=hi.cell (i:=0) (by rw[Ja];omega)
 clear _hj
 subst hg
 have hcap:=hi.cap
 rw[hk] at hvs hcap
 have HVS:=mh hvs
 have HI:Z (Q5 C w (sL (sA g) (k+1) cv) (Ys L)):=by rw[hk] at hi;exact hi
 have k1:w.cell? (aD q 1)=some (sL (sA g) (k+1) cv):=by rw[<-hvs];exact h.h.q.c 1 rfl
 have c0:w.cell? (aD g 0)=some (iV (lat L 0:Int)):=T9 HI.o (by omega)
 have ck:w.cell? (aD g k)=some (iV (lat L k:Int)):=T9 HI.o (by omega)
 have z1:=h.h.q.blk.frozen 1
 have HNE:=mh h.h.ne
 have hgq:=(HNE.o.2 g (by rw[hvs];rfl)).1
 have HM1:Z (HM C (w.setCell (aD q 1) (sL (sA g) k cv)) q sb (sL (sA g) k cv) mb (L.take k) D):=by
  refine⟨h.h.q.set _,?_,h.h.m.setCell (λe=>HNE.o.1 e.symm) _⟩
  rw[<-Q9e]
  refine(HI.o.cut (k:=k) (by rw[Ja];omega)).kept (λg' e=>?_)
  have:g=g':=zE e
  subst this
  exact Below.heap_setCell _ _ _ _ hgq
 have HO1:Z (OnS (hbl q mb iv) w (w.setCell (aD q 1) (sL (sA g) k cv))):=OnS.set _ _ (by simp[hbl]) _ _
 have HCM1:=mh (HCM.o.on HO1.o HS.o.1 HS.o.2.1 HS.o.2.2)
 have HTL:Z ((L.take k).length=k):=by unfold Z;rw[zX];omega
 have HLV:Z (lat L 0<nv/\lat L k<nv):=⟨h.v _ (T7 (by omega)),h.v _ (T7 (by omega))⟩
 have hl0:lat L 0<=6000:=by have:=HLV.o;omega
 have hlk:lat L k<=6000:=by have:=HLV.o;omega
 have hkc:(k:Int)<=cv:=by omega
 have hkk:(k:Int)<(k:Int)+1:=by omega
 have HH0:=mh ((h.p.p 0 (by omega) (by omega)).1)
 have HHk:=mh ((h.p.p k (by omega) (by omega)).1)
 by_cases hk0:k=0
 ·subst hk0
  have HM2:Z (HM C (w.setCell (aD q 1) (sL (sA g) 0 cv)) q sb (sL (sA g) 0 cv) mb [] D):=HM1.o
  have HP:Z (PL D [] ([]:List Nat).length (λv=>v=lat L 0)):=⟨h.p.m,h.p.t,λi hi=>by simp at hi,λv hv=>by
   rcases h.p.k v hv with g|g
   ·right
    obtain⟨i,hi,e⟩:=Jo.1 g
    have:i=0:=by omega
    subst this
    exact e.symm
   ·exact g.elim⟩
  have HE0:Z (∀y,y∈([]:List Nat)↔y∈L/\y≠lat L 0):=λy=>⟨λg=>by simp at g,λ⟨g1,g2⟩=>by
   obtain⟨i,hi,e⟩:=Jo.1 g1
   have:i=0:=by omega
   subst this
   exact absurd e.symm g2⟩
  have y1:(w.setCell (aD q 1) (sL (sA g) 0 cv)).cell? (aD q 2)=some (.map (some mb)):=HM2.o.q.c 2 rfl
  have y0:(w.setCell (aD q 1) (sL (sA g) 0 cv)).cell? (aD q 1)=some (sL (sA g) 0 cv):=HM2.o.q.c 1 rfl
  clear h hcm hs hk hvs hi hgq
  go_enter func48,ntmps48
  go_upto_region 8 with fail
  clear c0 ck k1 z1 y0
  generalize w.setCell (aD q 1) (sL (sA g) 0 cv)=w2 at *
  go_wp2_with (at_delete;refine wpList_delete_own _ rfl _ _ 122 2 rfl 3 Qdu underlying122 (plainElem prog 3) mb (size D) D rfl HM2.o.m (iV (lat L 0:Int)) (kv (lat L 0)) rfl (Q7m _ (by omega)) ?_)
  intro w3 hown3 hturn3
  have HF:=Qa5 (K:=K) (nv:=nv) HM2.o (λi h1 h2=>absurd h2 (by simp)) (λi j h1=>absurd h1 (by simp)) HP.o HH0.o (by have:=HSZ.o;have:=HKL.o;simp;omega) HE0.o H.o.v (by rw[HVS.o];rfl) HO1.o hown3 hturn3
  clear hown3 hturn3
  go_wp2
  refine bodyPost_ret (v:=.tuple #[iV (lat L 0:Int),.bool true]) (by simp[results,results48,go_sem]) rfl ⟨_,_,_,rfl,HF⟩
 ·have d1:decide ((0:Int)<(k:Int))=true:=yB (by omega)
  have d1':decide (0<k)=true:=yB (by omega)
  obtain⟨hd,hj,hp,hm⟩:=h.pop hk (by omega)
  have HD:=mh hd
  have HJ:=mh hj
  have HP:=mh hp
  have HMM:=mh hm
  have y0:(w.setCell (aD q 1) (sL (sA g) k cv)).cell? (aD q 1)=some (sL (sA g) k cv):=HM1.o.q.c 1 rfl
  have hk1:1<=k:=by omega
  clear h hcm hs hk hvs hi hgq hd hj hp hm hk0
  go_enter func48,ntmps48
  go_upto_region 8 with fail
  clear c0 ck k1 z1 y0
  generalize w.setCell (aD q 1) (sL (sA g) k cv)=w1 at *
  go_wp2_with fail
  refine(Qag C q sb mb g cv pp rb nv K (L.take k) D (λv=>v=lat L 0) 0 (lat L k) _ (by rw[HTL.o];exact HM1.o) HCM1.o (by have:=HS.o;rw[HVS.o] at this;exact⟨Pu this.1,Pu this.2.1,Pu this.2.2⟩) (by rw[HTL.o];omega) HD.o HJ.o HP.o (λy hy=>H.o.v y ((HMM.o y).1 hy).1) hnv (by rw[HTL.o];omega) (by have:=HSZ.o;have:=HKL.o;omega)).mono ?_
  rintro e w2 ⟨v,L',D',rfl,he⟩
  have HE2:=mh he
  have HM2:=mh he.h
  have HLK:Z (L'.length=k):=by unfold Z;rw[he.l,List.length_set,HTL.o]
  have y1:w2.cell? (aD q 2)=some (.map (some mb)):=HM2.o.q.c 2 rfl
  clear he d1 d1'
  go_wp2_with (at_delete;refine wpList_delete_own _ rfl _ _ 122 2 rfl 3 Qdu underlying122 (plainElem prog 3) mb (size D') D' rfl HM2.o.m (iV (lat L 0:Int)) (kv (lat L 0)) rfl (Q7m _ (by omega)) ?_)
  intro w3 hown3 hturn3
  have HF:=Qa5 (K:=K) (nv:=nv) HM2.o HE2.o.o HE2.o.j HE2.o.p (HE2.o.k _ HH0.o) (by rw[HE2.o.t HHk.o,HLK.o];have:=HSZ.o;have:=HKL.o;omega) (λy=>(HE2.o.e y).trans (HMM.o y)) H.o.v (by rw[HVS.o];rfl) (HO1.o.tr (HE2.o.on.mono (λb hb=>by rw[HVS.o];simp[hbl,Value.ownBlock] at hb ⊢;omega))) hown3 hturn3
  clear hown3 hturn3
  go_wp2
  refine bodyPost_ret (v:=.tuple #[iV (lat L 0:Int),.bool true]) (by simp[results,results48,go_sem]) rfl ⟨_,_,_,rfl,HF⟩
def SB (w:World)(p:Nat)(gv:List Value)(t:Int)(rb n:Nat)(q:Nat)(sv:Value)(b:Rk):Prop:=gv.length=7/\w.heap[p]?=some (.cells (List.toArray (gv++[iV t,sL (sA rb) n n,pT q,sv,iV b.1,iV b.2])) 54 (0,0))
theorem SB.cell {b:Rk}(h:SB w p gv t rb n q sv b):w.cell? (aD p 7)=some (iV t)/\w.cell? (aD p 8)=some (sL (sA rb) n n)/\w.cell? (aD p 9)=some (pT q)/\w.cell? (aD p 10)=some sv/\w.cell? (aD p 11)=some (iV b.1)/\w.cell? (aD p 12)=some (iV b.2):=by
 obtain⟨hl,hb⟩:=h
 match gv,hl with
 |[a0,a1,a2,a3,a4,a5,a6],_=>simp[World.cell?,hb]
theorem SB.fz {b:Rk}(h:SB w p gv t rb n q sv b)(o:Nat):w.frozen? (aD p o)=false:=by
 simp[World.frozen?,h.2]
theorem SB.lt {b:Rk}(h:SB w p gv t rb n q sv b):p<w.heap.size:=(Array.getElem?_eq_some_iff.1 h.2).1
theorem SB.kept {b:Rk}(h:SB w p gv t rb n q sv b)(k:w'.heap[p]?=w.heap[p]?):SB w' p gv t rb n q sv b:=⟨h.1,k.trans h.2⟩
structure SR (C:Nat)(w:World)(sb p q mb rb n:Nat)(gv:List Value)(t:Int)(b:Rk)(iv sv:Value)(K:Nat->Rk)(L:List Nat)(D:DM)(S:List Nat):Prop where
 x:w.heap[sb]?=some (.cells #[pT p] 47 (0,0))
 s:SB w p gv t rb n q sv b
 k:RKM w rb n K
 h:HQ C w q sb iv mb K n L D
 d:Q5 C w sv (Ys S)
 ap:∀g,sv.ownBlock=some g->iv.ownBlock≠some g
 cb:C<=sb/\C<=p/\C<=q/\C<=mb/\C<=rb
theorem SR.cm {b:Rk}(h:SR C w sb p q mb rb n gv t b iv sv K L D S):CM w sb p rb n K:=
 ⟨by simp[World.cell?,h.x],⟨n,h.s.cell.2.1⟩,h.k⟩
theorem SR.sep {b:Rk}(h:SR C w sb p q mb rb n gv t b iv sv K L D S):(sb∉hbl q mb iv/\p∉hbl q mb iv/\rb∉hbl q mb iv)/\(sb≠p/\sb≠rb/\p≠rb)/\(∀g,sv.ownBlock=some g->g≠sb/\g≠p/\g≠rb/\g∉hbl q mb iv):=by
 obtain⟨es,clock,hmb,_⟩:=h.h.h.m
 have hq:=h.h.h.q
 unfold QB at hq
 obtain⟨cr,hr,_⟩:=h.k
 have hx:=h.x
 have hp:=h.s.2
 have hi:∀g,iv.ownBlock=some g->∃cur,w.heap[g]?=some (.cells cur 2 (0,0)):=λg e=>(h.h.h.i.blk e).2.2
 have hd:∀g,sv.ownBlock=some g->∃cur,w.heap[g]?=some (.cells cur 2 (0,0)):=λg e=>(h.d.blk e).2.2
 have key:∀(b:Nat) (c:Array Value) (ty:Nat),w.heap[b]?=some (.cells c ty (0,0))->ty≠2->ty≠124->b∉hbl q mb iv:=by
  intro b c ty hb h1 h2 hm
  simp only[hbl,List.mem_cons,Option.mem_toList] at hm
  rcases hm with e|e|e
  ·subst e;rw[hq] at hb;simp at hb;exact h2 hb.2.symm
  ·subst e;rw[hmb] at hb;cases hb
  ·obtain⟨cur,hc⟩:=hi b e
   rw[hc] at hb;simp at hb;exact h1 hb.2.symm
 refine⟨⟨key _ _ _ hx (by decide) (by decide),key _ _ _ hp (by decide) (by decide),key _ _ _ hr (by decide) (by decide)⟩,⟨λe=>?_,λe=>?_,λe=>?_⟩,λg e=>?_⟩
 ·subst e;rw[hp] at hx;simp at hx
 ·subst e;rw[hr] at hx;simp at hx
 ·subst e;rw[hr] at hp;simp at hp
 ·obtain⟨cur,hc⟩:=hd g e
  refine⟨λe2=>?_,λe2=>?_,λe2=>?_,λhm=>?_⟩
  ·subst e2;rw[hx] at hc;simp at hc
  ·subst e2;rw[hp] at hc;simp at hc
  ·subst e2;rw[hr] at hc;simp at hc
  ·simp only[hbl,List.mem_cons,Option.mem_toList] at hm
   rcases hm with e2|e2|e2
   ·subst e2;rw[hq] at hc;simp at hc
   ·subst e2;rw[hmb] at hc;cases hc
   ·exact h.ap g e e2
theorem SR.next {b:Rk}(h:SR C w sb p q mb rb n gv t b iv sv K L D S)(k:Nx w w'):SR C w' sb p q mb rb n gv t b iv sv K L D S:=
 ⟨(k.block sb (Array.getElem?_eq_some_iff.1 h.x).1).trans h.x,h.s.kept (k.block p h.s.lt),h.k.next k,⟨h.h.h.kept k,h.h.o,h.h.j,h.h.p,h.h.v,h.h.s⟩,h.d.next k,h.ap,h.cb⟩
theorem RKM.set (h:RKM w rb n K)(hv:v<n){r:Rk}(h1:K' v=r)(h2:∀y,y≠v->K' y=K y):RKM ((w.setCell (aD rb (v*2)) (iV r.1)).setCell (aD rb (v*2+1)) (iV r.2)) rb n K':=by
 obtain⟨c,e1,e2,e3⟩:=h
 refine⟨(c.setIfInBounds (v*2) (iV r.1)).setIfInBounds (v*2+1) (iV r.2),by simp[World.setCell,Array.getElem?_modify,e1],by simp[e2],λy hy=>?_⟩
 by_cases e:y=v
 ·subst e
  rw[h1]
  constructor
  ·rw[Array.getElem?_setIfInBounds,if_neg (by omega),Array.getElem?_setIfInBounds,if_pos rfl,if_pos (by omega)]
  ·rw[Array.getElem?_setIfInBounds,if_pos rfl,if_pos (by simp;omega)]
 ·rw[h2 y e]
  have:=e3 y hy
  constructor
  ·rw[Array.getElem?_setIfInBounds,if_neg (by omega),Array.getElem?_setIfInBounds,if_neg (by omega)];exact this.1
  ·rw[Array.getElem?_setIfInBounds,if_neg (by omega),Array.getElem?_setIfInBounds,if_neg (by omega)];exact this.2
theorem Q2d (a b c d:Int)(w:World):(Op.equalIn 10000 52 (.agg #[iV a,iV b]) (.agg #[iV c,iV d])).run prog w=.ok (a==c&&b==d) w:=by
 have u3:=underlying2
 have a3:=Tryz.isAgg2
 have z3:=Tryz.sizeOf2
 rw[show(10000:Nat)=9999+1 from rfl,Op.equalIn]
 simp only[Sem.run_bind,run_underlying underlying52,Result.andThen_ok]
 simp only[Std.Legacy.Range.forIn_eq_forIn_range',Std.Legacy.Range.size,Nat.sub_zero,Nat.add_sub_cancel,Nat.div_one,List.range'_succ,List.range'_zero,List.forIn_cons,List.forIn_nil]
 go_simp
 by_cases h1:a=c<;>by_cases h2:b=d<;>simp[h1,h2]
theorem Q9t (r:Rk)(k:Int)(w:World)(h1:0<=r.1/\r.1<=100000000000)(h2:0<=r.2/\r.2<=100000)(hk:0<=k/\k<=3145728) :
  Calls prog 75 #[.agg #[iV r.1,iV r.2],iV k] w λe w'=>e=.returned (.agg #[iV (aft r k).1,iV (aft r k).2])/\Nx w w':=by
 obtain⟨a,b⟩:=r
 simp only at h1 h2
 obtain⟨h1a,h1b⟩:=h1
 obtain⟨h2a,h2b⟩:=h2
 obtain⟨hka,hkb⟩:=hk
 have x0:(w.alloc (.cells #[iV a,iV b] 52)).cell? (aD w.heap.size 0)=some (iV a):=(Blk.new w #[iV a,iV b] 52 _ rfl).c 0 rfl
 have x1:(w.alloc (.cells #[iV a,iV b] 52)).cell? (aD w.heap.size 1)=some (iV b):=(Blk.new w #[iV a,iV b] 52 _ rfl).c 1 rfl
 go_enter func75,ntmps75
 go_wp2
 exact bodyPost_ret (v:=.agg #[iV (a+k),iV (b+1)]) (by simp[results,results75,go_sem]) rfl ⟨rfl,Uk _ _ _⟩
def better (K:Nat->Rk)(v:Nat)(r:Rk):Prop:=K v=(0,0)\/rlt r (K v)
def sbl (q mb rb:Nat)(iv:Value):List Nat:=rb::hbl q mb iv
structure RC (C:Nat)(w w':World)(sb p q mb rb n:Nat)(gv:List Value)(t:Int)(b:Rk)(iv sv:Value)(K:Nat->Rk)(L S:List Nat)(v:Nat)(r:Rk)(iv':Value)(K':Nat->Rk)(L':List Nat)(D':DM):Prop where
 s:SR C w' sb p q mb rb n gv t b iv' sv K' L' D' S
 y:better K v r->K' v=r/\(∀y,y≠v->K' y=K y)/\∀y,y∈L'↔y∈L\/y=v
 n:¬better K v r->K'=K/\L'=L
 b:∀g,iv'.ownBlock=some g->iv.ownBlock=some g\/w.heap.size<=g
 on:OnS (sbl q mb rb iv) w w'
theorem SR.reached {w1:World}{b:Rk}{iv':Value}(h:SR C w sb p q mb rb n gv t b iv sv K L D S)(h1:OnS [rb] w w1)(hk:RKM w1 rb n K')(h2:PTV C w1 w2 q sb mb iv K' n L v iv' L' D'):SR C w2 sb p q mb rb n gv t b iv' sv K' L' D' S:=by
 obtain⟨⟨a1,a2,a3⟩,⟨b1,b2,b3⟩,hs⟩:=h.sep
 have hd:=λg e=>hs g e
 have e0:∀x,x<w.heap.size->x≠rb->x∉hbl q mb iv->w2.heap[x]?=w.heap[x]?:=λx hx n1 n2=>(h2.on.block x (zJ hx h1.size) n2).trans (h1.block x hx (by simpa using n1))
 refine⟨(e0 sb (Array.getElem?_eq_some_iff.1 h.x).1 b2 a1).trans h.x,h.s.kept (e0 p h.s.lt b3 a2),hk.kept (h2.on.block rb hk.lt a3),h2.h,h.d.kept (λg e=>e0 g (h.d.blk e).2.1 (hd g e).2.2.1 (hd g e).2.2.2),λg e e'=>?_,h.cb⟩
 rcases h2.b g e' with q1|q1
 ·exact h.ap g e q1
 ·have:=(h.d.blk e).2.1
  have:=h1.size
  omega
theorem Q0i (C sb p q mb rb n:Nat)(gv:List Value)(t:Int)(b:Rk)(iv sv:Value)(K:Nat->Rk)(L:List Nat)(D:DM)(S:List Nat)(v:Nat)(r:Rk)(w:World)(h:SR C w sb p q mb rb n gv t b iv sv K L D S)(hv:v<n)(hn:n<=6000)(hz:v∈L->K v≠(0,0))(hC:C<=w.heap.size) :
  Calls prog 47 #[pT p,iV (v:Int),.agg #[iV r.1,iV r.2]] w λe w'=>∃x iv' K' L' D',e=.returned x/\RC C w w' sb p q mb rb n gv t b iv sv K L S v r iv' K' L' D':=by
 have H:=mh h
 have HX0:Z (Nx w (w.alloc (.cells #[iV r.1,iV r.2] 52))):=Qe _ _
 have hbx:=Blk.new w #[iV r.1,iV r.2] 52 _ rfl
 have HBX:=mh hbx
 have H1:=mh (h.next HX0.o)
 have hv0:(v:Int)<n:=by omega
 have HZ:=mh hz
 have HC:=mh hC
 have HV:Z (v<n):=hv
 have CG:Z (∀W d os,Calls prog 46 #[.agg #[iV r.1,iV r.2],.agg #[iV (K v).1,iV (K v).2]] (Sort.grow (redrawn W d) os) λe w''=>e=.returned (iV (Jy r (K v)))/\∃p:Regrown,w''=Sort.grow (redrawn W p.d) p.os):=
  λW d os=>Calls.regrown_of (Iv r (K v) _)
 clear h hz hC hbx
 go_enter func47,ntmps47
 go_upto_region 1 with fail
 have HS1:Z (w.heap.size<(w.alloc (.cells #[iV r.1,iV r.2] 52)).heap.size):=by unfold Z;rw[Q1];omega
 generalize hw1:w.alloc (.cells #[iV r.1,iV r.2] 52)=w1 at *
 clear hw1
 have P8:=mh H1.o.s.cell.2.1
 have R1:=mh (H1.o.k.c1 hv)
 have R2:=mh (H1.o.k.c2 hv)
 have X1:Z (w1.cell? (aD w.heap.size 0)=some (iV r.1)):=HBX.o.c 0 rfl
 have X2:Z (w1.cell? (aD w.heap.size 1)=some (iV r.2)):=HBX.o.c 1 rfl
 have p8:=cell_regrown P8.o
 have r1:=cell_regrown R1.o
 have r2:=cell_regrown R2.o
 have x1:=cell_regrown X1.o
 have x2:=cell_regrown X2.o
 by_cases hz0:K v=(0,0)
 ·have HBT:Z (better K v r):=oL hz0
  have hq:((K v).1==0&&(K v).2==0)=true:=by rw[hz0];rfl
  have hEQ:=λW:World=>Q2d (K v).1 (K v).2 0 0 W
  rw[hq] at hEQ
  have HZ0:=mh hz0
  clear hz0 hq
  generalize (K v).1=k1 at *
  generalize (K v).2=k2 at *
  generalize hr1:r.1=a1 at *
  generalize hr2:r.2=a2 at *
  have HR:Z (r=(a1,a2)):=by unfold Z;rw[<-hr1,<-hr2]
  clear hr1 hr2
  refine wp_region_quiet_below (by kernel_rfl) (by kernel_rfl) ?_
  repeat (go_big_quiet_step (exact CG.o _ _ _))
  refine wpQuiet_nil ?_
  intro _ hw'
  obtain⟨⟨dq,osq⟩,hw''⟩:=hw'
  subst hw''
  have HQN:Z (Nx w1 (Sort.grow (redrawn w1 dq) osq)):=below_regrown w1 dq osq
  clear p8 r1 r2 x1 x2 CG
  generalize Sort.grow (redrawn w1 dq) osq=wq at *
  have HSq:=mh (H1.o.next HQN.o)
  have p8:=Q0 HQN.o P8.o
  have x1:=Q0 HQN.o X1.o
  have x2:=Q0 HQN.o X2.o
  have r1:=Q0 HQN.o R1.o
  have r2:=Q0 HQN.o R2.o
  have z1:=HSq.o.k.fz (v*2)
  have z2:=HSq.o.k.fz (v*2+1)
  have p9:=HSq.o.s.cell.2.2.1
  have HRP:Z (rb≠p):=λe=>HSq.o.sep.2.1.2.2 e.symm
  have HO:Z (OnS [rb] wq ((wq.setCell (aD rb (v*2)) (iV a1)).setCell (aD rb (v*2+1)) (iV a2)).drew):=((OnS.set _ _ (by simp) _ _).tr (OnS.set _ _ (by simp) _ _)).tr (OnS.nx (Nx.refl _).drew)
  have HWR:=mh H.o.k.lt
  have t8:=HO.o.cell (by simpa using λe:p=rb=>HRP.o e.symm) p8
  have t1:=HO.o.cell (by have:=HWR.o;simp;omega) x1
  have t2:=HO.o.cell (by have:=HWR.o;simp;omega) x2
  go_wp2
  go_region_held3 (λw'=>w'.cell? (aD p 8)=some (sL (sA rb) n n)/\w'.cell? (aD w.heap.size 0)=some (iV a1)/\w'.cell? (aD w.heap.size 1)=some (iV a2)) (first|exact⟨t8,t1,t2⟩|(go_keep;done)) (fail)
  clear t8 t1 t2 p8 x1 x2 r1 r2 z1 z2
  have HO2:=mh HO.o
  have HK2:Z (RKM ((wq.setCell (aD rb (v*2)) (iV a1)).setCell (aD rb (v*2+1)) (iV a2)).drew rb n (λy=>if y=v then (a1,a2) else K y)):=RKM.kept (w:=(wq.setCell (aD rb (v*2)) (iV a1)).setCell (aD rb (v*2+1)) (iV a2)) (RKM.set (r:=(a1,a2)) (K':=λy=>if y=v then (a1,a2) else K y) HSq.o.k HV.o (if_pos rfl) (λy hy=>if_neg hy)) rfl
  generalize hW:((wq.setCell (aD rb (v*2)) (iV a1)).setCell (aD rb (v*2+1)) (iV a2)).drew=w3 at *
  clear hW HO
  have p9':=HO2.o.cell (by simpa using λe:p=rb=>HRP.o e.symm) p9
  clear p9
  have HSEP:=mh HSq.o.sep.1
  have HHQ3:Z (HQ C w3 q sb iv mb K n L D):=⟨⟨(HO2.o.block q (Array.getElem?_eq_some_iff.1 HSq.o.h.h.q).1 (λe=>HSEP.o.2.2 (by simp at e;rw[<-e];simp[hbl]))).trans HSq.o.h.h.q,HSq.o.h.h.i.kept (λg e=>HO2.o.block g (HSq.o.h.h.i.blk e).2.1 (λe2=>HSEP.o.2.2 (by simp at e2;rw[<-e2];exact Pv e))),by
   obtain⟨es,clock,hb,rest⟩:=HSq.o.h.h.m
   exact⟨es,clock,(HO2.o.block mb (Array.getElem?_eq_some_iff.1 hb).1 (λe2=>HSEP.o.2.2 (by simp at e2;rw[<-e2];simp[hbl]))).trans hb,rest⟩⟩,HSq.o.h.o,HSq.o.h.j,HSq.o.h.p,HSq.o.h.v,HSq.o.h.s⟩
  have HCM3:Z (CM w3 sb p rb n (λy=>if y=v then (a1,a2) else K y)):=⟨HO2.o.cell (by simpa using HSq.o.sep.2.1.2.1) HSq.o.cm.b,⟨n,HO2.o.cell (by simpa using λe:p=rb=>HRP.o e.symm) HSq.o.s.cell.2.1⟩,HK2.o⟩
  have HDEC:Z (v∈L->¬rlt (K v) (a1,a2)):=λhm=>by
   rcases HBT.o with e|e
   ·exact absurd e (HZ.o hm)
   ·rw[HR.o] at e;exact Yq e
  go_wp2_with fail
  refine(Q79 C q sb mb p rb n iv K (λy=>if y=v then (a1,a2) else K y) L D v _ HHQ3.o HCM3.o (λy hy=>if_neg hy) (by simp only[if_true];exact HDEC.o) HV.o hn HSEP.o (by have h1:=HC.o;have h2:=HX0.o.size;have h3:=HQN.o.size;have h4:=HO2.o.size;omega)).mono ?_
  rintro e w4 ⟨x,iv',L',D',rfl,hp⟩
  have HF:RC C w w4 sb p q mb rb n gv t b iv sv K L S v r iv' (λy=>if y=v then (a1,a2) else K y) L' D':=by
   refine⟨HSq.o.reached HO2.o HK2.o hp,λ_=>⟨by simp only[if_true];exact HR.o.symm,λy hy=>if_neg hy,hp.e⟩,λe=>absurd HBT.o e,λg e=>?_,?_⟩
   ·rcases hp.b g e with q1|q1
    ·exact oL q1
    ·right
     have h2:=HX0.o.size
     have h3:=HQN.o.size
     have h4:=HO2.o.size
     omega
   ·have o1:OnS (sbl q mb rb iv) w wq:=OnS.nx (HX0.o.trans HQN.o)
    exact(o1.tr (HO2.o.mono (λx hx=>by simp at hx;rw[hx];simp[sbl]))).tr (hp.on.mono (λx hx=>List.mem_cons_of_mem _ hx))
  clear hp
  go_wp2
  refine bodyPost_end (v:=.tuple #[]) (by simp[results,results47,go_sem]) rfl ?_
  first|exact⟨⟨_,rfl⟩,iv',_,L',D',HF⟩|exact⟨_,iv',_,L',D',rfl,HF⟩
 ·have HZ0:Z (K v≠(0,0)):=hz0
  have hcb:=Pw r (K v)
  have HCL:Z (Jy r (K v)<0↔rlt r (K v)):=Q2g _ _
  have hq:((K v).1==0&&(K v).2==0)=false:=by
   rw[<-Bool.not_eq_true]
   intro e
   simp at e
   exact hz0 (Prod.ext e.1 e.2)
  have hEQ:=λW:World=>Q2d (K v).1 (K v).2 0 0 W
  rw[hq] at hEQ
  by_cases hlt:Jy r (K v)<0
  ·have d1:=yB hlt
   have HBT:Z (better K v r):=oR (HCL.o.1 hlt)
   generalize Jy r (K v)=cc at *
   clear hz0 hq
   generalize (K v).1=k1 at *
   generalize (K v).2=k2 at *
   generalize hr1:r.1=a1 at *
   generalize hr2:r.2=a2 at *
   have HR:Z (r=(a1,a2)):=by unfold Z;rw[<-hr1,<-hr2]
   clear hr1 hr2
   refine wp_region_quiet_below (by kernel_rfl) (by kernel_rfl) ?_
   repeat (go_big_quiet_step (exact CG.o _ _ _))
   refine wpQuiet_nil ?_
   intro _ hw'
   obtain⟨⟨dq,osq⟩,hw''⟩:=hw'
   subst hw''
   have HQN:Z (Nx w1 (Sort.grow (redrawn w1 dq) osq)):=below_regrown w1 dq osq
   clear p8 r1 r2 x1 x2 CG
   generalize Sort.grow (redrawn w1 dq) osq=wq at *
   have HSq:=mh (H1.o.next HQN.o)
   have p8:=Q0 HQN.o P8.o
   have x1:=Q0 HQN.o X1.o
   have x2:=Q0 HQN.o X2.o
   have r1:=Q0 HQN.o R1.o
   have r2:=Q0 HQN.o R2.o
   have z1:=HSq.o.k.fz (v*2)
   have z2:=HSq.o.k.fz (v*2+1)
   have p9:=HSq.o.s.cell.2.2.1
   have HRP:Z (rb≠p):=λe=>HSq.o.sep.2.1.2.2 e.symm
   have HO:Z (OnS [rb] wq ((wq.setCell (aD rb (v*2)) (iV a1)).setCell (aD rb (v*2+1)) (iV a2)).drew):=((OnS.set _ _ (by simp) _ _).tr (OnS.set _ _ (by simp) _ _)).tr (OnS.nx (Nx.refl _).drew)
   have HWR:=mh H.o.k.lt
   have t8:=HO.o.cell (by simpa using λe:p=rb=>HRP.o e.symm) p8
   have t1:=HO.o.cell (by have:=HWR.o;simp;omega) x1
   have t2:=HO.o.cell (by have:=HWR.o;simp;omega) x2
   go_wp2
   go_region_held3 (λw'=>w'.cell? (aD p 8)=some (sL (sA rb) n n)/\w'.cell? (aD w.heap.size 0)=some (iV a1)/\w'.cell? (aD w.heap.size 1)=some (iV a2)) (first|exact⟨t8,t1,t2⟩|(go_keep;done)) (fail)
   clear t8 t1 t2 p8 x1 x2 r1 r2 z1 z2
   have HO2:=mh HO.o
   have HK2:Z (RKM ((wq.setCell (aD rb (v*2)) (iV a1)).setCell (aD rb (v*2+1)) (iV a2)).drew rb n (λy=>if y=v then (a1,a2) else K y)):=RKM.kept (w:=(wq.setCell (aD rb (v*2)) (iV a1)).setCell (aD rb (v*2+1)) (iV a2)) (RKM.set (r:=(a1,a2)) (K':=λy=>if y=v then (a1,a2) else K y) HSq.o.k HV.o (if_pos rfl) (λy hy=>if_neg hy)) rfl
   generalize hW:((wq.setCell (aD rb (v*2)) (iV a1)).setCell (aD rb (v*2+1)) (iV a2)).drew=w3 at *
   clear hW HO
   have p9':=HO2.o.cell (by simpa using λe:p=rb=>HRP.o e.symm) p9
   clear p9
   have HSEP:=mh HSq.o.sep.1
   have HHQ3:Z (HQ C w3 q sb iv mb K n L D):=⟨⟨(HO2.o.block q (Array.getElem?_eq_some_iff.1 HSq.o.h.h.q).1 (λe=>HSEP.o.2.2 (by simp at e;rw[<-e];simp[hbl]))).trans HSq.o.h.h.q,HSq.o.h.h.i.kept (λg e=>HO2.o.block g (HSq.o.h.h.i.blk e).2.1 (λe2=>HSEP.o.2.2 (by simp at e2;rw[<-e2];exact Pv e))),by
    obtain⟨es,clock,hb,rest⟩:=HSq.o.h.h.m
    exact⟨es,clock,(HO2.o.block mb (Array.getElem?_eq_some_iff.1 hb).1 (λe2=>HSEP.o.2.2 (by simp at e2;rw[<-e2];simp[hbl]))).trans hb,rest⟩⟩,HSq.o.h.o,HSq.o.h.j,HSq.o.h.p,HSq.o.h.v,HSq.o.h.s⟩
   have HCM3:Z (CM w3 sb p rb n (λy=>if y=v then (a1,a2) else K y)):=⟨HO2.o.cell (by simpa using HSq.o.sep.2.1.2.1) HSq.o.cm.b,⟨n,HO2.o.cell (by simpa using λe:p=rb=>HRP.o e.symm) HSq.o.s.cell.2.1⟩,HK2.o⟩
   have HDEC:Z (v∈L->¬rlt (K v) (a1,a2)):=λhm=>by
    rcases HBT.o with e|e
    ·exact absurd e (HZ.o hm)
    ·rw[HR.o] at e;exact Yq e
   go_wp2_with fail
   refine(Q79 C q sb mb p rb n iv K (λy=>if y=v then (a1,a2) else K y) L D v _ HHQ3.o HCM3.o (λy hy=>if_neg hy) (by simp only[if_true];exact HDEC.o) HV.o hn HSEP.o (by have h1:=HC.o;have h2:=HX0.o.size;have h3:=HQN.o.size;have h4:=HO2.o.size;omega)).mono ?_
   rintro e w4 ⟨x,iv',L',D',rfl,hp⟩
   have HF:RC C w w4 sb p q mb rb n gv t b iv sv K L S v r iv' (λy=>if y=v then (a1,a2) else K y) L' D':=by
    refine⟨HSq.o.reached HO2.o HK2.o hp,λ_=>⟨by simp only[if_true];exact HR.o.symm,λy hy=>if_neg hy,hp.e⟩,λe=>absurd HBT.o e,λg e=>?_,?_⟩
    ·rcases hp.b g e with q1|q1
     ·exact oL q1
     ·right
      have h2:=HX0.o.size
      have h3:=HQN.o.size
      have h4:=HO2.o.size
      omega
    ·have o1:OnS (sbl q mb rb iv) w wq:=OnS.nx (HX0.o.trans HQN.o)
     exact(o1.tr (HO2.o.mono (λx hx=>by simp at hx;rw[hx];simp[sbl]))).tr (hp.on.mono (λx hx=>List.mem_cons_of_mem _ hx))
   clear hp
   go_wp2
   refine bodyPost_end (v:=.tuple #[]) (by simp[results,results47,go_sem]) rfl ?_
   first|exact⟨⟨_,rfl⟩,iv',_,L',D',HF⟩|exact⟨_,iv',_,L',D',rfl,HF⟩
  ·have d1:=yC hlt
   have HBT:Z (¬better K v r):=λe=>e.elim HZ0.o (λe=>hlt (HCL.o.2 e))
   generalize Jy r (K v)=cc at *
   clear hz0 hq
   generalize (K v).1=k1 at *
   generalize (K v).2=k2 at *
   generalize hr1:r.1=a1 at *
   generalize hr2:r.2=a2 at *
   have HR:Z (r=(a1,a2)):=by unfold Z;rw[<-hr1,<-hr2]
   clear hr1 hr2
   refine wp_region_quiet_below (by kernel_rfl) (by kernel_rfl) ?_
   repeat (go_big_quiet_step (exact CG.o _ _ _))
   refine wpQuiet_nil ?_
   intro _ hw'
   obtain⟨⟨dq,osq⟩,hw''⟩:=hw'
   subst hw''
   have HQN:Z (Nx w1 (Sort.grow (redrawn w1 dq) osq)):=below_regrown w1 dq osq
   clear p8 r1 r2 x1 x2 CG
   generalize Sort.grow (redrawn w1 dq) osq=wq at *
   have HF:RC C w wq sb p q mb rb n gv t b iv sv K L S v r iv K L D:=⟨H1.o.next HQN.o,λe=>absurd e HBT.o,λ_=>⟨rfl,rfl⟩,λg e=>oL e,OnS.nx (HX0.o.trans HQN.o)⟩
   go_wp2
   refine bodyPost_end (v:=.tuple #[]) (by simp[results,results47,go_sem]) rfl ?_
   first|exact⟨⟨_,rfl⟩,iv,K,L,D,HF⟩|exact⟨_,iv,K,L,D,rfl,HF⟩
theorem SB.gcell {g0 g1 g2 g3 g4 g5 g6:Value}{b:Rk}(h:SB w p [g0,g1,g2,g3,g4,g5,g6] t rb n q sv b):w.cell? (aD p 0)=some g0/\w.cell? (aD p 1)=some g1/\w.cell? (aD p 2)=some g2/\w.cell? (aD p 3)=some g3/\w.cell? (aD p 4)=some g4/\w.cell? (aD p 5)=some g5/\w.cell? (aD p 6)=some g6:=by
 simp[World.cell?,h.2]
def endB (eo:Nat->Int)(t:Int)(K:Nat->Rk)(b:Rk)(v:Nat):Bool:=(eo v==t)&&((K v).1==b.1&&(K v).2==b.2)
theorem endB_iff (eo:Nat->Int)(t:Int)(K:Nat->Rk)(b:Rk)(v:Nat):endB eo t K b v=true↔Uq eo t K b v:=by
 have e:(K v=b)↔((K v).1=b.1/\(K v).2=b.2):=⟨λh=>by rw[h];exact⟨rfl,rfl⟩,λh=>Prod.ext h.1 h.2⟩
 unfold endB Uq
 simp[e]
theorem Ab (B p rb n q:Nat)(a0:Option Addr)(m0 c0:Nat)(g1 g2 g3 g4 g5 g6:Value)(G:Gr)(t:Int)(sv:Value)(b:Rk)(K:Nat->Rk)(v:Nat)(w:World)(hs:SB w p [sL a0 m0 c0,g1,g2,g3,g4,g5,g6] t rb n q sv b)(hk:RKM w rb n K)(hg:Qi B w (sL a0 m0 c0) G.eo)(hn:G.eo.length=n)(hv:v<n) :
  Calls prog 51 #[pT p,iV (v:Int)] w λe w'=>e=.returned (.bool (endB (eoG G) t K b v))/\Nx w w':=by
 obtain⟨e0,b0,o0,ha0,hc0⟩:=hg.row (by omega)
 subst ha0
 have x0:w.cell? (aD b0 (o0+v))=some (iV (eoG G v)):=hc0 v (by omega)
 have k0:=hs.gcell.1
 have k7:=hs.cell.1
 have k8:=hs.cell.2.1
 have k11:=hs.cell.2.2.2.2.1
 have k12:=hs.cell.2.2.2.2.2
 have r1:=hk.c1 hv
 have r2:=hk.c2 hv
 have hv0:(v:Int)<m0:=by omega
 have hvn:(v:Int)<n:=by omega
 have hEQ:=λW:World=>Q2d (K v).1 (K v).2 b.1 b.2 W
 have HD:Z (endB (eoG G) t K b v=((eoG G v==t)&&((K v).1==b.1&&(K v).2==b.2))):=rfl
 clear hs hk hg e0 hc0
 generalize (K v).1=a1 at *
 generalize (K v).2=a2 at *
 generalize b.1=b1 at *
 generalize b.2=b2 at *
 generalize eoG G v=ev at *
 by_cases he:ev=t
 ·have d1:(ev==t)=true:=by simpa using he
  clear he
  rw[d1,Bool.true_and] at HD
  go_enter func51,ntmps51
  go_wp2
  go_quiet (fail)
  go_wp2
  go_ret
  exact⟨Q3 HD.o.symm,J3 _ _⟩
 ·have d1:(ev==t)=false:=by simpa using he
  clear he
  rw[d1,Bool.false_and] at HD
  go_enter func51,ntmps51
  go_wp2
  go_quiet (fail)
  go_wp2
  go_ret
  exact⟨Q3 HD.o.symm,J3 _ _⟩
structure OWB (w:World)(bg bv bs p v:Nat)(gv:List Value):Prop where
 g:Blk w bg (List.toArray gv)
 v:Blk w bv #[iV (v:Int)]
 s:Blk w bs #[pT p]
theorem Er (p rb n q:Nat)(g0 g1 g2 g3 g4 g5 g6:Value)(t:Int)(sv:Value)(b:Rk)(v:Nat)(w:World)(hs:SB w p [g0,g1,g2,g3,g4,g5,g6] t rb n q sv b)(hsl:∀x∈[g0,g1,g2,g3,g4,g5,g6],∃a m c,x=sL a m c) :
  Calls prog 49 #[pT p,iV (v:Int)] w λe w'=>∃bg bv bs,e=.returned (.func (.func 74) #[] #[pT bg,pT bv,pT bs])/\OWB w' bg bv bs p v [g0,g1,g2,g3,g4,g5,g6]/\(w.heap.size<=bg/\w.heap.size<=bv/\w.heap.size<=bs)/\Nx w w':=by
 have hmf:∀(fn:Fn) (first cap:Array Value) (w:World),(Instr.makeFunc fn first cap).run prog w=.ok (.func fn first cap) w:=λ_ _ _ _=>rfl
 obtain⟨a0,m0,c0,rfl⟩:=hsl g0 (by simp)
 obtain⟨a1,m1,c1,rfl⟩:=hsl g1 (by simp)
 obtain⟨a2,m2,c2,rfl⟩:=hsl g2 (by simp)
 obtain⟨a3,m3,c3,rfl⟩:=hsl g3 (by simp)
 obtain⟨a4,m4,c4,rfl⟩:=hsl g4 (by simp)
 obtain⟨a5,m5,c5,rfl⟩:=hsl g5 (by simp)
 obtain⟨a6,m6,c6,rfl⟩:=hsl g6 (by simp)
 clear hsl
 have HS:=mh hs
 have HX:Z (Nx w ((w.alloc (.cells #[pT p] 47)).alloc (.cells #[iV (v:Int)] 2))):=Uk _ _ _
 have bs:=(Blk.new w #[pT p] 47 _ rfl).alloc (.cells #[iV (v:Int)] 2)
 have bv:=Blk.new (w.alloc (.cells #[pT p] 47)) #[iV (v:Int)] 2 (w.heap.size+1) (Q1 _ _).symm
 have HBS:=mh bs
 have HBV:=mh bv
 have HZ:Z (((w.alloc (.cells #[pT p] 47)).alloc (.cells #[iV (v:Int)] 2)).heap.size=w.heap.size+2):=by unfold Z;rw[Q1,Q1]
 clear bs bv hs
 go_enter func49,ntmps49
 go_upto_region 1 with fail
 generalize (w.alloc (.cells #[pT p] 47)).alloc (.cells #[iV (v:Int)] 2)=w1 at *
 have hs:=HS.o.kept (HX.o.block p HS.o.lt)
 obtain⟨k0,k1,k2,k3,k4,k5,k6⟩:=hs.gcell
 have s0:w1.cell? (aD w.heap.size 0)=some (pT p):=HBS.o.c 0 rfl
 clear hs
 go_wp2
 go_ret
 refine⟨_,_,_,rfl,⟨Blk.new w1 _ _ _ rfl,HBV.o.alloc _,HBS.o.alloc _⟩,⟨?_,Nat.le_succ _,lR⟩,HX.o.alloc _⟩
 have:=HZ.o
 omega
end Go.Proofs.YtphiaobccollhaaGreat
