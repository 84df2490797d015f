import Derived.Test.YtphiaobccollhaaGreatQVGA
namespace Go.Proofs.YtphiaobccollhaaGreat
open Go.RowKit Tryz
set_option linter.unusedVariables false
set_option maxRecDepth 1000000
set_option maxHeartbeats 16000000
structure TW (G:Gr):Prop where
 v:G.eo.length<=6000
 t:G.tt.length<=40000
 lf:G.fi.length=G.eo.length+1
 fi:∀i,i<=G.eo.length->0<=iat G.fi i/\iat G.fi i<=G.tt.length
 fm:∀i,i<G.eo.length->iat G.fi i<=iat G.fi (i+1)
 tt:∀k,k<G.tt.length->0<=iat G.tt k/\iat G.tt k<G.eo.length
def fsA (G:Gr)(v:Nat):Nat:=(iat G.fi v).toNat
theorem Pg {G:Gr}(h:TW G){v:Nat}(hv:v<=G.eo.length):iat G.fi v=(fsA G v:Int)/\fsA G v<=G.tt.length:=by
 have:=h.fi v hv
 unfold fsA
 omega
theorem Qbw {G:Gr}(h:TW G){v:Nat}(hv:v<G.eo.length):fsA G v<=fsA G (v+1):=by
 have h1:=(Pg h (v:=v) (by omega)).1
 have h2:=(Pg h (v:=v+1) (by omega)).1
 have:=h.fm v hv
 omega
def seg (zs:List Int)(p q:Nat):List Int:=(zs.drop p).take (q-p)
theorem Pn {zs:List Int}{p q:Nat}(hq:q<=zs.length):(seg zs p q).length=q-p:=by
 simp[seg];omega
theorem Gk {zs:List Int}{p q i:Nat}(hi:i<q-p):iat (seg zs p q) i=iat zs (p+i):=by
 simp[iat,seg,List.getD,hi,List.getElem?_take_of_lt]
theorem Qi.seg {B:Nat}{w:World}{a:Option Addr}{n c:Nat}{zs:List Int}(h:Qi B w (sL a n c) zs){p q:Nat}(hpq:p<=q)(hq:q<=zs.length)(a':Option Addr)(c':Nat)
  (ha:∀b off,a=some (aD b off)->p<q->a'=some (aD b (off+p))):Qi B w (sL a' (q-p) c') (seg zs p q):=by
 obtain⟨a0,c0,e,hn,hk⟩:=h
 simp only[zC] at e
 obtain⟨rfl,rfl,rfl⟩:=e
 refine⟨a',c',by rw[Pn hq],by rw[Pn hq];omega,λh0=>?_⟩
 rw[Pn hq] at h0
 obtain⟨b,off,rfl,hB,hb,hc⟩:=hk (by omega)
 refine⟨b,off+p,ha b off rfl (by omega),hB,hb,λi hi=>?_⟩
 rw[Pn hq] at hi
 show w.cell? (aD b (off+p+i))=_
 rw[Gk hi,Nat.add_assoc]
 exact hc (p+i) (by omega)
theorem Q31 (B:Nat)(v0 v1 v2 v3 v4 v5 v6:Value)(G:Gr)(v:Nat)(w:World)(h0:HG B w v0 v1 v2 v3 v4 v5 v6 G)(hT:TW G)(hv:v<G.eo.length) :
  Calls prog 43 #[.agg #[v0,v1,v2,v3,v4,v5,v6],iV v] w λe w'=>(∃a n c,e=.returned (sL a n c)/\Qi B w' (sL a n c) (seg G.tt (fsA G v) (fsA G (v+1))))/\Nx w w':=by
 have hcp:=h0.c3
 have E0:=Pg hT (v:=v) (by omega)
 have E1:=Pg hT (v:=v+1) (by omega)
 have E2:=Qbw hT hv
 have hlf:=hT.lf
 have hvv:=hT.v
 have htt:=hT.t
 have HH:=mh h0
 obtain⟨⟨a0,c0,rfl,hn0,hk0⟩,⟨a1,c1,rfl,hn1,hk1⟩,⟨a2,c2,rfl,hn2,hk2⟩,⟨a3,c3,rfl,hn3,hk3⟩,⟨a4,c4,rfl,hn4,hk4⟩,⟨a5,c5,rfl,hn5,hk5⟩,⟨a6,c6,rfl,hn6,hk6⟩⟩:=h0
 have HM0:=mh hn0
 have HM5:=mh hn5
 unfold maxLen at hn0 hn1 hn2 hn3 hn4 hn5 hn6
 generalize hz0:G.eo.length=n0 at *
 have Z0:=mh hz0
 clear hz0
 generalize hz1:G.so.length=n1 at *
 have Z1:=mh hz1
 clear hz1
 generalize hz2:G.fi.length=n2 at *
 have Z2:=mh hz2
 clear hz2
 generalize hz3:G.tt.length=n3 at *
 have Z3:=mh hz3
 clear hz3
 generalize hz4:G.co.length=n4 at *
 have Z4:=mh hz4
 clear hz4
 generalize hz5:G.sr.length=n5 at *
 have Z5:=mh hz5
 clear hz5
 generalize hz6:G.we.length=n6 at *
 have Z6:=mh hz6
 clear hz6
 obtain⟨a',n',c',e,hcp⟩:=hcp
 simp only[zC] at e
 obtain⟨rfl,rfl,rfl⟩:=e
 generalize fsA G v=p at *
 generalize fsA G (v+1)=q at *
 subst hlf
 obtain⟨b2,o2,rfl,_,hb2,hc2⟩:=hk2 (by omega)
 have hx0:w.cell? (aD b2 (o2+v))=some (iV (iat G.fi v)):=hc2 v (by omega)
 have hx1:w.cell? (aD b2 (o2+(v+1)))=some (iV (iat G.fi (v+1))):=hc2 (v+1) (by omega)
 rw[E0.1] at hx0
 rw[E1.1] at hx1
 have i0:(p:Int)<=q:=by omega
 have i1:(q:Int)<=c3:=by omega
 have i2:(v:Int)<(n0:Int)+1:=by omega
 have i3:(v:Int)+1<(n0:Int)+1:=by omega
 have hwv:IntKind.i64.wrap ((v:Int)+1)=(v:Int)+1:=by rw[IntKind.wrap_i64];omega
 have HQ:=mh E1.2
 have HPQ:=mh E2
 have HCP:=mh hcp
 clear hc2 hk0 hk1 hk2 hk3 hk4 hk5 hk6 E0 E1
 go_enter func43,ntmps43
 go_upto_region 1 with fail
 generalize hW0:(w.alloc (.cells #[sL a0 n0 c0,sL a1 n1 c1,sL (some (aD b2 o2)) (n0+1) c2,sL a3 n3 c3,sL a4 n4 c4,sL a5 n5 c5,sL a6 n6 c6] 25))=W0 at *
 have HW0:Z (Nx w W0):=by rw[<-hW0];exact Qe _ _
 have BA:Blk W0 w.heap.size #[sL a0 n0 c0,sL a1 n1 c1,sL (some (aD b2 o2)) (n0+1) c2,sL a3 n3 c3,sL a4 n4 c4,sL a5 n5 c5,sL a6 n6 c6]:=by rw[<-hW0];exact Blk.new w _ 25 _ rfl
 clear hW0
 have x0:=Q2 HW0.o hb2 hx0
 have x1:=Q2 HW0.o hb2 hx1
 have k2:=BA.c 2 rfl
 have k3:=BA.c 3 rfl
 clear BA hx0 hx1
 by_cases hck:c3=p
 ·subst hck
  go_wp2
  go_quiet (fail)
  go_wp2
  go_ret
  exact⟨⟨_,_,_,rfl,Qi.seg (HH.o.h3.next (HW0.o.trans ⟨rfl,rfl,rfl,lR,λ_ _=>rfl⟩)) HPQ.o (by rw[Z3.o];exact HQ.o) _ _ (λb off _ h=>by have:=HCP.o;have:=HQ.o;omega)⟩,HW0.o.trans ⟨rfl,rfl,rfl,lR,λ_ _=>rfl⟩⟩
 ·go_wp2
  go_quiet (fail)
  go_wp2
  go_ret
  exact⟨⟨_,_,_,rfl,Qi.seg (HH.o.h3.next (HW0.o.trans ⟨rfl,rfl,rfl,lR,λ_ _=>rfl⟩)) HPQ.o (by rw[Z3.o];exact HQ.o) _ _ (λb off ha h=>by subst ha;rw[Option.map_some,Addr.add_lit])⟩,HW0.o.trans ⟨rfl,rfl,rfl,lR,λ_ _=>rfl⟩⟩
theorem Q6d (B gb x y:Nat)(v0 v1 v2 v3 v4 v5 v6:Value)(zs:List Int)(w:World)(hb:Blk w gb #[v0,v1,v2,v3,v4,v5,v6])(h0:Qi B w v0 zs)(hx:x<zs.length)(hy:y<zs.length) :
  Calls prog 40 #[iV x,iV y,pT gb] w λe w'=>e=.returned (iV (Y9 (iat zs x) (iat zs y)))/\Nx w w':=by
 obtain⟨a,cap,rfl,hn,hk⟩:=h0
 unfold maxLen at hn
 generalize zs.length=n at *
 obtain⟨b,off,rfl,_,hbb,hc⟩:=hk (by omega)
 have c0:=hc x hx
 have c1:=hc y hy
 have k0:w.cell? (aD gb 0)=some (sL (some (aD b off)) n cap):=hb.c 0 rfl
 have hx':(x:Int)<n:=by omega
 have hy':(y:Int)<n:=by omega
 clear hc hk hb
 go_enter func40,ntmps40
 go_wp2
 go_region_with (go_at_call 41;refine(Tb _ _ _).mono ?_;rintro e w' ⟨rfl,rfl⟩)
 all_goals go_wp2
 all_goals
  go_ret
  exact⟨rfl,⟨rfl,rfl,rfl,lR,λ_ _=>rfl⟩⟩
def ltG (G:Gr)(zs:List Int)(i j:Nat):Bool:=decide (iat G.eo (iat zs i).toNat<iat G.eo (iat zs j).toNat)
theorem Qch (B B' gb:Nat)(v v0 v1 v2 v3 v4 v5 v6:Value)(G:Gr)(zs:List Int)(w:World)(h0:Qi B w v zs)(hb:Blk w gb #[v0,v1,v2,v3,v4,v5,v6])(he:Qi B' w v0 G.eo)(hz:∀i,i<zs.length->0<=iat zs i/\iat zs i<G.eo.length) :
  Calls prog 42 #[v,(.func (.func 40) #[] #[pT gb])] w λe w'=>e=.returned (.bool (Tg zs.length (ltG G zs)))/\Nx w w':=by
 obtain⟨a,cap,rfl,hn,hk⟩:=h0
 unfold maxLen at hn
 have HB:=mh hb
 have HE:=mh he
 have HI:Z (∀i,i<zs.length->∃u:Nat,iat zs i=(u:Int)/\u<G.eo.length):=λi hi=>⟨(iat zs i).toNat,by have:=hz i hi;omega,by have:=hz i hi;omega⟩
 clear hb he hz
 generalize hz:zs.length=n at *
 clear hz
 go_enter func42,ntmps42
 go_wp2
 go_loopw [5] (λi wr=>∃j:Nat,(j+1<=n\/j=0)/\i=iV ((j:Int)+1)/\Z (Jz (Xy (ltG G zs)) (j+1))/\Nx w wr) (λi _=>n-(intOf i).toNat)
 case atStart=>exact⟨0,oR rfl,rfl,Q17 _,Nx.refl _⟩
 case round=>
  obtain⟨j,hj,rfl,hrel,hnx⟩:=hrel
  have HN:=mh hnx
  clear hnx
  by_cases hlt:j+1<n
  ·obtain⟨b,off,rfl,hB,hb,hc⟩:=hk (by omega)
   have hc0':=hc j (by omega)
   have hc1':=hc (j+1) hlt
   obtain⟨x,hx,hxn⟩:=HI.o j (by omega)
   obtain⟨y,hy,hyn⟩:=HI.o (j+1) hlt
   have HLT:Z (ltG G zs j (j+1)=decide (iat G.eo x<iat G.eo y)):=by unfold Z ltG;rw[hx,hy,zU,zU]
   rw[hx] at hc0'
   rw[hy] at hc1'
   have hc0:=Q2 HN.o hb hc0'
   have hc1:=Q2 HN.o hb hc1'
   have hlt':(j:Int)+1<n:=by omega
   have hlj:(j:Int)<n:=by omega
   have hwj:=Va j (by omega)
   have HXN:=mh hxn
   have HYN:=mh hyn
   have CG:Z (Calls prog 40 #[iV x,iV y,pT gb] wr.drew λe w'=>e=.returned (iV (Y9 (iat G.eo x) (iat G.eo y)))/\Nx wr.drew w'):=
    Q6d B' gb x y v0 v1 v2 v3 v4 v5 v6 G.eo wr.drew (HB.o.next HN.o.drew) (HE.o.next HN.o.drew) hxn hyn
   clear hc hk hc0' hc1' hx hy hxn hyn
   by_cases hab:iat G.eo x<iat G.eo y
   ·have hd:decide (0<=Y9 (iat G.eo x) (iat G.eo y))=false:=by rw[Fh];simp[hab]
    have HT:Z (Xy (ltG G zs) (j+1)=true):=by unfold Z;rw[Ji,HLT.o];simp[hab]
    clear hab
    go_wp2
    go_region_with (go_at_call 40;refine CG.o.mono ?_;rintro e w' ⟨rfl,hx⟩)
    all_goals go_wp2
    all_goals
     go_roundw
     case rel=>exact⟨j+1,by omega,by go_num,Qm hrel HT.o,HN.o.drew.trans hx⟩
     case measure=>simp[intOf];omega
   ·have hd:decide (0<=Y9 (iat G.eo x) (iat G.eo y))=true:=by rw[Fh];simp[hab]
    have HT:Z (Xy (ltG G zs) (j+1)=false):=by unfold Z;rw[Ji,HLT.o];simp[hab]
    clear hab
    go_wp2
    go_region_with (go_at_call 40;refine CG.o.mono ?_;rintro e w' ⟨rfl,hx⟩)
    all_goals go_wp2
    all_goals
     go_ret
     exact⟨Q3 (by unfold Tg;rw[Qx hlt HT.o]),HN.o.drew.trans hx⟩
  ·have hge:(n:Int)<=(j:Int)+1:=by omega
   go_wp2
   go_ret
   exact⟨Q3 (by unfold Tg;rw[Qt (by omega) hrel]),HN.o⟩
theorem Q4o (n:Nat)(p:Nat->Bool):Qo n p=true↔∀i,i<n->p i=true:=
 ⟨λh i hi=>Jf h hi,λh=>Qt lR (λi hi=>h i hi)⟩
theorem Qfm {G:Gr}(h:TW G){v:Nat}(hv:v<G.eo.length):Tg (fsA G (v+1)-fsA G v) (ltG G (seg G.tt (fsA G v) (fsA G (v+1))))=oOk G v:=by
 have E0:=Pg h (v:=v) (by omega)
 have E1:=Pg h (v:=v+1) (by omega)
 have E2:=Qbw h hv
 unfold oOk Tg
 rw[E1.1,zU,Bool.eq_iff_iff,Q4o,Q4o]
 generalize hp:fsA G v=p at *
 generalize fsA G (v+1)=q at *
 constructor
 ·intro H k hk
  unfold oAt
  by_cases e:k<=p
  ·have:((k:Int)<=iat G.fi v):=by omega
   simp[this]
  ·have:=H (k-p) (by omega)
   obtain⟨d,hd⟩:∃d,k-p=d+1:=⟨k-p-1,by omega⟩
   rw[hd,Ji] at this
   unfold ltG at this
   rw[Gk (by omega),Gk (by omega),decide_eq_true_eq] at this
   have e1:p+d=k-1:=by omega
   have e2:p+(d+1)=k:=by omega
   rw[e1,e2] at this
   unfold Us
   simp[this]
 ·intro H i hi
  cases i with
  |zero=>rfl
  |succ i=>
   rw[Ji]
   unfold ltG
   rw[Gk (by omega),Gk (by omega),decide_eq_true_eq]
   have:=H (p+(i+1)) (by omega)
   unfold oAt Us at this
   rw[Bool.or_eq_true,decide_eq_true_eq,decide_eq_true_eq] at this
   rcases this with h1|h1
   ·omega
   ·have e:p+(i+1)-1=p+i:=by omega
    rw[e] at h1
    exact h1
theorem Ec (B:Nat)(v0 v1 v2 v3 v4 v5 v6:Value)(G:Gr)(w:World)(h0:HG B w v0 v1 v2 v3 v4 v5 v6 G)(hT:TW G) :
  Calls prog 27 #[.agg #[v0,v1,v2,v3,v4,v5,v6]] w λe w'=>e=.returned (.bool (Qo G.eo.length (oOk G)))/\Nx w w':=by
 have HT:Z (TW G):=hT
 clear hT
 have HH:=mh h0
 obtain⟨⟨a0,c0,rfl,hn0,hk0⟩,⟨a1,c1,rfl,hn1,hk1⟩,⟨a2,c2,rfl,hn2,hk2⟩,⟨a3,c3,rfl,hn3,hk3⟩,⟨a4,c4,rfl,hn4,hk4⟩,⟨a5,c5,rfl,hn5,hk5⟩,⟨a6,c6,rfl,hn6,hk6⟩⟩:=h0
 have HM0:=mh hn0
 have HM5:=mh hn5
 unfold maxLen at hn0 hn1 hn2 hn3 hn4 hn5 hn6
 generalize hz0:G.eo.length=n0 at *
 have Z0:=mh hz0
 clear hz0
 generalize hz1:G.so.length=n1 at *
 have Z1:=mh hz1
 clear hz1
 generalize hz2:G.fi.length=n2 at *
 have Z2:=mh hz2
 clear hz2
 generalize hz3:G.tt.length=n3 at *
 have Z3:=mh hz3
 clear hz3
 generalize hz4:G.co.length=n4 at *
 have Z4:=mh hz4
 clear hz4
 generalize hz5:G.sr.length=n5 at *
 have Z5:=mh hz5
 clear hz5
 generalize hz6:G.we.length=n6 at *
 have Z6:=mh hz6
 clear hz6
 have HWB:Z (Nx w (w.alloc (.cells #[sL a0 n0 c0,sL a1 n1 c1,sL a2 n2 c2,sL a3 n3 c3,sL a4 n4 c4,sL a5 n5 c5,sL a6 n6 c6] 25))):=Qe _ _
 go_enter func27,ntmps27
 go_wp2
 go_loopw [9] (λi wr=>∃k:Nat,k<=n0/\i=iV k/\Z (Jz (oOk G) k)/\Z (Nx (w.alloc (.cells #[sL a0 n0 c0,sL a1 n1 c1,sL a2 n2 c2,sL a3 n3 c3,sL a4 n4 c4,sL a5 n5 c5,sL a6 n6 c6] 25)) wr)) (λi _=>n0-(intOf i).toNat)
 case atStart=>exact⟨0,nZ,rfl,Qy _,Nx.refl _⟩
 obtain⟨k,hkn,rfl,HA,HN⟩:=hrel
 have BA:=(Blk.new w #[sL a0 n0 c0,sL a1 n1 c1,sL a2 n2 c2,sL a3 n3 c3,sL a4 n4 c4,sL a5 n5 c5,sL a6 n6 c6] 25 _ rfl).next HN.o
 have HW:=mh (HWB.o.trans HN.o)
 have HBA:=mh BA
 by_cases hlt:k<n0
 ·have hlt':(k:Int)<n0:=by omega
  have k0:=BA.c 0 rfl
  have k1:=BA.c 1 rfl
  have k2:=BA.c 2 rfl
  have k3:=BA.c 3 rfl
  have k4:=BA.c 4 rfl
  have k5:=BA.c 5 rfl
  have k6:=BA.c 6 rfl
  clear BA hk0 hk1 hk2 hk3 hk4 hk5 hk6
  go_wp2_with fail
  refine(Q31 B _ _ _ _ _ _ _ G k _ (by exact HH.o.next HW.o) HT.o (by rw[Z0.o];exact hlt)).mono ?_
  rintro e w1 ⟨⟨ta,tn,tc,rfl,hS⟩,hx⟩
  have HW1:=mh (HW.o.trans hx)
  have HN1:=mh (HN.o.trans hx)
  have HBA1:=mh (HBA.o.next hx)
  have HSEG:Z (Tg (seg G.tt (fsA G k) (fsA G (k+1))).length (ltG G (seg G.tt (fsA G k) (fsA G (k+1))))=oOk G k):=by
   unfold Z
   rw[Pn (Pg HT.o (v:=k+1) (by rw[Z0.o];omega)).2]
   exact Qfm HT.o (by rw[Z0.o];exact hlt)
  have HSI:Z (∀i,i<(seg G.tt (fsA G k) (fsA G (k+1))).length->0<=iat (seg G.tt (fsA G k) (fsA G (k+1))) i/\iat (seg G.tt (fsA G k) (fsA G (k+1))) i<G.eo.length):=by
   intro i hi
   have q1:=(Pg HT.o (v:=k+1) (by rw[Z0.o];omega)).2
   rw[Pn q1] at hi
   rw[Gk hi]
   exact HT.o.tt _ (by omega)
  clear hx k0 k1 k2 k3 k4 k5 k6
  generalize seg G.tt (fsA G k) (fsA G (k+1))=sg at *
  go_wp2_with fail
  refine(Qch B B w.heap.size _ (sL a0 n0 c0) (sL a1 n1 c1) (sL a2 n2 c2) (sL a3 n3 c3) (sL a4 n4 c4) (sL a5 n5 c5) (sL a6 n6 c6) G sg _ (by exact hS) (by exact HBA1.o) (by exact HH.o.h0.next HW1.o) HSI.o).mono ?_
  rintro e w2 ⟨rfl,hx⟩
  rw[HSEG.o]
  have HW2:=mh (HW1.o.trans hx)
  have HN2:=mh (HN1.o.trans hx)
  clear hx HSEG HSI
  cases g1:oOk G k
  case false=>
   have HF:=mh g1
   clear g1
   go_wp2
   go_ret
   exact⟨Q3 (Qx hlt HF.o).symm,HW2.o⟩
  case true=>
   have HF:=mh g1
   clear g1
   go_wp2
   go_roundw
   case rel=>exact⟨k+1,by omega,by go_num,Qm HA.o HF.o,HN2⟩
   case measure=>simp[intOf];omega
 ·go_wp2
  go_ret
  exact⟨Q3 (Qt (by omega) HA.o).symm,HW.o⟩
end Go.Proofs.YtphiaobccollhaaGreat
