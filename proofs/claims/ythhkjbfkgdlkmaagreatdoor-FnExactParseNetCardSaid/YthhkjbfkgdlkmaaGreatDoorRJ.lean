import Derived.Test.YthhkjbfkgdlkmaaGreatDoorRI
namespace Go.Proofs.YthhkjbfkgdlkmaaGreatDoor
open Go.RowKit Go.Sort
set_option linter.unusedVariables false
set_option maxRecDepth 1000000
set_option maxHeartbeats 16000000
theorem eqParsed_same (B B':Nat)(c l:Int)(v0 v1 v2 v3 u0 u1 u2 u3:Value)(N:Nt)(w:World)(h0:HNet B w v0 v1 v2 v3 N)(h1:HNet B' w u0 u1 u2 u3 N) :
  Calls Tryz.prog 7 #[.agg #[.int .i64 c,.int .i64 l,v0,v1,v2,v3,.int .i64 N.uturn],.agg #[.int .i64 c,.int .i64 l,u0,u1,u2,u3,.int .i64 N.uturn]] w λe w'=>e=.returned (.bool true)/\Nx w w':=by
 have HA:Hid (HNet B w v0 v1 v2 v3 N):=h0
 have HB:Hid (HNet B' w u0 u1 u2 u3 N):=h1
 have hc:(c !=c)=false:=by simp
 have hl:(l !=l)=false:=by simp
 clear h0 h1
 go_enter Tryz.func7,Tryz.ntmps7
 go_wp2_with fail
 refine(eqNet_same B B' _ _ _ _ _ _ _ _ N _ (HA.out.next ((box1 _ _).trans (box1 _ _))) (HB.out.next ((box1 _ _).trans (box1 _ _)))).mono ?_
 rintro e w1 ⟨rfl,hx⟩
 have HX:Hid (Nx w w1):=((box1 _ _).trans (box1 _ _)).trans hx
 clear hx
 go_wp2
 go_ret
 exact⟨rfl,HX.out⟩
structure MP where
 vN:Value
 vW:Value
 vR:Value
 vT:Value
 n0:Nat
 nW:Nat
 nR:Nat
 nT:Nat
 sW:Nat->Value
 sR:Nat->Value
 lW:Nat->Nat
 lR:Nat->Nat
def MP.k1 (m:MP):Int:=1+m.n0
def MP.k2 (m:MP):Int:=kW m.k1 m.lW m.nW
def MP.k3 (m:MP):Int:=kR m.k2 m.lR m.nR
def MP.k4 (m:MP):Int:=m.k3+3*m.nT
def MP.z (m:MP)(b:Nat):Prop:=some b=m.vN.ownBlock
def MP.o (m:MP)(b:Nat):Prop:=inS m.vW (2*m.nW) m.sW b
def MP.p (m:MP)(b:Nat):Prop:=inS m.vR m.nR m.sR b
def MP.q (m:MP)(b:Nat):Prop:=some b=m.vT.ownBlock
def MP.all (m:MP)(b:Nat):Prop:=m.z b\/m.o b\/m.p b\/m.q b
structure MSm (m:MP):Prop where
 n0:m.n0<=1000000
 nW:m.nW<=1000000
 nR:m.nR<=1000000
 nT:m.nT<=1000000
 lW:∀i,i<2*m.nW->m.lW i<=1000000
 lR:∀i,i<m.nR->m.lR i<=1000000
theorem MSm.ks {m:MP}(h:MSm m):(1<=m.k1/\m.k1<=10000000)/\(1<=m.k2/\m.k2<=10000000000000)/\(1<=m.k3/\m.k3<=20000000000000)/\(1<=m.k4/\m.k4<=30000000000000):=by
 have h0:=h.n0
 have h1:=h.nW
 have h2:=h.nR
 have h3:=h.nT
 have e1:m.k1=1+m.n0:=rfl
 have a:=kW_le (k:=m.k1) h.lW m.nW (Nat.le_refl _)
 have e2:m.k2=kW m.k1 m.lW m.nW:=rfl
 have b:=kR_le (k:=m.k2) h.lR m.nR (Nat.le_refl _)
 have e3:m.k3=kR m.k2 m.lR m.nR:=rfl
 have e4:m.k4=m.k3+3*m.nT:=rfl
 omega
structure NMk (C:Nat)(w:World)(m:MP):Prop where
 a0:∃F,SI w m.vN m.n0 F
 a1:∃V,SK 45 4 w m.vW m.nW V/\∀i,i<m.nW->∀q,2<=q->q<4->V i q=uvW m.sW i q
 b1:∀i,i<2*m.nW->∃F,SI w (m.sW i) (m.lW i) F
 a2:∃V,SK 47 7 w m.vR m.nR V/\∀i,i<m.nR->∀q,6<=q->q<7->V i q=uvR m.sR i q
 b2:∀i,i<m.nR->∃F,SI w (m.sR i) (m.lR i) F
 a3:∃V,SK 69 3 w m.vT m.nT V
 s1:Sep m.vW (2*m.nW) m.sW
 s2:Sep m.vR m.nR m.sR
 d01:∀b,m.z b->¬m.o b
 d02:∀b,m.z b->¬m.p b
 d03:∀b,m.z b->¬m.q b
 d12:∀b,m.o b->¬m.p b
 d13:∀b,m.o b->¬m.q b
 d23:∀b,m.p b->¬m.q b
 lt:∀b,m.all b->C<=b/\b<w.heap.size
 sm:MSm m
structure NMd (w:World)(m:MP):Prop where
 a0:SI w m.vN m.n0 (λi=>1+i)
 a1:SK 45 4 w m.vW m.nW (mkW m.k1 m.lW m.sW)
 b1:∀i,i<2*m.nW->SI w (m.sW i) (m.lW i) (λq=>bW m.k1 m.lW i+q)
 a2:SK 47 7 w m.vR m.nR (mkR m.k2 m.lR m.sR)
 b2:∀i,i<m.nR->SI w (m.sR i) (m.lR i) (λq=>bR m.k2 m.lR i+q)
 a3:SK 69 3 w m.vT m.nT (mkT m.k3)
theorem NMk.chg {C:Nat}{w w':World}{m:MP}{S:Nat->Prop}(h:NMk C w m)(k:Chg S w w')(hS:∀b,m.all b->¬S b):NMk C w' m:=by
 have kp:∀{v:Value},(∀b,some b=v.ownBlock->m.all b)->∀g,g<w.heap.size->v.ownBlock=some g->w'.heap[g]?=w.heap[g]?:=λhv g hg e=>k.block g hg (hS g (hv g e.symm))
 obtain⟨F,hF⟩:=h.a0
 obtain⟨V1,hV1,hU1⟩:=h.a1
 obtain⟨V2,hV2,hU2⟩:=h.a2
 obtain⟨V3,hV3⟩:=h.a3
 refine⟨⟨F,hF.keep2 (kp λb e=>Or.inl e)⟩,⟨V1,hV1.keep (kp λb e=>Or.inr (Or.inl (Or.inl e))),hU1⟩,λi hi=>?_,⟨V2,hV2.keep (kp λb e=>Or.inr (Or.inr (Or.inl (Or.inl e)))),hU2⟩,λi hi=>?_,⟨V3,hV3.keep (kp λb e=>Or.inr (Or.inr (Or.inr e)))⟩,h.s1,h.s2,h.d01,h.d02,h.d03,h.d12,h.d13,h.d23,λb hb=>⟨(h.lt b hb).1,Nat.lt_of_lt_of_le (h.lt b hb).2 k.size⟩,h.sm⟩
 ·obtain⟨F,hF⟩:=h.b1 i hi
  exact⟨F,hF.keep2 (kp λb e=>Or.inr (Or.inl (Or.inr ⟨i,hi,e⟩)))⟩
 ·obtain⟨F,hF⟩:=h.b2 i hi
  exact⟨F,hF.keep2 (kp λb e=>Or.inr (Or.inr (Or.inl (Or.inr ⟨i,hi,e⟩))))⟩
theorem NMk.next {C:Nat}{w w':World}{m:MP}(h:NMk C w m)(k:Nx w w'):NMk C w' m:=h.chg (S:=λ_=>False) (Chg.nx k) (λ_ _ x=>x)
theorem NMd.chg {w w':World}{m:MP}{S:Nat->Prop}(h:NMd w m)(k:Chg S w w')(hS:∀b,m.all b->¬S b):NMd w' m:=by
 have kp:∀{v:Value},(∀b,some b=v.ownBlock->m.all b)->∀g,g<w.heap.size->v.ownBlock=some g->w'.heap[g]?=w.heap[g]?:=λhv g hg e=>k.block g hg (hS g (hv g e.symm))
 exact⟨h.a0.keep2 (kp λb e=>Or.inl e),h.a1.keep (kp λb e=>Or.inr (Or.inl (Or.inl e))),λi hi=>(h.b1 i hi).keep2 (kp λb e=>Or.inr (Or.inl (Or.inr ⟨i,hi,e⟩))),h.a2.keep (kp λb e=>Or.inr (Or.inr (Or.inl (Or.inl e)))),λi hi=>(h.b2 i hi).keep2 (kp λb e=>Or.inr (Or.inr (Or.inl (Or.inr ⟨i,hi,e⟩)))),h.a3.keep (kp λb e=>Or.inr (Or.inr (Or.inr e)))⟩
theorem NMd.next {w w':World}{m:MP}(h:NMd w m)(k:Nx w w'):NMd w' m:=h.chg (S:=λ_=>False) (Chg.nx k) (λ_ _ x=>x)
theorem markNet_any (C:Nat)(m:MP)(u:Int)(w:World)(h:NMk C w m) :
  Calls Tryz.prog 24 #[.agg #[m.vN,m.vW,m.vR,m.vT,.int .i64 u],.int .i64 1] w λe w'=>e=.returned (.int .i64 m.k4)/\NMd w' m/\Chg m.all w w':=by
 have H:=mkHid' h
 have HX0:Hid (Nx w (w.alloc (.cells #[m.vN,m.vW,m.vR,m.vT,.int .i64 u] 28))):=box1 _ _
 have HB0:Hid (BT (w.alloc (.cells #[m.vN,m.vW,m.vR,m.vT,.int .i64 u] 28)) w.heap.size #[m.vN,m.vW,m.vR,m.vT,.int .i64 u] 28):=BT.new _ _ _ _ rfl
 have HNB:Hid (¬m.all w.heap.size):=λx=>by have:=(h.lt _ x).2;omega
 have HM:=mkHid' h.sm
 clear h
 go_enter Tryz.func24,Tryz.ntmps24
 go_wp2_with fail
 generalize w.alloc (.cells #[m.vN,m.vW,m.vR,m.vT,.int .i64 u] 28)=w0 at *
 have H0:=mkHid' (H.out.next HX0.out)
 obtain⟨F,hF⟩:=H0.out.a0
 refine(markI_any m.vN m.n0 F w0 1 hF (by have:=HM.out.n0;omega) (by omega) (by omega)).mono ?_
 rintro e w1 ⟨he,hs1,ho1⟩
 have he:e=.returned (.int .i64 m.k1):=he
 subst he
 have hc1:Chg m.z w0 w1:=Chg.only ho1 (λb e=>e)
 have HC1:Hid (Chg m.z w0 w1):=hc1
 have HA0:Hid (SI w1 m.vN m.n0 (λi=>1+i)):=hs1
 have HB1:=mkHid' (HB0.out.chg hc1 (λe=>HNB.out (Or.inl e)))
 have x1:=HB1.out.blk.cell (i:=1) rfl
 clear hs1 ho1 hc1 hF
 go_wp2_with fail
 have kp1:∀{v:Value},(∀b,some b=v.ownBlock->¬m.z b)->∀g,g<w0.heap.size->v.ownBlock=some g->w1.heap[g]?=w0.heap[g]?:=λhv g hg e=>HC1.out.block g hg (hv g e.symm)
 obtain⟨V1,hV1,hU1⟩:=H0.out.a1
 refine(markWays_any m.vW m.nW m.sW m.lW V1 m.k1 w1 (hV1.keep (kp1 λb e x=>H.out.d01 b x (Or.inl e))) hU1 H.out.s1 (λi hi=>by obtain⟨F,hF⟩:=H0.out.b1 i hi;exact⟨F,hF.keep2 (kp1 λb e x=>H.out.d01 b x (Or.inr ⟨i,hi,e⟩))⟩) HM.out.nW HM.out.lW (by have:=HM.out.ks;omega) (by have:=HM.out.ks;omega)).mono ?_
 rintro e w2 ⟨he,hs2,hi2,hc2⟩
 have he:e=.returned (.int .i64 m.k2):=he
 subst he
 have HC2:Hid (Chg m.o w1 w2):=hc2
 have HA1:Hid (SK 45 4 w2 m.vW m.nW (mkW m.k1 m.lW m.sW)):=hs2
 have HI1:Hid (∀i,i<2*m.nW->SI w2 (m.sW i) (m.lW i) (λq=>bW m.k1 m.lW i+q)):=hi2
 have HA0:Hid (SI w2 m.vN m.n0 (λi=>1+i)):=HA0.out.keep2 (λg hg e=>HC2.out.block g hg (λx=>H.out.d01 g e.symm x))
 have HB2:=mkHid' (HB1.out.chg hc2 (λe=>HNB.out (Or.inr (Or.inl e))))
 have x2:=HB2.out.blk.cell (i:=2) rfl
 clear hs2 hi2 hc2 hV1 hU1 kp1 x1
 go_wp2_with fail
 have kp2:∀{v:Value},(∀b,some b=v.ownBlock->¬m.z b/\¬m.o b)->∀g,g<w0.heap.size->v.ownBlock=some g->w2.heap[g]?=w0.heap[g]?:=λhv g hg e=>(HC2.out.block g (Nat.lt_of_lt_of_le hg HC1.out.size) (hv g e.symm).2).trans (HC1.out.block g hg (hv g e.symm).1)
 obtain⟨V2,hV2,hU2⟩:=H0.out.a2
 refine(markRels_any m.vR m.nR m.sR m.lR V2 m.k2 w2 (hV2.keep (kp2 λb e=>⟨λx=>H.out.d02 b x (Or.inl e),λx=>H.out.d12 b x (Or.inl e)⟩)) hU2 H.out.s2 (λi hi=>by obtain⟨F,hF⟩:=H0.out.b2 i hi;exact⟨F,hF.keep2 (kp2 λb e=>⟨λx=>H.out.d02 b x (Or.inr ⟨i,hi,e⟩),λx=>H.out.d12 b x (Or.inr ⟨i,hi,e⟩)⟩)⟩) HM.out.nR HM.out.lR (by have:=HM.out.ks;omega) (by have:=HM.out.ks;omega)).mono ?_
 rintro e w3 ⟨he,hs3,hi3,hc3⟩
 have he:e=.returned (.int .i64 m.k3):=he
 subst he
 have HC3:Hid (Chg m.p w2 w3):=hc3
 have HA2:Hid (SK 47 7 w3 m.vR m.nR (mkR m.k2 m.lR m.sR)):=hs3
 have HI2:Hid (∀i,i<m.nR->SI w3 (m.sR i) (m.lR i) (λq=>bR m.k2 m.lR i+q)):=hi3
 have HA0:Hid (SI w3 m.vN m.n0 (λi=>1+i)):=HA0.out.keep2 (λg hg e=>HC3.out.block g hg (λx=>H.out.d02 g e.symm x))
 have HA1:Hid (SK 45 4 w3 m.vW m.nW (mkW m.k1 m.lW m.sW)):=HA1.out.keep (λg hg e=>HC3.out.block g hg (λx=>H.out.d12 g (Or.inl e.symm) x))
 have HI1:Hid (∀i,i<2*m.nW->SI w3 (m.sW i) (m.lW i) (λq=>bW m.k1 m.lW i+q)):=λi hi=>(HI1.out i hi).keep2 (λg hg e=>HC3.out.block g hg (λx=>H.out.d12 g (Or.inr ⟨i,hi,e.symm⟩) x))
 have HB3:=mkHid' (HB2.out.chg hc3 (λe=>HNB.out (Or.inr (Or.inr (Or.inl e)))))
 have x3:=HB3.out.blk.cell (i:=3) rfl
 clear hs3 hi3 hc3 hV2 hU2 kp2 x2
 go_wp2_with fail
 have kp3:∀{v:Value},(∀b,some b=v.ownBlock->¬m.z b/\¬m.o b/\¬m.p b)->∀g,g<w0.heap.size->v.ownBlock=some g->w3.heap[g]?=w0.heap[g]?:=λhv g hg e=>(HC3.out.block g (Nat.lt_of_lt_of_le hg (Nat.le_trans HC1.out.size HC2.out.size)) (hv g e.symm).2.2).trans ((HC2.out.block g (Nat.lt_of_lt_of_le hg HC1.out.size) (hv g e.symm).2.1).trans (HC1.out.block g hg (hv g e.symm).1))
 obtain⟨V3,hV3⟩:=H0.out.a3
 refine(markTurns_any m.vT m.nT V3 m.k3 w3 (hV3.keep (kp3 λb e=>⟨λx=>H.out.d03 b x e,λx=>H.out.d13 b x e,λx=>H.out.d23 b x e⟩)) HM.out.nT (by have:=HM.out.ks;omega) (by have:=HM.out.ks;omega)).mono ?_
 rintro e w4 ⟨he,hs4,hc4⟩
 have he:e=.returned (.int .i64 m.k4):=he
 subst he
 have HC4:Hid (Chg m.q w3 w4):=hc4
 have HA3:Hid (SK 69 3 w4 m.vT m.nT (mkT m.k3)):=hs4
 clear hs4 hc4 hV3 kp3 x3
 go_wp2
 go_ret
 refine⟨rfl,⟨HA0.out.keep2 (λg hg e=>HC4.out.block g hg (λx=>H.out.d03 g e.symm x)),HA1.out.keep (λg hg e=>HC4.out.block g hg (λx=>H.out.d13 g (Or.inl e.symm) x)),λi hi=>(HI1.out i hi).keep2 (λg hg e=>HC4.out.block g hg (λx=>H.out.d13 g (Or.inr ⟨i,hi,e.symm⟩) x)),HA2.out.keep (λg hg e=>HC4.out.block g hg (λx=>H.out.d23 g (Or.inl e.symm) x)),λi hi=>(HI2.out i hi).keep2 (λg hg e=>HC4.out.block g hg (λx=>H.out.d23 g (Or.inr ⟨i,hi,e.symm⟩) x)),HA3.out⟩,?_⟩
 exact(((Chg.nx HX0.out).trans (HC1.out.mono λb x=>Or.inl x)).trans (HC2.out.mono λb x=>Or.inr (Or.inl x))).trans ((HC3.out.mono λb x=>Or.inr (Or.inr (Or.inl x))).trans (HC4.out.mono λb x=>Or.inr (Or.inr (Or.inr x))))
theorem heldNet_any (m:MP)(u:Int)(w:World)(h:NMd w m)(hm:MSm m) :
  Calls Tryz.prog 25 #[.agg #[m.vN,m.vW,m.vR,m.vT,.int .i64 u],.int .i64 1] w λe w'=>e=.returned (.int .i64 m.k4)/\Nx w w':=by
 have HX0:Hid (Nx w (w.alloc (.cells #[m.vN,m.vW,m.vR,m.vT,.int .i64 u] 28))):=box1 _ _
 have HB0:Hid (BT (w.alloc (.cells #[m.vN,m.vW,m.vR,m.vT,.int .i64 u] 28)) w.heap.size #[m.vN,m.vW,m.vR,m.vT,.int .i64 u] 28):=BT.new _ _ _ _ rfl
 have HH:=mkHid' (h.next HX0.out)
 have HM:=mkHid' hm
 have p1:¬m.k1<0:=by have:=hm.ks;omega
 have p2:¬m.k2<0:=by have:=hm.ks;omega
 have p3:¬m.k3<0:=by have:=hm.ks;omega
 have p4:¬m.k4<0:=by have:=hm.ks;omega
 clear h hm
 go_enter Tryz.func25,Tryz.ntmps25
 go_wp2_with fail
 generalize w.alloc (.cells #[m.vN,m.vW,m.vR,m.vT,.int .i64 u] 28)=w0 at *
 have x1:=HB0.out.blk.cell (i:=1) rfl
 have x2:=HB0.out.blk.cell (i:=2) rfl
 have x3:=HB0.out.blk.cell (i:=3) rfl
 refine(heldI_any m.vN m.n0 w0 1 HH.out.a0 (by have:=HM.out.n0;omega) (by omega) (by omega)).mono ?_
 rintro e w1 ⟨he,rfl⟩
 have he:e=.returned (.int .i64 m.k1):=he
 subst he
 go_wp2_with fail
 refine(heldWays_any m.vW m.nW m.sW m.lW m.k1 w1 HH.out.a1 HH.out.b1 HM.out.nW HM.out.lW (by have:=HM.out.ks;omega) (by have:=HM.out.ks;omega)).mono ?_
 rintro e w2 ⟨he,rfl⟩
 have he:e=.returned (.int .i64 m.k2):=he
 subst he
 go_wp2_with fail
 refine(heldRels_any m.vR m.nR m.sR m.lR m.k2 w2 HH.out.a2 HH.out.b2 HM.out.nR HM.out.lR (by have:=HM.out.ks;omega) (by have:=HM.out.ks;omega)).mono ?_
 rintro e w3 ⟨he,rfl⟩
 have he:e=.returned (.int .i64 m.k3):=he
 subst he
 go_wp2_with fail
 refine(heldTurns_any m.vT m.nT m.k3 w3 HH.out.a3 HM.out.nT (by have:=HM.out.ks;omega) (by have:=HM.out.ks;omega)).mono ?_
 rintro e w4 ⟨he,rfl⟩
 have he:e=.returned (.int .i64 m.k4):=he
 subst he
 go_wp2
 go_ret
 exact⟨rfl,HX0.out⟩
theorem markParsed_any (C:Nat)(m:MP)(c l u:Int)(w:World)(h:NMk C w m) :
  Calls Tryz.prog 10 #[.agg #[.int .i64 c,.int .i64 l,m.vN,m.vW,m.vR,m.vT,.int .i64 u],.int .i64 1] w λe w'=>e=.returned (.int .i64 m.k4)/\NMd w' m/\Chg m.all w w':=by
 have HX0:Hid (Nx w (w.alloc (.cells #[.int .i64 c,.int .i64 l,m.vN,m.vW,m.vR,m.vT,.int .i64 u] 30))):=box1 _ _
 have H:=mkHid' (h.next HX0.out)
 clear h
 go_enter Tryz.func10,Tryz.ntmps10
 go_wp2_with fail
 generalize w.alloc (.cells #[.int .i64 c,.int .i64 l,m.vN,m.vW,m.vR,m.vT,.int .i64 u] 30)=w0 at *
 refine(markNet_any C m u w0 H.out).mono ?_
 rintro e w1 ⟨rfl,hd,hc⟩
 have HD:=mkHid' hd
 have HC:=mkHid' ((Chg.nx (S:=m.all) HX0.out).trans hc)
 clear hd hc
 go_wp2
 go_ret
 exact⟨rfl,HD.out,HC.out⟩
theorem heldParsed_any (m:MP)(c l u:Int)(w:World)(h:NMd w m)(hm:MSm m) :
  Calls Tryz.prog 11 #[.agg #[.int .i64 c,.int .i64 l,m.vN,m.vW,m.vR,m.vT,.int .i64 u],.int .i64 1] w λe w'=>e=.returned (.int .i64 m.k4)/\Nx w w':=by
 have HX0:Hid (Nx w (w.alloc (.cells #[.int .i64 c,.int .i64 l,m.vN,m.vW,m.vR,m.vT,.int .i64 u] 30))):=box1 _ _
 have H:=mkHid' (h.next HX0.out)
 have HM:=mkHid' hm
 have p4:¬m.k4<0:=by have:=hm.ks;omega
 clear h hm
 go_enter Tryz.func11,Tryz.ntmps11
 go_wp2_with fail
 generalize w.alloc (.cells #[.int .i64 c,.int .i64 l,m.vN,m.vW,m.vR,m.vT,.int .i64 u] 30)=w0 at *
 refine(heldNet_any m u w0 H.out HM.out).mono ?_
 rintro e w1 ⟨rfl,hx⟩
 have HX:=mkHid' (HX0.out.trans hx)
 clear hx
 go_wp2
 go_ret
 exact⟨rfl,HX.out⟩
theorem rd_len (f:List ByteArray):(rdS f).way.nodes.length<=f.length/\(rdS f).way.weights.length<=f.length/\(rdS f).rel.ways.length<=f.length:=by
 have h1:=odds_le (vsL f) f.length
 have h2:=evens_le (vsL f) f.length
 have h3:=viaL_len (vsL f)
 rw[vsL_len] at h3
 have hz:∀x:Nat,0<=x:=Nat.zero_le
 unfold rdS
 repeat' split
 all_goals refine⟨?_,?_,?_⟩
 all_goals first
  |exact hz _
  |assumption
  |(show(viaL (vsL f)).length<=_;omega)
theorem prsM_len {bs:List UInt8}{ds:List De}(h:prsM bs=.ok ds):ds.length<=300001/\∀d∈ds,d.way.nodes.length<=300001/\d.way.weights.length<=300001/\d.rel.ways.length<=300001:=by
 unfold prsM at h
 split at h
 ·cases h
 rename_i hlen
 split at h
 ·cases h
 have hl:(bs.take (bs.length-1)).length<=300000:=by rw[List.length_take];omega
 generalize bs.take (bs.length-1)=cs at h hl
 have hs:∀i,i<(cutL cs 10).length->(sat (cutL cs 10) i).size<=300000:=λi hi=>Nat.le_trans (cutL_size hi) hl
 have hc:=(cutL_len cs 10).2
 generalize cutL cs 10=ls at h hs hc
 unfold prsL at h
 split at h
 ·cases h
 cases hf:firstN ls.length (lnB ls) with
 |some i=>rw[hf] at h;cases h
 |none=>
  rw[hf] at h
  dsimp only at h
  have hd:dsTo ls (ls.length-1)=ds:=by
   generalize dsTo ls (ls.length-1)=es at h
   unfold prsD at h
   cases h1:firstN es.length (repB es) with
   |some i=>rw[h1] at h;cases h
   |none=>
    rw[h1] at h
    dsimp only at h
    cases h2:firstN es.length (danB es) with
    |some i=>rw[h2] at h;cases h
    |none=>
     rw[h2] at h
     dsimp only at h
     split at h
     ·cases h
     ·injection h
  rw[<-hd]
  refine⟨by rw[dsTo_len];omega,λd hdm=>?_⟩
  unfold dsTo at hdm
  obtain⟨i,hi,rfl⟩:=List.mem_map.1 hdm
  have hi':=List.mem_range.1 hi
  have a:=rd_len (fldS (sat ls (i+1)))
  have b:=fld_len (sat ls (i+1))
  have c:=hs (i+1) (by omega)
  omega
theorem prsM_good {bs:List UInt8}{ds:List De}(h:prsM bs=.ok ds):Good ds:=⟨(prsM_yes h).1,(prsM_yes h).2⟩
def ntM (ds:List De):Nt:=⟨(tkA ds 1).map (λi=>(dat ds i).a),(tkA ds 2).map (λi=>(dat ds i).way),(tkA ds 3).map (λi=>(dat ds i).rel),(tkA ds 4).map (λi=>⟨(dat ds i).a,(dat ds i).b,(dat ds i).cost⟩),match (tkA ds 5).getLast? with|some i=>(dat ds i).cost|none=>0⟩
def pvC:Pm->Int|.error (c,_)=>c|.ok _=>0
def pvL:Pm->Int|.error (_,l)=>l|.ok _=>0
def pvN:Pm->Nt|.error (_,_)=>⟨[],[],[],[],0⟩|.ok ds=>ntM ds
def pV (p:Pm)(v0 v1 v2 v3:Value):Value:=.agg #[.int .i64 (pvC p),.int .i64 (pvL p),v0,v1,v2,v3,.int .i64 (pvN p).uturn]
theorem none_held (B:Nat)(w:World):HNet B w (.slice none 0 0) (.slice none 0 0) (.slice none 0 0) (.slice none 0 0) ⟨[],[],[],[],0⟩:=by
 refine⟨⟨none,0,rfl,by simp[maxLen],λh=>?_⟩,⟨none,0,rfl,by simp[maxLen],λh=>?_⟩,⟨none,0,rfl,by simp[maxLen],λh=>?_⟩,⟨none,0,rfl,by simp[maxLen],λh=>?_⟩⟩<;>exact absurd h (Nat.lt_irrefl _)
theorem PmIs.held {w w':World}{p:Pm}{e:Ending}(h:PmIs w w' p e)(hG:∀ds,p=.ok ds->Good ds):∃v0 v1 v2 v3,e=.returned (pV p v0 v1 v2 v3)/\HNet w.heap.size w' v0 v1 v2 v3 (pvN p):=by
 cases p with
 |error cl=>
  obtain⟨c,l⟩:=cl
  exact⟨_,_,_,_,h,none_held _ _⟩
 |ok ds=>
  obtain⟨xs,v0,v1,v2,v3,rfl,he,hy⟩:=h
  have hg:=hG _ rfl
  have hm:∀K i,i∈tkA (des xs) K->dxat xs i∈xs:=λK i hi=>by
   have h1:=(((tkA_all hg K).1 i).1 hi).1
   rw[des_len] at h1
   have e:dxat xs i=xs[i]:=by simp[dxat,List.getD_eq_getElem?_getD,h1]
   rw[e];exact List.getElem_mem h1
  have e0:(tkA (des xs) 1).map (aAt xs)=(tkA (des xs) 1).map (λi=>(dat (des xs) i).a):=List.map_congr_left (λi _=>by rw[dat_dx];rfl)
  have e1:((tkA (des xs) 2).map (wvAt xs)).map (·.1)=(tkA (des xs) 2).map (λi=>(dat (des xs) i).way):=by rw[List.map_map];exact List.map_congr_left (λi _=>by rw[dat_dx];rfl)
  have e2:((tkA (des xs) 3).map (rvAt xs)).map (·.1)=(tkA (des xs) 3).map (λi=>(dat (des xs) i).rel):=by rw[List.map_map];exact List.map_congr_left (λi _=>by rw[dat_dx];rfl)
  have e3:(tkA (des xs) 4).map (tnAt xs)=(tkA (des xs) 4).map (λi=>(⟨(dat (des xs) i).a,(dat (des xs) i).b,(dat (des xs) i).cost⟩:Tn)):=List.map_congr_left (λi _=>by rw[dat_dx];rfl)
  have e4:utx xs (tkA (des xs) 5)=(ntM (des xs)).uturn:=by
   unfold utx ntM
   cases (tkA (des xs) 5).getLast? with
   |none=>rfl
   |some i=>dsimp only;rw[dat_dx]
  have r0:=OwnI.held hy.r0
  have r1:=held_ways hy.r1 (λx hx=>by
   obtain⟨i,hi,rfl⟩:=List.mem_map.1 hx
   have:=hy.hd _ (hm 2 i hi)
   exact⟨this.h1,this.h2⟩)
  have r2:=held_rels hy.r2 (λx hx=>by
   obtain⟨i,hi,rfl⟩:=List.mem_map.1 hx
   exact(hy.hd _ (hm 3 i hi)).h3)
  have r3:=held_turns hy.r3
  rw[e0] at r0
  rw[e1] at r1
  rw[e2] at r2
  rw[e3] at r3
  refine⟨v0,v1,v2,v3,?_,r0,r1,r2,r3⟩
  rw[he,e4]
  rfl
def irW (ws:List Wv):List (Value×List Int):=ws.flatMap (λx=>[(x.2.1,x.1.nodes),(x.2.2,x.1.weights)])
def irR (rs:List Rv):List (Value×List Int):=rs.flatMap (λx=>[(x.2,x.1.ways)])
theorem irO_perm:∀ps:List Px,(irW (wyO ps)++irR (rlO ps)).Perm (irO ps)
 |[]=>List.Perm.refl _
 |p::ps=>by
  have ih:=irO_perm ps
  have ew:wyO (p::ps)=wyP p++wyO ps:=rfl
  have er:rlO (p::ps)=rlP p++rlO ps:=rfl
  have ei:irO (p::ps)=irP p++irO ps:=rfl
  have fw:irW (wyP p++wyO ps)=irW (wyP p)++irW (wyO ps):=by simp[irW]
  have fr:irR (rlP p++rlO ps)=irR (rlP p)++irR (rlO ps):=by simp[irR]
  rw[ew,er,ei,fw,fr]
  by_cases k2:p.d.kind=2
  ·have a:wyP p=[(p.d.way,p.vn,p.vw)]:=by unfold wyP;rw[if_pos k2]
   have b:rlP p=[]:=by unfold rlP;rw[if_neg (by rw[k2];decide)]
   have c:irP p=[(p.vn,p.d.way.nodes),(p.vw,p.d.way.weights)]:=by unfold irP;rw[if_pos k2]
   rw[a,b,c]
   show((p.vn,p.d.way.nodes)::(p.vw,p.d.way.weights)::(irW (wyO ps)++irR (rlO ps))).Perm ((p.vn,p.d.way.nodes)::(p.vw,p.d.way.weights)::irO ps)
   exact(ih.cons _).cons _
  ·by_cases k3:p.d.kind=3
   ·have a:wyP p=[]:=by unfold wyP;rw[if_neg k2]
    have b:rlP p=[(p.d.rel,p.vr)]:=by unfold rlP;rw[if_pos k3]
    have c:irP p=[(p.vr,p.d.rel.ways)]:=by unfold irP;rw[if_neg k2,if_pos k3]
    rw[a,b,c]
    show(irW (wyO ps)++((p.vr,p.d.rel.ways)::irR (rlO ps))).Perm ((p.vr,p.d.rel.ways)::irO ps)
    exact List.perm_middle.trans (ih.cons _)
   ·have a:wyP p=[]:=by unfold wyP;rw[if_neg k2]
    have b:rlP p=[]:=by unfold rlP;rw[if_neg k3]
    have c:irP p=[]:=by unfold irP;rw[if_neg k2,if_neg k3]
    rw[a,b,c]
    exact ih
theorem irW_at:∀(ws:List Wv) (i:Nat) (hi:i<ws.length),(irW ws)[2*i]?=some (ws[i].2.1,ws[i].1.nodes)/\(irW ws)[2*i+1]?=some (ws[i].2.2,ws[i].1.weights)
 |x::ws,0,_=>⟨rfl,rfl⟩
 |x::ws,i+1,h=>by
  have ih:=irW_at ws i (by simpa using h)
  have e:irW (x::ws)=(x.2.1,x.1.nodes)::(x.2.2,x.1.weights)::irW ws:=rfl
  rw[e,show 2*(i+1)=2*i+1+1 by omega,List.getElem?_cons_succ,List.getElem?_cons_succ,List.getElem?_cons_succ,List.getElem?_cons_succ]
  exact ih
theorem irW_len:∀ws:List Wv,(irW ws).length=2*ws.length
 |[]=>rfl
 |x::ws=>by
  have e:irW (x::ws)=(x.2.1,x.1.nodes)::(x.2.2,x.1.weights)::irW ws:=rfl
  rw[e,List.length_cons,List.length_cons,irW_len ws,List.length_cons]
  omega
theorem irR_map (rs:List Rv):irR rs=rs.map (λx=>(x.2,x.1.ways)):=by
 induction rs with
 |nil=>rfl
 |cons x rs ih=>show(x.2,x.1.ways)::irR rs=_;rw[ih];rfl
def zir:Value×List Int:=(.slice none 0 0,[])
def mpOf (vN vW vR vT:Value)(ns:List Int)(ws:List Wv)(rs:List Rv)(ts:List Tn):MP:=
 ⟨vN,vW,vR,vT,ns.length,ws.length,rs.length,ts.length,λi=>((irW ws).getD i zir).1,λi=>((irR rs).getD i zir).1,λi=>((irW ws).getD i zir).2.length,λi=>((irR rs).getD i zir).2.length⟩
theorem sk_of {α:Type}{C t k n:Nat}{w:World}{v:Value}{l:List α}{f:α->List Value}(h:w.ownsRow C t k v n (l.flatMap f))(hl:l.length=n)(hk:0<k)(hf:∀x,(f x).length=k):SK t k w v n (λi q=>((l[i]?.map (λx=>(f x).getD q (.bool false))).getD (.bool false))):=by
 have hrow:=h
 obtain⟨h1,h2⟩:=h
 rcases h2 with⟨rfl,h5⟩|⟨g,cap,cur,rfl,hg,hh,hc,hm,hs,ht⟩
 ·exact⟨none,0,by rw[h5],λhp=>by rw[h5] at hp;cases hp⟩
 ·refine⟨_,_,rfl,λ_=>⟨g,rfl,cur,hh,?_,λi j hi hj=>?_⟩⟩
  ·have:n*k<=cap*k:=Nat.mul_le_mul_right k hc
   omega
  ·have hx:l[i]?=some (l[i]'(by omega)):=List.getElem?_eq_getElem (by omega)
   obtain⟨b,c,e,-,-,-,-,hq⟩:=row_cells hrow hl hk hf hx
   have eb:g=b:=by
    simp only[Value.slice.injEq,Option.some.injEq,Addr.mk.injEq] at e
    exact e.1.1
   have:=hq j hj
   rw[<-eb,World.cell?,hh] at this
   have e1:cur[i*k+j]?=(f (l[i]'(by omega)))[j]?:=by simpa using this
   rw[e1]
   dsimp only
   rw[hx]
   have:j<(f (l[i]'(by omega))).length:=by rw[hf];exact hj
   simp[List.getD_eq_getElem?_getD,this]
theorem ap_row {l:List (Value×List Int)}(h:l.Pairwise Ap){i j g:Nat}(hi:i<l.length)(hj:j<l.length)(hij:i≠j)(e:(l.getD i zir).1.ownBlock=some g):(l.getD j zir).1.ownBlock≠some g:=by
 rw[List.pairwise_iff_getElem] at h
 have e1:l.getD i zir=l[i]:=by simp[List.getD_eq_getElem?_getD,hi]
 have e2:l.getD j zir=l[j]:=by simp[List.getD_eq_getElem?_getD,hj]
 rw[e1] at e
 rw[e2]
 rcases Nat.lt_or_gt_of_ne hij with c|c
 ·exact h i j hi hj c g e
 ·exact λk=>h j i hj hi c g k e
theorem getD_mem {l:List (Value×List Int)}{i:Nat}(hi:i<l.length):l.getD i zir∈l:=by
 have e1:l.getD i zir=l[i]:=by simp[List.getD_eq_getElem?_getD,hi]
 rw[e1];exact List.getElem_mem hi
theorem Ap.symm {a b:Value×List Int}(h:Ap a b):Ap b a:=λg hb ha=>h g ha hb
theorem NV.marks {C:Nat}{w:World}{vN vW vR vT:Value}{ns:List Int}{ws:List Wv}{rs:List Rv}{ts:List Tn}{ir:List (Value×List Int)}(h:NV C w vN vW vR vT ns ws rs ts ir)(hp:(irW ws++irR rs).Perm ir)(hs:MSm (mpOf vN vW vR vT ns ws rs ts)):NMk C w (mpOf vN vW vR vT ns ws rs ts):=by
 have hap:((vN,ns)::(irW ws++irR rs)).Pairwise Ap:=((hp.cons _).pairwise_iff (λ{a b}=>Ap.symm)).2 h.ap
 have hri:∀r∈irW ws++irR rs,OwnI C w r.1 r.2:=λr hr=>h.ri r (hp.mem_iff.1 hr)
 obtain⟨hz,hall⟩:=List.pairwise_cons.1 hap
 obtain⟨hw,hr,hx⟩:=List.pairwise_append.1 hall
 have lw:(irW ws).length=2*ws.length:=irW_len ws
 have lr:(irR rs).length=rs.length:=by rw[irR_map,List.length_map]
 have ow:∀i,i<2*ws.length->OwnI C w ((irW ws).getD i zir).1 ((irW ws).getD i zir).2:=λi hi=>hri _ (List.mem_append.2 (Or.inl (getD_mem (by omega))))
 have og:∀i,i<rs.length->OwnI C w ((irR rs).getD i zir).1 ((irR rs).getD i zir).2:=λi hi=>hri _ (List.mem_append.2 (Or.inr (getD_mem (by omega))))
 have far:∀{t sz n:Nat}{v u:Value}{xs:List Value}{zs:List Int}{g:Nat},OwnI C w u zs->w.ownsRow C t sz v n xs->2≠t->u.ownBlock=some g->v.ownBlock≠some g:=λho hv ht hu e=>by
  rcases own_ne ho hv ht with q|q
  ·rw[q] at hu;cases hu
  ·exact q (hu.trans e.symm)
 have far2:∀{t t' sz sz' n n':Nat}{v u:Value}{xs zs:List Value}{g:Nat},w.ownsRow C t' sz' u n' zs->w.ownsRow C t sz v n xs->t'≠t->u.ownBlock=some g->v.ownBlock≠some g:=λho hv ht hu e=>by
  rcases own_ne ho hv ht with q|q
  ·rw[q] at hu;cases hu
  ·exact q (hu.trans e.symm)
 refine⟨⟨_,OwnI.si h.n⟩,⟨_,sk_of h.wy rfl (by decide) (λ_=>rfl),λi hi q hq1 hq2=>?_⟩,λi hi=>⟨_,OwnI.si (ow i hi)⟩,⟨_,sk_of h.rl rfl (by decide) (λ_=>rfl),λi hi q hq1 hq2=>?_⟩,λi hi=>⟨_,OwnI.si (og i hi)⟩,⟨_,sk_of h.tn rfl (by decide) (λ_=>rfl)⟩,⟨λi g hi e=>far (ow i hi) h.wy (by decide) e,λi j g hi hj hij e=>ap_row hw (by rw[lw];exact hi) (by rw[lw];exact hj) hij e⟩,⟨λi g hi e=>far (og i hi) h.rl (by decide) e,λi j g hi hj hij e=>ap_row hr (by rw[lr];exact hi) (by rw[lr];exact hj) hij e⟩,?_,?_,?_,?_,?_,?_,?_,hs⟩
 ·have hi':i<ws.length:=hi
  have hl:ws[i]?=some ws[i]:=List.getElem?_eq_getElem hi'
  obtain⟨x0,x1⟩:=irW_at ws i hi'
  dsimp only[mpOf]
  rw[hl]
  rcases (show q=2\/q=3 by omega) with rfl|rfl
  ·show _=((irW ws).getD (2*i) zir).1
   rw[List.getD_eq_getElem?_getD,x0];rfl
  ·show _=((irW ws).getD (2*i+1) zir).1
   rw[List.getD_eq_getElem?_getD,x1];rfl
 ·have hi':i<rs.length:=hi
  have hl:rs[i]?=some rs[i]:=List.getElem?_eq_getElem hi'
  dsimp only[mpOf]
  rw[hl]
  rcases (show q=6 by omega) with rfl
  show _=((irR rs).getD i zir).1
  rw[irR_map,List.getD_eq_getElem?_getD,List.getElem?_map,hl];rfl
 ·rintro b e (e'|⟨i,hi,e'⟩)
  ·exact far h.n h.wy (by decide) e.symm e'.symm
  ·exact hz _ (List.mem_append.2 (Or.inl (getD_mem (by rw[lw];exact hi)))) b e.symm e'.symm
 ·rintro b e (e'|⟨i,hi,e'⟩)
  ·exact far h.n h.rl (by decide) e.symm e'.symm
  ·exact hz _ (List.mem_append.2 (Or.inr (getD_mem (by rw[lr];exact hi)))) b e.symm e'.symm
 ·exact λb e e'=>far h.n h.tn (by decide) e.symm e'.symm
 ·rintro b (e|⟨j,hj,e⟩) (e'|⟨i,hi,e'⟩)
  ·exact far2 h.wy h.rl (by decide) e.symm e'.symm
  ·exact far (og i hi) h.wy (by decide) e'.symm e.symm
  ·exact far (ow j hj) h.rl (by decide) e.symm e'.symm
  ·exact hx _ (getD_mem (by rw[lw];exact hj)) _ (getD_mem (by rw[lr];exact hi)) b e.symm e'.symm
 ·rintro b (e|⟨j,hj,e⟩) e'
  ·exact far2 h.wy h.tn (by decide) e.symm e'.symm
  ·exact far (ow j hj) h.tn (by decide) e.symm e'.symm
 ·rintro b (e|⟨j,hj,e⟩) e'
  ·exact far2 h.rl h.tn (by decide) e.symm e'.symm
  ·exact far (og j hj) h.tn (by decide) e.symm e'.symm
 ·rintro b (e|(e|⟨j,hj,e⟩)|(e|⟨j,hj,e⟩)|e)
  ·exact own_lt h.n b e.symm
  ·exact own_lt h.wy b e.symm
  ·exact own_lt (ow j hj) b e.symm
  ·exact own_lt h.rl b e.symm
  ·exact own_lt (og j hj) b e.symm
  ·exact own_lt h.tn b e.symm
theorem none_mk (C:Nat)(w:World):NMk C w (mpOf (.slice none 0 0) (.slice none 0 0) (.slice none 0 0) (.slice none 0 0) [] [] [] []):=by
 have o:∀t sz,w.ownsRow C t sz (.slice none 0 0) 0 []:=λt sz=>⟨by simp,Or.inl ⟨rfl,rfl⟩⟩
 refine NV.marks (ir:=[]) ⟨o _ _,o _ _,o _ _,o _ _,λr hr=>absurd hr List.not_mem_nil,List.pairwise_singleton _ _⟩ (List.Perm.refl _) ⟨Nat.zero_le _,Nat.zero_le _,Nat.zero_le _,Nat.zero_le _,λi hi=>absurd hi (Nat.not_lt_zero _),λi hi=>absurd hi (Nat.not_lt_zero _)⟩
theorem irW_perm {a b:List Wv}(h:a.Perm b):(irW a).Perm (irW b):=h.flatMap_right _
theorem irR_perm {a b:List Rv}(h:a.Perm b):(irR a).Perm (irR b):=h.flatMap_right _
theorem PnIs.held {w w':World}{bs:List UInt8}{e:Ending}(h:PnIs w w' (prsM bs) e):∃m:MP,e=.returned (pV (prsM bs) m.vN m.vW m.vR m.vT)/\HNet w.heap.size w' m.vN m.vW m.vR m.vT (pvN (prsM bs))/\NMk w.heap.size w' m:=by
 cases hp:prsM bs with
 |error cl=>
  obtain⟨c,l⟩:=cl
  
  rw[hp] at h
  exact⟨mpOf (.slice none 0 0) (.slice none 0 0) (.slice none 0 0) (.slice none 0 0) [] [] [] [],h,none_held _ _,none_mk _ _⟩
 |ok ds=>
  rw[hp] at h
  obtain⟨ps,ns,ws,rs,ts,vN,vW,vR,vT,rfl,he,hs,hv⟩:=h
  have hg:=prsM_good hp
  obtain⟨hl,hb⟩:=prsM_len hp
  have hlp:ps.length<=300001:=by simpa [dsP] using hl
  have hb':∀p∈ps,p.d.way.nodes.length<=300001/\p.d.way.weights.length<=300001/\p.d.rel.ways.length<=300001:=λp hpm=>hb _ (List.mem_map.2 ⟨p,hpm,rfl⟩)
  have bI:∀r∈irO ps,r.2.length<=300001:=λr hr=>by
   obtain⟨p,hpm,hrp⟩:=List.mem_flatMap.1 hr
   obtain⟨b1,b2,b3⟩:=hb' p hpm
   unfold irP at hrp
   split at hrp
   ·rcases List.mem_cons.1 hrp with e|e
    ·rw[e];exact b1
    ·rw[List.mem_singleton.1 e];exact b2
   ·split at hrp
    ·rw[List.mem_singleton.1 hrp];exact b3
    ·cases hrp
  have hperm:(irW ws++irR rs).Perm (irO ps):=((irW_perm hs.wy.1).append (irR_perm hs.rl.1)).trans (irO_perm ps)
  have lw:(irW ws).length=2*ws.length:=irW_len ws
  have lr:(irR rs).length=rs.length:=by rw[irR_map,List.length_map]
  have sm:MSm (mpOf vN vW vR vT ns ws rs ts):=by
   have a:=ndO_le ps
   have b:=wyO_le ps
   have c:=rlO_le ps
   have d:=tnO_le ps
   have a':=hs.n.1.length_eq
   have b':=hs.wy.1.length_eq
   have c':=hs.rl.1.length_eq
   have d':=hs.tn.1.length_eq
   refine⟨show ns.length<=_ by omega,show ws.length<=_ by omega,show rs.length<=_ by omega,show ts.length<=_ by omega,λi hi=>?_,λi hi=>?_⟩
   ·have:=bI _ (hperm.mem_iff.1 (List.mem_append.2 (Or.inl (getD_mem (l:=irW ws) (i:=i) (by rw[lw];exact hi)))))
    show((irW ws).getD i zir).2.length<=_
    omega
   ·have:=bI _ (hperm.mem_iff.1 (List.mem_append.2 (Or.inr (getD_mem (l:=irR rs) (i:=i) (by rw[lr];exact hi)))))
    show((irR rs).getD i zir).2.length<=_
    omega
  have r0:=OwnI.held hv.n
  have r1:=held_ways hv.wy (λx hx=>⟨hv.ri _ (wy_ir (hs.wy.1.mem_iff.1 hx)).1,hv.ri _ (wy_ir (hs.wy.1.mem_iff.1 hx)).2⟩)
  have r2:=held_rels hv.rl (λx hx=>hv.ri _ (rl_ir (hs.rl.1.mem_iff.1 hx)))
  have r3:=held_turns hv.tn
  have e0:=nds_eq hg hs.n.1 hs.n.2
  have e3:=tns_eq hg hs.tn.1 hs.tn.2
  refine⟨mpOf vN vW vR vT ns ws rs ts,?_,⟨?_,?_,?_,?_⟩,hv.marks hperm sm⟩
  ·rw[he,utO_eq hg];rfl
  ·rw[e0] at r0;exact r0
  ·rw[wys_eq hg hs.wy.1 hs.wy.2] at r1;exact r1
  ·rw[rls_eq hg hs.rl.1 hs.rl.2] at r2;exact r2
  ·rw[e3] at r3;exact r3
end Go.Proofs.YthhkjbfkgdlkmaaGreatDoor
namespace Go.Proofs.YthhkjbfkgdlkmaaGreatDoor
open Go.RowKit Go.Sort Go.Shelf
set_option linter.unusedVariables false
set_option maxRecDepth 1000000
set_option maxHeartbeats 16000000
theorem keeps_chg {B:Nat}{w w':World}{S:Nat->Prop}(h:Chg S w w')(hS:∀x,S x->x<B):Keeps B w w':=⟨h.size,λb hb hs o=>h.cellAt hs (λe=>by have:=hS b e;omega)⟩
theorem parselaw_any (B:Nat)(a:Option Addr)(n cap:Nat)(bs:List UInt8)(w:World)(h:HBy B w (.slice a n cap) bs)(hG:Gv w) :
  Calls Tryz.prog 3 #[.slice a n cap] w λe w'=>e=.returned (.bool true)/\Nx w w':=by
 have hn:bs.length=n:=by
  obtain⟨a',c',e,-⟩:=h
  simp only[Value.slice.injEq] at e
  exact e.2.1.symm
 have HN:Hid (bs.length=n):=hn
 have H:=mkHid' h
 have HG:=mkHid' hG
 clear h hG hn
 go_enter Tryz.func3,Tryz.ntmps3
 by_cases hbig:(1048576:Int)<n
 ·go_wp2
  go_ret
  exact⟨rfl,Nx.refl _⟩
 have hsm:n<=1048576:=by omega
 go_wp2_with fail
 refine(toBytes_any B _ bs w H.out (by rw[HN.out];exact hsm)).mono ?_
 rintro e w1 ⟨rfl,hb1,hx⟩
 have HX1:=mkHid' hx
 rw[HN.out] at hb1 ⊢
 have HB1:=mkHid' hb1
 clear hx hb1
 go_wp2_with fail
 refine(specParse_any w.heap.size _ n n bs w1 (HB1.out.held HN.out hsm) (Nat.le_refl _)).mono ?_
 rintro e w2 ⟨hp,hx⟩
 obtain⟨v0,v1,v2,v3,rfl,hv⟩:=PmIs.held hp (λds hd=>prsM_good hd)
 unfold pV
 generalize hpc:pvC (prsM bs)=c
 generalize hpl:pvL (prsM bs)=l
 generalize hpn:pvN (prsM bs)=N at *
 have HP:Hid (pvC (prsM bs)=c/\pvL (prsM bs)=l/\pvN (prsM bs)=N):=⟨hpc,hpl,hpn⟩
 have HV2:=mkHid' hv
 have HX12:=mkHid' hx
 obtain⟨a0,c0,rfl,-⟩:=hv.1
 obtain⟨a1,c1,rfl,-⟩:=hv.2.1
 obtain⟨a2,c2,rfl,-⟩:=hv.2.2.1
 obtain⟨a3,c3,rfl,-⟩:=hv.2.2.2
 clear hpc hpl hpn hp hx hv
 have HBW0:Hid (BT (w2.alloc (.cells #[.int .i64 c,.int .i64 l,.slice a0 N.nodes.length c0,.slice a1 N.ways.length c1,.slice a2 N.rels.length c2,.slice a3 N.turns.length c3,.int .i64 N.uturn] 30)) w2.heap.size #[.int .i64 c,.int .i64 l,.slice a0 N.nodes.length c0,.slice a1 N.ways.length c1,.slice a2 N.rels.length c2,.slice a3 N.turns.length c3,.int .i64 N.uturn] 30):=BT.new _ _ _ _ rfl
 have HXW:Hid (Nx w2 (w2.alloc (.cells #[.int .i64 c,.int .i64 l,.slice a0 N.nodes.length c0,.slice a1 N.ways.length c1,.slice a2 N.rels.length c2,.slice a3 N.turns.length c3,.int .i64 N.uturn] 30))):=box1 _ _
 go_wp2_with fail
 generalize w2.alloc (.cells #[.int .i64 c,.int .i64 l,.slice a0 N.nodes.length c0,.slice a1 N.ways.length c1,.slice a2 N.rels.length c2,.slice a3 N.turns.length c3,.int .i64 N.uturn] 30)=w3 at *
 have HX3:=mkHid' ((HX1.out.trans HX12.out).trans HXW.out)
 have HV3:=mkHid' (HV2.out.next HXW.out)
 refine(toBytes_any B _ bs w3 (H.out.next_ HX3.out) (by rw[HN.out];exact hsm)).mono ?_
 rintro e w4 ⟨rfl,hb4,hx⟩
 rw[HN.out] at hb4 ⊢
 have HB4:=mkHid' hb4
 have HX34:=mkHid' hx
 have HX4:=mkHid' (HX3.out.trans hx)
 have HBW4:=mkHid' (HBW0.out.next hx)
 have HV4:=mkHid' (HV3.out.next hx)
 have HZ3:Hid (w2.heap.size<w3.heap.size):=HBW0.out.lt
 clear hx hb4 HBW0 HV3
 go_wp2_with fail
 refine(implParse_any w3.heap.size _ n n bs w4 (HB4.out.held HN.out hsm) (Nat.le_refl _) (by omega) (HG.out.next HX4.out)).mono ?_
 rintro e w5 ⟨hp,hx⟩
 obtain⟨m,rfl,hh,hm⟩:=PnIs.held hp
 unfold pV
 rw[HP.out.2.2] at hh ⊢
 rw[HP.out.1,HP.out.2.1]
 have HE:Hid (∃p0 q0 p1 q1 p2 q2 p3 q3,m.vN=.slice p0 m.n0 q0/\m.vW=.slice p1 m.nW q1/\m.vR=.slice p2 m.nR q2/\m.vT=.slice p3 m.nT q3):=by
  obtain⟨F,a,c,e,-⟩:=hm.a0
  obtain⟨V1,⟨a1,c1,e1,-⟩,-⟩:=hm.a1
  obtain⟨V2,⟨a2,c2,e2,-⟩,-⟩:=hm.a2
  obtain⟨V3,a3,c3,e3,-⟩:=hm.a3
  exact⟨a,c,a1,c1,a2,c2,a3,c3,e,e1,e2,e3⟩
 obtain⟨p0,q0,p1,q1,p2,q2,p3,q3,e0,e1,e2,e3⟩:=HE.out
 have HE4:Hid (m.vN=.slice p0 m.n0 q0/\m.vW=.slice p1 m.nW q1/\m.vR=.slice p2 m.nR q2/\m.vT=.slice p3 m.nT q3):=⟨e0,e1,e2,e3⟩
 rw[e0,e1,e2,e3] at hh ⊢
 have HH5:=mkHid' hh
 have HM5:=mkHid' hm
 have HX5:=mkHid' (HX4.out.trans hx)
 have HY5:Hid (Nx w2 w5):=(HXW.out.trans HX34.out).trans hx
 have HB5:=mkHid' (HB4.out.keep (hx.block _ HB4.out.lt))
 have HBW5:=mkHid' (HBW4.out.next hx)
 have HZ:Hid (w.heap.size<=w2.heap.size/\w2.heap.size<w3.heap.size/\w3.heap.size<w4.heap.size/\w4.heap.size<=w5.heap.size):=⟨(HX1.out.trans HX12.out).size,HZ3.out,HB4.out.lt,hx.size⟩
 clear hx hm hh hp HE e0 e1 e2 e3 HB4 HBW4 HV4 HX4 HX34 HXW HX3 HB1 HX1 HX12 HZ3
 have HBG6:Hid (BT (w5.alloc (.cells #[.int .i64 c,.int .i64 l,.slice p0 m.n0 q0,.slice p1 m.nW q1,.slice p2 m.nR q2,.slice p3 m.nT q3,.int .i64 N.uturn] 30)) w5.heap.size #[.int .i64 c,.int .i64 l,.slice p0 m.n0 q0,.slice p1 m.nW q1,.slice p2 m.nR q2,.slice p3 m.nT q3,.int .i64 N.uturn] 30):=BT.new _ _ _ _ rfl
 have HN6:Hid (Nx w5 (w5.alloc (.cells #[.int .i64 c,.int .i64 l,.slice p0 m.n0 q0,.slice p1 m.nW q1,.slice p2 m.nR q2,.slice p3 m.nT q3,.int .i64 N.uturn] 30))):=box1 _ _
 have HBW6:Hid (BT (w5.alloc (.cells #[.int .i64 c,.int .i64 l,.slice p0 m.n0 q0,.slice p1 m.nW q1,.slice p2 m.nR q2,.slice p3 m.nT q3,.int .i64 N.uturn] 30)) w2.heap.size #[.int .i64 c,.int .i64 l,.slice a0 N.nodes.length c0,.slice a1 N.ways.length c1,.slice a2 N.rels.length c2,.slice a3 N.turns.length c3,.int .i64 N.uturn] 30):=HBW5.out.next HN6.out
 have i0:=HBW6.out.blk.cell (i:=0) rfl
 have i1:=HBW6.out.blk.cell (i:=1) rfl
 have i2:=HBW6.out.blk.cell (i:=2) rfl
 have i3:=HBW6.out.blk.cell (i:=3) rfl
 have i4:=HBW6.out.blk.cell (i:=4) rfl
 have i5:=HBW6.out.blk.cell (i:=5) rfl
 have i6:=HBW6.out.blk.cell (i:=6) rfl
 go_wp2_with fail
 generalize w5.alloc (.cells #[.int .i64 c,.int .i64 l,.slice p0 m.n0 q0,.slice p1 m.nW q1,.slice p2 m.nR q2,.slice p3 m.nT q3,.int .i64 N.uturn] 30)=w6 at *
 refine(eqParsed_same w4.heap.size w1.heap.size c l _ _ _ _ _ _ _ _ N w6 (HH5.out.next HN6.out) ((HV2.out.next HY5.out).next HN6.out)).mono ?_
 rintro e w7 ⟨rfl,hx⟩
 have HN7:=mkHid' (HN6.out.trans hx)
 have HBG7:=mkHid' (HBG6.out.next hx)
 have HBW7:=mkHid' (HBW6.out.next hx)
 clear hx HBG6 HBW6 HBW5 HN6 i0 i1 i2 i3 i4 i5 i6
 go_wp2_with fail
 refine(toBytes_any B _ bs w7 (H.out.next_ (HX5.out.trans HN7.out)) (by rw[HN.out];exact hsm)).mono ?_
 rintro e w8 ⟨rfl,hb8,hx⟩
 rw[HN.out] at hb8 ⊢
 have HB8:=mkHid' hb8
 have HN8:=mkHid' (HN7.out.trans hx)
 have HBG8:=mkHid' (HBG7.out.next hx)
 have HBW8:=mkHid' (HBW7.out.next hx)
 clear hx hb8 HBG7 HBW7 HN7
 go_wp2_with fail
 refine(eqBytes_same w3.heap.size w7.heap.size _ _ bs w8 ((HB5.out.keep (HN8.out.block _ HB5.out.lt)).held HN.out hsm) (HB8.out.held HN.out hsm)).mono ?_
 rintro e w9 ⟨rfl,hx⟩
 have HN9:=mkHid' (HN8.out.trans hx)
 have HBG9:=mkHid' (HBG8.out.next hx)
 have HBW9:=mkHid' (HBW8.out.next hx)
 clear hx HBG8 HBW8 HN8 HB8
 go_wp2_with fail
 obtain⟨f,hf,-⟩:=HB5.out
 refine(markBytes_any w3.heap.size n f w9 (hf.of_block (HN9.out.block _ HB5.out.lt)) hsm).mono ?_
 rintro e w10 ⟨rfl,hc⟩
 have hc9:Chg (λx=>x=w3.heap.size) w5 w10:=(Chg.nx HN9.out).trans hc
 have HC10:=mkHid' hc9
 have HX10:Hid (Nx w w10):=Below.trans HX5.out (Chg.below hc9 HX5.out.size (λx e=>by have:=HZ.out;omega))
 have HY10:Hid (Nx w2 w10):=Below.trans HY5.out (Chg.below hc9 HY5.out.size (λx e=>by have:=HZ.out;omega))
 have HBG10:=mkHid' (HBG9.out.chg hc (by have:=HZ.out;omega))
 have HBW10:=mkHid' (HBW9.out.chg hc (by have:=HZ.out;omega))
 have HH10:Hid (HNet w4.heap.size w10 (.slice p0 m.n0 q0) (.slice p1 m.nW q1) (.slice p2 m.nR q2) (.slice p3 m.nT q3) N):=HH5.out.keep (keeps_chg hc9 (λx e=>by have:=HZ.out;omega))
 have HM10:=mkHid' (HM5.out.chg hc9 (λb hb e=>by have h1:=(HM5.out.lt b hb).1;have h2:=HZ.out;omega))
 have HV10:=mkHid' (HV2.out.next HY10.out)
 have HGL:Hid (¬m.all w5.heap.size):=λx=>by have:=(HM5.out.lt _ x).2;omega
 have HML:Hid (∀b,m.all b->w4.heap.size<=b):=λb hb=>(HM5.out.lt b hb).1
 have hneg:¬(1+(n:Int))<0:=by omega
 clear hc hc9 hf HBG9 HBW9 HN9 HH5 HM5 HB5 HX5 HY5 HC10
 have i0:=HBW10.out.blk.cell (i:=0) rfl
 have i1:=HBW10.out.blk.cell (i:=1) rfl
 have i2:=HBW10.out.blk.cell (i:=2) rfl
 have i3:=HBW10.out.blk.cell (i:=3) rfl
 have i4:=HBW10.out.blk.cell (i:=4) rfl
 have i5:=HBW10.out.blk.cell (i:=5) rfl
 have i6:=HBW10.out.blk.cell (i:=6) rfl
 have j0:=HBG10.out.blk.cell (i:=0) rfl
 have j1:=HBG10.out.blk.cell (i:=1) rfl
 have j2:=HBG10.out.blk.cell (i:=2) rfl
 have j3:=HBG10.out.blk.cell (i:=3) rfl
 have j4:=HBG10.out.blk.cell (i:=4) rfl
 have j5:=HBG10.out.blk.cell (i:=5) rfl
 have j6:=HBG10.out.blk.cell (i:=6) rfl
 go_wp2_with fail
 refine(eqParsed_same w4.heap.size w1.heap.size c l _ _ _ _ _ _ _ _ N w10 HH10.out HV10.out).mono ?_
 rintro e w11 ⟨rfl,hx⟩
 have HX11:=mkHid' (HX10.out.trans hx)
 have HY11:=mkHid' (HY10.out.trans hx)
 have HBG11:=mkHid' (HBG10.out.next hx)
 have HBW11:=mkHid' (HBW10.out.next hx)
 have HM11:=mkHid' (HM10.out.next hx)
 clear hx HX10 HY10 HBG10 HBW10 HM10 HH10 HV10 i0 i1 i2 i3 i4 i5 i6 j0 j1 j2 j3 j4 j5 j6
 have j0:=HBG11.out.blk.cell (i:=0) rfl
 have j1:=HBG11.out.blk.cell (i:=1) rfl
 have j2:=HBG11.out.blk.cell (i:=2) rfl
 have j3:=HBG11.out.blk.cell (i:=3) rfl
 have j4:=HBG11.out.blk.cell (i:=4) rfl
 have j5:=HBG11.out.blk.cell (i:=5) rfl
 have j6:=HBG11.out.blk.cell (i:=6) rfl
 go_wp2_with fail
 have hmk:=markParsed_any w4.heap.size m c l N.uturn w11 HM11.out
 rw[HE4.out.1,HE4.out.2.1,HE4.out.2.2.1,HE4.out.2.2.2] at hmk
 refine hmk.mono ?_
 rintro e w12 ⟨rfl,hd,hc⟩
 have HD12:=mkHid' hd
 have HX12:Hid (Nx w w12):=Below.trans HX11.out (Chg.below hc HX11.out.size (λx e=>by have:=HZ.out;have:=HML.out x e;omega))
 have HY12:Hid (Nx w2 w12):=Below.trans HY11.out (Chg.below hc HY11.out.size (λx e=>by have:=HZ.out;have:=HML.out x e;omega))
 have HBG12:=mkHid' (HBG11.out.chg hc HGL.out)
 have HBW12:=mkHid' (HBW11.out.chg hc (λx=>by have:=HZ.out;have:=HML.out _ x;omega))
 have HSM:=mkHid' HM11.out.sm
 clear hmk hd hc HX11 HY11 HBG11 HBW11 HM11 j0 j1 j2 j3 j4 j5 j6
 have j0:=HBG12.out.blk.cell (i:=0) rfl
 have j1:=HBG12.out.blk.cell (i:=1) rfl
 have j2:=HBG12.out.blk.cell (i:=2) rfl
 have j3:=HBG12.out.blk.cell (i:=3) rfl
 have j4:=HBG12.out.blk.cell (i:=4) rfl
 have j5:=HBG12.out.blk.cell (i:=5) rfl
 have j6:=HBG12.out.blk.cell (i:=6) rfl
 go_wp2_with fail
 have hmk:=heldParsed_any m c l N.uturn w12 HD12.out HSM.out
 rw[HE4.out.1,HE4.out.2.1,HE4.out.2.2.1,HE4.out.2.2.2] at hmk
 refine hmk.mono ?_
 rintro e w13 ⟨rfl,hx⟩
 have HX13:=mkHid' (HX12.out.trans hx)
 have HY13:=mkHid' (HY12.out.trans hx)
 have HBW13:=mkHid' (HBW12.out.next hx)
 have hk4:¬m.k4<0:=by have:=HSM.out.ks;omega
 have hk5:(m.k4 !=m.k4)=false:=by simp
 clear hmk hx HX12 HY12 HBG12 HBW12 HD12 HSM j0 j1 j2 j3 j4 j5 j6
 go_wp2_with fail
 refine(toBytes_any B _ bs w13 (H.out.next_ HX13.out) (by rw[HN.out];exact hsm)).mono ?_
 rintro e w14 ⟨rfl,hb14,hx⟩
 rw[HN.out] at hb14 ⊢
 have HB14:=mkHid' hb14
 have HX14:=mkHid' (HX13.out.trans hx)
 have HY14:=mkHid' (HY13.out.trans hx)
 have HBW14:=mkHid' (HBW13.out.next hx)
 clear hx hb14 HX13 HY13 HBW13 hk4 hk5
 go_wp2_with fail
 refine(implParse_any w13.heap.size _ n n bs w14 (HB14.out.held HN.out hsm) (Nat.le_refl _) (by omega) (HG.out.next HX14.out)).mono ?_
 rintro e w15 ⟨hp,hx⟩
 obtain⟨mh,rfl,hh,hm⟩:=PnIs.held hp
 unfold pV
 rw[HP.out.2.2] at hh ⊢
 rw[HP.out.1,HP.out.2.1]
 obtain⟨F,r0,s0,e0,-⟩:=hm.a0
 obtain⟨V1,⟨r1,s1,e1,-⟩,-⟩:=hm.a1
 obtain⟨V2,⟨r2,s2,e2,-⟩,-⟩:=hm.a2
 obtain⟨V3,r3,s3,e3,-⟩:=hm.a3
 rw[e0,e1,e2,e3] at hh ⊢
 have HH15:=mkHid' hh
 have HY15:=mkHid' (HY14.out.trans hx)
 have HX15:=mkHid' (HX14.out.trans hx)
 have HBW15:=mkHid' (HBW14.out.next hx)
 clear hx hm hh hp e0 e1 e2 e3 HY14 HBW14 HX14 HB14 F V1 V2 V3
 have HBH:Hid (BT (w15.alloc (.cells #[.int .i64 c,.int .i64 l,.slice r0 mh.n0 s0,.slice r1 mh.nW s1,.slice r2 mh.nR s2,.slice r3 mh.nT s3,.int .i64 N.uturn] 30)) w15.heap.size #[.int .i64 c,.int .i64 l,.slice r0 mh.n0 s0,.slice r1 mh.nW s1,.slice r2 mh.nR s2,.slice r3 mh.nT s3,.int .i64 N.uturn] 30):=BT.new _ _ _ _ rfl
 have HN16:Hid (Nx w15 (w15.alloc (.cells #[.int .i64 c,.int .i64 l,.slice r0 mh.n0 s0,.slice r1 mh.nW s1,.slice r2 mh.nR s2,.slice r3 mh.nT s3,.int .i64 N.uturn] 30))):=box1 _ _
 have HBW16:Hid (BT (w15.alloc (.cells #[.int .i64 c,.int .i64 l,.slice r0 mh.n0 s0,.slice r1 mh.nW s1,.slice r2 mh.nR s2,.slice r3 mh.nT s3,.int .i64 N.uturn] 30)) w2.heap.size #[.int .i64 c,.int .i64 l,.slice a0 N.nodes.length c0,.slice a1 N.ways.length c1,.slice a2 N.rels.length c2,.slice a3 N.turns.length c3,.int .i64 N.uturn] 30):=HBW15.out.next HN16.out
 have i0:=HBW16.out.blk.cell (i:=0) rfl
 have i1:=HBW16.out.blk.cell (i:=1) rfl
 have i2:=HBW16.out.blk.cell (i:=2) rfl
 have i3:=HBW16.out.blk.cell (i:=3) rfl
 have i4:=HBW16.out.blk.cell (i:=4) rfl
 have i5:=HBW16.out.blk.cell (i:=5) rfl
 have i6:=HBW16.out.blk.cell (i:=6) rfl
 go_wp2_with fail
 generalize w15.alloc (.cells #[.int .i64 c,.int .i64 l,.slice r0 mh.n0 s0,.slice r1 mh.nW s1,.slice r2 mh.nR s2,.slice r3 mh.nT s3,.int .i64 N.uturn] 30)=w16 at *
 refine(eqParsed_same w14.heap.size w1.heap.size c l _ _ _ _ _ _ _ _ N w16 (HH15.out.next HN16.out) ((HV2.out.next HY15.out).next HN16.out)).mono ?_
 rintro e w17 ⟨rfl,hx⟩
 have HX17:=mkHid' ((HX15.out.trans HN16.out).trans hx)
 clear hx i0 i1 i2 i3 i4 i5 i6
 go_wp2
 go_ret
 exact⟨rfl,HX17.out⟩
end Go.Proofs.YthhkjbfkgdlkmaaGreatDoor
