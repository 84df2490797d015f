import Derived.Test.YticooljejlkbfaaQI
namespace Go.Proofs.Yticooljejlkbfaa
open Go.RowKit Go.Sort
set_option linter.unusedVariables false
set_option maxRecDepth 100000

theorem OwnI.below {C D : Nat} {w w' : World} {v : Value} {zs : List Int} (h : OwnI C w v zs) (k : Below D w w') (hb : ∀ g, v.ownBlock = some g → g < D) : OwnI C w' v zs := by
  obtain ⟨h1, h2⟩ := h
  refine ⟨h1, ?_⟩
  rcases h2 with h2 | ⟨g, cap, cur, hv, hg, hh, r⟩
  · exact Or.inl h2
  · exact Or.inr ⟨g, cap, cur, hv, hg, (k.block g (hb g (by rw [hv]; rfl))).trans hh, r⟩
theorem OwnI.marked {B C : Nat} {w0 w1 w : World} {v : Value} {zs : List Int} (h : OwnI C w1 v zs) (k : Mk B w0 w1 w) (hC : w0.heap.size ≤ C) : OwnI C w v zs := by
  obtain ⟨h1, h2⟩ := h
  refine ⟨h1, ?_⟩
  rcases h2 with h2 | ⟨g, cap, cur, hv, hg, hh, r⟩
  · exact Or.inl h2
  · exact Or.inr ⟨g, cap, cur, hv, hg, (k.same g (Array.getElem?_eq_some_iff.1 hh).1 (by omega)).trans hh, r⟩

set_option maxHeartbeats 16000000 in
theorem lawSh_any (B : Nat) (v0 v1 v2 v3 v4 v5 v6 : Value) (G : Gr) (s t : Int) (w : World) (h0 : HG B w v0 v1 v2 v3 v4 v5 v6 G) :
    Calls Try.prog 3 #[.agg #[v0, v1, v2, v3, v4, v5, v6], .int .i64 s, .int .i64 t] w fun e w' => e = .returned (.bool true) ∧ Nx w w' := by
  go_enter Try.func3, Try.ntmps3
  go_wp2_with fail
  refine (szGraph_any B _ _ _ _ _ _ _ G _ _ (by exact h0.next (box1 _ _)) (by omega) (by omega)).mono ?_
  rintro e w1 ⟨⟨r, rfl, hr⟩, hx⟩
  have BA := (Blk.new w #[v0, v1, v2, v3, v4, v5, v6] 24 _ rfl).next hx
  have HX : Hid (Nx w w1) := (box1 _ _).trans hx
  clear hx
  rcases hr with hr | ⟨hr, hsm⟩
  · go_wp2
    go_ret
    exact ⟨rfl, HX.out⟩
  have HSM : Hid (SmallG G) := hsm
  clear hsm
  have k0 := BA.cell (i := 0) rfl
  have k1 := BA.cell (i := 1) rfl
  have k2 := BA.cell (i := 2) rfl
  have k3 := BA.cell (i := 3) rfl
  have k4 := BA.cell (i := 4) rfl
  have k5 := BA.cell (i := 5) rfl
  have k6 := BA.cell (i := 6) rfl
  go_wp2_with fail
  refine (toGraph_any B _ _ _ _ _ _ _ G _ (by exact h0.next HX.out) HSM.out).mono ?_
  rintro e w2 ⟨⟨pa0, pn0, pc0, pa1, pn1, pc1, pa2, pn2, pc2, pa3, pn3, pc3, pa4, pn4, pc4, pa5, pn5, pc5, pa6, pn6, pc6, rfl, hN⟩, hu⟩
  have hx := hu.nx
  clear hu
  have HX2 : Hid (Nx w w2) := HX.out.trans hx
  have BA2 := BA.next hx
  have HNp : Hid (HG w1.heap.size w2 (.slice pa0 pn0 pc0) (.slice pa1 pn1 pc1) (.slice pa2 pn2 pc2) (.slice pa3 pn3 pc3) (.slice pa4 pn4 pc4) (.slice pa5 pn5 pc5) (.slice pa6 pn6 pc6) G) := hN
  clear hx BA k0 k1 k2 k3 k4 k5 k6 HX hN
  go_wp2_with fail
  refine (specShort_any w1.heap.size _ _ _ _ _ _ _ G s t _ (by exact HNp.out)).mono ?_
  rintro e w3 ⟨⟨rc, rk, sa, rn, sc, R, rfl, hR, hO⟩, hx⟩
  have HR : Hid (RouteIs G s t R) := hR
  have HRC : Hid (rc = R.code ∧ rk = R.cost) := ⟨hO.1, hO.2.1⟩
  have HS3 : Hid (OwnI w2.heap.size w3 (.slice sa rn sc) R.edges) := hO.2.2
  have HSL : Hid (∀ g, (Value.slice sa rn sc).ownBlock = some g → g < w3.heap.size) := fun g hg => (own_lt hO.2.2 g hg).2
  have HX3 : Hid (Nx w w3) := HX2.out.trans hx
  have BA3 := BA2.next hx
  clear hR hO hx BA2 HX2 HNp
  generalize hWS : w3.alloc (.cells #[.int .i64 rc, .int .i64 rk, .slice sa rn sc] 27) = wS
  have HXS : Hid (Nx w3 wS) := by unfold Hid; rw [← hWS]; exact box1 _ _
  have BW : Blk wS w3.heap.size #[.int .i64 rc, .int .i64 rk, .slice sa rn sc] := by rw [← hWS]; exact Blk.new w3 _ _ _ rfl
  have HSZ : Hid (wS.heap.size = w3.heap.size + 1) := by unfold Hid; rw [← hWS]; exact size_alloc' _ _
  have BA4 := BA3.next HXS.out
  have HX4 : Hid (Nx w wS) := HX3.out.trans HXS.out
  have HX3W : Hid (w.heap.size < wS.heap.size) := BA4.lt
  have HS4 : Hid (OwnI w2.heap.size wS (.slice sa rn sc) R.edges) := HS3.out.next HXS.out
  clear BA3 HX3 HS3
  go_upto_region 6 with fail
  clear hWS
  have k0 := BA4.cell (i := 0) rfl
  have k1 := BA4.cell (i := 1) rfl
  have k2 := BA4.cell (i := 2) rfl
  have k3 := BA4.cell (i := 3) rfl
  have k4 := BA4.cell (i := 4) rfl
  have k5 := BA4.cell (i := 5) rfl
  have k6 := BA4.cell (i := 6) rfl
  go_wp2_with fail
  refine (toGraph_any B _ _ _ _ _ _ _ G _ (by exact h0.next HX4.out) HSM.out).mono ?_
  rintro e w5 ⟨⟨qa0, qn0, qc0, qa1, qn1, qc1, qa2, qn2, qc2, qa3, qn3, qc3, qa4, qn4, qc4, qa5, qn5, qc5, qa6, qn6, qc6, rfl, hN⟩, hu⟩
  have hx := hu.nx
  generalize hW6 : w5.alloc (.cells #[.slice qa0 qn0 qc0, .slice qa1 qn1 qc1, .slice qa2 qn2 qc2, .slice qa3 qn3 qc3, .slice qa4 qn4 qc4, .slice qa5 qn5 qc5, .slice qa6 qn6 qc6] 29) = w6
  have HX56 : Hid (Nx w5 w6) := by unfold Hid; rw [← hW6]; exact box1 _ _
  have HU6 : Hid (Nu wS w6) := by unfold Hid; rw [← hW6]; exact hu.alloc _ _
  have BX : Blk w6 w5.heap.size #[.slice qa0 qn0 qc0, .slice qa1 qn1 qc1, .slice qa2 qn2 qc2, .slice qa3 qn3 qc3, .slice qa4 qn4 qc4, .slice qa5 qn5 qc5, .slice qa6 qn6 qc6] := by rw [← hW6]; exact Blk.new w5 _ _ _ rfl
  have HX6 : Hid (Nx w w6) := (HX4.out.trans hx).trans HX56.out
  have BA6 := (BA4.next hx).next HX56.out
  have BW6 := (BW.next hx).next HX56.out
  have HN6 : Hid (HG wS.heap.size w6 (.slice qa0 qn0 qc0) (.slice qa1 qn1 qc1) (.slice qa2 qn2 qc2) (.slice qa3 qn3 qc3) (.slice qa4 qn4 qc4) (.slice qa5 qn5 qc5) (.slice qa6 qn6 qc6) G) := hN.next HX56.out
  have HS6 : Hid (OwnI w2.heap.size w6 (.slice sa rn sc) R.edges) := (HS4.out.next hx).next HX56.out
  clear hu hx BA4 BW hN k0 k1 k2 k3 k4 k5 k6 HS4
  go_upto_region 7 with fail
  clear hW6
  have l0 := BX.cell (i := 0) rfl
  have l1 := BX.cell (i := 1) rfl
  have l2 := BX.cell (i := 2) rfl
  have l3 := BX.cell (i := 3) rfl
  have l4 := BX.cell (i := 4) rfl
  have l5 := BX.cell (i := 5) rfl
  have l6 := BX.cell (i := 6) rfl
  go_wp2_with fail
  refine (implShort_any wS.heap.size _ _ _ _ _ _ _ G s t _ (by exact HN6.out) HSM.out).mono ?_
  rintro e w7 ⟨⟨rc', rk', ga, gn, gc, R', rfl, hR, hO, hl⟩, hx⟩
  have hRR : R' = R := hR.uniq HR.out
  subst hRR
  have hrc : rc' = rc := hO.1.trans HRC.out.1.symm
  have hrk : rk' = rk := hO.2.1.trans HRC.out.2.symm
  subst hrc hrk
  have HG7 : Hid (OwnI w6.heap.size w7 (.slice ga gn gc) R'.edges) := hO.2.2
  have HGN : Hid (gn = R'.edges.length) := by
    obtain ⟨a, c, e⟩ := hO.2.2.slice
    simp only [Value.slice.injEq] at e
    exact e.2.1
  have hgn : gn ≤ 7001 := by have := HGN.out; omega
  have HGL : Hid (∀ g, (Value.slice ga gn gc).ownBlock = some g → w6.heap.size ≤ g ∧ g < w7.heap.size) := fun g hg => own_lt hO.2.2 g hg
  have HD7 : Hid (Nx w6 w7) := hx
  clear hR hO hl hx l0 l1 l2 l3 l4 l5 l6
  generalize hW8 : w7.alloc (.cells #[.int .i64 rc', .int .i64 rk', .slice ga gn gc] 27) = w8
  have HX78 : Hid (Nx w7 w8) := by unfold Hid; rw [← hW8]; exact box1 _ _
  have BR : Blk w8 w7.heap.size #[.int .i64 rc', .int .i64 rk', .slice ga gn gc] := by rw [← hW8]; exact Blk.new w7 _ _ _ rfl
  have HD8 : Hid (Nx w6 w8) := HD7.out.trans HX78.out
  have HG8 : Hid (OwnI w6.heap.size w8 (.slice ga gn gc) R'.edges) := HG7.out.next HX78.out
  have HS8 : Hid (OwnI w2.heap.size w8 (.slice sa rn sc) R'.edges) := HS6.out.next HD8.out
  have BX8 := BX.next HD8.out
  have BA8 := BA6.next HD8.out
  have BW8 := BW6.next HD8.out
  have HSZ7 : Hid (w6.heap.size ≤ w7.heap.size) := HD7.out.size
  clear BX BA6 BW6 HS6 HG7
  go_upto_region 8 with fail
  clear hW8
  have r0 := BR.cell (i := 0) rfl
  have r1 := BR.cell (i := 1) rfl
  have r2 := BR.cell (i := 2) rfl
  have p0 := BW8.cell (i := 0) rfl
  have p1 := BW8.cell (i := 1) rfl
  have p2 := BW8.cell (i := 2) rfl
  go_wp2_with fail
  refine (eqRoute_same w6.heap.size w2.heap.size rc' rk' ga gn gc sa rn sc R'.edges _ (by exact HG8.out.held) (by exact HS8.out.held)).mono ?_
  rintro e w9 ⟨rfl, hx⟩
  have HD9 : Hid (Nx w6 w9) := HD8.out.trans hx
  have HX9 : Hid (Nx w w9) := HX6.out.trans HD9.out
  have HG9 : Hid (OwnI w6.heap.size w9 (.slice ga gn gc) R'.edges) := HG8.out.next hx
  have HS9 : Hid (OwnI w2.heap.size w9 (.slice sa rn sc) R'.edges) := HS8.out.next hx
  have HN9 : Hid (HG wS.heap.size w9 (.slice qa0 qn0 qc0) (.slice qa1 qn1 qc1) (.slice qa2 qn2 qc2) (.slice qa3 qn3 qc3) (.slice qa4 qn4 qc4) (.slice qa5 qn5 qc5) (.slice qa6 qn6 qc6) G) := HN6.out.next HD9.out
  have BX9 := BX8.next hx
  have BA9 := BA8.next hx
  have BW9 := BW8.next hx
  have BR9 := BR.next hx
  clear hx BX8 BA8 BW8 BR HG8 HS8 HD8 HX78 r0 r1 r2 p0 p1 p2
  have k0 := BA9.cell (i := 0) rfl
  have k1 := BA9.cell (i := 1) rfl
  have k2 := BA9.cell (i := 2) rfl
  have k3 := BA9.cell (i := 3) rfl
  have k4 := BA9.cell (i := 4) rfl
  have k5 := BA9.cell (i := 5) rfl
  have k6 := BA9.cell (i := 6) rfl
  have l0 := BX9.cell (i := 0) rfl
  have l1 := BX9.cell (i := 1) rfl
  have l2 := BX9.cell (i := 2) rfl
  have l3 := BX9.cell (i := 3) rfl
  have l4 := BX9.cell (i := 4) rfl
  have l5 := BX9.cell (i := 5) rfl
  have l6 := BX9.cell (i := 6) rfl
  have BD := BX9.drew
  have BAD := BA9.drew
  have BWD := BW9.drew
  have BRD := BR9.drew
  clear BX9 BA9 BW9 BR9
  go_wp2
  go_region_with (first
    | (go_at_call 6; refine (toGraph_any B _ _ _ _ _ _ _ G _ (by exact h0.next HX9.out.drew) HSM.out).mono ?_; rintro e w10 ⟨⟨za0, zn0, zc0, za1, zn1, zc1, za2, zn2, zc2, za3, zn3, zc3, za4, zn4, zc4, za5, zn5, zc5, za6, zn6, zc6, rfl, hN9⟩, hu9⟩; have hx9 := hu9.nx; have BE := BD.next hx9; have y0 := BE.cell (i := 0) rfl; have y1 := BE.cell (i := 1) rfl; have y2 := BE.cell (i := 2) rfl; have y3 := BE.cell (i := 3) rfl; have y4 := BE.cell (i := 4) rfl; have y5 := BE.cell (i := 5) rfl; have y6 := BE.cell (i := 6) rfl)
    | (go_at_call 9; refine (eqGraph_same _ _ _ _ _ _ _ _ _ _ _ _ _ _ _ _ G _ (by exact (HN9.out.next (Nx.refl _).drew).next hx9) (by exact hN9)).mono ?_; rintro e w11 ⟨rfl, hx10⟩))
  all_goals
    have HDB : Hid (Nx w9 w11) := ((Nx.refl w9).drew.trans hx9).trans hx10
    have HX11 : Hid (Nx w w11) := HX9.out.trans HDB.out
    have HD13 : Hid (Nx w6 w11) := HD9.out.trans HDB.out
    have BX11 := (BD.next hx9).next hx10
    have BA11 := (BAD.next hx9).next hx10
    have BW11 := (BWD.next hx9).next hx10
    have BR11 := (BRD.next hx9).next hx10
    have HG13 : Hid (OwnI w6.heap.size w11 (.slice ga gn gc) R'.edges) := HG9.out.next HDB.out
    have HS13 : Hid (OwnI w2.heap.size w11 (.slice sa rn sc) R'.edges) := HS9.out.next HDB.out
    have HM13 : Hid (Mk wS.heap.size w6 w11 w11) := Mk.start HD13.out HU6.out.op
    clear k0 k1 k2 k3 k4 k5 k6 l0 l1 l2 l3 l4 l5 l6 y0 y1 y2 y3 y4 y5 y6 BE BD BAD BWD BRD hN9 HN9 hx9 hx10 hu9 HG9 HS9
    have l0 := BX11.cell (i := 0) rfl
    have l1 := BX11.cell (i := 1) rfl
    have l2 := BX11.cell (i := 2) rfl
    have l3 := BX11.cell (i := 3) rfl
    have l4 := BX11.cell (i := 4) rfl
    have l5 := BX11.cell (i := 5) rfl
    have l6 := BX11.cell (i := 6) rfl
    go_wp2_with fail
    refine (markGraph_any wS.heap.size w6 w11 _ _ _ _ _ _ _ G _ HN6.out HM13.out HSM.out).mono ?_
    rintro e w14 ⟨⟨k14, rfl, hk14, hk14'⟩, hm⟩
    have hk15 : ¬ k14 < 0 := by omega
    have hk15' : decide (k14 < 0) = false := by simp; omega
    have HMS : Hid (w11.heap.size ≤ w14.heap.size) := hm.size
    have HB14 : Hid (Below wS.heap.size w11 w14) := hm.below (Nat.le_refl _) (Nat.le_trans HU6.out.nx.size HD13.out.size)
    have HG14 : Hid (OwnI w6.heap.size w14 (.slice ga gn gc) R'.edges) := HG13.out.marked hm (Nat.le_refl _)
    have HS14 : Hid (OwnI w2.heap.size w14 (.slice sa rn sc) R'.edges) := HS13.out.below HB14.out (fun g hg => by have := HSL.out g hg; have := HSZ.out; omega)
    have BW14 := BW11.below HB14.out (by have := HSZ.out; omega)
    have BA14 := BA11.below HB14.out HX3W.out
    have BR14 := BR11.mk hm HSZ7.out
    clear hm BX11 l0 l1 l2 l3 l4 l5 l6 HM13 HG13 BR11
    have r0 := BR14.cell (i := 0) rfl
    have r1 := BR14.cell (i := 1) rfl
    have r2 := BR14.cell (i := 2) rfl
    have p0 := BW14.cell (i := 0) rfl
    have p1 := BW14.cell (i := 1) rfl
    have p2 := BW14.cell (i := 2) rfl
    go_wp2_with fail
    refine (eqRoute_same w6.heap.size w2.heap.size rc' rk' ga gn gc sa rn sc R'.edges _ (by exact HG14.out.held) (by exact HS14.out.held)).mono ?_
    rintro e w16 ⟨rfl, hx⟩
    have HZ16 : Hid (w7.heap.size < w16.heap.size) := by have := BR14.lt; have := hx.size; unfold Hid; omega
    have HG16 : Hid (OwnI w6.heap.size w16 (.slice ga gn gc) R'.edges) := HG14.out.next hx
    have HB16 : Hid (Below wS.heap.size w11 w16) := HB14.out.trans (Below.mono hx (Nat.le_trans (Nat.le_trans HU6.out.nx.size HD13.out.size) HMS.out))
    have BR16 := BR14.next hx
    clear hx HG14 HB14 HS14 BR14 BW14 BA14 r0 r1 r2 p0 p1 p2
    have HSI : Hid (SI w16 (.slice ga gn gc) gn (iat R'.edges)) := by have := HG16.out.si; rw [← HGN.out] at this; exact this
    have r0 := BR16.cell (i := 0) rfl
    have r1 := BR16.cell (i := 1) rfl
    have r2 := BR16.cell (i := 2) rfl
    go_wp2_with fail
    refine (markRoute_any rc' rk' ga gn gc (iat R'.edges) _ 1 (by exact HSI.out) (by omega) (by omega) (by omega)).mono ?_
    rintro e w17 ⟨rfl, hsi, hon⟩
    have HSI17 : Hid (SI w17 (.slice ga gn gc) gn (fun i => 1 + i)) := hsi
    have BR17 := hon.blk (BR16.alloc _) (fun e => by have := HGL.out _ e.symm; omega)
    have HWS6 : Hid (wS.heap.size ≤ w6.heap.size) := HU6.out.nx.size
    have HB17 : Hid (Below wS.heap.size w11 w17) := by
      have h1 : wS.heap.size ≤ w16.heap.size := by have := HZ16.out; have := HSZ7.out; have := HWS6.out; omega
      have h2 : Below wS.heap.size w16 (w16.alloc (.cells #[.int .i64 rc', .int .i64 rk', .slice ga gn gc] 27)) := Below.mono (box1 _ _) h1
      exact (HB16.out.trans h2).trans (hon.below (fun g hg => by have := HGL.out g hg; have := HWS6.out; omega) (by rw [size_alloc']; omega))
    clear hsi hon HG16 HB16 HSI BR16 r0 r1 r2
    have r0 := BR17.cell (i := 0) rfl
    have r1 := BR17.cell (i := 1) rfl
    have r2 := BR17.cell (i := 2) rfl
    go_wp2_with fail
    refine (heldRoute_any rc' rk' ga gn gc _ 1 (by exact HSI17.out) (by omega) (by omega) (by omega)).mono ?_
    rintro e w18 ⟨rfl, hx⟩
    have hd1 : ¬ (1 : Int) + (gn : Int) < 0 := by omega
    have hd1' : decide ((1 : Int) + (gn : Int) < 0) = false := by simp; omega
    have hd2 : ((1 : Int) + (gn : Int) != (1 : Int) + (gn : Int)) = false := by simp
    have HB18 : Hid (Below wS.heap.size w11 w18) := HB17.out.trans (Below.mono hx (by have := HB17.out.size; have := HD13.out.size; have := HWS6.out; omega))
    have HX17 : Hid (Nx w w18) := Below.trans HX11.out (Below.mono HB18.out (HX4.out.size))
    have HS17 : Hid (OwnI w2.heap.size w18 (.slice sa rn sc) R'.edges) := HS13.out.below HB18.out (fun g hg => by have := HSL.out g hg; have := HSZ.out; omega)
    have BA17 := BA11.below HB18.out HX3W.out
    have BW17 := BW11.below HB18.out (by have := HSZ.out; omega)
    clear hx HB17 HSI17 BR17 r0 r1 r2 HB18 HS13 BA11 BW11
    have k0 := BA17.cell (i := 0) rfl
    have k1 := BA17.cell (i := 1) rfl
    have k2 := BA17.cell (i := 2) rfl
    have k3 := BA17.cell (i := 3) rfl
    have k4 := BA17.cell (i := 4) rfl
    have k5 := BA17.cell (i := 5) rfl
    have k6 := BA17.cell (i := 6) rfl
    go_wp2_with fail
    refine (toGraph_any B _ _ _ _ _ _ _ G _ (by exact h0.next HX17.out) HSM.out).mono ?_
    rintro e w19 ⟨⟨fa0, fn0, fc0, fa1, fn1, fc1, fa2, fn2, fc2, fa3, fn3, fc3, fa4, fn4, fc4, fa5, fn5, fc5, fa6, fn6, fc6, rfl, hN19⟩, hu⟩
    have hx := hu.nx
    have HX19 : Hid (Nx w w19) := HX17.out.trans hx
    have HN19 : Hid (HG w18.heap.size w19 (.slice fa0 fn0 fc0) (.slice fa1 fn1 fc1) (.slice fa2 fn2 fc2) (.slice fa3 fn3 fc3) (.slice fa4 fn4 fc4) (.slice fa5 fn5 fc5) (.slice fa6 fn6 fc6) G) := hN19
    have HS19 : Hid (OwnI w2.heap.size w19 (.slice sa rn sc) R'.edges) := HS17.out.next hx
    have BW19 := BW17.next hx
    clear hu hx hN19 k0 k1 k2 k3 k4 k5 k6 BA17 BW17 HS17
    go_wp2_with fail
    refine (implShort_any w18.heap.size _ _ _ _ _ _ _ G s t _ (by exact HN19.out) HSM.out).mono ?_
    rintro e w20 ⟨⟨rc2, rk2, ha, hn, hc, R2, rfl, hR, hO, hl⟩, hx⟩
    have hRR : R2 = R' := hR.uniq HR.out
    subst hRR
    have hrc : rc2 = rc' := hO.1.trans HRC.out.1.symm
    have hrk : rk2 = rk' := hO.2.1.trans HRC.out.2.symm
    subst hrc hrk
    have HO20 : Hid (OwnI w19.heap.size w20 (.slice ha hn hc) R2.edges) := hO.2.2
    have HS20 : Hid (OwnI w2.heap.size w20 (.slice sa rn sc) R2.edges) := HS19.out.next hx
    have HX20 : Hid (Nx w w20) := HX19.out.trans hx
    have BW20 := BW19.next hx
    clear hR hO hl hx BW19 HS19 HN19
    generalize hW21 : w20.alloc (.cells #[.int .i64 rc2, .int .i64 rk2, .slice ha hn hc] 27) = w21
    have HX21 : Hid (Nx w20 w21) := by unfold Hid; rw [← hW21]; exact box1 _ _
    have BQ : Blk w21 w20.heap.size #[.int .i64 rc2, .int .i64 rk2, .slice ha hn hc] := by rw [← hW21]; exact Blk.new w20 _ _ _ rfl
    have BW21 := BW20.next HX21.out
    go_upto_region 25 with fail
    clear hW21
    have r0 := BQ.cell (i := 0) rfl
    have r1 := BQ.cell (i := 1) rfl
    have r2 := BQ.cell (i := 2) rfl
    have p0 := BW21.cell (i := 0) rfl
    have p1 := BW21.cell (i := 1) rfl
    have p2 := BW21.cell (i := 2) rfl
    go_wp2_with fail
    refine (eqRoute_same w19.heap.size w2.heap.size rc2 rk2 ha hn hc sa rn sc R2.edges _ (by exact (HO20.out.next HX21.out).held) (by exact (HS20.out.next HX21.out).held)).mono ?_
    rintro e w22 ⟨rfl, hx⟩
    have HX22 : Hid (Nx w w22) := (HX20.out.trans HX21.out).trans hx
    clear hx r0 r1 r2 p0 p1 p2
    go_wp2
    go_ret
    exact ⟨rfl, HX22.out⟩
end Go.Proofs.Yticooljejlkbfaa
