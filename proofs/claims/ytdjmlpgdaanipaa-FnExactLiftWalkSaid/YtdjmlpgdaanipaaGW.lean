import Derived.Test.YtdjmlpgdaanipaaGV
import Derived.Test.YtdjmlpgdaanipaaGJ
namespace Go.Proofs.Ytdjmlpgdaanipaa
open Go.RowKit Go.Sort
set_option linter.unusedVariables false
set_option maxRecDepth 100000

theorem liftK_len {G : Gr} {P p : List Int} {k : Nat} (h : liftK G P k = some p) : p.length = k + 1 := by
  induction k generalizing p with
  | zero => rw [liftK] at h; rw [← Option.some.inj h]; rfl
  | succ k ih =>
    rw [liftK] at h
    cases e : liftK G P k with
    | none => rw [e] at h; simp at h
    | some q =>
      rw [e, Option.bind_some] at h
      split at h
      · simp at h
      · rw [← Option.some.inj h, List.length_append, ih e]; rfl
theorem liftWalk_len (G : Gr) (P : List Int) : P.length ≤ 1048576 → (liftWalk G P).length ≤ 1048576 := by
  intro h
  unfold liftWalk
  split
  · cases e : liftK G P (P.length - 1) with
    | none => simp
    | some p =>
      have := liftK_len e
      simp only [Option.getD_some]
      omega
  · simp

set_option maxHeartbeats 8000000 in
theorem lawLW_any (B : Nat) (v0 v1 v2 v3 v4 v5 v6 vp : Value) (G : Gr) (P : List Int) (w : World) (h0 : HG B w v0 v1 v2 v3 v4 v5 v6 G) (hp : HInts B w vp P) :
    Calls Try.prog 4 #[.agg #[v0, v1, v2, v3, v4, v5, v6], vp] w fun e w' => e = .returned (.bool true) ∧ Nx w w' := by
  have HP : Hid (HInts B w vp P) := hp
  obtain ⟨a7, c7, rfl, hn7, _⟩ := hp
  have HLR : Hid (P.length ≤ 1048576 → (liftWalk G P).length ≤ 1048576) := liftWalk_len G P
  generalize hR : liftWalk G P = R at HLR
  have HRE : Hid (liftWalk G P = R) := hR
  clear hR
  generalize hz : P.length = n7 at *
  have HZ : Hid (P.length = n7) := hz
  clear hz
  by_cases hbig : 1048576 < n7
  · have d1 : decide (1048576 < (n7 : Int)) = true := by simp; omega
    go_enter Try.func4, Try.ntmps4
    go_wp2
    go_ret
    exact ⟨rfl, box1 _ _⟩
  have d1 : decide (1048576 < (n7 : Int)) = false := by simp; omega
  have HLP : Hid (P.length ≤ 1048576) := by unfold Hid; rw [HZ.out]; omega
  have hrl : R.length ≤ 1048576 := HLR.out (by omega)
  generalize hrz : R.length = rn at *
  have HRL : Hid (R.length = rn) := hrz
  clear hrz
  go_enter Try.func4, Try.ntmps4
  go_wp2_with fail
  refine (szGraph_any B _ _ _ _ _ _ _ G _ _ (by exact h0.next (box1 _ _)) (by omega) (by omega)).mono ?_
  rintro e w1 ⟨⟨r, rfl, hr⟩, hx⟩
  have BA := (Blk.new w #[v0, v1, v2, v3, v4, v5, v6] 24 _ rfl).next hx
  have HX : Hid (Nx w w1) := (box1 _ _).trans hx
  clear hx d1 hbig
  rcases hr with hr | ⟨hr, hsm⟩
  · go_wp2
    go_ret
    exact ⟨rfl, HX.out⟩
  have HSM : Hid (SmallG G) := hsm
  clear hsm
  have k0 := BA.cell (i := 0) rfl
  have k1 := BA.cell (i := 1) rfl
  have k2 := BA.cell (i := 2) rfl
  have k3 := BA.cell (i := 3) rfl
  have k4 := BA.cell (i := 4) rfl
  have k5 := BA.cell (i := 5) rfl
  have k6 := BA.cell (i := 6) rfl
  go_wp2_with fail
  refine (toGraph_any B _ _ _ _ _ _ _ G _ (by exact h0.next HX.out) HSM.out).mono ?_
  rintro e w2 ⟨⟨pa0, pn0, pc0, pa1, pn1, pc1, pa2, pn2, pc2, pa3, pn3, pc3, pa4, pn4, pc4, pa5, pn5, pc5, pa6, pn6, pc6, rfl, hN⟩, hu⟩
  have hx := hu.nx
  clear hu
  have HX2 : Hid (Nx w w2) := HX.out.trans hx
  have BA2 := BA.next hx
  have HNp : Hid (HG w1.heap.size w2 (.slice pa0 pn0 pc0) (.slice pa1 pn1 pc1) (.slice pa2 pn2 pc2) (.slice pa3 pn3 pc3) (.slice pa4 pn4 pc4) (.slice pa5 pn5 pc5) (.slice pa6 pn6 pc6) G) := hN
  have HS12 : Hid (w1.heap.size ≤ w2.heap.size) := hx.size
  clear hx BA k0 k1 k2 k3 k4 k5 k6 HX hN
  go_wp2_with fail
  refine (toInts_any B _ P _ (by exact HP.out.next HX2.out) HLP.out).mono ?_
  rintro e w3 ⟨⟨pa, pn, pc, rfl, hQ, hQC⟩, hu⟩
  have hx := hu.nx
  clear hu
  have HX3 : Hid (Nx w w3) := HX2.out.trans hx
  have BA3 := BA2.next hx
  have HNp3 : Hid (HG w1.heap.size w3 (.slice pa0 pn0 pc0) (.slice pa1 pn1 pc1) (.slice pa2 pn2 pc2) (.slice pa3 pn3 pc3) (.slice pa4 pn4 pc4) (.slice pa5 pn5 pc5) (.slice pa6 pn6 pc6) G) := HNp.out.next hx
  clear hx BA2 HX2 HNp
  go_wp2_with fail
  refine (specLift_any w1.heap.size _ _ _ _ _ _ _ _ G P _ (by exact HNp3.out) (by exact hQ.base HS12.out)).mono ?_
  rintro e w4 ⟨⟨v4, rfl, ho⟩, hx⟩
  rw [HRE.out] at ho
  obtain ⟨sa, sc, hv4⟩ := ho.slice
  rw [HRL.out] at hv4
  subst hv4
  have HS4 : Hid (OwnI w3.heap.size w4 (.slice sa rn sc) R) := ho
  have HSL : Hid (∀ g, (Value.slice sa rn sc).ownBlock = some g → g < w4.heap.size) := fun g hg => (own_lt ho g hg).2
  have HX4 : Hid (Nx w w4) := HX3.out.trans hx
  have BA4 := BA3.next hx
  have HWL : Hid (w.heap.size < w4.heap.size) := BA4.lt
  clear ho hx BA3 HX3 HNp3 hQ
  have k0 := BA4.cell (i := 0) rfl
  have k1 := BA4.cell (i := 1) rfl
  have k2 := BA4.cell (i := 2) rfl
  have k3 := BA4.cell (i := 3) rfl
  have k4 := BA4.cell (i := 4) rfl
  have k5 := BA4.cell (i := 5) rfl
  have k6 := BA4.cell (i := 6) rfl
  go_wp2_with fail
  refine (toGraph_any B _ _ _ _ _ _ _ G _ (by exact h0.next HX4.out) HSM.out).mono ?_
  rintro e w5 ⟨⟨qa0, qn0, qc0, qa1, qn1, qc1, qa2, qn2, qc2, qa3, qn3, qc3, qa4, qn4, qc4, qa5, qn5, qc5, qa6, qn6, qc6, rfl, hN⟩, hu⟩
  have hx := hu.nx
  have HU5 : Hid (Nu w4 w5) := hu
  have HX5 : Hid (Nx w w5) := HX4.out.trans hx
  have BA5 := BA4.next hx
  have HN5 : Hid (HG w4.heap.size w5 (.slice qa0 qn0 qc0) (.slice qa1 qn1 qc1) (.slice qa2 qn2 qc2) (.slice qa3 qn3 qc3) (.slice qa4 qn4 qc4) (.slice qa5 qn5 qc5) (.slice qa6 qn6 qc6) G) := hN
  have HS45 : Hid (w4.heap.size ≤ (w5.alloc (.cells #[.slice qa0 qn0 qc0, .slice qa1 qn1 qc1, .slice qa2 qn2 qc2, .slice qa3 qn3 qc3, .slice qa4 qn4 qc4, .slice qa5 qn5 qc5, .slice qa6 qn6 qc6] 27)).heap.size) := by have := hx.size; unfold Hid; simp; omega
  clear hu hx BA4 hN k0 k1 k2 k3 k4 k5 k6
  go_wp2_with fail
  have BX := Blk.new w5 #[.slice qa0 qn0 qc0, .slice qa1 qn1 qc1, .slice qa2 qn2 qc2, .slice qa3 qn3 qc3, .slice qa4 qn4 qc4, .slice qa5 qn5 qc5, .slice qa6 qn6 qc6] 27 _ rfl
  have BA6 := BA5.alloc (.cells #[.slice qa0 qn0 qc0, .slice qa1 qn1 qc1, .slice qa2 qn2 qc2, .slice qa3 qn3 qc3, .slice qa4 qn4 qc4, .slice qa5 qn5 qc5, .slice qa6 qn6 qc6] 27)
  refine (toInts_any B _ P _ (by exact HP.out.next (HX5.out.trans (box1 _ _))) HLP.out).mono ?_
  rintro e w6 ⟨⟨qa, qn, qc, rfl, hQ, hQC⟩, hu⟩
  have hx := hu.nx
  have HU6 : Hid (Nu w4 w6) := (HU5.out.alloc _ _).trans hu
  have HX6 : Hid (Nx w w6) := HX5.out.trans ((box1 _ _).trans hx)
  have HN6 : Hid (HG w4.heap.size w6 (.slice qa0 qn0 qc0) (.slice qa1 qn1 qc1) (.slice qa2 qn2 qc2) (.slice qa3 qn3 qc3) (.slice qa4 qn4 qc4) (.slice qa5 qn5 qc5) (.slice qa6 qn6 qc6) G) := (HN5.out.next (box1 _ _)).next hx
  have HQ6 : Hid (HInts w4.heap.size w6 (.slice qa qn qc) P) := hQ.base HS45.out
  have HS6 : Hid (OwnI w3.heap.size w6 (.slice sa rn sc) R) := HS4.out.next HU6.out.nx
  have BX6 := BX.next hx
  have BA7 := BA6.next hx
  clear hu hx BX BA5 BA6 HX5 HN5 HU5 hQ HS4
  have l0 := BX6.cell (i := 0) rfl
  have l1 := BX6.cell (i := 1) rfl
  have l2 := BX6.cell (i := 2) rfl
  have l3 := BX6.cell (i := 3) rfl
  have l4 := BX6.cell (i := 4) rfl
  have l5 := BX6.cell (i := 5) rfl
  have l6 := BX6.cell (i := 6) rfl
  go_wp2_with fail
  refine (implLift_any w4.heap.size _ _ _ _ _ _ _ _ G P _ (by exact HN6.out) (by exact HQ6.out) hQC HSM.out HLP.out).mono ?_
  rintro e w8 ⟨⟨v8, rfl, ho⟩, hx⟩
  rw [HRE.out] at ho
  obtain ⟨ga, gc, hv8⟩ := ho.slice
  rw [HRL.out] at hv8
  subst hv8
  have HG8 : Hid (OwnI w6.heap.size w8 (.slice ga rn gc) R) := ho
  have HD8 : Hid (Nx w6 w8) := hx
  have HS8 : Hid (OwnI w3.heap.size w8 (.slice sa rn sc) R) := HS6.out.next hx
  have BX8 := BX6.next hx
  have BA8 := BA7.next hx
  clear ho hx BX6 BA7 HS6 l0 l1 l2 l3 l4 l5 l6
  go_wp2_with fail
  refine (eqInts_same w6.heap.size w3.heap.size _ _ R _ (by exact HG8.out.held) (by exact HS8.out.held)).mono ?_
  rintro e w9 ⟨rfl, hx⟩
  have HD9 : Hid (Nx w6 w9) := HD8.out.trans hx
  have HX9 : Hid (Nx w w9) := HX6.out.trans HD9.out
  have HG9 : Hid (OwnI w6.heap.size w9 (.slice ga rn gc) R) := HG8.out.next hx
  have HS9 : Hid (OwnI w3.heap.size w9 (.slice sa rn sc) R) := HS8.out.next hx
  have HN9 : Hid (HG w4.heap.size w9 (.slice qa0 qn0 qc0) (.slice qa1 qn1 qc1) (.slice qa2 qn2 qc2) (.slice qa3 qn3 qc3) (.slice qa4 qn4 qc4) (.slice qa5 qn5 qc5) (.slice qa6 qn6 qc6) G) := HN6.out.next HD9.out
  have HQ9 : Hid (HInts w4.heap.size w9 (.slice qa qn qc) P) := HQ6.out.next HD9.out
  have BX9 := BX8.next hx
  have BA9 := BA8.next hx
  clear hx BX8 BA8 HG8 HS8 HD8
  have k0 := BA9.cell (i := 0) rfl
  have k1 := BA9.cell (i := 1) rfl
  have k2 := BA9.cell (i := 2) rfl
  have k3 := BA9.cell (i := 3) rfl
  have k4 := BA9.cell (i := 4) rfl
  have k5 := BA9.cell (i := 5) rfl
  have k6 := BA9.cell (i := 6) rfl
  have l0 := BX9.cell (i := 0) rfl
  have l1 := BX9.cell (i := 1) rfl
  have l2 := BX9.cell (i := 2) rfl
  have l3 := BX9.cell (i := 3) rfl
  have l4 := BX9.cell (i := 4) rfl
  have l5 := BX9.cell (i := 5) rfl
  have l6 := BX9.cell (i := 6) rfl
  have hlt5 := BX9.lt
  have BD := BX9.drew
  have BAD := BA9.drew
  clear BX9 BA9
  go_wp2
  go_region_with (first
    | (go_at_call 9; refine (toGraph_any B _ _ _ _ _ _ _ G _ (by exact h0.next HX9.out.drew) HSM.out).mono ?_; rintro e w10 ⟨⟨za0, zn0, zc0, za1, zn1, zc1, za2, zn2, zc2, za3, zn3, zc3, za4, zn4, zc4, za5, zn5, zc5, za6, zn6, zc6, rfl, hN9⟩, hu9⟩; have hx9 := hu9.nx; have BE := BD.next hx9; have y0 := BE.cell (i := 0) rfl; have y1 := BE.cell (i := 1) rfl; have y2 := BE.cell (i := 2) rfl; have y3 := BE.cell (i := 3) rfl; have y4 := BE.cell (i := 4) rfl; have y5 := BE.cell (i := 5) rfl; have y6 := BE.cell (i := 6) rfl)
    | (go_at_call 11; refine (eqGraph_same _ _ _ _ _ _ _ _ _ _ _ _ _ _ _ _ G _ (by exact (HN9.out.next (Nx.refl _).drew).next hx9) (by exact hN9)).mono ?_; rintro e w11 ⟨rfl, hx10⟩))
  all_goals
    have HDB : Hid (Nx w9 w11) := ((Nx.refl w9).drew.trans hx9).trans hx10
    have HX11 : Hid (Nx w w11) := HX9.out.trans HDB.out
    have BX11 := (BD.next hx9).next hx10
    have BA11 := (BAD.next hx9).next hx10
    clear k0 k1 k2 k3 k4 k5 k6 l0 l1 l2 l3 l4 l5 l6 y0 y1 y2 y3 y4 y5 y6 BE BD BAD hN9 HN9 hx9 hx10 hu9
    go_wp2_with fail
    refine (toInts_any B _ P _ (by exact HP.out.next HX11.out) HLP.out).mono ?_
    rintro e w12 ⟨⟨ra, rb, rc, rfl, hR, hRC⟩, hu⟩
    have hx12 := hu.nx
    go_wp2_with fail
    refine (eqInts_same _ _ _ _ P _ (by exact (HQ9.out.next HDB.out).next hx12) (by exact hR)).mono ?_
    rintro e w13 ⟨rfl, hx13⟩
    have HDC : Hid (Nx w9 w13) := (HDB.out.trans hx12).trans hx13
    have HD13 : Hid (Nx w6 w13) := HD9.out.trans HDC.out
    have HX13 : Hid (Nx w w13) := HX9.out.trans HDC.out
    have HG13 : Hid (OwnI w6.heap.size w13 (.slice ga rn gc) R) := HG9.out.next HDC.out
    have HS13 : Hid (OwnI w3.heap.size w13 (.slice sa rn sc) R) := HS9.out.next HDC.out
    have BX13 := (BX11.next hx12).next hx13
    have BA13 := (BA11.next hx12).next hx13
    have HM13 : Hid (Mk w4.heap.size w6 w13 w13) := Mk.start HD13.out HU6.out.op
    clear hu hx12 hx13 hR BX11 BA11 HDB HDC HQ9 HG9 HS9
    have l0 := BX13.cell (i := 0) rfl
    have l1 := BX13.cell (i := 1) rfl
    have l2 := BX13.cell (i := 2) rfl
    have l3 := BX13.cell (i := 3) rfl
    have l4 := BX13.cell (i := 4) rfl
    have l5 := BX13.cell (i := 5) rfl
    have l6 := BX13.cell (i := 6) rfl
    go_wp2_with fail
    refine (markGraph_any w4.heap.size w6 w13 _ _ _ _ _ _ _ G _ HN6.out HM13.out HSM.out).mono ?_
    rintro e w14 ⟨⟨k14, rfl, hk14, hk14'⟩, hm⟩
    have HM14 : Hid (Mk w4.heap.size w6 w13 w14) := hm
    clear hm BX13 l0 l1 l2 l3 l4 l5 l6 HM13
    go_wp2_with fail
    refine (markInts_any w4.heap.size w6 w13 _ P _ _ HQ6.out HM14.out HLP.out (by omega) (by omega)).mono ?_
    rintro e w15 ⟨rfl, hm⟩
    have HM15 : Hid (Mk w4.heap.size w6 w13 w15) := hm
    rw [HZ.out]
    have hk15 : ¬ k14 + (n7 : Int) < 0 := by omega
    have hk15' : decide (k14 + (n7 : Int) < 0) = false := by simp; omega
    have HG15 : Hid (OwnI w6.heap.size w15 (.slice ga rn gc) R) := HG13.out.marked hm (Nat.le_refl _)
    have HB15 : Hid (Below w4.heap.size w13 w15) := hm.below (Nat.le_refl _) (Nat.le_trans HU6.out.nx.size HD13.out.size)
    have HS15 : Hid (OwnI w3.heap.size w15 (.slice sa rn sc) R) := HS13.out.below HB15.out HSL.out
    clear hm HM14 HG13
    go_wp2_with fail
    refine (eqInts_same w6.heap.size w3.heap.size _ _ R _ (by exact HG15.out.held) (by exact HS15.out.held)).mono ?_
    rintro e w16 ⟨rfl, hx⟩
    have HG16 : Hid (OwnI w6.heap.size w16 (.slice ga rn gc) R) := HG15.out.next hx
    have HB16 : Hid (Below w4.heap.size w13 w16) := HB15.out.trans (Below.mono hx (Nat.le_trans (Nat.le_trans HU6.out.nx.size HD13.out.size) HM15.out.size))
    have HZ16 : Hid (w6.heap.size ≤ w16.heap.size) := Nat.le_trans HD13.out.size (Nat.le_trans HM15.out.size hx.size)
    clear hx HG15 HB15 HS15
    have HSI : Hid (SI w16 (.slice ga rn gc) rn (iat R)) := by have := HG16.out.si; rw [HRL.out] at this; exact this
    go_wp2_with fail
    refine (markI_any _ rn (iat R) _ 1 (by exact HSI.out) hrl (by omega) (by omega)).mono ?_
    rintro e w17 ⟨rfl, hsi, hon⟩
    have HSI17 : Hid (SI w17 (.slice ga rn gc) rn (fun i => 1 + i)) := hsi
    have HB17 : Hid (Below w4.heap.size w13 w17) := HB16.out.trans (hon.below (fun g hg => Nat.le_trans HU6.out.nx.size (own_lt HG16.out g hg).1) (Nat.le_trans HU6.out.nx.size HZ16.out))
    clear hsi hon HG16 HB16 HSI
    go_wp2_with fail
    refine (heldI_any _ rn _ 1 (by exact HSI17.out) hrl (by omega) (by omega)).mono ?_
    rintro e w18 ⟨rfl, rfl⟩
    have hd1 : ¬ (1 : Int) + (rn : Int) < 0 := by omega
    have hd1' : decide ((1 : Int) + (rn : Int) < 0) = false := by simp; omega
    have hd2 : ((1 : Int) + (rn : Int) != (1 : Int) + (rn : Int)) = false := by simp
    have HX17 : Hid (Nx w w18) := Below.trans HX13.out (Below.mono HB17.out (Nat.le_of_lt HWL.out))
    have HS17 : Hid (OwnI w3.heap.size w18 (.slice sa rn sc) R) := HS13.out.below HB17.out HSL.out
    have BA17 := BA13.below HB17.out HWL.out
    clear BA13 HS13 HB17 HSI17
    have k0 := BA17.cell (i := 0) rfl
    have k1 := BA17.cell (i := 1) rfl
    have k2 := BA17.cell (i := 2) rfl
    have k3 := BA17.cell (i := 3) rfl
    have k4 := BA17.cell (i := 4) rfl
    have k5 := BA17.cell (i := 5) rfl
    have k6 := BA17.cell (i := 6) rfl
    go_wp2_with fail
    refine (toGraph_any B _ _ _ _ _ _ _ G _ (by exact h0.next HX17.out) HSM.out).mono ?_
    rintro e w19 ⟨⟨fa0, fn0, fc0, fa1, fn1, fc1, fa2, fn2, fc2, fa3, fn3, fc3, fa4, fn4, fc4, fa5, fn5, fc5, fa6, fn6, fc6, rfl, hN19⟩, hu⟩
    have hx := hu.nx
    have HX19 : Hid (Nx w w19) := HX17.out.trans hx
    have HY19 : Hid (Nx w18 w19) := hx
    have HN19 : Hid (HG w18.heap.size w19 (.slice fa0 fn0 fc0) (.slice fa1 fn1 fc1) (.slice fa2 fn2 fc2) (.slice fa3 fn3 fc3) (.slice fa4 fn4 fc4) (.slice fa5 fn5 fc5) (.slice fa6 fn6 fc6) G) := hN19
    clear hu hx hN19 k0 k1 k2 k3 k4 k5 k6 BA17
    go_wp2_with fail
    refine (toInts_any B _ P _ (by exact HP.out.next HX19.out) HLP.out).mono ?_
    rintro e w20 ⟨⟨ta, tb, tc, rfl, hT, hTC⟩, hu⟩
    have hx := hu.nx
    have HY20 : Hid (Nx w18 w20) := HY19.out.trans hx
    have HN20 : Hid (HG w18.heap.size w20 (.slice fa0 fn0 fc0) (.slice fa1 fn1 fc1) (.slice fa2 fn2 fc2) (.slice fa3 fn3 fc3) (.slice fa4 fn4 fc4) (.slice fa5 fn5 fc5) (.slice fa6 fn6 fc6) G) := HN19.out.next hx
    have HT20 : Hid (HInts w18.heap.size w20 (.slice ta tb tc) P) := hT.base HY19.out.size
    clear hu hx hT HN19
    go_wp2_with fail
    refine (implLift_any w18.heap.size _ _ _ _ _ _ _ _ G P _ (by exact HN20.out) (by exact HT20.out) hTC HSM.out HLP.out).mono ?_
    rintro e w21 ⟨⟨v21, rfl, ho⟩, hx⟩
    rw [HRE.out] at ho
    have HO21 : Hid (OwnI w20.heap.size w21 v21 R) := ho
    have HS21 : Hid (OwnI w3.heap.size w21 (.slice sa rn sc) R) := HS17.out.next (HY20.out.trans hx)
    have HX21 : Hid (Nx w w21) := HX17.out.trans (HY20.out.trans hx)
    clear ho hx HN20 HT20
    go_wp2_with fail
    refine (eqInts_same w20.heap.size w3.heap.size _ _ R _ (by exact HO21.out.held) (by exact HS21.out.held)).mono ?_
    rintro e w22 ⟨rfl, hx⟩
    have HX22 : Hid (Nx w w22) := HX21.out.trans hx
    clear hx
    go_wp2
    go_ret
    exact ⟨rfl, HX22.out⟩
end Go.Proofs.Ytdjmlpgdaanipaa
