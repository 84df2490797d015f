import Derived.Test.YtifefpeefcjabaaAK
namespace Go.Proofs.Ytifefpeefcjabaa
open Go.RowKit Go.Sort
set_option linter.unusedVariables false
set_option maxRecDepth 100000

set_option maxHeartbeats 4000000 in
theorem lawRA_any (B : Nat) (v0 v1 v2 v3 v4 vp : Value) (A : Au) (P : List Int) (w : World) (h0 : HA B w v0 v1 v2 v3 v4 A) (hp : HInts B w vp P) :
    Calls Try.prog 6 #[.agg #[v0, v1, v2, v3, v4], vp] w fun e w' => e = .returned (.bool true) ∧ Nx w w' := by
  have HP : Hid (HInts B w vp P) := hp
  obtain ⟨a7, c7, rfl, hn7, _⟩ := hp
  have HL7 : Hid (∀ n, P.length = n → n ≤ 1048576 → P.length ≤ 1048576) := fun n e h => by omega
  generalize hz : P.length = n7 at *
  have HZ : Hid (P.length = n7) := hz
  clear hz
  by_cases hbig : 1048576 < n7
  · have d1 : decide (1048576 < (n7 : Int)) = true := by simp; omega
    go_enter Try.func6, Try.ntmps6
    go_wp2
    go_ret
    exact ⟨rfl, box1 _ _⟩
  have d1 : decide (1048576 < (n7 : Int)) = false := by simp; omega
  have HLP : Hid (P.length ≤ 1048576) := by unfold Hid; rw [HZ.out]; omega
  go_enter Try.func6, Try.ntmps6
  go_wp2_with fail
  refine (szAuto_any B _ _ _ _ _ A _ _ (by exact h0.next (box1 _ _)) (by omega) (by omega)).mono ?_
  rintro e w1 ⟨⟨r, rfl, hr⟩, hx⟩
  have BA := (Blk.new w #[v0, v1, v2, v3, v4] 38 _ rfl).next hx
  have HX : Hid (Nx w w1) := (box1 _ _).trans hx
  clear hx d1 hbig
  rcases hr with hr | ⟨hr, hsm⟩
  · go_wp2
    go_ret
    exact ⟨rfl, HX.out⟩
  have HSM : Hid (SmallA A) := hsm
  clear hsm
  have k0 := BA.cell (i := 0) rfl
  have k1 := BA.cell (i := 1) rfl
  have k2 := BA.cell (i := 2) rfl
  have k3 := BA.cell (i := 3) rfl
  have k4 := BA.cell (i := 4) rfl
  go_wp2_with fail
  refine (toAuto_any B _ _ _ _ _ A _ (by exact h0.next HX.out) HSM.out).mono ?_
  rintro e w2 ⟨⟨pa0, pn0, pc0, pa1, pn1, pc1, pa2, pn2, pc2, pa3, pn3, pc3, pa4, pn4, pc4, rfl, hN⟩, hu⟩
  have hx := hu.nx
  clear hu
  have HX2 : Hid (Nx w w2) := HX.out.trans hx
  have BA2 := BA.next hx
  have HNp : Hid (HA w1.heap.size w2 (.slice pa0 pn0 pc0) (.slice pa1 pn1 pc1) (.slice pa2 pn2 pc2) (.slice pa3 pn3 pc3) (.slice pa4 pn4 pc4) A) := hN
  have HS12 : Hid (w1.heap.size ≤ w2.heap.size) := hx.size
  clear hx BA k0 k1 k2 k3 k4 HX hN
  go_wp2_with fail
  refine (toInts_any B _ P _ (by exact HP.out.next HX2.out) HLP.out).mono ?_
  rintro e w3 ⟨⟨pa, pn, pc, rfl, hQ⟩, hu⟩
  have hx := hu.nx
  clear hu
  have HX3 : Hid (Nx w w3) := HX2.out.trans hx
  have BA3 := BA2.next hx
  have HNp3 : Hid (HA w1.heap.size w3 (.slice pa0 pn0 pc0) (.slice pa1 pn1 pc1) (.slice pa2 pn2 pc2) (.slice pa3 pn3 pc3) (.slice pa4 pn4 pc4) A) := HNp.out.next hx
  clear hx BA2 HX2 HNp
  go_wp2_with fail
  refine (specRun_any w1.heap.size _ _ _ _ _ _ A P _ (by exact HNp3.out) (by exact hQ.base HS12.out)).mono ?_
  rintro e w4 ⟨rfl, hx⟩
  have HX4 : Hid (Nx w w4) := HX3.out.trans hx
  have BA4 := BA3.next hx
  clear hx BA3 HX3 HNp3 hQ
  have k0 := BA4.cell (i := 0) rfl
  have k1 := BA4.cell (i := 1) rfl
  have k2 := BA4.cell (i := 2) rfl
  have k3 := BA4.cell (i := 3) rfl
  have k4 := BA4.cell (i := 4) rfl
  go_wp2_with fail
  refine (toAuto_any B _ _ _ _ _ A _ (by exact h0.next HX4.out) HSM.out).mono ?_
  rintro e w5 ⟨⟨qa0, qn0, qc0, qa1, qn1, qc1, qa2, qn2, qc2, qa3, qn3, qc3, qa4, qn4, qc4, rfl, hN⟩, hu⟩
  have hx := hu.nx
  clear hu
  have HX5 : Hid (Nx w w5) := HX4.out.trans hx
  have BA5 := BA4.next hx
  have HN5 : Hid (HA w4.heap.size w5 (.slice qa0 qn0 qc0) (.slice qa1 qn1 qc1) (.slice qa2 qn2 qc2) (.slice qa3 qn3 qc3) (.slice qa4 qn4 qc4) A) := hN
  have HS45 : Hid (w4.heap.size ≤ (w5.alloc (.cells #[.slice qa0 qn0 qc0, .slice qa1 qn1 qc1, .slice qa2 qn2 qc2, .slice qa3 qn3 qc3, .slice qa4 qn4 qc4] 27)).heap.size) := by have := hx.size; unfold Hid; simp; omega
  clear hx BA4 HX4 hN k0 k1 k2 k3 k4
  go_wp2_with fail
  have BX := Blk.new w5 #[.slice qa0 qn0 qc0, .slice qa1 qn1 qc1, .slice qa2 qn2 qc2, .slice qa3 qn3 qc3, .slice qa4 qn4 qc4] 27 _ rfl
  have BA6 := BA5.alloc (.cells #[.slice qa0 qn0 qc0, .slice qa1 qn1 qc1, .slice qa2 qn2 qc2, .slice qa3 qn3 qc3, .slice qa4 qn4 qc4] 27)
  refine (toInts_any B _ P _ (by exact HP.out.next (HX5.out.trans (box1 _ _))) HLP.out).mono ?_
  rintro e w6 ⟨⟨qa, qn, qc, rfl, hQ⟩, hu⟩
  have hx := hu.nx
  clear hu
  have HX6 : Hid (Nx w w6) := HX5.out.trans ((box1 _ _).trans hx)
  have HN6 : Hid (HA w4.heap.size w6 (.slice qa0 qn0 qc0) (.slice qa1 qn1 qc1) (.slice qa2 qn2 qc2) (.slice qa3 qn3 qc3) (.slice qa4 qn4 qc4) A) := (HN5.out.next (box1 _ _)).next hx
  have HQ6 : Hid (HInts w4.heap.size w6 (.slice qa qn qc) P) := hQ.base HS45.out
  have BX6 := BX.next hx
  have BA7 := BA6.next hx
  clear hx BX BA5 BA6 HX5 HN5 hQ
  have l0 := BX6.cell (i := 0) rfl
  have l1 := BX6.cell (i := 1) rfl
  have l2 := BX6.cell (i := 2) rfl
  have l3 := BX6.cell (i := 3) rfl
  have l4 := BX6.cell (i := 4) rfl
  go_wp2_with fail
  refine (implRun_any w4.heap.size _ _ _ _ _ _ A P _ (by exact HN6.out) (by exact HQ6.out) HSM.out HLP.out).mono ?_
  rintro e w8 ⟨rfl, hx⟩
  have HX8 : Hid (Nx w w8) := HX6.out.trans hx
  have HN8 : Hid (HA w4.heap.size w8 (.slice qa0 qn0 qc0) (.slice qa1 qn1 qc1) (.slice qa2 qn2 qc2) (.slice qa3 qn3 qc3) (.slice qa4 qn4 qc4) A) := HN6.out.next hx
  have HQ8 : Hid (HInts w4.heap.size w8 (.slice qa qn qc) P) := HQ6.out.next hx
  have BX8 := BX6.next hx
  have BA8 := BA7.next hx
  have hd : (runA A P != runA A P) = false := by simp
  clear hx BX6 BA7 HX6 HN6 HQ6 l0 l1 l2 l3 l4
  have k0 := BA8.cell (i := 0) rfl
  have k1 := BA8.cell (i := 1) rfl
  have k2 := BA8.cell (i := 2) rfl
  have k3 := BA8.cell (i := 3) rfl
  have k4 := BA8.cell (i := 4) rfl
  have l0 := BX8.cell (i := 0) rfl
  have l1 := BX8.cell (i := 1) rfl
  have l2 := BX8.cell (i := 2) rfl
  have l3 := BX8.cell (i := 3) rfl
  have l4 := BX8.cell (i := 4) rfl
  have hlt5 := BX8.lt
  have BD := BX8.drew
  clear BX8 BA8
  generalize runA A P = vb at *
  go_wp2
  go_region_with (first
    | (go_at_call 18; refine (toAuto_any B _ _ _ _ _ A _ (by exact h0.next HX8.out.drew) HSM.out).mono ?_; rintro e w9 ⟨⟨za0, zn0, zc0, za1, zn1, zc1, za2, zn2, zc2, za3, zn3, zc3, za4, zn4, zc4, rfl, hN9⟩, hu9⟩; have hx9 := hu9.nx; have BE := BD.next hx9; have y0 := BE.cell (i := 0) rfl; have y1 := BE.cell (i := 1) rfl; have y2 := BE.cell (i := 2) rfl; have y3 := BE.cell (i := 3) rfl; have y4 := BE.cell (i := 4) rfl)
    | (go_at_call 20; refine (eqAuto_same _ _ _ _ _ _ _ _ _ _ _ _ A _ (by exact (HN8.out.next (Nx.refl _).drew).next hx9) (by exact hN9)).mono ?_; rintro e w10 ⟨rfl, hx10⟩))
  all_goals
    have HX10 : Hid (Nx w w10) := (HX8.out.drew.trans hx9).trans hx10
    have HQ10 : Hid (HInts w4.heap.size w10 (.slice qa qn qc) P) := ((HQ8.out.next (Nx.refl _).drew).next hx9).next hx10
    clear k0 k1 k2 k3 k4 l0 l1 l2 l3 l4 y0 y1 y2 y3 y4 BE BD hN9 HN8 HQ8 HX8
    go_wp2_with fail
    refine (toInts_any B _ P _ (by exact HP.out.next HX10.out) HLP.out).mono ?_
    rintro e w11 ⟨⟨ra, rn, rc, rfl, hR⟩, hu⟩
    have hx11 := hu.nx
    go_wp2_with fail
    refine (eqInts_same _ _ _ _ P _ (by exact HQ10.out.next hx11) (by exact hR)).mono ?_
    rintro e w12 ⟨rfl, hx12⟩
    go_wp2
    go_ret
    exact ⟨rfl, (HX10.out.trans hx11).trans hx12⟩
end Go.Proofs.Ytifefpeefcjabaa
