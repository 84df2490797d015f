import Derived.Test.YtifefpeefcjabaaAK
namespace Go.Proofs.Ytifefpeefcjabaa
open Go.RowKit Go.Sort
set_option linter.unusedVariables false
set_option maxRecDepth 100000

set_option maxHeartbeats 4000000 in
theorem lawVA_any (B : Nat) (v0 v1 v2 v3 v4 : Value) (A : Au) (w : World) (h0 : HA B w v0 v1 v2 v3 v4 A) :
    Calls Try.prog 4 #[.agg #[v0, v1, v2, v3, v4]] w fun e w' => e = .returned (.bool true) ∧ Nx w w' := by
  go_enter Try.func4, Try.ntmps4
  go_wp2_with fail
  refine (szAuto_any B _ _ _ _ _ A _ _ (by exact h0.next (box1 _ _)) (by omega) (by omega)).mono ?_
  rintro e w1 ⟨⟨r, rfl, hr⟩, hx⟩
  have BA := (Blk.new w #[v0, v1, v2, v3, v4] 38 _ rfl).next hx
  have HX : Hid (Nx w w1) := (box1 _ _).trans hx
  clear hx
  rcases hr with hr | ⟨hr, hsm⟩
  · go_wp2
    go_ret
    exact ⟨rfl, HX.out⟩
  have HSM : Hid (SmallA A) := hsm
  clear hsm
  have k0 := BA.cell (i := 0) rfl
  have k1 := BA.cell (i := 1) rfl
  have k2 := BA.cell (i := 2) rfl
  have k3 := BA.cell (i := 3) rfl
  have k4 := BA.cell (i := 4) rfl
  go_wp2_with fail
  refine (toAuto_any B _ _ _ _ _ A _ (by exact h0.next HX.out) HSM.out).mono ?_
  rintro e w2 ⟨⟨pa0, pn0, pc0, pa1, pn1, pc1, pa2, pn2, pc2, pa3, pn3, pc3, pa4, pn4, pc4, rfl, hN⟩, hu⟩
  have hx := hu.nx
  clear hu
  have HX2 : Hid (Nx w w2) := HX.out.trans hx
  have BA2 := BA.next hx
  clear hx BA k0 k1 k2 k3 k4 HX
  go_wp2_with fail
  refine (specValidA_any _ _ _ _ _ _ A _ hN).mono ?_
  rintro e w3 ⟨rfl, hx⟩
  have HX3 : Hid (Nx w w3) := HX2.out.trans hx
  have BA3 := BA2.next hx
  clear hx BA2 HX2 hN
  have k0 := BA3.cell (i := 0) rfl
  have k1 := BA3.cell (i := 1) rfl
  have k2 := BA3.cell (i := 2) rfl
  have k3 := BA3.cell (i := 3) rfl
  have k4 := BA3.cell (i := 4) rfl
  go_wp2_with fail
  refine (toAuto_any B _ _ _ _ _ A _ (by exact h0.next HX3.out) HSM.out).mono ?_
  rintro e w4 ⟨⟨qa0, qn0, qc0, qa1, qn1, qc1, qa2, qn2, qc2, qa3, qn3, qc3, qa4, qn4, qc4, rfl, hN⟩, hu⟩
  have hx := hu.nx
  clear hu
  have HX4 : Hid (Nx w w4) := HX3.out.trans hx
  have BA4 := BA3.next hx
  have HN4 : Hid (HA w3.heap.size w4 (.slice qa0 qn0 qc0) (.slice qa1 qn1 qc1) (.slice qa2 qn2 qc2) (.slice qa3 qn3 qc3) (.slice qa4 qn4 qc4) A) := hN
  clear hx BA3 HX3 hN k0 k1 k2 k3 k4
  go_wp2_with fail
  have BX := Blk.new w4 #[.slice qa0 qn0 qc0, .slice qa1 qn1 qc1, .slice qa2 qn2 qc2, .slice qa3 qn3 qc3, .slice qa4 qn4 qc4] 27 _ rfl
  have BA5 := BA4.alloc (.cells #[.slice qa0 qn0 qc0, .slice qa1 qn1 qc1, .slice qa2 qn2 qc2, .slice qa3 qn3 qc3, .slice qa4 qn4 qc4] 27)
  refine (implValidA_any _ _ _ _ _ _ A _ (by exact HN4.out.next (box1 _ _)) HSM.out).mono ?_
  rintro e w5 ⟨rfl, hx⟩
  have HX5 : Hid (Nx w w5) := HX4.out.trans ((box1 _ _).trans hx)
  have HN5 : Hid (HA w3.heap.size w5 (.slice qa0 qn0 qc0) (.slice qa1 qn1 qc1) (.slice qa2 qn2 qc2) (.slice qa3 qn3 qc3) (.slice qa4 qn4 qc4) A) := (HN4.out.next (box1 _ _)).next hx
  have BX5 := BX.next hx
  have BA6 := BA5.next hx
  have hd : (validS A != validS A) = false := by simp
  clear hx BX BA4 BA5 HX4 HN4
  have k0 := BA6.cell (i := 0) rfl
  have k1 := BA6.cell (i := 1) rfl
  have k2 := BA6.cell (i := 2) rfl
  have k3 := BA6.cell (i := 3) rfl
  have k4 := BA6.cell (i := 4) rfl
  have l0 := BX5.cell (i := 0) rfl
  have l1 := BX5.cell (i := 1) rfl
  have l2 := BX5.cell (i := 2) rfl
  have l3 := BX5.cell (i := 3) rfl
  have l4 := BX5.cell (i := 4) rfl
  have hlt5 := BX5.lt
  have BD := BX5.drew
  clear BX5 BA6
  generalize validS A = vb at *
  go_wp2
  go_region_with (first
    | (go_at_call 18; refine (toAuto_any B _ _ _ _ _ A _ (by exact h0.next HX5.out.drew) HSM.out).mono ?_; rintro e w6 ⟨⟨za0, zn0, zc0, za1, zn1, zc1, za2, zn2, zc2, za3, zn3, zc3, za4, zn4, zc4, rfl, hN6⟩, hu6⟩; have hx6 := hu6.nx; have BE := BD.next hx6; have y0 := BE.cell (i := 0) rfl; have y1 := BE.cell (i := 1) rfl; have y2 := BE.cell (i := 2) rfl; have y3 := BE.cell (i := 3) rfl; have y4 := BE.cell (i := 4) rfl)
    | (go_at_call 20; refine (eqAuto_same _ _ _ _ _ _ _ _ _ _ _ _ A _ (by exact (HN5.out.next (Nx.refl _).drew).next hx6) (by exact hN6)).mono ?_; rintro e w7 ⟨rfl, hx7⟩))
  all_goals go_wp2
  all_goals
    go_ret
    exact ⟨rfl, (HX5.out.drew.trans hx6).trans hx7⟩

set_option maxHeartbeats 4000000 in
theorem lawSA_any (B : Nat) (v0 v1 v2 v3 v4 : Value) (A : Au) (s t : Int) (w : World) (h0 : HA B w v0 v1 v2 v3 v4 A) :
    Calls Try.prog 5 #[.agg #[v0, v1, v2, v3, v4], .int .i64 s, .int .i64 t] w fun e w' => e = .returned (.bool true) ∧ Nx w w' := by
  go_enter Try.func5, Try.ntmps5
  go_wp2_with fail
  refine (szAuto_any B _ _ _ _ _ A _ _ (by exact h0.next (box1 _ _)) (by omega) (by omega)).mono ?_
  rintro e w1 ⟨⟨r, rfl, hr⟩, hx⟩
  have BA := (Blk.new w #[v0, v1, v2, v3, v4] 38 _ rfl).next hx
  have HX : Hid (Nx w w1) := (box1 _ _).trans hx
  clear hx
  rcases hr with hr | ⟨hr, hsm⟩
  · go_wp2
    go_ret
    exact ⟨rfl, HX.out⟩
  have HSM : Hid (SmallA A) := hsm
  clear hsm
  have k0 := BA.cell (i := 0) rfl
  have k1 := BA.cell (i := 1) rfl
  have k2 := BA.cell (i := 2) rfl
  have k3 := BA.cell (i := 3) rfl
  have k4 := BA.cell (i := 4) rfl
  go_wp2_with fail
  refine (toAuto_any B _ _ _ _ _ A _ (by exact h0.next HX.out) HSM.out).mono ?_
  rintro e w2 ⟨⟨pa0, pn0, pc0, pa1, pn1, pc1, pa2, pn2, pc2, pa3, pn3, pc3, pa4, pn4, pc4, rfl, hN⟩, hu⟩
  have hx := hu.nx
  clear hu
  have HX2 : Hid (Nx w w2) := HX.out.trans hx
  have BA2 := BA.next hx
  clear hx BA k0 k1 k2 k3 k4 HX
  go_wp2_with fail
  refine (specStep_any _ _ _ _ _ _ A s t _ hN).mono ?_
  rintro e w3 ⟨rfl, hx⟩
  have HX3 : Hid (Nx w w3) := HX2.out.trans hx
  have BA3 := BA2.next hx
  clear hx BA2 HX2 hN
  have k0 := BA3.cell (i := 0) rfl
  have k1 := BA3.cell (i := 1) rfl
  have k2 := BA3.cell (i := 2) rfl
  have k3 := BA3.cell (i := 3) rfl
  have k4 := BA3.cell (i := 4) rfl
  go_wp2_with fail
  refine (toAuto_any B _ _ _ _ _ A _ (by exact h0.next HX3.out) HSM.out).mono ?_
  rintro e w4 ⟨⟨qa0, qn0, qc0, qa1, qn1, qc1, qa2, qn2, qc2, qa3, qn3, qc3, qa4, qn4, qc4, rfl, hN⟩, hu⟩
  have hx := hu.nx
  clear hu
  have HX4 : Hid (Nx w w4) := HX3.out.trans hx
  have BA4 := BA3.next hx
  have HN4 : Hid (HA w3.heap.size w4 (.slice qa0 qn0 qc0) (.slice qa1 qn1 qc1) (.slice qa2 qn2 qc2) (.slice qa3 qn3 qc3) (.slice qa4 qn4 qc4) A) := hN
  clear hx BA3 HX3 hN k0 k1 k2 k3 k4
  go_wp2_with fail
  have BX := Blk.new w4 #[.slice qa0 qn0 qc0, .slice qa1 qn1 qc1, .slice qa2 qn2 qc2, .slice qa3 qn3 qc3, .slice qa4 qn4 qc4] 27 _ rfl
  have BA5 := BA4.alloc (.cells #[.slice qa0 qn0 qc0, .slice qa1 qn1 qc1, .slice qa2 qn2 qc2, .slice qa3 qn3 qc3, .slice qa4 qn4 qc4] 27)
  refine (implStep_any _ _ _ _ _ _ A s t _ (by exact HN4.out.next (box1 _ _)) HSM.out).mono ?_
  rintro e w5 ⟨rfl, hx⟩
  have HX5 : Hid (Nx w w5) := HX4.out.trans ((box1 _ _).trans hx)
  have HN5 : Hid (HA w3.heap.size w5 (.slice qa0 qn0 qc0) (.slice qa1 qn1 qc1) (.slice qa2 qn2 qc2) (.slice qa3 qn3 qc3) (.slice qa4 qn4 qc4) A) := (HN4.out.next (box1 _ _)).next hx
  have BX5 := BX.next hx
  have BA6 := BA5.next hx
  have hd : (stepA A s t != stepA A s t) = false := by simp
  clear hx BX BA4 BA5 HX4 HN4
  have k0 := BA6.cell (i := 0) rfl
  have k1 := BA6.cell (i := 1) rfl
  have k2 := BA6.cell (i := 2) rfl
  have k3 := BA6.cell (i := 3) rfl
  have k4 := BA6.cell (i := 4) rfl
  have l0 := BX5.cell (i := 0) rfl
  have l1 := BX5.cell (i := 1) rfl
  have l2 := BX5.cell (i := 2) rfl
  have l3 := BX5.cell (i := 3) rfl
  have l4 := BX5.cell (i := 4) rfl
  have hlt5 := BX5.lt
  have BD := BX5.drew
  clear BX5 BA6
  generalize stepA A s t = vb at *
  go_wp2
  go_region_with (first
    | (go_at_call 18; refine (toAuto_any B _ _ _ _ _ A _ (by exact h0.next HX5.out.drew) HSM.out).mono ?_; rintro e w6 ⟨⟨za0, zn0, zc0, za1, zn1, zc1, za2, zn2, zc2, za3, zn3, zc3, za4, zn4, zc4, rfl, hN6⟩, hu6⟩; have hx6 := hu6.nx; have BE := BD.next hx6; have y0 := BE.cell (i := 0) rfl; have y1 := BE.cell (i := 1) rfl; have y2 := BE.cell (i := 2) rfl; have y3 := BE.cell (i := 3) rfl; have y4 := BE.cell (i := 4) rfl)
    | (go_at_call 20; refine (eqAuto_same _ _ _ _ _ _ _ _ _ _ _ _ A _ (by exact (HN5.out.next (Nx.refl _).drew).next hx6) (by exact hN6)).mono ?_; rintro e w7 ⟨rfl, hx7⟩))
  all_goals go_wp2
  all_goals
    go_ret
    exact ⟨rfl, (HX5.out.drew.trans hx6).trans hx7⟩
end Go.Proofs.Ytifefpeefcjabaa
