import Derived.Test.YtdjmlpgdaanipaaGT
namespace Go.Proofs.Ytdjmlpgdaanipaa
open Go.RowKit
set_option linter.unusedVariables false
set_option maxRecDepth 100000

set_option maxHeartbeats 8000000 in
theorem specLift_any (B : Nat) (v0 v1 v2 v3 v4 v5 v6 vp : Value) (G : Gr) (P : List Int) (w : World) (h0 : HG B w v0 v1 v2 v3 v4 v5 v6 G) (hp : HInts B w vp P) :
    Calls Try.prog 12 #[.agg #[v0, v1, v2, v3, v4, v5, v6], vp] w fun e w' => (∃ v, e = .returned v ∧ OwnI w.heap.size w' v (liftWalk G P)) ∧ Nx w w' := by
  have HH : Hid (HG B w v0 v1 v2 v3 v4 v5 v6 G) := h0
  have HP : Hid (HInts B w vp P) := hp
  obtain ⟨⟨a0, c0, rfl, hn0, hk0⟩, ⟨a1, c1, rfl, hn1, hk1⟩, ⟨a2, c2, rfl, hn2, hk2⟩, ⟨a3, c3, rfl, hn3, hk3⟩, ⟨a4, c4, rfl, hn4, hk4⟩, ⟨a5, c5, rfl, hn5, hk5⟩, ⟨a6, c6, rfl, hn6, hk6⟩⟩ := h0
  obtain ⟨a7, c7, rfl, hn7, hk7⟩ := hp
  unfold maxLen at hn0 hn1 hn2 hn3 hn4 hn5 hn6 hn7
  generalize hz0 : G.eo.length = n0 at *
  have Z0 : Hid (G.eo.length = n0) := hz0
  clear hz0
  generalize hz1 : G.so.length = n1 at *
  have Z1 : Hid (G.so.length = n1) := hz1
  clear hz1
  generalize hz2 : G.fi.length = n2 at *
  have Z2 : Hid (G.fi.length = n2) := hz2
  clear hz2
  generalize hz3 : G.tt.length = n3 at *
  have Z3 : Hid (G.tt.length = n3) := hz3
  clear hz3
  generalize hz4 : G.co.length = n4 at *
  have Z4 : Hid (G.co.length = n4) := hz4
  clear hz4
  generalize hz5 : G.sr.length = n5 at *
  have Z5 : Hid (G.sr.length = n5) := hz5
  clear hz5
  generalize hz6 : G.we.length = n6 at *
  have Z6 : Hid (G.we.length = n6) := hz6
  clear hz6
  generalize hz7 : P.length = n7 at *
  have Z7 : Hid (P.length = n7) := hz7
  clear hz7
  have HLD : Hid (liftWalk G P = if (validG G && (decide (0 < n7) && (decide (n7 ≤ 10000) && (decide (0 ≤ iat P 0) && decide (iat P 0 < (n5 : Int)))))) = true then (liftK G P (n7 - 1)).getD [] else []) := by
    unfold Hid
    rw [← Z7.out, ← Z5.out]
    rfl
  go_enter Try.func12, Try.ntmps12
  go_upto_region 1 with fail
  generalize hW0 : (w.alloc (.cells #[.slice a0 n0 c0, .slice a1 n1 c1, .slice a2 n2 c2, .slice a3 n3 c3, .slice a4 n4 c4, .slice a5 n5 c5, .slice a6 n6 c6] 27)) = W0 at *
  have HW0 : Hid (Nx w W0) := by unfold Hid; rw [← hW0]; exact box1 _ _
  have BA : Blk W0 w.heap.size #[.slice a0 n0 c0, .slice a1 n1 c1, .slice a2 n2 c2, .slice a3 n3 c3, .slice a4 n4 c4, .slice a5 n5 c5, .slice a6 n6 c6] := by rw [← hW0]; exact Blk.new w #[.slice a0 n0 c0, .slice a1 n1 c1, .slice a2 n2 c2, .slice a3 n3 c3, .slice a4 n4 c4, .slice a5 n5 c5, .slice a6 n6 c6] 27 _ rfl
  have HBA : Hid (Blk W0 w.heap.size #[.slice a0 n0 c0, .slice a1 n1 c1, .slice a2 n2 c2, .slice a3 n3 c3, .slice a4 n4 c4, .slice a5 n5 c5, .slice a6 n6 c6]) := BA
  clear hW0
  have CG : Hid (∀ d os, Calls Try.prog 8 #[.agg #[.slice a0 n0 c0, .slice a1 n1 c1, .slice a2 n2 c2, .slice a3 n3 c3, .slice a4 n4 c4, .slice a5 n5 c5, .slice a6 n6 c6]] (Sort.grow (redrawn W0 d) os) fun e w'' => e = .returned (.bool (validG G)) ∧ ∃ p : Regrown, w'' = Sort.grow (redrawn W0 p.d) p.os) :=
    fun d os => Calls.regrown_of (specValidG_any B _ _ _ _ _ _ _ G _ ((HH.out.next HW0.out).next (below_regrown W0 d os)))
  have K0 := cell_regrown (BA.cell (i := 0) rfl)
  have K1 := cell_regrown (BA.cell (i := 1) rfl)
  have K2 := cell_regrown (BA.cell (i := 2) rfl)
  have K3 := cell_regrown (BA.cell (i := 3) rfl)
  have K4 := cell_regrown (BA.cell (i := 4) rfl)
  have K5 := cell_regrown (BA.cell (i := 5) rfl)
  have K6 := cell_regrown (BA.cell (i := 6) rfl)
  clear BA hk0 hk1 hk2 hk3 hk4 hk5 hk6
  cases hvb : validG G
  case false =>
    rw [hvb] at CG HLD
    have HF : Hid (liftWalk G P = []) := by unfold Hid; rw [HLD.out]; simp
    go_wp2
    refine wp_region_quiet_below (by kernel_rfl) (by kernel_rfl) ?_
    repeat (go_big_quiet_step (exact CG.out _ _))
    refine wpQuiet_nil ?_
    intro _ hw'
    obtain ⟨⟨dq, osq⟩, hw''⟩ := hw'
    subst hw''
    have HB : Hid (Nx W0 (Sort.grow (redrawn W0 dq) osq)) := below_regrown W0 dq osq
    generalize hwq : Sort.grow (redrawn W0 dq) osq = wq at *
    clear hwq
    go_wp2
    go_ret
    exact ⟨⟨_, rfl, by rw [HF.out]; exact ownI_none w.heap.size _ (Nat.le_trans HW0.out.size HB.out.size)⟩, (HW0.out.trans HB.out).alloc _⟩
  have HV : Hid (VG G) := vg_of hvb
  rw [hvb] at CG HLD
  clear hvb
  by_cases g1 : 0 < n7
  case neg =>
    have e1 : n7 = 0 := by omega
    subst e1
    have HF : Hid (liftWalk G P = []) := by unfold Hid; rw [HLD.out]; simp
    clear g1
    go_wp2
    refine wp_region_quiet_below (by kernel_rfl) (by kernel_rfl) ?_
    repeat (go_big_quiet_step (exact CG.out _ _))
    refine wpQuiet_nil ?_
    intro _ hw'
    obtain ⟨⟨dq, osq⟩, hw''⟩ := hw'
    subst hw''
    have HB : Hid (Nx W0 (Sort.grow (redrawn W0 dq) osq)) := below_regrown W0 dq osq
    generalize hwq : Sort.grow (redrawn W0 dq) osq = wq at *
    clear hwq
    go_wp2
    go_ret
    exact ⟨⟨_, rfl, by rw [HF.out]; exact ownI_none w.heap.size _ (Nat.le_trans HW0.out.size HB.out.size)⟩, (HW0.out.trans HB.out).alloc _⟩
  have f1 : ((n7 : Int) == 0) = false := by simp; omega
  by_cases g2 : n7 ≤ 10000
  case neg =>
    have f2 : decide (10000 < (n7 : Int)) = true := by simp; omega
    have HF : Hid (liftWalk G P = []) := by unfold Hid; rw [HLD.out, if_neg (by simp; omega)]
    clear g1 g2
    go_wp2
    refine wp_region_quiet_below (by kernel_rfl) (by kernel_rfl) ?_
    repeat (go_big_quiet_step (exact CG.out _ _))
    refine wpQuiet_nil ?_
    intro _ hw'
    obtain ⟨⟨dq, osq⟩, hw''⟩ := hw'
    subst hw''
    have HB : Hid (Nx W0 (Sort.grow (redrawn W0 dq) osq)) := below_regrown W0 dq osq
    generalize hwq : Sort.grow (redrawn W0 dq) osq = wq at *
    clear hwq
    go_wp2
    go_ret
    exact ⟨⟨_, rfl, by rw [HF.out]; exact ownI_none w.heap.size _ (Nat.le_trans HW0.out.size HB.out.size)⟩, (HW0.out.trans HB.out).alloc _⟩
  have f2 : decide (10000 < (n7 : Int)) = false := by simp; omega
  have hl0' : (0 : Int) < n7 := by omega
  obtain ⟨b7, o7, ha7, _, hb7, hc7⟩ := hk7 g1
  subst ha7
  have x0 : w.cell? ⟨b7, o7 + 0, none⟩ = some (.int .i64 (iat P 0)) := hc7 0 g1
  rw [Nat.add_zero] at x0
  have X0 := cell_regrown (cell_next HW0.out hb7 x0)
  clear hc7 x0
  by_cases g3 : iat P 0 < 0
  · have f3 : decide (iat P 0 < 0) = true := by simpa using g3
    have HF : Hid (liftWalk G P = []) := by unfold Hid; rw [HLD.out, if_neg (by simp; omega)]
    clear g1 g2 g3
    go_wp2
    refine wp_region_quiet_below (by kernel_rfl) (by kernel_rfl) ?_
    repeat (go_big_quiet_step (exact CG.out _ _))
    refine wpQuiet_nil ?_
    intro _ hw'
    obtain ⟨⟨dq, osq⟩, hw''⟩ := hw'
    subst hw''
    have HB : Hid (Nx W0 (Sort.grow (redrawn W0 dq) osq)) := below_regrown W0 dq osq
    generalize hwq : Sort.grow (redrawn W0 dq) osq = wq at *
    clear hwq
    go_wp2
    go_ret
    exact ⟨⟨_, rfl, by rw [HF.out]; exact ownI_none w.heap.size _ (Nat.le_trans HW0.out.size HB.out.size)⟩, (HW0.out.trans HB.out).alloc _⟩
  have f3 : decide (iat P 0 < 0) = false := by simpa using g3
  by_cases g4 : (n5 : Int) ≤ iat P 0
  · have f4 : decide ((n5 : Int) ≤ iat P 0) = true := by simpa using g4
    have HF : Hid (liftWalk G P = []) := by unfold Hid; rw [HLD.out, if_neg (by simp; omega)]
    clear g1 g2 g3 g4
    go_wp2
    refine wp_region_quiet_below (by kernel_rfl) (by kernel_rfl) ?_
    repeat (go_big_quiet_step (exact CG.out _ _))
    refine wpQuiet_nil ?_
    intro _ hw'
    obtain ⟨⟨dq, osq⟩, hw''⟩ := hw'
    subst hw''
    have HB : Hid (Nx W0 (Sort.grow (redrawn W0 dq) osq)) := below_regrown W0 dq osq
    generalize hwq : Sort.grow (redrawn W0 dq) osq = wq at *
    clear hwq
    go_wp2
    go_ret
    exact ⟨⟨_, rfl, by rw [HF.out]; exact ownI_none w.heap.size _ (Nat.le_trans HW0.out.size HB.out.size)⟩, (HW0.out.trans HB.out).alloc _⟩
  have f4 : decide ((n5 : Int) ≤ iat P 0) = false := by simpa using g4
  have HF : Hid (liftWalk G P = (liftK G P (n7 - 1)).getD []) := by unfold Hid; rw [HLD.out, if_pos (by simp; omega)]
  have HL : Hid (0 < P.length ∧ P.length ≤ 10000 ∧ 0 ≤ iat P 0 ∧ iat P 0 < (G.sr.length : Int)) := by unfold Hid; rw [Z7.out, Z5.out]; omega
  clear g1 g2 g3 g4 HLD
  go_wp2
  refine wp_region_quiet_below (by kernel_rfl) (by kernel_rfl) ?_
  repeat (go_big_quiet_step (exact CG.out _ _))
  refine wpQuiet_nil ?_
  intro _ hw'
  obtain ⟨⟨dq, osq⟩, hw''⟩ := hw'
  subst hw''
  have HB : Hid (Nx W0 (Sort.grow (redrawn W0 dq) osq)) := below_regrown W0 dq osq
  have HWq : Hid (Nx w (Sort.grow (redrawn W0 dq) osq)) := HW0.out.trans HB.out
  have BQ := HBA.out.next HB.out
  clear K0 K1 K2 K3 K4 K5 K6 X0 CG
  generalize hwq : Sort.grow (redrawn W0 dq) osq = wq at *
  clear hwq
  have k0 := BQ.cell (i := 0) rfl
  have k1 := BQ.cell (i := 1) rfl
  have k2 := BQ.cell (i := 2) rfl
  have k3 := BQ.cell (i := 3) rfl
  have k4 := BQ.cell (i := 4) rfl
  have k5 := BQ.cell (i := 5) rfl
  have k6 := BQ.cell (i := 6) rfl
  go_wp2_with fail
  refine (l4Lift_any B _ _ _ _ _ _ _ _ G P _ (by exact HH.out.next HWq.out) (by exact HP.out.next HWq.out) HV.out HL.out.1 HL.out.2.1 HL.out.2.2.1 HL.out.2.2.2).mono ?_
  rintro e w2 ⟨⟨v, rfl, ho⟩, hx⟩
  have HFO : Hid (OwnI w.heap.size w2 v (liftWalk G P)) := by unfold Hid; rw [HF.out, ← Z7.out]; exact ho.base HWq.out.size
  have HX2 : Hid (Nx w w2) := HWq.out.trans hx
  clear ho hx
  go_wp2
  go_ret
  exact ⟨⟨_, rfl, HFO.out⟩, HX2.out⟩
end Go.Proofs.Ytdjmlpgdaanipaa
