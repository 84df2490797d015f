import Derived.Test.YtedhchmigeooiaaDoorPure
import Derived.Lib.QuietBelow
namespace Go.Proofs.YtedhchmigeooiaaDoor
open Go.RowKit Go.Sort
set_option linter.unusedVariables false

theorem wayGood_len {nodes : List Int} {x : Wy} (h : wayGood nodes x = true) : x.weights.length ≤ 100 := by
  simp only [wayGood, wayHead, Bool.and_eq_true, decide_eq_true_eq] at h
  exact h.1.1.1.2
theorem head_false {N : Nt} (h : specHead N = false) : false = specValid N := by simp [specValid, h]

set_option maxRecDepth 100000 in
set_option maxHeartbeats 4000000 in
theorem specValid_any (B : Nat) (v0 v1 v2 v3 : Value) (N : Nt) (w : World) (h0 : HNet B w v0 v1 v2 v3 N) (hs : wsum N.ways N.ways.length ≤ 1048576) :
    Calls Tryd.prog 17 #[.agg #[v0, v1, v2, v3, .int .i64 N.uturn]] w fun e w' => e = .returned (.bool (specValid N)) ∧ Nx w w' := by
  have I0 := h0.1
  have I1 := h0.2.1
  have I2 := h0.2.2.1
  have I3 := h0.2.2.2
  obtain ⟨i0, i1, i2, i3⟩ := h0
  obtain ⟨a0, c0, rfl, hn0, hk0⟩ := i0
  obtain ⟨a1, c1, rfl, hn1, hk1⟩ := i1
  obtain ⟨a2, c2, rfl, hn2, hk2⟩ := i2
  obtain ⟨a3, c3, rfl, hn3, hk3⟩ := i3
  unfold maxLen at hn0 hn1 hn2 hn3
  have HS : Hid (∀ k, k ≤ N.ways.length → edTo N.ways k ≤ 2097152) := fun k hk => by have := edTo_le N.ways k; have := wsum_mono N.ways hk; omega
  clear hs
  generalize hz0 : N.nodes.length = m0 at *
  generalize hz1 : N.ways.length = m1 at *
  generalize hz2 : N.rels.length = m2 at *
  generalize hz3 : N.turns.length = m3 at *
  have HZ : Hid (N.nodes.length = m0 ∧ N.ways.length = m1 ∧ N.rels.length = m2 ∧ N.turns.length = m3) := ⟨hz0, hz1, hz2, hz3⟩
  clear hz0 hz1 hz2 hz3
  by_cases e0 : inB N.uturn = true
  case neg =>
    have e0' : inB N.uturn = false := by simpa using e0
    have HF : Hid (specHead N = false) := by unfold Hid; simp [specHead, e0']
    clear e0
    go_enter Tryd.func17, Tryd.ntmps17
    go_wp2_with (go_at_call 39; refine (l1In_any _ _).mono ?_; rintro e w' ⟨rfl, rfl⟩)
    go_ret
    exact ⟨ret_bool (head_false HF.out), box1 _ _⟩
  by_cases e1 : m0 ≤ 2000
  case neg =>
    have d1 : decide (2000 < (m0 : Int)) = true := by simp; omega
    have HF : Hid (specHead N = false) := by unfold Hid; simp [specHead, HZ.out.1, e1]
    go_enter Tryd.func17, Tryd.ntmps17
    go_wp2_with (go_at_call 39; refine (l1In_any _ _).mono ?_; rintro e w' ⟨rfl, rfl⟩)
    go_ret
    exact ⟨ret_bool (head_false HF.out), box1 _ _⟩
  have d1 : decide (2000 < (m0 : Int)) = false := by simp; omega
  by_cases e2 : m1 ≤ 2000
  case neg =>
    have d2 : decide (2000 < (m1 : Int)) = true := by simp; omega
    have HF : Hid (specHead N = false) := by unfold Hid; simp [specHead, HZ.out.2.1, e2]
    go_enter Tryd.func17, Tryd.ntmps17
    go_wp2_with (go_at_call 39; refine (l1In_any _ _).mono ?_; rintro e w' ⟨rfl, rfl⟩)
    go_ret
    exact ⟨ret_bool (head_false HF.out), box1 _ _⟩
  have d2 : decide (2000 < (m1 : Int)) = false := by simp; omega
  by_cases e3 : m2 ≤ 1000
  case neg =>
    have d3 : decide (1000 < (m2 : Int)) = true := by simp; omega
    have HF : Hid (specHead N = false) := by unfold Hid; simp [specHead, HZ.out.2.2.1, e3]
    go_enter Tryd.func17, Tryd.ntmps17
    go_wp2_with (go_at_call 39; refine (l1In_any _ _).mono ?_; rintro e w' ⟨rfl, rfl⟩)
    go_ret
    exact ⟨ret_bool (head_false HF.out), box1 _ _⟩
  have d3 : decide (1000 < (m2 : Int)) = false := by simp; omega
  by_cases e4 : m3 ≤ 2000
  case neg =>
    have d4 : decide (2000 < (m3 : Int)) = true := by simp; omega
    have HF : Hid (specHead N = false) := by unfold Hid; simp [specHead, HZ.out.2.2.2, e4]
    go_enter Tryd.func17, Tryd.ntmps17
    go_wp2_with (go_at_call 39; refine (l1In_any _ _).mono ?_; rintro e w' ⟨rfl, rfl⟩)
    go_ret
    exact ⟨ret_bool (head_false HF.out), box1 _ _⟩
  have d4 : decide (2000 < (m3 : Int)) = false := by simp; omega
  have HH : Hid (specHead N = true) := by unfold Hid; simp [specHead, HZ.out.1, HZ.out.2.1, HZ.out.2.2.1, HZ.out.2.2.2, e0, e1, e2, e3, e4]
  go_enter Tryd.func17, Tryd.ntmps17
  go_wp2_with (go_at_call 39; refine (l1In_any _ _).mono ?_; rintro e w' ⟨rfl, rfl⟩)
  go_loopw [3] (fun i wr => ∃ k : Nat, k ≤ m0 ∧ i = .int .i64 k ∧ Hid (allTo (nodeAt N.nodes) k) ∧ Hid (Nx (w.alloc (.cells #[.slice a0 m0 c0, .slice a1 m1 c1, .slice a2 m2 c2, .slice a3 m3 c3, .int .i64 N.uturn] 35)) wr)) (fun i _ => m0 - (intOf i).toNat)
  case atStart => exact ⟨0, Nat.zero_le _, rfl, allTo_zero _, Nx.refl _⟩
  case round =>
    obtain ⟨k, hkn, rfl, hrel, HN⟩ := hrel
    have BA := (Blk.new w #[.slice a0 m0 c0, .slice a1 m1 c1, .slice a2 m2 c2, .slice a3 m3 c3, .int .i64 N.uturn] 35 _ rfl).next HN.out
    have k0 := BA.cell (i := 0) rfl
    have HW : Hid (Nx w wr) := (box1 _ _).trans HN.out
    by_cases hlt : k < m0
    · obtain ⟨b, off, rfl, hB, hb, hc⟩ := hk0 (by omega)
      have hlt' : (k : Int) < m0 := by omega
      clear BA hk1 hk2 hk3 hk0
      have hcc := cell_next HW.out hb (hc k hlt)
      by_cases hin : inB (iat N.nodes k) = true
      case neg =>
        have hin' : inB (iat N.nodes k) = false := by simpa using hin
        clear hc hin
        have HF : Hid (nodeAt N.nodes k = false) := by unfold Hid; simp [nodeAt, hin']
        go_wp2
        go_quiet ((go_at_call 39; exact Calls.quiet_of_same (l1In_any _ _)))
        go_wp2
        go_ret
        exact ⟨ret_bool (by unfold specValid; rw [allN_no (by rw [HZ.out.1]; exact hlt) HF.out]; simp), HW.out.trans ⟨rfl, rfl, rfl, Nat.le_refl _, fun _ _ => rfl⟩⟩
      by_cases hk : k = 0
      · have HF : Hid (nodeAt N.nodes k = true) := by unfold Hid nodeAt; rw [hin]; simp [ascAt, hk]
        have hkp : decide (0 < k) = false := by simp; omega
        have hkq : decide (0 < (k : Int)) = false := by simp; omega
        clear hc hk
        go_wp2
        go_quiet ((go_at_call 39; exact Calls.quiet_of_same (l1In_any _ _)))
        go_wp2
        go_roundw
        case rel => exact ⟨k + 1, by omega, by go_num, allTo_succ hrel HF.out, HN.out.trans ⟨rfl, rfl, rfl, Nat.le_refl _, fun _ _ => rfl⟩⟩
        case measure => simp [intOf]; omega
      · obtain ⟨j, rfl⟩ : ∃ j, k = j + 1 := ⟨k - 1, by omega⟩
        have hcd := cell_next HW.out hb (hc j (by omega))
        have hwj := wrapJ j (by omega)
        have hjl : (j : Int) < m0 := by omega
        have hjp : decide (0 < (j : Int) + 1) = true := by rw [decide_eq_true_iff]; omega
        clear hc hk
        by_cases hab : iat N.nodes j < iat N.nodes (j + 1)
        · have HF : Hid (nodeAt N.nodes (j + 1) = true) := by unfold Hid; simp only [nodeAt, hin, ascAt_succ]; simp [ltI, hab]
          have hd : decide (iat N.nodes (j + 1) ≤ iat N.nodes j) = false := by simpa using hab
          clear hab
          go_wp2
          go_quiet ((go_at_call 39; exact Calls.quiet_of_same (l1In_any _ _)))
          go_wp2
          go_roundw
          case rel => exact ⟨j + 1 + 1, by omega, by go_num, allTo_succ hrel HF.out, HN.out.trans ⟨rfl, rfl, rfl, Nat.le_refl _, fun _ _ => rfl⟩⟩
          case measure => simp [intOf]; omega
        · have HF : Hid (nodeAt N.nodes (j + 1) = false) := by unfold Hid; simp only [nodeAt, ascAt_succ]; simp [ltI]; intros; omega
          have hd : decide (iat N.nodes (j + 1) ≤ iat N.nodes j) = true := by simpa using hab
          clear hab
          go_wp2
          go_quiet ((go_at_call 39; exact Calls.quiet_of_same (l1In_any _ _)))
          go_wp2
          go_ret
          exact ⟨ret_bool (by unfold specValid; rw [allN_no (by rw [HZ.out.1]; exact hlt) HF.out]; simp), HW.out.trans ⟨rfl, rfl, rfl, Nat.le_refl _, fun _ _ => rfl⟩⟩
    · have HA0 : Hid (allN N.nodes.length (nodeAt N.nodes) = true) := allN_yes (by rw [HZ.out.1]; omega) hrel
      clear hk0 hrel BA
      go_wp2
      go_loopw [4, 5] (fun ed i wr => ∃ k : Nat, k ≤ m1 ∧ i = .int .i64 k ∧ ed = .int .i64 (edTo N.ways k : Nat) ∧ Hid (allTo (wayAt N) k) ∧ Hid (Nx (w.alloc (.cells #[.slice a0 m0 c0, .slice a1 m1 c1, .slice a2 m2 c2, .slice a3 m3 c3, .int .i64 N.uturn] 35)) wr)) (fun _ i _ => m1 - (intOf i).toNat)
      case atStart => exact ⟨0, Nat.zero_le _, rfl, rfl, allTo_zero _, HN.out⟩
      case round =>
        clear hkn hlt HN HW k0
        obtain ⟨k, hkn, rfl, rfl, hrel, HN⟩ := hrel
        have BA := (Blk.new w #[.slice a0 m0 c0, .slice a1 m1 c1, .slice a2 m2 c2, .slice a3 m3 c3, .int .i64 N.uturn] 35 _ rfl).next HN.out
        have k0 := BA.cell (i := 0) rfl
        have k1 := BA.cell (i := 1) rfl
        have k2 := BA.cell (i := 2) rfl
        have k3 := BA.cell (i := 3) rfl
        have k4 := BA.cell (i := 4) rfl
        have hwr := BA.lt
        have HW : Hid (Nx w wr) := (box1 _ _).trans HN.out
        by_cases hlt : k < m1
        · obtain ⟨b, off, rfl, hB, hb, hc⟩ := hk1 (by omega)
          have hlt' : (k : Int) < m1 := by omega
          have hbr : b < wr.heap.size := Nat.lt_of_lt_of_le hb HW.out.size
          clear BA hk2 hk3 hk1
          obtain ⟨q1, q2, x0, x1, x2, x3, g1, g2⟩ := hc k hlt
          obtain ⟨an, cn, rfl, _⟩ := g1.slice
          obtain ⟨aw, cw, rfl, _⟩ := g2.slice
          have x0 := cell_next HW.out hb x0
          have x1 := cell_next HW.out hb x1
          have x2 := cell_next HW.out hb x2
          have x3 := cell_next HW.out hb x3
          generalize hmn : (wat N.ways k).nodes.length = mn at *
          generalize hmw : (wat N.ways k).weights.length = mw at *
          have HMW : Hid ((wat N.ways k).weights.length = mw) := hmw
          clear hmn hmw
          have X0 := cell_regrown x0
          have X1 := cell_regrown x1
          have X2 := cell_regrown x2
          have X3 := cell_regrown x3
          have K0 := cell_regrown k0
          have K1 := cell_regrown k1
          have K2 := cell_regrown k2
          have K3 := cell_regrown k3
          have K4 := cell_regrown k4
          have CG : Hid (∀ d os, Calls Tryd.prog 40 #[.agg #[.slice a0 m0 c0, .slice (some ⟨b, off, none⟩) m1 c1, .slice a2 m2 c2, .slice a3 m3 c3, .int .i64 N.uturn], .agg #[.int .i64 (wat N.ways k).id, .bool (wat N.ways k).both, .slice an mn cn, .slice aw mw cw]] (grow (redrawn wr d) os) fun e w'' => e = .returned (.bool (wayGood N.nodes (wat N.ways k))) ∧ ∃ p : Regrown, w'' = grow (redrawn wr p.d) p.os) :=
            fun d os => Calls.regrown_of (l1WayGood_any B _ _ _ _ _ N.nodes (wat N.ways k) _ _ _ ((I0.next HW.out).next (below_regrown wr d os)) ((g1.next HW.out).next (below_regrown wr d os)) ((g2.next HW.out).next (below_regrown wr d os)))
          by_cases hin : wayGood N.nodes (wat N.ways k) = true
          case neg =>
            have hin' : wayGood N.nodes (wat N.ways k) = false := by simpa using hin
            have HF : Hid (wayAt N k = false) := by unfold Hid wayAt; rw [hin']; rfl
            clear hc hin
            rw [hin'] at CG
            go_wp2
            refine wp_region_quiet_below (by kernel_rfl) (by kernel_rfl) ?_
            repeat (go_big_quiet_step (exact CG.out _ _))
            refine wpQuiet_nil ?_
            intro _ hw'
            obtain ⟨⟨dq, osq⟩, hw''⟩ := hw'
            subst hw''
            have HB : Hid (Nx wr (grow (redrawn wr dq) osq)) := below_regrown wr dq osq
            go_wp2
            go_ret
            exact ⟨ret_bool (by unfold specValid; rw [allN_no (n := N.ways.length) (by rw [HZ.out.2.1]; exact hlt) HF.out]; simp), HW.out.trans HB.out⟩
          rw [hin] at CG
          have HLW : Hid ((wat N.ways k).weights.length ≤ 100) := wayGood_len hin
          have EQ : Hid (edTo N.ways (k + 1) = edTo N.ways k + edgeN (wat N.ways k)) := rfl
          have CE : Hid (∀ d os, Calls Tryd.prog 41 #[.agg #[.int .i64 (wat N.ways k).id, .bool (wat N.ways k).both, .slice an mn cn, .slice aw mw cw]] (grow (redrawn wr d) os) fun e w' => e = .returned (.int .i64 (edgeN (wat N.ways k) : Nat)) ∧ Nx (grow (redrawn wr d) os) w') :=
            fun d os => l1WayEdges_any _ _ _ _ B (wat N.ways k).weights _ ((g2.next HW.out).next (below_regrown wr d os)) (by have := HLW.out; omega)
          have hb1 := HS.out k hkn
          have hb2 := HS.out (k + 1) (by omega)
          rw [EQ.out] at hb2
          generalize hek : edTo N.ways k = ek at *
          generalize hen : edgeN (wat N.ways k) = en at *
          clear hek hen g1 g2
          by_cases hk : k = 0
          · have HF : Hid (wayAt N k = true) := by unfold Hid wayAt; rw [hin]; simp [ascAt, hk]
            have hkp : decide (0 < k) = false := by simp; omega
            have hkq : decide (0 < (k : Int)) = false := by simp; omega
            clear hc hk hin
            go_wp2
            refine wp_region_quiet_below (by kernel_rfl) (by kernel_rfl) ?_
            repeat (go_big_quiet_step (exact CG.out _ _))
            refine wpQuiet_nil ?_
            intro _ hw'
            obtain ⟨⟨dq, osq⟩, hw''⟩ := hw'
            subst hw''
            have HB : Hid (Nx wr (grow (redrawn wr dq) osq)) := below_regrown wr dq osq
            go_wp2_with (go_at_call 41; refine (CE.out _ _).mono ?_; rintro e w2 ⟨rfl, hx⟩)
            go_roundw
            case rel => exact ⟨k + 1, by omega, by go_num, by rw [EQ.out]; go_num, allTo_succ hrel HF.out, HN.out.trans (HB.out.trans hx)⟩
            case measure => simp [intOf]; omega
          · obtain ⟨j, rfl⟩ : ∃ j, k = j + 1 := ⟨k - 1, by omega⟩
            obtain ⟨r1, r2, y0, _⟩ := hc j (by omega)
            have y0 := cell_next HW.out hb y0
            have Y0 := cell_regrown y0
            have hwj := wrapJ j (by omega)
            have hjl : (j : Int) < m1 := by omega
            have hjp : decide (0 < (j : Int) + 1) = true := by rw [decide_eq_true_iff]; omega
            clear hc hk
            by_cases hab : (wat N.ways j).id < (wat N.ways (j + 1)).id
            · have HF : Hid (wayAt N (j + 1) = true) := by unfold Hid wayAt; rw [hin, ascAt_succ]; simp [ltW, hab]
              have hd : decide ((wat N.ways (j + 1)).id ≤ (wat N.ways j).id) = false := by simpa using hab
              clear hab hin
              go_wp2
              refine wp_region_quiet_below (by kernel_rfl) (by kernel_rfl) ?_
              repeat (go_big_quiet_step (exact CG.out _ _))
              refine wpQuiet_nil ?_
              intro _ hw'
              obtain ⟨⟨dq, osq⟩, hw''⟩ := hw'
              subst hw''
              have HB : Hid (Nx wr (grow (redrawn wr dq) osq)) := below_regrown wr dq osq
              go_wp2_with (go_at_call 41; refine (CE.out _ _).mono ?_; rintro e w2 ⟨rfl, hx⟩)
              go_roundw
              case rel => exact ⟨j + 1 + 1, by omega, by go_num, by rw [EQ.out]; go_num, allTo_succ hrel HF.out, HN.out.trans (HB.out.trans hx)⟩
              case measure => simp [intOf]; omega
            · have HF : Hid (wayAt N (j + 1) = false) := by unfold Hid wayAt; rw [ascAt_succ]; simp [ltW]; intros; omega
              have hd : decide ((wat N.ways (j + 1)).id ≤ (wat N.ways j).id) = true := by simpa using hab
              clear hab hin
              go_wp2
              refine wp_region_quiet_below (by kernel_rfl) (by kernel_rfl) ?_
              repeat (go_big_quiet_step (exact CG.out _ _))
              refine wpQuiet_nil ?_
              intro _ hw'
              obtain ⟨⟨dq, osq⟩, hw''⟩ := hw'
              subst hw''
              have HB : Hid (Nx wr (grow (redrawn wr dq) osq)) := below_regrown wr dq osq
              go_wp2
              go_ret
              exact ⟨ret_bool (by unfold specValid; rw [allN_no (n := N.ways.length) (by rw [HZ.out.2.1]; exact hlt) HF.out]; simp), HW.out.trans HB.out⟩
        · have HA1 : Hid (allN N.ways.length (wayAt N) = true) := allN_yes (by rw [HZ.out.2.1]; omega) hrel
          have ek : m1 = k := by omega
          subst ek
          clear hk1 hrel BA
          by_cases hed : edTo N.ways m1 ≤ 4000
          case neg =>
            have HF : Hid (false = specValid N) := by unfold Hid specValid; rw [HZ.out.2.1]; simp [hed]
            have hb1 := HS.out m1 hkn
            have hdd : decide (4000 < ((edTo N.ways m1 : Nat) : Int)) = true := by rw [decide_eq_true_iff]; omega
            generalize edTo N.ways m1 = ek at *
            go_wp2
            go_ret
            exact ⟨ret_bool HF.out, HW.out⟩
          have HED : Hid (decide (edTo N.ways N.ways.length ≤ 4000) = true) := by unfold Hid; rw [HZ.out.2.1]; simpa using hed
          have hdd : decide (4000 < ((edTo N.ways m1 : Nat) : Int)) = false := by rw [decide_eq_false_iff_not]; omega
          generalize edTo N.ways m1 = ek at *
          go_wp2
          go_loopw [6] (fun i wr => ∃ k : Nat, k ≤ m2 ∧ i = .int .i64 k ∧ Hid (allTo (relAt N) k) ∧ Hid (Nx (w.alloc (.cells #[.slice a0 m0 c0, .slice a1 m1 c1, .slice a2 m2 c2, .slice a3 m3 c3, .int .i64 N.uturn] 35)) wr)) (fun i _ => m2 - (intOf i).toNat)
          case atStart => exact ⟨0, Nat.zero_le _, rfl, allTo_zero _, HN.out⟩
          case round =>
            clear hkn hlt HN HW k0 k1 k2 k3 k4 hwr hdd hed
            obtain ⟨k, hkn, rfl, hrel, HN⟩ := hrel
            have BA := (Blk.new w #[.slice a0 m0 c0, .slice a1 m1 c1, .slice a2 m2 c2, .slice a3 m3 c3, .int .i64 N.uturn] 35 _ rfl).next HN.out
            have k0 := BA.cell (i := 0) rfl
            have k1 := BA.cell (i := 1) rfl
            have k2 := BA.cell (i := 2) rfl
            have k3 := BA.cell (i := 3) rfl
            have k4 := BA.cell (i := 4) rfl
            have HW : Hid (Nx w wr) := (box1 _ _).trans HN.out
            by_cases hlt : k < m2
            · obtain ⟨b, off, rfl, hB, hb, hc⟩ := hk2 (by omega)
              have hlt' : (k : Int) < m2 := by omega
              clear BA hk2 hk3
              obtain ⟨q1, x0, x1, x2, x3, x4, x5, x6, g1⟩ := hc k hlt
              obtain ⟨an, cn, rfl, _⟩ := g1.slice
              have x0 := cell_next HW.out hb x0
              have x1 := cell_next HW.out hb x1
              have x2 := cell_next HW.out hb x2
              have x3 := cell_next HW.out hb x3
              have x4 := cell_next HW.out hb x4
              have x5 := cell_next HW.out hb x5
              have x6 := cell_next HW.out hb x6
              generalize hmn : (rat N.rels k).ways.length = mn at *
              clear hmn
              have X0 := cell_regrown x0
              have X1 := cell_regrown x1
              have X2 := cell_regrown x2
              have X3 := cell_regrown x3
              have X4 := cell_regrown x4
              have X5 := cell_regrown x5
              have X6 := cell_regrown x6
              have K0 := cell_regrown k0
              have K1 := cell_regrown k1
              have K2 := cell_regrown k2
              have K3 := cell_regrown k3
              have K4 := cell_regrown k4
              have CG : Hid (∀ d os, Calls Tryd.prog 42 #[.agg #[.slice a0 m0 c0, .slice a1 m1 c1, .slice (some ⟨b, off, none⟩) m2 c2, .slice a3 m3 c3, .int .i64 N.uturn], .agg #[.int .i64 (rat N.rels k).id, .bool (rat N.rels k).only, .int .i64 (rat N.rels k).frm, .int .i64 (rat N.rels k).to, .bool (rat N.rels k).via, .int .i64 (rat N.rels k).node, .slice an mn cn]] (grow (redrawn wr d) os) fun e w'' => e = .returned (.bool (relGood N (rat N.rels k))) ∧ ∃ p : Regrown, w'' = grow (redrawn wr p.d) p.os) :=
                fun d os => Calls.regrown_of (l1RelGood_any B _ _ _ _ _ N (rat N.rels k) _ _ ((I0.next HW.out).next (below_regrown wr d os)) ((I1.keep (HW.out.keeps B)).keep (Nx.keeps (below_regrown wr d os) B)) ((g1.next HW.out).next (below_regrown wr d os)))
              clear g1
              by_cases hin : relGood N (rat N.rels k) = true
              case neg =>
                have hin' : relGood N (rat N.rels k) = false := by simpa using hin
                have HF : Hid (relAt N k = false) := by unfold Hid relAt; rw [hin']; rfl
                clear hc hin
                rw [hin'] at CG
                go_wp2
                refine wp_region_quiet_below (by kernel_rfl) (by kernel_rfl) ?_
                repeat (go_big_quiet_step (exact CG.out _ _))
                refine wpQuiet_nil ?_
                intro _ hw'
                obtain ⟨⟨dq, osq⟩, hw''⟩ := hw'
                subst hw''
                have HB : Hid (Nx wr (grow (redrawn wr dq) osq)) := below_regrown wr dq osq
                go_wp2
                go_ret
                exact ⟨ret_bool (by unfold specValid; rw [allN_no (n := N.rels.length) (by rw [HZ.out.2.2.1]; exact hlt) HF.out]; simp), HW.out.trans HB.out⟩
              rw [hin] at CG
              by_cases hk : k = 0
              · have HF : Hid (relAt N k = true) := by unfold Hid relAt; rw [hin]; simp [ascAt, hk]
                have hkp : decide (0 < k) = false := by simp; omega
                have hkq : decide (0 < (k : Int)) = false := by simp; omega
                clear hc hk hin
                go_wp2
                refine wp_region_quiet_below (by kernel_rfl) (by kernel_rfl) ?_
                repeat (go_big_quiet_step (exact CG.out _ _))
                refine wpQuiet_nil ?_
                intro _ hw'
                obtain ⟨⟨dq, osq⟩, hw''⟩ := hw'
                subst hw''
                have HB : Hid (Nx wr (grow (redrawn wr dq) osq)) := below_regrown wr dq osq
                go_wp2
                go_roundw
                case rel => exact ⟨k + 1, by omega, by go_num, allTo_succ hrel HF.out, HN.out.trans HB.out⟩
                case measure => simp [intOf]; omega
              · obtain ⟨j, rfl⟩ : ∃ j, k = j + 1 := ⟨k - 1, by omega⟩
                obtain ⟨r1, y0, _⟩ := hc j (by omega)
                have y0 := cell_next HW.out hb y0
                have Y0 := cell_regrown y0
                have hwj := wrapJ j (by omega)
                have hjl : (j : Int) < m2 := by omega
                have hjp : decide (0 < (j : Int) + 1) = true := by rw [decide_eq_true_iff]; omega
                clear hc hk
                by_cases hab : (rat N.rels j).id < (rat N.rels (j + 1)).id
                · have HF : Hid (relAt N (j + 1) = true) := by unfold Hid relAt; rw [hin, ascAt_succ]; simp [ltR, hab]
                  have hd : decide ((rat N.rels (j + 1)).id ≤ (rat N.rels j).id) = false := by simpa using hab
                  clear hab hin
                  go_wp2
                  refine wp_region_quiet_below (by kernel_rfl) (by kernel_rfl) ?_
                  repeat (go_big_quiet_step (exact CG.out _ _))
                  refine wpQuiet_nil ?_
                  intro _ hw'
                  obtain ⟨⟨dq, osq⟩, hw''⟩ := hw'
                  subst hw''
                  have HB : Hid (Nx wr (grow (redrawn wr dq) osq)) := below_regrown wr dq osq
                  go_wp2
                  go_roundw
                  case rel => exact ⟨j + 1 + 1, by omega, by go_num, allTo_succ hrel HF.out, HN.out.trans HB.out⟩
                  case measure => simp [intOf]; omega
                · have HF : Hid (relAt N (j + 1) = false) := by unfold Hid relAt; rw [ascAt_succ]; simp [ltR]; intros; omega
                  have hd : decide ((rat N.rels (j + 1)).id ≤ (rat N.rels j).id) = true := by simpa using hab
                  clear hab hin
                  go_wp2
                  refine wp_region_quiet_below (by kernel_rfl) (by kernel_rfl) ?_
                  repeat (go_big_quiet_step (exact CG.out _ _))
                  refine wpQuiet_nil ?_
                  intro _ hw'
                  obtain ⟨⟨dq, osq⟩, hw''⟩ := hw'
                  subst hw''
                  have HB : Hid (Nx wr (grow (redrawn wr dq) osq)) := below_regrown wr dq osq
                  go_wp2
                  go_ret
                  exact ⟨ret_bool (by unfold specValid; rw [allN_no (n := N.rels.length) (by rw [HZ.out.2.2.1]; exact hlt) HF.out]; simp), HW.out.trans HB.out⟩
            · have HA2 : Hid (allN N.rels.length (relAt N) = true) := allN_yes (by rw [HZ.out.2.2.1]; omega) hrel
              clear hk2 hrel BA
              go_wp2
              go_loopw [7] (fun i wr => ∃ k : Nat, k ≤ m3 ∧ i = .int .i64 k ∧ Hid (allTo (turnAt N) k) ∧ Hid (Nx (w.alloc (.cells #[.slice a0 m0 c0, .slice a1 m1 c1, .slice a2 m2 c2, .slice a3 m3 c3, .int .i64 N.uturn] 35)) wr)) (fun i _ => m3 - (intOf i).toNat)
              case atStart => exact ⟨0, Nat.zero_le _, rfl, allTo_zero _, HN.out⟩
              case round =>
                clear hkn hlt HN HW k0 k1 k2 k3 k4
                obtain ⟨k, hkn, rfl, hrel, HN⟩ := hrel
                have BA := (Blk.new w #[.slice a0 m0 c0, .slice a1 m1 c1, .slice a2 m2 c2, .slice a3 m3 c3, .int .i64 N.uturn] 35 _ rfl).next HN.out
                have k0 := BA.cell (i := 0) rfl
                have k1 := BA.cell (i := 1) rfl
                have k2 := BA.cell (i := 2) rfl
                have k3 := BA.cell (i := 3) rfl
                have k4 := BA.cell (i := 4) rfl
                have HW : Hid (Nx w wr) := (box1 _ _).trans HN.out
                by_cases hlt : k < m3
                · obtain ⟨b, off, rfl, hB, hb, hc⟩ := hk3 (by omega)
                  have hlt' : (k : Int) < m3 := by omega
                  clear hk3
                  obtain ⟨x0, x1, x2⟩ := hc k hlt
                  have x0 := cell_next HW.out hb x0
                  have x1 := cell_next HW.out hb x1
                  have x2 := cell_next HW.out hb x2
                  have HTA : Hid (turnAt N k = ((inB (tat N.turns k).cost && (hasW N.ways (tat N.turns k).frm && hasW N.ways (tat N.turns k).to)) && ascAt (ltT N.turns) k)) := rfl
                  have hwr := BA.lt
                  generalize htt : tat N.turns k = tk at *
                  have HTT : Hid (tat N.turns k = tk) := htt
                  clear htt
                  have BT := Blk.new wr #[.int .i64 tk.frm, .int .i64 tk.to, .int .i64 tk.cost] 55 _ rfl
                  have BAX := BA.alloc (.cells #[.int .i64 tk.frm, .int .i64 tk.to, .int .i64 tk.cost] 55)
                  by_cases e5 : inB tk.cost = true
                  case neg =>
                    have e5' : inB tk.cost = false := by simpa using e5
                    have HF : Hid (turnAt N k = false) := by unfold Hid; rw [HTA.out, e5']; rfl
                    clear e5 hc BA BT BAX
                    go_wp2_with (go_at_call 39; refine (l1In_any _ _).mono ?_; rintro e w' ⟨rfl, rfl⟩)
                    go_ret
                    exact ⟨ret_bool (by unfold specValid; rw [allN_no (n := N.turns.length) (by rw [HZ.out.2.2.2]; exact hlt) HF.out]; simp), HW.out.trans (box1 _ _)⟩
                  go_wp2_with fail
                  refine (l1In_any _ _).mono ?_
                  rintro e w' ⟨rfl, rfl⟩
                  go_wp2_with fail
                  refine (l1WayAt_any B _ _ _ _ _ _ N.ways _ (by exact (I1.keep (HW.out.keeps B)).keep ((box1 _ _).keeps B))).mono ?_
                  rintro e w1 ⟨r1, rfl, hr1, hx⟩
                  have BA1 := BAX.next hx
                  have BT1 := BT.next hx
                  have HX1 : Hid (Nx wr w1) := (box1 _ _).trans hx
                  clear hx BA BT BAX k0 k1 k2 k3 k4 x0 x1 x2
                  by_cases e6 : hasW N.ways tk.frm = true
                  case neg =>
                    have e6' : hasW N.ways tk.frm = false := by simpa using e6
                    have HF : Hid (turnAt N k = false) := by unfold Hid; rw [HTA.out, e6']; simp
                    clear e6 hc
                    go_wp2
                    go_ret
                    exact ⟨ret_bool (by unfold specValid; rw [allN_no (n := N.turns.length) (by rw [HZ.out.2.2.2]; exact hlt) HF.out]; simp), HW.out.trans HX1.out⟩
                  have k0 := BA1.cell (i := 0) rfl
                  have k1 := BA1.cell (i := 1) rfl
                  have k2 := BA1.cell (i := 2) rfl
                  have k3 := BA1.cell (i := 3) rfl
                  have k4 := BA1.cell (i := 4) rfl
                  have l1 := BT1.cell (i := 1) rfl
                  go_wp2_with fail
                  refine (l1WayAt_any B _ _ _ _ _ _ N.ways _ (by exact (I1.keep (HW.out.keeps B)).keep (HX1.out.keeps B))).mono ?_
                  rintro e w2 ⟨r2, rfl, hr2, hx⟩
                  have BA2 := BA1.next hx
                  have BT2 := BT1.next hx
                  have HX2 : Hid (Nx wr w2) := HX1.out.trans hx
                  clear hx BA1 BT1 HX1 k0 k1 k2 k3 k4 l1
                  by_cases e7 : hasW N.ways tk.to = true
                  case neg =>
                    have e7' : hasW N.ways tk.to = false := by simpa using e7
                    have HF : Hid (turnAt N k = false) := by unfold Hid; rw [HTA.out, e7']; simp
                    clear e7 hc
                    go_wp2
                    go_ret
                    exact ⟨ret_bool (by unfold specValid; rw [allN_no (n := N.turns.length) (by rw [HZ.out.2.2.2]; exact hlt) HF.out]; simp), HW.out.trans HX2.out⟩
                  have HTA : Hid (turnAt N k = ascAt (ltT N.turns) k) := by unfold Hid; rw [HTA.out, e5, e6, e7]; rfl
                  by_cases hk : k = 0
                  · have HF : Hid (turnAt N k = true) := by unfold Hid; rw [HTA.out]; simp [ascAt, hk]
                    have hkp : decide (0 < k) = false := by simp; omega
                    have hkq : decide (0 < (k : Int)) = false := by simp; omega
                    clear hc hk
                    go_wp2
                    go_roundw
                    case rel => exact ⟨k + 1, by omega, by go_num, allTo_succ hrel HF.out, HN.out.trans HX2.out⟩
                    case measure => simp [intOf]; omega
                  · obtain ⟨j, rfl⟩ : ∃ j, k = j + 1 := ⟨k - 1, by omega⟩
                    obtain ⟨y0, y1, y2⟩ := hc j (by omega)
                    have HWW : Hid (Nx w w2) := HW.out.trans HX2.out
                    have y0 := cell_next HWW.out hb y0
                    have y1 := cell_next HWW.out hb y1
                    have y2 := cell_next HWW.out hb y2
                    have HLT : Hid (turnAt N (j + 1) = ltTn (tat N.turns j) tk) := by unfold Hid; rw [HTA.out, ascAt_succ]; unfold ltT; rw [HTT.out]
                    generalize tat N.turns j = tj at *
                    have k3 := BA2.cell (i := 3) rfl
                    have l0 := BT2.cell (i := 0) rfl
                    have l1 := BT2.cell (i := 1) rfl
                    have hwr2 := BT2.lt
                    have hbr : b < w2.heap.size := Nat.lt_of_lt_of_le hb HWW.out.size
                    have hwj := wrapJ j (by omega)
                    have hjl : (j : Int) < m3 := by omega
                    have hjp : decide (0 < (j : Int) + 1) = true := by rw [decide_eq_true_iff]; omega
                    clear hc hk BA2 BT2
                    by_cases f1 : tk.frm < tj.frm
                    · have HF : Hid (turnAt N (j + 1) = false) := by unfold Hid; rw [HLT.out]; simp [ltTn]; omega
                      have g1 : decide (tk.frm < tj.frm) = true := by simpa using f1
                      clear f1
                      go_wp2
                      go_ret
                      exact ⟨ret_bool (by unfold specValid; rw [allN_no (n := N.turns.length) (by rw [HZ.out.2.2.2]; exact hlt) HF.out]; simp), HWW.out.trans (box1 _ _)⟩
                    · have g1 : decide (tk.frm < tj.frm) = false := by simpa using f1
                      by_cases f2 : tk.frm = tj.frm
                      · have g2 : (tk.frm == tj.frm) = true := by simpa using f2
                        by_cases f3 : tk.to ≤ tj.to
                        · have HF : Hid (turnAt N (j + 1) = false) := by unfold Hid; rw [HLT.out]; simp [ltTn, f2]; omega
                          have g3 : decide (tk.to ≤ tj.to) = true := by simpa using f3
                          clear f1 f2 f3
                          go_wp2
                          go_ret
                          exact ⟨ret_bool (by unfold specValid; rw [allN_no (n := N.turns.length) (by rw [HZ.out.2.2.2]; exact hlt) HF.out]; simp), HWW.out.trans (box1 _ _)⟩
                        · have HF : Hid (turnAt N (j + 1) = true) := by unfold Hid; rw [HLT.out]; simp [ltTn, f2]; omega
                          have g3 : decide (tk.to ≤ tj.to) = false := by simpa using f3
                          clear f1 f2 f3
                          go_wp2
                          go_roundw
                          case rel => exact ⟨j + 1 + 1, by omega, by go_num, allTo_succ hrel HF.out, HN.out.trans (HX2.out.trans (box1 _ _))⟩
                          case measure => simp [intOf]; omega
                      · have g2 : (tk.frm == tj.frm) = false := by simpa using f2
                        have HF : Hid (turnAt N (j + 1) = true) := by unfold Hid; rw [HLT.out]; simp [ltTn]; omega
                        clear f1 f2
                        go_wp2
                        go_roundw
                        case rel => exact ⟨j + 1 + 1, by omega, by go_num, allTo_succ hrel HF.out, HN.out.trans (HX2.out.trans (box1 _ _))⟩
                        case measure => simp [intOf]; omega
                · have HA3 : Hid (allN N.turns.length (turnAt N) = true) := allN_yes (by rw [HZ.out.2.2.2]; omega) hrel
                  have hge : (m3 : Int) ≤ k := by omega
                  clear hk3 BA
                  go_wp2
                  go_ret
                  exact ⟨ret_bool (by unfold specValid; rw [HH.out, HA0.out, HA1.out, HED.out, HA2.out, HA3.out]; rfl), HW.out⟩
end Go.Proofs.YtedhchmigeooiaaDoor
