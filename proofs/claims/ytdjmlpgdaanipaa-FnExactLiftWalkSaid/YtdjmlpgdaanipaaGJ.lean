import Derived.Test.YtdjmlpgdaanipaaGH
namespace Go.Proofs.Ytdjmlpgdaanipaa
open Go.RowKit Go.Sort
set_option linter.unusedVariables false
set_option maxRecDepth 100000

def condL (G : Gr) (u : Nat) (e : Int) (v : Nat) : Bool := iat G.eo v == e && decide (0 ≤ arcOf G u (v : Int))
theorem stepL_none {G : Gr} {u : Nat} {e : Int} {m : Nat} (h : ∀ v, v < m → condL G u e v = false) : stepL G u e m = -1 := by
  induction m with
  | zero => rfl
  | succ m ih =>
    unfold stepL
    rw [if_neg (by have := h m (Nat.lt_succ_self _); unfold condL at this; rw [this]; simp)]
    exact ih fun v hv => h v (by omega)
theorem stepL_one {G : Gr} {u : Nat} {e : Int} {m s : Nat} (hs : s < m) (hc : condL G u e s = true) (h : ∀ v, v < m → v ≠ s → condL G u e v = false) : stepL G u e m = (s : Int) := by
  induction m with
  | zero => omega
  | succ m ih =>
    unfold stepL
    by_cases c : m = s
    · subst c; rw [if_pos (by unfold condL at hc; exact hc)]
    · rw [if_neg (by have := h m (Nat.lt_succ_self _) c; unfold condL at this; rw [this]; simp)]
      exact ih (by omega) fun v hv hn => h v (by omega) hn
theorem lift_step {G : Gr} (h : VG G) {u : Nat} (hu : u < G.eo.length) (e : Int) :
    (arcF G u e = true ∧ ∃ a s : Nat, arcR G u e = (a : Int) ∧ a < G.tt.length ∧ iat G.tt a = (s : Int) ∧ s < G.eo.length ∧ stepL G u e G.eo.length = (s : Int)) ∨
    (arcF G u e = false ∧ stepL G u e G.eo.length = -1) := by
  have E1 := (fst_eq h (v := u + 1) (by omega)).2
  obtain ⟨t1, t2⟩ := arcT_at h hu e
  cases hf : arcF G u e
  · refine Or.inr ⟨rfl, stepL_none fun v hv => ?_⟩
    unfold condL
    by_cases c : iat G.eo v = e
    · by_cases d : 0 ≤ arcOf G u (v : Int)
      · obtain ⟨b, _, hb1, hb2, _, hb3⟩ := arcOf_some h hu d
        exact absurd ((goal_tt hb3).trans c) (t2 hf b hb1 hb2)
      · simp [d]
    · simp [c]
  · obtain ⟨a, e1, e2, e3, e4⟩ := t1 hf
    have ht := h.tt a (by omega)
    obtain ⟨s, hs⟩ : ∃ s : Nat, iat G.tt a = (s : Int) := ⟨(iat G.tt a).toNat, by omega⟩
    have hse : iat G.eo s = e := (goal_tt hs).symm.trans e4
    refine Or.inl ⟨rfl, a, s, e1, by omega, hs, by omega, stepL_one (by omega) ?_ fun v hv hn => ?_⟩
    · unfold condL
      rw [arc_hit h hu e2 e3 hs]
      simp [hse]
    · unfold condL
      by_cases c : iat G.eo v = e
      · by_cases d : 0 ≤ arcOf G u (v : Int)
        · obtain ⟨b, _, hb1, hb2, _, hb3⟩ := arcOf_some h hu d
          have hg := (goal_tt hb3).trans c
          exfalso
          by_cases c1 : b < a
          · have := goal_mono h hu hb1 c1 e3; omega
          · by_cases c2 : b = a
            · subst c2; rw [hs] at hb3; omega
            · have := goal_mono h hu e2 (show a < b by omega) hb2; omega
        · simp [d]
      · simp [c]
/-- a path under way -/
structure LK (G : Gr) (P : List Int) (k : Nat) (p : List Int) : Prop where
  e : liftK G P k = some p
  l : p.length = k + 1
  b : ∀ i, i < k + 1 → 0 ≤ iat p i ∧ iat p i < G.eo.length
theorem LK.go {G : Gr} {P : List Int} {k : Nat} {p : List Int} (h : LK G P k p) {u s : Nat} (hu : iat p k = (u : Int)) (hs : stepL G u (iat P (k + 1)) G.eo.length = (s : Int)) (hn : s < G.eo.length) : LK G P (k + 1) (p ++ [(s : Int)]) := by
  refine ⟨?_, by rw [List.length_append, h.l]; rfl, fun i hi => ?_⟩
  · have := liftK_go h.e (by rw [hu, Int.toNat_natCast, hs]; omega)
    rw [hu, Int.toNat_natCast, hs] at this
    exact this
  · by_cases c : i < k + 1
    · rw [iat_snoc (by rw [h.l]; exact c)]; exact h.b i c
    · rw [iat_end (by rw [h.l]; omega)]; omega
theorem LK.stop {G : Gr} {P : List Int} {k m : Nat} {p : List Int} (h : LK G P k p) {u : Nat} (hu : iat p k = (u : Int)) (hs : stepL G u (iat P (k + 1)) G.eo.length = -1) (hm : k < m) : (liftK G P m).getD [] = [] := by
  have := liftK_stop h.e (by rw [hu, Int.toNat_natCast, hs]; omega)
  have := liftK_none (d := m - (k + 1)) this
  rw [show k + 1 + (m - (k + 1)) = m by omega] at this
  rw [this]; rfl


set_option maxHeartbeats 8000000 in
theorem implLift_any (B : Nat) (v0 v1 v2 v3 v4 v5 v6 vp : Value) (G : Gr) (P : List Int) (w : World) (h0 : HG B w v0 v1 v2 v3 v4 v5 v6 G) (hp : HInts B w vp P) (hpc : CapOk vp) (hs : SmallG G) (hl : P.length ≤ 1048576) :
    Calls Try.prog 14 #[.agg #[v0, v1, v2, v3, v4, v5, v6], vp] w fun e w' => (∃ v, e = .returned v ∧ OwnI w.heap.size w' v (liftWalk G P)) ∧ Nx w w' := by
  obtain ⟨ii, hi, hz0, hz1, hz2⟩ := info_parts infoInt
  have HS : Hid (SmallG G) := hs
  clear hs
  have HH : Hid (HG B w v0 v1 v2 v3 v4 v5 v6 G) := h0
  have HP : Hid (HInts B w vp P) := hp
  obtain ⟨⟨a0, c0, rfl, hn0, hk0⟩, ⟨a1, c1, rfl, hn1, hk1⟩, ⟨a2, c2, rfl, hn2, hk2⟩, ⟨a3, c3, rfl, hn3, hk3⟩, ⟨a4, c4, rfl, hn4, hk4⟩, ⟨a5, c5, rfl, hn5, hk5⟩, ⟨a6, c6, rfl, hn6, hk6⟩⟩ := h0
  obtain ⟨a7, c7, rfl, hn7, hk7⟩ := hp
  unfold maxLen at hn0 hn1 hn2 hn3 hn4 hn5 hn6 hn7
  obtain ⟨a', n', c', e, hcp⟩ := hpc
  simp only [Value.slice.injEq] at e
  obtain ⟨rfl, rfl, rfl⟩ := e
  generalize hz0 : G.eo.length = n0 at *
  have Z0 : Hid (G.eo.length = n0) := hz0
  clear hz0
  generalize hz1 : G.so.length = n1 at *
  have Z1 : Hid (G.so.length = n1) := hz1
  clear hz1
  generalize hz2 : G.fi.length = n2 at *
  have Z2 : Hid (G.fi.length = n2) := hz2
  clear hz2
  generalize hz3 : G.tt.length = n3 at *
  have Z3 : Hid (G.tt.length = n3) := hz3
  clear hz3
  generalize hz4 : G.co.length = n4 at *
  have Z4 : Hid (G.co.length = n4) := hz4
  clear hz4
  generalize hz5 : G.sr.length = n5 at *
  have Z5 : Hid (G.sr.length = n5) := hz5
  clear hz5
  generalize hz6 : G.we.length = n6 at *
  have Z6 : Hid (G.we.length = n6) := hz6
  clear hz6
  generalize hz7 : P.length = n7 at *
  have Z7 : Hid (P.length = n7) := hz7
  clear hz7
  have HLD : Hid (liftWalk G P = if (validG G && (decide (0 < n7) && (decide (n7 ≤ 10000) && inZ (iat P 0) n5))) = true then (liftK G P (n7 - 1)).getD [] else []) := by
    unfold Hid inZ
    rw [← Z7.out, ← Z5.out]
    rfl
  go_enter Try.func14, Try.ntmps14
  go_upto_region 1 with fail
  generalize hW0 : (w.alloc (.cells #[.slice a0 n0 c0, .slice a1 n1 c1, .slice a2 n2 c2, .slice a3 n3 c3, .slice a4 n4 c4, .slice a5 n5 c5, .slice a6 n6 c6] 27)) = W0 at *
  have HW0 : Hid (Nx w W0) := by unfold Hid; rw [← hW0]; exact box1 _ _
  have HZ0 : Hid (w.heap.size + 1 ≤ W0.heap.size) := by unfold Hid; rw [← hW0, size_box1]; exact Nat.le_refl _
  have BA : Blk W0 w.heap.size #[.slice a0 n0 c0, .slice a1 n1 c1, .slice a2 n2 c2, .slice a3 n3 c3, .slice a4 n4 c4, .slice a5 n5 c5, .slice a6 n6 c6] := by rw [← hW0]; exact Blk.new w #[.slice a0 n0 c0, .slice a1 n1 c1, .slice a2 n2 c2, .slice a3 n3 c3, .slice a4 n4 c4, .slice a5 n5 c5, .slice a6 n6 c6] 27 _ rfl
  have HBA : Hid (Blk W0 w.heap.size #[.slice a0 n0 c0, .slice a1 n1 c1, .slice a2 n2 c2, .slice a3 n3 c3, .slice a4 n4 c4, .slice a5 n5 c5, .slice a6 n6 c6]) := BA
  clear hW0
  have CG : Hid (∀ d os, Calls Try.prog 10 #[.agg #[.slice a0 n0 c0, .slice a1 n1 c1, .slice a2 n2 c2, .slice a3 n3 c3, .slice a4 n4 c4, .slice a5 n5 c5, .slice a6 n6 c6]] (Sort.grow (redrawn W0 d) os) fun e w'' => e = .returned (.bool (validG G)) ∧ ∃ p : Regrown, w'' = Sort.grow (redrawn W0 p.d) p.os) :=
    fun d os => Calls.regrown_of (implValidG_any B _ _ _ _ _ _ _ G _ ((HH.out.next HW0.out).next (below_regrown W0 d os)) HS.out)
  have CW : Hid (∀ d os, Calls Try.prog 32 #[.int .i64 (iat P 0), .int .i64 (n5 : Int)] (Sort.grow (redrawn W0 d) os) fun e w'' => e = .returned (.bool (inZ (iat P 0) n5)) ∧ ∃ p : Regrown, w'' = Sort.grow (redrawn W0 p.d) p.os) :=
    fun d os => Calls.regrown_of (withinN_any _ _ _ (by omega) (by omega))
  have K0 := cell_regrown (BA.cell (i := 0) rfl)
  have K1 := cell_regrown (BA.cell (i := 1) rfl)
  have K2 := cell_regrown (BA.cell (i := 2) rfl)
  have K3 := cell_regrown (BA.cell (i := 3) rfl)
  have K4 := cell_regrown (BA.cell (i := 4) rfl)
  have K5 := cell_regrown (BA.cell (i := 5) rfl)
  have K6 := cell_regrown (BA.cell (i := 6) rfl)
  clear BA
  cases hvb : validG G
  case false =>
    rw [hvb] at CG HLD
    have HF : Hid (liftWalk G P = []) := by unfold Hid; rw [HLD.out]; rfl
    clear hk0 hk1 hk2 hk3 hk4 hk5 hk6 hk7 HLD
    go_wp2
    refine wp_region_quiet_below (by kernel_rfl) (by kernel_rfl) ?_
    repeat (go_big_quiet_step (first | with_reducible exact CG.out _ _ | with_reducible exact CW.out _ _))
    refine wpQuiet_nil ?_
    intro _ hw'
    obtain ⟨⟨dq, osq⟩, hw''⟩ := hw'
    subst hw''
    have HB : Hid (Nx W0 (Sort.grow (redrawn W0 dq) osq)) := below_regrown W0 dq osq
    generalize hwq : Sort.grow (redrawn W0 dq) osq = wq at *
    clear hwq
    go_wp2
    go_ret
    exact ⟨⟨_, rfl, by rw [HF.out]; exact ownI_nil _ _⟩, HW0.out.trans HB.out⟩
  have HV : Hid (VG G) := vg_of hvb
  rw [hvb] at CG HLD
  clear hvb
  by_cases g1 : 0 < n7
  case neg =>
    have e1 : n7 = 0 := by omega
    subst e1
    have HF : Hid (liftWalk G P = []) := by unfold Hid; rw [HLD.out]; simp
    clear g1 hk0 hk1 hk2 hk3 hk4 hk5 hk6 hk7 HLD
    go_wp2
    refine wp_region_quiet_below (by kernel_rfl) (by kernel_rfl) ?_
    repeat (go_big_quiet_step (first | with_reducible exact CG.out _ _ | with_reducible exact CW.out _ _))
    refine wpQuiet_nil ?_
    intro _ hw'
    obtain ⟨⟨dq, osq⟩, hw''⟩ := hw'
    subst hw''
    have HB : Hid (Nx W0 (Sort.grow (redrawn W0 dq) osq)) := below_regrown W0 dq osq
    generalize hwq : Sort.grow (redrawn W0 dq) osq = wq at *
    clear hwq
    go_wp2
    go_ret
    exact ⟨⟨_, rfl, by rw [HF.out]; exact ownI_nil _ _⟩, HW0.out.trans HB.out⟩
  by_cases g2 : n7 ≤ 10000
  case neg =>
    have f1 : ((n7 : Int) == 0) = false := by simp; omega
    have f2 : decide (10000 < (n7 : Int)) = true := by simp; omega
    have HF : Hid (liftWalk G P = []) := by unfold Hid; rw [HLD.out]; simp [g2]
    clear g1 g2 hk0 hk1 hk2 hk3 hk4 hk5 hk6 hk7 HLD
    go_wp2
    refine wp_region_quiet_below (by kernel_rfl) (by kernel_rfl) ?_
    repeat (go_big_quiet_step (first | with_reducible exact CG.out _ _ | with_reducible exact CW.out _ _))
    refine wpQuiet_nil ?_
    intro _ hw'
    obtain ⟨⟨dq, osq⟩, hw''⟩ := hw'
    subst hw''
    have HB : Hid (Nx W0 (Sort.grow (redrawn W0 dq) osq)) := below_regrown W0 dq osq
    generalize hwq : Sort.grow (redrawn W0 dq) osq = wq at *
    clear hwq
    go_wp2
    go_ret
    exact ⟨⟨_, rfl, by rw [HF.out]; exact ownI_nil _ _⟩, HW0.out.trans HB.out⟩
  obtain ⟨m, rfl⟩ : ∃ m, n7 = m + 1 := ⟨n7 - 1, by omega⟩
  have f1 : ((m : Int) + 1 == 0) = false := by simp; omega
  have f2 : decide (10000 < (m : Int) + 1) = false := by simp; omega
  have hm0 : (0 : Int) < (m : Int) + 1 := by omega
  obtain ⟨b7, o7, rfl, _, hb7, hc7⟩ := hk7 (by omega)
  have x0' : w.cell? ⟨b7, o7, none⟩ = some (.int .i64 (iat P 0)) := hc7 0 (by omega)
  have HC7 : Hid (∀ i, i < m + 1 → w.cell? ⟨b7, o7 + i, none⟩ = some (.int .i64 (iat P i))) := hc7
  have HB7 : Hid (b7 < w.heap.size) := hb7
  have HLE : Hid (liftWalk G P = if (inZ (iat P 0) n5) = true then (liftK G P m).getD [] else []) := by
    unfold Hid
    rw [HLD.out]
    simp [g2]
  clear HLD g1 hc7
  cases g3 : inZ (iat P 0) n5
  case false =>
    rw [g3] at CW HLE
    have HF : Hid (liftWalk G P = []) := by unfold Hid; rw [HLE.out]; rfl
    have x0 := cell_regrown (cell_next HW0.out HB7.out x0')
    clear x0' g3 hk0 hk1 hk2 hk3 hk4 hk5 hk6 hk7 HLE
    go_wp2
    refine wp_region_quiet_below (by kernel_rfl) (by kernel_rfl) ?_
    repeat (go_big_quiet_step (first | with_reducible exact CG.out _ _ | with_reducible exact CW.out _ _))
    refine wpQuiet_nil ?_
    intro _ hw'
    obtain ⟨⟨dq, osq⟩, hw''⟩ := hw'
    subst hw''
    have HB : Hid (Nx W0 (Sort.grow (redrawn W0 dq) osq)) := below_regrown W0 dq osq
    generalize hwq : Sort.grow (redrawn W0 dq) osq = wq at *
    clear hwq
    go_wp2
    go_ret
    exact ⟨⟨_, rfl, by rw [HF.out]; exact ownI_nil _ _⟩, HW0.out.trans HB.out⟩
  rw [g3] at CW HLE
  have HLW : Hid (liftWalk G P = (liftK G P m).getD []) := by unfold Hid; rw [HLE.out]; rfl
  obtain ⟨s, hs⟩ : ∃ s : Nat, iat P 0 = (s : Int) := ⟨(iat P 0).toNat, by have := inZ_at g3; omega⟩
  have hsn : s < n5 := by have := inZ_at g3; omega
  have hsn' : (s : Int) < n5 := by omega
  rw [hs] at x0' CW
  obtain ⟨b5, o5, ha5, _, hb5, hc5⟩ := hk5 (by omega)
  have HL0 : Hid (LK G P 0 [iat G.sr s]) := by
    have hq := HV.out.sr s (by rw [Z5.out]; exact hsn)
    refine ⟨by unfold liftK; rw [hs, Int.toNat_natCast], rfl, fun i hi => ?_⟩
    have e : i = 0 := by omega
    subst e
    exact ⟨hq.1, hq.2.1⟩
  have x0 := cell_regrown (cell_next HW0.out HB7.out x0')
  have hy' := hc5 s hsn
  have HY : Hid (w.cell? ⟨b5, o5 + s, none⟩ = some (.int .i64 (iat G.sr s))) := hy'
  have HX0 : Hid (w.cell? ⟨b7, o7, none⟩ = some (.int .i64 (s : Int))) := x0'
  have HB5 : Hid (b5 < w.heap.size) := hb5
  subst ha5
  clear x0' hs g3 hk0 hk1 hk2 hk4 hk5 hk6 hk7 HLE hy' hc5 hb5 hb7
  go_wp2
  refine wp_region_quiet_below (by kernel_rfl) (by kernel_rfl) ?_
  repeat (go_big_quiet_step (first | with_reducible exact CG.out _ _ | with_reducible exact CW.out _ _))
  refine wpQuiet_nil ?_
  intro _ hw'
  obtain ⟨⟨dq, osq⟩, hw''⟩ := hw'
  subst hw''
  have HB : Hid (Nx W0 (Sort.grow (redrawn W0 dq) osq)) := below_regrown W0 dq osq
  generalize hwq : Sort.grow (redrawn W0 dq) osq = wq at *
  clear hwq
  have HX1 : Hid (Nx w wq) := HW0.out.trans HB.out
  have HBQ : Hid (Blk wq w.heap.size #[.slice a0 n0 c0, .slice a1 n1 c1, .slice a2 n2 c2, .slice a3 n3 c3, .slice a4 n4 c4, .slice (some ⟨b5, o5, none⟩) n5 c5, .slice a6 n6 c6]) := HBA.out.next HB.out
  have HZ1 : Hid (w.heap.size + 1 ≤ wq.heap.size) := Nat.le_trans HZ0.out HB.out.size
  have x1 := cell_next HX1.out HB7.out HX0.out
  have y1 := cell_next HX1.out HB5.out HY.out
  have k5 := HBQ.out.cell (i := 5) rfl
  generalize iat G.sr s = v0 at *
  clear HB HBA HW0 HZ0 CG CW K0 K1 K2 K3 K4 K5 K6 x0 HX0 HY
  go_wp2
  go_region
  have HO2 : Hid (OwnI (w.heap.size + 1) (wq.alloc (.cells #[.int .i64 v0] 2)).drew (.slice (some ⟨wq.heap.size, 0, none⟩) 1 1) [v0]) := (ownI_one (w.heap.size + 1) wq v0 HZ1.out).drew
  have HX2 : Hid (Nx w (wq.alloc (.cells #[.int .i64 v0] 2)).drew) := (HX1.out.alloc _).drew
  have BA2 : Blk (wq.alloc (.cells #[.int .i64 v0] 2)).drew w.heap.size #[.slice a0 n0 c0, .slice a1 n1 c1, .slice a2 n2 c2, .slice a3 n3 c3, .slice a4 n4 c4, .slice (some ⟨b5, o5, none⟩) n5 c5, .slice a6 n6 c6] := HBQ.out.alloc (.cells #[.int .i64 v0] 2)
  have HZ2 : Hid (w.heap.size + 1 ≤ (wq.alloc (.cells #[.int .i64 v0] 2)).drew.heap.size) := Nat.le_trans HZ1.out (box1 wq (.cells #[.int .i64 v0] 2)).size
  generalize hw2 : (wq.alloc (.cells #[.int .i64 v0] 2)).drew = w2 at *
  clear hw2 HX1 HBQ HZ1 x1 y1 k5
  by_cases hck : c7 = 1
  · subst hck
    have em : m = 0 := by omega
    subst em
    go_wp2
    go_loopw [5, 44] (fun v i wr => ∃ (k : Nat) (p : List Int), k ≤ 0 ∧ i = .int .i64 k ∧ Hid (OwnI (w.heap.size + 1) wr v p) ∧ Hid (LK G P k p) ∧ Hid (Below (w.heap.size + 1) w2 wr)) (fun _ i _ => 0 - (intOf i).toNat)
    case atStart => exact ⟨0, _, Nat.zero_le _, rfl, HO2, HL0, Below.refl _ _⟩
    obtain ⟨k, p, hkn, rfl, HO, HLK, HN⟩ := hrel
    have HW : Hid (Nx w wr) := Below.trans HX2.out (Below.mono HN.out (Nat.le_succ _))
    by_cases hlt : k < 0
    · omega
    have ek : k = 0 := by omega
    subst ek
    have HF : Hid (liftWalk G P = p) := by unfold Hid; rw [HLW.out, HLK.out.e]; rfl
    clear HLW
    go_wp2
    go_ret
    exact ⟨⟨_, rfl, by rw [HF.out]; exact HO.out.base (Nat.le_succ _)⟩, HW.out⟩
  · skip
    go_wp2
    go_loopw [5, 44] (fun v i wr => ∃ (k : Nat) (p : List Int), k ≤ m ∧ i = .int .i64 k ∧ Hid (OwnI (w.heap.size + 1) wr v p) ∧ Hid (LK G P k p) ∧ Hid (Below (w.heap.size + 1) w2 wr)) (fun _ i _ => m - (intOf i).toNat)
    case atStart => exact ⟨0, _, Nat.zero_le _, rfl, HO2, HL0, Below.refl _ _⟩
    obtain ⟨k, p, hkn, rfl, HO, HLK, HN⟩ := hrel
    have HW : Hid (Nx w wr) := Below.trans HX2.out (Below.mono HN.out (Nat.le_succ _))
    by_cases hlt : k < m
    · have hlt' : (k : Int) < m := by omega
      have hp0 := HLK.out.b k (Nat.lt_succ_self _)
      rw [Z0.out] at hp0
      obtain ⟨u, hu⟩ : ∃ u : Nat, iat p k = (u : Int) := ⟨(iat p k).toNat, by omega⟩
      have hun : u < n0 := by omega
      have BW := BA2.below HN.out (Nat.lt_succ_self _)
      have xs' : w.cell? ⟨b7, o7 + 1 + k, none⟩ = some (.int .i64 (iat P (k + 1))) := by have := HC7.out (k + 1) (by omega); rw [show o7 + 1 + k = o7 + (k + 1) by omega]; exact this
      have xs := cell_next HW.out HB7.out xs'
      have hpl := HLK.out.l
      obtain ⟨av, cv, hvs⟩ := HO.out.slice
      rw [hpl] at hvs
      subst hvs
      obtain ⟨gv, hgv, hgc⟩ := OwnI.cell HO.out (i := k) (by omega)
      rw [hu] at hgc
      subst hgv
      have CG : Hid (∀ d os, Calls Try.prog 33 #[.agg #[.slice a0 n0 c0, .slice a1 n1 c1, .slice a2 n2 c2, .slice a3 n3 c3, .slice a4 n4 c4, .slice (some ⟨b5, o5, none⟩) n5 c5, .slice a6 n6 c6], .int .i64 u, .int .i64 (iat P (k + 1))] (Sort.grow (redrawn wr d) os) fun e w'' => e = .returned (.tuple #[.int .i64 (arcR G u (iat P (k + 1))), .bool (arcF G u (iat P (k + 1)))]) ∧ ∃ p : Regrown, w'' = Sort.grow (redrawn wr p.d) p.os) :=
        fun d os => Calls.regrown_of (arcTo_any B _ _ _ _ _ _ _ G u (iat P (k + 1)) _ ((HH.out.next HW.out).next (below_regrown wr d os)) HV.out (by rw [Z0.out]; exact hun))
      have HAL := lift_step HV.out (u := u) (by rw [Z0.out]; exact hun) (iat P (k + 1))
      have HGO : Hid (∀ s : Nat, stepL G u (iat P (k + 1)) G.eo.length = (s : Int) → s < G.eo.length → LK G P (k + 1) (p ++ [(s : Int)])) := fun s h1 h2 => HLK.out.go hu h1 h2
      have HST : Hid (stepL G u (iat P (k + 1)) G.eo.length = -1 → liftWalk G P = []) := fun h1 => by rw [HLW.out]; exact HLK.out.stop hu h1 hlt
      have HBW : Hid (Blk wr w.heap.size #[.slice a0 n0 c0, .slice a1 n1 c1, .slice a2 n2 c2, .slice a3 n3 c3, .slice a4 n4 c4, .slice (some ⟨b5, o5, none⟩) n5 c5, .slice a6 n6 c6]) := BW
      have hkl : (k : Int) < (k : Int) + 1 := by omega
      have xr := cell_regrown hgc
      have K0 := cell_regrown (BW.cell (i := 0) rfl)
      have K1 := cell_regrown (BW.cell (i := 1) rfl)
      have K2 := cell_regrown (BW.cell (i := 2) rfl)
      have K3 := cell_regrown (BW.cell (i := 3) rfl)
      have K4 := cell_regrown (BW.cell (i := 4) rfl)
      have K5 := cell_regrown (BW.cell (i := 5) rfl)
      have K6 := cell_regrown (BW.cell (i := 6) rfl)
      clear xs' BW hgc hu hp0 hun
      generalize iat P (k + 1) = ed at *
      generalize arcR G u ed = ra at *
      generalize arcF G u ed = fa at *
      go_wp2
      refine wp_region_quiet_below (by kernel_rfl) (by kernel_rfl) ?_
      repeat (go_big_quiet_step (exact CG.out _ _))
      refine wpQuiet_nil ?_
      intro _ hw'
      obtain ⟨⟨dq, osq⟩, hw''⟩ := hw'
      subst hw''
      have HB : Hid (Nx wr (Sort.grow (redrawn wr dq) osq)) := below_regrown wr dq osq
      generalize hwq : Sort.grow (redrawn wr dq) osq = wq at *
      clear hwq
      have HWQ : Hid (Nx w wq) := HW.out.trans HB.out
      have HNQ : Hid (Below (w.heap.size + 1) w2 wq) := Below.trans HN.out (Below.mono HB.out (by have := HN.out.size; have := HZ2.out; omega))
      have HOQ : Hid (OwnI (w.heap.size + 1) wq (.slice (some ⟨gv, 0, none⟩) (k + 1) cv) p) := HO.out.next HB.out
      have HZQ : Hid (w.heap.size + 1 ≤ wq.heap.size) := Nat.le_trans HZ2.out HNQ.out.size
      have q3 := (HBW.out.next HB.out).cell (i := 3) rfl
      clear HBW HB HN HO HW CG K0 K1 K2 K3 K4 K5 K6 xr xs
      rcases HAL with ⟨hfa, a, s, hra, han, hta, hsn, hsl⟩ | ⟨hfa, hsl⟩
      · subst hfa hra
        have HL1 : Hid (LK G P (k + 1) (p ++ [(s : Int)])) := HGO.out s hsl hsn
        rw [Z3.out] at han
        obtain ⟨b3, o3, ha3, _, hb3, hc3⟩ := hk3 (by omega)
        have z3' : w.cell? ⟨b3, o3 + a, none⟩ = some (.int .i64 (iat G.tt a)) := hc3 a han
        rw [hta] at z3'
        have z3 := cell_next HWQ.out hb3 z3'
        have han' : (a : Int) < n3 := by omega
        subst ha3
        clear hta hsl hsn z3' hc3 hk3 HGO HST
        go_wp2_with (at_builtin; refine wpList_append_own_at _ rfl _ _ 22 rfl (w.heap.size + 1) 2 ii (.int .i64 0) 1 8 Try.underlying22 hi hz0 hz1 hz2 rfl (by decide) _ _ _ rfl (World.ownsRow.alloc HOQ.out _) ⟨wq.heap.size, 0, none⟩ 1 1 [.int .i64 s] rfl rfl ?c1 ?c2 ?c3 ?c4 ?c5 ?_)
        case c1 => exact fun j u hj => new_cells wq _ _ _ rfl j u hj
        case c2 => intro u hu; simp at hu; subst hu; rfl
        case c3 => unfold maxLen; omega
        case c4 => omega
        case c5 => have := HZQ.out; simp; omega
        intro v8 w8 hown hgrow _ _
        have HV8 : Hid (OwnI (w.heap.size + 1) w8 v8 (p ++ [(s : Int)])) := by unfold Hid; exact OwnI.snoc (by rw [hpl]; exact hown)
        have HB8 : Hid (Below (w.heap.size + 1) w2 w8) := Below.grown (Below.alloc HNQ.out HZQ.out _) hgrow (by have := HZQ.out; simp; omega) (fun g hg => (own_lt HOQ.out g hg).1)
        clear hown hgrow
        go_wp2
        go_roundw
        case rel => exact ⟨k + 1, _, by omega, by go_num, HV8, HL1, HB8⟩
        case measure => simp [intOf]; omega
      · subst hfa
        have HF : Hid (liftWalk G P = []) := HST.out hsl
        clear hsl
        go_wp2
        go_ret
        exact ⟨⟨_, rfl, by rw [HF.out]; exact ownI_nil _ _⟩, HWQ.out⟩
    have ek : m = k := by omega
    subst ek
    have HF : Hid (liftWalk G P = p) := by unfold Hid; rw [HLW.out, HLK.out.e]; rfl
    clear HLW
    go_wp2
    go_ret
    exact ⟨⟨_, rfl, by rw [HF.out]; exact HO.out.base (Nat.le_succ _)⟩, HW.out⟩
end Go.Proofs.Ytdjmlpgdaanipaa
