import Derived.Test.YtdjmlpgdaanipaaGE
namespace Go.Proofs.Ytdjmlpgdaanipaa
open Go.RowKit
set_option linter.unusedVariables false
set_option maxRecDepth 100000

/-- the cost of a path as far as its k-th arc -/
def costTo (G : Gr) (P : List Int) : Nat → Int
  | 0 => iat G.we (iat G.eo (iat P 0).toNat).toNat
  | k + 1 => costTo G P k + iat G.co (arcOf G (iat P k).toNat (iat P (k + 1))).toNat
def pathCost (G : Gr) (P : List Int) : Int := if validG G && isPath G P then costTo G P (P.length - 1) else -1
/-- what a path gives -/
structure IP (G : Gr) (P : List Int) : Prop where
  l0 : 0 < P.length
  l1 : P.length ≤ 10000
  b : ∀ i, i < P.length → 0 ≤ iat P i ∧ iat P i < G.eo.length
  s : iat G.sr (iat G.eo (iat P 0).toNat).toNat = iat P 0
  a : ∀ i, i + 1 < P.length → 0 ≤ arcOf G (iat P i).toNat (iat P (i + 1))
theorem ip_of {G : Gr} {P : List Int} (h : isPath G P = true) : IP G P := by
  simp only [isPath, Bool.and_eq_true, decide_eq_true_eq] at h
  obtain ⟨⟨h1, h2⟩, h3⟩ := h
  refine ⟨h1, h2, fun i hi => pOk_at rfl (allN_at h3 hi), ?_, fun i hi => ?_⟩
  · have := allN_at h3 h1
    simp only [pOk, pFits, Bool.and_eq_true, beq_iff_eq] at this
    exact this.2
  · have := allN_at h3 hi
    simp only [pOk, pFits, Bool.and_eq_true, decide_eq_true_eq] at this
    exact this.2
/-- the next arc of a path -/
theorem IP.arc {G : Gr} {P : List Int} (h : IP G P) (hG : VG G) {i : Nat} (hi : i + 1 < P.length) : ∃ u s a : Nat, iat P i = (u : Int) ∧ iat P (i + 1) = (s : Int) ∧ u < G.eo.length ∧ s < G.eo.length ∧ arcOf G u (s : Int) = (a : Int) ∧ a < G.tt.length := by
  obtain ⟨u, hu⟩ : ∃ u : Nat, iat P i = (u : Int) := ⟨(iat P i).toNat, by have := (h.b i (by omega)).1; omega⟩
  obtain ⟨s, hs⟩ : ∃ s : Nat, iat P (i + 1) = (s : Int) := ⟨(iat P (i + 1)).toNat, by have := (h.b (i + 1) hi).1; omega⟩
  have h1 := (h.b i (by omega)).2
  have h2 := (h.b (i + 1) hi).2
  have h3 := h.a i hi
  rw [hu, hs, Int.toNat_natCast] at h3
  obtain ⟨a, e1, _, _, e2, _⟩ := arcOf_some hG (by omega) h3
  exact ⟨u, s, a, hu, hs, by omega, by omega, e1, e2⟩
theorem costTo_bd {G : Gr} {P : List Int} (h : IP G P) (hG : VG G) {k : Nat} (hk : k < P.length) : 0 ≤ costTo G P k ∧ costTo G P k ≤ 1048576 + k * 3145728 := by
  induction k with
  | zero =>
    have h1 := h.b 0 hk
    have h2 := hG.eo (iat P 0).toNat (by omega)
    have h3 := hG.we (iat G.eo (iat P 0).toNat).toNat (by omega)
    show 0 ≤ iat G.we _ ∧ iat G.we _ ≤ _
    omega
  | succ k ih =>
    have h1 := ih (by omega)
    obtain ⟨u, s, a, hu, hs, _, _, ea, ha⟩ := h.arc hG hk
    have h2 := hG.co a ha
    unfold costTo
    rw [hu, hs, Int.toNat_natCast, ea, Int.toNat_natCast]
    push_cast
    omega

set_option maxHeartbeats 8000000 in
theorem specCost_any (B : Nat) (v0 v1 v2 v3 v4 v5 v6 vp : Value) (G : Gr) (P : List Int) (w : World) (h0 : HG B w v0 v1 v2 v3 v4 v5 v6 G) (hp : HInts B w vp P) :
    Calls Try.prog 21 #[.agg #[v0, v1, v2, v3, v4, v5, v6], vp] w fun e w' => e = .returned (.int .i64 (pathCost G P)) ∧ Nx w w' := by
  have HH : Hid (HG B w v0 v1 v2 v3 v4 v5 v6 G) := h0
  have HP : Hid (HInts B w vp P) := hp
  obtain ⟨⟨a0, c0, rfl, hn0, hk0⟩, ⟨a1, c1, rfl, hn1, hk1⟩, ⟨a2, c2, rfl, hn2, hk2⟩, ⟨a3, c3, rfl, hn3, hk3⟩, ⟨a4, c4, rfl, hn4, hk4⟩, ⟨a5, c5, rfl, hn5, hk5⟩, ⟨a6, c6, rfl, hn6, hk6⟩⟩ := h0
  obtain ⟨a7, c7, rfl, hn7, hk7⟩ := hp
  unfold maxLen at hn0 hn1 hn2 hn3 hn4 hn5 hn6 hn7
  generalize hz0 : G.eo.length = n0 at *
  have Z0 : Hid (G.eo.length = n0) := hz0
  clear hz0
  generalize hz1 : G.so.length = n1 at *
  have Z1 : Hid (G.so.length = n1) := hz1
  clear hz1
  generalize hz2 : G.fi.length = n2 at *
  have Z2 : Hid (G.fi.length = n2) := hz2
  clear hz2
  generalize hz3 : G.tt.length = n3 at *
  have Z3 : Hid (G.tt.length = n3) := hz3
  clear hz3
  generalize hz4 : G.co.length = n4 at *
  have Z4 : Hid (G.co.length = n4) := hz4
  clear hz4
  generalize hz5 : G.sr.length = n5 at *
  have Z5 : Hid (G.sr.length = n5) := hz5
  clear hz5
  generalize hz6 : G.we.length = n6 at *
  have Z6 : Hid (G.we.length = n6) := hz6
  clear hz6
  generalize hz7 : P.length = n7 at *
  have Z7 : Hid (P.length = n7) := hz7
  clear hz7
  go_enter Try.func21, Try.ntmps21
  go_wp2_with fail
  refine (specValidG_any B _ _ _ _ _ _ _ G _ (by exact HH.out.next (box1 _ _))).mono ?_
  rintro e w1 ⟨rfl, hx⟩
  have BA := (Blk.new w #[.slice a0 n0 c0, .slice a1 n1 c1, .slice a2 n2 c2, .slice a3 n3 c3, .slice a4 n4 c4, .slice a5 n5 c5, .slice a6 n6 c6] 27 _ rfl).next hx
  have HX : Hid (Nx w w1) := (box1 _ _).trans hx
  clear hx
  cases hvb : validG G
  case false =>
    have HF : Hid (-1 = pathCost G P) := by unfold Hid; simp [pathCost, hvb]
    go_wp2
    go_ret
    exact ⟨ret_int HF.out, HX.out⟩
  have HV : Hid (VG G) := vg_of hvb
  have k0 := BA.cell (i := 0) rfl
  have k1 := BA.cell (i := 1) rfl
  have k2 := BA.cell (i := 2) rfl
  have k3 := BA.cell (i := 3) rfl
  have k4 := BA.cell (i := 4) rfl
  have k5 := BA.cell (i := 5) rfl
  have k6 := BA.cell (i := 6) rfl
  go_wp2_with fail
  refine (l4IsPath_any B _ _ _ _ _ _ _ _ G P _ (by exact HH.out.next HX.out) (by exact HP.out.next HX.out) HV.out).mono ?_
  rintro e w2 ⟨rfl, hx⟩
  have BA2 := BA.next hx
  have HX2 : Hid (Nx w w2) := HX.out.trans hx
  clear hx BA HX k0 k1 k2 k3 k4 k5 k6
  cases hpb : isPath G P
  case false =>
    have HF : Hid (-1 = pathCost G P) := by unfold Hid; simp [pathCost, hpb]
    go_wp2
    go_ret
    exact ⟨ret_int HF.out, HX2.out⟩
  have HI : Hid (IP G P) := ip_of hpb
  have HC : Hid (pathCost G P = costTo G P (n7 - 1)) := by unfold Hid; simp [pathCost, hvb, hpb, Z7.out]
  have HCB : Hid (∀ k, k < n7 → 0 ≤ costTo G P k ∧ costTo G P k ≤ 1048576 + k * 3145728) := fun k hk => costTo_bd HI.out HV.out (by rw [Z7.out]; exact hk)
  have hl0 : 0 < n7 := by have := HI.out.l0; rw [Z7.out] at this; exact this
  have hl1 : n7 ≤ 10000 := by have := HI.out.l1; rw [Z7.out] at this; exact this
  have hl0' : (0 : Int) < n7 := by omega
  obtain ⟨b7, o7, ha7, _, hb7, hc7⟩ := hk7 hl0
  subst ha7
  obtain ⟨s, hs⟩ : ∃ s : Nat, iat P 0 = (s : Int) := ⟨(iat P 0).toNat, by have := (HI.out.b 0 (by rw [Z7.out]; exact hl0)).1; omega⟩
  have hsn : s < n0 := by have := (HI.out.b 0 (by rw [Z7.out]; exact hl0)).2; rw [Z0.out] at this; omega
  obtain ⟨e, he⟩ : ∃ e : Nat, iat G.eo s = (e : Int) := ⟨(iat G.eo s).toNat, by have := (HV.out.eo s (by rw [Z0.out]; exact hsn)).1; omega⟩
  have hen : e < n6 := by have h1 := (HV.out.eo s (by rw [Z0.out]; exact hsn)).2; have h2 := HV.out.lw; rw [Z6.out] at h2; omega
  have hen' : (e : Int) < n6 := by omega
  have hsn' : (s : Int) < n0 := by omega
  obtain ⟨b0, o0, ha0, _, hb0, hc0⟩ := hk0 (by omega)
  obtain ⟨b6, o6, ha6, _, hb6, hc6⟩ := hk6 (by omega)
  subst ha0 ha6
  have x0 : w.cell? ⟨b7, o7 + 0, none⟩ = some (.int .i64 (iat P 0)) := hc7 0 hl0
  rw [hs, Nat.add_zero] at x0
  have x0 := cell_next HX2.out hb7 x0
  have y0 : w.cell? ⟨b0, o0 + s, none⟩ = some (.int .i64 (iat G.eo s)) := hc0 s hsn
  rw [he] at y0
  have y0 := cell_next HX2.out hb0 y0
  have z0 := cell_next HX2.out hb6 (hc6 e hen)
  have k0 := BA2.cell (i := 0) rfl
  have k6 := BA2.cell (i := 6) rfl
  have HC0 : Hid (costTo G P 0 = iat G.we e) := by
    unfold Hid
    show iat G.we (iat G.eo (iat P 0).toNat).toNat = _
    rw [hs, Int.toNat_natCast, he, Int.toNat_natCast]
  have HC7 : Hid (∀ i, i < n7 → w.cell? ⟨b7, o7 + i, none⟩ = some (.int .i64 (iat P i))) := hc7
  clear hc7 hc0 hc6 hs he hk1 hk2 hk3 hk5 hvb hpb
  go_wp2
  go_quiet (fail)
  generalize hwq : World.drewN w2 nq = wq at *
  have HQ : Hid (Nx w2 wq) := by unfold Hid; rw [← hwq]; exact ⟨rfl, rfl, rfl, Nat.le_refl _, fun _ _ => rfl⟩
  have BQ := BA2.next HQ.out
  have HWq : Hid (Nx w wq) := HX2.out.trans HQ.out
  clear hwq BA2 x0 y0 z0 k0 k6
  go_wp2
  go_loopw [5, 6] (fun c i wr => ∃ k : Nat, k < n7 ∧ i = .int .i64 ((k : Int) + 1) ∧ c = .int .i64 (costTo G P k) ∧ Hid (Nx wq wr)) (fun _ i _ => n7 - (intOf i).toNat)
  case atStart => exact ⟨0, hl0, rfl, by rw [HC0.out], Nx.refl _⟩
  obtain ⟨k, hkn, rfl, rfl, HN⟩ := hrel
  have HW : Hid (Nx w wr) := HWq.out.trans HN.out
  by_cases hlt : k + 1 < n7
  · have hlt' : (k : Int) + 1 < n7 := by omega
    have hlk : (k : Int) < n7 := by omega
    have hwk := wrapJ k (by omega)
    obtain ⟨u, s', a, hu, hs', hun, hsn2, ea, ha⟩ := HI.out.arc HV.out (i := k) (by rw [Z7.out]; exact hlt)
    have ha3 : a < n4 := by have := HV.out.lc; rw [Z4.out] at this; omega
    have ha3' : (a : Int) < n4 := by omega
    have q0 := HCB.out k hkn
    have q1 := HCB.out (k + 1) hlt
    have HCS : Hid (costTo G P (k + 1) = costTo G P k + iat G.co a) := by
      unfold Hid
      show costTo G P k + iat G.co (arcOf G (iat P k).toNat (iat P (k + 1))).toNat = _
      rw [hu, hs', Int.toNat_natCast, ea, Int.toNat_natCast]
    rw [HCS.out] at q1
    obtain ⟨b4, o4, ha4, _, hb4, hc4⟩ := hk4 (by omega)
    subst ha4
    have BW := BQ.next HN.out
    have x0 : w.cell? ⟨b7, o7 + k, none⟩ = some (.int .i64 (iat P k)) := HC7.out k hkn
    have x1 : w.cell? ⟨b7, o7 + (k + 1), none⟩ = some (.int .i64 (iat P (k + 1))) := HC7.out (k + 1) hlt
    rw [hu] at x0
    rw [hs'] at x1
    have x0 := cell_regrown (cell_next HW.out hb7 x0)
    have x1 := cell_regrown (cell_next HW.out hb7 x1)
    have y0 := cell_regrown (cell_next HW.out hb4 (hc4 a ha3))
    have k0 := cell_regrown (BW.cell (i := 0) rfl)
    have k1 := cell_regrown (BW.cell (i := 1) rfl)
    have k2 := cell_regrown (BW.cell (i := 2) rfl)
    have k3 := cell_regrown (BW.cell (i := 3) rfl)
    have k4 := cell_regrown (BW.cell (i := 4) rfl)
    have k5 := cell_regrown (BW.cell (i := 5) rfl)
    have k6 := cell_regrown (BW.cell (i := 6) rfl)
    have CG : Hid (∀ d os, Calls Try.prog 36 #[.agg #[.slice (some ⟨b0, o0, none⟩) n0 c0, .slice a1 n1 c1, .slice a2 n2 c2, .slice a3 n3 c3, .slice (some ⟨b4, o4, none⟩) n4 c4, .slice a5 n5 c5, .slice (some ⟨b6, o6, none⟩) n6 c6], .int .i64 u, .int .i64 (s' : Int)] (Sort.grow (redrawn wr d) os) fun e w'' => e = .returned (.int .i64 (a : Int)) ∧ ∃ p : Regrown, w'' = Sort.grow (redrawn wr p.d) p.os) := by
      intro d os
      rw [← ea]
      exact Calls.regrown_of (l4Arc_any B _ _ _ _ _ _ _ G u (s' : Int) _ ((HH.out.next HW.out).next (below_regrown wr d os)) HV.out hun)
    generalize costTo G P k = ck at *
    generalize iat G.co a = ca at *
    clear hc4 BW hu hs' ea ha hun hsn2
    have hwc : IntKind.i64.wrap (ck + ca) = ck + ca := by rw [IntKind.wrap_i64]; omega
    go_wp2
    refine wp_region_quiet_below (by kernel_rfl) (by kernel_rfl) ?_
    repeat (go_big_quiet_step (exact CG.out _ _))
    refine wpQuiet_nil ?_
    intro _ hw'
    obtain ⟨⟨dq, osq⟩, hw''⟩ := hw'
    subst hw''
    have HB : Hid (Nx wr (Sort.grow (redrawn wr dq) osq)) := below_regrown wr dq osq
    go_wp2
    go_roundw
    case rel => exact ⟨k + 1, hlt, by go_num, by rw [HCS.out], HN.out.trans HB.out⟩
    case measure => simp [intOf]; omega
  have ek : n7 = k + 1 := by omega
  have HF : Hid (costTo G P k = pathCost G P) := by unfold Hid; rw [HC.out, ek]; rfl
  have hlt' : ¬ (k : Int) + 1 < n7 := by omega
  clear hlt
  go_wp2
  go_ret
  exact ⟨ret_int HF.out, HW.out⟩
end Go.Proofs.Ytdjmlpgdaanipaa
