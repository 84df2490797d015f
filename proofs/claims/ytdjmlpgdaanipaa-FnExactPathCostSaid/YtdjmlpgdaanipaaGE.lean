import Derived.Test.YtdjmlpgdaanipaaGD
namespace Go.Proofs.Ytdjmlpgdaanipaa
open Go.RowKit
set_option linter.unusedVariables false
set_option maxRecDepth 100000

def pFits (G : Gr) (P : List Int) : Nat → Bool
  | 0 => iat G.sr (iat G.eo (iat P 0).toNat).toNat == iat P 0
  | j + 1 => decide (0 ≤ arcOf G (iat P j).toNat (iat P (j + 1)))
def pOk (G : Gr) (P : List Int) (i : Nat) : Bool := decide (0 ≤ iat P i) && decide (iat P i < (G.eo.length : Int)) && pFits G P i
def isPath (G : Gr) (P : List Int) : Bool := decide (0 < P.length) && decide (P.length ≤ 10000) && allN P.length (pOk G P)
theorem ip_no {G : Gr} {P : List Int} {k n : Nat} (hn : P.length = n) (hk : k < n) (h : pOk G P k = false) : false = isPath G P := by subst hn; simp [isPath, allN_no hk h]
theorem ip_yes {G : Gr} {P : List Int} {n : Nat} (hn : P.length = n) (h0 : 0 < n) (h1 : n ≤ 10000) (h : allN n (pOk G P) = true) : true = isPath G P := by subst hn; simp [isPath, h0, h1, h]
theorem pOk_at {G : Gr} {P : List Int} {i n : Nat} (hn : G.eo.length = n) (h : pOk G P i = true) : 0 ≤ iat P i ∧ iat P i < n := by
  subst hn
  simp only [pOk, Bool.and_eq_true, decide_eq_true_eq] at h
  omega
theorem cellq {w w' : World} (k : Nx w w') {b o : Nat} {v : Value} (h : w.cell? ⟨b, o, none⟩ = some v) : w'.cell? ⟨b, o, none⟩ = some v := cell_next k (cell_lt h) h

set_option maxHeartbeats 8000000 in
theorem l4IsPath_any (B : Nat) (v0 v1 v2 v3 v4 v5 v6 vp : Value) (G : Gr) (P : List Int) (w : World) (h0 : HG B w v0 v1 v2 v3 v4 v5 v6 G) (hp : HInts B w vp P) (hG : VG G) :
    Calls Try.prog 34 #[.agg #[v0, v1, v2, v3, v4, v5, v6], vp] w fun e w' => e = .returned (.bool (isPath G P)) ∧ Nx w w' := by
  have HH : Hid (HG B w v0 v1 v2 v3 v4 v5 v6 G) := h0
  have HV : Hid (VG G) := hG
  obtain ⟨⟨a0, c0, rfl, hn0, hk0⟩, ⟨a1, c1, rfl, hn1, hk1⟩, ⟨a2, c2, rfl, hn2, hk2⟩, ⟨a3, c3, rfl, hn3, hk3⟩, ⟨a4, c4, rfl, hn4, hk4⟩, ⟨a5, c5, rfl, hn5, hk5⟩, ⟨a6, c6, rfl, hn6, hk6⟩⟩ := h0
  obtain ⟨a7, c7, rfl, hn7, hk7⟩ := hp
  unfold maxLen at hn0 hn1 hn2 hn3 hn4 hn5 hn6 hn7
  have hvv := hG.v
  clear hG
  generalize hz0 : G.eo.length = n0 at *
  have Z0 : Hid (G.eo.length = n0) := hz0
  clear hz0
  generalize hz1 : G.so.length = n1 at *
  have Z1 : Hid (G.so.length = n1) := hz1
  clear hz1
  generalize hz2 : G.fi.length = n2 at *
  have Z2 : Hid (G.fi.length = n2) := hz2
  clear hz2
  generalize hz3 : G.tt.length = n3 at *
  have Z3 : Hid (G.tt.length = n3) := hz3
  clear hz3
  generalize hz4 : G.co.length = n4 at *
  have Z4 : Hid (G.co.length = n4) := hz4
  clear hz4
  generalize hz5 : G.sr.length = n5 at *
  have Z5 : Hid (G.sr.length = n5) := hz5
  clear hz5
  generalize hz6 : G.we.length = n6 at *
  have Z6 : Hid (G.we.length = n6) := hz6
  clear hz6
  generalize hz7 : P.length = n7 at *
  have Z7 : Hid (P.length = n7) := hz7
  clear hz7
  by_cases e1 : 0 < n7
  case neg =>
    have e1' : n7 = 0 := by omega
    subst e1'
    have HF : Hid (false = isPath G P) := by unfold Hid; simp [isPath, Z7.out]
    go_enter Try.func34, Try.ntmps34
    go_wp2
    go_ret
    exact ⟨ret_bool HF.out, box1 _ _⟩
  have d1 : ((n7 : Int) == 0) = false := by simp; omega
  by_cases e2 : n7 ≤ 10000
  case neg =>
    have d2 : decide (10000 < (n7 : Int)) = true := by simp; omega
    have HF : Hid (false = isPath G P) := by unfold Hid; simp [isPath, Z7.out, e2]
    go_enter Try.func34, Try.ntmps34
    go_wp2
    go_ret
    exact ⟨ret_bool HF.out, box1 _ _⟩
  have d2 : decide (10000 < (n7 : Int)) = false := by simp; omega
  have HFB : Hid (∀ k, k < n7 → pOk G P k = false → false = isPath G P) := fun k hk h => ip_no Z7.out hk h
  have HE : Hid (∀ i, i < n0 → 0 ≤ iat G.eo i ∧ iat G.eo i < n5) := fun i hi => by have := HV.out.eo i (by rw [Z0.out]; exact hi); rw [Z5.out] at this; exact this
  go_enter Try.func34, Try.ntmps34
  go_wp2
  clear d1 d2
  go_loopw [5] (fun i wr => ∃ k : Nat, k ≤ n7 ∧ i = .int .i64 k ∧ Hid (allTo (pOk G P) k) ∧ Hid (Nx (w.alloc (.cells #[.slice a0 n0 c0, .slice a1 n1 c1, .slice a2 n2 c2, .slice a3 n3 c3, .slice a4 n4 c4, .slice a5 n5 c5, .slice a6 n6 c6] 27)) wr)) (fun i _ => n7 - (intOf i).toNat)
  case atStart => exact ⟨0, Nat.zero_le _, rfl, allTo_zero _, Nx.refl _⟩
  obtain ⟨k, hkn, rfl, HA, HN⟩ := hrel
  have BA := (Blk.new w #[.slice a0 n0 c0, .slice a1 n1 c1, .slice a2 n2 c2, .slice a3 n3 c3, .slice a4 n4 c4, .slice a5 n5 c5, .slice a6 n6 c6] 27 _ rfl).next HN.out
  have HW : Hid (Nx w wr) := (box1 _ _).trans HN.out
  by_cases hlt : k < n7
  · have hlt' : (k : Int) < n7 := by omega
    obtain ⟨b7, o7, ha7, _, hb7, hc7⟩ := hk7 (by omega)
    subst ha7
    have x0 := cell_next HW.out hb7 (hc7 k hlt)
    have k0 := BA.cell (i := 0) rfl
    have HPD : Hid (pOk G P k = (decide (0 ≤ iat P k) && decide (iat P k < (n0 : Int)) && pFits G P k)) := by unfold Hid; rw [← Z0.out]; rfl
    clear hk1 hk2 hk3 hk4 hk6 hk7
    by_cases g1 : iat P k < 0
    · have f1 : decide (iat P k < 0) = true := by simpa using g1
      have HF : Hid (false = isPath G P) := HFB.out k hlt (by rw [HPD.out]; simp; omega)
      clear hc7 g1 BA hk0 hk5
      go_wp2
      go_quiet (fail)
      go_wp2
      go_ret
      exact ⟨ret_bool HF.out, HW.out.trans ⟨rfl, rfl, rfl, Nat.le_refl _, fun _ _ => rfl⟩⟩
    have f1 : decide (iat P k < 0) = false := by simpa using g1
    by_cases g2 : (n0 : Int) ≤ iat P k
    · have f2 : decide ((n0 : Int) ≤ iat P k) = true := by simpa using g2
      have HF : Hid (false = isPath G P) := HFB.out k hlt (by rw [HPD.out]; simp; omega)
      clear hc7 g1 g2 BA hk0 hk5
      go_wp2
      go_quiet (fail)
      go_wp2
      go_ret
      exact ⟨ret_bool HF.out, HW.out.trans ⟨rfl, rfl, rfl, Nat.le_refl _, fun _ _ => rfl⟩⟩
    obtain ⟨s, hs⟩ : ∃ s : Nat, iat P k = (s : Int) := ⟨(iat P k).toNat, by omega⟩
    have hsn : s < n0 := by omega
    have hsn' : (s : Int) < n0 := by omega
    have f2 : decide ((n0 : Int) ≤ iat P k) = false := by simpa using g2
    have HP2 : Hid (pOk G P k = pFits G P k) := by
      unfold Hid
      rw [HPD.out]
      have q1 : decide (0 ≤ iat P k) = true := by simp; omega
      have q2 : decide (iat P k < (n0 : Int)) = true := by simp; omega
      rw [q1, q2]
      simp
    clear g1 g2 HPD
    rw [hs] at x0 f1 f2
    have HS : Hid (iat P k = (s : Int)) := hs
    clear hs
    go_wp2
    go_quiet (fail)
    generalize hwq : World.drewN wr nq = wq at *
    have HQ : Hid (Nx wr wq) := by unfold Hid; rw [← hwq]; exact ⟨rfl, rfl, rfl, Nat.le_refl _, fun _ _ => rfl⟩
    have BQ := BA.next HQ.out
    have x1 := cellq HQ.out x0
    have HWq : Hid (Nx w wq) := HW.out.trans HQ.out
    have HNq : Hid (Nx (w.alloc (.cells #[.slice a0 n0 c0, .slice a1 n1 c1, .slice a2 n2 c2, .slice a3 n3 c3, .slice a4 n4 c4, .slice a5 n5 c5, .slice a6 n6 c6] 27)) wq) := HN.out.trans HQ.out
    clear hwq BA HN HW x0 f1 f2 k0
    by_cases hk : k = 0
    · subst hk
      obtain ⟨e, he⟩ : ∃ e : Nat, iat G.eo s = (e : Int) := ⟨(iat G.eo s).toNat, by have := (HE.out s hsn).1; omega⟩
      have hen : e < n5 := by have := (HE.out s hsn).2; omega
      have hen' : (e : Int) < n5 := by omega
      obtain ⟨b0, o0, ha0, _, hb0, hc0⟩ := hk0 (by omega)
      obtain ⟨b5, o5, ha5, _, hb5, hc5⟩ := hk5 (by omega)
      subst ha0 ha5
      have y0 : wq.cell? ⟨b0, o0 + s, none⟩ = some (.int .i64 (iat G.eo s)) := cell_next HWq.out hb0 (hc0 s hsn)
      rw [he] at y0
      have y1 := cell_next HWq.out hb5 (hc5 e hen)
      have k0 := BQ.cell (i := 0) rfl
      have k5 := BQ.cell (i := 5) rfl
      rw [Nat.add_zero] at x1
      have HP3 : Hid (pOk G P 0 = (iat G.sr e == (s : Int))) := by
        unfold Hid
        rw [HP2.out]
        show (iat G.sr (iat G.eo (iat P 0).toNat).toNat == iat P 0) = _
        rw [HS.out, Int.toNat_natCast, he, Int.toNat_natCast]
      clear hc0 hc5 hc7 he BQ
      by_cases g3 : iat G.sr e = (s : Int)
      · have f3 : (iat G.sr e != (s : Int)) = false := by simpa using g3
        have HF : Hid (pOk G P 0 = true) := by unfold Hid; rw [HP3.out]; simpa using g3
        clear g3
        go_wp2
        go_quiet (fail)
        go_wp2
        go_quiet (fail)
        go_wp2
        go_roundw
        case rel => exact ⟨1, by omega, by go_num, allTo_succ HA.out HF.out, HNq.out.trans ⟨rfl, rfl, rfl, Nat.le_refl _, fun _ _ => rfl⟩⟩
        case measure => simp [intOf]; omega
      · have f3 : (iat G.sr e != (s : Int)) = true := by simpa using g3
        have HF : Hid (false = isPath G P) := HFB.out 0 hlt (by rw [HP3.out]; simpa using g3)
        clear g3
        go_wp2
        go_quiet (fail)
        go_wp2
        go_ret
        exact ⟨ret_bool HF.out, HWq.out.trans ⟨rfl, rfl, rfl, Nat.le_refl _, fun _ _ => rfl⟩⟩
    obtain ⟨j, rfl⟩ : ∃ j, k = j + 1 := ⟨k - 1, by omega⟩
    obtain ⟨u, hu⟩ : ∃ u : Nat, iat P j = (u : Int) := ⟨(iat P j).toNat, by have := (pOk_at Z0.out (HA.out j (by omega))).1; omega⟩
    have hun : u < n0 := by have := (pOk_at Z0.out (HA.out j (by omega))).2; omega
    have hj0 : ((j : Int) + 1 == 0) = false := by simp; omega
    have hjp : decide (0 < (j : Int) + 1) = true := by rw [decide_eq_true_iff]; omega
    have hjl : (j : Int) < n7 := by omega
    have hwj := wrapJ j (by omega)
    have hc7j : w.cell? ⟨b7, o7 + j, none⟩ = some (.int .i64 (iat P j)) := hc7 j (by omega)
    rw [hu] at hc7j
    have HP3 : Hid (pOk G P (j + 1) = decide (0 ≤ arcOf G u (s : Int))) := by
      unfold Hid
      rw [HP2.out]
      show decide (0 ≤ arcOf G (iat P j).toNat (iat P (j + 1))) = _
      rw [HS.out, hu, Int.toNat_natCast]
    clear hc7 hu hk hk0 hk5
    go_wp2
    go_quiet (fail)
    generalize hwq : World.drewN wq nq = wz at *
    have HQ2 : Hid (Nx wq wz) := by unfold Hid; rw [← hwq]; exact ⟨rfl, rfl, rfl, Nat.le_refl _, fun _ _ => rfl⟩
    have BZ := BQ.next HQ2.out
    have HWz : Hid (Nx w wz) := HWq.out.trans HQ2.out
    have HNz : Hid (Nx (w.alloc (.cells #[.slice a0 n0 c0, .slice a1 n1 c1, .slice a2 n2 c2, .slice a3 n3 c3, .slice a4 n4 c4, .slice a5 n5 c5, .slice a6 n6 c6] 27)) wz) := HNq.out.trans HQ2.out
    have z1 := cell_regrown (cellq HQ2.out x1)
    have z0 := cell_regrown (cell_next HWz.out hb7 hc7j)
    have k0 := cell_regrown (BZ.cell (i := 0) rfl)
    have k1 := cell_regrown (BZ.cell (i := 1) rfl)
    have k2 := cell_regrown (BZ.cell (i := 2) rfl)
    have k3 := cell_regrown (BZ.cell (i := 3) rfl)
    have k4 := cell_regrown (BZ.cell (i := 4) rfl)
    have k5 := cell_regrown (BZ.cell (i := 5) rfl)
    have k6 := cell_regrown (BZ.cell (i := 6) rfl)
    have CG : Hid (∀ d os, Calls Try.prog 36 #[.agg #[.slice a0 n0 c0, .slice a1 n1 c1, .slice a2 n2 c2, .slice a3 n3 c3, .slice a4 n4 c4, .slice a5 n5 c5, .slice a6 n6 c6], .int .i64 u, .int .i64 (s : Int)] (Sort.grow (redrawn wz d) os) fun e w'' => e = .returned (.int .i64 (arcOf G u (s : Int))) ∧ ∃ p : Regrown, w'' = Sort.grow (redrawn wz p.d) p.os) :=
      fun d os => Calls.regrown_of (l4Arc_any B _ _ _ _ _ _ _ G u (s : Int) _ ((HH.out.next HWz.out).next (below_regrown wz d os)) HV.out (by rw [Z0.out]; exact hun))
    clear hwq x1 hc7j BQ BZ HNq HWq HQ HQ2
    generalize hAR : arcOf G u (s : Int) = ar at *
    clear hAR
    by_cases g4 : ar < 0
    · have f4 : decide (ar < 0) = true := by simpa using g4
      have HF : Hid (false = isPath G P) := HFB.out (j + 1) hlt (by rw [HP3.out]; simp; omega)
      clear g4
      go_wp2
      refine wp_region_quiet_below (by kernel_rfl) (by kernel_rfl) ?_
      repeat (go_big_quiet_step (exact CG.out _ _))
      refine wpQuiet_nil ?_
      intro _ hw'
      obtain ⟨⟨dq, osq⟩, hw''⟩ := hw'
      subst hw''
      have HB : Hid (Nx wz (Sort.grow (redrawn wz dq) osq)) := below_regrown wz dq osq
      go_wp2
      go_ret
      exact ⟨ret_bool HF.out, HWz.out.trans HB.out⟩
    · have f4 : decide (ar < 0) = false := by simpa using g4
      have HF : Hid (pOk G P (j + 1) = true) := by unfold Hid; rw [HP3.out]; simp; omega
      clear g4
      go_wp2
      refine wp_region_quiet_below (by kernel_rfl) (by kernel_rfl) ?_
      repeat (go_big_quiet_step (exact CG.out _ _))
      refine wpQuiet_nil ?_
      intro _ hw'
      obtain ⟨⟨dq, osq⟩, hw''⟩ := hw'
      subst hw''
      have HB : Hid (Nx wz (Sort.grow (redrawn wz dq) osq)) := below_regrown wz dq osq
      go_wp2
      go_roundw
      case rel => exact ⟨j + 1 + 1, by omega, by go_num, allTo_succ HA.out HF.out, HNz.out.trans HB.out⟩
      case measure => simp [intOf]; omega
  have HF : Hid (true = isPath G P) := ip_yes Z7.out e1 e2 (allN_yes (by omega) HA.out)
  have ek : n7 = k := by omega
  subst ek
  clear HA hlt hkn BA
  go_wp2
  go_ret
  exact ⟨ret_bool HF.out, HW.out⟩
end Go.Proofs.Ytdjmlpgdaanipaa
