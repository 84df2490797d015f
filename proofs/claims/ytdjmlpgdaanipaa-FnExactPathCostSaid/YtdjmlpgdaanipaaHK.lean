import Derived.Test.YtdjmlpgdaanipaaHF
import Derived.Test.YtdjmlpgdaanipaaHJ
namespace Go.Proofs.Ytdjmlpgdaanipaa
open Go.RowKit Go.Sort
set_option linter.unusedVariables false
set_option maxRecDepth 100000

theorem withinN_any (v m : Int) (w : World) (h0 : 0 ≤ m) (hn : m ≤ 9223372036854775807) :
    Calls Try.prog 32 #[.int .i64 v, .int .i64 m] w fun e w' => e = .returned (.bool (inZ v m)) ∧ Nx w w' :=
  (withinZ_any v m w h0 hn).mono fun _ _ ⟨h1, h2⟩ => ⟨h1, h2 ▸ Nx.refl _⟩
theorem goal_tt {G : Gr} {a s : Nat} (h : iat G.tt a = (s : Int)) : goal G a = iat G.eo s := by unfold goal; rw [h, Int.toNat_natCast]
theorem arc_hit {G : Gr} (h : VG G) {u : Nat} (hu : u < G.eo.length) {s a : Nat} (h1 : fst G u ≤ a) (h2 : a < fst G (u + 1)) (ha : iat G.tt a = (s : Int)) : arcOf G u (s : Int) = (a : Int) := by
  have E2 := fst_le h hu
  unfold arcOf
  refine findA_one h1 (by omega) (by simp [ha]) fun b hb1 hb2 => ?_
  by_cases e : iat G.tt b = (s : Int)
  · have h3 := goal_mono h hu hb1 hb2 h2
    rw [goal_tt e, goal_tt ha] at h3
    omega
  · simp [e]
theorem arc_miss {G : Gr} (h : VG G) {u : Nat} (hu : u < G.eo.length) {s : Nat} (h1 : ∀ a, fst G u ≤ a → a < fst G (u + 1) → iat G.tt a ≠ (s : Int)) : arcOf G u (s : Int) = -1 := by
  have E2 := fst_le h hu
  unfold arcOf
  refine findA_none fun a ha1 ha2 => ?_
  simp [h1 a ha1 (by omega)]
theorem arc_along {G : Gr} (h : VG G) {u s : Nat} (hu : u < G.eo.length) :
    (arcF G u (iat G.eo s) = true ∧ ∃ a : Nat, arcR G u (iat G.eo s) = (a : Int) ∧ a < G.tt.length ∧ iat G.tt a = (s : Int) ∧ arcOf G u (s : Int) = (a : Int)) ∨
    (arcF G u (iat G.eo s) = true ∧ ∃ a : Nat, arcR G u (iat G.eo s) = (a : Int) ∧ a < G.tt.length ∧ iat G.tt a ≠ (s : Int) ∧ arcOf G u (s : Int) = -1) ∨
    (arcF G u (iat G.eo s) = false ∧ arcOf G u (s : Int) = -1) := by
  have E1 := (fst_eq h (v := u + 1) (by omega)).2
  obtain ⟨t1, t2⟩ := arcT_at h hu (iat G.eo s)
  cases hf : arcF G u (iat G.eo s)
  · exact Or.inr (Or.inr ⟨rfl, arc_miss h hu fun a ha1 ha2 e => t2 hf a ha1 ha2 (goal_tt e)⟩)
  · obtain ⟨a, e1, e2, e3, e4⟩ := t1 hf
    by_cases c : iat G.tt a = (s : Int)
    · exact Or.inl ⟨rfl, a, e1, by omega, c, arc_hit h hu e2 e3 c⟩
    · refine Or.inr (Or.inl ⟨rfl, a, e1, by omega, c, arc_miss h hu fun b hb1 hb2 e => ?_⟩)
      have h3 := goal_tt e
      by_cases c1 : b < a
      · have := goal_mono h hu hb1 c1 e3; omega
      · by_cases c2 : b = a
        · subst c2; exact c e
        · have := goal_mono h hu e2 (show a < b by omega) hb2; omega
/-- the first k arcs of a path -/
def arcsTo (G : Gr) (P : List Int) (k : Nat) : List Int := (List.range k).map fun i => arcOf G (iat P i).toNat (iat P (i + 1))
theorem arcsTo_len (G : Gr) (P : List Int) (k : Nat) : (arcsTo G P k).length = k := by simp [arcsTo]
theorem arcsTo_succ (G : Gr) (P : List Int) (k : Nat) : arcsTo G P (k + 1) = arcsTo G P k ++ [arcOf G (iat P k).toNat (iat P (k + 1))] := by
  unfold arcsTo
  rw [List.range_succ, List.map_append]
  rfl
theorem ret_sb {v : Value} {a b : Bool} (h : a = b) : Ending.returned (.tuple #[v, .bool a]) = .returned (.tuple #[v, .bool b]) := by rw [h]
def AlE (G : Gr) (P : List Int) (C : Nat) (w' : World) (e : Ending) : Prop :=
  ∃ a n c, e = .returned (.tuple #[.slice a n c, .bool (validG G && isPath G P)]) ∧ ((validG G && isPath G P) = true → OwnI C w' (.slice a n c) (arcsTo G P (P.length - 1)))
theorem AlE.no {G : Gr} {P : List Int} {C : Nat} {w' : World} (h : (validG G && isPath G P) = false) : AlE G P C w' (.returned (.tuple #[.slice none 0 0, .bool false])) :=
  ⟨none, 0, 0, by rw [h], fun h' => by rw [h] at h'; cases h'⟩

set_option maxHeartbeats 8000000 in
theorem arcsAlong_any (B : Nat) (v0 v1 v2 v3 v4 v5 v6 vp : Value) (G : Gr) (P : List Int) (w : World) (h0 : HG B w v0 v1 v2 v3 v4 v5 v6 G) (hp : HInts B w vp P) (hpc : CapOk vp) (hs : SmallG G) :
    Calls Try.prog 35 #[.agg #[v0, v1, v2, v3, v4, v5, v6], vp] w fun e w' => AlE G P w.heap.size w' e ∧ Nx w w' := by
  obtain ⟨ii, hi, hz0, hz1, hz2⟩ := info_parts infoInt
  have HS : Hid (SmallG G) := hs
  clear hs
  have HH : Hid (HG B w v0 v1 v2 v3 v4 v5 v6 G) := h0
  have HP : Hid (HInts B w vp P) := hp
  obtain ⟨⟨a0, c0, rfl, hn0, hk0⟩, ⟨a1, c1, rfl, hn1, hk1⟩, ⟨a2, c2, rfl, hn2, hk2⟩, ⟨a3, c3, rfl, hn3, hk3⟩, ⟨a4, c4, rfl, hn4, hk4⟩, ⟨a5, c5, rfl, hn5, hk5⟩, ⟨a6, c6, rfl, hn6, hk6⟩⟩ := h0
  obtain ⟨a7, c7, rfl, hn7, hk7⟩ := hp
  unfold maxLen at hn0 hn1 hn2 hn3 hn4 hn5 hn6 hn7
  obtain ⟨a', n', c', e, hcp⟩ := hpc
  simp only [Value.slice.injEq] at e
  obtain ⟨rfl, rfl, rfl⟩ := e
  generalize hz0 : G.eo.length = n0 at *
  have Z0 : Hid (G.eo.length = n0) := hz0
  clear hz0
  generalize hz1 : G.so.length = n1 at *
  have Z1 : Hid (G.so.length = n1) := hz1
  clear hz1
  generalize hz2 : G.fi.length = n2 at *
  have Z2 : Hid (G.fi.length = n2) := hz2
  clear hz2
  generalize hz3 : G.tt.length = n3 at *
  have Z3 : Hid (G.tt.length = n3) := hz3
  clear hz3
  generalize hz4 : G.co.length = n4 at *
  have Z4 : Hid (G.co.length = n4) := hz4
  clear hz4
  generalize hz5 : G.sr.length = n5 at *
  have Z5 : Hid (G.sr.length = n5) := hz5
  clear hz5
  generalize hz6 : G.we.length = n6 at *
  have Z6 : Hid (G.we.length = n6) := hz6
  clear hz6
  generalize hz7 : P.length = n7 at *
  have Z7 : Hid (P.length = n7) := hz7
  clear hz7
  go_enter Try.func35, Try.ntmps35
  go_wp2_with fail
  refine (implValidG_any B _ _ _ _ _ _ _ G _ (by exact HH.out.next (box1 _ _)) HS.out).mono ?_
  rintro e w1 ⟨rfl, hx⟩
  have BA : Blk w1 w.heap.size #[.slice a0 n0 c0, .slice a1 n1 c1, .slice a2 n2 c2, .slice a3 n3 c3, .slice a4 n4 c4, .slice a5 n5 c5, .slice a6 n6 c6] := (Blk.new w #[.slice a0 n0 c0, .slice a1 n1 c1, .slice a2 n2 c2, .slice a3 n3 c3, .slice a4 n4 c4, .slice a5 n5 c5, .slice a6 n6 c6] 27 _ rfl).next hx
  have HX : Hid (Nx w w1) := (box1 _ _).trans hx
  have HZ1 : Hid (w.heap.size + 1 ≤ w1.heap.size) := by unfold Hid; have := hx.size; rw [size_box1] at this; exact this
  clear hx
  cases hvb : validG G
  case false =>
    have HF : Hid ((validG G && isPath G P) = false) := by unfold Hid; rw [hvb]; rfl
    clear hvb
    go_wp2
    go_ret2
    exact ⟨AlE.no HF.out, HX.out⟩
  have HV : Hid (VG G) := vg_of hvb
  have HVB : Hid (validG G = true) := hvb
  clear hvb
  by_cases g1 : 0 < n7
  case neg =>
    have e1 : n7 = 0 := by omega
    subst e1
    have HF : Hid ((validG G && isPath G P) = false) := by unfold Hid isPath; rw [Z7.out]; simp
    clear g1
    go_wp2
    go_ret2
    exact ⟨AlE.no HF.out, HX.out⟩
  have f1 : ((n7 : Int) == 0) = false := by simp; omega
  by_cases g2 : n7 ≤ 10000
  case neg =>
    have f2 : decide (10000 < (n7 : Int)) = true := by simp; omega
    have HF : Hid ((validG G && isPath G P) = false) := by unfold Hid isPath; rw [Z7.out]; simp [g2]
    go_wp2
    go_ret2
    exact ⟨AlE.no HF.out, HX.out⟩
  have f2 : decide (10000 < (n7 : Int)) = false := by simp; omega
  clear f1 f2
  obtain ⟨m, rfl⟩ : ∃ m, n7 = m + 1 := ⟨n7 - 1, by omega⟩
  have f1 : ((m : Int) + 1 == 0) = false := by simp; omega
  have f2 : decide (10000 < (m : Int) + 1) = false := by simp; omega
  obtain ⟨b7, o7, rfl, _, hb7, hc7⟩ := hk7 (by omega)
  have hm0 : (0 : Int) < (m : Int) + 1 := by omega
  have x0' : w.cell? ⟨b7, o7, none⟩ = some (.int .i64 (iat P 0)) := hc7 0 (by omega)
  have HP0 : Hid (pOk G P 0 = (inZ (iat P 0) n0 && (iat G.sr (iat G.eo (iat P 0).toNat).toNat == iat P 0))) := by unfold Hid pOk pFits inZ; rw [Z0.out]
  have CG : Hid (∀ d os, Calls Try.prog 32 #[.int .i64 (iat P 0), .int .i64 (n0 : Int)] (Sort.grow (redrawn w1 d) os) fun e w'' => e = .returned (.bool (inZ (iat P 0) n0)) ∧ ∃ p : Regrown, w'' = Sort.grow (redrawn w1 p.d) p.os) :=
    fun d os => Calls.regrown_of (withinN_any _ _ _ (by omega) (by omega))
  have HBA : Hid (Blk w1 w.heap.size #[.slice a0 n0 c0, .slice a1 n1 c1, .slice a2 n2 c2, .slice a3 n3 c3, .slice a4 n4 c4, .slice a5 n5 c5, .slice a6 n6 c6]) := BA
  have K0 := cell_regrown (BA.cell (i := 0) rfl)
  have K5 := cell_regrown (BA.cell (i := 5) rfl)
  clear BA
  cases g3 : inZ (iat P 0) n0
  case false =>
    rw [g3] at CG HP0
    have HF : Hid ((validG G && isPath G P) = false) := by unfold Hid; rw [← ip_no Z7.out (k := 0) (by omega) (by rw [HP0.out]; rfl), Bool.and_false]
    have x0 := cell_next HX.out hb7 x0'
    clear x0' g3 hc7 hk0 hk1 hk2 hk3 hk4 hk5 hk6
    go_wp2
    refine wp_region_quiet_below (by kernel_rfl) (by kernel_rfl) ?_
    repeat (go_big_quiet_step (exact CG.out _ _))
    refine wpQuiet_nil ?_
    intro _ hw'
    obtain ⟨⟨dq, osq⟩, hw''⟩ := hw'
    subst hw''
    have HB : Hid (Nx w1 (Sort.grow (redrawn w1 dq) osq)) := below_regrown w1 dq osq
    generalize hwq : Sort.grow (redrawn w1 dq) osq = wq at *
    clear hwq
    go_wp2
    go_ret2
    exact ⟨AlE.no HF.out, HX.out.trans HB.out⟩
  obtain ⟨s, hs⟩ : ∃ s : Nat, iat P 0 = (s : Int) := ⟨(iat P 0).toNat, by have := inZ_at g3; omega⟩
  have hsn : s < n0 := by have := inZ_at g3; omega
  have hsn' : (s : Int) < n0 := by omega
  rw [hs] at x0' CG HP0 g3
  rw [g3] at CG HP0
  rw [Bool.true_and, Int.toNat_natCast] at HP0
  obtain ⟨t, ht⟩ : ∃ t : Nat, iat G.eo s = (t : Int) := ⟨(iat G.eo s).toNat, by have := (HV.out.eo s (by rw [Z0.out]; exact hsn)).1; omega⟩
  have htn : t < n5 := by have := (HV.out.eo s (by rw [Z0.out]; exact hsn)).2; rw [Z5.out] at this; omega
  have htn' : (t : Int) < n5 := by omega
  rw [ht, Int.toNat_natCast] at HP0
  obtain ⟨b0, o0, ha0, _, hb0, hc0⟩ := hk0 (by omega)
  obtain ⟨b5, o5, ha5, _, hb5, hc5⟩ := hk5 (by omega)
  have ye' : w.cell? ⟨b0, o0 + s, none⟩ = some (.int .i64 (iat G.eo s)) := hc0 s hsn
  rw [ht] at ye'
  have x0 := cell_next HX.out hb7 x0'
  have xr := cell_regrown (cell_next HX.out hb7 x0')
  have yr := cell_regrown (cell_next HX.out hb0 ye')
  have zr := cell_regrown (cell_next HX.out hb5 (hc5 t htn))
  have HC0 : Hid (∀ i, i < n0 → w.cell? ⟨b0, o0 + i, none⟩ = some (.int .i64 (iat G.eo i))) := hc0
  have HC7 : Hid (∀ i, i < m + 1 → w.cell? ⟨b7, o7 + i, none⟩ = some (.int .i64 (iat P i))) := hc7
  have HB0 : Hid (b0 < w.heap.size) := hb0
  have HB7 : Hid (b7 < w.heap.size) := hb7
  subst ha0 ha5
  clear x0' ye' hs g3 ht hc0 hc5 hk5 hk0 hc7 hk1 hk2 hk4 hk6 hb0 hb5 hb7
  cases g4 : (iat G.sr t != (s : Int))
  case true =>
    have HF : Hid ((validG G && isPath G P) = false) := by unfold Hid; rw [← ip_no Z7.out (k := 0) (by omega) (by rw [HP0.out]; simpa using g4), Bool.and_false]
    go_wp2
    refine wp_region_quiet_below (by kernel_rfl) (by kernel_rfl) ?_
    repeat (go_big_quiet_step (exact CG.out _ _))
    refine wpQuiet_nil ?_
    intro _ hw'
    obtain ⟨⟨dq, osq⟩, hw''⟩ := hw'
    subst hw''
    have HB : Hid (Nx w1 (Sort.grow (redrawn w1 dq) osq)) := below_regrown w1 dq osq
    generalize hwq : Sort.grow (redrawn w1 dq) osq = wq at *
    clear hwq
    go_wp2
    go_ret2
    exact ⟨AlE.no HF.out, HX.out.trans HB.out⟩
  have HA0 : Hid (allTo (pOk G P) (0 + 1)) := by
    intro i hi
    have e : i = 0 := by omega
    subst e
    rw [HP0.out]; simpa using g4
  go_wp2
  refine wp_region_quiet_below (by kernel_rfl) (by kernel_rfl) ?_
  repeat (go_big_quiet_step (exact CG.out _ _))
  refine wpQuiet_nil ?_
  intro _ hw'
  obtain ⟨⟨dq, osq⟩, hw''⟩ := hw'
  subst hw''
  have HB : Hid (Nx w1 (Sort.grow (redrawn w1 dq) osq)) := below_regrown w1 dq osq
  generalize hwq : Sort.grow (redrawn w1 dq) osq = wq at *
  clear hwq
  have HX2 : Hid (Nx w wq) := HX.out.trans HB.out
  have BA2 : Blk wq w.heap.size _ := HBA.out.next HB.out
  have HZ2 : Hid (w.heap.size + 1 ≤ wq.heap.size) := Nat.le_trans HZ1.out HB.out.size
  clear HB HBA HX HZ1 CG K0 K5 xr yr zr x0 g4
  generalize wq = w2 at *
  by_cases hck : c7 = 1
  · subst hck
    have em : m = 0 := by omega
    subst em
    go_wp2
    go_loopw [7, 50] (fun v i wr => ∃ k : Nat, k ≤ 0 ∧ i = .int .i64 k ∧ Hid (OwnI (w.heap.size + 1) wr v (arcsTo G P k)) ∧ Hid (allTo (pOk G P) (k + 1)) ∧ Hid (Below (w.heap.size + 1) w2 wr)) (fun _ i _ => 0 - (intOf i).toNat)
    case atStart => exact ⟨0, Nat.zero_le _, rfl, ⟨rfl, .inl ⟨rfl, rfl⟩⟩, HA0, Below.refl _ _⟩
    obtain ⟨k, hkn, rfl, HO, HA, HN⟩ := hrel
    have HW : Hid (Nx w wr) := Below.trans HX2.out (Below.mono HN.out (Nat.le_succ _))
    by_cases hlt : k < 0
    · omega
    have ek : k = 0 := by omega
    subst ek
    have HF : Hid ((validG G && isPath G P) = true) := by
      unfold Hid
      rw [HVB.out, ← ip_yes Z7.out (by omega) (by omega) (allN_yes (Nat.le_refl _) HA.out)]; rfl
    have HFO : Hid (OwnI (w.heap.size + 1) wr u7 (arcsTo G P (P.length - 1))) := by unfold Hid; rw [Z7.out, Nat.add_sub_cancel]; exact HO.out
    obtain ⟨av, cv, hvs⟩ := HO.out.slice
    subst hvs
    clear HO
    go_wp2
    go_ret2
    exact ⟨⟨_, _, _, ret_sb HF.out.symm, fun _ => HFO.out.base (Nat.le_succ _)⟩, HW.out⟩
  · skip
    go_wp2
    go_loopw [7, 50] (fun v i wr => ∃ k : Nat, k ≤ m ∧ i = .int .i64 k ∧ Hid (OwnI (w.heap.size + 1) wr v (arcsTo G P k)) ∧ Hid (allTo (pOk G P) (k + 1)) ∧ Hid (Below (w.heap.size + 1) w2 wr)) (fun _ i _ => m - (intOf i).toNat)
    case atStart => exact ⟨0, Nat.zero_le _, rfl, ⟨rfl, .inl ⟨rfl, rfl⟩⟩, HA0, Below.refl _ _⟩
    obtain ⟨k, hkn, rfl, HO, HA, HN⟩ := hrel
    have HW : Hid (Nx w wr) := Below.trans HX2.out (Below.mono HN.out (Nat.le_succ _))
    by_cases hlt : k < m
    · have hlt' : (k : Int) < m := by omega
      have hkb : (k : Int) < (m : Int) + 1 := by omega
      obtain ⟨u, hu⟩ : ∃ u : Nat, iat P k = (u : Int) := ⟨(iat P k).toNat, by have := pOk_at Z0.out (HA.out k (Nat.lt_succ_self _)); omega⟩
      have hun : u < n0 := by have := pOk_at Z0.out (HA.out k (Nat.lt_succ_self _)); omega
      have BW := BA2.below HN.out (Nat.lt_succ_self _)
      have xk' : w.cell? ⟨b7, o7 + k, none⟩ = some (.int .i64 (iat P k)) := HC7.out k (by omega)
      have xs' : w.cell? ⟨b7, o7 + 1 + k, none⟩ = some (.int .i64 (iat P (k + 1))) := by have := HC7.out (k + 1) (by omega); rw [show o7 + 1 + k = o7 + (k + 1) by omega]; exact this
      have HPD : Hid (pOk G P (k + 1) = (inZ (iat P (k + 1)) n0 && decide (0 ≤ arcOf G u (iat P (k + 1))))) := by
        unfold Hid pOk inZ
        rw [Z0.out]
        show (_ && _ && decide (0 ≤ arcOf G (iat P k).toNat (iat P (k + 1)))) = _
        rw [hu, Int.toNat_natCast]
      have HAS : Hid (arcsTo G P (k + 1) = arcsTo G P k ++ [arcOf G u (iat P (k + 1))]) := by unfold Hid; rw [arcsTo_succ, hu, Int.toNat_natCast]
      rw [hu] at xk'
      have xk := cell_next HW.out HB7.out xk'
      clear hu xk'
      cases g1 : inZ (iat P (k + 1)) n0
      case false =>
        have HF : Hid ((validG G && isPath G P) = false) := by unfold Hid; rw [← ip_no Z7.out (k := k + 1) (by omega) (by rw [HPD.out, g1]; rfl), Bool.and_false]
        have xs := cell_next HW.out HB7.out xs'
        have k0 := BW.cell (i := 0) rfl
        clear xs' BW
        go_wp2_with fail
        refine (withinZ_any _ (n0 : Int) _ (by omega) (by omega)).mono ?_
        rintro e wr ⟨rfl, rfl⟩
        rw [g1]
        go_wp2
        go_ret2
        exact ⟨AlE.no HF.out, HW.out⟩
      case true =>
        obtain ⟨s, hs⟩ : ∃ s : Nat, iat P (k + 1) = (s : Int) := ⟨(iat P (k + 1)).toNat, by have := inZ_at g1; omega⟩
        have hsn : s < n0 := by have := inZ_at g1; omega
        have hsn' : (s : Int) < n0 := by omega
        rw [hs] at xs' g1 HPD HAS
        rw [g1, Bool.true_and] at HPD
        have xs := cell_next HW.out HB7.out xs'
        have ys := cell_next HW.out HB0.out (HC0.out s hsn)
        have CG : Hid (∀ d os, Calls Try.prog 33 #[.agg #[.slice (some ⟨b0, o0, none⟩) n0 c0, .slice a1 n1 c1, .slice a2 n2 c2, .slice a3 n3 c3, .slice a4 n4 c4, .slice (some ⟨b5, o5, none⟩) n5 c5, .slice a6 n6 c6], .int .i64 u, .int .i64 (iat G.eo s)] (Sort.grow (redrawn wr d) os) fun e w'' => e = .returned (.tuple #[.int .i64 (arcR G u (iat G.eo s)), .bool (arcF G u (iat G.eo s))]) ∧ ∃ p : Regrown, w'' = Sort.grow (redrawn wr p.d) p.os) :=
          fun d os => Calls.regrown_of (arcTo_any B _ _ _ _ _ _ _ G u (iat G.eo s) _ ((HH.out.next HW.out).next (below_regrown wr d os)) HV.out (by rw [Z0.out]; exact hun))
        have HAL := arc_along HV.out (u := u) (s := s) (by rw [Z0.out]; exact hun)
        have HBW : Hid (Blk wr w.heap.size #[.slice (some ⟨b0, o0, none⟩) n0 c0, .slice a1 n1 c1, .slice a2 n2 c2, .slice a3 n3 c3, .slice a4 n4 c4, .slice (some ⟨b5, o5, none⟩) n5 c5, .slice a6 n6 c6]) := BW
        have xkr := cell_regrown xk
        have ysr := cell_regrown ys
        have k0 := BW.cell (i := 0) rfl
        have K0 := cell_regrown (BW.cell (i := 0) rfl)
        have K1 := cell_regrown (BW.cell (i := 1) rfl)
        have K2 := cell_regrown (BW.cell (i := 2) rfl)
        have K3 := cell_regrown (BW.cell (i := 3) rfl)
        have K4 := cell_regrown (BW.cell (i := 4) rfl)
        have K5 := cell_regrown (BW.cell (i := 5) rfl)
        have K6 := cell_regrown (BW.cell (i := 6) rfl)
        clear xs' ys hs BW xk
        generalize iat G.eo s = es at *
        generalize arcR G u es = ra at *
        generalize arcF G u es = fa at *
        go_wp2_with fail
        refine (withinZ_any _ (n0 : Int) _ (by omega) (by omega)).mono ?_
        rintro e wr ⟨rfl, rfl⟩
        rw [g1]
        clear xs k0 g1
        go_wp2
        refine wp_region_quiet_below (by kernel_rfl) (by kernel_rfl) ?_
        repeat (go_big_quiet_step (exact CG.out _ _))
        refine wpQuiet_nil ?_
        intro _ hw'
        obtain ⟨⟨dq, osq⟩, hw''⟩ := hw'
        subst hw''
        have HB : Hid (Nx wr (Sort.grow (redrawn wr dq) osq)) := below_regrown wr dq osq
        generalize hwq : Sort.grow (redrawn wr dq) osq = wq at *
        clear hwq
        have HWQ : Hid (Nx w wq) := HW.out.trans HB.out
        have HNQ : Hid (Below (w.heap.size + 1) w2 wq) := Below.trans HN.out (Below.mono HB.out (by have := HN.out.size; have := HZ2.out; omega))
        have HOQ : Hid (OwnI (w.heap.size + 1) wq u7 (arcsTo G P k)) := HO.out.next HB.out
        have HZQ : Hid (w.heap.size + 1 ≤ wq.heap.size) := Nat.le_trans HZ2.out HNQ.out.size
        have q3 := (HBW.out.next HB.out).cell (i := 3) rfl
        clear HBW HB HN HO HW CG K0 K1 K2 K3 K4 K5 K6 xkr ysr
        rcases HAL with ⟨hfa, a, hra, han, hta, hao⟩ | ⟨hfa, a, hra, han, hta, hao⟩ | ⟨hfa, hao⟩
        · subst hfa hra
          have HF : Hid (pOk G P (k + 1) = true) := by unfold Hid; rw [HPD.out, hao]; simp
          rw [hao] at HAS
          rw [Z3.out] at han
          obtain ⟨b3, o3, ha3, _, hb3, hc3⟩ := hk3 (by omega)
          have z3' : w.cell? ⟨b3, o3 + a, none⟩ = some (.int .i64 (iat G.tt a)) := hc3 a han
          rw [hta] at z3'
          have z3 := cell_next HWQ.out hb3 z3'
          have han' : (a : Int) < n3 := by omega
          have hne : ((s : Int) != (s : Int)) = false := by simp
          obtain ⟨av, cv, hvs⟩ := HOQ.out.slice
          rw [arcsTo_len] at hvs
          subst hvs ha3
          clear hta hao z3' hc3 hk3
          go_wp2_with (at_builtin; refine wpList_append_own_at _ rfl _ _ 22 rfl (w.heap.size + 1) 2 ii (.int .i64 0) 1 8 Try.underlying22 hi hz0 hz1 hz2 rfl (by decide) _ _ _ rfl (World.ownsRow.alloc HOQ.out _) ⟨wq.heap.size, 0, none⟩ 1 1 [.int .i64 a] rfl rfl ?c1 ?c2 ?c3 ?c4 ?c5 ?_)
          case c1 => exact fun j u hj => new_cells wq _ _ _ rfl j u hj
          case c2 => intro u hu; simp at hu; subst hu; rfl
          case c3 => rw [arcsTo_len]; unfold maxLen; omega
          case c4 => rw [arcsTo_len]; omega
          case c5 => have := HZQ.out; simp; omega
          intro v8 w8 hown hgrow _ _
          have HV8 : Hid (OwnI (w.heap.size + 1) w8 v8 (arcsTo G P (k + 1))) := by unfold Hid; rw [HAS.out]; exact OwnI.snoc hown
          have HB8 : Hid (Below (w.heap.size + 1) w2 w8) := Below.grown (Below.alloc HNQ.out HZQ.out _) hgrow (by have := HZQ.out; simp; omega) (fun g hg => (own_lt HOQ.out g hg).1)
          clear hown hgrow
          go_wp2
          go_roundw
          case rel => exact ⟨k + 1, by omega, by go_num, HV8, allTo_succ HA.out HF.out, HB8⟩
          case measure => simp [intOf]; omega
        · subst hfa hra
          have HF : Hid ((validG G && isPath G P) = false) := by unfold Hid; rw [← ip_no Z7.out (k := k + 1) (by omega) (by rw [HPD.out, hao]; rfl), Bool.and_false]
          rw [Z3.out] at han
          obtain ⟨b3, o3, ha3, _, hb3, hc3⟩ := hk3 (by omega)
          have z3 := cell_next HWQ.out hb3 (hc3 a han)
          have han' : (a : Int) < n3 := by omega
          have hne : (iat G.tt a != (s : Int)) = true := by simpa using hta
          subst ha3
          clear hta hao hc3 hk3
          go_wp2
          go_ret2
          exact ⟨AlE.no HF.out, HWQ.out⟩
        · subst hfa
          have HF : Hid ((validG G && isPath G P) = false) := by unfold Hid; rw [← ip_no Z7.out (k := k + 1) (by omega) (by rw [HPD.out, hao]; rfl), Bool.and_false]
          clear hao
          go_wp2
          go_ret2
          exact ⟨AlE.no HF.out, HWQ.out⟩
    have ek : m = k := by omega
    subst ek
    have HF : Hid ((validG G && isPath G P) = true) := by
      unfold Hid
      rw [HVB.out, ← ip_yes Z7.out (by omega) (by omega) (allN_yes (Nat.le_refl _) HA.out)]; rfl
    have HFO : Hid (OwnI (w.heap.size + 1) wr u7 (arcsTo G P (P.length - 1))) := by unfold Hid; rw [Z7.out, Nat.add_sub_cancel]; exact HO.out
    obtain ⟨av, cv, hvs⟩ := HO.out.slice
    subst hvs
    clear HO
    go_wp2
    go_ret2
    exact ⟨⟨_, _, _, ret_sb HF.out.symm, fun _ => HFO.out.base (Nat.le_succ _)⟩, HW.out⟩
end Go.Proofs.Ytdjmlpgdaanipaa
