import Derived.Test.YtdjmlpgdaanipaaGC
import Derived.Test.YtdjmlpgdaanipaaHQ
namespace Go.Proofs.Ytdjmlpgdaanipaa
open Go.RowKit
set_option linter.unusedVariables false
set_option maxRecDepth 100000

def vWe (G : Gr) : Bool := decide (G.sr.length ≤ 4000) && ((G.we.length == G.sr.length) && allIn G.we)
def vFi (G : Gr) : Bool := (G.fi.length == G.eo.length + 1) && ((iat G.fi 0 == 0) && (allN G.eo.length (leI G.fi) && (iat G.fi G.eo.length == (G.tt.length : Int))))
def vAr (G : Gr) : Bool := decide (G.tt.length ≤ 40000) && ((G.co.length == G.tt.length) && allN G.tt.length (tOk G))

set_option maxHeartbeats 4000000 in
theorem validWeights_any (B : Nat) (v0 v1 v2 v3 v4 v5 v6 : Value) (G : Gr) (w : World) (h0 : HG B w v0 v1 v2 v3 v4 v5 v6 G) :
    Calls Try.prog 25 #[.agg #[v0, v1, v2, v3, v4, v5, v6]] w fun e w' => e = .returned (.bool (vWe G)) ∧ Nx w w' := by
  have HH : Hid (HG B w v0 v1 v2 v3 v4 v5 v6 G) := h0
  obtain ⟨⟨a0, c0, rfl, hn0, hk0⟩, ⟨a1, c1, rfl, hn1, hk1⟩, ⟨a2, c2, rfl, hn2, hk2⟩, ⟨a3, c3, rfl, hn3, hk3⟩, ⟨a4, c4, rfl, hn4, hk4⟩, ⟨a5, c5, rfl, hn5, hk5⟩, ⟨a6, c6, rfl, hn6, hk6⟩⟩ := h0
  have HM0 : Hid (G.eo.length ≤ maxLen) := hn0
  have HM5 : Hid (G.sr.length ≤ maxLen) := hn5
  unfold maxLen at hn0 hn1 hn2 hn3 hn4 hn5 hn6
  generalize hz0 : G.eo.length = n0 at *
  have Z0 : Hid (G.eo.length = n0) := hz0
  clear hz0
  generalize hz1 : G.so.length = n1 at *
  have Z1 : Hid (G.so.length = n1) := hz1
  clear hz1
  generalize hz2 : G.fi.length = n2 at *
  have Z2 : Hid (G.fi.length = n2) := hz2
  clear hz2
  generalize hz3 : G.tt.length = n3 at *
  have Z3 : Hid (G.tt.length = n3) := hz3
  clear hz3
  generalize hz4 : G.co.length = n4 at *
  have Z4 : Hid (G.co.length = n4) := hz4
  clear hz4
  generalize hz5 : G.sr.length = n5 at *
  have Z5 : Hid (G.sr.length = n5) := hz5
  clear hz5
  generalize hz6 : G.we.length = n6 at *
  have Z6 : Hid (G.we.length = n6) := hz6
  clear hz6
  by_cases e1 : n5 ≤ 4000
  case neg =>
    have d1 : decide ((n5 : Int) ≤ 4000) = false := by simp; omega
    have HF : Hid (false = vWe G) := by unfold Hid vWe; rw [Z5.out, Z6.out]; simp [e1]
    go_enter Try.func25, Try.ntmps25
    go_wp2
    go_ret
    exact ⟨ret_bool HF.out, box1 _ _⟩
  have d1 : decide ((n5 : Int) ≤ 4000) = true := by simp; omega
  by_cases e2 : n5 = n6
  case neg =>
    have d2 : ((n6 : Int) == (n5 : Int)) = false := by simp; omega
    have HF : Hid (false = vWe G) := by unfold Hid vWe; rw [Z5.out, Z6.out]; simp [Ne.symm e2]
    go_enter Try.func25, Try.ntmps25
    go_wp2
    go_ret
    exact ⟨ret_bool HF.out, box1 _ _⟩
  subst e2
  have d2 : ((n5 : Int) == (n5 : Int)) = true := by simp
  have HF : Hid (vWe G = allIn G.we) := by unfold Hid vWe; rw [Z5.out, Z6.out]; simp [e1]
  go_enter Try.func25, Try.ntmps25
  go_wp2_with fail
  refine (containsFunc_any B _ G.we _ (by exact HH.out.h6.next (box1 _ _))).mono ?_
  rintro e w' ⟨rfl, rfl⟩
  go_wp2
  go_ret
  exact ⟨ret_bool (by rw [HF.out] <;> simp), box1 _ _⟩

set_option maxHeartbeats 4000000 in
theorem validStarts_any (B : Nat) (v0 v1 v2 v3 v4 v5 v6 : Value) (G : Gr) (w : World) (h0 : HG B w v0 v1 v2 v3 v4 v5 v6 G) :
    Calls Try.prog 27 #[.agg #[v0, v1, v2, v3, v4, v5, v6]] w fun e w' => e = .returned (.bool (allN G.sr.length (sOk G))) ∧ Nx w w' := by
  have HH : Hid (HG B w v0 v1 v2 v3 v4 v5 v6 G) := h0
  obtain ⟨⟨a0, c0, rfl, hn0, hk0⟩, ⟨a1, c1, rfl, hn1, hk1⟩, ⟨a2, c2, rfl, hn2, hk2⟩, ⟨a3, c3, rfl, hn3, hk3⟩, ⟨a4, c4, rfl, hn4, hk4⟩, ⟨a5, c5, rfl, hn5, hk5⟩, ⟨a6, c6, rfl, hn6, hk6⟩⟩ := h0
  have HM0 : Hid (G.eo.length ≤ maxLen) := hn0
  have HM5 : Hid (G.sr.length ≤ maxLen) := hn5
  unfold maxLen at hn0 hn1 hn2 hn3 hn4 hn5 hn6
  generalize hz0 : G.eo.length = n0 at *
  have Z0 : Hid (G.eo.length = n0) := hz0
  clear hz0
  generalize hz1 : G.so.length = n1 at *
  have Z1 : Hid (G.so.length = n1) := hz1
  clear hz1
  generalize hz2 : G.fi.length = n2 at *
  have Z2 : Hid (G.fi.length = n2) := hz2
  clear hz2
  generalize hz3 : G.tt.length = n3 at *
  have Z3 : Hid (G.tt.length = n3) := hz3
  clear hz3
  generalize hz4 : G.co.length = n4 at *
  have Z4 : Hid (G.co.length = n4) := hz4
  clear hz4
  generalize hz5 : G.sr.length = n5 at *
  have Z5 : Hid (G.sr.length = n5) := hz5
  clear hz5
  generalize hz6 : G.we.length = n6 at *
  have Z6 : Hid (G.we.length = n6) := hz6
  clear hz6
  go_enter Try.func27, Try.ntmps27
  go_wp2
  go_loopw [8] (fun i wr => ∃ k : Nat, k ≤ n5 ∧ i = .int .i64 k ∧ Hid (allTo (sOk G) k) ∧ Hid (Nx (w.alloc (.cells #[.slice a0 n0 c0, .slice a1 n1 c1, .slice a2 n2 c2, .slice a3 n3 c3, .slice a4 n4 c4, .slice a5 n5 c5, .slice a6 n6 c6] 27)) wr)) (fun i _ => n5 - (intOf i).toNat)
  case atStart => exact ⟨0, Nat.zero_le _, rfl, allTo_zero _, Nx.refl _⟩
  obtain ⟨k, hkn, rfl, HA, HN⟩ := hrel
  have BA := (Blk.new w #[.slice a0 n0 c0, .slice a1 n1 c1, .slice a2 n2 c2, .slice a3 n3 c3, .slice a4 n4 c4, .slice a5 n5 c5, .slice a6 n6 c6] 27 _ rfl).next HN.out
  have HW : Hid (Nx w wr) := (box1 _ _).trans HN.out
  have k0 := BA.cell (i := 0) rfl
  have k5 := BA.cell (i := 5) rfl
  have HMX : Hid (n0 ≤ maxLen) := HM0
  by_cases hlt : k < n5
  · obtain ⟨b', off', rfl, _, hb', hc'⟩ := hk5 (by omega)
    have hlt' : (k : Int) < n5 := by omega
    have y0 := cell_next HW.out hb' (hc' k hlt)
    have HSD : Hid (sOk G k = (inZ (iat G.sr k) n0 && (iat G.eo (iat G.sr k).toNat == (k : Int)))) := by unfold Hid sOk inZ; rw [← Z0.out]
    clear BA hc' hk1 hk2 hk3 hk4 hk5 hk6
    by_cases g1 : inZ (iat G.sr k) n0 = true
    · obtain ⟨p0, p1⟩ := inZ_at g1
      obtain ⟨b, off, rfl, _, hb, hc⟩ := hk0 (by omega)
      have x0 := cell_next HW.out hb (hc (iat G.sr k).toNat (by omega))
      clear hc hk0
      by_cases g2 : iat G.eo (iat G.sr k).toNat = (k : Int)
      · have f2 : (iat G.eo (iat G.sr k).toNat != (k : Int)) = false := by simp [g2]
        have HF : Hid (sOk G k = true) := by unfold Hid; rw [HSD.out, g1]; simp [g2]
        clear g2
        go_wp2_with (go_at_call 32; refine (withinZ_any _ _ _ (by omega) (by omega)).mono ?_; rintro e w' ⟨rfl, rfl⟩)
        go_roundw
        case rel => exact ⟨k + 1, by omega, by go_num, allTo_succ HA.out HF.out, HN.out⟩
        case measure => simp [intOf]; omega
      · have f2 : (iat G.eo (iat G.sr k).toNat != (k : Int)) = true := by simp [g2]
        have HF : Hid (sOk G k = false) := by unfold Hid; rw [HSD.out]; simp [g2]
        clear g2
        go_wp2_with (go_at_call 32; refine (withinZ_any _ _ _ (by omega) (by omega)).mono ?_; rintro e w' ⟨rfl, rfl⟩)
        go_ret
        exact ⟨ret_bool (by exact (allN_no hlt HF.out).symm), HW.out⟩
    · have g1' : inZ (iat G.sr k) n0 = false := by simpa using g1
      have HF : Hid (sOk G k = false) := by unfold Hid; rw [HSD.out]; simp [g1']
      clear g1
      go_wp2_with (go_at_call 32; refine (withinZ_any _ _ _ (by omega) (by omega)).mono ?_; rintro e w' ⟨rfl, rfl⟩)
      go_ret
      exact ⟨ret_bool (by exact (allN_no hlt HF.out).symm), HW.out⟩
  · go_wp2
    go_ret
    exact ⟨ret_bool (by exact (allN_yes (by omega) HA.out).symm), HW.out⟩

set_option maxHeartbeats 4000000 in
theorem validArcs_any (B : Nat) (v0 v1 v2 v3 v4 v5 v6 : Value) (G : Gr) (w : World) (h0 : HG B w v0 v1 v2 v3 v4 v5 v6 G) :
    Calls Try.prog 29 #[.agg #[v0, v1, v2, v3, v4, v5, v6]] w fun e w' => e = .returned (.bool (vAr G)) ∧ Nx w w' := by
  have HH : Hid (HG B w v0 v1 v2 v3 v4 v5 v6 G) := h0
  obtain ⟨⟨a0, c0, rfl, hn0, hk0⟩, ⟨a1, c1, rfl, hn1, hk1⟩, ⟨a2, c2, rfl, hn2, hk2⟩, ⟨a3, c3, rfl, hn3, hk3⟩, ⟨a4, c4, rfl, hn4, hk4⟩, ⟨a5, c5, rfl, hn5, hk5⟩, ⟨a6, c6, rfl, hn6, hk6⟩⟩ := h0
  have HM0 : Hid (G.eo.length ≤ maxLen) := hn0
  have HM5 : Hid (G.sr.length ≤ maxLen) := hn5
  unfold maxLen at hn0 hn1 hn2 hn3 hn4 hn5 hn6
  generalize hz0 : G.eo.length = n0 at *
  have Z0 : Hid (G.eo.length = n0) := hz0
  clear hz0
  generalize hz1 : G.so.length = n1 at *
  have Z1 : Hid (G.so.length = n1) := hz1
  clear hz1
  generalize hz2 : G.fi.length = n2 at *
  have Z2 : Hid (G.fi.length = n2) := hz2
  clear hz2
  generalize hz3 : G.tt.length = n3 at *
  have Z3 : Hid (G.tt.length = n3) := hz3
  clear hz3
  generalize hz4 : G.co.length = n4 at *
  have Z4 : Hid (G.co.length = n4) := hz4
  clear hz4
  generalize hz5 : G.sr.length = n5 at *
  have Z5 : Hid (G.sr.length = n5) := hz5
  clear hz5
  generalize hz6 : G.we.length = n6 at *
  have Z6 : Hid (G.we.length = n6) := hz6
  clear hz6
  by_cases e1 : n3 ≤ 40000
  case neg =>
    have d1 : decide (40000 < (n3 : Int)) = true := by simp; omega
    have HF : Hid (false = vAr G) := by unfold Hid vAr; rw [Z3.out, Z4.out]; simp [e1]
    go_enter Try.func29, Try.ntmps29
    go_wp2
    go_ret
    exact ⟨ret_bool HF.out, box1 _ _⟩
  have d1 : decide (40000 < (n3 : Int)) = false := by simp; omega
  by_cases e2 : n3 = n4
  case neg =>
    have d2 : ((n4 : Int) != (n3 : Int)) = true := by simp; omega
    have HF : Hid (false = vAr G) := by unfold Hid vAr; rw [Z3.out, Z4.out]; simp [Ne.symm e2]
    go_enter Try.func29, Try.ntmps29
    go_wp2
    go_ret
    exact ⟨ret_bool HF.out, box1 _ _⟩
  subst e2
  have d2 : ((n3 : Int) != (n3 : Int)) = false := by simp
  have HG1 : Hid (vAr G = allN n3 (tOk G)) := by unfold Hid vAr; rw [Z3.out, Z4.out]; simp [e1]
  go_enter Try.func29, Try.ntmps29
  go_wp2
  clear d1 d2
  go_loopw [21] (fun i wr => ∃ k : Nat, k ≤ n3 ∧ i = .int .i64 k ∧ Hid (allTo (tOk G) k) ∧ Hid (Nx (w.alloc (.cells #[.slice a0 n0 c0, .slice a1 n1 c1, .slice a2 n2 c2, .slice a3 n3 c3, .slice a4 n3 c4, .slice a5 n5 c5, .slice a6 n6 c6] 27)) wr)) (fun i _ => n3 - (intOf i).toNat)
  case atStart => exact ⟨0, Nat.zero_le _, rfl, allTo_zero _, Nx.refl _⟩
  obtain ⟨k, hkn, rfl, HA, HN⟩ := hrel
  have BA := (Blk.new w #[.slice a0 n0 c0, .slice a1 n1 c1, .slice a2 n2 c2, .slice a3 n3 c3, .slice a4 n3 c4, .slice a5 n5 c5, .slice a6 n6 c6] 27 _ rfl).next HN.out
  have HW : Hid (Nx w wr) := (box1 _ _).trans HN.out
  have k0 := BA.cell (i := 0) rfl
  have k3 := BA.cell (i := 3) rfl
  have k4 := BA.cell (i := 4) rfl
  by_cases hlt : k < n3
  · obtain ⟨b, off, rfl, _, hb, hc⟩ := hk3 (by omega)
    obtain ⟨b', off', rfl, _, hb', hc'⟩ := hk4 (by omega)
    have hlt' : (k : Int) < n3 := by omega
    have x0 := cell_next HW.out hb (hc k hlt)
    have y0 := cell_next HW.out hb' (hc' k hlt)
    have HTD : Hid (tOk G k = (inZ (iat G.tt k) n0 && inZ (iat G.co k) 3145729)) := by
      unfold Hid tOk inZ
      rw [← Z0.out]
      by_cases q : iat G.co k ≤ 3145728
      · have q' : iat G.co k < (3145729 : Int) := by omega
        simp [q, q']
      · have q' : ¬ iat G.co k < (3145729 : Int) := by omega
        simp [q, q']
    clear BA hc hc' hk0 hk1 hk2 hk3 hk4 hk5 hk6
    by_cases g1 : inZ (iat G.tt k) n0 = true
    · by_cases g2 : inZ (iat G.co k) 3145729 = true
      · have HF : Hid (tOk G k = true) := by unfold Hid; rw [HTD.out, g1, g2]; rfl
        go_wp2_with fail
        refine (withinZ_any _ (n0 : Int) _ (by omega) (by omega)).mono ?_
        rintro e w' ⟨rfl, rfl⟩
        go_wp2_with fail
        refine (withinZ_any _ 3145729 _ (by omega) (by omega)).mono ?_
        rintro e w' ⟨rfl, rfl⟩
        go_wp2
        go_roundw
        case rel => exact ⟨k + 1, by omega, by go_num, allTo_succ HA.out HF.out, HN.out⟩
        case measure => simp [intOf]; omega
      · have g2' : inZ (iat G.co k) 3145729 = false := by simpa using g2
        have HF : Hid (tOk G k = false) := by unfold Hid; rw [HTD.out, g2']; simp
        clear g2
        go_wp2_with fail
        refine (withinZ_any _ (n0 : Int) _ (by omega) (by omega)).mono ?_
        rintro e w' ⟨rfl, rfl⟩
        go_wp2_with fail
        refine (withinZ_any _ 3145729 _ (by omega) (by omega)).mono ?_
        rintro e w' ⟨rfl, rfl⟩
        go_wp2
        go_ret
        exact ⟨ret_bool (by rw [HG1.out]; exact (allN_no hlt HF.out).symm), HW.out⟩
    · have g1' : inZ (iat G.tt k) n0 = false := by simpa using g1
      have HF : Hid (tOk G k = false) := by unfold Hid; rw [HTD.out, g1']; simp
      clear g1
      go_wp2_with fail
      refine (withinZ_any _ (n0 : Int) _ (by omega) (by omega)).mono ?_
      rintro e w' ⟨rfl, rfl⟩
      go_wp2
      go_ret
      exact ⟨ret_bool (by rw [HG1.out]; exact (allN_no hlt HF.out).symm), HW.out⟩
  · go_wp2
    go_ret
    exact ⟨ret_bool (by rw [HG1.out]; exact (allN_yes (by omega) HA.out).symm), HW.out⟩

set_option maxHeartbeats 4000000 in
theorem validFirst_any (B : Nat) (v0 v1 v2 v3 v4 v5 v6 : Value) (G : Gr) (w : World) (h0 : HG B w v0 v1 v2 v3 v4 v5 v6 G) (hs : SmallG G) :
    Calls Try.prog 28 #[.agg #[v0, v1, v2, v3, v4, v5, v6]] w fun e w' => e = .returned (.bool (vFi G)) ∧ Nx w w' := by
  have hsm := hs.s0
  have HH : Hid (HG B w v0 v1 v2 v3 v4 v5 v6 G) := h0
  obtain ⟨⟨a0, c0, rfl, hn0, hk0⟩, ⟨a1, c1, rfl, hn1, hk1⟩, ⟨a2, c2, rfl, hn2, hk2⟩, ⟨a3, c3, rfl, hn3, hk3⟩, ⟨a4, c4, rfl, hn4, hk4⟩, ⟨a5, c5, rfl, hn5, hk5⟩, ⟨a6, c6, rfl, hn6, hk6⟩⟩ := h0
  have HM0 : Hid (G.eo.length ≤ maxLen) := hn0
  have HM5 : Hid (G.sr.length ≤ maxLen) := hn5
  unfold maxLen at hn0 hn1 hn2 hn3 hn4 hn5 hn6
  generalize hz0 : G.eo.length = n0 at *
  have Z0 : Hid (G.eo.length = n0) := hz0
  clear hz0
  generalize hz1 : G.so.length = n1 at *
  have Z1 : Hid (G.so.length = n1) := hz1
  clear hz1
  generalize hz2 : G.fi.length = n2 at *
  have Z2 : Hid (G.fi.length = n2) := hz2
  clear hz2
  generalize hz3 : G.tt.length = n3 at *
  have Z3 : Hid (G.tt.length = n3) := hz3
  clear hz3
  generalize hz4 : G.co.length = n4 at *
  have Z4 : Hid (G.co.length = n4) := hz4
  clear hz4
  generalize hz5 : G.sr.length = n5 at *
  have Z5 : Hid (G.sr.length = n5) := hz5
  clear hz5
  generalize hz6 : G.we.length = n6 at *
  have Z6 : Hid (G.we.length = n6) := hz6
  clear hz6
  have hw0 : IntKind.i64.wrap ((n0 : Int) + 1) = (n0 : Int) + 1 := by rw [IntKind.wrap_i64]; omega
  by_cases e1 : n2 = n0 + 1
  case neg =>
    have d1 : ((n2 : Int) == (n0 : Int) + 1) = false := by simp; omega
    have HF : Hid (false = vFi G) := by unfold Hid vFi; rw [Z2.out, Z0.out]; simp [e1]
    clear e1
    go_enter Try.func28, Try.ntmps28
    go_wp2
    go_quiet (fail)
    go_wp2
    go_ret
    exact ⟨ret_bool HF.out, (box1 _ _).trans ⟨rfl, rfl, rfl, Nat.le_refl _, fun _ _ => rfl⟩⟩
  subst e1
  have d1 : ((n0 : Int) + 1 == (n0 : Int) + 1) = true := by simp
  obtain ⟨b, off, rfl, _, hb, hc⟩ := hk2 (by omega)
  have HF2 : Hid (vFi G = ((iat G.fi 0 == 0) && (allN n0 (leI G.fi) && (iat G.fi n0 == (n3 : Int))))) := by unfold Hid vFi; rw [Z2.out, Z0.out, Z3.out]; simp
  have hl0 : (0 : Int) < (n0 : Int) + 1 := by omega
  have hl1 : (n0 : Int) < (n0 : Int) + 1 := by omega
  go_enter Try.func28, Try.ntmps28
  go_upto_region 2 with fail
  generalize hW0 : (w.alloc (.cells #[.slice a0 n0 c0, .slice a1 n1 c1, .slice (some ⟨b, off, none⟩) (n0 + 1) c2, .slice a3 n3 c3, .slice a4 n4 c4, .slice a5 n5 c5, .slice a6 n6 c6] 27)) = W0 at *
  have HW0 : Hid (Nx w W0) := by unfold Hid; rw [← hW0]; exact box1 _ _
  have BA : Blk W0 w.heap.size #[.slice a0 n0 c0, .slice a1 n1 c1, .slice (some ⟨b, off, none⟩) (n0 + 1) c2, .slice a3 n3 c3, .slice a4 n4 c4, .slice a5 n5 c5, .slice a6 n6 c6] := by rw [← hW0]; exact Blk.new w #[.slice a0 n0 c0, .slice a1 n1 c1, .slice (some ⟨b, off, none⟩) (n0 + 1) c2, .slice a3 n3 c3, .slice a4 n4 c4, .slice a5 n5 c5, .slice a6 n6 c6] 27 _ rfl
  clear hW0
  have CG : Hid (∀ d os, Calls Try.prog 41 #[.slice (some ⟨b, off, none⟩) (n0 + 1) c2] (Sort.grow (redrawn W0 d) os) fun e w'' => e = .returned (.bool (allN n0 (leI G.fi))) ∧ ∃ p : Regrown, w'' = Sort.grow (redrawn W0 p.d) p.os) :=
    fun d os => Calls.regrown_of (isSorted_any B _ G.fi n0 _ ((HH.out.h2.next HW0.out).next (below_regrown W0 d os)) Z2.out)
  have x0' : W0.cell? ⟨b, off, none⟩ = some (.int .i64 (iat G.fi 0)) := cell_next HW0.out hb (hc 0 (by omega))
  have x1' : W0.cell? ⟨b, off + n0, none⟩ = some (.int .i64 (iat G.fi n0)) := cell_next HW0.out hb (hc n0 (by omega))
  have x0 := cell_regrown x0'
  have x1 := cell_regrown x1'
  have K2 := cell_regrown (BA.cell (i := 2) rfl)
  have K3 := cell_regrown (BA.cell (i := 3) rfl)
  clear x0' x1' BA hc hk0 hk1 hk2 hk3 hk4 hk5 hk6
  cases g1 : (iat G.fi 0 == 0)
  case false =>
    have HF : Hid (false = vFi G) := by unfold Hid; rw [HF2.out, g1]; rfl
    go_wp2
    refine wp_region_quiet_below (by kernel_rfl) (by kernel_rfl) ?_
    repeat (go_big_quiet_step (exact CG.out _ _))
    refine wpQuiet_nil ?_
    intro _ hw'
    obtain ⟨⟨dq, osq⟩, hw''⟩ := hw'
    subst hw''
    have HB : Hid (Nx W0 (Sort.grow (redrawn W0 dq) osq)) := below_regrown W0 dq osq
    generalize hwq : Sort.grow (redrawn W0 dq) osq = wq at *
    clear hwq
    go_wp2
    go_ret
    exact ⟨ret_bool HF.out, HW0.out.trans HB.out⟩
  rw [g1] at HF2
  cases g2 : allN n0 (leI G.fi)
  case false =>
    rw [g2] at CG HF2
    have HF : Hid (false = vFi G) := by unfold Hid; rw [HF2.out]; rfl
    clear g2
    go_wp2
    refine wp_region_quiet_below (by kernel_rfl) (by kernel_rfl) ?_
    repeat (go_big_quiet_step (exact CG.out _ _))
    refine wpQuiet_nil ?_
    intro _ hw'
    obtain ⟨⟨dq, osq⟩, hw''⟩ := hw'
    subst hw''
    have HB : Hid (Nx W0 (Sort.grow (redrawn W0 dq) osq)) := below_regrown W0 dq osq
    generalize hwq : Sort.grow (redrawn W0 dq) osq = wq at *
    clear hwq
    go_wp2
    go_ret
    exact ⟨ret_bool HF.out, HW0.out.trans HB.out⟩
  rw [g2] at CG HF2
  clear g2
  cases g3 : (iat G.fi n0 == (n3 : Int))
  case false =>
    have HF : Hid (false = vFi G) := by unfold Hid; rw [HF2.out, g3]; rfl
    go_wp2
    refine wp_region_quiet_below (by kernel_rfl) (by kernel_rfl) ?_
    repeat (go_big_quiet_step (exact CG.out _ _))
    refine wpQuiet_nil ?_
    intro _ hw'
    obtain ⟨⟨dq, osq⟩, hw''⟩ := hw'
    subst hw''
    have HB : Hid (Nx W0 (Sort.grow (redrawn W0 dq) osq)) := below_regrown W0 dq osq
    generalize hwq : Sort.grow (redrawn W0 dq) osq = wq at *
    clear hwq
    go_wp2
    go_ret
    exact ⟨ret_bool HF.out, HW0.out.trans HB.out⟩
  case true =>
    have HF : Hid (true = vFi G) := by unfold Hid; rw [HF2.out, g3]; rfl
    go_wp2
    refine wp_region_quiet_below (by kernel_rfl) (by kernel_rfl) ?_
    repeat (go_big_quiet_step (exact CG.out _ _))
    refine wpQuiet_nil ?_
    intro _ hw'
    obtain ⟨⟨dq, osq⟩, hw''⟩ := hw'
    subst hw''
    have HB : Hid (Nx W0 (Sort.grow (redrawn W0 dq) osq)) := below_regrown W0 dq osq
    generalize hwq : Sort.grow (redrawn W0 dq) osq = wq at *
    clear hwq
    go_wp2
    go_ret
    exact ⟨ret_bool HF.out, HW0.out.trans HB.out⟩
end Go.Proofs.Ytdjmlpgdaanipaa
