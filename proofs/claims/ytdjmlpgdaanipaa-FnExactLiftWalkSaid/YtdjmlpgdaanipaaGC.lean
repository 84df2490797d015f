import Derived.Test.YtdjmlpgdaanipaaGB
namespace Go.Proofs.Ytdjmlpgdaanipaa
open Go.RowKit
set_option linter.unusedVariables false
set_option maxRecDepth 100000

def cOne (G : Gr) : Bool := decide (G.sr.length ≤ 4000) && (G.we.length == G.sr.length) && decide (G.eo.length ≤ 6000) && (G.so.length == G.eo.length)
def wOk (G : Gr) (i : Nat) : Bool := inB (iat G.we i)
def pairLt (G : Gr) (i j : Nat) : Bool := decide (iat G.eo i < iat G.eo j) || (iat G.eo i == iat G.eo j && decide (iat G.so i < iat G.so j))
def vOk (G : Gr) (i : Nat) : Bool := decide (0 ≤ iat G.eo i) && decide (iat G.eo i < (G.sr.length : Int)) && decide (0 ≤ iat G.so i) && decide (iat G.so i < 2000) && (i == 0 || pairLt G (i - 1) i)
def sOk (G : Gr) (i : Nat) : Bool := decide (0 ≤ iat G.sr i) && decide (iat G.sr i < (G.eo.length : Int)) && (iat G.eo (iat G.sr i).toNat == (i : Int))
def cFive (G : Gr) : Bool := (G.fi.length == G.eo.length + 1) && (iat G.fi 0 == 0) && (iat G.fi G.eo.length == (G.tt.length : Int))
def fOk (G : Gr) (i : Nat) : Bool := decide (iat G.fi i ≤ iat G.fi (i + 1))
def cSeven (G : Gr) : Bool := (G.co.length == G.tt.length) && decide (G.tt.length ≤ 40000)
def tOk (G : Gr) (k : Nat) : Bool := decide (0 ≤ iat G.tt k) && decide (iat G.tt k < (G.eo.length : Int)) && decide (0 ≤ iat G.co k) && decide (iat G.co k ≤ 3145728)
/-- the edge to which an arc goes -/
def goal (G : Gr) (k : Nat) : Int := iat G.eo (iat G.tt k).toNat
def oAt (G : Gr) (i k : Nat) : Bool := decide ((k : Int) ≤ iat G.fi i) || decide (goal G (k - 1) < goal G k)
def oOk (G : Gr) (i : Nat) : Bool := allN (iat G.fi (i + 1)).toNat (oAt G i)
def validG (G : Gr) : Bool := cOne G && (allN G.we.length (wOk G) && (allN G.eo.length (vOk G) && (allN G.sr.length (sOk G) && (cFive G && (allN G.eo.length (fOk G) && (cSeven G && (allN G.tt.length (tOk G) && allN G.eo.length (oOk G))))))))
theorem vg_c1 {G : Gr} (h : cOne G = false) : false = validG G := by simp [validG, h]
theorem vg_w {G : Gr} {k n : Nat} (hn : G.we.length = n) (hk : k < n) (h : wOk G k = false) : false = validG G := by subst hn; simp [validG, allN_no hk h]
theorem vg_v {G : Gr} {k n : Nat} (hn : G.eo.length = n) (hk : k < n) (h : vOk G k = false) : false = validG G := by subst hn; simp [validG, allN_no hk h]
theorem vg_s {G : Gr} {k n : Nat} (hn : G.sr.length = n) (hk : k < n) (h : sOk G k = false) : false = validG G := by subst hn; simp [validG, allN_no hk h]
theorem vg_c5 {G : Gr} (h : cFive G = false) : false = validG G := by simp [validG, h]
theorem vg_f {G : Gr} {k n : Nat} (hn : G.eo.length = n) (hk : k < n) (h : fOk G k = false) : false = validG G := by subst hn; simp [validG, allN_no hk h]
theorem vg_c7 {G : Gr} (h : cSeven G = false) : false = validG G := by simp [validG, h]
theorem vg_t {G : Gr} {k n : Nat} (hn : G.tt.length = n) (hk : k < n) (h : tOk G k = false) : false = validG G := by subst hn; simp [validG, allN_no hk h]
theorem vg_o {G : Gr} {k n : Nat} (hn : G.eo.length = n) (hk : k < n) (h : oOk G k = false) : false = validG G := by subst hn; simp [validG, allN_no hk h]
theorem vg_yes {G : Gr} (h1 : cOne G = true) (h2 : allN G.we.length (wOk G) = true) (h3 : allN G.eo.length (vOk G) = true) (h4 : allN G.sr.length (sOk G) = true) (h5 : cFive G = true) (h6 : allN G.eo.length (fOk G) = true) (h7 : cSeven G = true) (h8 : allN G.tt.length (tOk G) = true) (h9 : allN G.eo.length (oOk G) = true) : true = validG G := by
  simp [validG, h1, h2, h3, h4, h5, h6, h7, h8, h9]
theorem allN_at {n : Nat} {p : Nat → Bool} (h : allN n p = true) {k : Nat} (hk : k < n) : p k = true := by
  unfold allN at h; rw [List.all_eq_true] at h; exact h k (List.mem_range.2 hk)
theorem fi_mono {G : Gr} {n : Nat} (h : allN n (fOk G) = true) {i d : Nat} (hi : i + d ≤ n) : iat G.fi i ≤ iat G.fi (i + d) := by
  induction d with
  | zero => exact Int.le_refl _
  | succ d ih =>
    have h1 := ih (by omega)
    have h2 := allN_at h (k := i + d) (by omega)
    simp only [fOk, decide_eq_true_eq] at h2
    rw [← Nat.add_assoc]
    omega
/-- the firsts lie between 0 and the number of arcs -/
theorem fi_bd {G : Gr} {n m : Nat} (hn : G.eo.length = n) (hm : G.tt.length = m) (h5 : cFive G = true) (h6 : allN n (fOk G) = true) {i : Nat} (hi : i ≤ n) : 0 ≤ iat G.fi i ∧ iat G.fi i ≤ m := by
  subst hn hm
  simp only [cFive, Bool.and_eq_true, beq_iff_eq] at h5
  have a := fi_mono h6 (i := 0) (d := i) (by omega)
  have b := fi_mono h6 (i := i) (d := G.eo.length - i) (by omega)
  rw [Nat.zero_add] at a
  rw [show i + (G.eo.length - i) = G.eo.length by omega] at b
  omega
theorem tt_bd {G : Gr} {n m : Nat} (hn : G.eo.length = n) (h8 : allN m (tOk G) = true) {k : Nat} (hk : k < m) : 0 ≤ iat G.tt k ∧ iat G.tt k < n := by
  subst hn
  have := allN_at h8 hk
  simp only [tOk, Bool.and_eq_true, decide_eq_true_eq] at this
  omega

set_option maxHeartbeats 8000000 in
theorem specValidG_any (B : Nat) (v0 v1 v2 v3 v4 v5 v6 : Value) (G : Gr) (w : World) (h0 : HG B w v0 v1 v2 v3 v4 v5 v6 G) :
    Calls Try.prog 8 #[.agg #[v0, v1, v2, v3, v4, v5, v6]] w fun e w' => e = .returned (.bool (validG G)) ∧ Nx w w' := by
  obtain ⟨⟨a0, c0, rfl, hn0, hk0⟩, ⟨a1, c1, rfl, hn1, hk1⟩, ⟨a2, c2, rfl, hn2, hk2⟩, ⟨a3, c3, rfl, hn3, hk3⟩, ⟨a4, c4, rfl, hn4, hk4⟩, ⟨a5, c5, rfl, hn5, hk5⟩, ⟨a6, c6, rfl, hn6, hk6⟩⟩ := h0
  unfold maxLen at hn0 hn1 hn2 hn3 hn4 hn5 hn6
  generalize hz0 : G.eo.length = n0 at *
  have Z0 : Hid (G.eo.length = n0) := hz0
  clear hz0
  generalize hz1 : G.so.length = n1 at *
  have Z1 : Hid (G.so.length = n1) := hz1
  clear hz1
  generalize hz2 : G.fi.length = n2 at *
  have Z2 : Hid (G.fi.length = n2) := hz2
  clear hz2
  generalize hz3 : G.tt.length = n3 at *
  have Z3 : Hid (G.tt.length = n3) := hz3
  clear hz3
  generalize hz4 : G.co.length = n4 at *
  have Z4 : Hid (G.co.length = n4) := hz4
  clear hz4
  generalize hz5 : G.sr.length = n5 at *
  have Z5 : Hid (G.sr.length = n5) := hz5
  clear hz5
  generalize hz6 : G.we.length = n6 at *
  have Z6 : Hid (G.we.length = n6) := hz6
  clear hz6
  by_cases e1 : n5 ≤ 4000
  case neg =>
    have d1 : decide (4000 < (n5 : Int)) = true := by simp; omega
    have HF : Hid (false = validG G) := vg_c1 (by simp [cOne, Z5.out, Z6.out, Z0.out, Z1.out, e1])
    go_enter Try.func8, Try.ntmps8
    go_wp2
    go_ret
    exact ⟨ret_bool HF.out, box1 _ _⟩
  have d1 : decide (4000 < (n5 : Int)) = false := by simp; omega
  by_cases e2 : n5 = n6
  case neg =>
    have d2 : ((n6 : Int) != (n5 : Int)) = true := by simp; omega
    have HF : Hid (false = validG G) := vg_c1 (by simp [cOne, Z5.out, Z6.out, Z0.out, Z1.out, Ne.symm e2])
    go_enter Try.func8, Try.ntmps8
    go_wp2
    go_ret
    exact ⟨ret_bool HF.out, box1 _ _⟩
  subst e2
  have d2 : ((n5 : Int) != (n5 : Int)) = false := by simp
  by_cases e3 : n0 ≤ 6000
  case neg =>
    have d3 : decide (6000 < (n0 : Int)) = true := by simp; omega
    have HF : Hid (false = validG G) := vg_c1 (by simp [cOne, Z5.out, Z6.out, Z0.out, Z1.out, e3])
    go_enter Try.func8, Try.ntmps8
    go_wp2
    go_ret
    exact ⟨ret_bool HF.out, box1 _ _⟩
  have d3 : decide (6000 < (n0 : Int)) = false := by simp; omega
  by_cases e4 : n0 = n1
  case neg =>
    have d4 : ((n1 : Int) != (n0 : Int)) = true := by simp; omega
    have HF : Hid (false = validG G) := vg_c1 (by simp [cOne, Z5.out, Z6.out, Z0.out, Z1.out, Ne.symm e4])
    go_enter Try.func8, Try.ntmps8
    go_wp2
    go_ret
    exact ⟨ret_bool HF.out, box1 _ _⟩
  subst e4
  have d4 : ((n0 : Int) != (n0 : Int)) = false := by simp
  have H1 : Hid (cOne G = true) := by unfold Hid; simp [cOne, Z5.out, Z6.out, Z0.out, Z1.out, e1, e3]
  go_enter Try.func8, Try.ntmps8
  go_wp2
  clear d1 d2 d3 d4
  go_loopw [5] (fun i wr => ∃ k : Nat, k ≤ n5 ∧ i = .int .i64 k ∧ Hid (allTo (wOk G) k) ∧ Hid (Nx (w.alloc (.cells #[.slice a0 n0 c0, .slice a1 n0 c1, .slice a2 n2 c2, .slice a3 n3 c3, .slice a4 n4 c4, .slice a5 n5 c5, .slice a6 n5 c6] 27)) wr)) (fun i _ => n5 - (intOf i).toNat)
  case atStart => exact ⟨0, Nat.zero_le _, rfl, allTo_zero _, Nx.refl _⟩
  obtain ⟨k, hkn, rfl, HA, HN⟩ := hrel
  have BA := (Blk.new w #[.slice a0 n0 c0, .slice a1 n0 c1, .slice a2 n2 c2, .slice a3 n3 c3, .slice a4 n4 c4, .slice a5 n5 c5, .slice a6 n5 c6] 27 _ rfl).next HN.out
  have HW : Hid (Nx w wr) := (box1 _ _).trans HN.out
  have k6 := BA.cell (i := 6) rfl
  by_cases hlt : k < n5
  · obtain ⟨b, off, rfl, _, hb, hc⟩ := hk6 (by omega)
    have hlt' : (k : Int) < n5 := by omega
    have x0 := cell_next HW.out hb (hc k hlt)
    clear BA hc hk0 hk1 hk2 hk3 hk4 hk5 hk6
    by_cases hin : inB (iat G.we k) = true
    · have HF : Hid (wOk G k = true) := hin
      go_wp2_with (go_at_call 24; refine (l1In_any _ _).mono ?_; rintro e w' ⟨rfl, rfl⟩)
      go_roundw
      case rel => exact ⟨k + 1, by omega, by go_num, allTo_succ HA.out HF.out, HN⟩
      case measure => simp [intOf]; omega
    · have hin' : inB (iat G.we k) = false := by simpa using hin
      have HF : Hid (false = validG G) := vg_w Z6.out hlt hin'
      clear hin
      go_wp2_with (go_at_call 24; refine (l1In_any _ _).mono ?_; rintro e w' ⟨rfl, rfl⟩)
      go_ret
      exact ⟨ret_bool HF.out, HW.out⟩
  have H2 : Hid (allN G.we.length (wOk G) = true) := allN_yes (by rw [Z6.out]; omega) HA.out
  have ek : n5 = k := by omega
  subst ek
  clear HA hlt hkn BA hk6
  go_wp2
  clear k6
  go_loopw [6] (fun i wr => ∃ k : Nat, k ≤ n0 ∧ i = .int .i64 k ∧ Hid (allTo (vOk G) k) ∧ Hid (Nx (w.alloc (.cells #[.slice a0 n0 c0, .slice a1 n0 c1, .slice a2 n2 c2, .slice a3 n3 c3, .slice a4 n4 c4, .slice a5 n5 c5, .slice a6 n5 c6] 27)) wr)) (fun i _ => n0 - (intOf i).toNat)
  case atStart => exact ⟨0, Nat.zero_le _, rfl, allTo_zero _, HN⟩
  clear HN HW
  obtain ⟨k, hkn, rfl, HA, HN⟩ := hrel
  have BA := (Blk.new w #[.slice a0 n0 c0, .slice a1 n0 c1, .slice a2 n2 c2, .slice a3 n3 c3, .slice a4 n4 c4, .slice a5 n5 c5, .slice a6 n5 c6] 27 _ rfl).next HN.out
  have HW : Hid (Nx w wr) := (box1 _ _).trans HN.out
  have k0 := BA.cell (i := 0) rfl
  have k1 := BA.cell (i := 1) rfl
  by_cases hlt : k < n0
  · obtain ⟨b, off, rfl, _, hb, hc⟩ := hk0 (by omega)
    obtain ⟨b', off', rfl, _, hb', hc'⟩ := hk1 (by omega)
    have hlt' : (k : Int) < n0 := by omega
    have x0 := cell_next HW.out hb (hc k hlt)
    have y0 := cell_next HW.out hb' (hc' k (by omega))
    have HVD : Hid (vOk G k = (decide (0 ≤ iat G.eo k) && decide (iat G.eo k < (n5 : Int)) && decide (0 ≤ iat G.so k) && decide (iat G.so k < 2000) && (k == 0 || pairLt G (k - 1) k))) := by unfold Hid; rw [← Z5.out]; rfl
    clear BA hk0 hk1 hk2 hk3 hk4 hk5
    by_cases g1 : iat G.eo k < 0
    · have f1 : decide (iat G.eo k < 0) = true := by simpa using g1
      have HF : Hid (false = validG G) := vg_v Z0.out hlt (by rw [HVD.out]; simp; omega)
      clear hc hc' g1
      go_wp2
      go_ret
      exact ⟨ret_bool HF.out, HW.out⟩
    have f1 : decide (iat G.eo k < 0) = false := by simpa using g1
    by_cases g2 : (n5 : Int) ≤ iat G.eo k
    · have f2 : decide ((n5 : Int) ≤ iat G.eo k) = true := by simpa using g2
      have HF : Hid (false = validG G) := vg_v Z0.out hlt (by rw [HVD.out]; simp; omega)
      clear hc hc' g1 g2
      go_wp2
      go_ret
      exact ⟨ret_bool HF.out, HW.out⟩
    have f2 : decide ((n5 : Int) ≤ iat G.eo k) = false := by simpa using g2
    by_cases g3 : iat G.so k < 0
    · have f3 : decide (iat G.so k < 0) = true := by simpa using g3
      have HF : Hid (false = validG G) := vg_v Z0.out hlt (by rw [HVD.out]; simp; omega)
      clear hc hc' g1 g2 g3
      go_wp2
      go_ret
      exact ⟨ret_bool HF.out, HW.out⟩
    have f3 : decide (iat G.so k < 0) = false := by simpa using g3
    by_cases g4 : 2000 ≤ iat G.so k
    · have f4 : decide (2000 ≤ iat G.so k) = true := by simpa using g4
      have HF : Hid (false = validG G) := vg_v Z0.out hlt (by rw [HVD.out]; simp; omega)
      clear hc hc' g1 g2 g3 g4
      go_wp2
      go_ret
      exact ⟨ret_bool HF.out, HW.out⟩
    have f4 : decide (2000 ≤ iat G.so k) = false := by simpa using g4
    have HV2 : Hid (vOk G k = (k == 0 || pairLt G (k - 1) k)) := by
      unfold Hid
      rw [HVD.out]
      have q1 : decide (0 ≤ iat G.eo k) = true := by simp; omega
      have q2 : decide (iat G.eo k < (n5 : Int)) = true := by simp; omega
      have q3 : decide (0 ≤ iat G.so k) = true := by simp; omega
      have q4 : decide (iat G.so k < 2000) = true := by simp; omega
      rw [q1, q2, q3, q4]
      simp
    clear g1 g2 g3 g4 HVD
    by_cases hk : k = 0
    · have HF : Hid (vOk G k = true) := by unfold Hid; rw [HV2.out]; simp [hk]
      have hkq : decide (0 < (k : Int)) = false := by simp; omega
      have hkp : decide (0 < k) = false := by simp; omega
      clear hc hc' hk
      go_wp2
      go_quiet (fail)
      go_wp2
      go_roundw
      case rel => exact ⟨k + 1, by omega, by go_num, allTo_succ HA.out HF.out, HN.out.trans ⟨rfl, rfl, rfl, Nat.le_refl _, fun _ _ => rfl⟩⟩
      case measure => simp [intOf]; omega
    obtain ⟨j, rfl⟩ : ∃ j, k = j + 1 := ⟨k - 1, by omega⟩
    have hjp : decide (0 < (j : Int) + 1) = true := by rw [decide_eq_true_iff]; omega
    have hwj := wrapJ j (by omega)
    have hjl : (j : Int) < n0 := by omega
    have x1 := cell_next HW.out hb (hc j (by omega))
    have y1 := cell_next HW.out hb' (hc' j (by omega))
    have HV3 : Hid (vOk G (j + 1) = pairLt G j (j + 1)) := by unfold Hid; rw [HV2.out]; simp
    clear hc hc' hk HV2
    by_cases g5 : iat G.eo (j + 1) < iat G.eo j
    · have f5 : decide (iat G.eo (j + 1) < iat G.eo j) = true := by simpa using g5
      have HF : Hid (false = validG G) := vg_v Z0.out hlt (by rw [HV3.out]; unfold pairLt; simp; omega)
      clear g5
      go_wp2
      go_quiet (fail)
      go_wp2
      go_ret
      exact ⟨ret_bool HF.out, HW.out.trans ⟨rfl, rfl, rfl, Nat.le_refl _, fun _ _ => rfl⟩⟩
    have f5 : decide (iat G.eo (j + 1) < iat G.eo j) = false := by simpa using g5
    by_cases g6 : iat G.eo (j + 1) = iat G.eo j
    · have f6 : (iat G.eo (j + 1) == iat G.eo j) = true := by simpa using g6
      by_cases g7 : iat G.so (j + 1) ≤ iat G.so j
      · have f7 : decide (iat G.so (j + 1) ≤ iat G.so j) = true := by simpa using g7
        have HF : Hid (false = validG G) := vg_v Z0.out hlt (by rw [HV3.out]; unfold pairLt; simp; omega)
        clear g5 g6 g7
        go_wp2
        go_quiet (fail)
        go_wp2
        go_ret
        exact ⟨ret_bool HF.out, HW.out.trans ⟨rfl, rfl, rfl, Nat.le_refl _, fun _ _ => rfl⟩⟩
      · have f7 : decide (iat G.so (j + 1) ≤ iat G.so j) = false := by simpa using g7
        have HF : Hid (vOk G (j + 1) = true) := by unfold Hid; rw [HV3.out]; unfold pairLt; simp; omega
        clear g5 g6 g7
        go_wp2
        go_quiet (fail)
        go_wp2
        go_roundw
        case rel => exact ⟨j + 1 + 1, by omega, by go_num, allTo_succ HA.out HF.out, HN.out.trans ⟨rfl, rfl, rfl, Nat.le_refl _, fun _ _ => rfl⟩⟩
        case measure => simp [intOf]; omega
    · have f6 : (iat G.eo (j + 1) == iat G.eo j) = false := by simpa using g6
      have HF : Hid (vOk G (j + 1) = true) := by unfold Hid; rw [HV3.out]; unfold pairLt; simp; omega
      clear g5 g6
      go_wp2
      go_quiet (fail)
      go_wp2
      go_roundw
      case rel => exact ⟨j + 1 + 1, by omega, by go_num, allTo_succ HA.out HF.out, HN.out.trans ⟨rfl, rfl, rfl, Nat.le_refl _, fun _ _ => rfl⟩⟩
      case measure => simp [intOf]; omega
  have H3 : Hid (allN G.eo.length (vOk G) = true) := allN_yes (by rw [Z0.out]; omega) HA.out
  have ek : n0 = k := by omega
  subst ek
  clear HA hlt hkn BA hk1 k1
  go_wp2
  clear k0
  go_loopw [7] (fun i wr => ∃ k : Nat, k ≤ n5 ∧ i = .int .i64 k ∧ Hid (allTo (sOk G) k) ∧ Hid (Nx (w.alloc (.cells #[.slice a0 n0 c0, .slice a1 n0 c1, .slice a2 n2 c2, .slice a3 n3 c3, .slice a4 n4 c4, .slice a5 n5 c5, .slice a6 n5 c6] 27)) wr)) (fun i _ => n5 - (intOf i).toNat)
  case atStart => exact ⟨0, Nat.zero_le _, rfl, allTo_zero _, HN⟩
  clear HN HW
  obtain ⟨k, hkn, rfl, HA, HN⟩ := hrel
  have BA := (Blk.new w #[.slice a0 n0 c0, .slice a1 n0 c1, .slice a2 n2 c2, .slice a3 n3 c3, .slice a4 n4 c4, .slice a5 n5 c5, .slice a6 n5 c6] 27 _ rfl).next HN.out
  have HW : Hid (Nx w wr) := (box1 _ _).trans HN.out
  have k0 := BA.cell (i := 0) rfl
  have k5 := BA.cell (i := 5) rfl
  by_cases hlt : k < n5
  · obtain ⟨b', off', rfl, _, hb', hc'⟩ := hk5 (by omega)
    have hlt' : (k : Int) < n5 := by omega
    have y0 := cell_next HW.out hb' (hc' k hlt)
    have HSD : Hid (sOk G k = (decide (0 ≤ iat G.sr k) && decide (iat G.sr k < (n0 : Int)) && (iat G.eo (iat G.sr k).toNat == (k : Int)))) := by unfold Hid; rw [← Z0.out]; rfl
    clear BA hc' hk2 hk3 hk4 hk5
    by_cases g1 : iat G.sr k < 0
    · have f1 : decide (iat G.sr k < 0) = true := by simpa using g1
      have HF : Hid (false = validG G) := vg_s Z5.out hlt (by rw [HSD.out]; simp; omega)
      clear g1 hk0
      go_wp2
      go_quiet (fail)
      go_wp2
      go_ret
      exact ⟨ret_bool HF.out, HW.out.trans ⟨rfl, rfl, rfl, Nat.le_refl _, fun _ _ => rfl⟩⟩
    have f1 : decide (iat G.sr k < 0) = false := by simpa using g1
    by_cases g2 : (n0 : Int) ≤ iat G.sr k
    · have f2 : decide ((n0 : Int) ≤ iat G.sr k) = true := by simpa using g2
      have HF : Hid (false = validG G) := vg_s Z5.out hlt (by rw [HSD.out]; simp; omega)
      clear g1 g2 hk0
      go_wp2
      go_quiet (fail)
      go_wp2
      go_ret
      exact ⟨ret_bool HF.out, HW.out.trans ⟨rfl, rfl, rfl, Nat.le_refl _, fun _ _ => rfl⟩⟩
    obtain ⟨t, ht⟩ : ∃ t : Nat, iat G.sr k = (t : Int) := ⟨(iat G.sr k).toNat, by omega⟩
    have HS2 : Hid (sOk G k = (iat G.eo t == (k : Int))) := by
      unfold Hid
      rw [HSD.out, ht]
      have q1 : decide (0 ≤ (t : Int)) = true := by simp
      have q2 : decide ((t : Int) < (n0 : Int)) = true := by simp; omega
      rw [q1, q2]
      simp
    rw [ht] at y0 f1 g2
    have htn : t < n0 := by omega
    have htn' : (t : Int) < n0 := by omega
    have f2 : decide ((n0 : Int) ≤ (t : Int)) = false := by simp; omega
    obtain ⟨b, off, rfl, _, hb, hc⟩ := hk0 (by omega)
    have x0 := cell_next HW.out hb (hc t htn)
    clear hc g1 g2 ht HSD
    by_cases g3 : iat G.eo t = (k : Int)
    · have f3 : (iat G.eo t != (k : Int)) = false := by simpa using g3
      have HF : Hid (sOk G k = true) := by unfold Hid; rw [HS2.out]; simpa using g3
      clear g3
      go_wp2
      go_quiet (fail)
      go_wp2
      go_roundw
      case rel => exact ⟨k + 1, by omega, by go_num, allTo_succ HA.out HF.out, HN.out.trans ⟨rfl, rfl, rfl, Nat.le_refl _, fun _ _ => rfl⟩⟩
      case measure => simp [intOf]; omega
    · have f3 : (iat G.eo t != (k : Int)) = true := by simpa using g3
      have HF : Hid (false = validG G) := vg_s Z5.out hlt (by rw [HS2.out]; simpa using g3)
      clear g3
      go_wp2
      go_quiet (fail)
      go_wp2
      go_ret
      exact ⟨ret_bool HF.out, HW.out.trans ⟨rfl, rfl, rfl, Nat.le_refl _, fun _ _ => rfl⟩⟩
  have H4 : Hid (allN G.sr.length (sOk G) = true) := allN_yes (by rw [Z5.out]; omega) HA.out
  have ek : n5 = k := by omega
  subst ek
  clear HA hlt hkn hk5 k0
  have k2 := BA.cell (i := 2) rfl
  have k3 := BA.cell (i := 3) rfl
  clear BA
  have HCD : Hid (cFive G = ((n2 == n0 + 1) && (iat G.fi 0 == 0) && (iat G.fi n0 == (n3 : Int)))) := by unfold Hid; rw [← Z0.out, ← Z2.out, ← Z3.out]; rfl
  have hw0 := wrapJ (n0 + 1) (by omega)
  by_cases g1 : n2 = n0 + 1
  case neg =>
    have f1 : ((n2 : Int) != (n0 : Int) + 1) = true := by simp; omega
    have HF : Hid (false = validG G) := vg_c5 (by rw [HCD.out]; simp; omega)
    clear g1 hk0 hk2 hk3 hk4
    go_wp2
    go_quiet (fail)
    go_wp2
    go_ret
    exact ⟨ret_bool HF.out, HW.out.trans ⟨rfl, rfl, rfl, Nat.le_refl _, fun _ _ => rfl⟩⟩
  have f1 : ((n2 : Int) != (n0 : Int) + 1) = false := by simp; omega
  have E2 : Hid (n2 = n0 + 1) := g1
  obtain ⟨b2, o2, ha2, _, hb2, hc2⟩ := hk2 (by omega)
  subst ha2
  have x0 := cell_next HW.out hb2 (hc2 0 (by omega))
  have x1 := cell_next HW.out hb2 (hc2 n0 (by omega))
  have hp1 : (0 : Int) < n2 := by omega
  have hp2 : (n0 : Int) < n2 := by omega
  rw [Nat.add_zero] at x0
  by_cases g2 : iat G.fi 0 = 0
  case neg =>
    have f2 : (iat G.fi 0 != 0) = true := by simpa using g2
    have HF : Hid (false = validG G) := vg_c5 (by rw [HCD.out]; simp; omega)
    clear g1 g2 hk0 hk3 hk4 hc2
    go_wp2
    go_quiet (fail)
    go_wp2
    go_ret
    exact ⟨ret_bool HF.out, HW.out.trans ⟨rfl, rfl, rfl, Nat.le_refl _, fun _ _ => rfl⟩⟩
  have f2 : (iat G.fi 0 != 0) = false := by simpa using g2
  by_cases g3 : iat G.fi n0 = (n3 : Int)
  case neg =>
    have f3 : (iat G.fi n0 != (n3 : Int)) = true := by simpa using g3
    have HF : Hid (false = validG G) := vg_c5 (by rw [HCD.out]; simp; omega)
    clear g1 g2 g3 hk0 hk3 hk4 hc2
    go_wp2
    go_quiet (fail)
    go_wp2
    go_ret
    exact ⟨ret_bool HF.out, HW.out.trans ⟨rfl, rfl, rfl, Nat.le_refl _, fun _ _ => rfl⟩⟩
  have f3 : (iat G.fi n0 != (n3 : Int)) = false := by simpa using g3
  have H5 : Hid (cFive G = true) := by unfold Hid; rw [HCD.out]; simp [g1, g2, g3]
  have HC2 : Hid (∀ i, i < n2 → w.cell? ⟨b2, o2 + i, none⟩ = some (.int .i64 (iat G.fi i))) := hc2
  clear g1 g2 g3 HCD hc2
  go_wp2
  go_quiet (fail)
  go_wp2
  clear f1 f2 f3 x0 x1 k2 k3 k5 hw0
  go_loopw [8] (fun i wr => ∃ k : Nat, k ≤ n0 ∧ i = .int .i64 k ∧ Hid (allTo (fOk G) k) ∧ Hid (Nx (w.alloc (.cells #[.slice a0 n0 c0, .slice a1 n0 c1, .slice (some ⟨b2, o2, none⟩) n2 c2, .slice a3 n3 c3, .slice a4 n4 c4, .slice a5 n5 c5, .slice a6 n5 c6] 27)) wr)) (fun i _ => n0 - (intOf i).toNat)
  case atStart => exact ⟨0, Nat.zero_le _, rfl, allTo_zero _, HN.out.trans ⟨rfl, rfl, rfl, Nat.le_refl _, fun _ _ => rfl⟩⟩
  clear HN HW
  obtain ⟨k, hkn, rfl, HA, HN⟩ := hrel
  have BA := (Blk.new w #[.slice a0 n0 c0, .slice a1 n0 c1, .slice (some ⟨b2, o2, none⟩) n2 c2, .slice a3 n3 c3, .slice a4 n4 c4, .slice a5 n5 c5, .slice a6 n5 c6] 27 _ rfl).next HN.out
  have HW : Hid (Nx w wr) := (box1 _ _).trans HN.out
  have k2 := BA.cell (i := 2) rfl
  clear BA
  by_cases hlt : k < n0
  · have hlt' : (k : Int) < n0 := by omega
    have hl2 : (k : Int) < n2 := by have := E2.out; omega
    have hl3 : (k : Int) + 1 < n2 := by have := E2.out; omega
    have hw1 := wrapJ (k + 1) (by omega)
    have x0 := cell_next HW.out hb2 (HC2.out k (by have := E2.out; omega))
    have x1 := cell_next HW.out hb2 (HC2.out (k + 1) (by have := E2.out; omega))
    clear hk0 hk3 hk4
    by_cases g1 : iat G.fi (k + 1) < iat G.fi k
    · have f1 : decide (iat G.fi (k + 1) < iat G.fi k) = true := by simpa using g1
      have HF : Hid (false = validG G) := vg_f Z0.out hlt (by unfold fOk; simp; omega)
      clear g1
      go_wp2
      go_quiet (fail)
      go_wp2
      go_ret
      exact ⟨ret_bool HF.out, HW.out.trans ⟨rfl, rfl, rfl, Nat.le_refl _, fun _ _ => rfl⟩⟩
    · have f1 : decide (iat G.fi (k + 1) < iat G.fi k) = false := by simpa using g1
      have HF : Hid (fOk G k = true) := by unfold Hid fOk; simp; omega
      clear g1
      go_wp2
      go_quiet (fail)
      go_wp2
      go_roundw
      case rel => exact ⟨k + 1, by omega, by go_num, allTo_succ HA.out HF.out, HN.out.trans ⟨rfl, rfl, rfl, Nat.le_refl _, fun _ _ => rfl⟩⟩
      case measure => simp [intOf]; omega
  have H6 : Hid (allN n0 (fOk G) = true) := allN_yes (by omega) HA.out
  have BA := (Blk.new w #[.slice a0 n0 c0, .slice a1 n0 c1, .slice (some ⟨b2, o2, none⟩) n2 c2, .slice a3 n3 c3, .slice a4 n4 c4, .slice a5 n5 c5, .slice a6 n5 c6] 27 _ rfl).next HN.out
  have ek : n0 = k := by omega
  subst ek
  clear HA hlt hkn k2
  have k3 := BA.cell (i := 3) rfl
  have k4 := BA.cell (i := 4) rfl
  clear BA
  have HCD : Hid (cSeven G = ((n4 == n3) && decide (n3 ≤ 40000))) := by unfold Hid; rw [← Z4.out, ← Z3.out]; rfl
  by_cases g1 : n3 = n4
  case neg =>
    have f1 : ((n4 : Int) != (n3 : Int)) = true := by simp; omega
    have HF : Hid (false = validG G) := vg_c7 (by rw [HCD.out]; simp; omega)
    clear g1 hk0 hk3 hk4
    go_wp2
    go_ret
    exact ⟨ret_bool HF.out, HW.out⟩
  subst g1
  have f1 : ((n3 : Int) != (n3 : Int)) = false := by simp
  by_cases g2 : n3 ≤ 40000
  case neg =>
    have f2 : decide (40000 < (n3 : Int)) = true := by simp; omega
    have HF : Hid (false = validG G) := vg_c7 (by rw [HCD.out]; simp; omega)
    clear g2 hk0 hk3 hk4
    go_wp2
    go_ret
    exact ⟨ret_bool HF.out, HW.out⟩
  have f2 : decide (40000 < (n3 : Int)) = false := by simp; omega
  have H7 : Hid (cSeven G = true) := by unfold Hid; rw [HCD.out]; simp [g2]
  clear HCD
  go_wp2
  clear f1 f2 k3 k4
  go_loopw [9] (fun i wr => ∃ k : Nat, k ≤ n3 ∧ i = .int .i64 k ∧ Hid (allTo (tOk G) k) ∧ Hid (Nx (w.alloc (.cells #[.slice a0 n0 c0, .slice a1 n0 c1, .slice (some ⟨b2, o2, none⟩) n2 c2, .slice a3 n3 c3, .slice a4 n3 c4, .slice a5 n5 c5, .slice a6 n5 c6] 27)) wr)) (fun i _ => n3 - (intOf i).toNat)
  case atStart => exact ⟨0, Nat.zero_le _, rfl, allTo_zero _, HN⟩
  clear HN HW
  obtain ⟨k, hkn, rfl, HA, HN⟩ := hrel
  have BA := (Blk.new w #[.slice a0 n0 c0, .slice a1 n0 c1, .slice (some ⟨b2, o2, none⟩) n2 c2, .slice a3 n3 c3, .slice a4 n3 c4, .slice a5 n5 c5, .slice a6 n5 c6] 27 _ rfl).next HN.out
  have HW : Hid (Nx w wr) := (box1 _ _).trans HN.out
  have k3 := BA.cell (i := 3) rfl
  have k4 := BA.cell (i := 4) rfl
  by_cases hlt : k < n3
  · obtain ⟨b, off, rfl, _, hb, hc⟩ := hk3 (by omega)
    obtain ⟨b', off', rfl, _, hb', hc'⟩ := hk4 (by omega)
    have hlt' : (k : Int) < n3 := by omega
    have x0 := cell_next HW.out hb (hc k hlt)
    have y0 := cell_next HW.out hb' (hc' k (by omega))
    have HVD : Hid (tOk G k = (decide (0 ≤ iat G.tt k) && decide (iat G.tt k < (n0 : Int)) && decide (0 ≤ iat G.co k) && decide (iat G.co k ≤ 3145728))) := by unfold Hid; rw [← Z0.out]; rfl
    clear BA hc hc' hk0 hk3 hk4
    by_cases g1 : iat G.tt k < 0
    · have f1 : decide (iat G.tt k < 0) = true := by simpa using g1
      have HF : Hid (false = validG G) := vg_t Z3.out hlt (by rw [HVD.out]; simp; omega)
      clear g1
      go_wp2
      go_ret
      exact ⟨ret_bool HF.out, HW.out⟩
    have f1 : decide (iat G.tt k < 0) = false := by simpa using g1
    by_cases g2 : (n0 : Int) ≤ iat G.tt k
    · have f2 : decide ((n0 : Int) ≤ iat G.tt k) = true := by simpa using g2
      have HF : Hid (false = validG G) := vg_t Z3.out hlt (by rw [HVD.out]; simp; omega)
      clear g1 g2
      go_wp2
      go_ret
      exact ⟨ret_bool HF.out, HW.out⟩
    have f2 : decide ((n0 : Int) ≤ iat G.tt k) = false := by simpa using g2
    by_cases g3 : iat G.co k < 0
    · have f3 : decide (iat G.co k < 0) = true := by simpa using g3
      have HF : Hid (false = validG G) := vg_t Z3.out hlt (by rw [HVD.out]; simp; omega)
      clear g1 g2 g3
      go_wp2
      go_ret
      exact ⟨ret_bool HF.out, HW.out⟩
    have f3 : decide (iat G.co k < 0) = false := by simpa using g3
    by_cases g4 : 3145728 < iat G.co k
    · have f4 : decide (3145728 < iat G.co k) = true := by simpa using g4
      have HF : Hid (false = validG G) := vg_t Z3.out hlt (by rw [HVD.out]; simp; omega)
      clear g1 g2 g3 g4
      go_wp2
      go_ret
      exact ⟨ret_bool HF.out, HW.out⟩
    have f4 : decide (3145728 < iat G.co k) = false := by simpa using g4
    have HF : Hid (tOk G k = true) := by unfold Hid; rw [HVD.out]; simp; omega
    clear g1 g2 g3 g4 HVD
    go_wp2
    go_roundw
    case rel => exact ⟨k + 1, by omega, by go_num, allTo_succ HA.out HF.out, HN⟩
    case measure => simp [intOf]; omega
  have H8 : Hid (allN n3 (tOk G) = true) := allN_yes (by omega) HA.out
  have ek : n3 = k := by omega
  subst ek
  clear HA hlt hkn BA hk4 k4
  go_wp2
  clear k3
  have HFB : Hid (∀ i, i ≤ n0 → 0 ≤ iat G.fi i ∧ iat G.fi i ≤ n3) := fun i hi => fi_bd Z0.out Z3.out H5.out H6.out hi
  have HTB : Hid (∀ k, k < n3 → 0 ≤ iat G.tt k ∧ iat G.tt k < n0) := fun k hk => tt_bd Z0.out H8.out hk
  go_loopw [10, 11] (fun i q wr => ∃ k : Nat, k ≤ n0 ∧ i = .int .i64 k ∧ Hid (allTo (oOk G) k) ∧ Hid (Nx (w.alloc (.cells #[.slice a0 n0 c0, .slice a1 n0 c1, .slice (some ⟨b2, o2, none⟩) n2 c2, .slice a3 n3 c3, .slice a4 n3 c4, .slice a5 n5 c5, .slice a6 n5 c6] 27)) wr)) (fun i _ _ => n0 - (intOf i).toNat)
  case atStart => exact ⟨0, Nat.zero_le _, rfl, allTo_zero _, HN⟩
  clear HN HW
  obtain ⟨k, hkn, rfl, HA, HN⟩ := hrel
  have HW : Hid (Nx w wr) := (box1 _ _).trans HN.out
  by_cases hlt : k < n0
  · have hlt' : (k : Int) < n0 := by omega
    obtain ⟨p, hp⟩ : ∃ p : Nat, iat G.fi k = (p : Int) := ⟨(iat G.fi k).toNat, by have := (HFB.out k (by omega)).1; omega⟩
    obtain ⟨r, hr⟩ : ∃ r : Nat, iat G.fi (k + 1) = (r : Int) := ⟨(iat G.fi (k + 1)).toNat, by have := (HFB.out (k + 1) (by omega)).1; omega⟩
    have hp3 : p ≤ n3 := by have := (HFB.out k (by omega)).2; omega
    have hr3 : r ≤ n3 := by have := (HFB.out (k + 1) (by omega)).2; omega
    have hl2 : (k : Int) < n2 := by have := E2.out; omega
    have hl3 : (k : Int) + 1 < n2 := by have := E2.out; omega
    have hw1 := wrapJ (k + 1) (by omega)
    have hw2 := wrapJ (p + 1) (by omega)
    have x0 := cell_next HW.out hb2 (HC2.out k (by have := E2.out; omega))
    have k2 := ((Blk.new w #[.slice a0 n0 c0, .slice a1 n0 c1, .slice (some ⟨b2, o2, none⟩) n2 c2, .slice a3 n3 c3, .slice a4 n3 c4, .slice a5 n5 c5, .slice a6 n5 c6] 27 _ rfl).next HN.out).cell (i := 2) rfl
    rw [hp] at x0
    have HOD : Hid (oOk G k = allN r (oAt G k)) := by unfold Hid oOk; rw [hr]; rfl
    have HAD : Hid (∀ q : Nat, q ≤ p → oAt G k q = true) := fun q hq => by unfold oAt; rw [hp]; simp; omega
    have HAE : Hid (∀ q : Nat, p < q → oAt G k q = decide (goal G (q - 1) < goal G q)) := fun q hq => by
      unfold oAt
      have : decide ((q : Int) ≤ iat G.fi k) = false := by rw [hp]; simp; omega
      rw [this]
      simp
    have x1' : w.cell? ⟨b2, o2 + (k + 1), none⟩ = some (.int .i64 (r : Int)) := by rw [← hr]; exact HC2.out (k + 1) (by have := E2.out; omega)
    go_wp2
    clear x0 k2
    go_loopw [11] (fun i wr => ∃ q : Nat, (q ≤ r ∨ q = p + 1) ∧ p < q ∧ i = .int .i64 q ∧ Hid (allTo (oAt G k) q) ∧ Hid (Nx (w.alloc (.cells #[.slice a0 n0 c0, .slice a1 n0 c1, .slice (some ⟨b2, o2, none⟩) n2 c2, .slice a3 n3 c3, .slice a4 n3 c4, .slice a5 n5 c5, .slice a6 n5 c6] 27)) wr)) (fun i _ => r - (intOf i).toNat)
    case atStart => exact ⟨p + 1, Or.inr rfl, Nat.lt_succ_self _, by go_num, fun i hi => HAD.out i (by omega), HN⟩
    clear HN HW
    obtain ⟨q, hq1, hq2, rfl, HB, HN⟩ := hrel
    have BA := (Blk.new w #[.slice a0 n0 c0, .slice a1 n0 c1, .slice (some ⟨b2, o2, none⟩) n2 c2, .slice a3 n3 c3, .slice a4 n3 c4, .slice a5 n5 c5, .slice a6 n5 c6] 27 _ rfl).next HN.out
    have HW : Hid (Nx w wr) := (box1 _ _).trans HN.out
    have k2 := BA.cell (i := 2) rfl
    have x1 := cell_next HW.out hb2 x1'
    by_cases hqr : q < r
    · have hqr' : (q : Int) < r := by omega
      obtain ⟨u, rfl⟩ : ∃ u, q = u + 1 := ⟨q - 1, by omega⟩
      obtain ⟨s, hs⟩ : ∃ s : Nat, iat G.tt (u + 1) = (s : Int) := ⟨(iat G.tt (u + 1)).toNat, by have := (HTB.out (u + 1) (by omega)).1; omega⟩
      obtain ⟨t, ht⟩ : ∃ t : Nat, iat G.tt u = (t : Int) := ⟨(iat G.tt u).toNat, by have := (HTB.out u (by omega)).1; omega⟩
      have hs0 : s < n0 := by have := (HTB.out (u + 1) (by omega)).2; omega
      have ht0 : t < n0 := by have := (HTB.out u (by omega)).2; omega
      have hs0' : (s : Int) < n0 := by omega
      have ht0' : (t : Int) < n0 := by omega
      have hu3 : (u : Int) < n3 := by omega
      have hu4 : (u : Int) + 1 < n3 := by omega
      have hwu := wrapJ u (by omega)
      obtain ⟨b, off, ha, _, hb, hc⟩ := hk3 (by omega)
      obtain ⟨b', off', ha', _, hb', hc'⟩ := hk0 (by omega)
      subst ha ha'
      have k0 := BA.cell (i := 0) rfl
      have k3 := BA.cell (i := 3) rfl
      have y0 := cell_next HW.out hb (hc (u + 1) (by omega))
      have y1 := cell_next HW.out hb (hc u (by omega))
      have z0 := cell_next HW.out hb' (hc' s hs0)
      have z1 := cell_next HW.out hb' (hc' t ht0)
      rw [hs] at y0
      rw [ht] at y1
      have HQD : Hid (oAt G k (u + 1) = decide (iat G.eo t < iat G.eo s)) := by
        unfold Hid
        rw [HAE.out (u + 1) hq2]
        unfold goal
        rw [Nat.add_sub_cancel, hs, ht]
        rfl
      clear hc hc' BA hs ht hp hr x1'
      by_cases g1 : iat G.eo s ≤ iat G.eo t
      · have f1 : decide (iat G.eo s ≤ iat G.eo t) = true := by simpa using g1
        have HF : Hid (false = validG G) := vg_o Z0.out hlt (by rw [HOD.out]; exact allN_no hqr (by rw [HQD.out]; simpa using g1))
        clear g1
        go_wp2
        go_quiet (fail)
        go_wp2
        go_ret
        exact ⟨ret_bool HF.out, HW.out.trans ⟨rfl, rfl, rfl, Nat.le_refl _, fun _ _ => rfl⟩⟩
      · have f1 : decide (iat G.eo s ≤ iat G.eo t) = false := by simpa using g1
        have HF : Hid (oAt G k (u + 1) = true) := by unfold Hid; rw [HQD.out]; simp; omega
        clear g1
        go_wp2
        go_quiet (fail)
        go_wp2
        go_roundw
        case rel => exact ⟨u + 1 + 1, by omega, by omega, by go_num, allTo_succ HB.out HF.out, HN.out.trans ⟨rfl, rfl, rfl, Nat.le_refl _, fun _ _ => rfl⟩⟩
        case measure => simp [intOf]; omega
    have hqr' : ¬ (q : Int) < r := by omega
    have HF : Hid (oOk G k = true) := by unfold Hid; rw [HOD.out]; exact allN_yes (by omega) HB.out
    clear BA x1'
    go_wp2
    go_roundw
    case rel => exact ⟨k + 1, by omega, by go_num, allTo_succ HA.out HF.out, HN⟩
    case measure => simp [intOf]; omega
  have H9 : Hid (allN G.eo.length (oOk G) = true) := allN_yes (by rw [Z0.out]; omega) HA.out
  have HF : Hid (true = validG G) := vg_yes H1.out H2.out H3.out H4.out H5.out (by rw [Z0.out]; exact H6.out) H7.out (by rw [Z3.out]; exact H8.out) H9.out
  have ek : n0 = k := by omega
  subst ek
  clear HA
  go_wp2
  go_ret
  exact ⟨ret_bool HF.out, HW.out⟩
end Go.Proofs.Ytdjmlpgdaanipaa
