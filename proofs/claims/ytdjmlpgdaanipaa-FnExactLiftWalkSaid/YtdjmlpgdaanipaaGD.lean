import Derived.Test.YtdjmlpgdaanipaaGC
namespace Go.Proofs.Ytdjmlpgdaanipaa
open Go.RowKit
set_option linter.unusedVariables false
set_option maxRecDepth 100000

/-- what validity gives -/
structure VG (G : Gr) : Prop where
  e : G.sr.length ≤ 4000
  v : G.eo.length ≤ 6000
  t : G.tt.length ≤ 40000
  lw : G.we.length = G.sr.length
  ls : G.so.length = G.eo.length
  lf : G.fi.length = G.eo.length + 1
  lc : G.co.length = G.tt.length
  we : ∀ i, i < G.sr.length → 0 ≤ iat G.we i ∧ iat G.we i ≤ 1048576
  eo : ∀ i, i < G.eo.length → 0 ≤ iat G.eo i ∧ iat G.eo i < G.sr.length
  sr : ∀ i, i < G.sr.length → 0 ≤ iat G.sr i ∧ iat G.sr i < G.eo.length ∧ iat G.eo (iat G.sr i).toNat = i
  fi : ∀ i, i ≤ G.eo.length → 0 ≤ iat G.fi i ∧ iat G.fi i ≤ G.tt.length
  fm : ∀ i, i < G.eo.length → iat G.fi i ≤ iat G.fi (i + 1)
  tt : ∀ k, k < G.tt.length → 0 ≤ iat G.tt k ∧ iat G.tt k < G.eo.length
  co : ∀ k, k < G.tt.length → 0 ≤ iat G.co k ∧ iat G.co k ≤ 3145728
  asc : ∀ i, i < G.eo.length → ∀ k : Nat, iat G.fi i < k → k < iat G.fi (i + 1) → goal G (k - 1) < goal G k
  pr : ∀ i, i + 1 < G.eo.length → pairLt G i (i + 1) = true
theorem vg_of {G : Gr} (h : validG G = true) : VG G := by
  unfold validG at h
  simp only [Bool.and_eq_true] at h
  obtain ⟨h1, h2, h3, h4, h5, h6, h7, h8, h9⟩ := h
  have h5' := h5
  simp only [cOne, cFive, cSeven, Bool.and_eq_true, decide_eq_true_eq, beq_iff_eq] at h1 h5 h7
  obtain ⟨⟨⟨q1, q2⟩, q3⟩, q4⟩ := h1
  refine ⟨q1, q3, h7.2, q2, q4, h5.1.1, h7.1, fun i hi => ?_, fun i hi => ?_, fun i hi => ?_, fun i hi => fi_bd rfl rfl h5' h6 hi, fun i hi => ?_, fun k hk => tt_bd rfl h8 hk, fun k hk => ?_, fun i hi k k1 k2 => ?_, fun i hi => ?_⟩
  · have := allN_at h2 (k := i) (by omega)
    simp only [wOk, inB, decide_eq_true_eq] at this
    exact this
  · have := allN_at h3 hi
    simp only [vOk, Bool.and_eq_true, decide_eq_true_eq] at this
    omega
  · have := allN_at h4 hi
    simp only [sOk, Bool.and_eq_true, decide_eq_true_eq, beq_iff_eq] at this
    exact ⟨this.1.1, this.1.2, this.2⟩
  · have := allN_at h6 hi
    simp only [fOk, decide_eq_true_eq] at this
    exact this
  · have := allN_at h8 hk
    simp only [tOk, Bool.and_eq_true, decide_eq_true_eq] at this
    omega
  · have := allN_at h9 hi
    unfold oOk at this
    have := allN_at this (k := k) (by omega)
    simp only [oAt, Bool.or_eq_true, decide_eq_true_eq] at this
    omega
  · have := allN_at h3 hi
    simp only [vOk, Bool.and_eq_true, Bool.or_eq_true, beq_iff_eq, decide_eq_true_eq] at this
    rcases this.2 with h | h
    · omega
    · simpa using h

/-- the first from k on, n of them, that fits; -1 where none does -/
def findA (f : Nat → Bool) : Nat → Nat → Int
  | _, 0 => -1
  | k, n + 1 => if f k then (k : Int) else findA f (k + 1) n
theorem findA_some {f : Nat → Bool} {k n : Nat} (h : 0 ≤ findA f k n) : ∃ a : Nat, findA f k n = a ∧ k ≤ a ∧ a < k + n ∧ f a = true := by
  induction n generalizing k with
  | zero => simp [findA] at h
  | succ n ih =>
    unfold findA at h ⊢
    by_cases e : f k = true
    · rw [if_pos e]; exact ⟨k, rfl, Nat.le_refl _, by omega, e⟩
    · rw [if_neg e] at h ⊢
      obtain ⟨a, h1, h2, h3, h4⟩ := ih h
      exact ⟨a, h1, by omega, by omega, h4⟩
theorem findA_ge (f : Nat → Bool) (k n : Nat) : -1 ≤ findA f k n := by
  induction n generalizing k with
  | zero => simp [findA]
  | succ n ih =>
    unfold findA
    split
    · omega
    · exact ih _
theorem findA_none {f : Nat → Bool} {k n : Nat} (h : ∀ a, k ≤ a → a < k + n → f a = false) : findA f k n = -1 := by
  induction n generalizing k with
  | zero => rfl
  | succ n ih =>
    unfold findA
    rw [if_neg (by rw [h k (Nat.le_refl _) (by omega)]; simp)]
    exact ih fun a h1 h2 => h a (by omega) (by omega)
/-- where one alone fits, it is found -/
theorem findA_one {f : Nat → Bool} {k n a : Nat} (h1 : k ≤ a) (h2 : a < k + n) (ha : f a = true) (hu : ∀ b, k ≤ b → b < a → f b = false) : findA f k n = a := by
  induction n generalizing k with
  | zero => omega
  | succ n ih =>
    unfold findA
    by_cases e : k = a
    · subst e; rw [if_pos ha]
    · rw [if_neg (by rw [hu k (Nat.le_refl _) (by omega)]; simp)]
      exact ih (by omega) (by omega) fun b hb hb' => hu b (by omega) hb'
def fst (G : Gr) (v : Nat) : Nat := (iat G.fi v).toNat
/-- the arc from vertex v to vertex t -/
def arcOf (G : Gr) (v : Nat) (t : Int) : Int := findA (fun k => iat G.tt k == t) (fst G v) (fst G (v + 1) - fst G v)
theorem fst_eq {G : Gr} (h : VG G) {v : Nat} (hv : v ≤ G.eo.length) : iat G.fi v = (fst G v : Int) ∧ fst G v ≤ G.tt.length := by
  have := h.fi v hv
  unfold fst
  omega
theorem fst_le {G : Gr} (h : VG G) {v : Nat} (hv : v < G.eo.length) : fst G v ≤ fst G (v + 1) := by
  have h1 := (fst_eq h (v := v) (by omega)).1
  have h2 := (fst_eq h (v := v + 1) (by omega)).1
  have := h.fm v hv
  omega
theorem arcOf_some {G : Gr} (h : VG G) {v : Nat} {t : Int} (hv : v < G.eo.length) (ha : 0 ≤ arcOf G v t) : ∃ a : Nat, arcOf G v t = a ∧ fst G v ≤ a ∧ a < fst G (v + 1) ∧ a < G.tt.length ∧ iat G.tt a = t := by
  obtain ⟨a, h1, h2, h3, h4⟩ := findA_some ha
  have q1 := fst_le h hv
  have q2 := (fst_eq h (v := v + 1) (by omega)).2
  exact ⟨a, h1, h2, by omega, by omega, by simpa using h4⟩

set_option maxHeartbeats 4000000 in
theorem l4Arc_any (B : Nat) (v0 v1 v2 v3 v4 v5 v6 : Value) (G : Gr) (v : Nat) (t : Int) (w : World) (h0 : HG B w v0 v1 v2 v3 v4 v5 v6 G) (hG : VG G) (hv : v < G.eo.length) :
    Calls Try.prog 36 #[.agg #[v0, v1, v2, v3, v4, v5, v6], .int .i64 v, .int .i64 t] w fun e w' => e = .returned (.int .i64 (arcOf G v t)) ∧ Nx w w' := by
  obtain ⟨⟨a0, c0, rfl, hn0, hk0⟩, ⟨a1, c1, rfl, hn1, hk1⟩, ⟨a2, c2, rfl, hn2, hk2⟩, ⟨a3, c3, rfl, hn3, hk3⟩, ⟨a4, c4, rfl, hn4, hk4⟩, ⟨a5, c5, rfl, hn5, hk5⟩, ⟨a6, c6, rfl, hn6, hk6⟩⟩ := h0
  have E0 := fst_eq hG (v := v) (by omega)
  have E1 := fst_eq hG (v := v + 1) (by omega)
  have E2 := fst_le hG hv
  have HL : Hid (G.fi.length = G.eo.length + 1) := hG.lf
  have hlf := hG.lf
  have hvv := hG.v
  have htt := hG.t
  generalize hz0 : G.eo.length = n0 at *
  have Z0 : Hid (G.eo.length = n0) := hz0
  clear hz0
  generalize hz1 : G.so.length = n1 at *
  have Z1 : Hid (G.so.length = n1) := hz1
  clear hz1
  generalize hz2 : G.fi.length = n2 at *
  have Z2 : Hid (G.fi.length = n2) := hz2
  clear hz2
  generalize hz3 : G.tt.length = n3 at *
  have Z3 : Hid (G.tt.length = n3) := hz3
  clear hz3
  generalize hz4 : G.co.length = n4 at *
  have Z4 : Hid (G.co.length = n4) := hz4
  clear hz4
  generalize hz5 : G.sr.length = n5 at *
  have Z5 : Hid (G.sr.length = n5) := hz5
  clear hz5
  generalize hz6 : G.we.length = n6 at *
  have Z6 : Hid (G.we.length = n6) := hz6
  clear hz6
  have HAD : Hid (arcOf G v t = findA (fun k => iat G.tt k == t) (fst G v) (fst G (v + 1) - fst G v)) := rfl
  generalize fst G v = p at *
  generalize fst G (v + 1) = r at *
  obtain ⟨ep, hp3⟩ := E0
  obtain ⟨er, hr3⟩ := E1
  have hv2 : (v : Int) < n2 := by omega
  have hv3 : (v : Int) + 1 < n2 := by omega
  have hw1 := wrapJ (v + 1) (by omega)
  obtain ⟨b2, o2, ha2, _, hb2, hc2⟩ := hk2 (by omega)
  subst ha2
  have x0 : w.cell? ⟨b2, o2 + v, none⟩ = some (.int .i64 (iat G.fi v)) := hc2 v (by omega)
  have x1 : w.cell? ⟨b2, o2 + (v + 1), none⟩ = some (.int .i64 (iat G.fi (v + 1))) := hc2 (v + 1) (by omega)
  rw [ep] at x0
  rw [er] at x1
  have HX0 : Hid (w.cell? ⟨b2, o2 + v, none⟩ = some (.int .i64 (p : Int))) := x0
  have HX1 : Hid (w.cell? ⟨b2, o2 + (v + 1), none⟩ = some (.int .i64 (r : Int))) := x1
  have y0 := Lib.cell?_alloc_some (.cells #[.slice a0 n0 c0, .slice a1 n1 c1, .slice (some ⟨b2, o2, none⟩) n2 c2, .slice a3 n3 c3, .slice a4 n4 c4, .slice a5 n5 c5, .slice a6 n6 c6] 27) x0
  clear x0 x1 hc2 hk0 hk1 hk2 hk4 hk5 hk6 ep er HL hlf hG
  go_enter Try.func36, Try.ntmps36
  go_wp2
  clear y0
  go_loopw [7] (fun i wr => ∃ k : Nat, k ≤ r ∧ i = .int .i64 k ∧ Hid (arcOf G v t = findA (fun k => iat G.tt k == t) k (r - k)) ∧ Hid (Nx (w.alloc (.cells #[.slice a0 n0 c0, .slice a1 n1 c1, .slice (some ⟨b2, o2, none⟩) n2 c2, .slice a3 n3 c3, .slice a4 n4 c4, .slice a5 n5 c5, .slice a6 n6 c6] 27)) wr)) (fun i _ => r - (intOf i).toNat)
  case atStart => exact ⟨p, E2, rfl, HAD, Nx.refl _⟩
  clear HAD
  obtain ⟨k, hkr, rfl, HA, HN⟩ := hrel
  have BA := (Blk.new w #[.slice a0 n0 c0, .slice a1 n1 c1, .slice (some ⟨b2, o2, none⟩) n2 c2, .slice a3 n3 c3, .slice a4 n4 c4, .slice a5 n5 c5, .slice a6 n6 c6] 27 _ rfl).next HN.out
  have HW : Hid (Nx w wr) := (box1 _ _).trans HN.out
  have k2 := BA.cell (i := 2) rfl
  have k3 := BA.cell (i := 3) rfl
  have x1 := cell_next HW.out hb2 HX1.out
  clear BA
  by_cases hlt : k < r
  · have hlt' : (k : Int) < r := by omega
    have hl3 : (k : Int) < n3 := by omega
    obtain ⟨b, off, rfl, _, hb, hc⟩ := hk3 (by omega)
    have y0 := cell_next HW.out hb (hc k (by omega))
    have HA' : Hid (arcOf G v t = if (iat G.tt k == t) = true then (k : Int) else findA (fun k => iat G.tt k == t) (k + 1) (r - (k + 1))) := by
      unfold Hid
      rw [HA.out, show r - k = (r - (k + 1)) + 1 by omega]
      rfl
    clear hc hk3
    by_cases g1 : iat G.tt k = t
    · have f1 : (iat G.tt k == t) = true := by simpa using g1
      have HF : Hid ((k : Int) = arcOf G v t) := by unfold Hid; rw [HA'.out, if_pos f1]
      clear g1
      go_wp2
      go_ret
      exact ⟨ret_int HF.out, HW.out⟩
    · have f1 : (iat G.tt k == t) = false := by simpa using g1
      have HF : Hid (arcOf G v t = findA (fun k => iat G.tt k == t) (k + 1) (r - (k + 1))) := by unfold Hid; rw [HA'.out, if_neg (by rw [f1]; simp)]
      clear g1
      go_wp2
      go_roundw
      case rel => exact ⟨k + 1, by omega, by go_num, HF, HN⟩
      case measure => simp [intOf]; omega
  have ek : r = k := by omega
  subst ek
  have HF : Hid (-1 = arcOf G v t) := by unfold Hid; rw [HA.out, Nat.sub_self]; rfl
  clear HA hlt hkr hk3
  go_wp2
  go_ret
  exact ⟨ret_int HF.out, HW.out⟩
end Go.Proofs.Ytdjmlpgdaanipaa
