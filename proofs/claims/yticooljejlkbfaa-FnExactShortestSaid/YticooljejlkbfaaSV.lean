import Derived.Test.YticooljejlkbfaaGC
namespace Go.Proofs.Yticooljejlkbfaa
open Go.RowKit
set_option linter.unusedVariables false
set_option maxRecDepth 100000

structure VG (G : Gr) : Prop where
  e : G.sr.length ≤ 4000
  v : G.eo.length ≤ 6000
  t : G.tt.length ≤ 40000
  lw : G.we.length = G.sr.length
  ls : G.so.length = G.eo.length
  lf : G.fi.length = G.eo.length + 1
  lc : G.co.length = G.tt.length
  we : ∀ i, i < G.sr.length → 0 ≤ iat G.we i ∧ iat G.we i ≤ 1048576
  eo : ∀ i, i < G.eo.length → 0 ≤ iat G.eo i ∧ iat G.eo i < G.sr.length
  sr : ∀ i, i < G.sr.length → 0 ≤ iat G.sr i ∧ iat G.sr i < G.eo.length ∧ iat G.eo (iat G.sr i).toNat = i
  fi : ∀ i, i ≤ G.eo.length → 0 ≤ iat G.fi i ∧ iat G.fi i ≤ G.tt.length
  fm : ∀ i, i < G.eo.length → iat G.fi i ≤ iat G.fi (i + 1)
  tt : ∀ k, k < G.tt.length → 0 ≤ iat G.tt k ∧ iat G.tt k < G.eo.length
  co : ∀ k, k < G.tt.length → 0 ≤ iat G.co k ∧ iat G.co k ≤ 3145728
  asc : ∀ i, i < G.eo.length → ∀ k : Nat, iat G.fi i < k → k < iat G.fi (i + 1) → goal G (k - 1) < goal G k
  pr : ∀ i, i + 1 < G.eo.length → pairLt G i (i + 1) = true
theorem vg_of {G : Gr} (h : validG G = true) : VG G := by
  unfold validG at h
  simp only [Bool.and_eq_true] at h
  obtain ⟨h1, h2, h3, h4, h5, h6, h7, h8, h9⟩ := h
  have h5' := h5
  simp only [cOne, cFive, cSeven, Bool.and_eq_true, decide_eq_true_eq, beq_iff_eq] at h1 h5 h7
  obtain ⟨⟨⟨q1, q2⟩, q3⟩, q4⟩ := h1
  refine ⟨q1, q3, h7.2, q2, q4, h5.1.1, h7.1, fun i hi => ?_, fun i hi => ?_, fun i hi => ?_, fun i hi => fi_bd rfl rfl h5' h6 hi, fun i hi => ?_, fun k hk => tt_bd rfl h8 hk, fun k hk => ?_, fun i hi k k1 k2 => ?_, fun i hi => ?_⟩
  · have := allN_at h2 (k := i) (by omega)
    simp only [wOk, inB, decide_eq_true_eq] at this
    exact this
  · have := allN_at h3 hi
    simp only [vOk, Bool.and_eq_true, decide_eq_true_eq] at this
    omega
  · have := allN_at h4 hi
    simp only [sOk, Bool.and_eq_true, decide_eq_true_eq, beq_iff_eq] at this
    exact ⟨this.1.1, this.1.2, this.2⟩
  · have := allN_at h6 hi
    simp only [fOk, decide_eq_true_eq] at this
    exact this
  · have := allN_at h8 hk
    simp only [tOk, Bool.and_eq_true, decide_eq_true_eq] at this
    omega
  · have := allN_at h9 hi
    unfold oOk at this
    have := allN_at this (k := k) (by omega)
    simp only [oAt, Bool.or_eq_true, decide_eq_true_eq] at this
    omega
  · have := allN_at h3 hi
    simp only [vOk, Bool.and_eq_true, Bool.or_eq_true, beq_iff_eq, decide_eq_true_eq] at this
    rcases this.2 with h | h
    · omega
    · simpa using h
def fst (G : Gr) (v : Nat) : Nat := (iat G.fi v).toNat
theorem fst_eq {G : Gr} (h : VG G) {v : Nat} (hv : v ≤ G.eo.length) : iat G.fi v = (fst G v : Int) ∧ fst G v ≤ G.tt.length := by
  have := h.fi v hv
  unfold fst
  omega
theorem fst_le {G : Gr} (h : VG G) {v : Nat} (hv : v < G.eo.length) : fst G v ≤ fst G (v + 1) := by
  have h1 := (fst_eq h (v := v) (by omega)).1
  have h2 := (fst_eq h (v := v + 1) (by omega)).1
  have := h.fm v hv
  omega
end Go.Proofs.Yticooljejlkbfaa
