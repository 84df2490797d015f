import Derived.Test.YtmpkjlknnicdaaaRoB
namespace Go.Proofs.Ytmpkjlknnicdaaa
open Go.RowKit
set_option linter.unusedVariables false

/-- how many of the first k edges begin at p; how many below it -/
def cE (tl : Nat → Nat) (p : Nat) : Nat → Nat
  | 0 => 0
  | k + 1 => cE tl p k + if tl k = p then 1 else 0
def cL (tl : Nat → Nat) (p : Nat) : Nat → Nat
  | 0 => 0
  | k + 1 => cL tl p k + if tl k < p then 1 else 0
theorem cL_zero (tl : Nat → Nat) (m : Nat) : cL tl 0 m = 0 := by
  induction m with
  | zero => rfl
  | succ m ih => rw [cL, ih, if_neg (by omega)]
theorem cL_succ (tl : Nat → Nat) (p m : Nat) : cL tl (p + 1) m = cL tl p m + cE tl p m := by
  induction m with
  | zero => rfl
  | succ m ih =>
    rw [cL, cL, cE, ih]
    by_cases h1 : tl m < p
    · rw [if_pos (by omega), if_pos h1, if_neg (by omega)]; omega
    · by_cases h2 : tl m = p
      · rw [if_pos (by omega), if_neg h1, if_pos h2]; omega
      · rw [if_neg (by omega), if_neg h1, if_neg h2]; omega
theorem cL_all {tl : Nat → Nat} {p m : Nat} (h : ∀ e, e < m → tl e < p) : cL tl p m = m := by
  induction m with
  | zero => rfl
  | succ m ih => rw [cL, ih (fun e he => h e (by omega)), if_pos (h m (by omega))]
theorem cE_none {tl : Nat → Nat} {p m : Nat} (h : ∀ e, e < m → tl e ≠ p) : cE tl p m = 0 := by
  induction m with
  | zero => rfl
  | succ m ih => rw [cE, ih (fun e he => h e (by omega)), if_neg (h m (by omega))]
theorem cE_le (tl : Nat → Nat) (p m : Nat) : cE tl p m ≤ m := by
  induction m with
  | zero => exact Nat.le_refl _
  | succ m ih => rw [cE]; split <;> omega
theorem cL_le (tl : Nat → Nat) (p m : Nat) : cL tl p m ≤ m := by
  induction m with
  | zero => exact Nat.le_refl _
  | succ m ih => rw [cL]; split <;> omega
theorem cE_mono (tl : Nat → Nat) (p k d : Nat) : cE tl p k ≤ cE tl p (k + d) := by
  induction d with
  | zero => exact Nat.le_refl _
  | succ d ih => rw [← Nat.add_assoc, cE]; omega
theorem cL_mono (tl : Nat → Nat) (p d m : Nat) : cL tl p m ≤ cL tl (p + d) m := by
  induction d with
  | zero => exact Nat.le_refl _
  | succ d ih => rw [← Nat.add_assoc, cL_succ]; omega

/-- the edges that begin at p, of the first k -/
def grp (tl : Nat → Nat) (p : Nat) : Nat → List Nat
  | 0 => []
  | k + 1 => grp tl p k ++ if tl k = p then [k] else []
/-- the edges by their beginning -/
def outS (tl : Nat → Nat) (m : Nat) : Nat → List Nat
  | 0 => []
  | p + 1 => outS tl m p ++ grp tl p m
theorem grp_len (tl : Nat → Nat) (p k : Nat) : (grp tl p k).length = cE tl p k := by
  induction k with
  | zero => rfl
  | succ k ih => rw [grp, cE, List.length_append, ih]; split <;> rfl
theorem outS_len (tl : Nat → Nat) (m p : Nat) : (outS tl m p).length = cL tl p m := by
  induction p with
  | zero => rw [cL_zero]; rfl
  | succ p ih => rw [outS, List.length_append, ih, grp_len, cL_succ]
theorem grp_pre (tl : Nat → Nat) (p k d : Nat) : grp tl p k <+: grp tl p (k + d) := by
  induction d with
  | zero => exact List.prefix_rfl
  | succ d ih => exact ih.trans (by rw [← Nat.add_assoc, grp]; exact List.prefix_append _ _)
theorem outS_pre (tl : Nat → Nat) (m p d : Nat) : outS tl m p <+: outS tl m (p + d) := by
  induction d with
  | zero => exact List.prefix_rfl
  | succ d ih => exact ih.trans (by rw [← Nat.add_assoc, outS]; exact List.prefix_append _ _)
theorem grp_at {tl : Nat → Nat} {p e m : Nat} (he : e < m) (hp : tl e = p) : (grp tl p m)[cE tl p e]? = some e := by
  obtain ⟨t, ht⟩ := grp_pre tl p (e + 1) (m - (e + 1))
  rw [show e + 1 + (m - (e + 1)) = m by omega] at ht
  rw [← ht, List.getElem?_append_left (by rw [grp_len, cE, if_pos hp]; omega), grp, if_pos hp, List.getElem?_append_right (by rw [grp_len]; omega), grp_len]
  simp
/-- where an edge comes to lie -/
def rank (tl : Nat → Nat) (m e : Nat) : Nat := cL tl (tl e) m + cE tl (tl e) e
theorem outS_rank {tl : Nat → Nat} {m P e : Nat} (he : e < m) (hp : tl e < P) : (outS tl m P)[rank tl m e]? = some e := by
  obtain ⟨t, ht⟩ := outS_pre tl m (tl e + 1) (P - (tl e + 1))
  rw [show tl e + 1 + (P - (tl e + 1)) = P by omega] at ht
  have hc : cE tl (tl e) e < cE tl (tl e) m := by
    have h1 := cE_mono tl (tl e) (e + 1) (m - (e + 1))
    rw [show e + 1 + (m - (e + 1)) = m by omega, cE, if_pos rfl] at h1
    omega
  unfold rank
  rw [← ht, List.getElem?_append_left (by rw [outS_len, cL_succ]; omega), outS, List.getElem?_append_right (by rw [outS_len]; omega), outS_len]
  have : cL tl (tl e) m + cE tl (tl e) e - cL tl (tl e) m = cE tl (tl e) e := by omega
  rw [this]
  exact grp_at he rfl
theorem rank_lt {tl : Nat → Nat} {m n e : Nat} (he : e < m) (ht : ∀ e, e < m → tl e < n) : rank tl m e < m := by
  have h := outS_rank (P := n) he (ht e he)
  have := (List.getElem?_eq_some_iff.1 h).1
  rw [outS_len, cL_all ht] at this
  exact this
theorem rank_inj {tl : Nat → Nat} {m n e f : Nat} (he : e < m) (hf : f < m) (ht : ∀ e, e < m → tl e < n) (h : rank tl m e = rank tl m f) : e = f := by
  have h1 := outS_rank (P := n) he (ht e he)
  have h2 := outS_rank (P := n) hf (ht f hf)
  rw [h, h2] at h1
  exact (Option.some.inj h1).symm
theorem grp_of {tl : Nat → Nat} {p m y : Nat} (h : y < cE tl p m) : ∃ e, e < m ∧ tl e = p ∧ cE tl p e = y := by
  induction m with
  | zero => simp [cE] at h
  | succ m ih =>
    by_cases h1 : y < cE tl p m
    · obtain ⟨e, he, h2⟩ := ih h1
      exact ⟨e, by omega, h2⟩
    · rw [cE] at h
      by_cases h2 : tl m = p
      · rw [if_pos h2] at h
        exact ⟨m, by omega, h2, by omega⟩
      · rw [if_neg h2] at h
        omega
theorem rank_of {tl : Nat → Nat} {m x : Nat} (P : Nat) (h : x < cL tl P m) : ∃ e, e < m ∧ rank tl m e = x := by
  induction P with
  | zero => rw [cL_zero] at h; omega
  | succ P ih =>
    by_cases h1 : x < cL tl P m
    · exact ih h1
    · rw [cL_succ] at h
      obtain ⟨e, he, hp, hy⟩ := grp_of (tl := tl) (p := P) (m := m) (y := x - cL tl P m) (by omega)
      refine ⟨e, he, ?_⟩
      unfold rank
      rw [hp, hy]
      omega
/-- a list that holds each edge where it comes to lie is the model's -/
theorem out_eq {tl : Nat → Nat} {m n : Nat} (ht : ∀ e, e < m → tl e < n) {F : Nat → Int} (hF : ∀ e, e < m → F (rank tl m e) = e) {x : Nat} (hx : x < m) : ∃ e, (outS tl m (n + 1))[x]? = some e ∧ F x = e := by
  obtain ⟨e, he, hr⟩ := rank_of (tl := tl) (m := m) n (by rw [cL_all ht]; exact hx)
  have h1 := outS_rank (tl := tl) (P := n + 1) he (by have := ht e he; omega)
  rw [hr] at h1
  have h2 := hF e he
  rw [hr] at h2
  exact ⟨e, h1, h2⟩
end Go.Proofs.Ytmpkjlknnicdaaa
