import Derived.Test.YtifefpeefcjabaaAI
namespace Go.Proofs.Ytifefpeefcjabaa
open Go.RowKit
set_option linter.unusedVariables false
set_option maxRecDepth 100000

/-- all words, whether they ascend or not -/
def wl (A : Au) : Nat → List (List Int)
  | 0 => []
  | s + 1 => wl A s ++ [if s = 0 then [] else nw A (wl A s) s]
theorem wl_len (A : Au) (s : Nat) : (wl A s).length = s := by
  induction s with
  | zero => rfl
  | succ s ih => rw [wl, List.length_append, ih]; rfl
/-- the word of state s -/
def Wd (A : Au) (s : Nat) : List Int := if s = 0 then [] else nw A (wl A s) s
theorem wl_wd {A : Au} {m s : Nat} (h : s < m) : wd (wl A m) s = Wd A s := by
  induction m with
  | zero => omega
  | succ m ih =>
    rw [wl]
    by_cases e : s < m
    · rw [wd_snoc (by rw [wl_len]; exact e)]
      exact ih e
    · have : s = m := by omega
      subst this
      rw [wd_end (by rw [wl_len])]
      rfl
theorem Wd_zero (A : Au) : Wd A 0 = [] := rfl
theorem okR_at {A : Au} {s : Nat} (h : okR A s = true) : 0 ≤ iat A.pa s ∧ iat A.pa s < s ∧ 0 ≤ iat A.la s ∧ iat A.la s < 4000 := by
  simp only [okR, Bool.and_eq_true, decide_eq_true_eq] at h
  omega
theorem Wd_step {A : Au} {s : Nat} (h : okR A s = true) (h0 : 1 ≤ s) : Wd A s = Wd A (iat A.pa s).toNat ++ [iat A.la s] := by
  have := okR_at h
  unfold Wd
  rw [if_neg (by omega)]
  unfold nw
  rw [wl_wd (by omega)]
  rfl
theorem spell_iff (A : Au) (s : Nat) : (spellK A s).2 = allN s (fun t => okS A (wl A t) t) ∧ ((spellK A s).2 = true → spellK A s = (wl A s, true)) := by
  induction s with
  | zero => exact ⟨rfl, fun _ => rfl⟩
  | succ s ih =>
    have ea : allN (s + 1) (fun t => okS A (wl A t) t) = (allN s (fun t => okS A (wl A t) t) && okS A (wl A s) s) := by
      unfold allN
      rw [List.range_succ, List.all_append]
      simp
    rw [ea, ← ih.1]
    cases hf : (spellK A s).2 with
    | false =>
      rw [spellK, hf]
      simp
    | true =>
      have hs := ih.2 hf
      rw [spellK, hs]
      simp only [Bool.true_and]
      by_cases ho : okS A (wl A s) s = true
      · rw [if_pos ho]
        exact ⟨ho.symm, fun _ => rfl⟩
      · rw [if_neg ho]
        exact ⟨by simp at ho; rw [ho], fun h => by simp at h⟩

theorem lex_snoc {x y : List Int} (a b : Int) (h : x.length = y.length) : lexB (x ++ [a]) (y ++ [b]) = (lexB x y || (decide (x = y) && decide (a < b))) := by
  induction x generalizing y with
  | nil =>
    match y, h with
    | [], _ =>
      simp only [List.nil_append, lexB]
      by_cases e : a = b
      · subst e; simp
      · rw [if_neg e]; simp
  | cons c x ih =>
    match y, h with
    | d :: y, h =>
      simp only [List.cons_append, lexB]
      by_cases e : c = d
      · subst e
        rw [if_pos rfl, if_pos rfl, ih (by simpa using h)]
        simp
      · rw [if_neg e, if_neg e]
        simp [e]
theorem bef_snoc (x y : List Int) (a b : Int) : befB (x ++ [a]) (y ++ [b]) = (befB x y || (decide (x = y) && decide (a < b))) := by
  unfold befB
  by_cases e : x.length = y.length
  · rw [if_pos (by simp [e]), if_pos e]
    exact lex_snoc a b e
  · have : x ≠ y := fun h => e (by rw [h])
    rw [if_neg (by simp [e]), if_neg e]
    simp [this]
/-- the pairs of parent and last edge ascend at s -/
def pairAsc (A : Au) (s : Nat) : Bool := decide (iat A.pa (s - 1) < iat A.pa s) || (decide (iat A.pa (s - 1) = iat A.pa s) && decide (iat A.la (s - 1) < iat A.la s))
def AscTo (A : Au) (s : Nat) : Prop := ∀ i j, i < j → j < s → befB (Wd A i) (Wd A j) = true
theorem AscTo.ne {A : Au} {s i j : Nat} (h : AscTo A s) (hi : i < s) (hj : j < s) : befB (Wd A i) (Wd A j) = decide (i < j) ∧ decide (Wd A i = Wd A j) = decide (i = j) := by
  rcases Nat.lt_trichotomy i j with e | rfl | e
  · have hb := h i j e hj
    refine ⟨by rw [hb]; simp [e], ?_⟩
    have : Wd A i ≠ Wd A j := fun h' => by rw [h', bef_self] at hb; simp at hb
    simp [this]
    omega
  · exact ⟨by rw [bef_self]; simp, by simp⟩
  · have hb := h j i e hi
    refine ⟨?_, ?_⟩
    · cases e2 : befB (Wd A i) (Wd A j) with
      | false => symm; simp; omega
      | true =>
        have := bef_trans hb e2
        rw [bef_self] at this
        simp at this
    · have : Wd A i ≠ Wd A j := fun h' => by rw [h', bef_self] at hb; simp at hb
      simp [this]
      omega
/-- where the words below ascend, the next one is above the last iff its pair is -/
theorem bef_pair {A : Au} {s : Nat} (hr : iat A.pa 0 = -1) (ho : ∀ t, 1 ≤ t → t ≤ s → okR A t = true) (ha : AscTo A s) (hs : 1 ≤ s) : befB (Wd A (s - 1)) (Wd A s) = pairAsc A s := by
  have h1 := okR_at (ho s hs (Nat.le_refl _))
  rw [Wd_step (ho s hs (Nat.le_refl _)) hs]
  by_cases e : s = 1
  · subst e
    have hp : iat A.pa 1 = 0 := by omega
    have : pairAsc A 1 = true := by
      unfold pairAsc
      simp only [Nat.sub_self]
      rw [hr, hp]
      rfl
    rw [this, Nat.sub_self, Wd_zero, hp]
    show befB [] ([] ++ [iat A.la 1]) = true
    rfl
  · have h2 := okR_at (ho (s - 1) (by omega) (by omega))
    obtain ⟨q1, q2⟩ := ha.ne (i := (iat A.pa (s - 1)).toNat) (j := (iat A.pa s).toNat) (by omega) (by omega)
    rw [Wd_step (ho (s - 1) (by omega) (by omega)) (by omega), bef_snoc, q1, q2]
    unfold pairAsc
    congr 1
    · simp; omega
    · congr 1
      simp
      omega
theorem asc_up {A : Au} {s : Nat} (ha : AscTo A s) (hb : 1 ≤ s → befB (Wd A (s - 1)) (Wd A s) = true) : AscTo A (s + 1) := by
  intro i j hij hj
  by_cases e : j < s
  · exact ha i j hij e
  · have : j = s := by omega
    subst this
    have h1 := hb (by omega)
    rcases Nat.lt_or_eq_of_le (show i ≤ j - 1 by omega) with h2 | h2
    · exact bef_trans (ha i (j - 1) h2 (by omega)) h1
    · rw [h2]; exact h1
/-- what the program asks of parents and last edges -/
def okI (A : Au) (s : Nat) : Bool := if s = 0 then (iat A.pa 0 == -1) && (iat A.la 0 == -1) else okR A s && (decide ((Wd A s).length ≤ 402) && pairAsc A s)
theorem spell_okI {A : Au} (s : Nat) : allN s (fun t => okS A (wl A t) t) = allN s (okI A) ∧ (allN s (okI A) = true → AscTo A s) := by
  induction s with
  | zero => exact ⟨rfl, fun _ i j h1 h2 => absurd h2 (Nat.not_lt_zero _)⟩
  | succ s ih =>
    have e1 : ∀ p : Nat → Bool, allN (s + 1) p = (allN s p && p s) := fun p => by
      unfold allN
      rw [List.range_succ, List.all_append]
      simp
    rw [e1, e1, ih.1]
    cases hf : allN s (okI A) with
    | false => exact ⟨rfl, fun h => by simp at h⟩
    | true =>
      have hasc := ih.2 hf
      simp only [Bool.true_and]
      have ho : ∀ t, 1 ≤ t → t < s → okR A t = true := fun t h1 h2 => by
        have := List.all_eq_true.1 hf t (List.mem_range.2 h2)
        unfold okI at this
        rw [if_neg (by omega)] at this
        simp only [Bool.and_eq_true] at this
        exact this.1
      have key : okS A (wl A s) s = okI A s := by
        unfold okS okI
        by_cases e : s = 0
        · rw [if_pos e, if_pos e]
        · rw [if_neg e, if_neg e]
          unfold okW
          have eW : nw A (wl A s) s = Wd A s := by unfold Wd; rw [if_neg e]
          rw [eW, wl_wd (by omega)]
          cases hr : okR A s with
          | false => rfl
          | true =>
            have hz : iat A.pa 0 = -1 := by
              have := List.all_eq_true.1 hf 0 (List.mem_range.2 (by omega))
              unfold okI at this
              rw [if_pos rfl] at this
              simp only [Bool.and_eq_true, beq_iff_eq] at this
              exact this.1
            rw [bef_pair hz (fun t h1 h2 => by rcases Nat.lt_or_eq_of_le h2 with h3 | rfl; exact ho t h1 h3; exact hr) hasc (by omega)]
      refine ⟨key, fun h => asc_up hasc fun h1 => ?_⟩
      rw [← key] at h
      unfold okS okW at h
      rw [if_neg (by omega)] at h
      simp only [Bool.and_eq_true] at h
      have h3 := h.2.2
      rw [wl_wd (by omega)] at h3
      unfold Wd
      rw [if_neg (show ¬ s = 0 by omega)]
      exact h3
end Go.Proofs.Ytifefpeefcjabaa
