import Derived.Test.YtifefpeefcjabaaAW
namespace Go.Proofs.Ytifefpeefcjabaa
open Go.RowKit
set_option linter.unusedVariables false
set_option maxRecDepth 100000

theorem trie_of {A : Au} {n : Nat} (hn : 1 ≤ n) (h : allN n (okI A) = true) : Trie A n := by
  refine ⟨hn, fun t h1 h2 => ?_, (spell_okI n).2 h⟩
  have := List.all_eq_true.1 h t (List.mem_range.2 h2)
  unfold okI at this
  rw [if_neg (by omega)] at this
  simp only [Bool.and_eq_true] at this
  exact this.1
/-- what the program asks of must and bad -/
def muI (A : Au) (s : Nat) : Bool := if s = 0 then (iat A.mu 0 == -1) && !bat A.bd 0 else decide (-2 ≤ iat A.mu s) && decide (iat A.mu s < 4000)
def faI (A : Au) (n s : Nat) : Bool := iat A.fa s == (if s = 0 then -1 else (failOf A n s : Int))
def validI (A : Au) : Bool := lensOk A && (allN A.pa.length (okI A) && (allN A.pa.length (muI A) && allN A.pa.length (faI A A.pa.length)))
theorem allN_split {n : Nat} {p : Nat → Bool} (hn : 1 ≤ n) : allN n p = (p 0 && allN n (fun s => s == 0 || p s)) := by
  unfold allN
  rw [Bool.eq_iff_iff, Bool.and_eq_true, List.all_eq_true, List.all_eq_true]
  constructor
  · intro h
    exact ⟨h 0 (List.mem_range.2 hn), fun s hs => by rw [h s hs]; simp⟩
  · rintro ⟨h0, h⟩ s hs
    by_cases e : s = 0
    · rw [e]; exact h0
    · have := h s hs
      simpa [e] using this
theorem allN_and (n : Nat) (p q : Nat → Bool) : allN n (fun s => p s && q s) = (allN n p && allN n q) := by
  unfold allN
  rw [Bool.eq_iff_iff, Bool.and_eq_true, List.all_eq_true, List.all_eq_true, List.all_eq_true]
  constructor
  · intro h
    exact ⟨fun s hs => by have := h s hs; simp at this; exact this.1, fun s hs => by have := h s hs; simp at this; exact this.2⟩
  · rintro ⟨h1, h2⟩ s hs
    rw [h1 s hs, h2 s hs]
    rfl
theorem allN_congr {n : Nat} {p q : Nat → Bool} (h : ∀ s, s < n → p s = q s) : allN n p = allN n q := by
  unfold allN
  rw [Bool.eq_iff_iff, List.all_eq_true, List.all_eq_true]
  constructor
  · intro k s hs; rw [← h s (List.mem_range.1 hs)]; exact k s hs
  · intro k s hs; rw [h s (List.mem_range.1 hs)]; exact k s hs
theorem valid_same (A : Au) : validS A = validI A := by
  unfold validS validI
  cases hl : lensOk A with
  | false => rfl
  | true =>
    simp only [Bool.true_and]
    have hn : 1 ≤ A.pa.length := by
      unfold lensOk at hl
      simp only [Bool.and_eq_true, decide_eq_true_eq] at hl
      exact hl.1
    obtain ⟨s1, s2⟩ := spell_iff A A.pa.length
    rw [(spell_okI A.pa.length).1] at s1
    cases ho : allN A.pa.length (okI A) with
    | false => rw [s1, ho]; rfl
    | true =>
      rw [ho] at s1
      rw [s2 s1]
      simp only [Bool.true_and]
      have T := trie_of hn ho
      rw [allN_split (p := muI A) hn, allN_split (p := faI A A.pa.length) hn]
      have e1 : allN A.pa.length (sOkS A (wl A A.pa.length)) = (allN A.pa.length (fun s => s == 0 || muI A s) && allN A.pa.length (fun s => s == 0 || faI A A.pa.length s)) := by
        rw [← allN_and]
        refine allN_congr fun s hs => ?_
        unfold sOkS muI faI
        by_cases e : s = 0
        · subst e; rfl
        · have e' : (s == 0) = false := by simpa using e
          rw [e', if_neg e, if_neg e]
          simp only [Bool.false_or]
          have : lngW (wl A A.pa.length) (wd (wl A A.pa.length) s) 1 ((wd (wl A A.pa.length) s).length + 1 - 1) = (failOf A A.pa.length s : Int) := by
            rw [wl_wd hs]
            exact (fail_spec T (by omega) hs).1
          rw [this, Bool.and_assoc]
      rw [e1]
      have m0 : muI A 0 = ((iat A.mu 0 == -1) && !bat A.bd 0) := rfl
      have f0 : faI A A.pa.length 0 = (iat A.fa 0 == -1) := rfl
      rw [m0, f0]
      cases (iat A.fa 0 == -1) <;> cases (iat A.mu 0 == -1) <;> cases bat A.bd 0 <;> simp
/-- the words of a valid automaton -/
theorem ws_same {A : Au} (h : validS A = true) : wsA A = wl A A.pa.length ∧ Trie A A.pa.length := by
  have h1 := h
  rw [valid_same] at h1
  unfold validI at h1
  simp only [Bool.and_eq_true] at h1
  have hn : 1 ≤ A.pa.length := (ws_of h).2.2.2
  obtain ⟨s1, s2⟩ := spell_iff A A.pa.length
  rw [(spell_okI A.pa.length).1, h1.2.1] at s1
  refine ⟨?_, trie_of hn h1.2.1⟩
  unfold wsA
  rw [s2 s1]
theorem lngE_go {A : Au} (h : validS A = true) {s : Nat} (hs : s < A.pa.length) (e : Int) : lngE (wsA A) s e = (goOf A A.pa.length s e : Int) := by
  obtain ⟨e1, T⟩ := ws_same h
  unfold lngE
  rw [e1, wl_wd hs]
  exact (go_lw T hs e).1
/-- a step of a valid automaton, by the program's words -/
def stepI (A : Au) (s : Nat) (e : Int) : Int :=
  if e < 0 ∨ 4000 ≤ e then -1
  else if bat A.bd s = true ∨ (iat A.mu s ≠ -1 ∧ iat A.mu s ≠ e) then -1
  else if bat A.bd (goOf A A.pa.length s e) = true then -1 else (goOf A A.pa.length s e : Int)
theorem step_same {A : Au} (h : validS A = true) {s : Nat} (hs : s < A.pa.length) (e : Int) : stepS A (wsA A) (s : Int) e = stepI A s e := by
  have hl := (ws_of h).1.l
  unfold stepS stepI
  rw [hl]
  by_cases g : e < 0 ∨ 4000 ≤ e
  · rw [if_pos g, if_pos (by omega)]
  · rw [if_neg g, if_neg (by omega), Int.toNat_natCast, lngE_go h hs, Int.toNat_natCast]
end Go.Proofs.Ytifefpeefcjabaa
