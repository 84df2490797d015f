import Derived.Test.YtifefpeefcjabaaBC
namespace Go.Proofs.Ytifefpeefcjabaa
open Go.RowKit Go.Maps
set_option linter.unusedVariables false
set_option maxRecDepth 100000

/-- what a step answers: the next node, or nil -/
def stepV (A : Au) (n : Nat) (bl : Nat → Nat) (s : Nat) (e : Int) : Value :=
  if e < 0 ∨ 4000 ≤ e then .pointer none
  else if bat A.bd s = true ∨ (iat A.mu s ≠ -1 ∧ iat A.mu s ≠ e) then .pointer none
  else if bat A.bd (goOf A n s e) = true then .pointer none else ptr (bl (goOf A n s e))
theorem TR.cells {A : Au} {n k : Nat} {w : World} {bl : Nat → Nat} {fl mv : Nat → Value} {num : Nat → Int} (h : TR A n k w bl fl mv num) (hm : iat A.mu 0 = -1) (hb : bat A.bd 0 = false) {s : Nat} (hs : s < n) :
    w.cell? ⟨bl s, 3, none⟩ = some (.int .i64 (iat A.mu s)) ∧ w.cell? ⟨bl s, 4, none⟩ = some (.bool (bat A.bd s)) := by
  have := h.nd s hs
  by_cases e : s = 0
  · subst e
    exact ⟨by rw [hm]; exact this.cell (i := 3) rfl, by rw [hb]; exact this.cell (i := 4) rfl⟩
  · simp only [if_neg e] at this
    exact ⟨this.cell (i := 3) rfl, this.cell (i := 4) rfl⟩

theorem wf_small {e : Int} (h0 : 0 ≤ e) (h1 : e < 4000) : (Lit.int .i64 e).wf = true := by
  have a : IntKind.i64.min = -9223372036854775808 := rfl
  have b : IntKind.i64.max = 9223372036854775807 := rfl
  simp only [Lit.wf, a, b, Bool.and_eq_true, decide_eq_true_eq]
  omega
set_option maxHeartbeats 4000000 in
theorem step_any (A : Au) (n s : Nat) (e : Int) (w : World) (bl : Nat → Nat) (fl mv : Nat → Value) (num : Nat → Int) (T : Trie A n) (h : TR A n n w bl fl mv num) (hm : iat A.mu 0 = -1) (hb : bat A.bd 0 = false) (hs : s < n) :
    Calls Try.prog 49 #[ptr (bl s), .int .i64 e] w fun r w' => r = .returned (stepV A n bl s e) ∧ w' = w := by
  obtain ⟨k3, k4⟩ := h.cells hm hb hs
  have HT : Hid (Trie A n) := T
  have HR : Hid (TR A n n w bl fl mv num) := h
  have HD : Hid (stepV A n bl s e = if e < 0 ∨ 4000 ≤ e then .pointer none else if bat A.bd s = true ∨ (iat A.mu s ≠ -1 ∧ iat A.mu s ≠ e) then .pointer none else if bat A.bd (goOf A n s e) = true then .pointer none else ptr (bl (goOf A n s e))) := rfl
  have HG : Hid (w.cell? ⟨bl (goOf A n s e), 4, none⟩ = some (.bool (bat A.bd (goOf A n s e)))) := (h.cells hm hb (go_lw T hs e).2).2
  clear T h hm hb
  unfold ptr
  cases g1 : noE e
  case true =>
    have HF : Hid (stepV A n bl s e = .pointer none) := by unfold Hid; rw [HD.out, if_pos (by unfold noE at g1; simpa using g1)]
    go_enter Try.func49, Try.ntmps49
    go_wp2_with (go_at_call 66; refine (noEdge_any _ _).mono ?_; rintro r w' ⟨rfl, rfl⟩; rw [g1])
    go_ret
    exact ⟨by rw [HF.out]; rfl, rfl⟩
  have hw : (Lit.int .i64 e).wf = true := by
    unfold noE at g1
    simp at g1
    exact wf_small (by omega) (by omega)
  have HD2 : Hid (stepV A n bl s e = if bat A.bd s = true ∨ (iat A.mu s ≠ -1 ∧ iat A.mu s ≠ e) then .pointer none else if bat A.bd (goOf A n s e) = true then .pointer none else ptr (bl (goOf A n s e))) := by
    unfold Hid
    rw [HD.out, if_neg (by unfold noE at g1; simp at g1; omega)]
  cases g2 : bat A.bd s
  case true =>
    have HF : Hid (stepV A n bl s e = .pointer none) := by unfold Hid; rw [HD2.out, if_pos (Or.inl g2)]
    rw [g2] at k4
    go_enter Try.func49, Try.ntmps49
    go_wp2_with (go_at_call 66; refine (noEdge_any _ _).mono ?_; rintro r w' ⟨rfl, rfl⟩; rw [g1])
    go_ret
    exact ⟨by rw [HF.out]; rfl, rfl⟩
  rw [g2] at k4
  by_cases g6 : iat A.mu s = -1 ∨ iat A.mu s = e
  case neg =>
    have f6 : (iat A.mu s != -1) = true := by simp; omega
    have f7 : (iat A.mu s != e) = true := by simp; omega
    have HF : Hid (stepV A n bl s e = .pointer none) := by unfold Hid; rw [HD2.out, if_pos (Or.inr (by omega))]
    clear g6 g2
    go_enter Try.func49, Try.ntmps49
    go_wp2_with (go_at_call 66; refine (noEdge_any _ _).mono ?_; rintro r w' ⟨rfl, rfl⟩; rw [g1])
    go_ret
    exact ⟨by rw [HF.out]; rfl, rfl⟩
  have HD3 : Hid (stepV A n bl s e = if bat A.bd (goOf A n s e) = true then .pointer none else ptr (bl (goOf A n s e))) := by
    unfold Hid
    rw [HD2.out, if_neg (by rw [g2]; simp; omega)]
  have ht : ∃ t1 t2 : Bool, (iat A.mu s != -1) = t1 ∧ (iat A.mu s != e) = t2 ∧ (t1 && t2) = false := ⟨_, _, rfl, rfl, by simp; omega⟩
  obtain ⟨t1, t2, f6, f7, f8⟩ := ht
  clear g6 g2 HD HD2
  have g9 := HG.out
  cases g5 : bat A.bd (goOf A n s e)
  · have HF : Hid (stepV A n bl s e = .pointer (some ⟨bl (goOf A n s e), 0, none⟩)) := by unfold Hid; rw [HD3.out, if_neg (by rw [g5]; simp)]; rfl
    rw [g5] at g9
    cases t1
    · go_enter Try.func49, Try.ntmps49
      go_wp2_with (first | (go_at_call 66; refine (noEdge_any _ _).mono ?_; rintro r w' ⟨rfl, hw'⟩; have hw2 := hw'.symm; subst hw2; rw [g1]) | (go_at_call 67; refine (longest_any A n n s e _ bl fl mv num HT.out HR.out (Nat.le_refl _) hs hw).mono ?_; rintro r w' ⟨rfl, hw'⟩; have hw2 := hw'.symm; subst hw2; unfold ptr))
      go_ret
      exact ⟨by rw [HF.out]; rfl, rfl⟩
    · cases t2
      · go_enter Try.func49, Try.ntmps49
        go_wp2_with (first | (go_at_call 66; refine (noEdge_any _ _).mono ?_; rintro r w' ⟨rfl, hw'⟩; have hw2 := hw'.symm; subst hw2; rw [g1]) | (go_at_call 67; refine (longest_any A n n s e _ bl fl mv num HT.out HR.out (Nat.le_refl _) hs hw).mono ?_; rintro r w' ⟨rfl, hw'⟩; have hw2 := hw'.symm; subst hw2; unfold ptr))
        go_ret
        exact ⟨by rw [HF.out]; rfl, rfl⟩
      · simp at f8
  · have HF : Hid (stepV A n bl s e = .pointer none) := by unfold Hid; rw [HD3.out, if_pos g5]
    rw [g5] at g9
    cases t1
    · go_enter Try.func49, Try.ntmps49
      go_wp2_with (first | (go_at_call 66; refine (noEdge_any _ _).mono ?_; rintro r w' ⟨rfl, hw'⟩; have hw2 := hw'.symm; subst hw2; rw [g1]) | (go_at_call 67; refine (longest_any A n n s e _ bl fl mv num HT.out HR.out (Nat.le_refl _) hs hw).mono ?_; rintro r w' ⟨rfl, hw'⟩; have hw2 := hw'.symm; subst hw2; unfold ptr))
      go_ret
      exact ⟨by rw [HF.out]; rfl, rfl⟩
    · cases t2
      · go_enter Try.func49, Try.ntmps49
        go_wp2_with (first | (go_at_call 66; refine (noEdge_any _ _).mono ?_; rintro r w' ⟨rfl, hw'⟩; have hw2 := hw'.symm; subst hw2; rw [g1]) | (go_at_call 67; refine (longest_any A n n s e _ bl fl mv num HT.out HR.out (Nat.le_refl _) hs hw).mono ?_; rintro r w' ⟨rfl, hw'⟩; have hw2 := hw'.symm; subst hw2; unfold ptr))
        go_ret
        exact ⟨by rw [HF.out]; rfl, rfl⟩
      · simp at f8
end Go.Proofs.Ytifefpeefcjabaa
