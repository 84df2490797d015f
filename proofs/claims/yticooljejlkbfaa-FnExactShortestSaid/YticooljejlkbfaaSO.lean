namespace Go.Proofs.Yticooljejlkbfaa
set_option linter.unusedVariables false

def lexB : List Int → List Int → Bool
  | x :: a, y :: b => if x = y then lexB a b else decide (x < y)
  | _, _ => false
/-- shorter, or xs long and smaller at the first difference -/
def befB (a b : List Int) : Bool := if a.length = b.length then lexB a b else decide (a.length < b.length)
theorem lex_self (a : List Int) : lexB a a = false := by
  induction a with
  | nil => rfl
  | cons x a ih => rw [lexB, if_pos rfl]; exact ih

theorem lex_trans {x y z : List Int} (h1 : lexB x y = true) (h2 : lexB y z = true) : lexB x z = true := by
  induction x generalizing y z with
  | nil => simp [lexB] at h1
  | cons a x ih =>
    match y, z with
    | [], _ => simp [lexB] at h1
    | _ :: _, [] => simp [lexB] at h2
    | b :: y, c :: z =>
      simp only [lexB] at h1 h2 ⊢
      by_cases e1 : a = b
      · rw [if_pos e1] at h1
        by_cases e2 : b = c
        · rw [if_pos e2] at h2
          rw [if_pos (by omega)]
          exact ih h1 h2
        · rw [if_neg e2] at h2
          rw [if_neg (by omega)]
          simp at h2 ⊢
          omega
      · rw [if_neg e1] at h1
        by_cases e2 : b = c
        · rw [if_neg (by omega)]
          simp at h1 ⊢
          omega
        · rw [if_neg e2] at h2
          simp at h1 h2
          rw [if_neg (by omega)]
          simp
          omega
theorem bef_trans {x y z : List Int} (h1 : befB x y = true) (h2 : befB y z = true) : befB x z = true := by
  unfold befB at *
  by_cases e1 : x.length = y.length
  · rw [if_pos e1] at h1
    by_cases e2 : y.length = z.length
    · rw [if_pos e2] at h2
      rw [if_pos (by omega)]
      exact lex_trans h1 h2
    · rw [if_neg e2] at h2
      rw [if_neg (by omega)]
      simp at h2 ⊢
      omega
  · rw [if_neg e1] at h1
    by_cases e2 : y.length = z.length
    · rw [if_neg (by omega)]
      simp at h1 ⊢
      omega
    · rw [if_neg e2] at h2
      simp at h1 h2
      rw [if_neg (by omega)]
      simp
      omega
theorem bef_self (x : List Int) : befB x x = false := by unfold befB; rw [if_pos rfl, lex_self]
theorem lex_tri {a b : List Int} (hl : a.length = b.length) (hn : a ≠ b) (h : lexB a b = false) : lexB b a = true := by
  induction a generalizing b with
  | nil => cases b with
    | nil => exact absurd rfl hn
    | cons y b => simp at hl
  | cons x a ih => cases b with
    | nil => simp at hl
    | cons y b =>
      unfold lexB at h ⊢
      by_cases e : x = y
      · subst e
        rw [if_pos rfl] at h ⊢
        exact ih (by simpa using hl) (fun e => hn (by rw [e])) h
      · rw [if_neg e] at h
        rw [if_neg (fun h' => e h'.symm)]
        simp at h ⊢
        omega
theorem bef_tri {a b : List Int} (hn : a ≠ b) (h : befB a b = false) : befB b a = true := by
  unfold befB at h ⊢
  by_cases e : a.length = b.length
  · rw [if_pos e] at h
    rw [if_pos e.symm]
    exact lex_tri e hn h
  · rw [if_neg e] at h
    rw [if_neg (fun h' => e h'.symm)]
    simp at h ⊢
    omega
theorem bef_not {a b : List Int} (h : befB a b = true) : befB b a = false := by
  cases e : befB b a with
  | false => rfl
  | true =>
    have := bef_trans h e
    rw [bef_self] at this
    cases this

theorem lex_snoc {x y : List Int} (a b : Int) (h : x.length = y.length) : lexB (x ++ [a]) (y ++ [b]) = (lexB x y || (decide (x = y) && decide (a < b))) := by
  induction x generalizing y with
  | nil =>
    match y, h with
    | [], _ =>
      simp only [List.nil_append, lexB]
      by_cases e : a = b
      · subst e; simp
      · rw [if_neg e]; simp
  | cons c x ih =>
    match y, h with
    | d :: y, h =>
      simp only [List.cons_append, lexB]
      by_cases e : c = d
      · subst e
        rw [if_pos rfl, if_pos rfl, ih (by simpa using h)]
        simp
      · rw [if_neg e, if_neg e]
        simp [e]
theorem bef_snoc (x y : List Int) (a b : Int) : befB (x ++ [a]) (y ++ [b]) = (befB x y || (decide (x = y) && decide (a < b))) := by
  unfold befB
  by_cases e : x.length = y.length
  · rw [if_pos (by simp [e]), if_pos e]
    exact lex_snoc a b e
  · have : x ≠ y := fun h => e (by rw [h])
    rw [if_neg (by simp [e]), if_neg e]
    simp [this]
theorem bef_len {x y : List Int} (h : befB x y = true) : x.length ≤ y.length := by
  unfold befB at h
  by_cases c : x.length = y.length
  · omega
  · rw [if_neg c] at h; simp at h; omega
end Go.Proofs.Yticooljejlkbfaa
