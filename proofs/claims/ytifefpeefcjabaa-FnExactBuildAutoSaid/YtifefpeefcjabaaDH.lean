import Derived.Test.YtifefpeefcjabaaDF
namespace Go.Proofs.Ytifefpeefcjabaa
open Go.RowKit Go.Maps
set_option linter.unusedVariables false
set_option maxRecDepth 100000

/-- what the rules ask behind just this word -/
def ownP (rs : List Ru) (k : Nat) (y : List Int) (e : Int) : Prop := ∃ j, j < k ∧ (rat rs j).only = true ∧ y = (rat rs j).seq.take (most (rat rs j)) ∧ e = iat (rat rs j).seq ((rat rs j).seq.length - 1)
theorem ownP_up (rs : List Ru) (k : Nat) (y : List Int) (e : Int) : ownP rs (k + 1) y e ↔ ownP rs k y e ∨ ((rat rs k).only = true ∧ y = (rat rs k).seq.take (most (rat rs k)) ∧ e = iat (rat rs k).seq ((rat rs k).seq.length - 1)) := by
  constructor
  · rintro ⟨j, hj, h⟩
    by_cases c : j = k
    · subst c; exact Or.inr h
    · exact Or.inl ⟨j, by omega, h⟩
  · rintro (⟨j, hj, h⟩ | h)
    · exact ⟨j, by omega, h⟩
    · exact ⟨k, by omega, h⟩
theorem muK_is {rs : List Ru} (hg : rgB rs = true) {k : Nat} (hk : k ≤ rs.length) (y : List Int) : MustIs (ownP rs k y) (muK rs k y) := by
  induction k with
  | zero => exact MustIs.none.congr fun x => ⟨fun h => h.elim, fun ⟨j, hj, _⟩ => by omega⟩
  | succ k ih =>
    have h1 := ih (by omega)
    have hr := rg_at hg (show k < rs.length by omega)
    show MustIs _ (muP (rat rs k) (muK rs k) y)
    unfold muP
    by_cases ho : (rat rs k).only = true
    · rw [if_pos ho]
      by_cases c : y = (rat rs k).seq.take (most (rat rs k))
      · rw [← c, upW_at]
        refine (h1.join (MustIs.one (hr.2.2 ((rat rs k).seq.length - 1) (by omega)).1)).congr fun x => ?_
        rw [ownP_up]
        exact ⟨fun h => h.elim Or.inl fun h => Or.inr ⟨ho, c, h⟩, fun h => h.elim Or.inl fun h => Or.inr h.2.2⟩
      · rw [upW_ne _ _ c]
        refine h1.congr fun x => ?_
        rw [ownP_up]
        exact ⟨Or.inl, fun h => h.elim id fun h => absurd h.2.1 c⟩
    · rw [if_neg ho]
      refine h1.congr fun x => ?_
      rw [ownP_up]
      exact ⟨Or.inl, fun h => h.elim id fun h => absurd h.1 ho⟩
/-- what the rules ask behind a list -/
def sufP (rs : List Ru) (k : Nat) (xs : List Int) (e : Int) : Prop := ∃ j, j < k ∧ (rat rs j).only = true ∧ (rat rs j).seq.take (most (rat rs j)) <:+ xs ∧ e = iat (rat rs j).seq ((rat rs j).seq.length - 1)
theorem most_only {x : Ru} (h : x.only = true) : most x = x.seq.length - 1 := by unfold most; rw [if_pos h]
theorem most_no {x : Ru} (h : x.only = false) : most x = x.seq.length := by unfold most; rw [h]; rfl
theorem mustTo_is {rs : List Ru} (hg : rgB rs = true) {k : Nat} (hk : k ≤ rs.length) (xs : List Int) : MustIs (sufP rs k xs) (mustTo rs xs k) := by
  induction k with
  | zero => exact MustIs.none.congr fun x => ⟨fun h => h.elim, fun ⟨j, hj, _⟩ => by omega⟩
  | succ k ih =>
    have h1 := ih (by omega)
    have hr := rg_at hg (show k < rs.length by omega)
    have hup : ∀ e, sufP rs (k + 1) xs e ↔ sufP rs k xs e ∨ ((rat rs k).only = true ∧ (rat rs k).seq.take (most (rat rs k)) <:+ xs ∧ e = iat (rat rs k).seq ((rat rs k).seq.length - 1)) := by
      intro e
      constructor
      · rintro ⟨j, hj, h⟩
        by_cases c : j = k
        · subst c; exact Or.inr h
        · exact Or.inl ⟨j, by omega, h⟩
      · rintro (⟨j, hj, h⟩ | h)
        · exact ⟨j, by omega, h⟩
        · exact ⟨k, by omega, h⟩
    rw [mustTo]
    by_cases c : mustAt (rat rs k) xs = true
    · rw [if_pos c]
      have hc := c
      unfold mustAt at hc
      rw [Bool.and_eq_true, suf_iff] at hc
      rw [← jm_edge _ _ (hr.2.2 ((rat rs k).seq.length - 1) (by omega)).1]
      refine (h1.join (MustIs.one (hr.2.2 ((rat rs k).seq.length - 1) (by omega)).1)).congr fun x => ?_
      rw [hup]
      exact ⟨fun h => h.elim Or.inl fun h => Or.inr ⟨hc.1, by rw [most_only hc.1]; exact hc.2, h⟩, fun h => h.elim Or.inl fun h => Or.inr h.2.2⟩
    · rw [if_neg c]
      refine h1.congr fun x => ?_
      rw [hup]
      refine ⟨Or.inl, fun h => h.elim id fun h => absurd ?_ c⟩
      unfold mustAt
      rw [Bool.and_eq_true, suf_iff]
      exact ⟨h.1, by rw [← most_only h.1]; exact h.2.1⟩
theorem bad_iff (rs : List Ru) (xs : List Int) : badS rs xs = true ↔ ∃ j, j < rs.length ∧ (rat rs j).only = false ∧ (rat rs j).seq.take (most (rat rs j)) <:+ xs := by
  constructor
  · intro h
    unfold badS at h
    rw [Bool.not_eq_true'] at h
    unfold allN at h
    rw [List.all_eq_false] at h
    obtain ⟨j, hj, hb⟩ := h
    rw [List.mem_range] at hj
    have hb' : badAt (rat rs j) xs = true := by simpa using hb
    unfold badAt at hb'
    rw [Bool.and_eq_true, suf_iff] at hb'
    have ho : (rat rs j).only = false := by simpa using hb'.1
    refine ⟨j, hj, ho, ?_⟩
    rw [most_no ho, List.take_length]
    exact hb'.2
  · rintro ⟨j, hj, ho, hs⟩
    symm
    apply bad_yes rfl hj
    unfold badAt
    rw [Bool.and_eq_true, suf_iff]
    rw [most_no ho, List.take_length] at hs
    exact ⟨by rw [ho]; rfl, hs⟩
theorem bdK_iff (rs : List Ru) (k : Nat) (y : List Int) : bdK rs k y = true ↔ ∃ j, j < k ∧ (rat rs j).only = false ∧ y = (rat rs j).seq.take (most (rat rs j)) := by
  induction k with
  | zero => exact ⟨fun h => by simp [bdK] at h, fun ⟨j, hj, _⟩ => by omega⟩
  | succ k ih =>
    show bdP (rat rs k) (bdK rs k) y = true ↔ _
    unfold bdP
    by_cases ho : (rat rs k).only = true
    · rw [if_pos ho, ih]
      constructor
      · rintro ⟨j, hj, h⟩; exact ⟨j, by omega, h⟩
      · rintro ⟨j, hj, h⟩
        by_cases c : j = k
        · subst c; rw [ho] at h; exact absurd h.1 (by simp)
        · exact ⟨j, by omega, h⟩
    · have ho' : (rat rs k).only = false := by simpa using ho
      rw [if_neg ho]
      by_cases c : y = (rat rs k).seq.take (most (rat rs k))
      · rw [← c, upW_at]
        exact ⟨fun _ => ⟨k, by omega, ho', c⟩, fun _ => rfl⟩
      · rw [upW_ne _ _ c, ih]
        constructor
        · rintro ⟨j, hj, h⟩; exact ⟨j, by omega, h⟩
        · rintro ⟨j, hj, h⟩
          by_cases d : j = k
          · subst d; exact absurd h.2 c
          · exact ⟨j, by omega, h⟩
theorem st_inv {ws : List (List Int)} {x : List Int} (h : 0 ≤ stW ws x) : ∃ t : Nat, t < ws.length ∧ stW ws x = t ∧ wd ws t = x := by
  unfold stW at h ⊢
  obtain ⟨a, h1, h2, h3, h4⟩ := findA_some h
  exact ⟨a, by omega, h1, by simpa using h4⟩
theorem lng_least {ws : List (List Int)} {x : List Int} : ∀ (f k : Nat), (∃ j, k ≤ j ∧ j < k + f ∧ 0 ≤ stW ws (x.drop j)) → ∃ j, k ≤ j ∧ j < k + f ∧ lngW ws x k f = stW ws (x.drop j) ∧ 0 ≤ stW ws (x.drop j) ∧ ∀ i, k ≤ i → i < j → ¬ 0 ≤ stW ws (x.drop i) := by
  intro f
  induction f with
  | zero => rintro k ⟨j, h1, h2, _⟩; omega
  | succ f ih =>
    rintro k ⟨j, h1, h2, h3⟩
    by_cases c : 0 ≤ stW ws (x.drop k)
    · exact ⟨k, Nat.le_refl _, by omega, by rw [lngW, if_pos c], c, fun i h4 h5 => by omega⟩
    · have hj : j ≠ k := fun e => c (e ▸ h3)
      obtain ⟨j', g1, g2, g3, g4, g5⟩ := ih (k + 1) ⟨j, by omega, by omega, h3⟩
      refine ⟨j', by omega, by omega, by rw [lngW, if_neg c]; exact g3, g4, fun i h4 h5 => ?_⟩
      by_cases d : i = k
      · rw [d]; exact c
      · exact g5 i (by omega) h5
/-- the fail of a word: its longest shorter end among the words -/
theorem fail_end {ws : List (List Int)} {mu : List Int → Int} {bd : List Int → Bool} (h : WS ws) {s : Nat} (h1 : 1 ≤ s) (hs : s < ws.length) : ∃ j, 1 ≤ j ∧ j ≤ (wd ws s).length ∧ wd ws (failOf (autoOf ws mu bd) ws.length s) = (wd ws s).drop j ∧ ∀ i, 1 ≤ i → i < j → ¬ inW ws ((wd ws s).drop i) := by
  have hne := h.ne h1 hs
  have hl : 0 < (wd ws s).length := List.length_pos_iff.2 hne
  have hF := auto_fail (mu := mu) (bd := bd) h h1 hs
  obtain ⟨z, hz, ez⟩ := h.nil
  obtain ⟨j, g1, g2, g3, g4, g5⟩ := lng_least (ws := ws) (x := wd ws s) ((wd ws s).length + 1 - 1) 1 ⟨(wd ws s).length, by omega, by omega, by rw [List.drop_length, st_at h.asc hz ez]; omega⟩
  obtain ⟨t, t1, t2, t3⟩ := st_inv g4
  have e1 : LW ws (wd ws s) 1 = t := by unfold LW; rw [g3, t2]
  rw [hF.1] at e1
  have e2 : failOf (autoOf ws mu bd) ws.length s = t := by omega
  refine ⟨j, g1, by omega, by rw [e2, t3], fun i h3 h4 hin => ?_⟩
  obtain ⟨q, hq, eq⟩ := hin
  have := g5 i h3 h4
  rw [st_at h.asc hq eq] at this
  omega
/-- an end of a word among the words is the word or an end of its fail -/
theorem end_or {ws : List (List Int)} {x y q : List Int} {j : Nat} (hy : y = x.drop j) (hmin : ∀ i, 1 ≤ i → i < j → ¬ inW ws (x.drop i)) (hq : inW ws q) : q <:+ x ↔ q = x ∨ q <:+ y := by
  constructor
  · intro h
    obtain ⟨p, hp⟩ := h
    by_cases c : p = []
    · left; rw [← hp, c]; rfl
    · right
      have e : q = x.drop p.length := by rw [← hp]; simp
      have hl : 0 < p.length := List.length_pos_iff.2 c
      have hj : j ≤ p.length := by
        rcases Nat.lt_or_ge p.length j with h1 | h1
        · exact absurd (e ▸ hq) (hmin p.length hl h1)
        · exact h1
      rw [hy, e, show p.length = j + (p.length - j) by omega, ← List.drop_drop]
      exact List.drop_suffix _ _
  · rintro (h | h)
    · rw [h]; exact List.suffix_refl _
    · rw [hy] at h
      exact h.trans (List.drop_suffix _ _)
section
variable {rs : List Ru} {ws : List (List Int)}
theorem end_in (hg : rgB rs = true) (hm : ∀ y, inW ws y ↔ PW rs rs.length 1 y) {j : Nat} (hj : j < rs.length) : inW ws ((rat rs j).seq.take (most (rat rs j))) ∧ (rat rs j).seq.take (most (rat rs j)) ≠ [] := by
  have hr := rg_at hg hj
  have h1 := most_pos hr.1
  refine ⟨(hm _).2 (Or.inr (Or.inl ⟨j, hj, _, h1, Nat.le_refl _, rfl⟩)), fun e => ?_⟩
  have := congrArg List.length e
  rw [List.length_take, List.length_nil] at this
  omega
theorem must_step (hg : rgB rs = true) (hW : WS ws) (hm : ∀ y, inW ws y ↔ PW rs rs.length 1 y) {mu : List Int → Int} {bd : List Int → Bool} {s : Nat} (h1 : 1 ≤ s) (hs : s < ws.length) : mustS rs (wd ws s) = jm (muK rs rs.length (wd ws s)) (mustS rs (wd ws (failOf (autoOf ws mu bd) ws.length s))) := by
  obtain ⟨j, _, _, he, hmin⟩ := fail_end (mu := mu) (bd := bd) hW h1 hs
  refine (mustTo_is hg (Nat.le_refl _) _).uniq (((muK_is hg (Nat.le_refl _) (wd ws s)).join (mustTo_is hg (Nat.le_refl _) _)).congr fun e => ?_)
  constructor
  · rintro (⟨i, hi, ho, hy, he'⟩ | ⟨i, hi, ho, hy, he'⟩)
    · exact ⟨i, hi, ho, by rw [← hy]; exact List.suffix_refl _, he'⟩
    · exact ⟨i, hi, ho, (end_or he hmin (end_in hg hm hi).1).2 (Or.inr hy), he'⟩
  · rintro ⟨i, hi, ho, hy, he'⟩
    rcases (end_or he hmin (end_in hg hm hi).1).1 hy with h | h
    · exact Or.inl ⟨i, hi, ho, h.symm, he'⟩
    · exact Or.inr ⟨i, hi, ho, h, he'⟩
theorem bad_step (hg : rgB rs = true) (hW : WS ws) (hm : ∀ y, inW ws y ↔ PW rs rs.length 1 y) {mu : List Int → Int} {bd : List Int → Bool} {s : Nat} (h1 : 1 ≤ s) (hs : s < ws.length) : badS rs (wd ws s) = (bdK rs rs.length (wd ws s) || badS rs (wd ws (failOf (autoOf ws mu bd) ws.length s))) := by
  obtain ⟨j, _, _, he, hmin⟩ := fail_end (mu := mu) (bd := bd) hW h1 hs
  rw [Bool.eq_iff_iff, Bool.or_eq_true, bad_iff, bdK_iff, bad_iff]
  constructor
  · rintro ⟨i, hi, ho, hy⟩
    rcases (end_or he hmin (end_in hg hm hi).1).1 hy with h | h
    · exact Or.inl ⟨i, hi, ho, h.symm⟩
    · exact Or.inr ⟨i, hi, ho, h⟩
  · rintro (⟨i, hi, ho, hy⟩ | ⟨i, hi, ho, hy⟩)
    · exact ⟨i, hi, ho, by rw [← hy]; exact List.suffix_refl _⟩
    · exact ⟨i, hi, ho, (end_or he hmin (end_in hg hm hi).1).2 (Or.inr hy)⟩
theorem must_nil (hg : rgB rs = true) (hm : ∀ y, inW ws y ↔ PW rs rs.length 1 y) : mustS rs [] = -1 ∧ muK rs rs.length [] = -1 := by
  refine ⟨(mustTo_is hg (Nat.le_refl _) _).uniq (MustIs.none.congr fun e => ⟨fun h => h.elim, ?_⟩), (muK_is hg (Nat.le_refl _) _).uniq (MustIs.none.congr fun e => ⟨fun h => h.elim, ?_⟩)⟩
  · rintro ⟨i, hi, ho, hy, _⟩
    exact (end_in hg hm hi).2 (List.suffix_nil.1 hy)
  · rintro ⟨i, hi, ho, hy, _⟩
    exact (end_in hg hm hi).2 hy.symm
theorem bad_nil (hg : rgB rs = true) (hm : ∀ y, inW ws y ↔ PW rs rs.length 1 y) : badS rs [] = false ∧ bdK rs rs.length [] = false := by
  constructor
  · rw [← Bool.not_eq_true, bad_iff]
    rintro ⟨i, hi, ho, hy⟩
    exact (end_in hg hm hi).2 (List.suffix_nil.1 hy)
  · rw [← Bool.not_eq_true, bdK_iff]
    rintro ⟨i, hi, ho, hy⟩
    exact (end_in hg hm hi).2 hy.symm
end
end Go.Proofs.Ytifefpeefcjabaa
