import Derived.Test.YtifefpeefcjabaaAV
namespace Go.Proofs.Ytifefpeefcjabaa
open Go.RowKit
set_option linter.unusedVariables false
set_option maxRecDepth 100000

/-- the words of a good trie of n states -/
structure Trie (A : Au) (n : Nat) : Prop where
  pos : 1 ≤ n
  ok : ∀ t, 1 ≤ t → t < n → okR A t = true
  asc : AscTo A n
theorem Trie.inj {A : Au} {n i j : Nat} (h : Trie A n) (hi : i < n) (hj : j < n) (e : Wd A i = Wd A j) : i = j := by
  have := (h.asc.ne hi hj).2
  rw [decide_eq_true (by exact e)] at this
  simpa using this.symm
theorem st_word {A : Au} {n s : Nat} (h : Trie A n) (hs : s < n) : stW (wl A n) (Wd A s) = s := by
  unfold stW
  rw [wl_len]
  refine findA_one (Nat.zero_le _) (by omega) ?_ fun b _ hb => ?_
  · rw [wl_wd hs]; simp
  · rw [wl_wd (by omega), decide_eq_false_iff_not]
    intro e
    have := h.inj (by omega) hs e
    omega
theorem st_some {A : Au} {n : Nat} {x : List Int} (h : 0 ≤ stW (wl A n) x) : ∃ s, s < n ∧ Wd A s = x ∧ stW (wl A n) x = s := by
  unfold stW at h ⊢
  rw [wl_len] at h ⊢
  obtain ⟨a, e, _, ha, hf⟩ := findA_some h
  refine ⟨a, by omega, ?_, e⟩
  rw [wl_wd (by omega)] at hf
  simpa using hf
theorem Wd_ne {A : Au} {n s : Nat} (h : Trie A n) (h1 : 1 ≤ s) (hs : s < n) : Wd A s ≠ [] := by
  rw [Wd_step (h.ok s h1 hs) h1]
  simp
/-- t is the child of s by edge e -/
def IsCh (A : Au) (n s : Nat) (e : Int) (t : Nat) : Prop := 1 ≤ t ∧ t < n ∧ iat A.pa t = s ∧ iat A.la t = e
theorem IsCh.word {A : Au} {n s t : Nat} {e : Int} (h : Trie A n) (hc : IsCh A n s e t) : Wd A t = Wd A s ++ [e] := by
  rw [Wd_step (h.ok t hc.1 hc.2.1) hc.1, hc.2.2.1, hc.2.2.2, Int.toNat_natCast]
theorem ch_of {A : Au} {n s : Nat} {e : Int} (h : Trie A n) (hs : s < n) (hp : 0 ≤ stW (wl A n) (Wd A s ++ [e])) : ∃ t, IsCh A n s e t ∧ stW (wl A n) (Wd A s ++ [e]) = t := by
  obtain ⟨t, ht, hw, hst⟩ := st_some hp
  have h1 : 1 ≤ t := by
    rcases Nat.eq_zero_or_pos t with e0 | e0
    · subst e0
      rw [Wd_zero] at hw
      simp at hw
    · exact e0
  have ho := okR_at (h.ok t h1 ht)
  rw [Wd_step (h.ok t h1 ht) h1] at hw
  obtain ⟨h2, h3⟩ := List.append_inj' hw rfl
  have := h.inj (i := (iat A.pa t).toNat) (j := s) (by omega) hs h2
  exact ⟨t, ⟨h1, ht, by omega, by simpa using h3⟩, hst⟩
theorem pre_word {A : Au} {n : Nat} {x : List Int} {e : Int} (h : Trie A n) (hp : 0 ≤ stW (wl A n) (x ++ [e])) : 0 ≤ stW (wl A n) x := by
  obtain ⟨t, ht, hw, _⟩ := st_some hp
  have h1 : 1 ≤ t := by
    rcases Nat.eq_zero_or_pos t with e0 | e0
    · subst e0
      rw [Wd_zero] at hw
      simp at hw
    · exact e0
  have ho := okR_at (h.ok t h1 ht)
  rw [Wd_step (h.ok t h1 ht) h1] at hw
  obtain ⟨h2, _⟩ := List.append_inj' hw rfl
  rw [← h2, st_word h (by omega)]
  omega
/-- the longest end from place k on -/
def LW (ws : List (List Int)) (x : List Int) (k : Nat) : Int := lngW ws x k (x.length + 1 - k)
theorem LW_hit {ws : List (List Int)} {x : List Int} {k : Nat} (hk : k ≤ x.length) (h : 0 ≤ stW ws (x.drop k)) : LW ws x k = stW ws (x.drop k) := by
  unfold LW
  rw [show x.length + 1 - k = (x.length - k) + 1 by omega, lngW, if_pos h]
theorem LW_skip {ws : List (List Int)} {x : List Int} {k : Nat} (hk : k ≤ x.length) (h : ¬ 0 ≤ stW ws (x.drop k)) : LW ws x k = LW ws x (k + 1) := by
  unfold LW
  rw [show x.length + 1 - k = (x.length + 1 - (k + 1)) + 1 by omega, lngW, if_neg h]
theorem lng_drop {ws : List (List Int)} (x : List Int) (j k f : Nat) : lngW ws (x.drop j) k f = lngW ws x (j + k) f := by
  induction f generalizing k with
  | zero => rw [lngW, lngW]
  | succ f ih => rw [lngW, lngW, List.drop_drop, ih, Nat.add_assoc]
theorem LW_drop {ws : List (List Int)} {x : List Int} {j : Nat} (hj : j ≤ x.length) : LW ws (x.drop j) 0 = LW ws x j := by
  unfold LW
  rw [lng_drop, List.length_drop, Nat.add_zero]
  congr 1
  omega
theorem st_nil {A : Au} {n : Nat} (h : Trie A n) : stW (wl A n) [] = ((0 : Nat) : Int) := by
  have := st_word h (s := 0) h.pos
  rwa [Wd_zero] at this
theorem LW_end {A : Au} {n : Nat} (h : Trie A n) (x : List Int) : LW (wl A n) x x.length = 0 := by
  rw [LW_hit (Nat.le_refl _) (by rw [List.drop_length, st_nil h]; omega), List.drop_length, st_nil h]
  rfl
/-- the longest end is a state, and a proper one where k is above 0 -/
theorem LW_state {A : Au} {n : Nat} (h : Trie A n) (x : List Int) {k : Nat} (hk : k ≤ x.length) : ∃ v j, v < n ∧ LW (wl A n) x k = v ∧ k ≤ j ∧ j ≤ x.length ∧ Wd A v = x.drop j := by
  generalize hd : x.length - k = d
  induction d generalizing k with
  | zero =>
    have : k = x.length := by omega
    subst this
    exact ⟨0, x.length, h.pos, LW_end h x, Nat.le_refl _, Nat.le_refl _, by rw [List.drop_length]; rfl⟩
  | succ d ih =>
    by_cases hp : 0 ≤ stW (wl A n) (x.drop k)
    · obtain ⟨s, hs, hw, hst⟩ := st_some hp
      exact ⟨s, k, hs, by rw [LW_hit hk hp, hst], Nat.le_refl _, hk, hw⟩
    · obtain ⟨v, j, h1, h2, h3, h4, h5⟩ := ih (k := k + 1) (by omega) (by omega)
      exact ⟨v, j, h1, by rw [LW_skip hk hp, h2], by omega, h4, h5⟩
/-- one edge more: the ends of x ++ [e] are those of the longest end of x, with e -/
theorem LW_shift {A : Au} {n : Nat} (h : Trie A n) (x : List Int) (e : Int) {k v : Nat} (hk : k ≤ x.length) (hv : LW (wl A n) x k = v) : LW (wl A n) (x ++ [e]) k = LW (wl A n) (Wd A v ++ [e]) 0 := by
  generalize hd : x.length - k = d
  induction d generalizing k with
  | zero =>
    have : k = x.length := by omega
    subst this
    have hv0 : v = 0 := by rw [LW_end h x] at hv; omega
    subst hv0
    have : (x ++ [e]).drop x.length = [e] := by simp
    rw [← LW_drop (x := x ++ [e]) (by simp), this]
    rfl
  | succ d ih =>
    by_cases hp : 0 ≤ stW (wl A n) (x.drop k)
    · obtain ⟨s, hs, hw, hst⟩ := st_some hp
      rw [LW_hit hk hp, hst] at hv
      have : s = v := by omega
      subst this
      have : (x ++ [e]).drop k = x.drop k ++ [e] := by rw [List.drop_append_of_le_length hk]
      rw [← LW_drop (x := x ++ [e]) (by simp; omega), this, hw]
    · have hn : ¬ 0 ≤ stW (wl A n) ((x ++ [e]).drop k) := fun hq => hp (by rw [List.drop_append_of_le_length hk] at hq; exact pre_word h hq)
      rw [LW_skip (by simp; omega) hn]
      rw [LW_skip hk hp] at hv
      exact ih (by omega) hv (by omega)
/-- the fail of a state -/
def failOf (A : Au) (n s : Nat) : Nat := (LW (wl A n) (Wd A s) 1).toNat
theorem fail_spec {A : Au} {n s : Nat} (h : Trie A n) (h1 : 1 ≤ s) (hs : s < n) : LW (wl A n) (Wd A s) 1 = (failOf A n s : Int) ∧ failOf A n s < s := by
  have hne := Wd_ne h h1 hs
  have hl : 1 ≤ (Wd A s).length := List.length_pos_iff.2 hne
  obtain ⟨v, j, hv, e, hj, hj2, hw⟩ := LW_state h (Wd A s) (k := 1) hl
  have ev : failOf A n s = v := by unfold failOf; rw [e, Int.toNat_natCast]
  rw [ev]
  refine ⟨e, ?_⟩
  have hlen : (Wd A v).length < (Wd A s).length := by rw [hw, List.length_drop]; omega
  have hb : befB (Wd A v) (Wd A s) = true := by
    unfold befB
    rw [if_neg (by omega)]
    simpa using hlen
  rw [(h.asc.ne hv hs).1] at hb
  simpa using hb
/-- where the step goes -/
def goOf (A : Au) (n s : Nat) (e : Int) : Nat := (LW (wl A n) (Wd A s ++ [e]) 0).toNat
theorem go_lw {A : Au} {n s : Nat} (h : Trie A n) (hs : s < n) (e : Int) : LW (wl A n) (Wd A s ++ [e]) 0 = (goOf A n s e : Int) ∧ goOf A n s e < n := by
  obtain ⟨v, j, hv, e1, _⟩ := LW_state h (Wd A s ++ [e]) (k := 0) (Nat.zero_le _)
  have : goOf A n s e = v := by unfold goOf; rw [e1, Int.toNat_natCast]
  rw [this]
  exact ⟨e1, hv⟩
theorem go_child {A : Au} {n s t : Nat} {e : Int} (h : Trie A n) (hs : s < n) (hc : IsCh A n s e t) : goOf A n s e = t := by
  have hw := hc.word h
  have hst := st_word h hc.2.1
  rw [hw] at hst
  unfold goOf
  rw [LW_hit (Nat.zero_le _) (by rw [List.drop_zero, hst]; omega), List.drop_zero, hst, Int.toNat_natCast]
theorem no_child {A : Au} {n s : Nat} {e : Int} (h : Trie A n) (hs : s < n) (hc : ∀ t, ¬ IsCh A n s e t) : ¬ 0 ≤ stW (wl A n) (Wd A s ++ [e]) := fun hp => by
  obtain ⟨t, ht, _⟩ := ch_of h hs hp
  exact hc t ht
theorem go_root {A : Au} {n : Nat} {e : Int} (h : Trie A n) (hc : ∀ t, ¬ IsCh A n 0 e t) : goOf A n 0 e = 0 := by
  have hn := no_child h h.pos hc
  unfold goOf
  rw [LW_skip (Nat.zero_le _) (by rw [List.drop_zero]; exact hn)]
  have : (Wd A 0 ++ [e]).length = 1 := rfl
  have h2 := LW_end h (Wd A 0 ++ [e])
  rw [this] at h2
  rw [h2]
  rfl
theorem go_fall {A : Au} {n s : Nat} {e : Int} (h : Trie A n) (h1 : 1 ≤ s) (hs : s < n) (hc : ∀ t, ¬ IsCh A n s e t) : goOf A n s e = goOf A n (failOf A n s) e := by
  have hn := no_child h hs hc
  have hl : 1 ≤ (Wd A s).length := List.length_pos_iff.2 (Wd_ne h h1 hs)
  unfold goOf
  rw [LW_skip (Nat.zero_le _) (by rw [List.drop_zero]; exact hn), LW_shift h (Wd A s) e hl (fail_spec h h1 hs).1]
/-- the fail of a child -/
theorem fail_child {A : Au} {n s t : Nat} {e : Int} (h : Trie A n) (hs : s < n) (hc : IsCh A n s e t) : failOf A n t = if s = 0 then 0 else goOf A n (failOf A n s) e := by
  have hw := hc.word h
  by_cases e0 : s = 0
  · subst e0
    rw [if_pos rfl]
    unfold failOf
    rw [hw]
    have : (Wd A 0 ++ [e]).length = 1 := rfl
    have h2 := LW_end h (Wd A 0 ++ [e])
    rw [this] at h2
    rw [h2]
    rfl
  · rw [if_neg e0]
    have hl : 1 ≤ (Wd A s).length := List.length_pos_iff.2 (Wd_ne h (by omega) hs)
    show (LW (wl A n) (Wd A t) 1).toNat = _
    rw [hw, LW_shift h (Wd A s) e hl (fail_spec h (by omega) hs).1]
    rfl
end Go.Proofs.Ytifefpeefcjabaa
