import Derived.Test.YtifefpeefcjabaaBG
namespace Go.Proofs.Ytifefpeefcjabaa
open Go.RowKit Go.Maps
set_option linter.unusedVariables false
set_option maxRecDepth 100000

theorem TR.keep {A : Au} {n k : Nat} {w w' : World} {bl : Nat → Nat} {fl mv : Nat → Value} {num : Nat → Int} (h : TR A n k w bl fl mv num) {o o' : Option Nat} (q : But o o' w w') (ho : ∀ t, t < n → some (bl t) ≠ o ∧ some (bl t) ≠ o') (hm : ∀ t mb, t < n → mapBlk (mv t) = some mb → some mb ≠ o ∧ some mb ≠ o') : TR A n k w' bl fl mv num :=
  ⟨fun t ht => (h.nd t ht).keep q (ho t ht).1 (ho t ht).2, fun t ht => (h.kd t ht).keep q (fun mb e => hm t mb ht e), h.fz, h.fs, h.inj⟩
/-- the fail of a node is set -/
theorem TR.setFail {A : Au} {n k t : Nat} {w : World} {bl : Nat → Nat} {fl mv : Nat → Value} {num : Nat → Int} (h : TR A n k w bl fl mv num) (h1 : 1 ≤ t) (ht : t < n) (hk : k ≤ t) (x : Value) : TR A n k (w.setCell ⟨bl t, 6, none⟩ x) bl (upd fl t x) mv num := by
  refine ⟨fun s hs => ?_, fun s hs => (h.kd s hs).set (h.nd t ht) _ _, ?_, fun s h2 h3 => ?_, h.inj⟩
  · by_cases e : s = t
    · subst e
      rw [upd_at]
      exact (h.nd s hs).set 6 x
    · rw [upd_ne _ _ e]
      exact (h.nd s hs).setOther (fun e' => e (h.inj s t hs ht e')) _ _
  · rw [upd_ne _ _ (by omega)]; exact h.fz
  · rw [upd_ne _ _ (by omega)]; exact h.fs s h2 h3
theorem TR.up {A : Au} {n k : Nat} {w : World} {bl : Nat → Nat} {fl mv : Nat → Value} {num : Nat → Int} (h : TR A n k w bl fl mv num) (hf : fl k = ptr (bl (failOf A n k))) : TR A n (k + 1) w bl fl mv num :=
  ⟨h.nd, h.kd, h.fz, fun s h1 h2 => by
    by_cases e : s = k
    · subst e; exact hf
    · exact h.fs s h1 (by omega), h.inj⟩
theorem TR.setNum {A : Au} {n k t : Nat} {w : World} {bl : Nat → Nat} {fl mv : Nat → Value} {num : Nat → Int} (h : TR A n k w bl fl mv num) (ht : t < n) (z : Int) : TR A n k (w.setCell ⟨bl t, 0, none⟩ (.int .i64 z)) bl fl mv (upd num t z) := by
  refine ⟨fun s hs => ?_, fun s hs => (h.kd s hs).set (h.nd t ht) _ _, h.fz, h.fs, h.inj⟩
  by_cases e : s = t
  · subst e
    rw [upd_at]
    exact (h.nd s hs).set 0 _
  · rw [upd_ne _ _ e]
    exact (h.nd s hs).setOther (fun e' => e (h.inj s t hs ht e')) _ _
/-- the states whose parent comes before i are those below c -/
def CI (A : Au) (n i c : Nat) : Prop := 1 ≤ c ∧ c ≤ n ∧ ∀ t, 1 ≤ t → t < n → (iat A.pa t < i ↔ t < c)
theorem ci_ex {A : Au} {n : Nat} (h : ∀ t, 1 ≤ t → t < n → pairAsc A t = true) (i m : Nat) (h1 : 1 ≤ m) (hm : m ≤ n) : ∃ c, CI A m i c := by
  induction m with
  | zero => omega
  | succ m ih =>
    by_cases e : m = 0
    · subst e
      exact ⟨1, by omega, by omega, fun t _ _ => by omega⟩
    · obtain ⟨c, hc1, hc2, hc⟩ := ih (by omega) (by omega)
      by_cases hp : iat A.pa m < i
      · refine ⟨m + 1, by omega, by omega, fun t ht htm => ⟨fun _ => htm, fun _ => ?_⟩⟩
        by_cases em : t = m
        · subst em; exact hp
        · have := pair_lt h t m (by omega) (by omega)
          omega
      · refine ⟨c, hc1, by omega, fun t ht htm => ?_⟩
        by_cases em : t = m
        · subst em
          exact ⟨fun h => absurd h hp, fun h => by omega⟩
        · exact hc t ht (by omega)
theorem filter_run {n c k : Nat} {p : Nat → Bool} (hc : c + k ≤ n) (h : ∀ t, t < n → p t = decide (c ≤ t ∧ t < c + k)) : (List.range n).filter p = List.range' c k := by
  have e : List.range n = List.range' 0 c ++ (List.range' c k ++ List.range' (c + k) (n - (c + k))) := by
    rw [List.range_eq_range']
    have h1 := List.range'_append_1 (s := c) (m := k) (n := n - (c + k))
    have h2 := List.range'_append_1 (s := 0) (m := c) (n := k + (n - (c + k)))
    rw [h1]
    rw [Nat.zero_add] at h2
    rw [h2]
    congr 1
    omega
  rw [e, List.filter_append, List.filter_append, List.filter_eq_nil_iff.2, List.filter_eq_self.2, List.filter_eq_nil_iff.2]
  · simp
  · intro t ht
    rw [List.mem_range'_1] at ht
    rw [h t (by omega)]
    simp
    omega
  · intro t ht
    rw [List.mem_range'_1] at ht
    rw [h t (by omega)]
    simp
    omega
  · intro t ht
    rw [List.mem_range'_1] at ht
    rw [h t (by omega)]
    simp
    omega
/-- the children of a state are a run of numbers -/
theorem kids_run {A : Au} {n i c : Nat} (bl : Nat → Nat) (h : ∀ t, 1 ≤ t → t < n → pairAsc A t = true) (h1 : 1 ≤ n) (hc : CI A n i c) : ∃ k, CI A n (i + 1) (c + k) ∧ kidsL A n bl i = (List.range' c k).map (fun t => (iat A.la t, bl t)) := by
  obtain ⟨c', d1, d2, d⟩ := ci_ex h (i + 1) n h1 (Nat.le_refl _)
  obtain ⟨c1, c2, hc⟩ := hc
  have hle : c ≤ c' := by
    by_cases e : c = 1
    · omega
    · have h3 := (hc (c - 1) (by omega) (by omega)).2 (by omega)
      have := (d (c - 1) (by omega) (by omega)).1 (by omega)
      omega
  refine ⟨c' - c, ⟨by omega, by omega, by rw [show c + (c' - c) = c' by omega]; exact d⟩, ?_⟩
  unfold kidsL
  rw [filter_run (c := c) (k := c' - c) (by omega)]
  intro t ht
  by_cases e : 1 ≤ t
  · have a := hc t e ht
    have b := d t e ht
    rw [Bool.eq_iff_iff]
    simp only [decide_eq_true_eq]
    omega
  · rw [Bool.eq_iff_iff]
    simp only [decide_eq_true_eq]
    omega
theorem kids_asc {A : Au} {n i : Nat} (bl : Nat → Nat) (h : ∀ t, 1 ≤ t → t < n → pairAsc A t = true) : ((kidsL A n bl i).map (·.1)).Pairwise (· < ·) := by
  unfold kidsL
  rw [List.map_map, List.pairwise_map]
  have hp := (List.pairwise_lt_range (n := n)).filter (fun t => decide (1 ≤ t ∧ iat A.pa t = i))
  refine hp.imp_of_mem fun {a b} ha hb hab => ?_
  rw [List.mem_filter, List.mem_range] at ha hb
  have a2 := of_decide_eq_true ha.2
  have b2 := of_decide_eq_true hb.2
  have := pair_lt h a b hab hb.1
  show iat A.la a < iat A.la b
  omega
theorem kid_at {A : Au} {n i t : Nat} {bl : Nat → Nat} (h : ∀ t, 1 ≤ t → t < n → pairAsc A t = true) (hc : IsCh A n i (iat A.la t) t) : kidOf (kidsL A n bl i) (iat A.la t) = some (bl t) := by
  cases hk : kidOf (kidsL A n bl i) (iat A.la t) with
  | none => exact absurd hc (kid_no hk t)
  | some b =>
    obtain ⟨u, hu, rfl⟩ := kid_yes hk
    rcases Nat.lt_trichotomy u t with e | rfl | e
    · have := pair_lt h u t e hc.2.1
      have h1 := hu.2.2
      have h2 := hc.2.2
      omega
    · rfl
    · have := pair_lt h t u e hu.2.1
      have h1 := hu.2.2
      have h2 := hc.2.2
      omega
end Go.Proofs.Ytifefpeefcjabaa
