import Derived.Test.YtedhchmigeooiaaDoorSzA
import Derived.Test.YtedhchmigeooiaaDoorToA
import Derived.Test.YtedhchmigeooiaaDoorImF
import Derived.Test.YtedhchmigeooiaaDoorImG
import Derived.Test.YtedhchmigeooiaaDoorImH
namespace Go.Proofs.YtedhchmigeooiaaDoor
open Go.RowKit
set_option linter.unusedVariables false

def edTo (xs : List Wy) : Nat → Nat
  | 0 => 0
  | k + 1 => edTo xs k + edgeN (wat xs k)
theorem edTo_le (xs : List Wy) (k : Nat) : edTo xs k ≤ 2 * wsum xs k := by
  induction k with
  | zero => simp [edTo]
  | succ k ih => simp only [edTo, wsum, edgeN]; split <;> omega
theorem wsum_mono (xs : List Wy) {j k : Nat} (h : j ≤ k) : wsum xs j ≤ wsum xs k := by
  induction k with
  | zero => simp at h; subst h; exact Nat.le_refl _
  | succ k ih =>
    rcases Nat.lt_succ_iff_lt_or_eq.1 (Nat.lt_succ_of_le h) with h1 | rfl
    · have := ih (by omega); simp only [wsum]; omega
    · exact Nat.le_refl _

set_option maxHeartbeats 1000000 in
theorem countEdges_any (B : Nat) (v0 v1 v2 v3 : Value) (u : Int) (zs : List Wy) (w : World) (h0 : HWays B w v1 zs) (hs : wsum zs zs.length ≤ 1048576) :
    Calls Tryd.prog 58 #[.agg #[v0, v1, v2, v3, .int .i64 u]] w fun e w' => e = .returned (.int .i64 (edTo zs zs.length : Nat)) ∧ Nx w w' := by
  obtain ⟨a, cap, rfl, hn, hk⟩ := h0
  unfold maxLen at hn
  have HS : Hid (∀ k, k ≤ zs.length → edTo zs k ≤ 2097152) := fun k hk => by have := edTo_le zs k; have := wsum_mono zs hk; omega
  clear hs
  generalize hz : zs.length = n at *
  have HZ : Hid (zs.length = n) := hz
  clear hz
  go_enter Tryd.func58, Tryd.ntmps58
  go_wp2
  go_loopw [3, 5, 9] (fun e p i wr => ∃ k : Nat, k ≤ n ∧ i = .int .i64 k ∧ e = .int .i64 (edTo zs k : Nat) ∧ Hid (Nx w wr)) (fun _ _ i _ => n - (intOf i).toNat)
  case atStart => exact ⟨0, Nat.zero_le _, rfl, rfl, box1 _ _⟩
  case round =>
    obtain ⟨k, hkn, rfl, rfl, HN⟩ := hrel
    by_cases hlt : k < n
    · obtain ⟨b, off, rfl, hB, hb, hc⟩ := hk (by omega)
      obtain ⟨p1, p2, a0, a1, a2, a3, n1, n2⟩ := hc k hlt
      obtain ⟨an, cn, rfl, _, _⟩ := n1
      obtain ⟨aw, cw, rfl, hnw, _⟩ := n2
      have a0 := cell_next HN.out hb a0
      have a1 := cell_next HN.out hb a1
      have a2 := cell_next HN.out hb a2
      have a3 := cell_next HN.out hb a3
      have hlt' : (k : Int) < n := by omega
      have e1 := HS.out k hkn
      have e2 := HS.out (k + 1) (by omega)
      simp only [edTo, edgeN] at e2
      have HE : Hid (edTo zs (k + 1) = edTo zs k + (if (wat zs k).both then 2 * (wat zs k).weights.length else (wat zs k).weights.length)) := rfl
      generalize edTo zs k = ek at *
      generalize (wat zs k).weights.length = lw at *
      clear hc hk
      cases hbo : (wat zs k).both
      · rw [hbo] at e2 HE a1
        simp only [Bool.false_eq_true, if_false] at e2
        clear hbo
        go_wp2
        go_roundw
        case rel => exact ⟨k + 1, by omega, by go_num, by rw [HE.out]; go_num, HN.out.alloc _⟩
        case measure => simp [intOf]; omega
      · rw [hbo] at e2 HE a1
        simp only [if_true] at e2
        clear hbo
        go_wp2
        go_roundw
        case rel => exact ⟨k + 1, by omega, by go_num, by rw [HE.out]; simp only [if_true]; congr 1; omega, HN.out.alloc _⟩
        case measure => simp [intOf]; omega
    · have e : k = n := by omega
      subst e
      go_wp2
      go_ret
      exact ⟨rfl, HN.out⟩
end Go.Proofs.YtedhchmigeooiaaDoor
