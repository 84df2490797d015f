import Derived.Test.YtedhchmigeooiaaDoorRep
namespace Go.Proofs.YtedhchmigeooiaaDoor
open Go.RowKit
set_option linter.unusedVariables false

def hasI (zs : List Int) (id : Int) : Bool := zs.any (· == id)
/-- none of the first k is it -/
def notTo (zs : List Int) (id : Int) (k : Nat) : Prop := ∀ i, i < k → iat zs i ≠ id
theorem notTo_zero (zs : List Int) (id : Int) : notTo zs id 0 := fun i hi => absurd hi (Nat.not_lt_zero _)
theorem notTo_succ {zs : List Int} {id : Int} {k : Nat} (h : notTo zs id k) (hk : (iat zs k == id) = false) : notTo zs id (k + 1) := by
  intro i hi
  rcases Nat.lt_succ_iff_lt_or_eq.1 hi with h1 | rfl
  · exact h i h1
  · simpa using hk
theorem hasI_yes {zs : List Int} {id : Int} {k : Nat} (hk : k < zs.length) (h : (iat zs k == id) = true) : true = hasI zs id := by
  symm; unfold hasI; rw [List.any_eq_true]
  exact ⟨zs[k], List.getElem_mem hk, by rw [← iat_eq hk]; exact h⟩
theorem hasI_no {zs : List Int} {id : Int} {k : Nat} (hk : zs.length ≤ k) (h : notTo zs id k) : false = hasI zs id := by
  symm; unfold hasI; rw [List.any_eq_false]
  intro x hx
  obtain ⟨i, hi, rfl⟩ := List.mem_iff_getElem.1 hx
  have := h i (by omega)
  rw [← iat_eq hi]; simpa using this

set_option maxHeartbeats 400000 in
theorem l1HasNode_any (B : Nat) (v0 v1 v2 v3 : Value) (u id : Int) (zs : List Int) (w : World) (h0 : HInts B w v0 zs) :
    Calls Tryd.prog 57 #[.agg #[v0, v1, v2, v3, .int .i64 u], .int .i64 id] w fun e w' => e = .returned (.bool (hasI zs id)) ∧ Nx w w' := by
  obtain ⟨a, cap, rfl, hn, hk⟩ := h0
  unfold maxLen at hn
  generalize hz : zs.length = n at *
  have HZ : Hid (zs.length = n) := hz
  clear hz
  go_enter Tryd.func57, Tryd.ntmps57
  go_wp2
  go_loop [5] (fun i => ∃ k : Nat, k ≤ n ∧ i = .int .i64 k ∧ Hid (notTo zs id k)) (fun i => n - (intOf i).toNat)
  case atStart => exact ⟨0, Nat.zero_le _, rfl, notTo_zero _ _⟩
  case round =>
    obtain ⟨k, hkn, rfl, hrel⟩ := hrel
    by_cases hlt : k < n
    · obtain ⟨b, off, rfl, hB, hb, hc⟩ := hk (by omega)
      have hcc := hc k hlt
      clear hc hk
      go_wp2
      · go_ret
        exact ⟨ret_bool (hasI_yes (by rw [HZ.out]; exact hlt) (by assumption)), (Below.refl _ _).alloc (Nat.le_refl _) _⟩
      · go_round
        case rel => exact ⟨k + 1, by omega, by go_num, notTo_succ hrel (by assumption)⟩
        case measure => simp [intOf]; omega
    · go_wp2
      go_ret
      exact ⟨ret_bool (hasI_no (by rw [HZ.out]; omega) hrel), (Below.refl _ _).alloc (Nat.le_refl _) _⟩

/-! ways by id -/
def hasW (xs : List Wy) (id : Int) : Bool := xs.any (·.id == id)
def notW (xs : List Wy) (id : Int) (k : Nat) : Prop := ∀ i, i < k → (wat xs i).id ≠ id
theorem notW_zero (xs : List Wy) (id : Int) : notW xs id 0 := fun i hi => absurd hi (Nat.not_lt_zero _)
theorem notW_succ {xs : List Wy} {id : Int} {k : Nat} (h : notW xs id k) (hk : ((wat xs k).id == id) = false) : notW xs id (k + 1) := by
  intro i hi
  rcases Nat.lt_succ_iff_lt_or_eq.1 hi with h1 | rfl
  · exact h i h1
  · simpa using hk
theorem hasW_yes {xs : List Wy} {id : Int} {k : Nat} (hk : k < xs.length) (h : ((wat xs k).id == id) = true) : hasW xs id = true := by
  unfold hasW; rw [List.any_eq_true]
  exact ⟨xs[k], List.getElem_mem hk, by rw [← wat_eq hk]; exact h⟩
theorem hasW_no {xs : List Wy} {id : Int} {k : Nat} (hk : xs.length ≤ k) (h : notW xs id k) : hasW xs id = false := by
  unfold hasW; rw [List.any_eq_false]
  intro x hx
  obtain ⟨i, hi, rfl⟩ := List.mem_iff_getElem.1 hx
  have := h i (by omega)
  rw [← wat_eq hi]; simpa using this

set_option maxHeartbeats 400000 in
theorem l1WayAt_any (B : Nat) (v0 v1 v2 v3 : Value) (u id : Int) (xs : List Wy) (w : World) (h0 : HWays B w v1 xs) :
    Calls Tryd.prog 43 #[.agg #[v0, v1, v2, v3, .int .i64 u], .int .i64 id] w fun e w' => ∃ r : Int, e = .returned (.int .i64 r) ∧ decide (r < 0) = !hasW xs id ∧ Nx w w' := by
  obtain ⟨a, cap, rfl, hn, hk⟩ := h0
  unfold maxLen at hn
  generalize hz : xs.length = n at *
  have HZ : Hid (xs.length = n) := hz
  clear hz
  go_enter Tryd.func43, Tryd.ntmps43
  go_wp2
  go_loop [5] (fun i => ∃ k : Nat, k ≤ n ∧ i = .int .i64 k ∧ Hid (notW xs id k)) (fun i => n - (intOf i).toNat)
  case atStart => exact ⟨0, Nat.zero_le _, rfl, notW_zero _ _⟩
  case round =>
    obtain ⟨k, hkn, rfl, hrel⟩ := hrel
    by_cases hlt : k < n
    · obtain ⟨b, off, rfl, hB, hb, hc⟩ := hk (by omega)
      obtain ⟨vn, vw, hcc, _⟩ := hc k hlt
      clear hc hk
      go_wp2
      · go_ret
        exact ⟨_, rfl, by rw [hasW_yes (by rw [HZ.out]; exact hlt) (by assumption)]; simp, (Below.refl _ _).alloc (Nat.le_refl _) _⟩
      · go_round
        case rel => exact ⟨k + 1, by omega, by go_num, notW_succ hrel (by assumption)⟩
        case measure => simp [intOf]; omega
    · go_wp2
      go_ret
      exact ⟨-1, rfl, by rw [hasW_no (by rw [HZ.out]; omega) hrel]; rfl, (Below.refl _ _).alloc (Nat.le_refl _) _⟩

def edgeN (x : Wy) : Nat := if x.both then 2 * x.weights.length else x.weights.length
set_option maxHeartbeats 400000 in
theorem l1WayEdges_any (id : Int) (both : Bool) (vn vw : Value) (B : Nat) (zs : List Int) (w : World) (h0 : HInts B w vw zs) (hs : zs.length ≤ 1048576) :
    Calls Tryd.prog 41 #[.agg #[.int .i64 id, .bool both, vn, vw]] w fun e w' => e = .returned (.int .i64 (if both then 2 * zs.length else zs.length : Nat)) ∧ Nx w w' := by
  obtain ⟨a, cap, rfl, hn, hk⟩ := h0
  clear hk hn
  cases both
  all_goals
    go_enter Tryd.func41, Tryd.ntmps41
    go_wp2
    go_ret
    exact ⟨ret_int (by simp), (Below.refl _ _).alloc (Nat.le_refl _) _⟩
end Go.Proofs.YtedhchmigeooiaaDoor
