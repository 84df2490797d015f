import Derived.Test.YtedhchmigeooiaaDoorImC
namespace Go.Proofs.YtedhchmigeooiaaDoor
open Go.RowKit
set_option linter.unusedVariables false

def ltW (xs : List Wy) (i j : Nat) : Bool := decide ((wat xs i).id < (wat xs j).id)
def ascW (xs : List Wy) : Bool := ascN xs.length (ltW xs)

set_option maxHeartbeats 1000000 in
theorem ascW_any (B : Nat) (v : Value) (zs : List Wy) (w : World) (h0 : HWays B w v zs) :
    Calls Tryd.prog 64 #[v, .func (.func 65) #[] #[]] w fun e w' => e = .returned (.bool (ascW zs)) ∧ Nx w w' := by
  obtain ⟨a, cap, rfl, hn, hk⟩ := h0
  unfold maxLen at hn
  generalize hz : zs.length = n at *
  have HZ : Hid (zs.length = n) := hz
  clear hz
  go_enter Tryd.func64, Tryd.ntmps64
  go_wp2
  go_loopw [5] (fun i wr => ∃ j : Nat, (j + 1 ≤ n ∨ j = 0) ∧ i = .int .i64 ((j : Int) + 1) ∧ Hid (allTo (ascAt (ltW zs)) (j + 1)) ∧ Nx w wr) (fun i _ => n - (intOf i).toNat)
  case atStart => exact ⟨0, Or.inr rfl, rfl, ascAt_one _, Nx.refl _⟩
  case round =>
    obtain ⟨j, hj, rfl, hrel, hnx⟩ := hrel
    have HN : Hid (Nx w wr) := hnx
    clear hnx
    by_cases hlt : j + 1 < n
    · obtain ⟨b, off, rfl, hB, hb, hc⟩ := hk (by omega)
      obtain ⟨p1, p2, a0, a1, a2, a3, _⟩ := hc j (by omega)
      obtain ⟨q1, q2, b0, b1, b2, b3, _⟩ := hc (j + 1) hlt
      have a0 := cell_next HN.out hb a0
      have a1 := cell_next HN.out hb a1
      have a2 := cell_next HN.out hb a2
      have a3 := cell_next HN.out hb a3
      have b0 := cell_next HN.out hb b0
      have b1 := cell_next HN.out hb b1
      have b2 := cell_next HN.out hb b2
      have b3 := cell_next HN.out hb b3
      have hlt' : (j : Int) + 1 < n := by omega
      have hlj : (j : Int) < n := by omega
      have hwj := wrapJ j (by omega)
      clear hc hk
      by_cases hab : (wat zs j).id < (wat zs (j + 1)).id
      · have hd : decide (0 ≤ cmpI (wat zs j).id (wat zs (j + 1)).id) = false := by rw [cmpI_nonneg]; simp [hab]
        have HT : Hid (ascAt (ltW zs) (j + 1) = true) := by unfold Hid; rw [ascAt_succ]; simp [ltW, hab]
        go_wp2
        go_region_with (go_at_call 65; refine (cmpWays_any _ _ _ _ _ _ _ _ _).mono ?_; rintro e w' ⟨rfl, hx⟩)
        all_goals go_wp2
        all_goals
          go_roundw
          case rel => exact ⟨j + 1, by omega, by go_num, allTo_succ hrel HT.out, HN.out.drew.trans hx⟩
          case measure => simp [intOf]; omega
      · have hd : decide (0 ≤ cmpI (wat zs j).id (wat zs (j + 1)).id) = true := by rw [cmpI_nonneg]; simp [hab]
        have HT : Hid (ascAt (ltW zs) (j + 1) = false) := by unfold Hid; rw [ascAt_succ]; simp [ltW]; omega
        go_wp2
        go_region_with (go_at_call 65; refine (cmpWays_any _ _ _ _ _ _ _ _ _).mono ?_; rintro e w' ⟨rfl, hx⟩)
        all_goals go_wp2
        all_goals
          go_ret
          exact ⟨ret_bool (by unfold ascW ascN; rw [allN_no (by rw [HZ.out]; exact hlt) HT.out]), HN.out.drew.trans hx⟩
    · have hge : (n : Int) ≤ (j : Int) + 1 := by omega
      go_wp2
      go_ret
      exact ⟨ret_bool (by unfold ascW ascN; rw [allN_yes (by rw [HZ.out]; omega) hrel]), HN.out⟩
end Go.Proofs.YtedhchmigeooiaaDoor
