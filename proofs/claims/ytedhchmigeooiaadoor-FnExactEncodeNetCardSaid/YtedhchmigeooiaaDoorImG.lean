import Derived.Test.YtedhchmigeooiaaDoorImC
namespace Go.Proofs.YtedhchmigeooiaaDoor
open Go.RowKit
set_option linter.unusedVariables false

def ltR (xs : List Rl) (i j : Nat) : Bool := decide ((rat xs i).id < (rat xs j).id)
def ascR (xs : List Rl) : Bool := ascN xs.length (ltR xs)

set_option maxHeartbeats 1000000 in
theorem ascR_any (B : Nat) (v : Value) (zs : List Rl) (w : World) (h0 : HRels B w v zs) :
    Calls Tryd.prog 67 #[v, .func (.func 68) #[] #[]] w fun e w' => e = .returned (.bool (ascR zs)) ∧ Nx w w' := by
  obtain ⟨a, cap, rfl, hn, hk⟩ := h0
  unfold maxLen at hn
  generalize hz : zs.length = n at *
  have HZ : Hid (zs.length = n) := hz
  clear hz
  go_enter Tryd.func67, Tryd.ntmps67
  go_wp2
  go_loopw [5] (fun i wr => ∃ j : Nat, (j + 1 ≤ n ∨ j = 0) ∧ i = .int .i64 ((j : Int) + 1) ∧ Hid (allTo (ascAt (ltR zs)) (j + 1)) ∧ Nx w wr) (fun i _ => n - (intOf i).toNat)
  case atStart => exact ⟨0, Or.inr rfl, rfl, ascAt_one _, Nx.refl _⟩
  case round =>
    obtain ⟨j, hj, rfl, hrel, hnx⟩ := hrel
    have HN : Hid (Nx w wr) := hnx
    clear hnx
    by_cases hlt : j + 1 < n
    · obtain ⟨b, off, rfl, hB, hb, hc⟩ := hk (by omega)
      obtain ⟨p1, a0, a1, a2, a3, a4, a5, a6, _⟩ := hc j (by omega)
      obtain ⟨q1, b0, b1, b2, b3, b4, b5, b6, _⟩ := hc (j + 1) hlt
      have a0 := cell_next HN.out hb a0
      have a1 := cell_next HN.out hb a1
      have a2 := cell_next HN.out hb a2
      have a3 := cell_next HN.out hb a3
      have a4 := cell_next HN.out hb a4
      have a5 := cell_next HN.out hb a5
      have a6 := cell_next HN.out hb a6
      have b0 := cell_next HN.out hb b0
      have b1 := cell_next HN.out hb b1
      have b2 := cell_next HN.out hb b2
      have b3 := cell_next HN.out hb b3
      have b4 := cell_next HN.out hb b4
      have b5 := cell_next HN.out hb b5
      have b6 := cell_next HN.out hb b6
      have hlt' : (j : Int) + 1 < n := by omega
      have hlj : (j : Int) < n := by omega
      have hwj := wrapJ j (by omega)
      clear hc hk
      by_cases hab : ltR zs j (j + 1) = true
      · have hd : decide (0 ≤ cmpI (rat zs j).id (rat zs (j + 1)).id) = false := by rw [cmpI_nonneg]; simpa [ltR] using hab
        have HT : Hid (ascAt (ltR zs) (j + 1) = true) := by unfold Hid; rw [ascAt_succ]; exact hab
        clear hab
        go_wp2
        go_region_with (go_at_call 68; refine (cmpRels_any _ _ _ _ _ _ _ _ _ _ _ _ _ _ _).mono ?_; rintro e w' ⟨rfl, hx⟩)
        all_goals go_wp2
        all_goals
          go_roundw
          case rel => exact ⟨j + 1, by omega, by go_num, allTo_succ hrel HT.out, HN.out.drew.trans hx⟩
          case measure => simp [intOf]; omega
      · have hd : decide (0 ≤ cmpI (rat zs j).id (rat zs (j + 1)).id) = true := by rw [cmpI_nonneg]; simpa [ltR] using hab
        have HT : Hid (ascAt (ltR zs) (j + 1) = false) := by unfold Hid; rw [ascAt_succ]; simpa using hab
        clear hab
        go_wp2
        go_region_with (go_at_call 68; refine (cmpRels_any _ _ _ _ _ _ _ _ _ _ _ _ _ _ _).mono ?_; rintro e w' ⟨rfl, hx⟩)
        all_goals go_wp2
        all_goals
          go_ret
          exact ⟨ret_bool (by unfold ascR ascN; rw [allN_no (by rw [HZ.out]; exact hlt) HT.out]), HN.out.drew.trans hx⟩
    · have hge : (n : Int) ≤ (j : Int) + 1 := by omega
      go_wp2
      go_ret
      exact ⟨ret_bool (by unfold ascR ascN; rw [allN_yes (by rw [HZ.out]; omega) hrel]), HN.out⟩
end Go.Proofs.YtedhchmigeooiaaDoor
