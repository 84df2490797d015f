import Derived.Test.YtedhchmigeooiaaDoorBase
namespace Go.Proofs.YtedhchmigeooiaaDoor
open Go.RowKit
set_option linter.unusedVariables false

def allIn (zs : List Int) : Bool := allN zs.length (fun i => inB (iat zs i))

set_option maxHeartbeats 400000 in
theorem indexFunc_any (B : Nat) (v : Value) (zs : List Int) (w : World) (h0 : HInts B w v zs) :
    Calls Tryd.prog 74 #[v, .func (.func 62) #[] #[]] w fun e w' => ∃ r : Int, e = .returned (.int .i64 r) ∧ decide (0 ≤ r) = !allIn zs ∧ w' = w := by
  obtain ⟨a, cap, rfl, hn, hk⟩ := h0
  unfold maxLen at hn
  generalize hz : zs.length = n at *
  have HZ : Hid (zs.length = n) := hz
  clear hz
  go_enter Tryd.func74, Tryd.ntmps74
  go_wp2
  go_loop [8] (fun i => ∃ k : Nat, k ≤ n ∧ i = .int .i64 k ∧ Hid (allTo (fun i => inB (iat zs i)) k)) (fun i => n - (intOf i).toNat)
  case atStart => exact ⟨0, Nat.zero_le _, rfl, allTo_zero _⟩
  case round =>
    obtain ⟨k, hkn, rfl, hrel⟩ := hrel
    by_cases hlt : k < n
    · obtain ⟨b, off, rfl, hB, hb, hc⟩ := hk (by omega)
      have hcc := hc k hlt
      clear hc hk
      by_cases hin : inB (iat zs k) = true
      · go_wp2_with (go_at_call 62; refine (outOfRange_any _ _).mono ?_; rintro e w' ⟨rfl, rfl⟩)
        go_round
        case rel => exact ⟨k + 1, by omega, by go_num, allTo_succ hrel hin⟩
        case measure => simp [intOf]; omega
      · have hin' : inB (iat zs k) = false := by simpa using hin
        go_wp2_with (go_at_call 62; refine (outOfRange_any _ _).mono ?_; rintro e w' ⟨rfl, rfl⟩)
        go_ret
        exact ⟨k, rfl, by unfold allIn; rw [allN_no (by rw [HZ.out]; exact hlt) hin']; simp, rfl⟩
    · go_wp2
      go_ret
      exact ⟨-1, rfl, by unfold allIn; rw [allN_yes (by rw [HZ.out]; omega) hrel]; rfl, rfl⟩

set_option maxHeartbeats 400000 in
theorem containsFunc_any (B : Nat) (v : Value) (zs : List Int) (w : World) (h0 : HInts B w v zs) :
    Calls Tryd.prog 61 #[v, .func (.func 62) #[] #[]] w fun e w' => e = .returned (.bool (!allIn zs)) ∧ w' = w := by
  go_enter Tryd.func61, Tryd.ntmps61
  go_wp2_with fail
  refine (indexFunc_any B _ zs _ h0).mono ?_
  rintro e w' ⟨r, rfl, hr, rfl⟩
  go_wp2
  go_ret
  exact ⟨rfl, rfl⟩

def ltI (zs : List Int) (i j : Nat) : Bool := decide (iat zs i < iat zs j)
def ascI (zs : List Int) : Bool := ascN zs.length (ltI zs)

set_option maxHeartbeats 400000 in
theorem ascI_any (B : Nat) (v : Value) (zs : List Int) (w : World) (h0 : HInts B w v zs) :
    Calls Tryd.prog 59 #[v, .func (.func 60) #[] #[]] w fun e w' => e = .returned (.bool (ascI zs)) ∧ Nx w w' := by
  obtain ⟨a, cap, rfl, hn, hk⟩ := h0
  unfold maxLen at hn
  generalize hz : zs.length = n at *
  have HZ : Hid (zs.length = n) := hz
  clear hz
  go_enter Tryd.func59, Tryd.ntmps59
  go_wp2
  go_loopw [5] (fun i wr => ∃ j : Nat, (j + 1 ≤ n ∨ j = 0) ∧ i = .int .i64 ((j : Int) + 1) ∧ Hid (allTo (ascAt (ltI zs)) (j + 1)) ∧ Nx w wr) (fun i _ => n - (intOf i).toNat)
  case atStart => exact ⟨0, Or.inr rfl, rfl, ascAt_one _, Nx.refl _⟩
  case round =>
    obtain ⟨j, hj, rfl, hrel, hnx⟩ := hrel
    have HN : Hid (Nx w wr) := hnx
    clear hnx
    by_cases hlt : j + 1 < n
    · obtain ⟨b, off, rfl, hB, hb, hc⟩ := hk (by omega)
      have hc0 := cell_next HN.out hb (hc j (by omega))
      have hc1 := cell_next HN.out hb (hc (j + 1) hlt)
      have hlt' : (j : Int) + 1 < n := by omega
      have hlj : (j : Int) < n := by omega
      have hwj := wrapJ j (by omega)
      clear hc hk
      by_cases hab : iat zs j < iat zs (j + 1)
      · have hd : decide (0 ≤ cmpI (iat zs j) (iat zs (j + 1))) = false := by rw [cmpI_nonneg]; simp [hab]
        have hat : ascAt (ltI zs) (j + 1) = true := by rw [ascAt_succ]; simp [ltI, hab]
        have HT := hat
        clear hat
        go_wp2
        go_region_with (go_at_call 60; refine (cmp_any _ _ _).mono ?_; rintro e w' ⟨rfl, rfl⟩)
        all_goals go_wp2
        all_goals
          go_roundw
          case rel => exact ⟨j + 1, by omega, by go_num, allTo_succ hrel HT, HN.out.drew⟩
          case measure => simp [intOf]; omega
      · have hd : decide (0 ≤ cmpI (iat zs j) (iat zs (j + 1))) = true := by rw [cmpI_nonneg]; simp [hab]
        have HT : Hid (ascAt (ltI zs) (j + 1) = false) := by unfold Hid; rw [ascAt_succ]; simp [ltI]; omega
        go_wp2
        go_region_with (go_at_call 60; refine (cmp_any _ _ _).mono ?_; rintro e w' ⟨rfl, rfl⟩)
        all_goals go_wp2
        all_goals
          go_ret
          exact ⟨ret_bool (by unfold ascI ascN; rw [allN_no (by rw [HZ.out]; exact hlt) HT.out]), HN.out.drew⟩
    · have hge : (n : Int) ≤ (j : Int) + 1 := by omega
      go_wp2
      go_ret
      exact ⟨ret_bool (by unfold ascI ascN; rw [allN_yes (by rw [HZ.out]; omega) hrel]), HN.out⟩
end Go.Proofs.YtedhchmigeooiaaDoor
