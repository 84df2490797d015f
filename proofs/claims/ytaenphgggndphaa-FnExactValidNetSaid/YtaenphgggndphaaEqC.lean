import Derived.Test.YtaenphgggndphaaEqA
namespace Go.Proofs.Ytaenphgggndphaa
open Go.RowKit
set_option linter.unusedVariables false

set_option maxHeartbeats 1000000 in
theorem eqRels_same (B B' : Nat) (v v' : Value) (zs : List Rl) (w : World) (h0 : HRels B w v zs) (h1 : HRels B' w v' zs) :
    Calls Try.prog 30 #[v, v'] w fun e w' => e = .returned (.bool true) ∧ Nx w w' := by
  obtain ⟨a, cap, rfl, hn, hk⟩ := h0
  obtain ⟨a', cap', rfl, hn', hk'⟩ := h1
  unfold maxLen at hn hn'
  generalize zs.length = n at *
  have hd : ((n : Int) != (n : Int)) = false := by simp
  go_enter Try.func30, Try.ntmps30
  go_wp2
  go_loopw [5] (fun i wr => ∃ k : Nat, k ≤ n ∧ i = .int .i64 k ∧ Hid (Nx w wr)) (fun i _ => n - (intOf i).toNat)
  case atStart => exact ⟨0, Nat.zero_le _, rfl, Nx.refl _⟩
  case round =>
    obtain ⟨k, hkn, rfl, HN⟩ := hrel
    by_cases hlt : k < n
    · obtain ⟨b, off, rfl, hB, hb, hc⟩ := hk (by omega)
      obtain ⟨b', off', rfl, hB', hb', hc'⟩ := hk' (by omega)
      obtain ⟨p1, a0, a1, a2, a3, a4, a5, a6, n1⟩ := hc k hlt
      obtain ⟨q1, b0, b1, b2, b3, b4, b5, b6, n2⟩ := hc' k hlt
      have a0 := cell_next HN.out hb a0
      have a1 := cell_next HN.out hb a1
      have a2 := cell_next HN.out hb a2
      have a3 := cell_next HN.out hb a3
      have a4 := cell_next HN.out hb a4
      have a5 := cell_next HN.out hb a5
      have a6 := cell_next HN.out hb a6
      have b0 := cell_next HN.out hb' b0
      have b1 := cell_next HN.out hb' b1
      have b2 := cell_next HN.out hb' b2
      have b3 := cell_next HN.out hb' b3
      have b4 := cell_next HN.out hb' b4
      have b5 := cell_next HN.out hb' b5
      have b6 := cell_next HN.out hb' b6
      have hlt' : (k : Int) < n := by omega
      clear hc hk hc' hk'
      go_wp2
      go_region_with (go_at_call 53; refine (eqRel_same B B' (rat zs k) _ _ _ (by exact n1.next HN.out.drew) (by exact n2.next HN.out.drew)).mono ?_; rintro e w' ⟨rfl, hx⟩)
      all_goals go_wp2
      all_goals
        go_roundw
        case rel => exact ⟨k + 1, by omega, by go_num, HN.out.drew.trans hx⟩
        case measure => simp [intOf]; omega
    · go_wp2
      go_ret
      exact ⟨rfl, HN.out⟩
end Go.Proofs.Ytaenphgggndphaa
