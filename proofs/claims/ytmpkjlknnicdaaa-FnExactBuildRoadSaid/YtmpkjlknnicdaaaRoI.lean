import Derived.Test.YtmpkjlknnicdaaaRoD
namespace Go.Proofs.Ytmpkjlknnicdaaa
open Go.RowKit
set_option linter.unusedVariables false
set_option maxRecDepth 100000

theorem pos_first {zs : List Int} {t : Int} {k : Nat} (hk : k < zs.length) (h : iat zs k = t) (hn : ∀ i, i < k → iat zs i ≠ t) : pos zs t = k := by
  unfold pos
  rw [List.findIdx_eq hk]
  refine ⟨by rw [iat_eq hk] at h; simpa using h, fun j hj => ?_⟩
  have := hn j hj
  rw [iat_eq (by omega)] at this
  simpa using this
theorem ret_nat {a b : Nat} (h : b = a) : Ending.returned (.int .i64 (a : Int)) = .returned (.int .i64 (b : Int)) := by rw [h]

set_option maxHeartbeats 1000000 in
theorem l2Position_any (B : Nat) (v0 v1 v2 v3 : Value) (u id : Int) (zs : List Int) (w : World) (h0 : HInts B w v0 zs) (hh : hasI zs id = true) :
    Calls Try.prog 74 #[.agg #[v0, v1, v2, v3, .int .i64 u], .int .i64 id] w fun e w' => e = .returned (.int .i64 (pos zs id)) ∧ Nx w w' := by
  have HH : Hid (∃ i, i < zs.length ∧ iat zs i = id) := hasI_at hh
  clear hh
  obtain ⟨a, cap, rfl, hn, hk⟩ := h0
  unfold maxLen at hn
  generalize hz : zs.length = n at *
  have HZ : Hid (zs.length = n) := hz
  clear hz
  go_enter Try.func74, Try.ntmps74
  go_wp2
  go_loopw [5] (fun i wr => ∃ k : Nat, k ≤ n ∧ i = .int .i64 k ∧ Hid (∀ j, j < k → iat zs j ≠ id) ∧ wr = w.alloc (.cells #[.slice a n cap, v1, v2, v3, .int .i64 u] 34)) (fun i _ => n - (intOf i).toNat)
  case atStart => exact ⟨0, Nat.zero_le _, rfl, fun j hj => absurd hj (Nat.not_lt_zero _), rfl⟩
  obtain ⟨k, hkn, rfl, HK, rfl⟩ := hrel
  by_cases hlt : k < n
  · obtain ⟨b, off, rfl, hB, hb, hc⟩ := hk (by omega)
    have hcc := hc k hlt
    have hlt' : (k : Int) < n := by omega
    clear hc hk
    by_cases he : iat zs k = id
    · have HP : Hid (pos zs id = k) := pos_first (by rw [HZ.out]; exact hlt) he HK.out
      have hd : (iat zs k == id) = true := by simpa using he
      clear he
      go_wp2
      go_ret
      exact ⟨ret_nat HP.out, box1 _ _⟩
    · have HK' : Hid (∀ j, j < k + 1 → iat zs j ≠ id) := fun j hj => by
        by_cases e : j = k
        · subst e; exact he
        · exact HK.out j (by omega)
      have hd : (iat zs k == id) = false := by simpa using he
      clear he
      go_wp2
      go_roundw
      case rel => exact ⟨k + 1, by omega, by go_num, HK', trivial⟩
      case measure => simp [intOf]; omega
  · obtain ⟨i, hi, he⟩ := HH.out
    exact absurd he (HK.out i (by omega))
end Go.Proofs.Ytmpkjlknnicdaaa
