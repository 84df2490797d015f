import Derived.Test.YtdjmlpgdaanipaaHA
namespace Go.Proofs.Ytdjmlpgdaanipaa
open Go.RowKit
set_option linter.unusedVariables false
set_option maxRecDepth 100000

/-- from 0 up to below m -/
def inZ (v m : Int) : Bool := decide (0 ≤ v) && decide (v < m)
theorem inZ_at {v m : Int} (h : inZ v m = true) : 0 ≤ v ∧ v < m := by simpa [inZ] using h
set_option maxHeartbeats 400000 in
theorem withinZ_any (v m : Int) (w : World) (h0 : 0 ≤ m) (hn : m ≤ 9223372036854775807) :
    Calls Try.prog 32 #[.int .i64 v, .int .i64 m] w fun e w' => e = .returned (.bool (inZ v m)) ∧ w' = w := by
  have hw : IntKind.i64.wrap m = m := by rw [IntKind.wrap_i64]; omega
  by_cases h1 : 0 ≤ v
  · by_cases h2 : v < m
    · go_enter Try.func32, Try.ntmps32
      go_wp2
      go_ret
      exact ⟨ret_bool (by simp [inZ, h1, h2]), rfl⟩
    · go_enter Try.func32, Try.ntmps32
      go_wp2
      go_ret
      exact ⟨ret_bool (by simp [inZ]; omega), rfl⟩
  · go_enter Try.func32, Try.ntmps32
    go_wp2
    go_ret
    exact ⟨ret_bool (by simp [inZ]; omega), rfl⟩
end Go.Proofs.Ytdjmlpgdaanipaa
