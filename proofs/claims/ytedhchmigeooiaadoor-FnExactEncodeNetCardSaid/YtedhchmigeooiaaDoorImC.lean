import Derived.Test.YtedhchmigeooiaaDoorImB
import Derived.Deep.RegionHeld3
namespace Go.Proofs.YtedhchmigeooiaaDoor
open Go.RowKit
set_option linter.unusedVariables false

def cmpT (s t : Tn) : Int := orI (cmpI s.frm t.frm) (cmpI s.to t.to)
def ltTn (s t : Tn) : Bool := decide (s.frm < t.frm) || (s.frm == t.frm && decide (s.to < t.to))
theorem cmpT_nonneg (s t : Tn) : decide (0 ≤ cmpT s t) = !ltTn s t := by
  unfold cmpT ltTn orI cmpI
  by_cases h1 : s.frm < t.frm
  · simp [h1]
  · by_cases h2 : t.frm < s.frm
    · have : (s.frm == t.frm) = false := by simp; omega
      simp [h1, h2, this]
    · have : (s.frm == t.frm) = true := by simp; omega
      by_cases h3 : s.to < t.to
      · simp [h1, h2, this, h3]
      · by_cases h4 : t.to < s.to <;> simp [h1, h2, this, h3, h4]

theorem fresh0 (W : World) (x y : Value) (t : TypeId) (n : Nat) (hn : W.heap.size = n) : (W.alloc (.cells #[x, y] t)).drew.cell? ⟨n, 0, none⟩ = some x := by subst hn; go_simp
theorem fresh1 (W : World) (x y : Value) (t : TypeId) (n : Nat) (hn : W.heap.size = n) : (W.alloc (.cells #[x, y] t)).drew.cell? ⟨n, 0 + 1, none⟩ = some y := by subst hn; go_simp

set_option maxHeartbeats 1000000 in
theorem cmpTurns_any (s t : Tn) (w : World) :
    Calls Tryd.prog 71 #[.agg #[.int .i64 s.frm, .int .i64 s.to, .int .i64 s.cost], .agg #[.int .i64 t.frm, .int .i64 t.to, .int .i64 t.cost]] w fun e w' => e = .returned (.int .i64 (cmpT s t)) ∧ Nx w w' := by
  go_enter Tryd.func71, Tryd.ntmps71
  go_wp2_with fail
  go_region_held3 (fun w' => w'.cell? ⟨w.heap.size, 0, none⟩ = some (.int .i64 s.frm) ∧ w'.cell? ⟨w.heap.size, 1, none⟩ = some (.int .i64 s.to) ∧ w'.cell? ⟨w.heap.size + 1, 0, none⟩ = some (.int .i64 t.frm) ∧ w'.cell? ⟨w.heap.size + 1, 1, none⟩ = some (.int .i64 t.to)) (go_keep) (first | (go_at_call 60; refine (cmp_any _ _ _).mono ?_; rintro e w' ⟨rfl, rfl⟩) | (go_at_call 77; refine (or_any _ _ _ (cmpI s.frm t.frm) (cmpI s.to t.to) _ (by exact fresh0 _ _ _ _ _ (by simp)) (by exact fresh1 _ _ _ _ _ (by simp))).mono ?_; rintro e w' ⟨rfl, rfl⟩))
  all_goals go_wp2
  all_goals
    go_ret
    exact ⟨rfl, ((box2 _ _ _).alloc _).drew⟩
end Go.Proofs.YtedhchmigeooiaaDoor
