import Derived.Test.YtedhchmigeooiaaDoorImA
namespace Go.Proofs.YtedhchmigeooiaaDoor
open Go.RowKit
set_option linter.unusedVariables false

set_option maxHeartbeats 400000 in
theorem cmpWays_any (x y : Int) (b c : Bool) (p q r s : Value) (w : World) :
    Calls Tryd.prog 65 #[.agg #[.int .i64 x, .bool b, p, q], .agg #[.int .i64 y, .bool c, r, s]] w fun e w' => e = .returned (.int .i64 (cmpI x y)) ∧ Nx w w' := by
  go_enter Tryd.func65, Tryd.ntmps65
  go_wp2_with (go_at_call 60; refine (cmp_any _ _ _).mono ?_; rintro e w' ⟨rfl, rfl⟩)
  go_ret
  exact ⟨rfl, box2 _ _ _⟩

set_option maxHeartbeats 400000 in
theorem cmpRels_any (x y : Int) (a1 a2 a3 a4 a5 a6 b1 b2 b3 b4 b5 b6 : Value) (w : World) :
    Calls Tryd.prog 68 #[.agg #[.int .i64 x, a1, a2, a3, a4, a5, a6], .agg #[.int .i64 y, b1, b2, b3, b4, b5, b6]] w fun e w' => e = .returned (.int .i64 (cmpI x y)) ∧ Nx w w' := by
  go_enter Tryd.func68, Tryd.ntmps68
  go_wp2_with (go_at_call 60; refine (cmp_any _ _ _).mono ?_; rintro e w' ⟨rfl, rfl⟩)
  go_ret
  exact ⟨rfl, box2 _ _ _⟩

def orI (a b : Int) : Int := if a = 0 then b else a

set_option maxHeartbeats 800000 in
theorem or_any (b off c : Nat) (x y : Int) (w : World) (h0 : w.cell? ⟨b, off, none⟩ = some (.int .i64 x)) (h1 : w.cell? ⟨b, off + 1, none⟩ = some (.int .i64 y)) :
    Calls Tryd.prog 77 #[.slice (some ⟨b, off, none⟩) 2 c] w fun e w' => e = .returned (.int .i64 (orI x y)) ∧ w' = w := by
  go_enter Tryd.func77, Tryd.ntmps77
  go_wp2
  go_loop [8] (fun i => (i = .int .i64 0) ∨ (i = .int .i64 1 ∧ Hid (x = 0)) ∨ (i = .int .i64 2 ∧ Hid (x = 0 ∧ y = 0))) (fun i => 2 - (intOf i).toNat)
  case atStart => exact Or.inl rfl
  case round =>
    rcases hrel with rfl | ⟨rfl, hx⟩ | ⟨rfl, hx⟩
    · by_cases hx : x = 0
      · have hd : (x != 0) = false := by simp [hx]
        have HX : Hid (x = 0) := hx
        clear hx
        go_wp2
        go_round
        case rel => exact Or.inr (Or.inl ⟨rfl, HX⟩)
        case measure => simp [intOf]
      · have hd : (x != 0) = true := by simp [hx]
        go_wp2
        go_ret
        exact ⟨ret_int (by simp [orI, hx]), rfl⟩
    · by_cases hy : y = 0
      · have hd : (y != 0) = false := by simp [hy]
        have HY : Hid (x = 0 ∧ y = 0) := ⟨hx.out, hy⟩
        clear hy
        go_wp2
        go_round
        case rel => exact Or.inr (Or.inr ⟨rfl, HY⟩)
        case measure => simp [intOf]
      · have hd : (y != 0) = true := by simp [hy]
        go_wp2
        go_ret
        exact ⟨ret_int (by simp [orI, hx.out]), rfl⟩
    · go_wp2
      go_ret
      exact ⟨ret_int (by simp [orI, hx.out.1, hx.out.2]), rfl⟩
end Go.Proofs.YtedhchmigeooiaaDoor
