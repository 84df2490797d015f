import Derived.Test.YtcdjmpbdaiafgaaGreatDoorRoE
import Derived.Test.YtcdjmpbdaiafgaaGreatDoorRoD
import Derived.Test.YtcdjmpbdaiafgaaGreatDoorEqA
namespace Go.Proofs.YtcdjmpbdaiafgaaGreatDoor
open Go.RowKit
set_option linter.unusedVariables false
set_option maxRecDepth 100000

/-- the tails -/
def tlE (es : List Eg) (e : Nat) : Nat := (eat es e).tail.toNat
def F1 (tl : Nat → Nat) (k q : Nat) : Int := if q = 0 then 0 else (cE tl (q - 1) k : Nat)
def F2 (tl : Nat → Nat) (m p q : Nat) : Int := if q ≤ p then (cL tl q m : Nat) else F1 tl m q
def F3 (tl : Nat → Nat) (m k p : Nat) : Int := ((cL tl p m + cE tl p k : Nat) : Int)
theorem iat_map (f : Nat → Int) {k i : Nat} (h : i < k) : iat ((List.range k).map f) i = f i := by rw [iat_eq (by simpa using h)]; simp
theorem F1_zero (tl : Nat → Nat) (q : Nat) : F1 tl 0 q = 0 := by unfold F1; split <;> simp [cE]
theorem F1_at (tl : Nat → Nat) (k T : Nat) : F1 tl k (T + 1) = (cE tl T k : Nat) := by unfold F1; rw [if_neg (by omega)]; rfl
theorem F1_step (tl : Nat → Nat) (k q : Nat) : (if q = tl k + 1 then ((cE tl (tl k) k : Nat) : Int) + 1 else F1 tl k q) = F1 tl (k + 1) q := by
  by_cases h : q = tl k + 1
  · subst h
    rw [if_pos rfl, F1_at, cE, if_pos rfl]
    omega
  · rw [if_neg h]
    unfold F1
    by_cases h0 : q = 0
    · rw [if_pos h0, if_pos h0]
    · rw [if_neg h0, if_neg h0, cE, if_neg (by omega)]
      rfl
theorem F2_zero (tl : Nat → Nat) (m q : Nat) : F1 tl m q = F2 tl m 0 q := by
  unfold F2
  by_cases h : q ≤ 0
  · obtain rfl : q = 0 := by omega
    rw [if_pos h, cL_zero]
    rfl
  · rw [if_neg h]
theorem F2_here (tl : Nat → Nat) (m p : Nat) : F2 tl m p p = (cL tl p m : Nat) := by unfold F2; rw [if_pos (Nat.le_refl _)]
theorem F2_up (tl : Nat → Nat) (m p : Nat) : F2 tl m p (p + 1) = (cE tl p m : Nat) := by unfold F2; rw [if_neg (by omega), F1_at]
theorem F2_step (tl : Nat → Nat) (m p q : Nat) : (if q = p + 1 then ((cE tl p m : Nat) : Int) + (cL tl p m : Nat) else F2 tl m p q) = F2 tl m (p + 1) q := by
  by_cases h : q = p + 1
  · subst h
    rw [if_pos rfl, F2_here, cL_succ]
    omega
  · rw [if_neg h]
    unfold F2
    by_cases h0 : q ≤ p
    · rw [if_pos h0, if_pos (by omega)]
    · rw [if_neg h0, if_neg (by omega)]
theorem F2_end (tl : Nat → Nat) (m n q : Nat) (h : q < n + 1) : F2 tl m n q = (cL tl q m : Nat) := by unfold F2; rw [if_pos (by omega)]
theorem F3_zero (tl : Nat → Nat) (m p : Nat) : ((cL tl p m : Nat) : Int) = F3 tl m 0 p := by simp [F3, cE]
theorem F3_here (tl : Nat → Nat) (m k : Nat) : F3 tl m k (tl k) = (rank tl m k : Nat) := rfl
theorem F3_step (tl : Nat → Nat) (m k q : Nat) : (if q = tl k then ((rank tl m k : Nat) : Int) + 1 else F3 tl m k q) = F3 tl m (k + 1) q := by
  unfold F3
  by_cases h : q = tl k
  · subst h
    rw [if_pos rfl, cE, if_pos rfl]
    unfold rank
    omega
  · rw [if_neg h, cE, if_neg (fun e => h e.symm)]
    rfl

end Go.Proofs.YtcdjmpbdaiafgaaGreatDoor

namespace Go.Proofs.YtcdjmpbdaiafgaaGreatDoor
open Go.RowKit
set_option linter.unusedVariables false
set_option maxRecDepth 100000

def evals (x : Eg) : Value := .agg #[.int .i64 x.tail, .int .i64 x.head, .int .i64 x.weight, .int .i64 x.way, .int .i64 x.seg, .bool x.back, .int .i64 x.twin]

/-- a road in memory -/
structure Rd where
  nodes : List Int
  edges : List Eg
  first : List Int
  out : List Int
def HRoad (B : Nat) (w : World) (v0 v1 v2 v3 : Value) (R : Rd) : Prop := HInts B w v0 R.nodes ∧ HEdges B w v1 R.edges ∧ HInts B w v2 R.first ∧ HInts B w v3 R.out
theorem HRoad.keep {B : Nat} {w w' : World} {v0 v1 v2 v3 : Value} {R : Rd} (h : HRoad B w v0 v1 v2 v3 R) (k : Keeps B w w') : HRoad B w' v0 v1 v2 v3 R := ⟨h.1.keep k, h.2.1.keep k, h.2.2.1.keep k, h.2.2.2.keep k⟩
theorem HRoad.next {B : Nat} {w w' : World} {v0 v1 v2 v3 : Value} {R : Rd} (h : HRoad B w v0 v1 v2 v3 R) (k : Nx w w') : HRoad B w' v0 v1 v2 v3 R := h.keep (k.keeps B)

end Go.Proofs.YtcdjmpbdaiafgaaGreatDoor
