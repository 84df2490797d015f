import Derived.Test.YtedhchmigeooiaaDoorSpA
import Derived.Deep.RegionWith
import Derived.BigRegion
namespace Go.Proofs.YtedhchmigeooiaaDoor
open Go.RowKit
set_option linter.unusedVariables false

theorem bcell {W w1 : World} (hb : Below W.heap.size W w1) : (∀ b o, b < W.heap.size → w1.cell? ⟨b, o, none⟩ = W.cell? ⟨b, o, none⟩) ∧ (∀ b o, b < W.heap.size → w1.frozen? ⟨b, o, none⟩ = W.frozen? ⟨b, o, none⟩) :=
  ⟨fun b o h => hb.cell (p := ⟨b, o, none⟩) h, fun b o h => hb.frozen (p := ⟨b, o, none⟩) h⟩
theorem Nx.refl (w : World) : Nx w w := Below.refl _ _
theorem box1 (w : World) (o : Obj) : Nx w (w.alloc o) := (Nx.refl w).alloc o
theorem box2 (w : World) (o o' : Obj) : Nx w ((w.alloc o).alloc o') := (box1 w o).alloc o'

def allN (n : Nat) (p : Nat → Bool) : Bool := (List.range n).all p
def allTo (p : Nat → Bool) (k : Nat) : Prop := ∀ i, i < k → p i = true
theorem allTo_zero (p : Nat → Bool) : allTo p 0 := fun i hi => absurd hi (Nat.not_lt_zero _)
theorem allTo_succ {p : Nat → Bool} {k : Nat} (h : allTo p k) (hk : p k = true) : allTo p (k + 1) := by
  intro i hi
  rcases Nat.lt_succ_iff_lt_or_eq.1 hi with h1 | rfl
  · exact h i h1
  · exact hk
theorem allN_yes {n k : Nat} {p : Nat → Bool} (hk : n ≤ k) (h : allTo p k) : allN n p = true := by
  unfold allN; rw [List.all_eq_true]; intro i hi; exact h i (by have := List.mem_range.1 hi; omega)
theorem allN_no {n k : Nat} {p : Nat → Bool} (hk : k < n) (h : p k = false) : allN n p = false := by
  unfold allN; rw [List.all_eq_false]; exact ⟨k, List.mem_range.2 hk, by simp [h]⟩

/-- each is above the one before it -/
def ascAt (lt : Nat → Nat → Bool) (i : Nat) : Bool := i == 0 || lt (i - 1) i
def ascN (n : Nat) (lt : Nat → Nat → Bool) : Bool := allN n (ascAt lt)
theorem ascAt_one (lt : Nat → Nat → Bool) : allTo (ascAt lt) 1 := by intro i hi; have : i = 0 := by omega
                                                                     subst this; rfl
theorem ascAt_succ (lt : Nat → Nat → Bool) (j : Nat) : ascAt lt (j + 1) = lt j (j + 1) := by simp [ascAt]

theorem cmpI_nonneg (a b : Int) : decide (0 ≤ cmpI a b) = !decide (a < b) := by
  unfold cmpI; by_cases h : a < b
  · simp [h]
  · by_cases h' : b < a <;> simp [h, h']
theorem cmpI_neg (a b : Int) : decide (cmpI a b < 0) = decide (a < b) := by
  unfold cmpI; by_cases h : a < b
  · simp [h]
  · by_cases h' : b < a <;> simp [h, h']
theorem cmpI_zero (a b : Int) : (cmpI a b == 0) = (a == b) := by
  unfold cmpI; by_cases h : a < b
  · simp [h]; omega
  · by_cases h' : b < a
    · simp [h, h']; omega
    · simp [h, h']; omega
theorem cmpI_bd (a b : Int) : -1 ≤ cmpI a b ∧ cmpI a b ≤ 1 := by unfold cmpI; split <;> (try split) <;> omega
theorem wrapJ (j : Nat) (h : j ≤ 9223372036854775807) : IntKind.i64.wrap (j : Int) = (j : Int) := by rw [IntKind.wrap_i64]; omega
end Go.Proofs.YtedhchmigeooiaaDoor
