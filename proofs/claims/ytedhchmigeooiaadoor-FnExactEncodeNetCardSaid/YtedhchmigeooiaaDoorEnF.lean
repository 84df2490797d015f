import Derived.Test.YtedhchmigeooiaaDoorEnE
import Derived.Test.YtedhchmigeooiaaDoorToA
namespace Go.Proofs.YtedhchmigeooiaaDoor
open Go.RowKit
set_option linter.unusedVariables false
set_option maxRecDepth 100000

/-- a block of other things than bytes -/
def BlkN (w : World) (b : Nat) (cs : Array Value) : Prop := ∃ t, t ≠ 5 ∧ w.heap[b]? = some (.cells cs t (0, 0))
theorem BlkN.blk {w : World} {b : Nat} {cs : Array Value} (h : BlkN w b cs) : Blk w b cs := by obtain ⟨t, _, h⟩ := h; exact ⟨t, h⟩
theorem BlkN.keep {B : Nat} {w w' : World} {b : Nat} {cs : Array Value} (h : BlkN w b cs) (k : Gx B w w') : BlkN w' b cs := by
  obtain ⟨t, ht, h⟩ := h
  exact ⟨t, ht, k.2 b _ h (by simp) (fun c' fz' e => ht (by simp at e; exact e.2.1))⟩
theorem BlkN.new (w : World) (cs : Array Value) (t n : Nat) (ht : t ≠ 5) (hn : n = w.heap.size) : BlkN (w.alloc (.cells cs t)) n cs := by
  subst hn
  exact ⟨t, ht, by show (w.heap.push _)[w.heap.size]? = _; simp⟩
theorem nums1 (B : Nat) (w : World) (x : Int) : HNums B (w.alloc (.cells #[.int .i64 x] 2)) (.slice (some ⟨w.heap.size, 0, none⟩) 1 1) [x] := by
  refine ⟨_, _, rfl, by simp [maxLen], fun _ => ⟨w.heap.size, 0, rfl, Nat.zero_le _, by simp, fun i hi => ⟨Or.inr ⟨#[.int .i64 x], 2, (0, 0), by decide, by show (w.heap.push _)[w.heap.size]? = _; simp⟩, ?_⟩⟩⟩
  simp only [List.length_cons, List.length_nil] at hi
  have : i = 0 := by omega
  subst this
  simp [iat]
theorem nums2 (B : Nat) (w : World) (x y : Int) : HNums B (w.alloc (.cells #[.int .i64 x, .int .i64 y] 2)) (.slice (some ⟨w.heap.size, 0, none⟩) 2 2) [x, y] := by
  refine ⟨_, _, rfl, by simp [maxLen], fun _ => ⟨w.heap.size, 0, rfl, Nat.zero_le _, by simp, fun i hi => ⟨Or.inr ⟨#[.int .i64 x, .int .i64 y], 2, (0, 0), by decide, by show (w.heap.push _)[w.heap.size]? = _; simp⟩, ?_⟩⟩⟩
  simp only [List.length_cons, List.length_nil] at hi
  rcases (show i = 0 ∨ i = 1 by omega) with rfl | rfl <;> simp [iat]
theorem small1 {x : Int} (h : 0 ≤ x ∧ x ≤ 1048576) : small [x] := by
  intro i hi
  simp only [List.length_cons, List.length_nil] at hi
  have : i = 0 := by omega
  subst this
  simpa [iat] using h
theorem small2 {x y : Int} (h : 0 ≤ x ∧ x ≤ 1048576) (h' : 0 ≤ y ∧ y ≤ 1048576) : small [x, y] := by
  intro i hi
  simp only [List.length_cons, List.length_nil] at hi
  rcases (show i = 0 ∨ i = 1 by omega) with rfl | rfl
  · simpa [iat] using h
  · simpa [iat] using h'
end Go.Proofs.YtedhchmigeooiaaDoor
