import Derived.Test.YtmpkjlknnicdaaaRoD
import Derived.Test.YtmpkjlknnicdaaaPure
import Derived.Deep.RegionHeld3
namespace Go.Proofs.Ytmpkjlknnicdaaa
open Go.RowKit
set_option linter.unusedVariables false
set_option maxRecDepth 100000

structure RoadIn (N : Nt) : Prop where
  asc : ascI N.nodes = true
  c0 : N.nodes.length ≤ 2000
  c1 : N.ways.length ≤ 2000
  ed : edTo N.ways N.ways.length ≤ 4000
  len : ∀ i, i < N.ways.length → (wat N.ways i).nodes.length = (wat N.ways i).weights.length + 1
  seg : ∀ i, i < N.ways.length → (wat N.ways i).weights.length ≤ 100
  has : ∀ i j, i < N.ways.length → j < (wat N.ways i).nodes.length → hasI N.nodes (iat (wat N.ways i).nodes j) = true
theorem allN_at {n : Nat} {p : Nat → Bool} (h : allN n p = true) {i : Nat} (hi : i < n) : p i = true := by
  unfold allN at h; rw [List.all_eq_true] at h; exact h i (List.mem_range.2 hi)
theorem road_in {N : Nt} (h : implValid N = true) : RoadIn N := by
  simp only [implValid, counts, Bool.and_eq_true, decide_eq_true_eq] at h
  obtain ⟨⟨c0, c1, ed, c2, c3⟩, hu, ⟨ha, hn⟩, ⟨hw, _⟩, ⟨hr, _⟩, ht, _⟩ := h
  have aw : ∀ i, i < N.ways.length → (wat N.ways i).nodes.length = (wat N.ways i).weights.length + 1 ∧ (wat N.ways i).weights.length ≤ 100 ∧ ∀ j, j < (wat N.ways i).nodes.length → hasI N.nodes (iat (wat N.ways i).nodes j) = true := fun i hi => by
    have := allN_at hw hi
    simp only [wayGood, wayHead, Bool.and_eq_true, decide_eq_true_eq] at this
    obtain ⟨⟨⟨⟨⟨g0, g1⟩, g2⟩, g3⟩, g4⟩, g5⟩ := this
    exact ⟨g3, g2, fun j hj => allN_at g5 hj⟩
  exact ⟨ha, c0, c1, ed, fun i hi => (aw i hi).1, fun i hi => (aw i hi).2.1, fun i j hi hj => (aw i hi).2.2 j hj⟩
theorem st_ed (N : Nt) (k : Nat) : st (nsN N) (bnN N) k = edTo N.ways k := by
  induction k with
  | zero => rfl
  | succ k ih => rw [st, edTo, ih]; unfold nsN bnN edgeN; split <;> omega
theorem edTo_mono (xs : List Wy) (k d : Nat) : edTo xs k ≤ edTo xs (k + d) := by
  induction d with
  | zero => exact Nat.le_refl _
  | succ d ih => rw [← Nat.add_assoc, edTo]; omega
/-- how long the list is behind q segments of way k -/
theorem wlay_le {N : Nt} (h : RoadIn N) {k q : Nat} (hk : k < N.ways.length) (hq : q ≤ (wat N.ways k).weights.length) : (wlay (sg1 N) k (lay (sg1 N) (nsN N) k) q).length ≤ 4000 := by
  rw [wlay_len (sg1_len N), lay_len (sg1_len N)]
  have h1 := st_mono (nsN N) (bnN N) (k + 1) (N.ways.length - (k + 1))
  rw [show k + 1 + (N.ways.length - (k + 1)) = N.ways.length by omega, st_ed N N.ways.length, st] at h1
  have h2 : bnN N k * q ≤ bnN N k * nsN N k := Nat.mul_le_mul_left _ hq
  have := h.ed
  omega
end Go.Proofs.Ytmpkjlknnicdaaa
