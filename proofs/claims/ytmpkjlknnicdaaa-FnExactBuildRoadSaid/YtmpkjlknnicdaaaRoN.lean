import Derived.Test.YtmpkjlknnicdaaaRoF
namespace Go.Proofs.Ytmpkjlknnicdaaa
open Go.RowKit
set_option linter.unusedVariables false
set_option maxRecDepth 100000

/-- one block alone may have turned -/
structure Only (o : Option Nat) (w w' : World) : Prop where
  os : w'.os = w.os
  tape : w'.tape = w.tape
  output : w'.output = w.output
  size : w.heap.size ≤ w'.heap.size
  block : ∀ b, b < w.heap.size → some b ≠ o → w'.heap[b]? = w.heap[b]?
theorem Only.refl (o : Option Nat) (w : World) : Only o w w := ⟨rfl, rfl, rfl, Nat.le_refl _, fun _ _ _ => rfl⟩
theorem Only.set {o : Option Nat} {w w' : World} (h : Only o w w') {g i : Nat} (hg : o = some g) (u : Value) : Only o w (w'.setCell ⟨g, i, none⟩ u) :=
  ⟨h.os, h.tape, h.output, by simpa [World.setCell] using h.size, fun b hb hn => (Below.heap_setCell _ _ _ _ (fun e => hn (by rw [hg, e]))).trans (h.block b hb hn)⟩
theorem Only.below {o : Option Nat} {w w' : World} (h : Only o w w') {B : Nat} (hB : ∀ g, o = some g → B ≤ g) (hs : B ≤ w.heap.size) : Below B w w' :=
  ⟨h.os, h.tape, h.output, h.size, fun k hk => h.block k (by omega) (fun e => by have := hB k e.symm; omega)⟩

/-- a slice of numbers, open -/
def SI (w : World) (v : Value) (n : Nat) (F : Nat → Int) : Prop := ∃ a c, v = .slice a n c ∧ (0 < n → ∃ g, a = some ⟨g, 0, none⟩ ∧ RW w g n F)

set_option maxHeartbeats 1000000 in
theorem markI_any (v : Value) (n : Nat) (F : Nat → Int) (w : World) (k : Int) (h0 : SI w v n F) (hs : n ≤ 1048576) (hk0 : 0 ≤ k) (hk1 : k ≤ 4611686018427387904) :
    Calls Try.prog 44 #[v, .int .i64 k] w fun e w' => e = .returned (.int .i64 (k + n)) ∧ SI w' v n (fun i => k + i) ∧ Only v.ownBlock w w' := by
  obtain ⟨a, c, rfl, hk⟩ := h0
  go_enter Try.func44, Try.ntmps44
  go_wp2
  go_loopw [1, 5] (fun m i wr => ∃ j : Nat, j ≤ n ∧ i = .int .i64 j ∧ m = .int .i64 (k + j) ∧ Hid (∃ G, SI wr (.slice a n c) n G ∧ ∀ i, i < j → G i = k + i) ∧ Hid (Only (Value.slice a n c).ownBlock w wr)) (fun _ i _ => n - (intOf i).toNat)
  case atStart => exact ⟨0, Nat.zero_le _, rfl, by simp, ⟨F, ⟨a, c, rfl, hk⟩, fun i hi => absurd hi (Nat.not_lt_zero _)⟩, Only.refl _ _⟩
  obtain ⟨j, hjn, rfl, rfl, HM, HO⟩ := hrel
  clear hk
  by_cases hlt : j < n
  · obtain ⟨G, ⟨a', c', e0, hk⟩, hG⟩ := HM.out
    simp only [Value.slice.injEq, true_and] at e0
    obtain ⟨rfl, rfl⟩ := e0
    obtain ⟨g, rfl, hr⟩ := hk (by omega)
    have c0 := hr.cell hlt
    have f0 := hr.frozen j
    have HM' : Hid (∃ G, SI (wr.setCell ⟨g, j, none⟩ (.int .i64 (k + j))) (.slice (some ⟨g, 0, none⟩) n c) n G ∧ ∀ i, i < j + 1 → G i = k + i) := by
      refine ⟨_, ⟨_, _, rfl, fun _ => ⟨g, rfl, hr.set j (k + j)⟩⟩, fun i hi => ?_⟩
      by_cases e : i = j
      · subst e; simp
      · simp only [if_neg e]
        exact hG i (by omega)
    have HO' : Hid (Only (Value.slice (some ⟨g, 0, none⟩) n c).ownBlock w (wr.setCell ⟨g, j, none⟩ (.int .i64 (k + j)))) := HO.out.set rfl _
    have hlt' : (j : Int) < n := by omega
    clear hk hr hG HM HO
    generalize G j = gj at *
    go_wp2
    go_roundw
    case rel => exact ⟨j + 1, by omega, by go_num, by go_num, HM', HO'⟩
    case measure => simp [intOf]; omega
  · have e : j = n := by omega
    subst e
    go_wp2
    go_ret
    refine ⟨rfl, ?_, HO.out⟩
    obtain ⟨G, ⟨a', c', e0, hk⟩, hG⟩ := HM.out
    refine ⟨a', c', e0, fun h0 => ?_⟩
    obtain ⟨g, e1, hr⟩ := hk h0
    exact ⟨g, e1, hr.congr fun i hi => hG i hi⟩

set_option maxHeartbeats 1000000 in
theorem heldI_any (v : Value) (n : Nat) (w : World) (k : Int) (h0 : SI w v n (fun i => k + i)) (hs : n ≤ 1048576) (hk0 : 0 ≤ k) (hk1 : k ≤ 4611686018427387904) :
    Calls Try.prog 49 #[v, .int .i64 k] w fun e w' => e = .returned (.int .i64 (k + n)) ∧ w' = w := by
  obtain ⟨a, c, rfl, hk⟩ := h0
  go_enter Try.func49, Try.ntmps49
  go_wp2
  go_loopw [1, 5] (fun m i wr => ∃ j : Nat, j ≤ n ∧ i = .int .i64 j ∧ m = .int .i64 (k + j) ∧ wr = w) (fun _ i _ => n - (intOf i).toNat)
  case atStart => exact ⟨0, Nat.zero_le _, rfl, by simp, rfl⟩
  obtain ⟨j, hjn, rfl, rfl, rfl⟩ := hrel
  by_cases hlt : j < n
  · obtain ⟨g, rfl, hr⟩ := hk (by omega)
    have c0 := hr.cell hlt
    have hlt' : (j : Int) < n := by omega
    have hne : (k + (j : Int) != k + (j : Int)) = false := by simp
    clear hk hr
    go_wp2
    go_roundw
    case rel => exact ⟨j + 1, by omega, by go_num, by go_num, trivial⟩
    case measure => simp [intOf]; omega
  · have e : j = n := by omega
    subst e
    go_wp2
    go_ret
    exact ⟨rfl, rfl⟩
end Go.Proofs.Ytmpkjlknnicdaaa
