import Derived.Test.YtcdjmpbdaiafgaaGreatDoorRoE
namespace Go.Proofs.YtcdjmpbdaiafgaaGreatDoor
open Go.RowKit
set_option linter.unusedVariables false
set_option maxRecDepth 100000

/-- one block alone may have turned -/
structure Only (o : Option Nat) (w w' : World) : Prop where
  os : w'.os = w.os
  tape : w'.tape = w.tape
  output : w'.output = w.output
  size : w.heap.size ≤ w'.heap.size
  block : ∀ b, b < w.heap.size → some b ≠ o → w'.heap[b]? = w.heap[b]?
theorem Only.refl (o : Option Nat) (w : World) : Only o w w := ⟨rfl, rfl, rfl, Nat.le_refl _, fun _ _ _ => rfl⟩
theorem Only.set {o : Option Nat} {w w' : World} (h : Only o w w') {g i : Nat} (hg : o = some g) (u : Value) : Only o w (w'.setCell ⟨g, i, none⟩ u) :=
  ⟨h.os, h.tape, h.output, by simpa [World.setCell] using h.size, fun b hb hn => (Below.heap_setCell _ _ _ _ (fun e => hn (by rw [hg, e]))).trans (h.block b hb hn)⟩
theorem Only.below {o : Option Nat} {w w' : World} (h : Only o w w') {B : Nat} (hB : ∀ g, o = some g → B ≤ g) (hs : B ≤ w.heap.size) : Below B w w' :=
  ⟨h.os, h.tape, h.output, h.size, fun k hk => h.block k (by omega) (fun e => by have := hB k e.symm; omega)⟩

/-- a slice of numbers, open -/
def SI (w : World) (v : Value) (n : Nat) (F : Nat → Int) : Prop := ∃ a c, v = .slice a n c ∧ (0 < n → ∃ g, a = some ⟨g, 0, none⟩ ∧ RW w g n F)

set_option maxHeartbeats 1000000 in
theorem markI_any (v : Value) (n : Nat) (F : Nat → Int) (w : World) (k : Int) (h0 : SI w v n F) (hs : n ≤ 1048576) (hk0 : 0 ≤ k) (hk1 : k ≤ 4611686018427387904) :
    Calls Tryz.prog 37 #[v, .int .i64 k] w fun e w' => e = .returned (.int .i64 (k + n)) ∧ SI w' v n (fun i => k + i) ∧ Only v.ownBlock w w' := by
  obtain ⟨a, c, rfl, hk⟩ := h0
  go_enter Tryz.func37, Tryz.ntmps37
  go_wp2
  go_loopw [1, 5] (fun m i wr => ∃ j : Nat, j ≤ n ∧ i = .int .i64 j ∧ m = .int .i64 (k + j) ∧ Hid (∃ G, SI wr (.slice a n c) n G ∧ ∀ i, i < j → G i = k + i) ∧ Hid (Only (Value.slice a n c).ownBlock w wr)) (fun _ i _ => n - (intOf i).toNat)
  case atStart => exact ⟨0, Nat.zero_le _, rfl, by simp, ⟨F, ⟨a, c, rfl, hk⟩, fun i hi => absurd hi (Nat.not_lt_zero _)⟩, Only.refl _ _⟩
  obtain ⟨j, hjn, rfl, rfl, HM, HO⟩ := hrel
  clear hk
  by_cases hlt : j < n
  · obtain ⟨G, ⟨a', c', e0, hk⟩, hG⟩ := HM.out
    simp only [Value.slice.injEq, true_and] at e0
    obtain ⟨rfl, rfl⟩ := e0
    obtain ⟨g, rfl, hr⟩ := hk (by omega)
    have c0 := hr.cell hlt
    have f0 := hr.frozen j
    have HM' : Hid (∃ G, SI (wr.setCell ⟨g, j, none⟩ (.int .i64 (k + j))) (.slice (some ⟨g, 0, none⟩) n c) n G ∧ ∀ i, i < j + 1 → G i = k + i) := by
      refine ⟨_, ⟨_, _, rfl, fun _ => ⟨g, rfl, hr.set j (k + j)⟩⟩, fun i hi => ?_⟩
      by_cases e : i = j
      · subst e; simp
      · simp only [if_neg e]
        exact hG i (by omega)
    have HO' : Hid (Only (Value.slice (some ⟨g, 0, none⟩) n c).ownBlock w (wr.setCell ⟨g, j, none⟩ (.int .i64 (k + j)))) := HO.out.set rfl _
    have hlt' : (j : Int) < n := by omega
    clear hk hr hG HM HO
    generalize G j = gj at *
    go_wp2
    go_roundw
    case rel => exact ⟨j + 1, by omega, by go_num, by go_num, HM', HO'⟩
    case measure => simp [intOf]; omega
  · have e : j = n := by omega
    subst e
    go_wp2
    go_ret
    refine ⟨rfl, ?_, HO.out⟩
    obtain ⟨G, ⟨a', c', e0, hk⟩, hG⟩ := HM.out
    refine ⟨a', c', e0, fun h0 => ?_⟩
    obtain ⟨g, e1, hr⟩ := hk h0
    exact ⟨g, e1, hr.congr fun i hi => hG i hi⟩

set_option maxHeartbeats 1000000 in
theorem heldI_any (v : Value) (n : Nat) (w : World) (k : Int) (h0 : SI w v n (fun i => k + i)) (hs : n ≤ 1048576) (hk0 : 0 ≤ k) (hk1 : k ≤ 4611686018427387904) :
    Calls Tryz.prog 78 #[v, .int .i64 k] w fun e w' => e = .returned (.int .i64 (k + n)) ∧ w' = w := by
  obtain ⟨a, c, rfl, hk⟩ := h0
  go_enter Tryz.func78, Tryz.ntmps78
  go_wp2
  go_loopw [1, 5] (fun m i wr => ∃ j : Nat, j ≤ n ∧ i = .int .i64 j ∧ m = .int .i64 (k + j) ∧ wr = w) (fun _ i _ => n - (intOf i).toNat)
  case atStart => exact ⟨0, Nat.zero_le _, rfl, by simp, rfl⟩
  obtain ⟨j, hjn, rfl, rfl, rfl⟩ := hrel
  by_cases hlt : j < n
  · obtain ⟨g, rfl, hr⟩ := hk (by omega)
    have c0 := hr.cell hlt
    have hlt' : (j : Int) < n := by omega
    have hne : (k + (j : Int) != k + (j : Int)) = false := by simp
    clear hk hr
    go_wp2
    go_roundw
    case rel => exact ⟨j + 1, by omega, by go_num, by go_num, trivial⟩
    case measure => simp [intOf]; omega
  · have e : j = n := by omega
    subst e
    go_wp2
    go_ret
    exact ⟨rfl, rfl⟩
end Go.Proofs.YtcdjmpbdaiafgaaGreatDoor

namespace Go.Proofs.YtcdjmpbdaiafgaaGreatDoor
open Go.RowKit
set_option linter.unusedVariables false
set_option maxRecDepth 100000

/-- a row of edges' cells, open -/
def RE (w : World) (g n : Nat) (V : Nat → Nat → Value) : Prop := ∃ c : Array Value, w.heap[g]? = some (.cells c 107 (0, 0)) ∧ n * 7 ≤ c.size ∧ ∀ i j, i < n → j < 7 → c[i * 7 + j]? = some (V i j)
theorem RE.cell {w : World} {g n : Nat} {V : Nat → Nat → Value} (h : RE w g n V) {i j : Nat} (hi : i < n) (hj : j < 7) : w.cell? ⟨g, i * 7 + j, none⟩ = some (V i j) := by
  obtain ⟨c, hb, _, hc⟩ := h
  simp [World.cell?, hb, hc i j hi hj]
theorem RE.frozen {w : World} {g n : Nat} {V : Nat → Nat → Value} (h : RE w g n V) (o : Nat) : w.frozen? ⟨g, o, none⟩ = false := by
  obtain ⟨c, hb, _, _⟩ := h
  simp [World.frozen?, hb]
theorem RE.set {w : World} {g n : Nat} {V : Nat → Nat → Value} (h : RE w g n V) {i j : Nat} (hi : i < n) (hj : j < 7) (u : Value) : RE (w.setCell ⟨g, i * 7 + j, none⟩ u) g n (fun i' j' => if i' = i ∧ j' = j then u else V i' j') := by
  obtain ⟨c, hb, hn, hc⟩ := h
  have hm : (i + 1) * 7 ≤ n * 7 := Nat.mul_le_mul_right 7 hi
  refine ⟨c.setIfInBounds (i * 7 + j) u, by simp [World.setCell, Array.getElem?_modify, hb], by simpa using hn, fun i' j' hi' hj' => ?_⟩
  by_cases e : i' = i ∧ j' = j
  · obtain ⟨rfl, rfl⟩ := e
    rw [Array.getElem?_setIfInBounds]
    simp [show i' * 7 + j' < c.size by omega]
  · have hne : i * 7 + j ≠ i' * 7 + j' := by omega
    rw [Array.getElem?_setIfInBounds, if_neg hne]
    show c[i' * 7 + j']? = some (if i' = i ∧ j' = j then u else V i' j')
    rw [if_neg e]
    exact hc i' j' hi' hj'
def SE (w : World) (v : Value) (n : Nat) (V : Nat → Nat → Value) : Prop := ∃ a c, v = .slice a n c ∧ (0 < n → ∃ g, a = some ⟨g, 0, none⟩ ∧ RE w g n V)

/-- what marking lays into an edge -/
def mV (z : Int) : Nat → Value
  | 0 => .int .i64 z
  | 1 => .int .i64 (z + 1)
  | 2 => .int .i64 (z + 1 + 1)
  | 3 => .int .i64 (z + 1 + 1 + 1)
  | 4 => .int .i64 (z + 1 + 1 + 1 + 1)
  | 5 => .bool ((z + 1 + 1 + 1 + 1 + 1) % 3 == 0)
  | _ => .int .i64 (z + 1 + 1 + 1 + 1 + 1 + 1)
theorem RE.congr {w : World} {g n : Nat} {V U : Nat → Nat → Value} (h : RE w g n V) (e : ∀ i j, i < n → j < 7 → V i j = U i j) : RE w g n U := by
  obtain ⟨c, hb, hn, hc⟩ := h
  exact ⟨c, hb, hn, fun i j hi hj => by rw [hc i j hi hj, e i j hi hj]⟩
theorem RE.mark {w : World} {g n : Nat} {V : Nat → Nat → Value} (h : RE w g n V) {i : Nat} (hi : i < n) (z : Int) :
    RE (((((((w.setCell ⟨g, i * 7, none⟩ (.int .i64 z)).setCell ⟨g, i * 7 + 1, none⟩ (.int .i64 (z + 1))).setCell ⟨g, i * 7 + 2, none⟩ (.int .i64 (z + 1 + 1))).setCell ⟨g, i * 7 + 3, none⟩ (.int .i64 (z + 1 + 1 + 1))).setCell ⟨g, i * 7 + 4, none⟩ (.int .i64 (z + 1 + 1 + 1 + 1))).setCell ⟨g, i * 7 + 5, none⟩ (.bool ((z + 1 + 1 + 1 + 1 + 1) % 3 == 0))).setCell ⟨g, i * 7 + 6, none⟩ (.int .i64 (z + 1 + 1 + 1 + 1 + 1 + 1))) g n (fun i' j' => if i' = i then mV z j' else V i' j') := by
  have h' := ((((((h.set hi (j := 0) (by omega) (.int .i64 z)).set hi (j := 1) (by omega) (.int .i64 (z + 1))).set hi (j := 2) (by omega) (.int .i64 (z + 1 + 1))).set hi (j := 3) (by omega) (.int .i64 (z + 1 + 1 + 1))).set hi (j := 4) (by omega) (.int .i64 (z + 1 + 1 + 1 + 1))).set hi (j := 5) (by omega) (.bool ((z + 1 + 1 + 1 + 1 + 1) % 3 == 0))).set hi (j := 6) (by omega) (.int .i64 (z + 1 + 1 + 1 + 1 + 1 + 1))
  refine RE.congr h' fun i' j' _ hj' => ?_
  by_cases e : i' = i
  · subst e
    rcases (show j' = 0 ∨ j' = 1 ∨ j' = 2 ∨ j' = 3 ∨ j' = 4 ∨ j' = 5 ∨ j' = 6 by omega) with rfl | rfl | rfl | rfl | rfl | rfl | rfl <;> simp [mV]
  · simp [e]
theorem only_seven {o : Option Nat} {w0 w : World} (h : Only o w0 w) {g i : Nat} (hg : o = some g) (z : Int) : Only o w0 (((((((w.setCell ⟨g, i * 7, none⟩ (.int .i64 z)).setCell ⟨g, i * 7 + 1, none⟩ (.int .i64 (z + 1))).setCell ⟨g, i * 7 + 2, none⟩ (.int .i64 (z + 1 + 1))).setCell ⟨g, i * 7 + 3, none⟩ (.int .i64 (z + 1 + 1 + 1))).setCell ⟨g, i * 7 + 4, none⟩ (.int .i64 (z + 1 + 1 + 1 + 1))).setCell ⟨g, i * 7 + 5, none⟩ (.bool ((z + 1 + 1 + 1 + 1 + 1) % 3 == 0))).setCell ⟨g, i * 7 + 6, none⟩ (.int .i64 (z + 1 + 1 + 1 + 1 + 1 + 1))) :=
  ((((((h.set hg _).set hg _).set hg _).set hg _).set hg _).set hg _).set hg _

end Go.Proofs.YtcdjmpbdaiafgaaGreatDoor
