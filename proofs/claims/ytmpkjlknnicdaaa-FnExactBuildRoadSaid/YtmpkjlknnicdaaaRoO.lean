import Derived.Test.YtmpkjlknnicdaaaRoN
namespace Go.Proofs.Ytmpkjlknnicdaaa
open Go.RowKit
set_option linter.unusedVariables false
set_option maxRecDepth 100000

/-- a row of edges' cells, open -/
def RE (w : World) (g n : Nat) (V : Nat → Nat → Value) : Prop := ∃ c : Array Value, w.heap[g]? = some (.cells c 70 (0, 0)) ∧ n * 7 ≤ c.size ∧ ∀ i j, i < n → j < 7 → c[i * 7 + j]? = some (V i j)
theorem RE.cell {w : World} {g n : Nat} {V : Nat → Nat → Value} (h : RE w g n V) {i j : Nat} (hi : i < n) (hj : j < 7) : w.cell? ⟨g, i * 7 + j, none⟩ = some (V i j) := by
  obtain ⟨c, hb, _, hc⟩ := h
  simp [World.cell?, hb, hc i j hi hj]
theorem RE.frozen {w : World} {g n : Nat} {V : Nat → Nat → Value} (h : RE w g n V) (o : Nat) : w.frozen? ⟨g, o, none⟩ = false := by
  obtain ⟨c, hb, _, _⟩ := h
  simp [World.frozen?, hb]
theorem RE.set {w : World} {g n : Nat} {V : Nat → Nat → Value} (h : RE w g n V) {i j : Nat} (hi : i < n) (hj : j < 7) (u : Value) : RE (w.setCell ⟨g, i * 7 + j, none⟩ u) g n (fun i' j' => if i' = i ∧ j' = j then u else V i' j') := by
  obtain ⟨c, hb, hn, hc⟩ := h
  have hm : (i + 1) * 7 ≤ n * 7 := Nat.mul_le_mul_right 7 hi
  refine ⟨c.setIfInBounds (i * 7 + j) u, by simp [World.setCell, Array.getElem?_modify, hb], by simpa using hn, fun i' j' hi' hj' => ?_⟩
  by_cases e : i' = i ∧ j' = j
  · obtain ⟨rfl, rfl⟩ := e
    rw [Array.getElem?_setIfInBounds]
    simp [show i' * 7 + j' < c.size by omega]
  · have hne : i * 7 + j ≠ i' * 7 + j' := by omega
    rw [Array.getElem?_setIfInBounds, if_neg hne]
    show c[i' * 7 + j']? = some (if i' = i ∧ j' = j then u else V i' j')
    rw [if_neg e]
    exact hc i' j' hi' hj'
def SE (w : World) (v : Value) (n : Nat) (V : Nat → Nat → Value) : Prop := ∃ a c, v = .slice a n c ∧ (0 < n → ∃ g, a = some ⟨g, 0, none⟩ ∧ RE w g n V)

/-- what marking lays into an edge -/
def mV (z : Int) : Nat → Value
  | 0 => .int .i64 z
  | 1 => .int .i64 (z + 1)
  | 2 => .int .i64 (z + 1 + 1)
  | 3 => .int .i64 (z + 1 + 1 + 1)
  | 4 => .int .i64 (z + 1 + 1 + 1 + 1)
  | 5 => .bool ((z + 1 + 1 + 1 + 1 + 1) % 3 == 0)
  | _ => .int .i64 (z + 1 + 1 + 1 + 1 + 1 + 1)
theorem RE.congr {w : World} {g n : Nat} {V U : Nat → Nat → Value} (h : RE w g n V) (e : ∀ i j, i < n → j < 7 → V i j = U i j) : RE w g n U := by
  obtain ⟨c, hb, hn, hc⟩ := h
  exact ⟨c, hb, hn, fun i j hi hj => by rw [hc i j hi hj, e i j hi hj]⟩
theorem RE.mark {w : World} {g n : Nat} {V : Nat → Nat → Value} (h : RE w g n V) {i : Nat} (hi : i < n) (z : Int) :
    RE (((((((w.setCell ⟨g, i * 7, none⟩ (.int .i64 z)).setCell ⟨g, i * 7 + 1, none⟩ (.int .i64 (z + 1))).setCell ⟨g, i * 7 + 2, none⟩ (.int .i64 (z + 1 + 1))).setCell ⟨g, i * 7 + 3, none⟩ (.int .i64 (z + 1 + 1 + 1))).setCell ⟨g, i * 7 + 4, none⟩ (.int .i64 (z + 1 + 1 + 1 + 1))).setCell ⟨g, i * 7 + 5, none⟩ (.bool ((z + 1 + 1 + 1 + 1 + 1) % 3 == 0))).setCell ⟨g, i * 7 + 6, none⟩ (.int .i64 (z + 1 + 1 + 1 + 1 + 1 + 1))) g n (fun i' j' => if i' = i then mV z j' else V i' j') := by
  have h' := ((((((h.set hi (j := 0) (by omega) (.int .i64 z)).set hi (j := 1) (by omega) (.int .i64 (z + 1))).set hi (j := 2) (by omega) (.int .i64 (z + 1 + 1))).set hi (j := 3) (by omega) (.int .i64 (z + 1 + 1 + 1))).set hi (j := 4) (by omega) (.int .i64 (z + 1 + 1 + 1 + 1))).set hi (j := 5) (by omega) (.bool ((z + 1 + 1 + 1 + 1 + 1) % 3 == 0))).set hi (j := 6) (by omega) (.int .i64 (z + 1 + 1 + 1 + 1 + 1 + 1))
  refine RE.congr h' fun i' j' _ hj' => ?_
  by_cases e : i' = i
  · subst e
    rcases (show j' = 0 ∨ j' = 1 ∨ j' = 2 ∨ j' = 3 ∨ j' = 4 ∨ j' = 5 ∨ j' = 6 by omega) with rfl | rfl | rfl | rfl | rfl | rfl | rfl <;> simp [mV]
  · simp [e]
theorem only_seven {o : Option Nat} {w0 w : World} (h : Only o w0 w) {g i : Nat} (hg : o = some g) (z : Int) : Only o w0 (((((((w.setCell ⟨g, i * 7, none⟩ (.int .i64 z)).setCell ⟨g, i * 7 + 1, none⟩ (.int .i64 (z + 1))).setCell ⟨g, i * 7 + 2, none⟩ (.int .i64 (z + 1 + 1))).setCell ⟨g, i * 7 + 3, none⟩ (.int .i64 (z + 1 + 1 + 1))).setCell ⟨g, i * 7 + 4, none⟩ (.int .i64 (z + 1 + 1 + 1 + 1))).setCell ⟨g, i * 7 + 5, none⟩ (.bool ((z + 1 + 1 + 1 + 1 + 1) % 3 == 0))).setCell ⟨g, i * 7 + 6, none⟩ (.int .i64 (z + 1 + 1 + 1 + 1 + 1 + 1))) :=
  ((((((h.set hg _).set hg _).set hg _).set hg _).set hg _).set hg _).set hg _

set_option maxHeartbeats 2000000 in
theorem markE_any (v : Value) (n : Nat) (V : Nat → Nat → Value) (w : World) (k : Int) (h0 : SE w v n V) (hs : n ≤ 1048576) (hk0 : 0 ≤ k) (hk1 : k ≤ 1152921504606846976) :
    Calls Try.prog 48 #[v, .int .i64 k] w fun e w' => e = .returned (.int .i64 (k + 7 * n)) ∧ SE w' v n (fun i q => mV (k + 7 * i) q) ∧ Only v.ownBlock w w' := by
  obtain ⟨a, c, rfl, hk⟩ := h0
  go_enter Try.func48, Try.ntmps48
  go_wp2
  go_loopw [1, 5] (fun m i wr => ∃ j : Nat, j ≤ n ∧ i = .int .i64 j ∧ m = .int .i64 (k + 7 * j) ∧ Hid (∃ G, SE wr (.slice a n c) n G ∧ ∀ i, i < j → ∀ q, G i q = mV (k + 7 * i) q) ∧ Hid (Only (Value.slice a n c).ownBlock w wr)) (fun _ i _ => n - (intOf i).toNat)
  case atStart => exact ⟨0, Nat.zero_le _, rfl, by simp, ⟨V, ⟨a, c, rfl, hk⟩, fun i hi => absurd hi (Nat.not_lt_zero _)⟩, Only.refl _ _⟩
  obtain ⟨j, hjn, rfl, rfl, HM, HO⟩ := hrel
  clear hk
  by_cases hlt : j < n
  · obtain ⟨G, ⟨a', c', e0, hk⟩, hG⟩ := HM.out
    simp only [Value.slice.injEq, true_and] at e0
    obtain ⟨rfl, rfl⟩ := e0
    obtain ⟨g, rfl, hr⟩ := hk (by omega)
    have c0 := hr.cell hlt (j := 0) (by omega)
    have c1 := hr.cell hlt (j := 1) (by omega)
    have c2 := hr.cell hlt (j := 2) (by omega)
    have c3 := hr.cell hlt (j := 3) (by omega)
    have c4 := hr.cell hlt (j := 4) (by omega)
    have c5 := hr.cell hlt (j := 5) (by omega)
    have c6 := hr.cell hlt (j := 6) (by omega)
    rw [Nat.add_zero] at c0
    have f0 := hr.frozen (j * 7)
    have f1 := hr.frozen (j * 7 + 1)
    have f2 := hr.frozen (j * 7 + 2)
    have f3 := hr.frozen (j * 7 + 3)
    have f4 := hr.frozen (j * 7 + 4)
    have f5 := hr.frozen (j * 7 + 5)
    have f6 := hr.frozen (j * 7 + 6)
    have hlt' : (j : Int) < n := by omega
    have HM' : Hid (∃ G, SE (((((((wr.setCell ⟨g, j * 7, none⟩ (.int .i64 (k + 7 * (j : Int)))).setCell ⟨g, j * 7 + 1, none⟩ (.int .i64 ((k + 7 * (j : Int)) + 1))).setCell ⟨g, j * 7 + 2, none⟩ (.int .i64 ((k + 7 * (j : Int)) + 1 + 1))).setCell ⟨g, j * 7 + 3, none⟩ (.int .i64 ((k + 7 * (j : Int)) + 1 + 1 + 1))).setCell ⟨g, j * 7 + 4, none⟩ (.int .i64 ((k + 7 * (j : Int)) + 1 + 1 + 1 + 1))).setCell ⟨g, j * 7 + 5, none⟩ (.bool (((k + 7 * (j : Int)) + 1 + 1 + 1 + 1 + 1) % 3 == 0))).setCell ⟨g, j * 7 + 6, none⟩ (.int .i64 ((k + 7 * (j : Int)) + 1 + 1 + 1 + 1 + 1 + 1))) (.slice (some ⟨g, 0, none⟩) n c) n G ∧ ∀ i, i < j + 1 → ∀ q, G i q = mV (k + 7 * i) q) := by
      refine ⟨_, ⟨_, _, rfl, fun _ => ⟨g, rfl, hr.mark hlt (k + 7 * (j : Int))⟩⟩, fun i hi q => ?_⟩
      by_cases e : i = j
      · subst e; simp
      · simp only [if_neg e]
        exact hG i (by omega) q
    have HO' : Hid (Only (Value.slice (some ⟨g, 0, none⟩) n c).ownBlock w (((((((wr.setCell ⟨g, j * 7, none⟩ (.int .i64 (k + 7 * (j : Int)))).setCell ⟨g, j * 7 + 1, none⟩ (.int .i64 ((k + 7 * (j : Int)) + 1))).setCell ⟨g, j * 7 + 2, none⟩ (.int .i64 ((k + 7 * (j : Int)) + 1 + 1))).setCell ⟨g, j * 7 + 3, none⟩ (.int .i64 ((k + 7 * (j : Int)) + 1 + 1 + 1))).setCell ⟨g, j * 7 + 4, none⟩ (.int .i64 ((k + 7 * (j : Int)) + 1 + 1 + 1 + 1))).setCell ⟨g, j * 7 + 5, none⟩ (.bool (((k + 7 * (j : Int)) + 1 + 1 + 1 + 1 + 1) % 3 == 0))).setCell ⟨g, j * 7 + 6, none⟩ (.int .i64 ((k + 7 * (j : Int)) + 1 + 1 + 1 + 1 + 1 + 1)))) := only_seven HO.out rfl _
    generalize hz : k + 7 * (j : Int) = z at *
    have hz0 : 0 ≤ z := by omega
    have hz1 : z ≤ 2305843009213693952 := by omega
    have HZ : Hid (k + 7 * (j : Int) = z) := hz
    clear hk hr hG HM HO hz
    generalize G j 0 = g0 at *
    generalize G j 1 = g1 at *
    generalize G j 2 = g2 at *
    generalize G j 3 = g3 at *
    generalize G j 4 = g4 at *
    generalize G j 5 = g5 at *
    generalize G j 6 = g6 at *
    go_wp2
    go_roundw
    case rel => exact ⟨j + 1, by omega, by go_num, by have := HZ.out; congr 1; omega, HM', HO'⟩
    case measure => simp [intOf]; omega
  · have e : j = n := by omega
    subst e
    go_wp2
    go_ret
    refine ⟨rfl, ?_, HO.out⟩
    obtain ⟨G, ⟨a', c', e0, hk⟩, hG⟩ := HM.out
    refine ⟨a', c', e0, fun h0 => ?_⟩
    obtain ⟨g, e1, hr⟩ := hk h0
    exact ⟨g, e1, hr.congr fun i q hi _ => hG i hi q⟩

set_option maxHeartbeats 2000000 in
theorem heldE_any (v : Value) (n : Nat) (w : World) (k : Int) (h0 : SE w v n (fun i q => mV (k + 7 * i) q)) (hs : n ≤ 1048576) (hk0 : 0 ≤ k) (hk1 : k ≤ 1152921504606846976) :
    Calls Try.prog 50 #[v, .int .i64 k] w fun e w' => e = .returned (.int .i64 (k + 7 * n)) ∧ w' = w := by
  obtain ⟨a, c, rfl, hk⟩ := h0
  go_enter Try.func50, Try.ntmps50
  go_wp2
  go_loopw [1, 5] (fun m i wr => ∃ j : Nat, j ≤ n ∧ i = .int .i64 j ∧ m = .int .i64 (k + 7 * j) ∧ wr = w) (fun _ i _ => n - (intOf i).toNat)
  case atStart => exact ⟨0, Nat.zero_le _, rfl, by simp, rfl⟩
  obtain ⟨j, hjn, rfl, rfl, rfl⟩ := hrel
  by_cases hlt : j < n
  · obtain ⟨g, rfl, hr⟩ := hk (by omega)
    have c0 := hr.cell hlt (j := 0) (by omega)
    have c1 := hr.cell hlt (j := 1) (by omega)
    have c2 := hr.cell hlt (j := 2) (by omega)
    have c3 := hr.cell hlt (j := 3) (by omega)
    have c4 := hr.cell hlt (j := 4) (by omega)
    have c5 := hr.cell hlt (j := 5) (by omega)
    have c6 := hr.cell hlt (j := 6) (by omega)
    rw [Nat.add_zero] at c0
    simp only [mV] at c0 c1 c2 c3 c4 c5 c6
    have hlt' : (j : Int) < n := by omega
    generalize hz : k + 7 * (j : Int) = z at *
    have hz0 : 0 ≤ z := by omega
    have hz1 : z ≤ 2305843009213693952 := by omega
    have HZ : Hid (k + 7 * (j : Int) = z) := hz
    have n0 : (z != z) = false := by simp
    have n1 : (z + 1 != z + 1) = false := by simp
    have n2 : (z + 1 + 1 != z + 1 + 1) = false := by simp
    have n3 : (z + 1 + 1 + 1 != z + 1 + 1 + 1) = false := by simp
    have n4 : (z + 1 + 1 + 1 + 1 != z + 1 + 1 + 1 + 1) = false := by simp
    have n5 : (((z + 1 + 1 + 1 + 1 + 1) % 3 == 0) != ((z + 1 + 1 + 1 + 1 + 1) % 3 == 0)) = false := by simp
    have n6 : (z + 1 + 1 + 1 + 1 + 1 + 1 != z + 1 + 1 + 1 + 1 + 1 + 1) = false := by simp
    clear hk hr hz
    go_wp2
    go_roundw
    case rel => exact ⟨j + 1, by omega, by go_num, by have := HZ.out; congr 1; omega, trivial⟩
    case measure => simp [intOf]; omega
  · have e : j = n := by omega
    subst e
    go_wp2
    go_ret
    exact ⟨rfl, rfl⟩
end Go.Proofs.Ytmpkjlknnicdaaa
