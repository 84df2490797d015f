import Derived.Test.YtedhchmigeooiaaDoorImI
import Derived.Test.YtedhchmigeooiaaDoorNets
namespace Go.Proofs.YtedhchmigeooiaaDoor
open Go.RowKit
set_option linter.unusedVariables false

theorem HWays.slice {B : Nat} {w : World} {v : Value} {zs : List Wy} (h : HWays B w v zs) : ∃ a c, v = .slice a zs.length c ∧ zs.length ≤ maxLen := by
  obtain ⟨a, c, h1, h2, _⟩ := h; exact ⟨a, c, h1, h2⟩
theorem HRels.slice {B : Nat} {w : World} {v : Value} {zs : List Rl} (h : HRels B w v zs) : ∃ a c, v = .slice a zs.length c ∧ zs.length ≤ maxLen := by
  obtain ⟨a, c, h1, h2, _⟩ := h; exact ⟨a, c, h1, h2⟩

def counts (N : Nt) : Bool := decide (N.nodes.length ≤ 2000) && (decide (N.ways.length ≤ 2000) && (decide (edTo N.ways N.ways.length ≤ 4000) && (decide (N.rels.length ≤ 1000) && decide (N.turns.length ≤ 2000))))

set_option maxHeartbeats 1000000 in
theorem withinCounts_any (B : Nat) (v0 v1 v2 v3 : Value) (u : Int) (N : Nt) (w : World) (h0 : HNet B w v0 v1 v2 v3 N) (hs : wsum N.ways N.ways.length ≤ 1048576) :
    Calls Tryd.prog 47 #[.agg #[v0, v1, v2, v3, .int .i64 u]] w fun e w' => e = .returned (.bool (counts N)) ∧ Nx w w' := by
  obtain ⟨i0, i1, i2, i3⟩ := h0
  obtain ⟨a0, c0, rfl, hn0⟩ := i0.slice
  obtain ⟨a1, c1, e1, hn1⟩ := i1.slice
  obtain ⟨a2, c2, rfl, hn2⟩ := i2.slice
  obtain ⟨a3, c3, rfl, hn3⟩ := i3.slice
  subst e1
  have ce := fun wq (h : HWays B wq (.slice a1 N.ways.length c1) N.ways) => countEdges_any B (.slice a0 N.nodes.length c0) (.slice a1 N.ways.length c1) (.slice a2 N.rels.length c2) (.slice a3 N.turns.length c3) u N.ways wq h hs
  have CE : Hid (∀ wq, HWays B wq (.slice a1 N.ways.length c1) N.ways → Calls Tryd.prog 58 #[.agg #[.slice a0 N.nodes.length c0, .slice a1 N.ways.length c1, .slice a2 N.rels.length c2, .slice a3 N.turns.length c3, .int .i64 u]] wq fun e w' => e = .returned (.int .i64 (edTo N.ways N.ways.length : Nat)) ∧ Nx wq w') := ce
  have HC : Hid (counts N = (decide (N.nodes.length ≤ 2000) && (decide (N.ways.length ≤ 2000) && (decide (edTo N.ways N.ways.length ≤ 4000) && (decide (N.rels.length ≤ 1000) && decide (N.turns.length ≤ 2000)))))) := rfl
  have I1 : Hid (∀ wq, Nx w wq → HWays B wq (.slice a1 N.ways.length c1) N.ways) := fun wq h => i1.keep (h.keeps B)
  clear ce hs i0 i1 i2 i3 hn0 hn1 hn2 hn3
  generalize edTo N.ways N.ways.length = ed at *
  generalize counts N = cn at *
  generalize N.nodes.length = m0 at *
  generalize hw1 : N.ways.length = m1 at *
  generalize N.rels.length = m2 at *
  generalize N.turns.length = m3 at *
  clear hw1
  by_cases h1 : m0 ≤ 2000
  case neg =>
    have d1 : decide ((m0 : Int) ≤ 2000) = false := by simp; omega
    have HF : Hid (false = cn) := by unfold Hid; rw [HC.out]; simp [h1]
    clear HC
    go_enter Tryd.func47, Tryd.ntmps47
    go_wp2
    go_ret
    exact ⟨ret_bool HF.out, box1 _ _⟩
  have d1 : decide ((m0 : Int) ≤ 2000) = true := by simp; omega
  by_cases h2 : m1 ≤ 2000
  case neg =>
    have d2 : decide ((m1 : Int) ≤ 2000) = false := by simp; omega
    have HF : Hid (false = cn) := by unfold Hid; rw [HC.out]; simp [h2]
    clear HC
    go_enter Tryd.func47, Tryd.ntmps47
    go_wp2
    go_ret
    exact ⟨ret_bool HF.out, box1 _ _⟩
  have d2 : decide ((m1 : Int) ≤ 2000) = true := by simp; omega
  by_cases h3 : ed ≤ 4000
  case neg =>
    have d3 : decide ((ed : Int) ≤ 4000) = false := by simp; omega
    have HF : Hid (false = cn) := by unfold Hid; rw [HC.out]; simp [h3]
    clear HC
    go_enter Tryd.func47, Tryd.ntmps47
    go_wp2_with (go_at_call 58; refine (CE.out _ (by exact I1.out _ (box1 _ _))).mono ?_; rintro e w1 ⟨rfl, hx⟩)
    go_ret
    exact ⟨ret_bool HF.out, (box1 _ _).trans hx⟩
  have d3 : decide ((ed : Int) ≤ 4000) = true := by simp; omega
  have HF : Hid ((decide ((m2 : Int) ≤ 1000) && decide ((m3 : Int) ≤ 2000)) = cn) := by
    unfold Hid; rw [HC.out]
    rw [show decide ((m2 : Int) ≤ 1000) = decide (m2 ≤ 1000) from by simp; omega, show decide ((m3 : Int) ≤ 2000) = decide (m3 ≤ 2000) from by simp; omega]
    simp [h1, h2, h3]
  clear HC
  by_cases h4 : m2 ≤ 1000
  · have d4 : decide ((m2 : Int) ≤ 1000) = true := by simp; omega
    go_enter Tryd.func47, Tryd.ntmps47
    go_wp2_with fail
    refine (CE.out _ (by exact I1.out _ (box1 _ _))).mono ?_
    rintro e w1 ⟨rfl, hx⟩
    have BA := (Blk.new w _ 35 _ rfl).next hx
    have k0 := BA.cell (i := 2) rfl
    have k1 := BA.cell (i := 3) rfl
    have HX : Hid (Nx w w1) := (box1 _ _).trans hx
    clear hx BA
    go_wp2
    go_ret
    exact ⟨ret_bool (by have := HF.out; rw [d4] at this; simpa using this), HX.out⟩
  · have d4 : decide ((m2 : Int) ≤ 1000) = false := by simp; omega
    go_enter Tryd.func47, Tryd.ntmps47
    go_wp2_with fail
    refine (CE.out _ (by exact I1.out _ (box1 _ _))).mono ?_
    rintro e w1 ⟨rfl, hx⟩
    have BA := (Blk.new w _ 35 _ rfl).next hx
    have k0 := BA.cell (i := 2) rfl
    have k1 := BA.cell (i := 3) rfl
    have HX : Hid (Nx w w1) := (box1 _ _).trans hx
    clear hx BA
    go_wp2
    go_ret
    exact ⟨ret_bool (by have := HF.out; rw [d4] at this; simpa using this), HX.out⟩

set_option maxHeartbeats 1000000 in
theorem validNodes_any (B : Nat) (v0 v1 v2 v3 : Value) (u : Int) (zs : List Int) (w : World) (h0 : HInts B w v0 zs) :
    Calls Tryd.prog 49 #[.agg #[v0, v1, v2, v3, .int .i64 u]] w fun e w' => e = .returned (.bool (ascI zs && allIn zs)) ∧ Nx w w' := by
  cases ha : ascI zs
  · have HA : Hid (ascI zs = false) := ha
    clear ha
    go_enter Tryd.func49, Tryd.ntmps49
    go_wp2_with fail
    refine (ascI_any B _ zs _ (h0.next (box1 _ _))).mono ?_
    rw [HA.out]
    rintro e w1 ⟨rfl, hx⟩
    have HX : Hid (Nx w w1) := (box1 _ _).trans hx
    clear hx
    go_wp2
    go_ret
    exact ⟨rfl, HX.out⟩
  · have HA : Hid (ascI zs = true) := ha
    clear ha
    go_enter Tryd.func49, Tryd.ntmps49
    go_wp2_with fail
    refine (ascI_any B _ zs _ (h0.next (box1 _ _))).mono ?_
    rw [HA.out]
    rintro e w1 ⟨rfl, hx⟩
    have BA := (Blk.new w _ 35 _ rfl).next hx
    have k0 := BA.cell (i := 0) rfl
    have HX : Hid (Nx w w1) := (box1 _ _).trans hx
    clear hx BA
    go_wp2_with (go_at_call 61; refine (containsFunc_any B _ zs _ (by exact h0.next HX.out)).mono ?_; rintro e w2 ⟨rfl, rfl⟩)
    go_ret
    exact ⟨ret_bool (by simp), HX.out⟩
end Go.Proofs.YtedhchmigeooiaaDoor
