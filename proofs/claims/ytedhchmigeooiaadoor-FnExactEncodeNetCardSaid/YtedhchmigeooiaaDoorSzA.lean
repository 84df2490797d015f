import Derived.Test.YtedhchmigeooiaaDoorBase
namespace Go.Proofs.YtedhchmigeooiaaDoor
open Go.RowKit
set_option linter.unusedVariables false

theorem szI_bd (left : Int) (n : Nat) (h : 0 ≤ left) : -1 ≤ szI left n ∧ szI left n ≤ left ∧ (0 ≤ szI left n → szI left n + n = left) := by unfold szI; split <;> omega

set_option maxHeartbeats 400000 in
theorem szWay_any (B : Nat) (id : Int) (both : Bool) (p q : Value) (ns ws : List Int) (left : Int) (w : World) (h0 : HInts B w p ns) (h1 : HInts B w q ws) (hl0 : 0 ≤ left) (hl1 : left ≤ 1048576) :
    Calls Tryd.prog 37 #[.agg #[.int .i64 id, .bool both, p, q], .int .i64 left] w fun e w' => (∃ r : Int, e = .returned (.int .i64 r) ∧ (r < 0 ∨ (0 ≤ r ∧ r + ns.length + ws.length = left))) ∧ Nx w w' := by
  obtain ⟨a, cap, rfl, hn, _⟩ := h0
  obtain ⟨a', cap', rfl, hn', _⟩ := h1
  have b1 := szI_bd left ns.length hl0
  generalize ns.length = n at *
  generalize ws.length = n' at *
  generalize hr1 : szI left n = r1 at *
  have HR1 : Hid (szI left n = r1) := hr1
  clear hr1
  obtain ⟨b1, b2, b3⟩ := b1
  have HB3 : Hid (0 ≤ r1 → r1 + n = left) := b3
  clear b3
  go_enter Tryd.func37, Tryd.ntmps37
  go_wp2_with fail
  refine (szInts_any _ _ _ _ _ hn hl0 hl1).mono ?_
  rintro e w1 ⟨rfl, rfl⟩
  rw [HR1.out]
  by_cases hneg : r1 < 0
  · go_wp2
    go_ret
    exact ⟨⟨-1, rfl, Or.inl (by omega)⟩, box1 _ _⟩
  · have hpos : 0 ≤ r1 := by omega
    have hle : r1 ≤ 1048576 := by omega
    have b2' := szI_bd r1 n' hpos
    generalize hr2 : szI r1 n' = r2 at *
    have HR2 : Hid (szI r1 n' = r2) := hr2
    clear hr2
    obtain ⟨d1, d2, d3⟩ := b2'
    have HD3 : Hid (0 ≤ r2 → r2 + n' = r1) := d3
    clear d3
    go_wp2_with fail
    refine (szInts_any _ _ _ _ _ hn' hpos hle).mono ?_
    rintro e w1 ⟨rfl, rfl⟩
    rw [HR2.out]
    by_cases hneg2 : r2 < 0
    · go_wp2
      go_ret
      exact ⟨⟨-1, rfl, Or.inl (by omega)⟩, box1 _ _⟩
    · go_wp2
      go_ret
      exact ⟨⟨r2, rfl, Or.inr ⟨by omega, by have := HB3.out hpos; have := HD3.out (by omega); omega⟩⟩, box1 _ _⟩

set_option maxHeartbeats 400000 in
theorem szRel_any (B : Nat) (x : Rl) (p : Value) (left : Int) (w : World) (h0 : HInts B w p x.ways) (hl0 : 0 ≤ left) (hl1 : left ≤ 1048576) :
    Calls Tryd.prog 38 #[.agg #[.int .i64 x.id, .bool x.only, .int .i64 x.frm, .int .i64 x.to, .bool x.via, .int .i64 x.node, p], .int .i64 left] w fun e w' => (∃ r : Int, e = .returned (.int .i64 r) ∧ (r < 0 ∨ (0 ≤ r ∧ r + x.ways.length = left))) ∧ Nx w w' := by
  obtain ⟨a, cap, rfl, hn, _⟩ := h0
  have b1 := szI_bd left x.ways.length hl0
  generalize x.ways.length = n at *
  generalize hr1 : szI left n = r1 at *
  have HR1 : Hid (szI left n = r1) := hr1
  clear hr1
  obtain ⟨b1, b2, b3⟩ := b1
  have HB3 : Hid (0 ≤ r1 → r1 + n = left) := b3
  clear b3
  go_enter Tryd.func38, Tryd.ntmps38
  go_wp2_with fail
  refine (szInts_any _ _ _ _ _ hn hl0 hl1).mono ?_
  rintro e w1 ⟨rfl, rfl⟩
  rw [HR1.out]
  by_cases hneg : r1 < 0
  · go_wp2
    go_ret
    exact ⟨⟨-1, rfl, Or.inl (by omega)⟩, box1 _ _⟩
  · go_wp2
    go_ret
    exact ⟨⟨r1, rfl, Or.inr ⟨by omega, by have := HB3.out (by omega); omega⟩⟩, box1 _ _⟩

/-- how long the weights of the first k ways are together -/
def wsum (xs : List Wy) : Nat → Nat
  | 0 => 0
  | k + 1 => wsum xs k + (wat xs k).weights.length

def WFit (xs : List Wy) (k : Nat) (used : Int) : Prop := (∀ i, i < k → (wat xs i).nodes.length ≤ 1048576 ∧ (wat xs i).weights.length ≤ 1048576) ∧ (wsum xs k : Int) ≤ used
theorem WFit.zero (xs : List Wy) (used : Int) (h : 0 ≤ used) : WFit xs 0 used := ⟨fun i hi => absurd hi (Nat.not_lt_zero _), by simpa [wsum] using h⟩
theorem WFit.succ {xs : List Wy} {k : Nat} {left l r : Int} (h : WFit xs k (left - l)) (hl : l ≤ 1048576) (hr : 0 ≤ r) (e : r + (wat xs k).nodes.length + (wat xs k).weights.length = l) : WFit xs (k + 1) (left - r) := by
  refine ⟨fun i hi => ?_, ?_⟩
  · rcases Nat.lt_succ_iff_lt_or_eq.1 hi with h1 | rfl
    · exact h.1 i h1
    · omega
  · have := h.2; simp only [wsum]; omega

set_option maxHeartbeats 400000 in
theorem szWays_any (B : Nat) (v : Value) (zs : List Wy) (left : Int) (w : World) (h0 : HWays B w v zs) (hl0 : 0 ≤ left) (hl1 : left ≤ 1048576) :
    Calls Tryd.prog 14 #[v, .int .i64 left] w fun e w' => (∃ r : Int, e = .returned (.int .i64 r) ∧ (r < 0 ∨ (0 ≤ r ∧ r ≤ left ∧ zs.length ≤ 1048576 ∧ WFit zs zs.length 1048576))) ∧ Nx w w' := by
  obtain ⟨a, cap, rfl, hn, hk⟩ := h0
  unfold maxLen at hn
  generalize hz : zs.length = n at *
  have HZ : Hid (zs.length = n) := hz
  clear hz
  by_cases hneg : left - n < 0
  · go_enter Tryd.func14, Tryd.ntmps14
    go_wp2
    go_ret
    exact ⟨⟨-1, rfl, Or.inl (by omega)⟩, Nx.refl _⟩
  · have hnn : (n : Int) ≤ left := by omega
    go_enter Tryd.func14, Tryd.ntmps14
    go_wp2
    go_loopw [1, 5] (fun l i wr => ∃ (k : Nat) (lf : Int), k ≤ n ∧ i = .int .i64 k ∧ l = .int .i64 lf ∧ 0 ≤ lf ∧ lf ≤ left ∧ Hid (WFit zs k (left - lf)) ∧ Hid (Nx w wr)) (fun _ i _ => n - (intOf i).toNat)
    case atStart => exact ⟨0, left - n, Nat.zero_le _, rfl, rfl, by omega, by omega, WFit.zero _ _ (by omega), Nx.refl _⟩
    case round =>
      obtain ⟨k, lf, hkn, rfl, rfl, hf0, hf1, HW, HN⟩ := hrel
      by_cases hlt : k < n
      · obtain ⟨b, off, rfl, hB, hb, hc⟩ := hk (by omega)
        obtain ⟨p1, p2, a0, a1, a2, a3, n1, n2⟩ := hc k hlt
        have a0 := cell_next HN.out hb a0
        have a1 := cell_next HN.out hb a1
        have a2 := cell_next HN.out hb a2
        have a3 := cell_next HN.out hb a3
        have hlt' : (k : Int) < n := by omega
        clear hc hk
        go_wp2_with fail
        refine (szWay_any B _ _ _ _ _ _ _ _ (by exact n1.next HN.out) (by exact n2.next HN.out) hf0 (by omega)).mono ?_
        rintro e w1 ⟨⟨r, rfl, hr⟩, hx⟩
        have HX : Hid (Nx wr w1) := hx
        clear hx
        rcases hr with hr | ⟨hr, he⟩
        · go_wp2
          go_ret
          exact ⟨⟨-1, rfl, Or.inl (by omega)⟩, HN.out.trans HX.out⟩
        · have HE : Hid (r + (wat zs k).nodes.length + (wat zs k).weights.length = lf) := he
          have hrl : r ≤ left := by omega
          clear he
          go_wp2
          go_roundw
          case rel => exact ⟨k + 1, r, by omega, by go_num, rfl, hr, hrl, HW.out.succ (by omega) hr HE.out, HN.out.trans HX.out⟩
          case measure => simp [intOf]; omega
      · go_wp2
        go_ret
        have e : k = n := by omega
        subst e
        exact ⟨⟨lf, rfl, Or.inr ⟨hf0, hf1, by omega, HW.out.1, by have := HW.out.2; omega⟩⟩, HN.out⟩

set_option maxHeartbeats 400000 in
theorem szRels_any (B : Nat) (v : Value) (zs : List Rl) (left : Int) (w : World) (h0 : HRels B w v zs) (hl0 : 0 ≤ left) (hl1 : left ≤ 1048576) :
    Calls Tryd.prog 15 #[v, .int .i64 left] w fun e w' => (∃ r : Int, e = .returned (.int .i64 r) ∧ (r < 0 ∨ (0 ≤ r ∧ r ≤ left ∧ zs.length ≤ 1048576 ∧ ∀ i, i < zs.length → (rat zs i).ways.length ≤ 1048576))) ∧ Nx w w' := by
  obtain ⟨a, cap, rfl, hn, hk⟩ := h0
  unfold maxLen at hn
  generalize hz : zs.length = n at *
  have HZ : Hid (zs.length = n) := hz
  clear hz
  by_cases hneg : left - n < 0
  · go_enter Tryd.func15, Tryd.ntmps15
    go_wp2
    go_ret
    exact ⟨⟨-1, rfl, Or.inl (by omega)⟩, Nx.refl _⟩
  · have hnn : (n : Int) ≤ left := by omega
    go_enter Tryd.func15, Tryd.ntmps15
    go_wp2
    go_loopw [1, 5] (fun l i wr => ∃ (k : Nat) (lf : Int), k ≤ n ∧ i = .int .i64 k ∧ l = .int .i64 lf ∧ 0 ≤ lf ∧ lf ≤ left ∧ Hid (∀ i, i < k → (rat zs i).ways.length ≤ 1048576) ∧ Hid (Nx w wr)) (fun _ i _ => n - (intOf i).toNat)
    case atStart => exact ⟨0, left - n, Nat.zero_le _, rfl, rfl, by omega, by omega, fun i hi => absurd hi (Nat.not_lt_zero _), Nx.refl _⟩
    case round =>
      obtain ⟨k, lf, hkn, rfl, rfl, hf0, hf1, HW, HN⟩ := hrel
      by_cases hlt : k < n
      · obtain ⟨b, off, rfl, hB, hb, hc⟩ := hk (by omega)
        obtain ⟨p1, a0, a1, a2, a3, a4, a5, a6, n1⟩ := hc k hlt
        have a0 := cell_next HN.out hb a0
        have a1 := cell_next HN.out hb a1
        have a2 := cell_next HN.out hb a2
        have a3 := cell_next HN.out hb a3
        have a4 := cell_next HN.out hb a4
        have a5 := cell_next HN.out hb a5
        have a6 := cell_next HN.out hb a6
        have hlt' : (k : Int) < n := by omega
        clear hc hk
        go_wp2_with fail
        refine (szRel_any B (rat zs k) _ _ _ (by exact n1.next HN.out) hf0 (by omega)).mono ?_
        rintro e w1 ⟨⟨r, rfl, hr⟩, hx⟩
        have HX : Hid (Nx wr w1) := hx
        clear hx
        rcases hr with hr | ⟨hr, he⟩
        · go_wp2
          go_ret
          exact ⟨⟨-1, rfl, Or.inl (by omega)⟩, HN.out.trans HX.out⟩
        · have HE : Hid (∀ i, i < k + 1 → (rat zs i).ways.length ≤ 1048576) := fun i hi => by
            rcases Nat.lt_succ_iff_lt_or_eq.1 hi with h1 | rfl
            · exact HW.out i h1
            · omega
          have hrl : r ≤ left := by omega
          clear he
          go_wp2
          go_roundw
          case rel => exact ⟨k + 1, r, by omega, by go_num, rfl, hr, hrl, HE, HN.out.trans HX.out⟩
          case measure => simp [intOf]; omega
      · go_wp2
        go_ret
        have e : k = n := by omega
        subst e
        exact ⟨⟨lf, rfl, Or.inr ⟨hf0, hf1, by omega, HW.out⟩⟩, HN.out⟩
end Go.Proofs.YtedhchmigeooiaaDoor
