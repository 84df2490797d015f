import Derived.Test.YtdjmlpgdaanipaaHD
namespace Go.Proofs.Ytdjmlpgdaanipaa
open Go.RowKit
set_option linter.unusedVariables false
set_option maxRecDepth 100000

set_option maxHeartbeats 1000000 in
theorem byEdge_any (B gb x y : Nat) (v0 v1 v2 v3 v4 v5 v6 : Value) (zs : List Int) (w : World) (hb : Blk w gb #[v0, v1, v2, v3, v4, v5, v6]) (h0 : HInts B w v0 zs) (hx : x < zs.length) (hy : y < zs.length) :
    Calls Try.prog 42 #[.int .i64 x, .int .i64 y, .pointer (some ⟨gb, 0, none⟩)] w fun e w' => e = .returned (.int .i64 (cmpI (iat zs x) (iat zs y))) ∧ Nx w w' := by
  obtain ⟨a, cap, rfl, hn, hk⟩ := h0
  unfold maxLen at hn
  generalize zs.length = n at *
  obtain ⟨b, off, rfl, _, hbb, hc⟩ := hk (by omega)
  have c0 := hc x hx
  have c1 := hc y hy
  have k0 : w.cell? ⟨gb, 0, none⟩ = some (.slice (some ⟨b, off, none⟩) n cap) := hb.cell (i := 0) rfl
  have hx' : (x : Int) < n := by omega
  have hy' : (y : Int) < n := by omega
  clear hc hk hb
  go_enter Try.func42, Try.ntmps42
  go_wp2
  go_region_with (go_at_call 43; refine (cmp_any _ _ _).mono ?_; rintro e w' ⟨rfl, rfl⟩)
  all_goals go_wp2
  all_goals
    go_ret
    exact ⟨rfl, ⟨rfl, rfl, rfl, Nat.le_refl _, fun _ _ => rfl⟩⟩

def ltG (G : Gr) (zs : List Int) (i j : Nat) : Bool := decide (iat G.eo (iat zs i).toNat < iat G.eo (iat zs j).toNat)

set_option maxHeartbeats 1000000 in
theorem ascG_any (B B' gb : Nat) (v v0 v1 v2 v3 v4 v5 v6 : Value) (G : Gr) (zs : List Int) (w : World) (h0 : HInts B w v zs) (hb : Blk w gb #[v0, v1, v2, v3, v4, v5, v6]) (he : HInts B' w v0 G.eo) (hz : ∀ i, i < zs.length → 0 ≤ iat zs i ∧ iat zs i < G.eo.length) :
    Calls Try.prog 44 #[v, (.func (.func 42) #[] #[.pointer (some ⟨gb, 0, none⟩)])] w fun e w' => e = .returned (.bool (ascN zs.length (ltG G zs))) ∧ Nx w w' := by
  obtain ⟨a, cap, rfl, hn, hk⟩ := h0
  unfold maxLen at hn
  have HB : Hid (Blk w gb #[v0, v1, v2, v3, v4, v5, v6]) := hb
  have HE : Hid (HInts B' w v0 G.eo) := he
  have HI : Hid (∀ i, i < zs.length → ∃ u : Nat, iat zs i = (u : Int) ∧ u < G.eo.length) := fun i hi => ⟨(iat zs i).toNat, by have := hz i hi; omega, by have := hz i hi; omega⟩
  clear hb he hz
  generalize hz : zs.length = n at *
  clear hz
  go_enter Try.func44, Try.ntmps44
  go_wp2
  go_loopw [5] (fun i wr => ∃ j : Nat, (j + 1 ≤ n ∨ j = 0) ∧ i = .int .i64 ((j : Int) + 1) ∧ Hid (allTo (ascAt (ltG G zs)) (j + 1)) ∧ Nx w wr) (fun i _ => n - (intOf i).toNat)
  case atStart => exact ⟨0, Or.inr rfl, rfl, ascAt_one _, Nx.refl _⟩
  case round =>
    obtain ⟨j, hj, rfl, hrel, hnx⟩ := hrel
    have HN : Hid (Nx w wr) := hnx
    clear hnx
    by_cases hlt : j + 1 < n
    · obtain ⟨b, off, rfl, hB, hb, hc⟩ := hk (by omega)
      have hc0' : w.cell? ⟨b, off + j, none⟩ = some (.int .i64 (iat zs j)) := hc j (by omega)
      have hc1' : w.cell? ⟨b, off + (j + 1), none⟩ = some (.int .i64 (iat zs (j + 1))) := hc (j + 1) hlt
      obtain ⟨x, hx, hxn⟩ := HI.out j (by omega)
      obtain ⟨y, hy, hyn⟩ := HI.out (j + 1) hlt
      have HLT : Hid (ltG G zs j (j + 1) = decide (iat G.eo x < iat G.eo y)) := by unfold Hid ltG; rw [hx, hy, Int.toNat_natCast, Int.toNat_natCast]
      rw [hx] at hc0'
      rw [hy] at hc1'
      have hc0 := cell_next HN.out hb hc0'
      have hc1 := cell_next HN.out hb hc1'
      have hlt' : (j : Int) + 1 < n := by omega
      have hlj : (j : Int) < n := by omega
      have hwj := wrapJ j (by omega)
      have HXN : Hid (x < G.eo.length) := hxn
      have HYN : Hid (y < G.eo.length) := hyn
      have CG : Hid (Calls Try.prog 42 #[.int .i64 x, .int .i64 y, .pointer (some ⟨gb, 0, none⟩)] wr.drew fun e w' => e = .returned (.int .i64 (cmpI (iat G.eo x) (iat G.eo y))) ∧ Nx wr.drew w') :=
        byEdge_any B' gb x y v0 v1 v2 v3 v4 v5 v6 G.eo wr.drew (HB.out.next HN.out.drew) (HE.out.next HN.out.drew) hxn hyn
      clear hc hk hc0' hc1' hx hy hxn hyn
      by_cases hab : iat G.eo x < iat G.eo y
      · have hd : decide (0 ≤ cmpI (iat G.eo x) (iat G.eo y)) = false := by rw [cmpI_nonneg]; simp [hab]
        have HT : Hid (ascAt (ltG G zs) (j + 1) = true) := by unfold Hid; rw [ascAt_succ, HLT.out]; simp [hab]
        clear hab
        go_wp2
        go_region_with (go_at_call 42; refine CG.out.mono ?_; rintro e w' ⟨rfl, hx⟩)
        all_goals go_wp2
        all_goals
          go_roundw
          case rel => exact ⟨j + 1, by omega, by go_num, allTo_succ hrel HT.out, HN.out.drew.trans hx⟩
          case measure => simp [intOf]; omega
      · have hd : decide (0 ≤ cmpI (iat G.eo x) (iat G.eo y)) = true := by rw [cmpI_nonneg]; simp [hab]
        have HT : Hid (ascAt (ltG G zs) (j + 1) = false) := by unfold Hid; rw [ascAt_succ, HLT.out]; simp [hab]
        clear hab
        go_wp2
        go_region_with (go_at_call 42; refine CG.out.mono ?_; rintro e w' ⟨rfl, hx⟩)
        all_goals go_wp2
        all_goals
          go_ret
          exact ⟨ret_bool (by unfold ascN; rw [allN_no hlt HT.out]), HN.out.drew.trans hx⟩
    · have hge : (n : Int) ≤ (j : Int) + 1 := by omega
      go_wp2
      go_ret
      exact ⟨ret_bool (by unfold ascN; rw [allN_yes (by omega) hrel]), HN.out⟩

theorem allN_iff (n : Nat) (p : Nat → Bool) : allN n p = true ↔ ∀ i, i < n → p i = true :=
  ⟨fun h i hi => allN_at h hi, fun h => allN_yes (Nat.le_refl _) (fun i hi => h i hi)⟩
/-- the targets ascend exactly if the vertex is in order -/
theorem seg_ok {G : Gr} (h : TW G) {v : Nat} (hv : v < G.eo.length) : ascN (fsA G (v + 1) - fsA G v) (ltG G (seg G.tt (fsA G v) (fsA G (v + 1)))) = oOk G v := by
  have E0 := fsA_eq h (v := v) (by omega)
  have E1 := fsA_eq h (v := v + 1) (by omega)
  have E2 := fsA_le h hv
  unfold oOk ascN
  rw [E1.1, Int.toNat_natCast, Bool.eq_iff_iff, allN_iff, allN_iff]
  generalize hp : fsA G v = p at *
  generalize fsA G (v + 1) = q at *
  constructor
  · intro H k hk
    unfold oAt
    by_cases e : k ≤ p
    · have : ((k : Int) ≤ iat G.fi v) := by omega
      simp [this]
    · have := H (k - p) (by omega)
      obtain ⟨d, hd⟩ : ∃ d, k - p = d + 1 := ⟨k - p - 1, by omega⟩
      rw [hd, ascAt_succ] at this
      unfold ltG at this
      rw [seg_at (by omega), seg_at (by omega), decide_eq_true_eq] at this
      have e1 : p + d = k - 1 := by omega
      have e2 : p + (d + 1) = k := by omega
      rw [e1, e2] at this
      unfold goal
      simp [this]
  · intro H i hi
    cases i with
    | zero => rfl
    | succ i =>
      rw [ascAt_succ]
      unfold ltG
      rw [seg_at (by omega), seg_at (by omega), decide_eq_true_eq]
      have := H (p + (i + 1)) (by omega)
      unfold oAt goal at this
      rw [Bool.or_eq_true, decide_eq_true_eq, decide_eq_true_eq] at this
      rcases this with h1 | h1
      · omega
      · have e : p + (i + 1) - 1 = p + i := by omega
        rw [e] at h1
        exact h1

set_option maxHeartbeats 4000000 in
theorem validOrder_any (B : Nat) (v0 v1 v2 v3 v4 v5 v6 : Value) (G : Gr) (w : World) (h0 : HG B w v0 v1 v2 v3 v4 v5 v6 G) (hT : TW G) :
    Calls Try.prog 30 #[.agg #[v0, v1, v2, v3, v4, v5, v6]] w fun e w' => e = .returned (.bool (allN G.eo.length (oOk G))) ∧ Nx w w' := by
  have HT : Hid (TW G) := hT
  clear hT
  have HH : Hid (HG B w v0 v1 v2 v3 v4 v5 v6 G) := h0
  obtain ⟨⟨a0, c0, rfl, hn0, hk0⟩, ⟨a1, c1, rfl, hn1, hk1⟩, ⟨a2, c2, rfl, hn2, hk2⟩, ⟨a3, c3, rfl, hn3, hk3⟩, ⟨a4, c4, rfl, hn4, hk4⟩, ⟨a5, c5, rfl, hn5, hk5⟩, ⟨a6, c6, rfl, hn6, hk6⟩⟩ := h0
  have HM0 : Hid (G.eo.length ≤ maxLen) := hn0
  have HM5 : Hid (G.sr.length ≤ maxLen) := hn5
  unfold maxLen at hn0 hn1 hn2 hn3 hn4 hn5 hn6
  generalize hz0 : G.eo.length = n0 at *
  have Z0 : Hid (G.eo.length = n0) := hz0
  clear hz0
  generalize hz1 : G.so.length = n1 at *
  have Z1 : Hid (G.so.length = n1) := hz1
  clear hz1
  generalize hz2 : G.fi.length = n2 at *
  have Z2 : Hid (G.fi.length = n2) := hz2
  clear hz2
  generalize hz3 : G.tt.length = n3 at *
  have Z3 : Hid (G.tt.length = n3) := hz3
  clear hz3
  generalize hz4 : G.co.length = n4 at *
  have Z4 : Hid (G.co.length = n4) := hz4
  clear hz4
  generalize hz5 : G.sr.length = n5 at *
  have Z5 : Hid (G.sr.length = n5) := hz5
  clear hz5
  generalize hz6 : G.we.length = n6 at *
  have Z6 : Hid (G.we.length = n6) := hz6
  clear hz6
  have HWB : Hid (Nx w (w.alloc (.cells #[.slice a0 n0 c0, .slice a1 n1 c1, .slice a2 n2 c2, .slice a3 n3 c3, .slice a4 n4 c4, .slice a5 n5 c5, .slice a6 n6 c6] 27))) := box1 _ _
  go_enter Try.func30, Try.ntmps30
  go_wp2
  go_loopw [9] (fun i wr => ∃ k : Nat, k ≤ n0 ∧ i = .int .i64 k ∧ Hid (allTo (oOk G) k) ∧ Hid (Nx (w.alloc (.cells #[.slice a0 n0 c0, .slice a1 n1 c1, .slice a2 n2 c2, .slice a3 n3 c3, .slice a4 n4 c4, .slice a5 n5 c5, .slice a6 n6 c6] 27)) wr)) (fun i _ => n0 - (intOf i).toNat)
  case atStart => exact ⟨0, Nat.zero_le _, rfl, allTo_zero _, Nx.refl _⟩
  obtain ⟨k, hkn, rfl, HA, HN⟩ := hrel
  have BA := (Blk.new w #[.slice a0 n0 c0, .slice a1 n1 c1, .slice a2 n2 c2, .slice a3 n3 c3, .slice a4 n4 c4, .slice a5 n5 c5, .slice a6 n6 c6] 27 _ rfl).next HN.out
  have HW : Hid (Nx w wr) := HWB.out.trans HN.out
  have HBA : Hid (Blk wr w.heap.size #[.slice a0 n0 c0, .slice a1 n1 c1, .slice a2 n2 c2, .slice a3 n3 c3, .slice a4 n4 c4, .slice a5 n5 c5, .slice a6 n6 c6]) := BA
  by_cases hlt : k < n0
  · have hlt' : (k : Int) < n0 := by omega
    have k0 := BA.cell (i := 0) rfl
    have k1 := BA.cell (i := 1) rfl
    have k2 := BA.cell (i := 2) rfl
    have k3 := BA.cell (i := 3) rfl
    have k4 := BA.cell (i := 4) rfl
    have k5 := BA.cell (i := 5) rfl
    have k6 := BA.cell (i := 6) rfl
    clear BA hk0 hk1 hk2 hk3 hk4 hk5 hk6
    go_wp2_with fail
    refine (targets_any B _ _ _ _ _ _ _ G k _ (by exact HH.out.next HW.out) HT.out (by rw [Z0.out]; exact hlt)).mono ?_
    rintro e w1 ⟨⟨ta, tn, tc, rfl, hS⟩, hx⟩
    have HW1 : Hid (Nx w w1) := HW.out.trans hx
    have HN1 : Hid (Nx (w.alloc (.cells #[.slice a0 n0 c0, .slice a1 n1 c1, .slice a2 n2 c2, .slice a3 n3 c3, .slice a4 n4 c4, .slice a5 n5 c5, .slice a6 n6 c6] 27)) w1) := HN.out.trans hx
    have HBA1 : Hid (Blk w1 w.heap.size #[.slice a0 n0 c0, .slice a1 n1 c1, .slice a2 n2 c2, .slice a3 n3 c3, .slice a4 n4 c4, .slice a5 n5 c5, .slice a6 n6 c6]) := HBA.out.next hx
    have HSEG : Hid (ascN (seg G.tt (fsA G k) (fsA G (k + 1))).length (ltG G (seg G.tt (fsA G k) (fsA G (k + 1)))) = oOk G k) := by
      unfold Hid
      rw [seg_len (fsA_eq HT.out (v := k + 1) (by rw [Z0.out]; omega)).2]
      exact seg_ok HT.out (by rw [Z0.out]; exact hlt)
    have HSI : Hid (∀ i, i < (seg G.tt (fsA G k) (fsA G (k + 1))).length → 0 ≤ iat (seg G.tt (fsA G k) (fsA G (k + 1))) i ∧ iat (seg G.tt (fsA G k) (fsA G (k + 1))) i < G.eo.length) := by
      intro i hi
      have q1 := (fsA_eq HT.out (v := k + 1) (by rw [Z0.out]; omega)).2
      rw [seg_len q1] at hi
      rw [seg_at hi]
      exact HT.out.tt _ (by omega)
    clear hx k0 k1 k2 k3 k4 k5 k6
    generalize seg G.tt (fsA G k) (fsA G (k + 1)) = sg at *
    go_wp2_with fail
    refine (ascG_any B B w.heap.size _ (.slice a0 n0 c0) (.slice a1 n1 c1) (.slice a2 n2 c2) (.slice a3 n3 c3) (.slice a4 n4 c4) (.slice a5 n5 c5) (.slice a6 n6 c6) G sg _ (by exact hS) (by exact HBA1.out) (by exact HH.out.h0.next HW1.out) HSI.out).mono ?_
    rintro e w2 ⟨rfl, hx⟩
    rw [HSEG.out]
    have HW2 : Hid (Nx w w2) := HW1.out.trans hx
    have HN2 : Hid (Nx (w.alloc (.cells #[.slice a0 n0 c0, .slice a1 n1 c1, .slice a2 n2 c2, .slice a3 n3 c3, .slice a4 n4 c4, .slice a5 n5 c5, .slice a6 n6 c6] 27)) w2) := HN1.out.trans hx
    clear hx HSEG HSI
    cases g1 : oOk G k
    case false =>
      have HF : Hid (oOk G k = false) := g1
      clear g1
      go_wp2
      go_ret
      exact ⟨ret_bool (allN_no hlt HF.out).symm, HW2.out⟩
    case true =>
      have HF : Hid (oOk G k = true) := g1
      clear g1
      go_wp2
      go_roundw
      case rel => exact ⟨k + 1, by omega, by go_num, allTo_succ HA.out HF.out, HN2⟩
      case measure => simp [intOf]; omega
  · go_wp2
    go_ret
    exact ⟨ret_bool (allN_yes (by omega) HA.out).symm, HW.out⟩
end Go.Proofs.Ytdjmlpgdaanipaa
