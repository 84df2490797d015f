import Derived.Test.YtdjmlpgdaanipaaHB
import Derived.Test.YtdjmlpgdaanipaaHC
import Derived.Test.YtdjmlpgdaanipaaHE
namespace Go.Proofs.Ytdjmlpgdaanipaa
open Go.RowKit
set_option linter.unusedVariables false
set_option maxRecDepth 100000

theorem allN_and (n : Nat) (p q : Nat → Bool) : allN n (fun i => p i && q i) = (allN n p && allN n q) := by
  rw [Bool.eq_iff_iff, Bool.and_eq_true, allN_iff, allN_iff, allN_iff]
  constructor
  · intro h
    exact ⟨fun i hi => by have := h i hi; rw [Bool.and_eq_true] at this; exact this.1, fun i hi => by have := h i hi; rw [Bool.and_eq_true] at this; exact this.2⟩
  · rintro ⟨h1, h2⟩ i hi
    rw [h1 i hi, h2 i hi]; rfl
theorem vOk_parts (G : Gr) : allN G.eo.length (vOk G) = (allN G.eo.length (rOk G) && ascN G.eo.length (ltVs (iat G.eo) (iat G.so))) := by
  unfold ascN
  rw [← allN_and]
  congr 1
  funext i
  unfold vOk rOk inZ ascAt ltVs ltV pairLt
  simp only [Bool.and_assoc]
theorem validG_parts (G : Gr) : validG G = (vWe G && (vVe G && (allN G.sr.length (sOk G) && (vFi G && (vAr G && allN G.eo.length (oOk G)))))) := by
  have e1 : allIn G.we = allN G.we.length (wOk G) := rfl
  have e2 : allN G.eo.length (leI G.fi) = allN G.eo.length (fOk G) := rfl
  unfold validG vWe vVe vFi vAr cOne cFive cSeven
  rw [vOk_parts, e1, e2]
  ac_rfl
theorem tw_of {G : Gr} (h1 : vVe G = true) (h2 : vFi G = true) (h3 : vAr G = true) : TW G := by
  unfold vVe at h1
  unfold vFi at h2
  unfold vAr at h3
  simp only [Bool.and_eq_true, decide_eq_true_eq, beq_iff_eq] at h1 h2 h3
  have h5 : cFive G = true := by unfold cFive; simp [h2.1, h2.2.1, h2.2.2.2]
  have h6 : allN G.eo.length (fOk G) = true := h2.2.2.1
  exact ⟨h1.1, h3.1, h2.1, fun i hi => fi_bd rfl rfl h5 h6 hi, fun i hi => by have := allN_at h6 hi; simpa [fOk] using this, fun k hk => tt_bd rfl h3.2.2 hk⟩

set_option maxHeartbeats 4000000 in
theorem implValidG_any (B : Nat) (v0 v1 v2 v3 v4 v5 v6 : Value) (G : Gr) (w : World) (h0 : HG B w v0 v1 v2 v3 v4 v5 v6 G) (hs : SmallG G) :
    Calls Try.prog 10 #[.agg #[v0, v1, v2, v3, v4, v5, v6]] w fun e w' => e = .returned (.bool (validG G)) ∧ Nx w w' := by
  have HS : Hid (SmallG G) := hs
  clear hs
  have HH0 : Hid (HG B w v0 v1 v2 v3 v4 v5 v6 G) := h0
  have HH : Hid (HG B w v0 v1 v2 v3 v4 v5 v6 G) := h0
  obtain ⟨⟨a0, c0, rfl, hn0, hk0⟩, ⟨a1, c1, rfl, hn1, hk1⟩, ⟨a2, c2, rfl, hn2, hk2⟩, ⟨a3, c3, rfl, hn3, hk3⟩, ⟨a4, c4, rfl, hn4, hk4⟩, ⟨a5, c5, rfl, hn5, hk5⟩, ⟨a6, c6, rfl, hn6, hk6⟩⟩ := h0
  have HM0 : Hid (G.eo.length ≤ maxLen) := hn0
  have HM5 : Hid (G.sr.length ≤ maxLen) := hn5
  unfold maxLen at hn0 hn1 hn2 hn3 hn4 hn5 hn6
  generalize hz0 : G.eo.length = n0 at *
  have Z0 : Hid (G.eo.length = n0) := hz0
  clear hz0
  generalize hz1 : G.so.length = n1 at *
  have Z1 : Hid (G.so.length = n1) := hz1
  clear hz1
  generalize hz2 : G.fi.length = n2 at *
  have Z2 : Hid (G.fi.length = n2) := hz2
  clear hz2
  generalize hz3 : G.tt.length = n3 at *
  have Z3 : Hid (G.tt.length = n3) := hz3
  clear hz3
  generalize hz4 : G.co.length = n4 at *
  have Z4 : Hid (G.co.length = n4) := hz4
  clear hz4
  generalize hz5 : G.sr.length = n5 at *
  have Z5 : Hid (G.sr.length = n5) := hz5
  clear hz5
  generalize hz6 : G.we.length = n6 at *
  have Z6 : Hid (G.we.length = n6) := hz6
  clear hz6
  have HV : Hid (validG G = (vWe G && (vVe G && (allN G.sr.length (sOk G) && (vFi G && (vAr G && allN G.eo.length (oOk G))))))) := validG_parts G
  clear hk0 hk1 hk2 hk3 hk4 hk5 hk6
  go_enter Try.func10, Try.ntmps10
  go_wp2
  go_loopw [9] (fun i wr => Hid (Nx w wr ∧ Blk wr w.heap.size #[.slice a0 n0 c0, .slice a1 n1 c1, .slice a2 n2 c2, .slice a3 n3 c3, .slice a4 n4 c4, .slice a5 n5 c5, .slice a6 n6 c6] ∧ Blk wr (w.heap.size + 1) #[.func (.func 25) #[] #[], .func (.func 26) #[] #[], .func (.func 27) #[] #[], .func (.func 28) #[] #[], .func (.func 29) #[] #[], .func (.func 30) #[] #[]]) ∧ ((i = .int .i64 0 ∧ Hid (True)) ∨ (i = .int .i64 1 ∧ Hid (vWe G = true)) ∨ (i = .int .i64 2 ∧ Hid (vWe G = true ∧ vVe G = true)) ∨ (i = .int .i64 3 ∧ Hid (vWe G = true ∧ vVe G = true ∧ allN G.sr.length (sOk G) = true)) ∨ (i = .int .i64 4 ∧ Hid (vWe G = true ∧ vVe G = true ∧ allN G.sr.length (sOk G) = true ∧ vFi G = true)) ∨ (i = .int .i64 5 ∧ Hid (vWe G = true ∧ vVe G = true ∧ allN G.sr.length (sOk G) = true ∧ vFi G = true ∧ vAr G = true)) ∨ (i = .int .i64 6 ∧ Hid (vWe G = true ∧ vVe G = true ∧ allN G.sr.length (sOk G) = true ∧ vFi G = true ∧ vAr G = true ∧ allN G.eo.length (oOk G) = true)))) (fun i _ => 6 - (intOf i).toNat)
  case atStart => exact ⟨⟨box2 _ _ _, (Blk.new w #[.slice a0 n0 c0, .slice a1 n1 c1, .slice a2 n2 c2, .slice a3 n3 c3, .slice a4 n4 c4, .slice a5 n5 c5, .slice a6 n6 c6] 27 _ rfl).alloc _, Blk.new _ #[.func (.func 25) #[] #[], .func (.func 26) #[] #[], .func (.func 27) #[] #[], .func (.func 28) #[] #[], .func (.func 29) #[] #[], .func (.func 30) #[] #[]] _ _ (by simp)⟩, Or.inl ⟨rfl, trivial⟩⟩
  obtain ⟨HI, hrel⟩ := hrel
  obtain ⟨hx, BA, BF⟩ := HI.out
  have HW : Hid (Nx w wr) := hx
  have HBA : Hid (Blk wr w.heap.size #[.slice a0 n0 c0, .slice a1 n1 c1, .slice a2 n2 c2, .slice a3 n3 c3, .slice a4 n4 c4, .slice a5 n5 c5, .slice a6 n6 c6]) := BA
  have HBF : Hid (Blk wr (w.heap.size + 1) #[.func (.func 25) #[] #[], .func (.func 26) #[] #[], .func (.func 27) #[] #[], .func (.func 28) #[] #[], .func (.func 29) #[] #[], .func (.func 30) #[] #[]]) := BF
  have k0 := BA.cell (i := 0) rfl
  have k1 := BA.cell (i := 1) rfl
  have k2 := BA.cell (i := 2) rfl
  have k3 := BA.cell (i := 3) rfl
  have k4 := BA.cell (i := 4) rfl
  have k5 := BA.cell (i := 5) rfl
  have k6 := BA.cell (i := 6) rfl
  clear hx BA HI
  rcases hrel with ⟨rfl, HP⟩ | ⟨rfl, HP⟩ | ⟨rfl, HP⟩ | ⟨rfl, HP⟩ | ⟨rfl, HP⟩ | ⟨rfl, HP⟩ | ⟨rfl, HP⟩
  · have f0 := BF.cell (i := 0) rfl
    clear BF
    go_wp2_with fail
    refine (validWeights_any B _ _ _ _ _ _ _ G _ (by exact HH.out.next HW.out)).mono ?_
    rintro e w1 ⟨rfl, hx⟩
    have HN : Hid (Nx w w1 ∧ Blk w1 w.heap.size #[.slice a0 n0 c0, .slice a1 n1 c1, .slice a2 n2 c2, .slice a3 n3 c3, .slice a4 n4 c4, .slice a5 n5 c5, .slice a6 n6 c6] ∧ Blk w1 (w.heap.size + 1) #[.func (.func 25) #[] #[], .func (.func 26) #[] #[], .func (.func 27) #[] #[], .func (.func 28) #[] #[], .func (.func 29) #[] #[], .func (.func 30) #[] #[]]) := ⟨HW.out.trans hx, HBA.out.next hx, HBF.out.next hx⟩
    clear hx f0 k0 k1 k2 k3 k4 k5 k6
    cases g : vWe G
    case false =>
      have HF : Hid (false = validG G) := by unfold Hid; rw [HV.out, g]; rfl
      clear g
      go_wp2
      go_ret
      exact ⟨ret_bool HF.out, HN.out.1⟩
    case true =>
      have HQ : Hid (vWe G = true) := g
      clear g
      go_wp2
      go_roundw
      case rel => exact ⟨HN, Or.inr (Or.inl ⟨by go_num, HQ⟩)⟩
      case measure => simp [intOf]
  · have f0 := BF.cell (i := 1) rfl
    clear BF
    go_wp2_with fail
    refine (validVertices_any B _ _ _ _ _ _ _ G _ (by exact HH.out.next HW.out)).mono ?_
    rintro e w1 ⟨rfl, hx⟩
    have HN : Hid (Nx w w1 ∧ Blk w1 w.heap.size #[.slice a0 n0 c0, .slice a1 n1 c1, .slice a2 n2 c2, .slice a3 n3 c3, .slice a4 n4 c4, .slice a5 n5 c5, .slice a6 n6 c6] ∧ Blk w1 (w.heap.size + 1) #[.func (.func 25) #[] #[], .func (.func 26) #[] #[], .func (.func 27) #[] #[], .func (.func 28) #[] #[], .func (.func 29) #[] #[], .func (.func 30) #[] #[]]) := ⟨HW.out.trans hx, HBA.out.next hx, HBF.out.next hx⟩
    clear hx f0 k0 k1 k2 k3 k4 k5 k6
    cases g : vVe G
    case false =>
      have HF : Hid (false = validG G) := by unfold Hid; rw [HV.out, HP.out, g]; rfl
      clear g
      go_wp2
      go_ret
      exact ⟨ret_bool HF.out, HN.out.1⟩
    case true =>
      have HQ : Hid (vWe G = true ∧ vVe G = true) := ⟨HP.out, g⟩
      clear g
      go_wp2
      go_roundw
      case rel => exact ⟨HN, Or.inr (Or.inr (Or.inl ⟨by go_num, HQ⟩))⟩
      case measure => simp [intOf]
  · have f0 := BF.cell (i := 2) rfl
    clear BF
    go_wp2_with fail
    refine (validStarts_any B _ _ _ _ _ _ _ G _ (by exact HH.out.next HW.out)).mono ?_
    rintro e w1 ⟨rfl, hx⟩
    have HN : Hid (Nx w w1 ∧ Blk w1 w.heap.size #[.slice a0 n0 c0, .slice a1 n1 c1, .slice a2 n2 c2, .slice a3 n3 c3, .slice a4 n4 c4, .slice a5 n5 c5, .slice a6 n6 c6] ∧ Blk w1 (w.heap.size + 1) #[.func (.func 25) #[] #[], .func (.func 26) #[] #[], .func (.func 27) #[] #[], .func (.func 28) #[] #[], .func (.func 29) #[] #[], .func (.func 30) #[] #[]]) := ⟨HW.out.trans hx, HBA.out.next hx, HBF.out.next hx⟩
    clear hx f0 k0 k1 k2 k3 k4 k5 k6
    cases g : allN G.sr.length (sOk G)
    case false =>
      have HF : Hid (false = validG G) := by unfold Hid; rw [HV.out, HP.out.1, HP.out.2, g]; rfl
      clear g
      go_wp2
      go_ret
      exact ⟨ret_bool HF.out, HN.out.1⟩
    case true =>
      have HQ : Hid (vWe G = true ∧ vVe G = true ∧ allN G.sr.length (sOk G) = true) := ⟨HP.out.1, HP.out.2, g⟩
      clear g
      go_wp2
      go_roundw
      case rel => exact ⟨HN, Or.inr (Or.inr (Or.inr (Or.inl ⟨by go_num, HQ⟩)))⟩
      case measure => simp [intOf]
  · have f0 := BF.cell (i := 3) rfl
    clear BF
    go_wp2_with fail
    refine (validFirst_any B _ _ _ _ _ _ _ G _ (by exact HH.out.next HW.out) HS.out).mono ?_
    rintro e w1 ⟨rfl, hx⟩
    have HN : Hid (Nx w w1 ∧ Blk w1 w.heap.size #[.slice a0 n0 c0, .slice a1 n1 c1, .slice a2 n2 c2, .slice a3 n3 c3, .slice a4 n4 c4, .slice a5 n5 c5, .slice a6 n6 c6] ∧ Blk w1 (w.heap.size + 1) #[.func (.func 25) #[] #[], .func (.func 26) #[] #[], .func (.func 27) #[] #[], .func (.func 28) #[] #[], .func (.func 29) #[] #[], .func (.func 30) #[] #[]]) := ⟨HW.out.trans hx, HBA.out.next hx, HBF.out.next hx⟩
    clear hx f0 k0 k1 k2 k3 k4 k5 k6
    cases g : vFi G
    case false =>
      have HF : Hid (false = validG G) := by unfold Hid; rw [HV.out, HP.out.1, HP.out.2.1, HP.out.2.2, g]; rfl
      clear g
      go_wp2
      go_ret
      exact ⟨ret_bool HF.out, HN.out.1⟩
    case true =>
      have HQ : Hid (vWe G = true ∧ vVe G = true ∧ allN G.sr.length (sOk G) = true ∧ vFi G = true) := ⟨HP.out.1, HP.out.2.1, HP.out.2.2, g⟩
      clear g
      go_wp2
      go_roundw
      case rel => exact ⟨HN, Or.inr (Or.inr (Or.inr (Or.inr (Or.inl ⟨by go_num, HQ⟩))))⟩
      case measure => simp [intOf]
  · have f0 := BF.cell (i := 4) rfl
    clear BF
    go_wp2_with fail
    refine (validArcs_any B _ _ _ _ _ _ _ G _ (by exact HH.out.next HW.out)).mono ?_
    rintro e w1 ⟨rfl, hx⟩
    have HN : Hid (Nx w w1 ∧ Blk w1 w.heap.size #[.slice a0 n0 c0, .slice a1 n1 c1, .slice a2 n2 c2, .slice a3 n3 c3, .slice a4 n4 c4, .slice a5 n5 c5, .slice a6 n6 c6] ∧ Blk w1 (w.heap.size + 1) #[.func (.func 25) #[] #[], .func (.func 26) #[] #[], .func (.func 27) #[] #[], .func (.func 28) #[] #[], .func (.func 29) #[] #[], .func (.func 30) #[] #[]]) := ⟨HW.out.trans hx, HBA.out.next hx, HBF.out.next hx⟩
    clear hx f0 k0 k1 k2 k3 k4 k5 k6
    cases g : vAr G
    case false =>
      have HF : Hid (false = validG G) := by unfold Hid; rw [HV.out, HP.out.1, HP.out.2.1, HP.out.2.2.1, HP.out.2.2.2, g]; rfl
      clear g
      go_wp2
      go_ret
      exact ⟨ret_bool HF.out, HN.out.1⟩
    case true =>
      have HQ : Hid (vWe G = true ∧ vVe G = true ∧ allN G.sr.length (sOk G) = true ∧ vFi G = true ∧ vAr G = true) := ⟨HP.out.1, HP.out.2.1, HP.out.2.2.1, HP.out.2.2.2, g⟩
      clear g
      go_wp2
      go_roundw
      case rel => exact ⟨HN, Or.inr (Or.inr (Or.inr (Or.inr (Or.inr (Or.inl ⟨by go_num, HQ⟩)))))⟩
      case measure => simp [intOf]
  · have f0 := BF.cell (i := 5) rfl
    clear BF
    go_wp2_with fail
    refine (validOrder_any B _ _ _ _ _ _ _ G _ (by exact HH.out.next HW.out) (tw_of HP.out.2.1 HP.out.2.2.2.1 HP.out.2.2.2.2)).mono ?_
    rintro e w1 ⟨rfl, hx⟩
    have HN : Hid (Nx w w1 ∧ Blk w1 w.heap.size #[.slice a0 n0 c0, .slice a1 n1 c1, .slice a2 n2 c2, .slice a3 n3 c3, .slice a4 n4 c4, .slice a5 n5 c5, .slice a6 n6 c6] ∧ Blk w1 (w.heap.size + 1) #[.func (.func 25) #[] #[], .func (.func 26) #[] #[], .func (.func 27) #[] #[], .func (.func 28) #[] #[], .func (.func 29) #[] #[], .func (.func 30) #[] #[]]) := ⟨HW.out.trans hx, HBA.out.next hx, HBF.out.next hx⟩
    clear hx f0 k0 k1 k2 k3 k4 k5 k6
    cases g : allN G.eo.length (oOk G)
    case false =>
      have HF : Hid (false = validG G) := by unfold Hid; rw [HV.out, HP.out.1, HP.out.2.1, HP.out.2.2.1, HP.out.2.2.2.1, HP.out.2.2.2.2, g]; rfl
      clear g
      go_wp2
      go_ret
      exact ⟨ret_bool HF.out, HN.out.1⟩
    case true =>
      have HQ : Hid (vWe G = true ∧ vVe G = true ∧ allN G.sr.length (sOk G) = true ∧ vFi G = true ∧ vAr G = true ∧ allN G.eo.length (oOk G) = true) := ⟨HP.out.1, HP.out.2.1, HP.out.2.2.1, HP.out.2.2.2.1, HP.out.2.2.2.2, g⟩
      clear g
      go_wp2
      go_roundw
      case rel => exact ⟨HN, Or.inr (Or.inr (Or.inr (Or.inr (Or.inr (Or.inr (⟨by go_num, HQ⟩))))))⟩
      case measure => simp [intOf]
  · have HF : Hid (true = validG G) := by unfold Hid; rw [HV.out, HP.out.1, HP.out.2.1, HP.out.2.2.1, HP.out.2.2.2.1, HP.out.2.2.2.2.1, HP.out.2.2.2.2.2]; rfl
    clear BF
    go_wp2
    go_ret
    exact ⟨ret_bool HF.out, HW.out⟩
end Go.Proofs.Ytdjmlpgdaanipaa
