import Derived.Test.YtedhchmigeooiaaDoorImM
import Derived.Deep.RegionHeld3
namespace Go.Proofs.YtedhchmigeooiaaDoor
open Go.RowKit
set_option linter.unusedVariables false

set_option maxHeartbeats 2000000 in
theorem l1RelGood_any (B : Nat) (v0 v1 v2 v3 : Value) (u : Int) (N : Nt) (x : Rl) (vw : Value) (w : World) (h0 : HInts B w v0 N.nodes) (h1 : HWays B w v1 N.ways) (hW : HInts B w vw x.ways) :
    Calls Tryd.prog 42 #[.agg #[v0, v1, v2, v3, .int .i64 u], .agg #[.int .i64 x.id, .bool x.only, .int .i64 x.frm, .int .i64 x.to, .bool x.via, .int .i64 x.node, vw]] w fun e w' => e = .returned (.bool (relGood N x)) ∧ Nx w w' := by
  obtain ⟨a2, cap2, rfl, hn2, hk2⟩ := hW
  unfold maxLen at hn2
  generalize hz2 : x.ways.length = n2 at *
  have HZ2 : Hid (x.ways.length = n2) := hz2
  clear hz2
  have HTWO : Hid (Nx w ((w.alloc (.cells #[v0, v1, v2, v3, .int .i64 u] 35)).alloc (.cells #[.int .i64 x.id, .bool x.only, .int .i64 x.frm, .int .i64 x.to, .bool x.via, .int .i64 x.node, .slice a2 n2 cap2] 53))) := box2 _ _ _
  have BA := ((Blk.new w #[v0, v1, v2, v3, .int .i64 u] 35 _ rfl).alloc (.cells #[.int .i64 x.id, .bool x.only, .int .i64 x.frm, .int .i64 x.to, .bool x.via, .int .i64 x.node, .slice a2 n2 cap2] 53))
  have BB := (Blk.new (w.alloc (.cells #[v0, v1, v2, v3, .int .i64 u] 35)) #[.int .i64 x.id, .bool x.only, .int .i64 x.frm, .int .i64 x.to, .bool x.via, .int .i64 x.node, .slice a2 n2 cap2] 53 (w.heap.size + 1) (by simp))
  by_cases e1 : inB x.id = true
  case neg =>
    have e1' : inB x.id = false := by simpa using e1
    have HG : Hid (false = relGood N x) := by unfold Hid; simp [relGood, e1']
    clear e1
    go_enter Tryd.func42, Tryd.ntmps42
    go_wp2_with (go_at_call 39; refine (l1In_any _ _).mono ?_; rintro e w' ⟨rfl, rfl⟩)
    go_ret
    exact ⟨ret_bool HG.out, HTWO.out⟩
  by_cases e2 : hasW N.ways x.frm = true
  case neg =>
    have e2' : hasW N.ways x.frm = false := by simpa using e2
    have HG : Hid (false = relGood N x) := by unfold Hid; simp [relGood, e2']
    clear e2
    go_enter Tryd.func42, Tryd.ntmps42
    go_wp2_with (first | (go_at_call 39; refine (l1In_any _ _).mono ?_; rintro e w' ⟨rfl, rfl⟩) | (go_at_call 43; refine (l1WayAt_any B _ _ _ _ _ _ N.ways _ (by exact h1.keep (HTWO.out.keeps B))).mono ?_; rintro e w' ⟨r, rfl, hr, hx⟩))
    go_ret
    exact ⟨ret_bool HG.out, HTWO.out.trans hx⟩
  go_enter Tryd.func42, Tryd.ntmps42
  go_wp2_with fail
  refine (l1In_any _ _).mono ?_
  rintro e w' ⟨rfl, rfl⟩
  go_wp2_with fail
  refine (l1WayAt_any B _ _ _ _ _ _ N.ways _ (by exact h1.keep (HTWO.out.keeps B))).mono ?_
  rintro e w1 ⟨r1, rfl, hr1, hx⟩
  have BA1 := BA.next hx
  have BB1 := BB.next hx
  have HX1 : Hid (Nx w w1) := HTWO.out.trans hx
  clear hx BA BB HTWO
  have k0 := BA1.cell (i := 0) rfl
  have k1 := BA1.cell (i := 1) rfl
  have k2 := BA1.cell (i := 2) rfl
  have k3 := BA1.cell (i := 3) rfl
  have k4 := BA1.cell (i := 4) rfl
  have l3 := BB1.cell (i := 3) rfl
  go_wp2_with fail
  refine (l1WayAt_any B _ _ _ _ _ _ N.ways _ (by exact h1.keep (HX1.out.keeps B))).mono ?_
  rintro e w2 ⟨r2, rfl, hr2, hx⟩
  have BA2 := BA1.next hx
  have BB2 := BB1.next hx
  have HX2 : Hid (Nx w w2) := HX1.out.trans hx
  clear hx BA1 BB1 HX1 k0 k1 k2 k3 k4 l3
  by_cases e3 : hasW N.ways x.to = true
  case neg =>
    have e3' : hasW N.ways x.to = false := by simpa using e3
    have HG : Hid (false = relGood N x) := by unfold Hid; simp [relGood, e3']
    clear e3
    go_wp2
    go_ret
    exact ⟨ret_bool HG.out, HX2.out⟩
  have HGT : Hid (relGood N x = relTail N x) := by unfold Hid; simp [relGood, e1, e2, e3]
  have k0 := BA2.cell (i := 0) rfl
  have k1 := BA2.cell (i := 1) rfl
  have k2 := BA2.cell (i := 2) rfl
  have k3 := BA2.cell (i := 3) rfl
  have k4 := BA2.cell (i := 4) rfl
  have l4 := BB2.cell (i := 4) rfl
  have l5 := BB2.cell (i := 5) rfl
  have l6 := BB2.cell (i := 6) rfl
  cases hv : x.via
  case true =>
    rw [hv] at l4
    have hvv : Hid (x.via = true) := hv
    clear hv
    by_cases e6 : n2 = 0
    case neg =>
      have d6 : ((n2 : Int) == 0) = false := by simp; omega
      have HF : Hid (relTail N x = false) := by unfold Hid; simp [relTail, hvv.out, HZ2.out, e6]
      clear e6
      go_wp2
      go_ret
      exact ⟨ret_bool (by rw [HGT.out, HF.out]), HX2.out⟩
    have d6 : ((n2 : Int) == 0) = true := by simpa using e6
    have HT : Hid (relTail N x = hasI N.nodes x.node) := by unfold Hid; simp [relTail, hvv.out, HZ2.out, e6]
    clear e6
    go_wp2_with fail
    refine (l1HasNode_any B _ _ _ _ _ _ N.nodes _ (by exact h0.next HX2.out)).mono ?_
    rintro e w3 ⟨rfl, hx⟩
    have HX3 : Hid (Nx w w3) := HX2.out.trans hx
    clear hx k0 k1 k2 k3 k4 l4 l5 l6 BA2 BB2 HX2
    go_wp2
    go_ret
    exact ⟨ret_bool (by rw [HGT.out, HT.out]), HX3.out⟩
  case false =>
    rw [hv] at l4
    have hvv : Hid (x.via = false) := hv
    clear hv
    by_cases e5 : x.node = 0
    case neg =>
      have d5 : (x.node != 0) = true := by simpa using e5
      have HF : Hid (relTail N x = false) := by unfold Hid; simp [relTail, hvv.out, e5]
      clear e5
      go_wp2
      go_ret
      exact ⟨ret_bool (by rw [HGT.out, HF.out]), HX2.out⟩
    have d5 : (x.node != 0) = false := by simpa using e5
    have H5 : Hid (x.node = 0) := e5
    clear e5
    by_cases e6 : 1 ≤ n2
    case neg =>
      have d6 : decide ((n2 : Int) < 1) = true := by simp; omega
      have HF : Hid (relTail N x = false) := by unfold Hid; simp [relTail, hvv.out, HZ2.out]; intros; omega
      go_wp2
      go_ret
      exact ⟨ret_bool (by rw [HGT.out, HF.out]), HX2.out⟩
    have d6 : decide ((n2 : Int) < 1) = false := by simp; omega
    by_cases e7 : n2 ≤ 4
    case neg =>
      have d7 : decide (4 < (n2 : Int)) = true := by simp; omega
      have HF : Hid (relTail N x = false) := by unfold Hid; simp [relTail, hvv.out, HZ2.out]; intros; omega
      go_wp2
      go_ret
      exact ⟨ret_bool (by rw [HGT.out, HF.out]), HX2.out⟩
    have d7 : decide (4 < (n2 : Int)) = false := by simp; omega
    have HT : Hid (relTail N x = allN x.ways.length (fun i => hasW N.ways (iat x.ways i))) := by unfold Hid; simp [relTail, hvv.out, HZ2.out, H5.out, e6, e7]
    go_wp2
    go_loopw [5] (fun i wr => ∃ k : Nat, k ≤ n2 ∧ i = .int .i64 k ∧ Hid (allTo (fun i => hasW N.ways (iat x.ways i)) k) ∧ Hid (Nx w2 wr)) (fun i _ => n2 - (intOf i).toNat)
    case atStart => exact ⟨0, Nat.zero_le _, rfl, allTo_zero _, Nx.refl _⟩
    case round =>
      obtain ⟨k, hkn, rfl, hrel, HN⟩ := hrel
      have BA3 := BA2.next HN.out
      have BB3 := BB2.next HN.out
      have k0 := BA3.cell (i := 0) rfl
      have k1 := BA3.cell (i := 1) rfl
      have k2 := BA3.cell (i := 2) rfl
      have k3 := BA3.cell (i := 3) rfl
      have k4 := BA3.cell (i := 4) rfl
      have l6 := BB3.cell (i := 6) rfl
      have HW : Hid (Nx w wr) := HX2.out.trans HN.out
      by_cases hlt : k < n2
      · obtain ⟨b, off, rfl, hB, hb, hc⟩ := hk2 (by omega)
        have hcc := cell_next HW.out hb (hc k hlt)
        have hlt' : (k : Int) < n2 := by omega
        clear hc hk2
        by_cases hin : hasW N.ways (iat x.ways k) = true
        · go_wp2
          go_region_with (go_at_call 43; refine (l1WayAt_any B _ _ _ _ _ _ N.ways _ (by exact h1.keep (HW.out.drew.keeps B))).mono ?_; rintro e w' ⟨r, rfl, hr, hx⟩)
          all_goals go_wp2
          all_goals
            go_roundw
            case rel => exact ⟨k + 1, by omega, by go_num, allTo_succ hrel hin, HN.out.drew.trans hx⟩
            case measure => simp [intOf]; omega
        · have hin' : hasW N.ways (iat x.ways k) = false := by simpa using hin
          go_wp2
          go_region_with (go_at_call 43; refine (l1WayAt_any B _ _ _ _ _ _ N.ways _ (by exact h1.keep (HW.out.drew.keeps B))).mono ?_; rintro e w' ⟨r, rfl, hr, hx⟩)
          all_goals go_wp2
          all_goals
            go_ret
            exact ⟨ret_bool (by rw [HGT.out, HT.out, allN_no (by rw [HZ2.out]; exact hlt) hin']), HW.out.drew.trans hx⟩
      · go_wp2
        go_ret
        exact ⟨ret_bool (by rw [HGT.out, HT.out, allN_yes (by rw [HZ2.out]; omega) hrel]), HW.out⟩
end Go.Proofs.YtedhchmigeooiaaDoor
