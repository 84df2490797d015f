import Derived.Test.YtedhchmigeooiaaDoorSpB
import Derived.Test.YtedhchmigeooiaaDoorImJ
namespace Go.Proofs.YtedhchmigeooiaaDoor
open Go.RowKit
set_option linter.unusedVariables false

set_option maxHeartbeats 1000000 in
theorem validWay_any (B : Nat) (v0 v1 v2 v3 : Value) (u : Int) (nodes : List Int) (x : Wy) (vn vw : Value) (w : World) (h0 : HInts B w v0 nodes) (hN : HInts B w vn x.nodes) (hW : HInts B w vw x.weights) (hasc : ascI nodes = true) :
    Calls Tryd.prog 63 #[.agg #[v0, v1, v2, v3, .int .i64 u], .agg #[.int .i64 x.id, .bool x.both, vn, vw]] w fun e w' => e = .returned (.bool (wayGood nodes x)) ∧ Nx w w' := by
  have HASC : Hid (ascI nodes = true) := hasc
  clear hasc
  have hW0 := hW
  obtain ⟨a1, cap1, rfl, hn1, hk1⟩ := hN
  obtain ⟨a2, cap2, rfl, hn2, hk2⟩ := hW
  clear hk2
  unfold maxLen at hn1 hn2
  generalize hz1 : x.nodes.length = n1 at *
  generalize hz2 : x.weights.length = n2 at *
  have HZ1 : Hid (x.nodes.length = n1) := hz1
  have HZ2 : Hid (x.weights.length = n2) := hz2
  clear hz1 hz2
  have two : Nx w ((w.alloc (.cells #[v0, v1, v2, v3, .int .i64 u] 35)).alloc (.cells #[.int .i64 x.id, .bool x.both, .slice a1 n1 cap1, .slice a2 n2 cap2] 50)) := box2 _ _ _
  by_cases e1 : inB x.id = true
  case neg =>
    have e1' : inB x.id = false := by simpa using e1
    have HG : Hid (false = wayGood nodes x) := by unfold Hid; simp [wayGood, wayHead, e1']
    clear e1
    go_enter Tryd.func63, Tryd.ntmps63
    go_wp2_with (go_at_call 48; refine (inRange_any _ _).mono ?_; rintro e w' ⟨rfl, rfl⟩)
    go_ret
    exact ⟨ret_bool HG.out, two⟩
  by_cases e2 : 1 ≤ n2
  case neg =>
    have HG : Hid (false = wayGood nodes x) := by unfold Hid; simp [wayGood, wayHead, HZ2.out]; omega
    go_enter Tryd.func63, Tryd.ntmps63
    go_wp2_with (go_at_call 48; refine (inRange_any _ _).mono ?_; rintro e w' ⟨rfl, rfl⟩)
    go_ret
    exact ⟨ret_bool HG.out, two⟩
  have d2 : decide ((n2 : Int) < 1) = false := by simp; omega
  by_cases e3 : n2 ≤ 100
  case neg =>
    have HG : Hid (false = wayGood nodes x) := by unfold Hid; simp [wayGood, wayHead, HZ2.out]; omega
    go_enter Tryd.func63, Tryd.ntmps63
    go_wp2_with (go_at_call 48; refine (inRange_any _ _).mono ?_; rintro e w' ⟨rfl, rfl⟩)
    go_ret
    exact ⟨ret_bool HG.out, two⟩
  have d3 : decide (100 < (n2 : Int)) = false := by simp; omega
  by_cases e4 : n1 = n2 + 1
  case neg =>
    have HG : Hid (false = wayGood nodes x) := by unfold Hid; simp [wayGood, wayHead, HZ2.out, HZ1.out]; omega
    have d4 : ((n1 : Int) != (n2 : Int) + 1) = true := by rw [bne_iff_ne]; omega
    go_enter Tryd.func63, Tryd.ntmps63
    go_wp2_with (go_at_call 48; refine (inRange_any _ _).mono ?_; rintro e w' ⟨rfl, rfl⟩)
    go_ret
    exact ⟨ret_bool HG.out, two⟩
  have d4 : ((n1 : Int) != (n2 : Int) + 1) = false := by simp; omega
  have e4a : n1 ≤ n2 + 1 := by omega
  have e4b : n2 + 1 ≤ n1 := by omega
  clear e4
  have HH : Hid (wayHead x = true) := by unfold Hid; simp [wayHead, HZ1.out, HZ2.out, e1]; omega
  have HTWO : Hid (Nx w ((w.alloc (.cells #[v0, v1, v2, v3, .int .i64 u] 35)).alloc (.cells #[.int .i64 x.id, .bool x.both, .slice a1 n1 cap1, .slice a2 n2 cap2] 50))) := two
  clear two
  go_enter Tryd.func63, Tryd.ntmps63
  go_wp2_with (go_at_call 48; refine (inRange_any _ _).mono ?_; rintro e w' ⟨rfl, rfl⟩)
  go_loopw [34] (fun i wr => ∃ k : Nat, k ≤ n1 ∧ i = .int .i64 k ∧ Hid (allTo (fun i => hasI nodes (iat x.nodes i)) k) ∧ Hid (Nx ((w.alloc (.cells #[v0, v1, v2, v3, .int .i64 u] 35)).alloc (.cells #[.int .i64 x.id, .bool x.both, .slice a1 n1 cap1, .slice a2 n2 cap2] 50)) wr)) (fun i _ => n1 - (intOf i).toNat)
  case atStart => exact ⟨0, Nat.zero_le _, rfl, allTo_zero _, Nx.refl _⟩
  case round =>
    obtain ⟨k, hkn, rfl, hrel, HN⟩ := hrel
    have BA := ((Blk.new w #[v0, v1, v2, v3, .int .i64 u] 35 _ rfl).alloc (.cells #[.int .i64 x.id, .bool x.both, .slice a1 n1 cap1, .slice a2 n2 cap2] 50)).next HN.out
    have BB := (Blk.new (w.alloc (.cells #[v0, v1, v2, v3, .int .i64 u] 35)) #[.int .i64 x.id, .bool x.both, .slice a1 n1 cap1, .slice a2 n2 cap2] 50 (w.heap.size + 1) (by simp)).next HN.out
    have k0 := BA.cell (i := 0) rfl
    have k1 := BA.cell (i := 1) rfl
    have k2 := BA.cell (i := 2) rfl
    have k3 := BA.cell (i := 3) rfl
    have k4 := BA.cell (i := 4) rfl
    have l2 := BB.cell (i := 2) rfl
    have l3 := BB.cell (i := 3) rfl
    have HW : Hid (Nx w wr) := HTWO.out.trans HN.out
    clear BA BB
    by_cases hlt : k < n1
    · obtain ⟨b, off, rfl, hB, hb, hc⟩ := hk1 (by omega)
      have hcc := cell_next HW.out hb (hc k hlt)
      have hlt' : (k : Int) < n1 := by omega
      clear hc hk1
      by_cases hin : hasI nodes (iat x.nodes k) = true
      · go_wp2_with (go_at_call 75; refine (hasNode_any B _ _ _ _ _ _ nodes _ (by exact h0.next HW.out) HASC.out).mono ?_; rintro e w' ⟨rfl, hx⟩)
        go_roundw
        case rel => exact ⟨k + 1, by omega, by go_num, allTo_succ hrel hin, HN.out.trans hx⟩
        case measure => simp [intOf]; omega
      · have hin' : hasI nodes (iat x.nodes k) = false := by simpa using hin
        go_wp2_with (go_at_call 75; refine (hasNode_any B _ _ _ _ _ _ nodes _ (by exact h0.next HW.out) HASC.out).mono ?_; rintro e w' ⟨rfl, hx⟩)
        go_ret
        exact ⟨ret_bool (by unfold wayGood; rw [allN_no (n := x.nodes.length) (by rw [HZ1.out]; exact hlt) hin']; simp), HW.out.trans hx⟩
    · have HA : Hid (allN x.nodes.length (fun i => hasI nodes (iat x.nodes i)) = true) := allN_yes (by rw [HZ1.out]; omega) hrel
      go_wp2_with (go_at_call 61; refine (containsFunc_any B _ x.weights _ (by exact hW0.next HW.out)).mono ?_; rintro e w2 ⟨rfl, rfl⟩)
      go_ret
      exact ⟨ret_bool (by unfold wayGood; rw [HH.out, HA.out]; simp [allIn]), HW.out⟩
end Go.Proofs.YtedhchmigeooiaaDoor
