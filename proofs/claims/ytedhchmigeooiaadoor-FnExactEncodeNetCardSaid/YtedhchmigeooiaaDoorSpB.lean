import Derived.Test.YtedhchmigeooiaaDoorBase
namespace Go.Proofs.YtedhchmigeooiaaDoor
open Go.RowKit
set_option linter.unusedVariables false

def wayHead (x : Wy) : Bool := inB x.id && decide (1 ≤ x.weights.length) && decide (x.weights.length ≤ 100) && decide (x.nodes.length = x.weights.length + 1)
def wayGood (nodes : List Int) (x : Wy) : Bool :=
  wayHead x && allN x.weights.length (fun i => inB (iat x.weights i)) && allN x.nodes.length (fun i => hasI nodes (iat x.nodes i))

set_option maxHeartbeats 1000000 in
theorem l1WayGood_any (B : Nat) (v0 v1 v2 v3 : Value) (u : Int) (nodes : List Int) (x : Wy) (vn vw : Value) (w : World) (h0 : HInts B w v0 nodes) (hN : HInts B w vn x.nodes) (hW : HInts B w vw x.weights) :
    Calls Tryd.prog 40 #[.agg #[v0, v1, v2, v3, .int .i64 u], .agg #[.int .i64 x.id, .bool x.both, vn, vw]] w fun e w' => e = .returned (.bool (wayGood nodes x)) ∧ Nx w w' := by
  obtain ⟨a1, cap1, rfl, hn1, hk1⟩ := hN
  obtain ⟨a2, cap2, rfl, hn2, hk2⟩ := hW
  unfold maxLen at hn1 hn2
  generalize hz1 : x.nodes.length = n1 at *
  generalize hz2 : x.weights.length = n2 at *
  have HZ1 : Hid (x.nodes.length = n1) := hz1
  have HZ2 : Hid (x.weights.length = n2) := hz2
  clear hz1 hz2
  have two : Nx w ((w.alloc (.cells #[v0, v1, v2, v3, .int .i64 u] 35)).alloc (.cells #[.int .i64 x.id, .bool x.both, .slice a1 n1 cap1, .slice a2 n2 cap2] 50)) :=
    ((Below.refl _ _).alloc (Nat.le_refl _) _).alloc (by simp) _
  by_cases e1 : inB x.id = true
  case neg =>
    have e1' : inB x.id = false := by simpa using e1
    have hg : false = wayGood nodes x := by simp [wayGood, wayHead, e1']
    have HG : Hid (false = wayGood nodes x) := hg
    clear hg e1
    go_enter Tryd.func40, Tryd.ntmps40
    go_wp2_with (go_at_call 39; refine (l1In_any _ _).mono ?_; rintro e w' ⟨rfl, rfl⟩)
    go_ret
    exact ⟨ret_bool HG.out, two⟩
  by_cases e2 : 1 ≤ n2
  case neg =>
    have HG : Hid (false = wayGood nodes x) := by unfold Hid; simp [wayGood, wayHead, HZ2.out]; omega
    go_enter Tryd.func40, Tryd.ntmps40
    go_wp2_with (go_at_call 39; refine (l1In_any _ _).mono ?_; rintro e w' ⟨rfl, rfl⟩)
    go_ret
    exact ⟨ret_bool HG.out, two⟩
  have d2 : decide ((n2 : Int) < 1) = false := by simp; omega
  by_cases e3 : n2 ≤ 100
  case neg =>
    have HG : Hid (false = wayGood nodes x) := by unfold Hid; simp [wayGood, wayHead, HZ2.out]; omega
    go_enter Tryd.func40, Tryd.ntmps40
    go_wp2_with (go_at_call 39; refine (l1In_any _ _).mono ?_; rintro e w' ⟨rfl, rfl⟩)
    go_ret
    exact ⟨ret_bool HG.out, two⟩
  have d3 : decide (100 < (n2 : Int)) = false := by simp; omega
  by_cases e4 : n1 = n2 + 1
  case neg =>
    have HG : Hid (false = wayGood nodes x) := by unfold Hid; simp [wayGood, wayHead, HZ2.out, HZ1.out]; omega
    have d4 : ((n1 : Int) != (n2 : Int) + 1) = true := by rw [bne_iff_ne]; omega
    go_enter Tryd.func40, Tryd.ntmps40
    go_wp2_with (go_at_call 39; refine (l1In_any _ _).mono ?_; rintro e w' ⟨rfl, rfl⟩)
    go_ret
    exact ⟨ret_bool HG.out, two⟩
  have d4 : ((n1 : Int) != (n2 : Int) + 1) = false := by simp; omega
  have e4a : n1 ≤ n2 + 1 := by omega
  have e4b : n2 + 1 ≤ n1 := by omega
  clear e4
  have HH : Hid (wayHead x = true) := by unfold Hid; simp [wayHead, HZ1.out, HZ2.out, e1]; omega
  go_enter Tryd.func40, Tryd.ntmps40
  go_wp2_with (go_at_call 39; refine (l1In_any _ _).mono ?_; rintro e w' ⟨rfl, rfl⟩)
  go_loop [5] (fun i => ∃ k : Nat, k ≤ n2 ∧ i = .int .i64 k ∧ Hid (allTo (fun i => inB (iat x.weights i)) k)) (fun i => n2 - (intOf i).toNat)
  case atStart => exact ⟨0, Nat.zero_le _, rfl, allTo_zero _⟩
  case round =>
    obtain ⟨k, hkn, rfl, hrel⟩ := hrel
    by_cases hlt : k < n2
    · obtain ⟨b, off, rfl, hB, hb, hc⟩ := hk2 (by omega)
      have hcc := hc k hlt
      clear hc hk2 hk1
      by_cases hin : inB (iat x.weights k) = true
      · go_wp2_with (go_at_call 39; refine (l1In_any _ _).mono ?_; rintro e w' ⟨rfl, rfl⟩)
        go_round
        case rel => exact ⟨k + 1, by omega, by go_num, allTo_succ hrel hin⟩
        case measure => simp [intOf]; omega
      · have hin' : inB (iat x.weights k) = false := by simpa using hin
        go_wp2_with (go_at_call 39; refine (l1In_any _ _).mono ?_; rintro e w' ⟨rfl, rfl⟩)
        go_ret
        exact ⟨ret_bool (by unfold wayGood; rw [allN_no (by rw [HZ2.out]; exact hlt) hin']; simp), two⟩
    · have HA : Hid (allN x.weights.length (fun i => inB (iat x.weights i)) = true) := allN_yes (by rw [HZ2.out]; omega) hrel
      go_wp2
      go_loopw [6] (fun i wr => ∃ k : Nat, k ≤ n1 ∧ i = .int .i64 k ∧ Hid (allTo (fun i => hasI nodes (iat x.nodes i)) k) ∧ Nx ((w.alloc (.cells #[v0, v1, v2, v3, .int .i64 u] 35)).alloc (.cells #[.int .i64 x.id, .bool x.both, .slice a1 n1 cap1, .slice a2 n2 cap2] 50)) wr) (fun i _ => n1 - (intOf i).toNat)
      case atStart => exact ⟨0, Nat.zero_le _, rfl, allTo_zero _, Below.refl _ _⟩
      case round =>
        obtain ⟨k', hkn', rfl, hrel', hnx⟩ := hrel
        have HN : Hid (Nx ((w.alloc (.cells #[v0, v1, v2, v3, .int .i64 u] 35)).alloc (.cells #[.int .i64 x.id, .bool x.both, .slice a1 n1 cap1, .slice a2 n2 cap2] 50)) wr) := hnx
        obtain ⟨hcl, hfr⟩ := bcell hnx
        clear hnx
        by_cases hlt' : k' < n1
        · obtain ⟨b, off, rfl, hB, hb, hc⟩ := hk1 (by omega)
          have hcc := cell_next HN.out (by simp; omega) (cell_next two hb (hc k' hlt'))
          clear hc hk1 hk2
          by_cases hin : hasI nodes (iat x.nodes k') = true
          · go_wp2
            go_region_with (go_at_call 57; refine (l1HasNode_any B _ _ _ _ _ _ nodes _ (by exact (h0.next two).next (by first | exact HN.out | exact HN.out.drew))).mono ?_; rintro e w' ⟨rfl, hx⟩)
            all_goals go_wp2
            all_goals
              go_roundw
              case rel => exact ⟨k' + 1, by omega, by go_num, allTo_succ hrel' hin, Nx.trans HN.out.drew hx⟩
              case measure => simp [intOf]; omega
          · have hin' : hasI nodes (iat x.nodes k') = false := by simpa using hin
            go_wp2
            go_region_with (go_at_call 57; refine (l1HasNode_any B _ _ _ _ _ _ nodes _ (by exact (h0.next two).next (by first | exact HN.out | exact HN.out.drew))).mono ?_; rintro e w' ⟨rfl, hx⟩)
            all_goals go_wp2
            all_goals
              go_ret
              exact ⟨ret_bool (by unfold wayGood; rw [allN_no (n := x.nodes.length) (by rw [HZ1.out]; exact hlt') hin']; simp), Nx.trans two (Nx.trans HN.out.drew hx)⟩
        · go_wp2
          go_ret
          exact ⟨ret_bool (by unfold wayGood; rw [HH.out, HA.out, allN_yes (n := x.nodes.length) (by rw [HZ1.out]; omega) hrel']; rfl), Nx.trans two HN.out⟩
end Go.Proofs.YtedhchmigeooiaaDoor
