import Derived.Test.YtcdjmpbdaiafgaaGreatDoorImF
import Derived.Test.YtcdjmpbdaiafgaaGreatDoorNets
import Derived.Test.YtcdjmpbdaiafgaaGreatDoorSpB
namespace Go.Proofs.YtcdjmpbdaiafgaaGreatDoor
open Go.RowKit
set_option linter.unusedVariables false

theorem HWays.slice {B : Nat} {w : World} {v : Value} {zs : List Wy} (h : HWays B w v zs) : ∃ a c, v = .slice a zs.length c ∧ zs.length ≤ maxLen := by
  obtain ⟨a, c, h1, h2, _⟩ := h; exact ⟨a, c, h1, h2⟩
theorem HRels.slice {B : Nat} {w : World} {v : Value} {zs : List Rl} (h : HRels B w v zs) : ∃ a c, v = .slice a zs.length c ∧ zs.length ≤ maxLen := by
  obtain ⟨a, c, h1, h2, _⟩ := h; exact ⟨a, c, h1, h2⟩

def counts (N : Nt) : Bool := decide (N.nodes.length ≤ 2000) && (decide (N.ways.length ≤ 2000) && (decide (edTo N.ways N.ways.length ≤ 4000) && (decide (N.rels.length ≤ 1000) && decide (N.turns.length ≤ 2000))))

set_option maxHeartbeats 1000000 in
theorem withinCounts_any (B : Nat) (v0 v1 v2 v3 : Value) (u : Int) (N : Nt) (w : World) (h0 : HNet B w v0 v1 v2 v3 N) (hs : wsum N.ways N.ways.length ≤ 1048576) :
    Calls Tryz.prog 62 #[.agg #[v0, v1, v2, v3, .int .i64 u]] w fun e w' => e = .returned (.bool (counts N)) ∧ Nx w w' := by
  obtain ⟨i0, i1, i2, i3⟩ := h0
  obtain ⟨a0, c0, rfl, hn0⟩ := i0.slice
  obtain ⟨a1, c1, e1, hn1⟩ := i1.slice
  obtain ⟨a2, c2, rfl, hn2⟩ := i2.slice
  obtain ⟨a3, c3, rfl, hn3⟩ := i3.slice
  subst e1
  have ce := fun wq (h : HWays B wq (.slice a1 N.ways.length c1) N.ways) => countEdges_any B (.slice a0 N.nodes.length c0) (.slice a1 N.ways.length c1) (.slice a2 N.rels.length c2) (.slice a3 N.turns.length c3) u N.ways wq h hs
  have CE : Hid (∀ wq, HWays B wq (.slice a1 N.ways.length c1) N.ways → Calls Tryz.prog 88 #[.agg #[.slice a0 N.nodes.length c0, .slice a1 N.ways.length c1, .slice a2 N.rels.length c2, .slice a3 N.turns.length c3, .int .i64 u]] wq fun e w' => e = .returned (.int .i64 (edTo N.ways N.ways.length : Nat)) ∧ Nx wq w') := ce
  have HC : Hid (counts N = (decide (N.nodes.length ≤ 2000) && (decide (N.ways.length ≤ 2000) && (decide (edTo N.ways N.ways.length ≤ 4000) && (decide (N.rels.length ≤ 1000) && decide (N.turns.length ≤ 2000)))))) := rfl
  have I1 : Hid (∀ wq, Nx w wq → HWays B wq (.slice a1 N.ways.length c1) N.ways) := fun wq h => i1.keep (h.keeps B)
  clear ce hs i0 i1 i2 i3 hn0 hn1 hn2 hn3
  generalize edTo N.ways N.ways.length = ed at *
  generalize counts N = cn at *
  generalize N.nodes.length = m0 at *
  generalize hw1 : N.ways.length = m1 at *
  generalize N.rels.length = m2 at *
  generalize N.turns.length = m3 at *
  clear hw1
  by_cases h1 : m0 ≤ 2000
  case neg =>
    have d1 : decide ((m0 : Int) ≤ 2000) = false := by simp; omega
    have HF : Hid (false = cn) := by unfold Hid; rw [HC.out]; simp [h1]
    clear HC
    go_enter Tryz.func62, Tryz.ntmps62
    go_wp2
    go_ret
    exact ⟨ret_bool HF.out, box1 _ _⟩
  have d1 : decide ((m0 : Int) ≤ 2000) = true := by simp; omega
  by_cases h2 : m1 ≤ 2000
  case neg =>
    have d2 : decide ((m1 : Int) ≤ 2000) = false := by simp; omega
    have HF : Hid (false = cn) := by unfold Hid; rw [HC.out]; simp [h2]
    clear HC
    go_enter Tryz.func62, Tryz.ntmps62
    go_wp2
    go_ret
    exact ⟨ret_bool HF.out, box1 _ _⟩
  have d2 : decide ((m1 : Int) ≤ 2000) = true := by simp; omega
  by_cases h3 : ed ≤ 4000
  case neg =>
    have d3 : decide ((ed : Int) ≤ 4000) = false := by simp; omega
    have HF : Hid (false = cn) := by unfold Hid; rw [HC.out]; simp [h3]
    clear HC
    go_enter Tryz.func62, Tryz.ntmps62
    go_wp2_with (go_at_call 88; refine (CE.out _ (by exact I1.out _ (box1 _ _))).mono ?_; rintro e w1 ⟨rfl, hx⟩)
    go_ret
    exact ⟨ret_bool HF.out, (box1 _ _).trans hx⟩
  have d3 : decide ((ed : Int) ≤ 4000) = true := by simp; omega
  have HF : Hid ((decide ((m2 : Int) ≤ 1000) && decide ((m3 : Int) ≤ 2000)) = cn) := by
    unfold Hid; rw [HC.out]
    rw [show decide ((m2 : Int) ≤ 1000) = decide (m2 ≤ 1000) from by simp; omega, show decide ((m3 : Int) ≤ 2000) = decide (m3 ≤ 2000) from by simp; omega]
    simp [h1, h2, h3]
  clear HC
  by_cases h4 : m2 ≤ 1000
  · have d4 : decide ((m2 : Int) ≤ 1000) = true := by simp; omega
    go_enter Tryz.func62, Tryz.ntmps62
    go_wp2_with fail
    refine (CE.out _ (by exact I1.out _ (box1 _ _))).mono ?_
    rintro e w1 ⟨rfl, hx⟩
    have BA := (Blk.new w _ 38 _ rfl).next hx
    have k0 := BA.cell (i := 2) rfl
    have k1 := BA.cell (i := 3) rfl
    have HX : Hid (Nx w w1) := (box1 _ _).trans hx
    clear hx BA
    go_wp2
    go_ret
    exact ⟨ret_bool (by have := HF.out; rw [d4] at this; simpa using this), HX.out⟩
  · have d4 : decide ((m2 : Int) ≤ 1000) = false := by simp; omega
    go_enter Tryz.func62, Tryz.ntmps62
    go_wp2_with fail
    refine (CE.out _ (by exact I1.out _ (box1 _ _))).mono ?_
    rintro e w1 ⟨rfl, hx⟩
    have BA := (Blk.new w _ 38 _ rfl).next hx
    have k0 := BA.cell (i := 2) rfl
    have k1 := BA.cell (i := 3) rfl
    have HX : Hid (Nx w w1) := (box1 _ _).trans hx
    clear hx BA
    go_wp2
    go_ret
    exact ⟨ret_bool (by have := HF.out; rw [d4] at this; simpa using this), HX.out⟩

set_option maxHeartbeats 1000000 in
theorem validNodes_any (B : Nat) (v0 v1 v2 v3 : Value) (u : Int) (zs : List Int) (w : World) (h0 : HInts B w v0 zs) :
    Calls Tryz.prog 64 #[.agg #[v0, v1, v2, v3, .int .i64 u]] w fun e w' => e = .returned (.bool (ascI zs && allIn zs)) ∧ Nx w w' := by
  cases ha : ascI zs
  · have HA : Hid (ascI zs = false) := ha
    clear ha
    go_enter Tryz.func64, Tryz.ntmps64
    go_wp2_with fail
    refine (ascI_any B _ zs _ (h0.next (box1 _ _))).mono ?_
    rw [HA.out]
    rintro e w1 ⟨rfl, hx⟩
    have HX : Hid (Nx w w1) := (box1 _ _).trans hx
    clear hx
    go_wp2
    go_ret
    exact ⟨rfl, HX.out⟩
  · have HA : Hid (ascI zs = true) := ha
    clear ha
    go_enter Tryz.func64, Tryz.ntmps64
    go_wp2_with fail
    refine (ascI_any B _ zs _ (h0.next (box1 _ _))).mono ?_
    rw [HA.out]
    rintro e w1 ⟨rfl, hx⟩
    have BA := (Blk.new w _ 38 _ rfl).next hx
    have k0 := BA.cell (i := 0) rfl
    have HX : Hid (Nx w w1) := (box1 _ _).trans hx
    clear hx BA
    go_wp2_with (go_at_call 91; refine (containsFunc_any B _ zs _ (by exact h0.next HX.out)).mono ?_; rintro e w2 ⟨rfl, rfl⟩)
    go_ret
    exact ⟨ret_bool (by simp), HX.out⟩
end Go.Proofs.YtcdjmpbdaiafgaaGreatDoor

namespace Go.Proofs.YtcdjmpbdaiafgaaGreatDoor
open Go.RowKit
set_option linter.unusedVariables false

set_option maxHeartbeats 1000000 in
theorem validWay_any (B : Nat) (v0 v1 v2 v3 : Value) (u : Int) (nodes : List Int) (x : Wy) (vn vw : Value) (w : World) (h0 : HInts B w v0 nodes) (hN : HInts B w vn x.nodes) (hW : HInts B w vw x.weights) (hasc : ascI nodes = true) :
    Calls Tryz.prog 93 #[.agg #[v0, v1, v2, v3, .int .i64 u], .agg #[.int .i64 x.id, .bool x.both, vn, vw]] w fun e w' => e = .returned (.bool (wayGood nodes x)) ∧ Nx w w' := by
  have HASC : Hid (ascI nodes = true) := hasc
  clear hasc
  have hW0 := hW
  obtain ⟨a1, cap1, rfl, hn1, hk1⟩ := hN
  obtain ⟨a2, cap2, rfl, hn2, hk2⟩ := hW
  clear hk2
  unfold maxLen at hn1 hn2
  generalize hz1 : x.nodes.length = n1 at *
  generalize hz2 : x.weights.length = n2 at *
  have HZ1 : Hid (x.nodes.length = n1) := hz1
  have HZ2 : Hid (x.weights.length = n2) := hz2
  clear hz1 hz2
  have two : Nx w ((w.alloc (.cells #[v0, v1, v2, v3, .int .i64 u] 38)).alloc (.cells #[.int .i64 x.id, .bool x.both, .slice a1 n1 cap1, .slice a2 n2 cap2] 90)) := box2 _ _ _
  by_cases e1 : inB x.id = true
  case neg =>
    have e1' : inB x.id = false := by simpa using e1
    have HG : Hid (false = wayGood nodes x) := by unfold Hid; simp [wayGood, wayHead, e1']
    clear e1
    go_enter Tryz.func93, Tryz.ntmps93
    go_wp2_with (go_at_call 63; refine (inRange_any _ _).mono ?_; rintro e w' ⟨rfl, rfl⟩)
    go_ret
    exact ⟨ret_bool HG.out, two⟩
  by_cases e2 : 1 ≤ n2
  case neg =>
    have HG : Hid (false = wayGood nodes x) := by unfold Hid; simp [wayGood, wayHead, HZ2.out]; omega
    go_enter Tryz.func93, Tryz.ntmps93
    go_wp2_with (go_at_call 63; refine (inRange_any _ _).mono ?_; rintro e w' ⟨rfl, rfl⟩)
    go_ret
    exact ⟨ret_bool HG.out, two⟩
  have d2 : decide ((n2 : Int) < 1) = false := by simp; omega
  by_cases e3 : n2 ≤ 100
  case neg =>
    have HG : Hid (false = wayGood nodes x) := by unfold Hid; simp [wayGood, wayHead, HZ2.out]; omega
    go_enter Tryz.func93, Tryz.ntmps93
    go_wp2_with (go_at_call 63; refine (inRange_any _ _).mono ?_; rintro e w' ⟨rfl, rfl⟩)
    go_ret
    exact ⟨ret_bool HG.out, two⟩
  have d3 : decide (100 < (n2 : Int)) = false := by simp; omega
  by_cases e4 : n1 = n2 + 1
  case neg =>
    have HG : Hid (false = wayGood nodes x) := by unfold Hid; simp [wayGood, wayHead, HZ2.out, HZ1.out]; omega
    have d4 : ((n1 : Int) != (n2 : Int) + 1) = true := by rw [bne_iff_ne]; omega
    go_enter Tryz.func93, Tryz.ntmps93
    go_wp2_with (go_at_call 63; refine (inRange_any _ _).mono ?_; rintro e w' ⟨rfl, rfl⟩)
    go_ret
    exact ⟨ret_bool HG.out, two⟩
  have d4 : ((n1 : Int) != (n2 : Int) + 1) = false := by simp; omega
  have e4a : n1 ≤ n2 + 1 := by omega
  have e4b : n2 + 1 ≤ n1 := by omega
  clear e4
  have HH : Hid (wayHead x = true) := by unfold Hid; simp [wayHead, HZ1.out, HZ2.out, e1]; omega
  have HTWO : Hid (Nx w ((w.alloc (.cells #[v0, v1, v2, v3, .int .i64 u] 38)).alloc (.cells #[.int .i64 x.id, .bool x.both, .slice a1 n1 cap1, .slice a2 n2 cap2] 90))) := two
  clear two
  go_enter Tryz.func93, Tryz.ntmps93
  go_wp2_with (go_at_call 63; refine (inRange_any _ _).mono ?_; rintro e w' ⟨rfl, rfl⟩)
  go_loopw [34] (fun i wr => ∃ k : Nat, k ≤ n1 ∧ i = .int .i64 k ∧ Hid (allTo (fun i => hasI nodes (iat x.nodes i)) k) ∧ Hid (Nx ((w.alloc (.cells #[v0, v1, v2, v3, .int .i64 u] 38)).alloc (.cells #[.int .i64 x.id, .bool x.both, .slice a1 n1 cap1, .slice a2 n2 cap2] 90)) wr)) (fun i _ => n1 - (intOf i).toNat)
  case atStart => exact ⟨0, Nat.zero_le _, rfl, allTo_zero _, Nx.refl _⟩
  case round =>
    obtain ⟨k, hkn, rfl, hrel, HN⟩ := hrel
    have BA := ((Blk.new w #[v0, v1, v2, v3, .int .i64 u] 38 _ rfl).alloc (.cells #[.int .i64 x.id, .bool x.both, .slice a1 n1 cap1, .slice a2 n2 cap2] 90)).next HN.out
    have BB := (Blk.new (w.alloc (.cells #[v0, v1, v2, v3, .int .i64 u] 38)) #[.int .i64 x.id, .bool x.both, .slice a1 n1 cap1, .slice a2 n2 cap2] 90 (w.heap.size + 1) (by simp)).next HN.out
    have k0 := BA.cell (i := 0) rfl
    have k1 := BA.cell (i := 1) rfl
    have k2 := BA.cell (i := 2) rfl
    have k3 := BA.cell (i := 3) rfl
    have k4 := BA.cell (i := 4) rfl
    have l2 := BB.cell (i := 2) rfl
    have l3 := BB.cell (i := 3) rfl
    have HW : Hid (Nx w wr) := HTWO.out.trans HN.out
    clear BA BB
    by_cases hlt : k < n1
    · obtain ⟨b, off, rfl, hB, hb, hc⟩ := hk1 (by omega)
      have hcc := cell_next HW.out hb (hc k hlt)
      have hlt' : (k : Int) < n1 := by omega
      clear hc hk1
      by_cases hin : hasI nodes (iat x.nodes k) = true
      · go_wp2_with (go_at_call 117; refine (hasNode_any B _ _ _ _ _ _ nodes _ (by exact h0.next HW.out) HASC.out).mono ?_; rintro e w' ⟨rfl, hx⟩)
        go_roundw
        case rel => exact ⟨k + 1, by omega, by go_num, allTo_succ hrel hin, HN.out.trans hx⟩
        case measure => simp [intOf]; omega
      · have hin' : hasI nodes (iat x.nodes k) = false := by simpa using hin
        go_wp2_with (go_at_call 117; refine (hasNode_any B _ _ _ _ _ _ nodes _ (by exact h0.next HW.out) HASC.out).mono ?_; rintro e w' ⟨rfl, hx⟩)
        go_ret
        exact ⟨ret_bool (by unfold wayGood; rw [allN_no (n := x.nodes.length) (by rw [HZ1.out]; exact hlt) hin']; simp), HW.out.trans hx⟩
    · have HA : Hid (allN x.nodes.length (fun i => hasI nodes (iat x.nodes i)) = true) := allN_yes (by rw [HZ1.out]; omega) hrel
      go_wp2_with (go_at_call 91; refine (containsFunc_any B _ x.weights _ (by exact hW0.next HW.out)).mono ?_; rintro e w2 ⟨rfl, rfl⟩)
      go_ret
      exact ⟨ret_bool (by unfold wayGood; rw [HH.out, HA.out]; simp [allIn]), HW.out⟩
end Go.Proofs.YtcdjmpbdaiafgaaGreatDoor

namespace Go.Proofs.YtcdjmpbdaiafgaaGreatDoor
open Go.RowKit
set_option linter.unusedVariables false

def waysOk (N : Nt) : Bool := allN N.ways.length (fun i => wayGood N.nodes (wat N.ways i))

set_option maxHeartbeats 1000000 in
theorem validWays_any (B : Nat) (v0 v1 v2 v3 : Value) (u : Int) (N : Nt) (w : World) (h0 : HInts B w v0 N.nodes) (h1 : HWays B w v1 N.ways) (hasc : ascI N.nodes = true) :
    Calls Tryz.prog 65 #[.agg #[v0, v1, v2, v3, .int .i64 u]] w fun e w' => e = .returned (.bool (waysOk N && ascW N.ways)) ∧ Nx w w' := by
  have HASC : Hid (ascI N.nodes = true) := hasc
  clear hasc
  have H1 := h1
  obtain ⟨a, cap, rfl, hn, hk⟩ := h1
  unfold maxLen at hn
  generalize hz : N.ways.length = n at *
  have HZ : Hid (N.ways.length = n) := hz
  clear hz
  go_enter Tryz.func65, Tryz.ntmps65
  go_wp2
  go_loopw [4, 8] (fun p i wr => ∃ k : Nat, k ≤ n ∧ i = .int .i64 k ∧ Hid (allTo (fun i => wayGood N.nodes (wat N.ways i)) k) ∧ Hid (Nx (w.alloc (.cells #[v0, .slice a n cap, v2, v3, .int .i64 u] 38)) wr)) (fun _ i _ => n - (intOf i).toNat)
  case atStart => exact ⟨0, Nat.zero_le _, rfl, allTo_zero _, Nx.refl _⟩
  case round =>
    obtain ⟨k, hkn, rfl, hrel, HN⟩ := hrel
    have BA := (Blk.new w #[v0, .slice a n cap, v2, v3, .int .i64 u] 38 _ rfl).next HN.out
    have k0 := BA.cell (i := 0) rfl
    have k1 := BA.cell (i := 1) rfl
    have k2 := BA.cell (i := 2) rfl
    have k3 := BA.cell (i := 3) rfl
    have k4 := BA.cell (i := 4) rfl
    have hsz := BA.lt
    have HW : Hid (Nx w wr) := (box1 _ _).trans HN.out
    clear BA
    by_cases hlt : k < n
    · obtain ⟨b, off, rfl, hB, hb, hc⟩ := hk (by omega)
      obtain ⟨p1, p2, a0, a1, a2, a3, n1, n2⟩ := hc k hlt
      have m1 := n1.next HW.out
      have m2 := n2.next HW.out
      obtain ⟨an, cn, rfl, _⟩ := n1.slice
      obtain ⟨aw, cw, rfl, _⟩ := n2.slice
      have a0 := cell_next HW.out hb a0
      have a1 := cell_next HW.out hb a1
      have a2 := cell_next HW.out hb a2
      have a3 := cell_next HW.out hb a3
      have hlt' : (k : Int) < n := by omega
      have hbr : b < wr.heap.size := Nat.lt_of_lt_of_le hb HW.out.size
      clear hc hk n1 n2
      by_cases hin : wayGood N.nodes (wat N.ways k) = true
      · go_wp2_with (go_at_call 93; refine (validWay_any B _ _ _ _ _ N.nodes (wat N.ways k) _ _ _ (by exact (h0.next HW.out).next (box1 _ _)) (by exact m1.next (box1 _ _)) (by exact m2.next (box1 _ _)) HASC.out).mono ?_; rintro e w' ⟨rfl, hx⟩)
        go_roundw
        case rel => exact ⟨k + 1, by omega, by go_num, allTo_succ hrel hin, HN.out.trans ((box1 _ _).trans hx)⟩
        case measure => simp [intOf]; omega
      · have hin' : wayGood N.nodes (wat N.ways k) = false := by simpa using hin
        go_wp2_with (go_at_call 93; refine (validWay_any B _ _ _ _ _ N.nodes (wat N.ways k) _ _ _ (by exact (h0.next HW.out).next (box1 _ _)) (by exact m1.next (box1 _ _)) (by exact m2.next (box1 _ _)) HASC.out).mono ?_; rintro e w' ⟨rfl, hx⟩)
        go_ret
        exact ⟨ret_bool (by unfold waysOk; rw [allN_no (by rw [HZ.out]; exact hlt) hin']; rfl), HW.out.trans ((box1 _ _).trans hx)⟩
    · have HA : Hid (waysOk N = true) := allN_yes (by rw [HZ.out]; omega) hrel
      have hge : (n : Int) ≤ k := by omega
      go_wp2_with (go_at_call 94; refine (ascW_any B _ N.ways _ (by exact H1.keep (HW.out.keeps B))).mono ?_; rintro e w2 ⟨rfl, hx⟩)
      go_ret
      exact ⟨ret_bool (by rw [HA.out]; rfl), HW.out.trans hx⟩
end Go.Proofs.YtcdjmpbdaiafgaaGreatDoor
