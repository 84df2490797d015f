import Derived.Test.YtedhchmigeooiaaDoorImK
namespace Go.Proofs.YtedhchmigeooiaaDoor
open Go.RowKit
set_option linter.unusedVariables false

def waysOk (N : Nt) : Bool := allN N.ways.length (fun i => wayGood N.nodes (wat N.ways i))

set_option maxHeartbeats 1000000 in
theorem validWays_any (B : Nat) (v0 v1 v2 v3 : Value) (u : Int) (N : Nt) (w : World) (h0 : HInts B w v0 N.nodes) (h1 : HWays B w v1 N.ways) (hasc : ascI N.nodes = true) :
    Calls Tryd.prog 50 #[.agg #[v0, v1, v2, v3, .int .i64 u]] w fun e w' => e = .returned (.bool (waysOk N && ascW N.ways)) ∧ Nx w w' := by
  have HASC : Hid (ascI N.nodes = true) := hasc
  clear hasc
  have H1 := h1
  obtain ⟨a, cap, rfl, hn, hk⟩ := h1
  unfold maxLen at hn
  generalize hz : N.ways.length = n at *
  have HZ : Hid (N.ways.length = n) := hz
  clear hz
  go_enter Tryd.func50, Tryd.ntmps50
  go_wp2
  go_loopw [4, 8] (fun p i wr => ∃ k : Nat, k ≤ n ∧ i = .int .i64 k ∧ Hid (allTo (fun i => wayGood N.nodes (wat N.ways i)) k) ∧ Hid (Nx (w.alloc (.cells #[v0, .slice a n cap, v2, v3, .int .i64 u] 35)) wr)) (fun _ i _ => n - (intOf i).toNat)
  case atStart => exact ⟨0, Nat.zero_le _, rfl, allTo_zero _, Nx.refl _⟩
  case round =>
    obtain ⟨k, hkn, rfl, hrel, HN⟩ := hrel
    have BA := (Blk.new w #[v0, .slice a n cap, v2, v3, .int .i64 u] 35 _ rfl).next HN.out
    have k0 := BA.cell (i := 0) rfl
    have k1 := BA.cell (i := 1) rfl
    have k2 := BA.cell (i := 2) rfl
    have k3 := BA.cell (i := 3) rfl
    have k4 := BA.cell (i := 4) rfl
    have hsz := BA.lt
    have HW : Hid (Nx w wr) := (box1 _ _).trans HN.out
    clear BA
    by_cases hlt : k < n
    · obtain ⟨b, off, rfl, hB, hb, hc⟩ := hk (by omega)
      obtain ⟨p1, p2, a0, a1, a2, a3, n1, n2⟩ := hc k hlt
      have m1 := n1.next HW.out
      have m2 := n2.next HW.out
      obtain ⟨an, cn, rfl, _⟩ := n1.slice
      obtain ⟨aw, cw, rfl, _⟩ := n2.slice
      have a0 := cell_next HW.out hb a0
      have a1 := cell_next HW.out hb a1
      have a2 := cell_next HW.out hb a2
      have a3 := cell_next HW.out hb a3
      have hlt' : (k : Int) < n := by omega
      have hbr : b < wr.heap.size := Nat.lt_of_lt_of_le hb HW.out.size
      clear hc hk n1 n2
      by_cases hin : wayGood N.nodes (wat N.ways k) = true
      · go_wp2_with (go_at_call 63; refine (validWay_any B _ _ _ _ _ N.nodes (wat N.ways k) _ _ _ (by exact (h0.next HW.out).next (box1 _ _)) (by exact m1.next (box1 _ _)) (by exact m2.next (box1 _ _)) HASC.out).mono ?_; rintro e w' ⟨rfl, hx⟩)
        go_roundw
        case rel => exact ⟨k + 1, by omega, by go_num, allTo_succ hrel hin, HN.out.trans ((box1 _ _).trans hx)⟩
        case measure => simp [intOf]; omega
      · have hin' : wayGood N.nodes (wat N.ways k) = false := by simpa using hin
        go_wp2_with (go_at_call 63; refine (validWay_any B _ _ _ _ _ N.nodes (wat N.ways k) _ _ _ (by exact (h0.next HW.out).next (box1 _ _)) (by exact m1.next (box1 _ _)) (by exact m2.next (box1 _ _)) HASC.out).mono ?_; rintro e w' ⟨rfl, hx⟩)
        go_ret
        exact ⟨ret_bool (by unfold waysOk; rw [allN_no (by rw [HZ.out]; exact hlt) hin']; rfl), HW.out.trans ((box1 _ _).trans hx)⟩
    · have HA : Hid (waysOk N = true) := allN_yes (by rw [HZ.out]; omega) hrel
      have hge : (n : Int) ≤ k := by omega
      go_wp2_with (go_at_call 64; refine (ascW_any B _ N.ways _ (by exact H1.keep (HW.out.keeps B))).mono ?_; rintro e w2 ⟨rfl, hx⟩)
      go_ret
      exact ⟨ret_bool (by rw [HA.out]; rfl), HW.out.trans hx⟩
end Go.Proofs.YtedhchmigeooiaaDoor
