import Derived.Test.YtedhchmigeooiaaDoorBase
import Derived.Deep.RegionHeld3
namespace Go.Proofs.YtedhchmigeooiaaDoor
open Go.RowKit
set_option linter.unusedVariables false

set_option maxHeartbeats 400000 in
theorem eqInts_same (B B' : Nat) (v v' : Value) (zs : List Int) (w : World) (h0 : HInts B w v zs) (h1 : HInts B' w v' zs) :
    Calls Tryd.prog 29 #[v, v'] w fun e w' => e = .returned (.bool true) ∧ Nx w w' := by
  obtain ⟨a, cap, rfl, hn, hk⟩ := h0
  obtain ⟨a', cap', rfl, hn', hk'⟩ := h1
  unfold maxLen at hn hn'
  generalize zs.length = n at *
  have hd : ((n : Int) != (n : Int)) = false := by simp
  go_enter Tryd.func29, Tryd.ntmps29
  go_wp2
  go_loopw [5] (fun i wr => ∃ k : Nat, k ≤ n ∧ i = .int .i64 k ∧ Hid (Nx w wr)) (fun i _ => n - (intOf i).toNat)
  case atStart => exact ⟨0, Nat.zero_le _, rfl, Nx.refl _⟩
  case round =>
    obtain ⟨k, hkn, rfl, HN⟩ := hrel
    by_cases hlt : k < n
    · obtain ⟨b, off, rfl, hB, hb, hc⟩ := hk (by omega)
      obtain ⟨b', off', rfl, hB', hb', hc'⟩ := hk' (by omega)
      have c0 := cell_next HN.out hb (hc k hlt)
      have c1 := cell_next HN.out hb' (hc' k hlt)
      have hlt' : (k : Int) < n := by omega
      have he : (iat zs k != iat zs k) = false := by simp
      clear hc hk hc' hk'
      go_wp2
      go_region_with (fail)
      all_goals go_wp2
      all_goals
        go_roundw
        case rel => exact ⟨k + 1, by omega, by go_num, HN.out.drew⟩
        case measure => simp [intOf]; omega
    · go_wp2
      go_ret
      exact ⟨rfl, HN.out⟩

set_option maxHeartbeats 400000 in
theorem eqWay_same (B B' : Nat) (id : Int) (both : Bool) (p q p' q' : Value) (ns ws : List Int) (w : World) (h0 : HInts B w p ns) (h1 : HInts B' w p' ns) (h2 : HInts B w q ws) (h3 : HInts B' w q' ws) :
    Calls Tryd.prog 54 #[.agg #[.int .i64 id, .bool both, p, q], .agg #[.int .i64 id, .bool both, p', q']] w fun e w' => e = .returned (.bool true) ∧ Nx w w' := by
  have hd : (id != id) = false := by simp
  have hd' : (both != both) = false := by simp
  go_enter Tryd.func54, Tryd.ntmps54
  go_wp2_with fail
  refine (eqInts_same B B' _ _ ns _ (h0.next (box2 _ _ _)) (h1.next (box2 _ _ _))).mono ?_
  rintro e w1 ⟨rfl, hx⟩
  have HX : Hid (Nx w w1) := (box2 _ _ _).trans hx
  obtain ⟨hc, hf⟩ := bcell hx
  have hz : w.heap.size + 1 < w1.heap.size := by have := hx.size; simp at this; omega
  clear hx
  go_wp2_with fail
  refine (eqInts_same B B' _ _ ws _ (h2.next HX.out) (h3.next HX.out)).mono ?_
  rintro e w2 ⟨rfl, hx⟩
  go_wp2
  go_ret
  exact ⟨rfl, HX.out.trans hx⟩

set_option maxHeartbeats 400000 in
theorem eqRel_same (B B' : Nat) (x : Rl) (p p' : Value) (w : World) (h0 : HInts B w p x.ways) (h1 : HInts B' w p' x.ways) :
    Calls Tryd.prog 55 #[.agg #[.int .i64 x.id, .bool x.only, .int .i64 x.frm, .int .i64 x.to, .bool x.via, .int .i64 x.node, p], .agg #[.int .i64 x.id, .bool x.only, .int .i64 x.frm, .int .i64 x.to, .bool x.via, .int .i64 x.node, p']] w fun e w' => e = .returned (.bool true) ∧ Nx w w' := by
  have hd1 : (x.id != x.id) = false := by simp
  have hd2 : (x.only != x.only) = false := by simp
  have hd3 : (x.frm != x.frm) = false := by simp
  have hd4 : (x.to != x.to) = false := by simp
  have hd5 : (x.via != x.via) = false := by simp
  have hd6 : (x.node != x.node) = false := by simp
  go_enter Tryd.func55, Tryd.ntmps55
  go_wp2_with fail
  refine (eqInts_same B B' _ _ x.ways _ (h0.next (box2 _ _ _)) (h1.next (box2 _ _ _))).mono ?_
  rintro e w1 ⟨rfl, hx⟩
  have HX : Hid (Nx w w1) := (box2 _ _ _).trans hx
  clear hx
  go_wp2
  go_ret
  exact ⟨rfl, HX.out⟩

set_option maxHeartbeats 400000 in
theorem eqTurn_same (x : Tn) (w : World) :
    Calls Tryd.prog 56 #[.agg #[.int .i64 x.frm, .int .i64 x.to, .int .i64 x.cost], .agg #[.int .i64 x.frm, .int .i64 x.to, .int .i64 x.cost]] w fun e w' => e = .returned (.bool true) ∧ Nx w w' := by
  have hd1 : (x.frm != x.frm) = false := by simp
  have hd2 : (x.to != x.to) = false := by simp
  have hd3 : (x.cost != x.cost) = false := by simp
  go_enter Tryd.func56, Tryd.ntmps56
  go_wp2
  go_ret
  exact ⟨rfl, box2 _ _ _⟩
end Go.Proofs.YtedhchmigeooiaaDoor

namespace Go.Proofs.YtedhchmigeooiaaDoor
open Go.RowKit
set_option linter.unusedVariables false

set_option maxHeartbeats 1000000 in
theorem eqWays_same (B B' : Nat) (v v' : Value) (zs : List Wy) (w : World) (h0 : HWays B w v zs) (h1 : HWays B' w v' zs) :
    Calls Tryd.prog 30 #[v, v'] w fun e w' => e = .returned (.bool true) ∧ Nx w w' := by
  obtain ⟨a, cap, rfl, hn, hk⟩ := h0
  obtain ⟨a', cap', rfl, hn', hk'⟩ := h1
  unfold maxLen at hn hn'
  generalize zs.length = n at *
  have hd : ((n : Int) != (n : Int)) = false := by simp
  go_enter Tryd.func30, Tryd.ntmps30
  go_wp2
  go_loopw [5] (fun i wr => ∃ k : Nat, k ≤ n ∧ i = .int .i64 k ∧ Hid (Nx w wr)) (fun i _ => n - (intOf i).toNat)
  case atStart => exact ⟨0, Nat.zero_le _, rfl, Nx.refl _⟩
  case round =>
    obtain ⟨k, hkn, rfl, HN⟩ := hrel
    by_cases hlt : k < n
    · obtain ⟨b, off, rfl, hB, hb, hc⟩ := hk (by omega)
      obtain ⟨b', off', rfl, hB', hb', hc'⟩ := hk' (by omega)
      obtain ⟨p1, p2, a0, a1, a2, a3, n1, w1⟩ := hc k hlt
      obtain ⟨q1, q2, b0, b1, b2, b3, n2, w2⟩ := hc' k hlt
      have a0 := cell_next HN.out hb a0
      have a1 := cell_next HN.out hb a1
      have a2 := cell_next HN.out hb a2
      have a3 := cell_next HN.out hb a3
      have b0 := cell_next HN.out hb' b0
      have b1 := cell_next HN.out hb' b1
      have b2 := cell_next HN.out hb' b2
      have b3 := cell_next HN.out hb' b3
      have hlt' : (k : Int) < n := by omega
      clear hc hk hc' hk'
      go_wp2
      go_region_with (go_at_call 54; refine (eqWay_same B B' _ _ _ _ _ _ _ _ _ (by exact n1.next HN.out.drew) (by exact n2.next HN.out.drew) (by exact w1.next HN.out.drew) (by exact w2.next HN.out.drew)).mono ?_; rintro e w' ⟨rfl, hx⟩)
      all_goals go_wp2
      all_goals
        go_roundw
        case rel => exact ⟨k + 1, by omega, by go_num, HN.out.drew.trans hx⟩
        case measure => simp [intOf]; omega
    · go_wp2
      go_ret
      exact ⟨rfl, HN.out⟩
end Go.Proofs.YtedhchmigeooiaaDoor

namespace Go.Proofs.YtedhchmigeooiaaDoor
open Go.RowKit
set_option linter.unusedVariables false

set_option maxHeartbeats 1000000 in
theorem eqRels_same (B B' : Nat) (v v' : Value) (zs : List Rl) (w : World) (h0 : HRels B w v zs) (h1 : HRels B' w v' zs) :
    Calls Tryd.prog 31 #[v, v'] w fun e w' => e = .returned (.bool true) ∧ Nx w w' := by
  obtain ⟨a, cap, rfl, hn, hk⟩ := h0
  obtain ⟨a', cap', rfl, hn', hk'⟩ := h1
  unfold maxLen at hn hn'
  generalize zs.length = n at *
  have hd : ((n : Int) != (n : Int)) = false := by simp
  go_enter Tryd.func31, Tryd.ntmps31
  go_wp2
  go_loopw [5] (fun i wr => ∃ k : Nat, k ≤ n ∧ i = .int .i64 k ∧ Hid (Nx w wr)) (fun i _ => n - (intOf i).toNat)
  case atStart => exact ⟨0, Nat.zero_le _, rfl, Nx.refl _⟩
  case round =>
    obtain ⟨k, hkn, rfl, HN⟩ := hrel
    by_cases hlt : k < n
    · obtain ⟨b, off, rfl, hB, hb, hc⟩ := hk (by omega)
      obtain ⟨b', off', rfl, hB', hb', hc'⟩ := hk' (by omega)
      obtain ⟨p1, a0, a1, a2, a3, a4, a5, a6, n1⟩ := hc k hlt
      obtain ⟨q1, b0, b1, b2, b3, b4, b5, b6, n2⟩ := hc' k hlt
      have a0 := cell_next HN.out hb a0
      have a1 := cell_next HN.out hb a1
      have a2 := cell_next HN.out hb a2
      have a3 := cell_next HN.out hb a3
      have a4 := cell_next HN.out hb a4
      have a5 := cell_next HN.out hb a5
      have a6 := cell_next HN.out hb a6
      have b0 := cell_next HN.out hb' b0
      have b1 := cell_next HN.out hb' b1
      have b2 := cell_next HN.out hb' b2
      have b3 := cell_next HN.out hb' b3
      have b4 := cell_next HN.out hb' b4
      have b5 := cell_next HN.out hb' b5
      have b6 := cell_next HN.out hb' b6
      have hlt' : (k : Int) < n := by omega
      clear hc hk hc' hk'
      go_wp2
      go_region_with (go_at_call 55; refine (eqRel_same B B' (rat zs k) _ _ _ (by exact n1.next HN.out.drew) (by exact n2.next HN.out.drew)).mono ?_; rintro e w' ⟨rfl, hx⟩)
      all_goals go_wp2
      all_goals
        go_roundw
        case rel => exact ⟨k + 1, by omega, by go_num, HN.out.drew.trans hx⟩
        case measure => simp [intOf]; omega
    · go_wp2
      go_ret
      exact ⟨rfl, HN.out⟩
end Go.Proofs.YtedhchmigeooiaaDoor

namespace Go.Proofs.YtedhchmigeooiaaDoor
open Go.RowKit
set_option linter.unusedVariables false

set_option maxHeartbeats 1000000 in
theorem eqTurns_same (B B' : Nat) (v v' : Value) (zs : List Tn) (w : World) (h0 : HTurns B w v zs) (h1 : HTurns B' w v' zs) :
    Calls Tryd.prog 32 #[v, v'] w fun e w' => e = .returned (.bool true) ∧ Nx w w' := by
  obtain ⟨a, cap, rfl, hn, hk⟩ := h0
  obtain ⟨a', cap', rfl, hn', hk'⟩ := h1
  unfold maxLen at hn hn'
  generalize zs.length = n at *
  have hd : ((n : Int) != (n : Int)) = false := by simp
  go_enter Tryd.func32, Tryd.ntmps32
  go_wp2
  go_loopw [5] (fun i wr => ∃ k : Nat, k ≤ n ∧ i = .int .i64 k ∧ Hid (Nx w wr)) (fun i _ => n - (intOf i).toNat)
  case atStart => exact ⟨0, Nat.zero_le _, rfl, Nx.refl _⟩
  case round =>
    obtain ⟨k, hkn, rfl, HN⟩ := hrel
    by_cases hlt : k < n
    · obtain ⟨b, off, rfl, hB, hb, hc⟩ := hk (by omega)
      obtain ⟨b', off', rfl, hB', hb', hc'⟩ := hk' (by omega)
      obtain ⟨a0, a1, a2⟩ := hc k hlt
      obtain ⟨b0, b1, b2⟩ := hc' k hlt
      have a0 := cell_next HN.out hb a0
      have a1 := cell_next HN.out hb a1
      have a2 := cell_next HN.out hb a2
      have b0 := cell_next HN.out hb' b0
      have b1 := cell_next HN.out hb' b1
      have b2 := cell_next HN.out hb' b2
      have hlt' : (k : Int) < n := by omega
      clear hc hk hc' hk'
      go_wp2
      go_region_with (go_at_call 56; refine (eqTurn_same (tat zs k) _).mono ?_; rintro e w' ⟨rfl, hx⟩)
      all_goals go_wp2
      all_goals
        go_roundw
        case rel => exact ⟨k + 1, by omega, by go_num, HN.out.drew.trans hx⟩
        case measure => simp [intOf]; omega
    · go_wp2
      go_ret
      exact ⟨rfl, HN.out⟩
end Go.Proofs.YtedhchmigeooiaaDoor
