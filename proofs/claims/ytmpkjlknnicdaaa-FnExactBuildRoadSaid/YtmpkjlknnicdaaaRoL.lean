import Derived.Test.YtmpkjlknnicdaaaRoD
import Derived.Test.YtmpkjlknnicdaaaEqA
namespace Go.Proofs.Ytmpkjlknnicdaaa
open Go.RowKit
set_option linter.unusedVariables false
set_option maxRecDepth 100000

def evals (x : Eg) : Value := .agg #[.int .i64 x.tail, .int .i64 x.head, .int .i64 x.weight, .int .i64 x.way, .int .i64 x.seg, .bool x.back, .int .i64 x.twin]

set_option maxHeartbeats 1000000 in
theorem eqEdge_same (x : Eg) (w : World) :
    Calls Try.prog 76 #[.agg #[.int .i64 x.tail, .int .i64 x.head, .int .i64 x.weight, .int .i64 x.way, .int .i64 x.seg, .bool x.back, .int .i64 x.twin], .agg #[.int .i64 x.tail, .int .i64 x.head, .int .i64 x.weight, .int .i64 x.way, .int .i64 x.seg, .bool x.back, .int .i64 x.twin]] w fun e w' => e = .returned (.bool true) ∧ Nx w w' := by
  have hd1 : (x.tail != x.tail) = false := by simp
  have hd2 : (x.head != x.head) = false := by simp
  have hd3 : (x.weight != x.weight) = false := by simp
  have hd4 : (x.way != x.way) = false := by simp
  have hd5 : (x.seg != x.seg) = false := by simp
  have hd6 : (x.back != x.back) = false := by simp
  have hd7 : (x.twin != x.twin) = false := by simp
  go_enter Try.func76, Try.ntmps76
  go_wp2
  go_ret
  exact ⟨rfl, box2 _ _ _⟩

set_option maxHeartbeats 2000000 in
theorem eqEdges_same (B B' : Nat) (v v' : Value) (es : List Eg) (w : World) (h0 : HEdges B w v es) (h1 : HEdges B' w v' es) :
    Calls Try.prog 43 #[v, v'] w fun e w' => e = .returned (.bool true) ∧ Nx w w' := by
  obtain ⟨a, cap, rfl, hn, hk⟩ := h0
  obtain ⟨a', cap', rfl, hn', hk'⟩ := h1
  unfold maxLen at hn hn'
  generalize es.length = n at *
  have hd : ((n : Int) != (n : Int)) = false := by simp
  go_enter Try.func43, Try.ntmps43
  go_wp2
  go_loopw [5] (fun i wr => ∃ k : Nat, k ≤ n ∧ i = .int .i64 k ∧ Hid (Nx w wr)) (fun i _ => n - (intOf i).toNat)
  case atStart => exact ⟨0, Nat.zero_le _, rfl, Nx.refl _⟩
  case round =>
    obtain ⟨k, hkn, rfl, HN⟩ := hrel
    by_cases hlt : k < n
    · obtain ⟨b, off, rfl, hB, hb, hc⟩ := hk (by omega)
      obtain ⟨b', off', rfl, hB', hb', hc'⟩ := hk' (by omega)
      obtain ⟨a0, a1, a2, a3, a4, a5, a6⟩ := hc k hlt
      obtain ⟨b0, b1, b2, b3, b4, b5, b6⟩ := hc' k hlt
      have a0 := cell_next HN.out hb a0
      have a1 := cell_next HN.out hb a1
      have a2 := cell_next HN.out hb a2
      have a3 := cell_next HN.out hb a3
      have a4 := cell_next HN.out hb a4
      have a5 := cell_next HN.out hb a5
      have a6 := cell_next HN.out hb a6
      have b0 := cell_next HN.out hb' b0
      have b1 := cell_next HN.out hb' b1
      have b2 := cell_next HN.out hb' b2
      have b3 := cell_next HN.out hb' b3
      have b4 := cell_next HN.out hb' b4
      have b5 := cell_next HN.out hb' b5
      have b6 := cell_next HN.out hb' b6
      have hlt' : (k : Int) < n := by omega
      clear hc hk hc' hk'
      go_wp2
      go_region_with (go_at_call 76; refine (eqEdge_same _ _).mono ?_; rintro e w' ⟨rfl, hx⟩)
      all_goals go_wp2
      all_goals
        go_roundw
        case rel => exact ⟨k + 1, by omega, by go_num, HN.out.drew.trans hx⟩
        case measure => simp [intOf]; omega
    · go_wp2
      go_ret
      exact ⟨rfl, HN.out⟩

/-- a road in memory -/
structure Rd where
  nodes : List Int
  edges : List Eg
  first : List Int
  out : List Int
def HRoad (B : Nat) (w : World) (v0 v1 v2 v3 : Value) (R : Rd) : Prop := HInts B w v0 R.nodes ∧ HEdges B w v1 R.edges ∧ HInts B w v2 R.first ∧ HInts B w v3 R.out
theorem HRoad.keep {B : Nat} {w w' : World} {v0 v1 v2 v3 : Value} {R : Rd} (h : HRoad B w v0 v1 v2 v3 R) (k : Keeps B w w') : HRoad B w' v0 v1 v2 v3 R := ⟨h.1.keep k, h.2.1.keep k, h.2.2.1.keep k, h.2.2.2.keep k⟩
theorem HRoad.next {B : Nat} {w w' : World} {v0 v1 v2 v3 : Value} {R : Rd} (h : HRoad B w v0 v1 v2 v3 R) (k : Nx w w') : HRoad B w' v0 v1 v2 v3 R := h.keep (k.keeps B)

set_option maxHeartbeats 2000000 in
theorem eqRoad_same (B B' : Nat) (v0 v1 v2 v3 u0 u1 u2 u3 : Value) (R : Rd) (w : World) (h0 : HRoad B w v0 v1 v2 v3 R) (h1 : HRoad B' w u0 u1 u2 u3 R) :
    Calls Try.prog 12 #[.agg #[v0, v1, v2, v3], .agg #[u0, u1, u2, u3]] w fun e w' => e = .returned (.bool true) ∧ Nx w w' := by
  go_enter Try.func12, Try.ntmps12
  go_wp2_with fail
  refine (eqInts_same B B' _ _ R.nodes _ (by exact (h0.next (box2 _ _ _)).1) (by exact (h1.next (box2 _ _ _)).1)).mono ?_
  rintro e w1 ⟨rfl, hx⟩
  have HX : Hid (Nx w w1) := (box2 _ _ _).trans hx
  have BA : Blk w1 w.heap.size #[v0, v1, v2, v3] := ((Blk.new w _ 40 _ rfl).alloc _).next hx
  have BB : Blk w1 (w.heap.size + 1) #[u0, u1, u2, u3] := (Blk.new _ _ 40 _ (by simp)).next hx
  clear hx
  have k0 := BA.cell (i := 1) rfl
  have k1 := BB.cell (i := 1) rfl
  go_wp2_with fail
  refine (eqEdges_same B B' _ _ R.edges _ (by exact (h0.next HX.out).2.1) (by exact (h1.next HX.out).2.1)).mono ?_
  rintro e w2 ⟨rfl, hx⟩
  have HX2 : Hid (Nx w w2) := HX.out.trans hx
  have BA2 := BA.next hx
  have BB2 := BB.next hx
  clear hx BA BB k0 k1 HX
  have k0 := BA2.cell (i := 2) rfl
  have k1 := BB2.cell (i := 2) rfl
  go_wp2_with fail
  refine (eqInts_same B B' _ _ R.first _ (by exact (h0.next HX2.out).2.2.1) (by exact (h1.next HX2.out).2.2.1)).mono ?_
  rintro e w3 ⟨rfl, hx⟩
  have HX3 : Hid (Nx w w3) := HX2.out.trans hx
  have BA3 := BA2.next hx
  have BB3 := BB2.next hx
  clear hx BA2 BB2 k0 k1 HX2
  have k0 := BA3.cell (i := 3) rfl
  have k1 := BB3.cell (i := 3) rfl
  go_wp2_with fail
  refine (eqInts_same B B' _ _ R.out _ (by exact (h0.next HX3.out).2.2.2) (by exact (h1.next HX3.out).2.2.2)).mono ?_
  rintro e w4 ⟨rfl, hx⟩
  go_wp2
  go_ret
  exact ⟨rfl, HX3.out.trans hx⟩
end Go.Proofs.Ytmpkjlknnicdaaa
