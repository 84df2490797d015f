import Derived.Test.YtedhchmigeooiaaDoorSzA
import Derived.Test.YtedhchmigeooiaaDoorToA
import Derived.Test.YtedhchmigeooiaaDoorEqA
namespace Go.Proofs.YtedhchmigeooiaaDoor
open Go.RowKit
set_option linter.unusedVariables false

theorem HInts.slice {B : Nat} {w : World} {v : Value} {zs : List Int} (h : HInts B w v zs) : ∃ a c, v = .slice a zs.length c ∧ zs.length ≤ maxLen := by
  obtain ⟨a, c, h1, h2, _⟩ := h; exact ⟨a, c, h1, h2⟩
theorem HTurns.slice {B : Nat} {w : World} {v : Value} {zs : List Tn} (h : HTurns B w v zs) : ∃ a c, v = .slice a zs.length c ∧ zs.length ≤ maxLen := by
  obtain ⟨a, c, h1, h2, _⟩ := h; exact ⟨a, c, h1, h2⟩

set_option maxHeartbeats 1000000 in
theorem szNet_any (B : Nat) (v0 v1 v2 v3 : Value) (N : Nt) (w : World) (h0 : HNet B w v0 v1 v2 v3 N) :
    Calls Tryd.prog 4 #[.agg #[v0, v1, v2, v3, .int .i64 N.uturn], .int .i64 1048576] w fun e w' => (∃ r : Int, e = .returned (.int .i64 r) ∧ (r < 0 ∨ (0 ≤ r ∧ Small N ∧ wsum N.ways N.ways.length ≤ 1048576))) ∧ Nx w w' := by
  obtain ⟨i0, i1, i2, i3⟩ := h0
  obtain ⟨a0, c0, rfl, hn0⟩ := i0.slice
  obtain ⟨a3, c3, rfl, hn3⟩ := i3.slice
  have b1 := szI_bd 1048576 N.nodes.length (by omega)
  obtain ⟨b1, b2, b3⟩ := b1
  have HB3 : Hid (0 ≤ szI 1048576 N.nodes.length → szI 1048576 N.nodes.length + N.nodes.length = 1048576) := b3
  clear b3
  generalize hr1 : szI 1048576 N.nodes.length = r1 at *
  have HR1 : Hid (szI 1048576 N.nodes.length = r1) := hr1
  clear hr1
  go_enter Tryd.func4, Tryd.ntmps4
  go_wp2_with fail
  refine (szInts_any _ _ _ _ _ hn0 (by omega) (by omega)).mono ?_
  rintro e w1 ⟨rfl, rfl⟩
  rw [HR1.out]
  by_cases hneg : r1 < 0
  · go_wp2
    go_ret
    exact ⟨⟨-1, rfl, Or.inl (by omega)⟩, box1 _ _⟩
  have hp1 : 0 ≤ r1 := by omega
  have HS0 : Hid (N.nodes.length ≤ 1048576) := by have := HB3.out hp1; unfold Hid; omega
  go_wp2_with fail
  refine (szWays_any B _ N.ways _ _ (by exact i1.keep ((box1 _ _).keeps B)) hp1 (by omega)).mono ?_
  rintro e w1 ⟨⟨r2, rfl, hr2⟩, hx⟩
  have BA : Blk w1 w.heap.size #[.slice a0 N.nodes.length c0, v1, v2, .slice a3 N.turns.length c3, .int .i64 N.uturn] := (Blk.new w _ 27 _ rfl).next hx
  have HX : Hid (Nx w w1) := (box1 _ _).trans hx
  clear hx
  have k0 := BA.cell (i := 2) rfl
  rcases hr2 with hr2 | ⟨hr2, hr2', hw, hf⟩
  · go_wp2
    go_ret
    exact ⟨⟨-1, rfl, Or.inl (by omega)⟩, HX.out⟩
  have HS1 : Hid (N.ways.length ≤ 1048576 ∧ WFit N.ways N.ways.length 1048576) := ⟨hw, hf⟩
  clear hw hf
  go_wp2_with fail
  refine (szRels_any B _ N.rels _ _ (by exact i2.keep (HX.out.keeps B)) hr2 (by omega)).mono ?_
  rintro e w2 ⟨⟨r3, rfl, hr3⟩, hx⟩
  have BA2 := BA.next hx
  have HX2 : Hid (Nx w w2) := HX.out.trans hx
  clear hx BA k0 HX
  have k0 := BA2.cell (i := 3) rfl
  rcases hr3 with hr3 | ⟨hr3, hr3', hw, hf⟩
  · go_wp2
    go_ret
    exact ⟨⟨-1, rfl, Or.inl (by omega)⟩, HX2.out⟩
  have HS2 : Hid (N.rels.length ≤ 1048576 ∧ ∀ i, i < N.rels.length → (rat N.rels i).ways.length ≤ 1048576) := ⟨hw, hf⟩
  clear hw hf
  have d1 := szI_bd r3 N.turns.length hr3
  obtain ⟨d1, d2, d3⟩ := d1
  have HD3 : Hid (0 ≤ szI r3 N.turns.length → szI r3 N.turns.length + N.turns.length = r3) := d3
  clear d3
  generalize hr4 : szI r3 N.turns.length = r4 at *
  have HR4 : Hid (szI r3 N.turns.length = r4) := hr4
  clear hr4
  go_wp2_with fail
  refine (szTurns_any _ _ _ _ _ hn3 hr3 (by omega)).mono ?_
  rintro e w3 ⟨rfl, rfl⟩
  rw [HR4.out]
  by_cases hneg4 : r4 < 0
  · go_wp2
    go_ret
    exact ⟨⟨-1, rfl, Or.inl (by omega)⟩, HX2.out⟩
  have HS3 : Hid (N.turns.length ≤ 1048576) := by have := HD3.out (by omega); unfold Hid; omega
  go_wp2
  go_ret
  exact ⟨⟨r4, rfl, Or.inr ⟨by omega, ⟨HS0.out, HS1.out.1, HS1.out.2.1, HS2.out.1, HS2.out.2, HS3.out⟩, by have := HS1.out.2.2; omega⟩⟩, HX2.out⟩

set_option maxHeartbeats 1000000 in
theorem eqNet_same (B B' : Nat) (v0 v1 v2 v3 u0 u1 u2 u3 : Value) (N : Nt) (w : World) (h0 : HNet B w v0 v1 v2 v3 N) (h1 : HNet B' w u0 u1 u2 u3 N) :
    Calls Tryd.prog 9 #[.agg #[v0, v1, v2, v3, .int .i64 N.uturn], .agg #[u0, u1, u2, u3, .int .i64 N.uturn]] w fun e w' => e = .returned (.bool true) ∧ Nx w w' := by
  have hd : (N.uturn != N.uturn) = false := by simp
  go_enter Tryd.func9, Tryd.ntmps9
  go_wp2_with fail
  refine (eqInts_same B B' _ _ N.nodes _ (by exact (h0.next (box2 _ _ _)).1) (by exact (h1.next (box2 _ _ _)).1)).mono ?_
  rintro e w1 ⟨rfl, hx⟩
  have HX : Hid (Nx w w1) := (box2 _ _ _).trans hx
  have BA : Blk w1 w.heap.size #[v0, v1, v2, v3, .int .i64 N.uturn] := ((Blk.new w _ 35 _ rfl).alloc _).next hx
  have BB : Blk w1 (w.heap.size + 1) #[u0, u1, u2, u3, .int .i64 N.uturn] := (Blk.new _ _ 35 _ (by simp)).next hx
  clear hx
  have k0 := BA.cell (i := 1) rfl
  have k1 := BB.cell (i := 1) rfl
  go_wp2_with fail
  refine (eqWays_same B B' _ _ N.ways _ (by exact (h0.next HX.out).2.1) (by exact (h1.next HX.out).2.1)).mono ?_
  rintro e w2 ⟨rfl, hx⟩
  have HX2 : Hid (Nx w w2) := HX.out.trans hx
  have BA2 := BA.next hx
  have BB2 := BB.next hx
  clear hx BA BB k0 k1 HX
  have k0 := BA2.cell (i := 2) rfl
  have k1 := BB2.cell (i := 2) rfl
  go_wp2_with fail
  refine (eqRels_same B B' _ _ N.rels _ (by exact (h0.next HX2.out).2.2.1) (by exact (h1.next HX2.out).2.2.1)).mono ?_
  rintro e w3 ⟨rfl, hx⟩
  have HX3 : Hid (Nx w w3) := HX2.out.trans hx
  have BA3 := BA2.next hx
  have BB3 := BB2.next hx
  clear hx BA2 BB2 k0 k1 HX2
  have k0 := BA3.cell (i := 3) rfl
  have k1 := BB3.cell (i := 3) rfl
  go_wp2_with fail
  refine (eqTurns_same B B' _ _ N.turns _ (by exact (h0.next HX3.out).2.2.2) (by exact (h1.next HX3.out).2.2.2)).mono ?_
  rintro e w4 ⟨rfl, hx⟩
  have HX4 : Hid (Nx w w4) := HX3.out.trans hx
  have BA4 := BA3.next hx
  have BB4 := BB3.next hx
  clear hx BA3 BB3 k0 k1 HX3
  have k0 := BA4.cell (i := 4) rfl
  have k1 := BB4.cell (i := 4) rfl
  go_wp2
  go_ret
  exact ⟨rfl, HX4.out⟩
end Go.Proofs.YtedhchmigeooiaaDoor
