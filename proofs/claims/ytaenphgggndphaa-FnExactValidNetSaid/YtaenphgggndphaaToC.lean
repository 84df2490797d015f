import Derived.Test.YtaenphgggndphaaToB
namespace Go.Proofs.Ytaenphgggndphaa
open Go.RowKit
set_option linter.unusedVariables false

set_option maxHeartbeats 400000 in
theorem toTurn_any (x : Tn) (w : World) :
    Calls Try.prog 37 #[.agg #[.int .i64 x.frm, .int .i64 x.to, .int .i64 x.cost]] w fun e w' => e = .returned (.agg #[.int .i64 x.frm, .int .i64 x.to, .int .i64 x.cost]) ∧ Nx w w' := by
  go_enter Try.func37, Try.ntmps37
  go_wp2
  refine bodyPost_ret (v := .agg #[.int .i64 x.frm, .int .i64 x.to, .int .i64 x.cost]) (by simp [results, Try.results37, go_sem]) rfl ⟨rfl, ?_⟩
  exact (box2 _ _ _).alloc _

set_option maxHeartbeats 400000 in
theorem toRel_any (B : Nat) (x : Rl) (p : Value) (w : World) (h0 : HInts B w p x.ways) (hs0 : x.ways.length ≤ 1048576) :
    Calls Try.prog 36 #[.agg #[.int .i64 x.id, .bool x.only, .int .i64 x.frm, .int .i64 x.to, .bool x.via, .int .i64 x.node, p]] w fun e w' => (∃ a m c, e = .returned (.agg #[.int .i64 x.id, .bool x.only, .int .i64 x.frm, .int .i64 x.to, .bool x.via, .int .i64 x.node, .slice a m c]) ∧ HInts w.heap.size w' (.slice a m c) x.ways) ∧ Nx w w' := by
  go_enter Try.func36, Try.ntmps36
  go_wp2_with fail
  refine (toInts_any B _ x.ways _ (h0.next (((box2 _ _ _).alloc _))) hs0).mono ?_
  rintro e w1 ⟨⟨a1, n1, c1, rfl, g1⟩, hx⟩
  have HX : Hid (Nx w w1) := ((box2 _ _ _).alloc _).trans hx
  have BB2 : Blk w1 (w.heap.size + 1) #[.int .i64 0, .bool false, .int .i64 0, .int .i64 0, .bool false, .int .i64 0, .slice none 0 0] := ((Blk.new _ _ 49 _ (by simp)).alloc _).next hx
  have BC2 : Blk w1 (w.heap.size + 1 + 1) #[.int .i64 x.id, .bool x.only, .int .i64 x.frm, .int .i64 x.to, .bool x.via, .int .i64 x.node, .slice none 0 0] := (Blk.new _ _ 49 _ (by simp)).next hx
  have G1 : Hid (HInts (w.heap.size + 3) w1 (.slice a1 n1 c1) x.ways) := g1.base (by simp)
  clear hx g1
  have k0 := BC2.cell (i := 0) rfl
  have k1 := BC2.cell (i := 1) rfl
  have k2 := BC2.cell (i := 2) rfl
  have k3 := BC2.cell (i := 3) rfl
  have k4 := BC2.cell (i := 4) rfl
  have k5 := BC2.cell (i := 5) rfl
  have k6 := BC2.cell (i := 6) rfl
  have kf := BC2.frozen 6
  have j0 := BB2.cell (i := 0) rfl
  have j1 := BB2.cell (i := 1) rfl
  have j2 := BB2.cell (i := 2) rfl
  have j3 := BB2.cell (i := 3) rfl
  have j4 := BB2.cell (i := 4) rfl
  have j5 := BB2.cell (i := 5) rfl
  have j6 := BB2.cell (i := 6) rfl
  have f0 := BB2.frozen 0
  have f1 := BB2.frozen 1
  have f2 := BB2.frozen 2
  have f3 := BB2.frozen 3
  have f4 := BB2.frozen 4
  have f5 := BB2.frozen 5
  have f6 := BB2.frozen 6
  go_wp2
  refine bodyPost_ret (v := .agg #[.int .i64 x.id, .bool x.only, .int .i64 x.frm, .int .i64 x.to, .bool x.via, .int .i64 x.node, .slice a1 n1 c1]) (by simp [results, Try.results36, go_sem, j0, j1, j2, j3, j4, j5, j6]) rfl ⟨⟨a1, n1, c1, rfl, ?_⟩, ?_⟩
  · exact ((((((((G1.out.store (by omega) _).store (by omega) _).store (by omega) _).store (by omega) _).store (by omega) _).store (by omega) _).store (by omega) _).store (by omega) _).base (by omega)
  · exact Below.setCell (Below.setCell (Below.setCell (Below.setCell (Below.setCell (Below.setCell (Below.setCell (Below.setCell HX.out (by simp; omega) _) (by simp) _) (by simp) _) (by simp) _) (by simp) _) (by simp) _) (by simp) _) (by simp) _
end Go.Proofs.Ytaenphgggndphaa
