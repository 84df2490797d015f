import Derived.Test.YtmpkjlknnicdaaaMkC
namespace Go.Proofs.Ytmpkjlknnicdaaa
open Go.RowKit
set_option linter.unusedVariables false

theorem Mk.rebase {B : Nat} {w0 w1 w : World} (h : Mk B w0 w1 w) : Mk B w0 w w :=
  ⟨rfl, rfl, rfl, Nat.le_refl _, Nat.le_trans h.le h.size, fun _ _ _ => rfl, h.like⟩
theorem Mk.trans {B : Nat} {w0 w1 w w' : World} (h : Mk B w0 w1 w) (k : Mk B w0 w w') : Mk B w0 w1 w' :=
  ⟨k.os.trans h.os, k.tape.trans h.tape, k.output.trans h.output, Nat.le_trans h.size k.size, h.le, fun b hb hn => (k.same b (Nat.lt_of_lt_of_le hb h.size) hn).trans (h.same b hb hn), k.like⟩
theorem Blk.mk {B : Nat} {w0 w1 w : World} {b : Nat} {cs : Array Value} (h : Blk w1 b cs) (k : Mk B w0 w1 w) (hb : w0.heap.size ≤ b) : Blk w b cs := by
  have hl := h.lt
  obtain ⟨t, h⟩ := h
  exact ⟨t, (k.same b hl (by omega)).trans h⟩

set_option maxHeartbeats 1000000 in
theorem markNet_any (B : Nat) (w0 w1 : World) (v0 v1 v2 v3 : Value) (N : Nt) (w : World) (h0 : HNet B w0 v0 v1 v2 v3 N) (hm : Mk B w0 w1 w) (hs : Small N) :
    Calls Try.prog 13 #[.agg #[v0, v1, v2, v3, .int .i64 N.uturn], .int .i64 1] w fun e w' => (∃ r : Int, e = .returned (.int .i64 r) ∧ 0 ≤ r) ∧ Mk B w0 w1 w' := by
  obtain ⟨i0, i1, i2, i3⟩ := h0
  have s0 := hs.nodes
  have s1 := hs.ways
  have s2 := hs.rels
  have s3 := hs.turns
  have HM : Hid (Mk B w0 w1 (w.alloc (.cells #[v0, v1, v2, v3, .int .i64 N.uturn] 34))) := hm.alloc _
  have hbz : w0.heap.size ≤ w.heap.size := Nat.le_trans hm.le hm.size
  have BA : Blk (w.alloc (.cells #[v0, v1, v2, v3, .int .i64 N.uturn] 34)) w.heap.size #[v0, v1, v2, v3, .int .i64 N.uturn] := Blk.new w _ 34 _ rfl
  clear hm
  go_enter Try.func13, Try.ntmps13
  go_wp2_with fail
  refine (markInts_any B w0 _ _ N.nodes _ 1 i0 HM.out.rebase s0 (by omega) (by omega)).mono ?_
  rintro e w2 ⟨rfl, hm2⟩
  have BA := BA.mk hm2 hbz
  have HM := HM.out.trans hm2
  have k0 := BA.cell (i := 1) rfl
  clear hm2
  have HM : Hid _ := HM
  go_wp2_with fail
  refine (markWays_any B w0 _ _ N.ways _ _ i1 HM.out.rebase s1 hs.way (by omega) (by omega)).mono ?_
  rintro e w3 ⟨⟨r3, rfl, hr0, hr1⟩, hm2⟩
  have BA := BA.mk hm2 hbz
  have HM := HM.out.trans hm2
  clear k0 hm2
  have k0 := BA.cell (i := 2) rfl
  have HM : Hid _ := HM
  go_wp2_with fail
  refine (markRels_any B w0 _ _ N.rels _ _ i2 HM.out.rebase s2 hs.rel (by omega) (by omega)).mono ?_
  rintro e w4 ⟨⟨r4, rfl, hr2, hr3⟩, hm2⟩
  have BA := BA.mk hm2 hbz
  have HM := HM.out.trans hm2
  clear k0 hm2
  have k0 := BA.cell (i := 3) rfl
  have HM : Hid _ := HM
  go_wp2_with fail
  refine (markTurns_any B w0 _ _ N.turns _ _ i3 HM.out.rebase s3 (by omega) (by omega)).mono ?_
  rintro e w5 ⟨⟨r5, rfl, hr4, hr5⟩, hm2⟩
  have HM := HM.out.trans hm2
  go_wp2
  go_ret
  exact ⟨⟨r5, rfl, by omega⟩, HM⟩
end Go.Proofs.Ytmpkjlknnicdaaa
