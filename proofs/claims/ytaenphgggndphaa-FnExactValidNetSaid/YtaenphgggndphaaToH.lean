import Derived.Test.YtaenphgggndphaaToE
import Derived.Test.YtaenphgggndphaaToF
import Derived.Test.YtaenphgggndphaaToG
namespace Go.Proofs.Ytaenphgggndphaa
open Go.RowKit
set_option linter.unusedVariables false

theorem set_keeps {B : Nat} (w : World) {g : Nat} (o : Nat) (hg : g < B) (u : Value) : Keeps B w (w.setCell ⟨g, o, none⟩ u) :=
  ⟨by simp [World.setCell], fun b hb _ o' => World.cell?_of_block (w := w) (Below.heap_setCell _ _ _ _ (by simp; omega))⟩
theorem HWays.base {B B' : Nat} {w : World} {v : Value} {xs : List Wy} (h : HWays B w v xs) (hB : B' ≤ B) : HWays B' w v xs :=
  HSlice.mono h hB (Nat.le_refl _) fun b off hb hs i hi hc => by
    obtain ⟨p, q, h0, h1, h2, h3, h4, h5⟩ := hc
    exact ⟨p, q, h0, h1, h2, h3, h4.base hB, h5.base hB⟩
theorem HRels.base {B B' : Nat} {w : World} {v : Value} {xs : List Rl} (h : HRels B w v xs) (hB : B' ≤ B) : HRels B' w v xs :=
  HSlice.mono h hB (Nat.le_refl _) fun b off hb hs i hi hc => by
    obtain ⟨p, h0, h1, h2, h3, h4, h5, h6, h7⟩ := hc
    exact ⟨p, h0, h1, h2, h3, h4, h5, h6, h7.base hB⟩
theorem HTurns.base {B B' : Nat} {w : World} {v : Value} {xs : List Tn} (h : HTurns B w v xs) (hB : B' ≤ B) : HTurns B' w v xs :=
  HSlice.mono h hB (Nat.le_refl _) fun b off hb hs i hi hc => hc

theorem Keeps.trans {B : Nat} {a b c : World} (h : Keeps B a b) (k : Keeps B b c) : Keeps B a c :=
  ⟨Nat.le_trans h.1 k.1, fun x hx hl o => (k.2 x hx (Nat.lt_of_lt_of_le hl h.1) o).trans (h.2 x hx hl o)⟩
structure Small (N : Nt) : Prop where
  nodes : N.nodes.length ≤ 1048576
  ways : N.ways.length ≤ 1048576
  way : ∀ i, i < N.ways.length → (wat N.ways i).nodes.length ≤ 1048576 ∧ (wat N.ways i).weights.length ≤ 1048576
  rels : N.rels.length ≤ 1048576
  rel : ∀ i, i < N.rels.length → (rat N.rels i).ways.length ≤ 1048576
  turns : N.turns.length ≤ 1048576

set_option maxHeartbeats 1000000 in
theorem toNet_any (B : Nat) (v0 v1 v2 v3 : Value) (N : Nt) (w : World) (h0 : HNet B w v0 v1 v2 v3 N) (hs : Small N) :
    Calls Try.prog 6 #[.agg #[v0, v1, v2, v3, .int .i64 N.uturn]] w fun e w' => (∃ a0 n0 c0 a1 n1 c1 a2 n2 c2 a3 n3 c3, e = .returned (.agg #[.slice a0 n0 c0, .slice a1 n1 c1, .slice a2 n2 c2, .slice a3 n3 c3, .int .i64 N.uturn]) ∧ HNet w.heap.size w' (.slice a0 n0 c0) (.slice a1 n1 c1) (.slice a2 n2 c2) (.slice a3 n3 c3) N) ∧ Nx w w' := by
  obtain ⟨i0, i1, i2, i3⟩ := h0
  go_enter Try.func6, Try.ntmps6
  go_wp2_with fail
  have HXX : Hid (Nx w (((w.alloc (.cells #[v0, v1, v2, v3, .int .i64 N.uturn] 27)).alloc (.cells #[.slice none 0 0, .slice none 0 0, .slice none 0 0, .slice none 0 0, .int .i64 0] 34)).alloc (.cells #[.slice none 0 0, .slice none 0 0, .slice none 0 0, .slice none 0 0, .int .i64 0] 34))) := (box2 _ _ _).alloc _
  have BA : Blk (((w.alloc (.cells #[v0, v1, v2, v3, .int .i64 N.uturn] 27)).alloc (.cells #[.slice none 0 0, .slice none 0 0, .slice none 0 0, .slice none 0 0, .int .i64 0] 34)).alloc (.cells #[.slice none 0 0, .slice none 0 0, .slice none 0 0, .slice none 0 0, .int .i64 0] 34)) w.heap.size #[v0, v1, v2, v3, .int .i64 N.uturn] := ((Blk.new w _ 27 _ rfl).alloc _).alloc _
  have BB : Blk (((w.alloc (.cells #[v0, v1, v2, v3, .int .i64 N.uturn] 27)).alloc (.cells #[.slice none 0 0, .slice none 0 0, .slice none 0 0, .slice none 0 0, .int .i64 0] 34)).alloc (.cells #[.slice none 0 0, .slice none 0 0, .slice none 0 0, .slice none 0 0, .int .i64 0] 34)) (w.heap.size + 1) #[.slice none 0 0, .slice none 0 0, .slice none 0 0, .slice none 0 0, .int .i64 0] := (Blk.new _ _ 34 _ (by simp)).alloc _
  have BC : Blk (((w.alloc (.cells #[v0, v1, v2, v3, .int .i64 N.uturn] 27)).alloc (.cells #[.slice none 0 0, .slice none 0 0, .slice none 0 0, .slice none 0 0, .int .i64 0] 34)).alloc (.cells #[.slice none 0 0, .slice none 0 0, .slice none 0 0, .slice none 0 0, .int .i64 0] 34)) (w.heap.size + 1 + 1) #[.slice none 0 0, .slice none 0 0, .slice none 0 0, .slice none 0 0, .int .i64 0] := Blk.new _ _ 34 _ (by simp)
  have hsz : w.heap.size + 3 ≤ (((w.alloc (.cells #[v0, v1, v2, v3, .int .i64 N.uturn] 27)).alloc (.cells #[.slice none 0 0, .slice none 0 0, .slice none 0 0, .slice none 0 0, .int .i64 0] 34)).alloc (.cells #[.slice none 0 0, .slice none 0 0, .slice none 0 0, .slice none 0 0, .int .i64 0] 34)).heap.size := by simp
  refine (toInts_any B _ N.nodes _ (by exact i0.keep (HXX.out.keeps B)) hs.nodes).mono ?_
  rintro e w0 ⟨⟨a0, n0, c0, rfl, g0⟩, hx⟩
  have HX : Hid (Nx w w0) := HXX.out.trans hx
  clear HXX
  have BA := BA.next hx
  have BB := BB.next hx
  have BC := BC.next hx
  have G0 : Hid (HInts (w.heap.size + 3) w0 (.slice a0 n0 c0) N.nodes) := g0.base hsz
  have hsz : w.heap.size + 3 ≤ w0.heap.size := Nat.le_trans hsz hx.size
  clear hx g0
  have k0 := BA.cell (i := 1) rfl
  have k1 := BC.cell (i := 0) rfl
  have k2 := BC.frozen 0
  have HS : Hid (w.heap.size + 3 ≤ w0.heap.size) := hsz
  go_wp2_with fail
  have HXX : Hid (Nx w (w0.setCell ⟨w.heap.size + 1 + 1, 0, none⟩ (.slice a0 n0 c0))) := Below.setCell HX.out (by simp; omega) _
  have BA := BA.setOther (g := w.heap.size + 1 + 1) (by omega) 0 (.slice a0 n0 c0)
  have BB := BB.setOther (g := w.heap.size + 1 + 1) (by omega) 0 (.slice a0 n0 c0)
  have BC := BC.set 0 (.slice a0 n0 c0)
  have hsz : w.heap.size + 3 ≤ (w0.setCell ⟨w.heap.size + 1 + 1, 0, none⟩ (.slice a0 n0 c0)).heap.size := by simp only [World.setCell, Array.size_modify]; exact HS.out
  have G0 : Hid (HInts (w.heap.size + 3) (w0.setCell ⟨w.heap.size + 1 + 1, 0, none⟩ (.slice a0 n0 c0)) (.slice a0 n0 c0) N.nodes) := G0.out.keep (set_keeps _ _ (by omega) _)
  clear k0 k1 k2 HS HX
  refine (toWays_any B _ N.ways _ (by exact i1.keep (HXX.out.keeps B)) hs.ways hs.way).mono ?_
  rintro e w1 ⟨⟨a1, n1, c1, rfl, g1⟩, hx⟩
  have HX : Hid (Nx w w1) := HXX.out.trans hx
  clear HXX
  have BA := BA.next hx
  have BB := BB.next hx
  have BC := BC.next hx
  have G1 : Hid (HWays (w.heap.size + 3) w1 (.slice a1 n1 c1) N.ways) := g1.base hsz
  have G0 : Hid (HInts (w.heap.size + 3) w1 (.slice a0 n0 c0) N.nodes) := G0.out.keep (hx.keeps _)
  have hsz : w.heap.size + 3 ≤ w1.heap.size := Nat.le_trans hsz hx.size
  clear hx g1
  have k0 := BA.cell (i := 2) rfl
  have k1 := BC.cell (i := 1) rfl
  have k2 := BC.frozen 1
  have HS : Hid (w.heap.size + 3 ≤ w1.heap.size) := hsz
  go_wp2_with fail
  have HXX : Hid (Nx w (w1.setCell ⟨w.heap.size + 1 + 1, 1, none⟩ (.slice a1 n1 c1))) := Below.setCell HX.out (by simp; omega) _
  have BA := BA.setOther (g := w.heap.size + 1 + 1) (by omega) 1 (.slice a1 n1 c1)
  have BB := BB.setOther (g := w.heap.size + 1 + 1) (by omega) 1 (.slice a1 n1 c1)
  have BC := BC.set 1 (.slice a1 n1 c1)
  have hsz : w.heap.size + 3 ≤ (w1.setCell ⟨w.heap.size + 1 + 1, 1, none⟩ (.slice a1 n1 c1)).heap.size := by simp only [World.setCell, Array.size_modify]; exact HS.out
  have G0 : Hid (HInts (w.heap.size + 3) (w1.setCell ⟨w.heap.size + 1 + 1, 1, none⟩ (.slice a1 n1 c1)) (.slice a0 n0 c0) N.nodes) := G0.out.keep (set_keeps _ _ (by omega) _)
  have G1 : Hid (HWays (w.heap.size + 3) (w1.setCell ⟨w.heap.size + 1 + 1, 1, none⟩ (.slice a1 n1 c1)) (.slice a1 n1 c1) N.ways) := G1.out.keep (set_keeps _ _ (by omega) _)
  clear k0 k1 k2 HS HX
  refine (toRels_any B _ N.rels _ (by exact i2.keep (HXX.out.keeps B)) hs.rels hs.rel).mono ?_
  rintro e w2 ⟨⟨a2, n2, c2, rfl, g2⟩, hx⟩
  have HX : Hid (Nx w w2) := HXX.out.trans hx
  clear HXX
  have BA := BA.next hx
  have BB := BB.next hx
  have BC := BC.next hx
  have G2 : Hid (HRels (w.heap.size + 3) w2 (.slice a2 n2 c2) N.rels) := g2.base hsz
  have G0 : Hid (HInts (w.heap.size + 3) w2 (.slice a0 n0 c0) N.nodes) := G0.out.keep (hx.keeps _)
  have G1 : Hid (HWays (w.heap.size + 3) w2 (.slice a1 n1 c1) N.ways) := G1.out.keep (hx.keeps _)
  have hsz : w.heap.size + 3 ≤ w2.heap.size := Nat.le_trans hsz hx.size
  clear hx g2
  have k0 := BA.cell (i := 3) rfl
  have k1 := BC.cell (i := 2) rfl
  have k2 := BC.frozen 2
  have HS : Hid (w.heap.size + 3 ≤ w2.heap.size) := hsz
  go_wp2_with fail
  have HXX : Hid (Nx w (w2.setCell ⟨w.heap.size + 1 + 1, 2, none⟩ (.slice a2 n2 c2))) := Below.setCell HX.out (by simp; omega) _
  have BA := BA.setOther (g := w.heap.size + 1 + 1) (by omega) 2 (.slice a2 n2 c2)
  have BB := BB.setOther (g := w.heap.size + 1 + 1) (by omega) 2 (.slice a2 n2 c2)
  have BC := BC.set 2 (.slice a2 n2 c2)
  have hsz : w.heap.size + 3 ≤ (w2.setCell ⟨w.heap.size + 1 + 1, 2, none⟩ (.slice a2 n2 c2)).heap.size := by simp only [World.setCell, Array.size_modify]; exact HS.out
  have G0 : Hid (HInts (w.heap.size + 3) (w2.setCell ⟨w.heap.size + 1 + 1, 2, none⟩ (.slice a2 n2 c2)) (.slice a0 n0 c0) N.nodes) := G0.out.keep (set_keeps _ _ (by omega) _)
  have G1 : Hid (HWays (w.heap.size + 3) (w2.setCell ⟨w.heap.size + 1 + 1, 2, none⟩ (.slice a2 n2 c2)) (.slice a1 n1 c1) N.ways) := G1.out.keep (set_keeps _ _ (by omega) _)
  have G2 : Hid (HRels (w.heap.size + 3) (w2.setCell ⟨w.heap.size + 1 + 1, 2, none⟩ (.slice a2 n2 c2)) (.slice a2 n2 c2) N.rels) := G2.out.keep (set_keeps _ _ (by omega) _)
  clear k0 k1 k2 HS HX
  refine (toTurns_any B _ N.turns _ (by exact i3.keep (HXX.out.keeps B)) hs.turns).mono ?_
  rintro e w3 ⟨⟨a3, n3, c3, rfl, g3⟩, hx⟩
  have HX : Hid (Nx w w3) := HXX.out.trans hx
  clear HXX
  have BA := BA.next hx
  have BB := BB.next hx
  have BC := BC.next hx
  have G3 : Hid (HTurns (w.heap.size + 3) w3 (.slice a3 n3 c3) N.turns) := g3.base hsz
  have G0 : Hid (HInts (w.heap.size + 3) w3 (.slice a0 n0 c0) N.nodes) := G0.out.keep (hx.keeps _)
  have G1 : Hid (HWays (w.heap.size + 3) w3 (.slice a1 n1 c1) N.ways) := G1.out.keep (hx.keeps _)
  have G2 : Hid (HRels (w.heap.size + 3) w3 (.slice a2 n2 c2) N.rels) := G2.out.keep (hx.keeps _)
  have hsz : w.heap.size + 3 ≤ w3.heap.size := Nat.le_trans hsz hx.size
  clear hx g3
  have k0 := BA.cell (i := 4) rfl
  have l0 := BC.cell (i := 0) rfl
  have m0 := BB.cell (i := 0) rfl
  have f0 := BB.frozen 0
  have l1 := BC.cell (i := 1) rfl
  have m1 := BB.cell (i := 1) rfl
  have f1 := BB.frozen 1
  have l2 := BC.cell (i := 2) rfl
  have m2 := BB.cell (i := 2) rfl
  have f2 := BB.frozen 2
  have l3 := BC.cell (i := 3) rfl
  have m3 := BB.cell (i := 3) rfl
  have f3 := BB.frozen 3
  have l4 := BC.cell (i := 4) rfl
  have m4 := BB.cell (i := 4) rfl
  have f4 := BB.frozen 4
  have f5 := BC.frozen 3
  have f6 := BC.frozen 4
  go_wp2
  have K7 := ((((((set_keeps (B := w.heap.size + 3) w3 (g := w.heap.size + 1 + 1) 3 (by omega) (.slice a3 n3 c3)).trans (set_keeps _ (g := w.heap.size + 1 + 1) 4 (by omega) (.int .i64 N.uturn))).trans (set_keeps _ (g := w.heap.size + 1) 0 (by omega) (.slice a0 n0 c0))).trans (set_keeps _ (g := w.heap.size + 1) 1 (by omega) (.slice a1 n1 c1))).trans (set_keeps _ (g := w.heap.size + 1) 2 (by omega) (.slice a2 n2 c2))).trans (set_keeps _ (g := w.heap.size + 1) 3 (by omega) (.slice a3 n3 c3))).trans (set_keeps _ (g := w.heap.size + 1) 4 (by omega) (.int .i64 N.uturn))
  refine bodyPost_ret (v := .agg #[.slice a0 n0 c0, .slice a1 n1 c1, .slice a2 n2 c2, .slice a3 n3 c3, .int .i64 N.uturn]) (by simp [results, Try.results6, go_sem, m0, m1, m2, m3, m4]) rfl ⟨⟨a0, n0, c0, a1, n1, c1, a2, n2, c2, a3, n3, c3, rfl, ?_, ?_, ?_, ?_⟩, ?_⟩
  · exact (G0.out.keep K7).base (by omega)
  · exact (G1.out.keep K7).base (by omega)
  · exact (G2.out.keep K7).base (by omega)
  · exact (G3.out.keep K7).base (by omega)
  · exact Below.setCell (Below.setCell (Below.setCell (Below.setCell (Below.setCell (Below.setCell (Below.setCell HX.out (by simp; omega) _) (by simp; omega) _) (by simp) _) (by simp) _) (by simp) _) (by simp) _) (by simp) _
end Go.Proofs.Ytaenphgggndphaa
