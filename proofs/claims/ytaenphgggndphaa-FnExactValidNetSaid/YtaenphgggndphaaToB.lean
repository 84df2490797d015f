import Derived.Test.YtaenphgggndphaaToA
namespace Go.Proofs.Ytaenphgggndphaa
open Go.RowKit
set_option linter.unusedVariables false

theorem HInts.base {B B' : Nat} {w : World} {v : Value} {zs : List Int} (h : HInts B w v zs) (hB : B' ≤ B) : HInts B' w v zs :=
  HSlice.mono h hB (Nat.le_refl _) fun b off hb hs i hi hc => hc
/-- a store into a block below the base -/
theorem HInts.store {B : Nat} {w : World} {v : Value} {zs : List Int} (h : HInts B w v zs) {g o : Nat} (hg : g < B) (u : Value) : HInts B (w.setCell ⟨g, o, none⟩ u) v zs :=
  h.keep ⟨by simp [World.setCell], fun b hb _ o' => World.cell?_of_block (w := w) (Below.heap_setCell _ _ _ _ (by simp; omega))⟩

/-- block b holds these cells, none of them frozen -/
def Blk (w : World) (b : Nat) (cs : Array Value) : Prop := ∃ t, w.heap[b]? = some (.cells cs t (0, 0))
theorem Blk.lt {w : World} {b : Nat} {cs : Array Value} (h : Blk w b cs) : b < w.heap.size := by
  obtain ⟨t, h⟩ := h
  exact (Array.getElem?_eq_some_iff.1 h).1
theorem Blk.cell {w : World} {b : Nat} {cs : Array Value} (h : Blk w b cs) {i : Nat} {v : Value} (hi : cs[i]? = some v) : w.cell? ⟨b, i, none⟩ = some v := by
  obtain ⟨t, h⟩ := h
  simp [World.cell?, h, hi]
theorem Blk.frozen {w : World} {b : Nat} {cs : Array Value} (h : Blk w b cs) (i : Nat) : w.frozen? ⟨b, i, none⟩ = false := by
  obtain ⟨t, h⟩ := h
  simp [World.frozen?, h]
theorem Blk.next {w w' : World} {b : Nat} {cs : Array Value} (h : Blk w b cs) (k : Nx w w') : Blk w' b cs := by
  have hl := h.lt
  obtain ⟨t, h⟩ := h
  exact ⟨t, (k.block b hl).trans h⟩
theorem Blk.drew {w : World} {b : Nat} {cs : Array Value} (h : Blk w b cs) : Blk w.drew b cs := h
theorem Blk.new (w : World) (cs : Array Value) (t : TypeId) (n : Nat) (hn : n = w.heap.size) : Blk (w.alloc (.cells cs t)) n cs := by
  subst hn
  exact ⟨t, by show (w.heap.push _)[w.heap.size]? = _; simp⟩
theorem Blk.alloc {w : World} {b : Nat} {cs : Array Value} (h : Blk w b cs) (o : Obj) : Blk (w.alloc o) b cs := h.next (by exact Below.alloc (Below.refl _ _) (Nat.le_refl _) _)
theorem Blk.set {w : World} {b : Nat} {cs : Array Value} (h : Blk w b cs) (i : Nat) (v : Value) : Blk (w.setCell ⟨b, i, none⟩ v) b (cs.setIfInBounds i v) := by
  obtain ⟨t, h⟩ := h
  exact ⟨t, by simp [World.setCell, Array.getElem?_modify, h]⟩
theorem Blk.setOther {w : World} {b : Nat} {cs : Array Value} (h : Blk w b cs) {g : Nat} (hg : b ≠ g) (i : Nat) (v : Value) : Blk (w.setCell ⟨g, i, none⟩ v) b cs := by
  obtain ⟨t, h⟩ := h
  exact ⟨t, (Below.heap_setCell _ _ _ _ hg).trans h⟩

set_option maxHeartbeats 400000 in
theorem toWay_any (B : Nat) (id : Int) (both : Bool) (p q : Value) (ns ws : List Int) (w : World) (h0 : HInts B w p ns) (h1 : HInts B w q ws) (hs0 : ns.length ≤ 1048576) (hs1 : ws.length ≤ 1048576) :
    Calls Try.prog 35 #[.agg #[.int .i64 id, .bool both, p, q]] w fun e w' => (∃ a m c a' m' c', e = .returned (.agg #[.int .i64 id, .bool both, .slice a m c, .slice a' m' c']) ∧ HInts w.heap.size w' (.slice a m c) ns ∧ HInts w.heap.size w' (.slice a' m' c') ws) ∧ Nx w w' := by
  go_enter Try.func35, Try.ntmps35
  go_wp2_with fail
  refine (toInts_any B _ ns _ (h0.next (((box2 _ _ _).alloc _))) hs0).mono ?_
  rintro e w1 ⟨⟨a1, n1, c1, rfl, g1⟩, hx⟩
  have HX : Hid (Nx w w1) := ((box2 _ _ _).alloc _).trans hx
  have BA : Blk w1 w.heap.size #[.int .i64 id, .bool both, p, q] := (((Blk.new w _ 62 _ rfl).alloc _).alloc _).next hx
  have BB : Blk w1 (w.heap.size + 1) #[.int .i64 0, .bool false, .slice none 0 0, .slice none 0 0] := ((Blk.new _ _ 45 _ (by simp)).alloc _).next hx
  have BC : Blk w1 (w.heap.size + 1 + 1) #[.int .i64 id, .bool both, .slice none 0 0, .slice none 0 0] := (Blk.new _ _ 45 _ (by simp)).next hx
  have G1 : Hid (HInts (w.heap.size + 3) w1 (.slice a1 n1 c1) ns) := g1.base (by simp)
  clear hx g1
  have k0 := BA.cell (i := 3) rfl
  have k1 := BC.cell (i := 2) rfl
  have k2 := BC.frozen 2
  have BC' := BC.set 2 (.slice a1 n1 c1)
  have BB' := BB.setOther (g := w.heap.size + 1 + 1) (by omega) 2 (.slice a1 n1 c1)
  have hz := BC.lt
  go_wp2_with fail
  have hy : Nx w (w1.setCell ⟨w.heap.size + 1 + 1, 2, none⟩ (.slice a1 n1 c1)) := Below.setCell HX.out (by simp; omega) _
  refine (toInts_any B _ ws _ (h1.next hy) hs1).mono ?_
  rintro e w2 ⟨⟨a2, n2, c2, rfl, g2⟩, hx2⟩
  have HX2 : Hid (Nx w w2) := hy.trans hx2
  have BC2 := BC'.next hx2
  have BB2 := BB'.next hx2
  have G2 : Hid (HInts (w.heap.size + 3) w2 (.slice a2 n2 c2) ws) := g2.base (by simp [World.setCell]; omega)
  have G1' : Hid (HInts (w.heap.size + 3) w2 (.slice a1 n1 c1) ns) := (G1.out.store (by omega) _).keep (hx2.keeps _)
  clear hx2 g2 G1 hy BA BB BC BC' BB' k0 k1 k2 hz
  have k0 := BC2.cell (i := 0) rfl
  have k1 := BC2.cell (i := 1) rfl
  have k2 := BC2.cell (i := 2) rfl
  have k3 := BC2.cell (i := 3) rfl
  have k4 := BC2.frozen 3
  have j0 := BB2.cell (i := 0) rfl
  have j1 := BB2.cell (i := 1) rfl
  have j2 := BB2.cell (i := 2) rfl
  have j3 := BB2.cell (i := 3) rfl
  have f0 := BB2.frozen 0
  have f1 := BB2.frozen 1
  have f2 := BB2.frozen 2
  have f3 := BB2.frozen 3
  go_wp2
  refine bodyPost_ret (v := .agg #[.int .i64 id, .bool both, .slice a1 n1 c1, .slice a2 n2 c2]) (by simp [results, Try.results35, go_sem, j0, j1, j2, j3]) rfl ⟨⟨a1, n1, c1, a2, n2, c2, rfl, ?_, ?_⟩, ?_⟩
  · exact (((((G1'.out.store (by omega) _).store (by omega) _).store (by omega) _).store (by omega) _).store (by omega) _).base (by omega)
  · exact (((((G2.out.store (by omega) _).store (by omega) _).store (by omega) _).store (by omega) _).store (by omega) _).base (by omega)
  · exact Below.setCell (Below.setCell (Below.setCell (Below.setCell (Below.setCell HX2.out (by simp; omega) _) (by simp) _) (by simp) _) (by simp) _) (by simp) _
end Go.Proofs.Ytaenphgggndphaa
