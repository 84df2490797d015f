import Derived.Test.YtdjmlpgdaanipaaGA
namespace Go.Proofs.Ytdjmlpgdaanipaa
open Go.RowKit
set_option linter.unusedVariables false
set_option maxRecDepth 100000

structure Gr where
  eo : List Int
  so : List Int
  fi : List Int
  tt : List Int
  co : List Int
  sr : List Int
  we : List Int
/-- a graph in memory -/
structure HG (B : Nat) (w : World) (v0 v1 v2 v3 v4 v5 v6 : Value) (G : Gr) : Prop where
  h0 : HInts B w v0 G.eo
  h1 : HInts B w v1 G.so
  h2 : HInts B w v2 G.fi
  h3 : HInts B w v3 G.tt
  h4 : HInts B w v4 G.co
  h5 : HInts B w v5 G.sr
  h6 : HInts B w v6 G.we
  c3 : CapOk v3
theorem HG.keep {B : Nat} {w w' : World} {v0 v1 v2 v3 v4 v5 v6 : Value} {G : Gr} (h : HG B w v0 v1 v2 v3 v4 v5 v6 G) (k : Keeps B w w') : HG B w' v0 v1 v2 v3 v4 v5 v6 G := ⟨h.h0.keep k, h.h1.keep k, h.h2.keep k, h.h3.keep k, h.h4.keep k, h.h5.keep k, h.h6.keep k, h.c3⟩
theorem HG.next {B : Nat} {w w' : World} {v0 v1 v2 v3 v4 v5 v6 : Value} {G : Gr} (h : HG B w v0 v1 v2 v3 v4 v5 v6 G) (k : Nx w w') : HG B w' v0 v1 v2 v3 v4 v5 v6 G := h.keep (k.keeps B)
theorem HG.base {B B' : Nat} {w : World} {v0 v1 v2 v3 v4 v5 v6 : Value} {G : Gr} (h : HG B w v0 v1 v2 v3 v4 v5 v6 G) (k : B' ≤ B) : HG B' w v0 v1 v2 v3 v4 v5 v6 G := ⟨h.h0.base k, h.h1.base k, h.h2.base k, h.h3.base k, h.h4.base k, h.h5.base k, h.h6.base k, h.c3⟩
structure SmallG (G : Gr) : Prop where
  s0 : G.eo.length ≤ 1048576
  s1 : G.so.length ≤ 1048576
  s2 : G.fi.length ≤ 1048576
  s3 : G.tt.length ≤ 1048576
  s4 : G.co.length ≤ 1048576
  s5 : G.sr.length ≤ 1048576
  s6 : G.we.length ≤ 1048576

set_option maxHeartbeats 2000000 in
theorem szGraph_any (B : Nat) (v0 v1 v2 v3 v4 v5 v6 : Value) (G : Gr) (left : Int) (w : World) (h0 : HG B w v0 v1 v2 v3 v4 v5 v6 G) (hl0 : 0 ≤ left) (hl1 : left ≤ 1048576) :
    Calls Try.prog 7 #[.agg #[v0, v1, v2, v3, v4, v5, v6], .int .i64 left] w fun e w' => (∃ r : Int, e = .returned (.int .i64 r) ∧ (r < 0 ∨ (0 ≤ r ∧ SmallG G))) ∧ Nx w w' := by
  obtain ⟨⟨a0, c0, rfl, hn0, _⟩, ⟨a1, c1, rfl, hn1, _⟩, ⟨a2, c2, rfl, hn2, _⟩, ⟨a3, c3, rfl, hn3, _⟩, ⟨a4, c4, rfl, hn4, _⟩, ⟨a5, c5, rfl, hn5, _⟩, ⟨a6, c6, rfl, hn6, _⟩⟩ := h0
  have S0 : Hid (G.eo.length ≤ 1048576 ↔ G.eo.length ≤ 1048576) := Iff.rfl
  have S1 : Hid (G.so.length ≤ 1048576 ↔ G.so.length ≤ 1048576) := Iff.rfl
  have S2 : Hid (G.fi.length ≤ 1048576 ↔ G.fi.length ≤ 1048576) := Iff.rfl
  have S3 : Hid (G.tt.length ≤ 1048576 ↔ G.tt.length ≤ 1048576) := Iff.rfl
  have S4 : Hid (G.co.length ≤ 1048576 ↔ G.co.length ≤ 1048576) := Iff.rfl
  have S5 : Hid (G.sr.length ≤ 1048576 ↔ G.sr.length ≤ 1048576) := Iff.rfl
  have S6 : Hid (G.we.length ≤ 1048576 ↔ G.we.length ≤ 1048576) := Iff.rfl
  generalize hg0 : G.eo.length = n0 at *
  generalize hg1 : G.so.length = n1 at *
  generalize hg2 : G.fi.length = n2 at *
  generalize hg3 : G.tt.length = n3 at *
  generalize hg4 : G.co.length = n4 at *
  generalize hg5 : G.sr.length = n5 at *
  generalize hg6 : G.we.length = n6 at *
  have HS : Hid (n0 ≤ 1048576 → n1 ≤ 1048576 → n2 ≤ 1048576 → n3 ≤ 1048576 → n4 ≤ 1048576 → n5 ≤ 1048576 → n6 ≤ 1048576 → SmallG G) := fun g0 g1 g2 g3 g4 g5 g6 => ⟨by omega, by omega, by omega, by omega, by omega, by omega, by omega⟩
  clear hg0 S0 hg1 S1 hg2 S2 hg3 S3 hg4 S4 hg5 S5 hg6 S6
  go_enter Try.func7, Try.ntmps7
  have b0 := szI_bd left n0 (by omega)
  generalize hr0 : szI left n0 = r0 at *
  have HR0 : Hid (szI left n0 = r0) := hr0
  clear hr0
  obtain ⟨b0, d0, e0⟩ := b0
  go_wp2_with fail
  refine (szInts_any _ _ _ _ _ hn0 (by omega) (by omega)).mono ?_
  rintro e w1 ⟨rfl, rfl⟩
  rw [HR0.out]
  by_cases hneg0 : r0 < 0
  · go_wp2
    go_ret
    exact ⟨⟨-1, rfl, Or.inl (by omega)⟩, box1 _ _⟩
  have f0 := e0 (by omega)
  clear e0
  have b1 := szI_bd r0 n1 (by omega)
  generalize hr1 : szI r0 n1 = r1 at *
  have HR1 : Hid (szI r0 n1 = r1) := hr1
  clear hr1
  obtain ⟨b1, d1, e1⟩ := b1
  go_wp2_with fail
  refine (szInts_any _ _ _ _ _ hn1 (by omega) (by omega)).mono ?_
  rintro e w1 ⟨rfl, rfl⟩
  rw [HR1.out]
  by_cases hneg1 : r1 < 0
  · go_wp2
    go_ret
    exact ⟨⟨-1, rfl, Or.inl (by omega)⟩, box1 _ _⟩
  have f1 := e1 (by omega)
  clear e1
  have b2 := szI_bd r1 n2 (by omega)
  generalize hr2 : szI r1 n2 = r2 at *
  have HR2 : Hid (szI r1 n2 = r2) := hr2
  clear hr2
  obtain ⟨b2, d2, e2⟩ := b2
  go_wp2_with fail
  refine (szInts_any _ _ _ _ _ hn2 (by omega) (by omega)).mono ?_
  rintro e w1 ⟨rfl, rfl⟩
  rw [HR2.out]
  by_cases hneg2 : r2 < 0
  · go_wp2
    go_ret
    exact ⟨⟨-1, rfl, Or.inl (by omega)⟩, box1 _ _⟩
  have f2 := e2 (by omega)
  clear e2
  have b3 := szI_bd r2 n3 (by omega)
  generalize hr3 : szI r2 n3 = r3 at *
  have HR3 : Hid (szI r2 n3 = r3) := hr3
  clear hr3
  obtain ⟨b3, d3, e3⟩ := b3
  go_wp2_with fail
  refine (szInts_any _ _ _ _ _ hn3 (by omega) (by omega)).mono ?_
  rintro e w1 ⟨rfl, rfl⟩
  rw [HR3.out]
  by_cases hneg3 : r3 < 0
  · go_wp2
    go_ret
    exact ⟨⟨-1, rfl, Or.inl (by omega)⟩, box1 _ _⟩
  have f3 := e3 (by omega)
  clear e3
  have b4 := szI_bd r3 n4 (by omega)
  generalize hr4 : szI r3 n4 = r4 at *
  have HR4 : Hid (szI r3 n4 = r4) := hr4
  clear hr4
  obtain ⟨b4, d4, e4⟩ := b4
  go_wp2_with fail
  refine (szInts_any _ _ _ _ _ hn4 (by omega) (by omega)).mono ?_
  rintro e w1 ⟨rfl, rfl⟩
  rw [HR4.out]
  by_cases hneg4 : r4 < 0
  · go_wp2
    go_ret
    exact ⟨⟨-1, rfl, Or.inl (by omega)⟩, box1 _ _⟩
  have f4 := e4 (by omega)
  clear e4
  have b5 := szI_bd r4 n5 (by omega)
  generalize hr5 : szI r4 n5 = r5 at *
  have HR5 : Hid (szI r4 n5 = r5) := hr5
  clear hr5
  obtain ⟨b5, d5, e5⟩ := b5
  go_wp2_with fail
  refine (szInts_any _ _ _ _ _ hn5 (by omega) (by omega)).mono ?_
  rintro e w1 ⟨rfl, rfl⟩
  rw [HR5.out]
  by_cases hneg5 : r5 < 0
  · go_wp2
    go_ret
    exact ⟨⟨-1, rfl, Or.inl (by omega)⟩, box1 _ _⟩
  have f5 := e5 (by omega)
  clear e5
  have b6 := szI_bd r5 n6 (by omega)
  generalize hr6 : szI r5 n6 = r6 at *
  have HR6 : Hid (szI r5 n6 = r6) := hr6
  clear hr6
  obtain ⟨b6, d6, e6⟩ := b6
  go_wp2_with fail
  refine (szInts_any _ _ _ _ _ hn6 (by omega) (by omega)).mono ?_
  rintro e w1 ⟨rfl, rfl⟩
  rw [HR6.out]
  by_cases hneg6 : r6 < 0
  · go_wp2
    go_ret
    exact ⟨⟨-1, rfl, Or.inl (by omega)⟩, box1 _ _⟩
  have f6 := e6 (by omega)
  clear e6
  go_wp2
  go_ret
  exact ⟨⟨r6, rfl, Or.inr ⟨by omega, HS.out (by omega) (by omega) (by omega) (by omega) (by omega) (by omega) (by omega)⟩⟩, box1 _ _⟩

set_option maxHeartbeats 2000000 in
theorem eqGraph_same (B B' : Nat) (v0 v1 v2 v3 v4 v5 v6 u0 u1 u2 u3 u4 u5 u6 : Value) (G : Gr) (w : World) (h0 : HG B w v0 v1 v2 v3 v4 v5 v6 G) (h1 : HG B' w u0 u1 u2 u3 u4 u5 u6 G) :
    Calls Try.prog 11 #[.agg #[v0, v1, v2, v3, v4, v5, v6], .agg #[u0, u1, u2, u3, u4, u5, u6]] w fun e w' => e = .returned (.bool true) ∧ Nx w w' := by
  go_enter Try.func11, Try.ntmps11
  go_wp2_with fail
  refine (eqInts_same B B' _ _ G.eo _ (by exact (h0.next (box2 _ _ _)).h0) (by exact (h1.next (box2 _ _ _)).h0)).mono ?_
  rintro e w1 ⟨rfl, hx⟩
  have HX : Hid (Nx w w1) := (box2 _ _ _).trans hx
  have BA : Blk w1 w.heap.size #[v0, v1, v2, v3, v4, v5, v6] := ((Blk.new w _ 27 _ rfl).alloc _).next hx
  have BB : Blk w1 (w.heap.size + 1) #[u0, u1, u2, u3, u4, u5, u6] := (Blk.new _ _ 27 _ (by simp)).next hx
  clear hx
  have k0 := BA.cell (i := 1) rfl
  have k1 := BB.cell (i := 1) rfl
  go_wp2_with fail
  refine (eqInts_same B B' _ _ G.so _ (by exact (h0.next HX.out).h1) (by exact (h1.next HX.out).h1)).mono ?_
  rintro e w2 ⟨rfl, hx⟩
  have HX' : Hid (Nx w w2) := HX.out.trans hx
  have BA' := BA.next hx
  have BB' := BB.next hx
  clear hx BA BB HX k0 k1
  have HX := HX'
  have BA := BA'
  have BB := BB'
  clear HX' BA' BB'
  have k0 := BA.cell (i := 2) rfl
  have k1 := BB.cell (i := 2) rfl
  go_wp2_with fail
  refine (eqInts_same B B' _ _ G.fi _ (by exact (h0.next HX.out).h2) (by exact (h1.next HX.out).h2)).mono ?_
  rintro e w2 ⟨rfl, hx⟩
  have HX' : Hid (Nx w w2) := HX.out.trans hx
  have BA' := BA.next hx
  have BB' := BB.next hx
  clear hx BA BB HX k0 k1
  have HX := HX'
  have BA := BA'
  have BB := BB'
  clear HX' BA' BB'
  have k0 := BA.cell (i := 3) rfl
  have k1 := BB.cell (i := 3) rfl
  go_wp2_with fail
  refine (eqInts_same B B' _ _ G.tt _ (by exact (h0.next HX.out).h3) (by exact (h1.next HX.out).h3)).mono ?_
  rintro e w2 ⟨rfl, hx⟩
  have HX' : Hid (Nx w w2) := HX.out.trans hx
  have BA' := BA.next hx
  have BB' := BB.next hx
  clear hx BA BB HX k0 k1
  have HX := HX'
  have BA := BA'
  have BB := BB'
  clear HX' BA' BB'
  have k0 := BA.cell (i := 4) rfl
  have k1 := BB.cell (i := 4) rfl
  go_wp2_with fail
  refine (eqInts_same B B' _ _ G.co _ (by exact (h0.next HX.out).h4) (by exact (h1.next HX.out).h4)).mono ?_
  rintro e w2 ⟨rfl, hx⟩
  have HX' : Hid (Nx w w2) := HX.out.trans hx
  have BA' := BA.next hx
  have BB' := BB.next hx
  clear hx BA BB HX k0 k1
  have HX := HX'
  have BA := BA'
  have BB := BB'
  clear HX' BA' BB'
  have k0 := BA.cell (i := 5) rfl
  have k1 := BB.cell (i := 5) rfl
  go_wp2_with fail
  refine (eqInts_same B B' _ _ G.sr _ (by exact (h0.next HX.out).h5) (by exact (h1.next HX.out).h5)).mono ?_
  rintro e w2 ⟨rfl, hx⟩
  have HX' : Hid (Nx w w2) := HX.out.trans hx
  have BA' := BA.next hx
  have BB' := BB.next hx
  clear hx BA BB HX k0 k1
  have HX := HX'
  have BA := BA'
  have BB := BB'
  clear HX' BA' BB'
  have k0 := BA.cell (i := 6) rfl
  have k1 := BB.cell (i := 6) rfl
  go_wp2_with fail
  refine (eqInts_same B B' _ _ G.we _ (by exact (h0.next HX.out).h6) (by exact (h1.next HX.out).h6)).mono ?_
  rintro e w2 ⟨rfl, hx⟩
  have HX' : Hid (Nx w w2) := HX.out.trans hx
  have BA' := BA.next hx
  have BB' := BB.next hx
  clear hx BA BB HX k0 k1
  have HX := HX'
  have BA := BA'
  have BB := BB'
  clear HX' BA' BB'
  go_wp2
  go_ret
  exact ⟨rfl, HX.out⟩

set_option maxHeartbeats 4000000 in
theorem toGraph_any (B : Nat) (v0 v1 v2 v3 v4 v5 v6 : Value) (G : Gr) (w : World) (h0 : HG B w v0 v1 v2 v3 v4 v5 v6 G) (hs : SmallG G) :
    Calls Try.prog 9 #[.agg #[v0, v1, v2, v3, v4, v5, v6]] w fun e w' => (∃ a0 n0 c0 a1 n1 c1 a2 n2 c2 a3 n3 c3 a4 n4 c4 a5 n5 c5 a6 n6 c6, e = .returned (.agg #[.slice a0 n0 c0, .slice a1 n1 c1, .slice a2 n2 c2, .slice a3 n3 c3, .slice a4 n4 c4, .slice a5 n5 c5, .slice a6 n6 c6]) ∧ HG w.heap.size w' (.slice a0 n0 c0) (.slice a1 n1 c1) (.slice a2 n2 c2) (.slice a3 n3 c3) (.slice a4 n4 c4) (.slice a5 n5 c5) (.slice a6 n6 c6) G) ∧ Nu w w' := by
  go_enter Try.func9, Try.ntmps9
  go_wp2_with fail
  have HXX : Hid (Nu w (((w.alloc (.cells #[v0, v1, v2, v3, v4, v5, v6] 24)).alloc (.cells #[.slice none 0 0, .slice none 0 0, .slice none 0 0, .slice none 0 0, .slice none 0 0, .slice none 0 0, .slice none 0 0] 27)).alloc (.cells #[.slice none 0 0, .slice none 0 0, .slice none 0 0, .slice none 0 0, .slice none 0 0, .slice none 0 0, .slice none 0 0] 27))) := (ubox2 _ _ _ _ _).alloc _ _
  have BA : Blk (((w.alloc (.cells #[v0, v1, v2, v3, v4, v5, v6] 24)).alloc (.cells #[.slice none 0 0, .slice none 0 0, .slice none 0 0, .slice none 0 0, .slice none 0 0, .slice none 0 0, .slice none 0 0] 27)).alloc (.cells #[.slice none 0 0, .slice none 0 0, .slice none 0 0, .slice none 0 0, .slice none 0 0, .slice none 0 0, .slice none 0 0] 27)) w.heap.size #[v0, v1, v2, v3, v4, v5, v6] := ((Blk.new w _ 24 _ rfl).alloc _).alloc _
  have BB : Blk (((w.alloc (.cells #[v0, v1, v2, v3, v4, v5, v6] 24)).alloc (.cells #[.slice none 0 0, .slice none 0 0, .slice none 0 0, .slice none 0 0, .slice none 0 0, .slice none 0 0, .slice none 0 0] 27)).alloc (.cells #[.slice none 0 0, .slice none 0 0, .slice none 0 0, .slice none 0 0, .slice none 0 0, .slice none 0 0, .slice none 0 0] 27)) (w.heap.size + 1) #[.slice none 0 0, .slice none 0 0, .slice none 0 0, .slice none 0 0, .slice none 0 0, .slice none 0 0, .slice none 0 0] := (Blk.new _ _ 27 _ (by simp)).alloc _
  have BC : Blk (((w.alloc (.cells #[v0, v1, v2, v3, v4, v5, v6] 24)).alloc (.cells #[.slice none 0 0, .slice none 0 0, .slice none 0 0, .slice none 0 0, .slice none 0 0, .slice none 0 0, .slice none 0 0] 27)).alloc (.cells #[.slice none 0 0, .slice none 0 0, .slice none 0 0, .slice none 0 0, .slice none 0 0, .slice none 0 0, .slice none 0 0] 27)) (w.heap.size + 1 + 1) #[.slice none 0 0, .slice none 0 0, .slice none 0 0, .slice none 0 0, .slice none 0 0, .slice none 0 0, .slice none 0 0] := Blk.new _ _ 27 _ (by simp)
  have hsz : w.heap.size + 3 ≤ (((w.alloc (.cells #[v0, v1, v2, v3, v4, v5, v6] 24)).alloc (.cells #[.slice none 0 0, .slice none 0 0, .slice none 0 0, .slice none 0 0, .slice none 0 0, .slice none 0 0, .slice none 0 0] 27)).alloc (.cells #[.slice none 0 0, .slice none 0 0, .slice none 0 0, .slice none 0 0, .slice none 0 0, .slice none 0 0, .slice none 0 0] 27)).heap.size := by simp
  refine (toInts_any B _ G.eo _ (by exact h0.h0.keep (HXX.out.keeps B)) hs.s0).mono ?_
  rintro e w0 ⟨⟨a0, n0, c0, rfl, g0, q0⟩, hu⟩
  have hx := hu.nx
  have HX : Hid (Nu w w0) := HXX.out.trans hu
  clear HXX
  have BA := BA.next hx
  have BB := BB.next hx
  have BC := BC.next hx
  have G0 : Hid (HInts (w.heap.size + 3) w0 (.slice a0 n0 c0) G.eo) := g0.base hsz
  have hsz : w.heap.size + 3 ≤ w0.heap.size := Nat.le_trans hsz hx.size
  clear hx hu g0
  have k0 := BA.cell (i := 1) rfl
  have k1 := BC.cell (i := 0) rfl
  have k2 := BC.frozen 0
  have HS : Hid (w.heap.size + 3 ≤ w0.heap.size) := hsz
  go_wp2_with fail
  have HXX : Hid (Nu w (w0.setCell ⟨w.heap.size + 1 + 1, 0, none⟩ (.slice a0 n0 c0))) := Nu.setCell HX.out (by simp; omega) _
  have BA := BA.setOther (g := w.heap.size + 1 + 1) (by omega) 0 (.slice a0 n0 c0)
  have BB := BB.setOther (g := w.heap.size + 1 + 1) (by omega) 0 (.slice a0 n0 c0)
  have BC := BC.set 0 (.slice a0 n0 c0)
  have hsz : w.heap.size + 3 ≤ (w0.setCell ⟨w.heap.size + 1 + 1, 0, none⟩ (.slice a0 n0 c0)).heap.size := by simp only [World.setCell, Array.size_modify]; exact HS.out
  have G0 : Hid (HInts (w.heap.size + 3) (w0.setCell ⟨w.heap.size + 1 + 1, 0, none⟩ (.slice a0 n0 c0)) (.slice a0 n0 c0) G.eo) := G0.out.keep (set_keeps _ _ (by omega) _)
  clear k0 k1 k2 HS HX
  refine (toInts_any B _ G.so _ (by exact h0.h1.keep (HXX.out.keeps B)) hs.s1).mono ?_
  rintro e w1 ⟨⟨a1, n1, c1, rfl, g1, q1⟩, hu⟩
  have hx := hu.nx
  have HX : Hid (Nu w w1) := HXX.out.trans hu
  clear HXX
  have BA := BA.next hx
  have BB := BB.next hx
  have BC := BC.next hx
  have G1 : Hid (HInts (w.heap.size + 3) w1 (.slice a1 n1 c1) G.so) := g1.base hsz
  have G0 : Hid (HInts (w.heap.size + 3) w1 (.slice a0 n0 c0) G.eo) := G0.out.keep (hx.keeps _)
  have hsz : w.heap.size + 3 ≤ w1.heap.size := Nat.le_trans hsz hx.size
  clear hx hu g1
  have k0 := BA.cell (i := 2) rfl
  have k1 := BC.cell (i := 1) rfl
  have k2 := BC.frozen 1
  have HS : Hid (w.heap.size + 3 ≤ w1.heap.size) := hsz
  go_wp2_with fail
  have HXX : Hid (Nu w (w1.setCell ⟨w.heap.size + 1 + 1, 1, none⟩ (.slice a1 n1 c1))) := Nu.setCell HX.out (by simp; omega) _
  have BA := BA.setOther (g := w.heap.size + 1 + 1) (by omega) 1 (.slice a1 n1 c1)
  have BB := BB.setOther (g := w.heap.size + 1 + 1) (by omega) 1 (.slice a1 n1 c1)
  have BC := BC.set 1 (.slice a1 n1 c1)
  have hsz : w.heap.size + 3 ≤ (w1.setCell ⟨w.heap.size + 1 + 1, 1, none⟩ (.slice a1 n1 c1)).heap.size := by simp only [World.setCell, Array.size_modify]; exact HS.out
  have G0 : Hid (HInts (w.heap.size + 3) (w1.setCell ⟨w.heap.size + 1 + 1, 1, none⟩ (.slice a1 n1 c1)) (.slice a0 n0 c0) G.eo) := G0.out.keep (set_keeps _ _ (by omega) _)
  have G1 : Hid (HInts (w.heap.size + 3) (w1.setCell ⟨w.heap.size + 1 + 1, 1, none⟩ (.slice a1 n1 c1)) (.slice a1 n1 c1) G.so) := G1.out.keep (set_keeps _ _ (by omega) _)
  clear k0 k1 k2 HS HX
  refine (toInts_any B _ G.fi _ (by exact h0.h2.keep (HXX.out.keeps B)) hs.s2).mono ?_
  rintro e w2 ⟨⟨a2, n2, c2, rfl, g2, q2⟩, hu⟩
  have hx := hu.nx
  have HX : Hid (Nu w w2) := HXX.out.trans hu
  clear HXX
  have BA := BA.next hx
  have BB := BB.next hx
  have BC := BC.next hx
  have G2 : Hid (HInts (w.heap.size + 3) w2 (.slice a2 n2 c2) G.fi) := g2.base hsz
  have G0 : Hid (HInts (w.heap.size + 3) w2 (.slice a0 n0 c0) G.eo) := G0.out.keep (hx.keeps _)
  have G1 : Hid (HInts (w.heap.size + 3) w2 (.slice a1 n1 c1) G.so) := G1.out.keep (hx.keeps _)
  have hsz : w.heap.size + 3 ≤ w2.heap.size := Nat.le_trans hsz hx.size
  clear hx hu g2
  have k0 := BA.cell (i := 3) rfl
  have k1 := BC.cell (i := 2) rfl
  have k2 := BC.frozen 2
  have HS : Hid (w.heap.size + 3 ≤ w2.heap.size) := hsz
  go_wp2_with fail
  have HXX : Hid (Nu w (w2.setCell ⟨w.heap.size + 1 + 1, 2, none⟩ (.slice a2 n2 c2))) := Nu.setCell HX.out (by simp; omega) _
  have BA := BA.setOther (g := w.heap.size + 1 + 1) (by omega) 2 (.slice a2 n2 c2)
  have BB := BB.setOther (g := w.heap.size + 1 + 1) (by omega) 2 (.slice a2 n2 c2)
  have BC := BC.set 2 (.slice a2 n2 c2)
  have hsz : w.heap.size + 3 ≤ (w2.setCell ⟨w.heap.size + 1 + 1, 2, none⟩ (.slice a2 n2 c2)).heap.size := by simp only [World.setCell, Array.size_modify]; exact HS.out
  have G0 : Hid (HInts (w.heap.size + 3) (w2.setCell ⟨w.heap.size + 1 + 1, 2, none⟩ (.slice a2 n2 c2)) (.slice a0 n0 c0) G.eo) := G0.out.keep (set_keeps _ _ (by omega) _)
  have G1 : Hid (HInts (w.heap.size + 3) (w2.setCell ⟨w.heap.size + 1 + 1, 2, none⟩ (.slice a2 n2 c2)) (.slice a1 n1 c1) G.so) := G1.out.keep (set_keeps _ _ (by omega) _)
  have G2 : Hid (HInts (w.heap.size + 3) (w2.setCell ⟨w.heap.size + 1 + 1, 2, none⟩ (.slice a2 n2 c2)) (.slice a2 n2 c2) G.fi) := G2.out.keep (set_keeps _ _ (by omega) _)
  clear k0 k1 k2 HS HX
  refine (toInts_any B _ G.tt _ (by exact h0.h3.keep (HXX.out.keeps B)) hs.s3).mono ?_
  rintro e w3 ⟨⟨a3, n3, c3, rfl, g3, q3⟩, hu⟩
  have hx := hu.nx
  have HX : Hid (Nu w w3) := HXX.out.trans hu
  clear HXX
  have BA := BA.next hx
  have BB := BB.next hx
  have BC := BC.next hx
  have G3 : Hid (HInts (w.heap.size + 3) w3 (.slice a3 n3 c3) G.tt) := g3.base hsz
  have G0 : Hid (HInts (w.heap.size + 3) w3 (.slice a0 n0 c0) G.eo) := G0.out.keep (hx.keeps _)
  have G1 : Hid (HInts (w.heap.size + 3) w3 (.slice a1 n1 c1) G.so) := G1.out.keep (hx.keeps _)
  have G2 : Hid (HInts (w.heap.size + 3) w3 (.slice a2 n2 c2) G.fi) := G2.out.keep (hx.keeps _)
  have hsz : w.heap.size + 3 ≤ w3.heap.size := Nat.le_trans hsz hx.size
  clear hx hu g3
  have k0 := BA.cell (i := 4) rfl
  have k1 := BC.cell (i := 3) rfl
  have k2 := BC.frozen 3
  have HS : Hid (w.heap.size + 3 ≤ w3.heap.size) := hsz
  go_wp2_with fail
  have HXX : Hid (Nu w (w3.setCell ⟨w.heap.size + 1 + 1, 3, none⟩ (.slice a3 n3 c3))) := Nu.setCell HX.out (by simp; omega) _
  have BA := BA.setOther (g := w.heap.size + 1 + 1) (by omega) 3 (.slice a3 n3 c3)
  have BB := BB.setOther (g := w.heap.size + 1 + 1) (by omega) 3 (.slice a3 n3 c3)
  have BC := BC.set 3 (.slice a3 n3 c3)
  have hsz : w.heap.size + 3 ≤ (w3.setCell ⟨w.heap.size + 1 + 1, 3, none⟩ (.slice a3 n3 c3)).heap.size := by simp only [World.setCell, Array.size_modify]; exact HS.out
  have G0 : Hid (HInts (w.heap.size + 3) (w3.setCell ⟨w.heap.size + 1 + 1, 3, none⟩ (.slice a3 n3 c3)) (.slice a0 n0 c0) G.eo) := G0.out.keep (set_keeps _ _ (by omega) _)
  have G1 : Hid (HInts (w.heap.size + 3) (w3.setCell ⟨w.heap.size + 1 + 1, 3, none⟩ (.slice a3 n3 c3)) (.slice a1 n1 c1) G.so) := G1.out.keep (set_keeps _ _ (by omega) _)
  have G2 : Hid (HInts (w.heap.size + 3) (w3.setCell ⟨w.heap.size + 1 + 1, 3, none⟩ (.slice a3 n3 c3)) (.slice a2 n2 c2) G.fi) := G2.out.keep (set_keeps _ _ (by omega) _)
  have G3 : Hid (HInts (w.heap.size + 3) (w3.setCell ⟨w.heap.size + 1 + 1, 3, none⟩ (.slice a3 n3 c3)) (.slice a3 n3 c3) G.tt) := G3.out.keep (set_keeps _ _ (by omega) _)
  clear k0 k1 k2 HS HX
  refine (toInts_any B _ G.co _ (by exact h0.h4.keep (HXX.out.keeps B)) hs.s4).mono ?_
  rintro e w4 ⟨⟨a4, n4, c4, rfl, g4, q4⟩, hu⟩
  have hx := hu.nx
  have HX : Hid (Nu w w4) := HXX.out.trans hu
  clear HXX
  have BA := BA.next hx
  have BB := BB.next hx
  have BC := BC.next hx
  have G4 : Hid (HInts (w.heap.size + 3) w4 (.slice a4 n4 c4) G.co) := g4.base hsz
  have G0 : Hid (HInts (w.heap.size + 3) w4 (.slice a0 n0 c0) G.eo) := G0.out.keep (hx.keeps _)
  have G1 : Hid (HInts (w.heap.size + 3) w4 (.slice a1 n1 c1) G.so) := G1.out.keep (hx.keeps _)
  have G2 : Hid (HInts (w.heap.size + 3) w4 (.slice a2 n2 c2) G.fi) := G2.out.keep (hx.keeps _)
  have G3 : Hid (HInts (w.heap.size + 3) w4 (.slice a3 n3 c3) G.tt) := G3.out.keep (hx.keeps _)
  have hsz : w.heap.size + 3 ≤ w4.heap.size := Nat.le_trans hsz hx.size
  clear hx hu g4
  have k0 := BA.cell (i := 5) rfl
  have k1 := BC.cell (i := 4) rfl
  have k2 := BC.frozen 4
  have HS : Hid (w.heap.size + 3 ≤ w4.heap.size) := hsz
  go_wp2_with fail
  have HXX : Hid (Nu w (w4.setCell ⟨w.heap.size + 1 + 1, 4, none⟩ (.slice a4 n4 c4))) := Nu.setCell HX.out (by simp; omega) _
  have BA := BA.setOther (g := w.heap.size + 1 + 1) (by omega) 4 (.slice a4 n4 c4)
  have BB := BB.setOther (g := w.heap.size + 1 + 1) (by omega) 4 (.slice a4 n4 c4)
  have BC := BC.set 4 (.slice a4 n4 c4)
  have hsz : w.heap.size + 3 ≤ (w4.setCell ⟨w.heap.size + 1 + 1, 4, none⟩ (.slice a4 n4 c4)).heap.size := by simp only [World.setCell, Array.size_modify]; exact HS.out
  have G0 : Hid (HInts (w.heap.size + 3) (w4.setCell ⟨w.heap.size + 1 + 1, 4, none⟩ (.slice a4 n4 c4)) (.slice a0 n0 c0) G.eo) := G0.out.keep (set_keeps _ _ (by omega) _)
  have G1 : Hid (HInts (w.heap.size + 3) (w4.setCell ⟨w.heap.size + 1 + 1, 4, none⟩ (.slice a4 n4 c4)) (.slice a1 n1 c1) G.so) := G1.out.keep (set_keeps _ _ (by omega) _)
  have G2 : Hid (HInts (w.heap.size + 3) (w4.setCell ⟨w.heap.size + 1 + 1, 4, none⟩ (.slice a4 n4 c4)) (.slice a2 n2 c2) G.fi) := G2.out.keep (set_keeps _ _ (by omega) _)
  have G3 : Hid (HInts (w.heap.size + 3) (w4.setCell ⟨w.heap.size + 1 + 1, 4, none⟩ (.slice a4 n4 c4)) (.slice a3 n3 c3) G.tt) := G3.out.keep (set_keeps _ _ (by omega) _)
  have G4 : Hid (HInts (w.heap.size + 3) (w4.setCell ⟨w.heap.size + 1 + 1, 4, none⟩ (.slice a4 n4 c4)) (.slice a4 n4 c4) G.co) := G4.out.keep (set_keeps _ _ (by omega) _)
  clear k0 k1 k2 HS HX
  refine (toInts_any B _ G.sr _ (by exact h0.h5.keep (HXX.out.keeps B)) hs.s5).mono ?_
  rintro e w5 ⟨⟨a5, n5, c5, rfl, g5, q5⟩, hu⟩
  have hx := hu.nx
  have HX : Hid (Nu w w5) := HXX.out.trans hu
  clear HXX
  have BA := BA.next hx
  have BB := BB.next hx
  have BC := BC.next hx
  have G5 : Hid (HInts (w.heap.size + 3) w5 (.slice a5 n5 c5) G.sr) := g5.base hsz
  have G0 : Hid (HInts (w.heap.size + 3) w5 (.slice a0 n0 c0) G.eo) := G0.out.keep (hx.keeps _)
  have G1 : Hid (HInts (w.heap.size + 3) w5 (.slice a1 n1 c1) G.so) := G1.out.keep (hx.keeps _)
  have G2 : Hid (HInts (w.heap.size + 3) w5 (.slice a2 n2 c2) G.fi) := G2.out.keep (hx.keeps _)
  have G3 : Hid (HInts (w.heap.size + 3) w5 (.slice a3 n3 c3) G.tt) := G3.out.keep (hx.keeps _)
  have G4 : Hid (HInts (w.heap.size + 3) w5 (.slice a4 n4 c4) G.co) := G4.out.keep (hx.keeps _)
  have hsz : w.heap.size + 3 ≤ w5.heap.size := Nat.le_trans hsz hx.size
  clear hx hu g5
  have k0 := BA.cell (i := 6) rfl
  have k1 := BC.cell (i := 5) rfl
  have k2 := BC.frozen 5
  have HS : Hid (w.heap.size + 3 ≤ w5.heap.size) := hsz
  go_wp2_with fail
  have HXX : Hid (Nu w (w5.setCell ⟨w.heap.size + 1 + 1, 5, none⟩ (.slice a5 n5 c5))) := Nu.setCell HX.out (by simp; omega) _
  have BA := BA.setOther (g := w.heap.size + 1 + 1) (by omega) 5 (.slice a5 n5 c5)
  have BB := BB.setOther (g := w.heap.size + 1 + 1) (by omega) 5 (.slice a5 n5 c5)
  have BC := BC.set 5 (.slice a5 n5 c5)
  have hsz : w.heap.size + 3 ≤ (w5.setCell ⟨w.heap.size + 1 + 1, 5, none⟩ (.slice a5 n5 c5)).heap.size := by simp only [World.setCell, Array.size_modify]; exact HS.out
  have G0 : Hid (HInts (w.heap.size + 3) (w5.setCell ⟨w.heap.size + 1 + 1, 5, none⟩ (.slice a5 n5 c5)) (.slice a0 n0 c0) G.eo) := G0.out.keep (set_keeps _ _ (by omega) _)
  have G1 : Hid (HInts (w.heap.size + 3) (w5.setCell ⟨w.heap.size + 1 + 1, 5, none⟩ (.slice a5 n5 c5)) (.slice a1 n1 c1) G.so) := G1.out.keep (set_keeps _ _ (by omega) _)
  have G2 : Hid (HInts (w.heap.size + 3) (w5.setCell ⟨w.heap.size + 1 + 1, 5, none⟩ (.slice a5 n5 c5)) (.slice a2 n2 c2) G.fi) := G2.out.keep (set_keeps _ _ (by omega) _)
  have G3 : Hid (HInts (w.heap.size + 3) (w5.setCell ⟨w.heap.size + 1 + 1, 5, none⟩ (.slice a5 n5 c5)) (.slice a3 n3 c3) G.tt) := G3.out.keep (set_keeps _ _ (by omega) _)
  have G4 : Hid (HInts (w.heap.size + 3) (w5.setCell ⟨w.heap.size + 1 + 1, 5, none⟩ (.slice a5 n5 c5)) (.slice a4 n4 c4) G.co) := G4.out.keep (set_keeps _ _ (by omega) _)
  have G5 : Hid (HInts (w.heap.size + 3) (w5.setCell ⟨w.heap.size + 1 + 1, 5, none⟩ (.slice a5 n5 c5)) (.slice a5 n5 c5) G.sr) := G5.out.keep (set_keeps _ _ (by omega) _)
  clear k0 k1 k2 HS HX
  refine (toInts_any B _ G.we _ (by exact h0.h6.keep (HXX.out.keeps B)) hs.s6).mono ?_
  rintro e w6 ⟨⟨a6, n6, c6, rfl, g6, q6⟩, hu⟩
  have hx := hu.nx
  have HX : Hid (Nu w w6) := HXX.out.trans hu
  clear HXX
  have BA := BA.next hx
  have BB := BB.next hx
  have BC := BC.next hx
  have G6 : Hid (HInts (w.heap.size + 3) w6 (.slice a6 n6 c6) G.we) := g6.base hsz
  have G0 : Hid (HInts (w.heap.size + 3) w6 (.slice a0 n0 c0) G.eo) := G0.out.keep (hx.keeps _)
  have G1 : Hid (HInts (w.heap.size + 3) w6 (.slice a1 n1 c1) G.so) := G1.out.keep (hx.keeps _)
  have G2 : Hid (HInts (w.heap.size + 3) w6 (.slice a2 n2 c2) G.fi) := G2.out.keep (hx.keeps _)
  have G3 : Hid (HInts (w.heap.size + 3) w6 (.slice a3 n3 c3) G.tt) := G3.out.keep (hx.keeps _)
  have G4 : Hid (HInts (w.heap.size + 3) w6 (.slice a4 n4 c4) G.co) := G4.out.keep (hx.keeps _)
  have G5 : Hid (HInts (w.heap.size + 3) w6 (.slice a5 n5 c5) G.sr) := G5.out.keep (hx.keeps _)
  have hsz : w.heap.size + 3 ≤ w6.heap.size := Nat.le_trans hsz hx.size
  clear hx hu g6
  have l0 := BC.cell (i := 0) rfl
  have m0 := BB.cell (i := 0) rfl
  have f0 := BB.frozen 0
  have l1 := BC.cell (i := 1) rfl
  have m1 := BB.cell (i := 1) rfl
  have f1 := BB.frozen 1
  have l2 := BC.cell (i := 2) rfl
  have m2 := BB.cell (i := 2) rfl
  have f2 := BB.frozen 2
  have l3 := BC.cell (i := 3) rfl
  have m3 := BB.cell (i := 3) rfl
  have f3 := BB.frozen 3
  have l4 := BC.cell (i := 4) rfl
  have m4 := BB.cell (i := 4) rfl
  have f4 := BB.frozen 4
  have l5 := BC.cell (i := 5) rfl
  have m5 := BB.cell (i := 5) rfl
  have f5 := BB.frozen 5
  have l6 := BC.cell (i := 6) rfl
  have m6 := BB.cell (i := 6) rfl
  have f6 := BB.frozen 6
  have f7 := BC.frozen 6
  go_wp2
  have K7 := ((((((((set_keeps (B := w.heap.size + 3) w6 (g := w.heap.size + 1 + 1) 6 (by omega) (.slice a6 n6 c6)).trans (set_keeps _ (g := w.heap.size + 1) 0 (by omega) (.slice a0 n0 c0))).trans (set_keeps _ (g := w.heap.size + 1) 1 (by omega) (.slice a1 n1 c1))).trans (set_keeps _ (g := w.heap.size + 1) 2 (by omega) (.slice a2 n2 c2))).trans (set_keeps _ (g := w.heap.size + 1) 3 (by omega) (.slice a3 n3 c3))).trans (set_keeps _ (g := w.heap.size + 1) 4 (by omega) (.slice a4 n4 c4))).trans (set_keeps _ (g := w.heap.size + 1) 5 (by omega) (.slice a5 n5 c5))).trans (set_keeps _ (g := w.heap.size + 1) 6 (by omega) (.slice a6 n6 c6)))
  refine bodyPost_ret (v := .agg #[.slice a0 n0 c0, .slice a1 n1 c1, .slice a2 n2 c2, .slice a3 n3 c3, .slice a4 n4 c4, .slice a5 n5 c5, .slice a6 n6 c6]) (by simp [results, Try.results9, go_sem, m0, m1, m2, m3, m4, m5, m6]) rfl ⟨⟨a0, n0, c0, a1, n1, c1, a2, n2, c2, a3, n3, c3, a4, n4, c4, a5, n5, c5, a6, n6, c6, rfl, ?_, ?_, ?_, ?_, ?_, ?_, ?_, q3⟩, ?_⟩
  · exact (G0.out.keep K7).base (by omega)
  · exact (G1.out.keep K7).base (by omega)
  · exact (G2.out.keep K7).base (by omega)
  · exact (G3.out.keep K7).base (by omega)
  · exact (G4.out.keep K7).base (by omega)
  · exact (G5.out.keep K7).base (by omega)
  · exact (G6.out.keep K7).base (by omega)
  · exact (Nu.setCell (Nu.setCell (Nu.setCell (Nu.setCell (Nu.setCell (Nu.setCell (Nu.setCell (Nu.setCell HX.out (by simp; omega) _) (by simp) _) (by simp) _) (by simp) _) (by simp) _) (by simp) _) (by simp) _) (by simp) _)
end Go.Proofs.Ytdjmlpgdaanipaa
