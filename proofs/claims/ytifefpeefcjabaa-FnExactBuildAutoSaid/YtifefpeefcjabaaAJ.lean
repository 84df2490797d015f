import Derived.Test.YtifefpeefcjabaaAI
namespace Go.Proofs.Ytifefpeefcjabaa
open Go.RowKit
set_option linter.unusedVariables false
set_option maxRecDepth 100000

set_option maxHeartbeats 400000 in
theorem szBools_any (a : Option Addr) (n c : Nat) (left : Int) (w : World) (hn : n ≤ maxLen) (h0 : 0 ≤ left) (h1 : left ≤ 1048576) :
    Calls Try.prog 42 #[.slice a n c, .int .i64 left] w fun e w' => e = .returned (.int .i64 (szI left n)) ∧ w' = w := by
  unfold maxLen at hn
  by_cases h : left - n < 0
  · go_enter Try.func42, Try.ntmps42
    go_wp2
    go_ret
    exact ⟨ret_int (by unfold szI; split <;> omega), rfl⟩
  · go_enter Try.func42, Try.ntmps42
    go_wp2
    go_ret
    exact ⟨ret_int (by unfold szI; split <;> omega), rfl⟩

set_option maxHeartbeats 400000 in
theorem eqBools_same (B B' : Nat) (v v' : Value) (zs : List Bool) (w : World) (h0 : HBools B w v zs) (h1 : HBools B' w v' zs) :
    Calls Try.prog 46 #[v, v'] w fun e w' => e = .returned (.bool true) ∧ Nx w w' := by
  obtain ⟨a, cap, rfl, hn, hk⟩ := h0
  obtain ⟨a', cap', rfl, hn', hk'⟩ := h1
  unfold maxLen at hn hn'
  generalize zs.length = n at *
  have hd : ((n : Int) != (n : Int)) = false := by simp
  go_enter Try.func46, Try.ntmps46
  go_wp2
  go_loopw [5] (fun i wr => ∃ k : Nat, k ≤ n ∧ i = .int .i64 k ∧ Hid (Nx w wr)) (fun i _ => n - (intOf i).toNat)
  case atStart => exact ⟨0, Nat.zero_le _, rfl, Nx.refl _⟩
  case round =>
    obtain ⟨k, hkn, rfl, HN⟩ := hrel
    by_cases hlt : k < n
    · obtain ⟨b, off, rfl, hB, hb, hc⟩ := hk (by omega)
      obtain ⟨b', off', rfl, hB', hb', hc'⟩ := hk' (by omega)
      have c0 := cell_next HN.out hb (hc k hlt)
      have c1 := cell_next HN.out hb' (hc' k hlt)
      have hlt' : (k : Int) < n := by omega
      have he : (bat zs k != bat zs k) = false := by simp
      clear hc hk hc' hk'
      go_wp2
      go_region_with (fail)
      all_goals go_wp2
      all_goals
        go_roundw
        case rel => exact ⟨k + 1, by omega, by go_num, HN.out.drew⟩
        case measure => simp [intOf]; omega
    · go_wp2
      go_ret
      exact ⟨rfl, HN.out⟩

theorem infoB : (Try.prog.info? 4).map (fun i => (i.zero, i.size, i.bytes)) = some (some (.bool false), 1, 1) := by kernel_rfl

/-- the first k cells of the new row hold the list's -/
def RowToB (w : World) (g n k : Nat) (zs : List Bool) : Prop := ∃ f, w.rowIs g 4 n f ∧ ∀ i, i < k → f i = .bool (bat zs i)
theorem RowToB.set {w : World} {g n k : Nat} {zs : List Bool} (h : RowToB w g n k zs) : RowToB (w.setCell ⟨g, k, none⟩ (.bool (bat zs k))) g n (k + 1) zs := by
  obtain ⟨f, h1, h2⟩ := h
  refine ⟨_, h1.set k _, fun i hi => ?_⟩
  by_cases e : i = k
  · subst e; simp
  · simp [e]; exact h2 i (by omega)
theorem RowToB.held {w : World} {g n : Nat} {zs : List Bool} (hn : zs.length = n) (hm : n ≤ maxLen) (h : RowToB w g n n zs) : HBools g w (.slice (some ⟨g, 0, none⟩) n n) zs := by
  obtain ⟨f, h1, h2⟩ := h
  subst hn
  refine ⟨_, _, rfl, hm, fun h0 => ⟨g, 0, rfl, Nat.le_refl _, h1.lt, fun i hi => ?_⟩⟩
  show w.cell? ⟨g, 0 + i, none⟩ = _
  rw [Nat.zero_add, h1.cell hi, h2 i hi]

set_option maxHeartbeats 400000 in
theorem toBools_any (B : Nat) (v : Value) (zs : List Bool) (w : World) (h0 : HBools B w v zs) (hs : zs.length ≤ 1048576) :
    Calls Try.prog 44 #[v] w fun e w' => (∃ a' n' c', e = .returned (.slice a' n' c') ∧ HBools w.heap.size w' (.slice a' n' c') zs) ∧ Nu w w' := by
  obtain ⟨a, cap, rfl, hn, hk⟩ := h0
  generalize hz : zs.length = n at *
  have HZ : Hid (zs.length = n) := hz
  have HM : Hid (n ≤ maxLen) := hn
  clear hz hn
  have hmk := run_make_row' (P := Try.prog) 25 4 (.bool false) 1 Try.underlying25 infoB rfl .i64 .i64 n (by omega) (by omega)
  go_enter Try.func44, Try.ntmps44
  go_wp2
  go_loopw [4] (fun i wr => ∃ k : Nat, k ≤ n ∧ i = .int .i64 k ∧ Hid (RowToB wr w.heap.size n k zs) ∧ Hid (Nu w wr)) (fun i _ => n - (intOf i).toNat)
  case atStart => exact ⟨0, Nat.zero_le _, rfl, ⟨_, World.rowIs_made _ _ _ _, fun i hi => absurd hi (Nat.not_lt_zero _)⟩, ubox1 _ _ _⟩
  case round =>
    obtain ⟨k, hkn, rfl, HR, HN⟩ := hrel
    clear hmk
    by_cases hlt : k < n
    · obtain ⟨b, off, rfl, hB, hb, hc⟩ := hk (by omega)
      have c0 := cell_next HN.out.nx hb (hc k hlt)
      have hlt' : (k : Int) < n := by omega
      obtain ⟨f, hf, hf'⟩ := HR.out
      have r0 := hf.cell hlt
      have r1 := hf.frozen k
      clear hc hk hf hf'
      go_wp2
      go_roundw
      case rel => exact ⟨k + 1, by omega, by go_num, HR.out.set, Nu.setCell HN.out (Nat.le_refl _) _⟩
      case measure => simp [intOf]; omega
    · go_wp2
      go_ret
      have e : k = n := by omega
      subst e
      exact ⟨⟨_, _, _, rfl, HR.out.held HZ.out HM.out⟩, HN.out⟩
theorem HBools.store {B : Nat} {w : World} {v : Value} {zs : List Bool} (h : HBools B w v zs) {g o : Nat} (hg : g < B) (u : Value) : HBools B (w.setCell ⟨g, o, none⟩ u) v zs := h.keep (set_keeps _ _ hg _)
structure SmallA (A : Au) : Prop where
  s0 : A.pa.length ≤ 1048576
  s1 : A.la.length ≤ 1048576
  s2 : A.fa.length ≤ 1048576
  s3 : A.mu.length ≤ 1048576
  s4 : A.bd.length ≤ 1048576

set_option maxHeartbeats 2000000 in
theorem szAuto_any (B : Nat) (v0 v1 v2 v3 v4 : Value) (A : Au) (left : Int) (w : World) (h0 : HA B w v0 v1 v2 v3 v4 A) (hl0 : 0 ≤ left) (hl1 : left ≤ 1048576) :
    Calls Try.prog 16 #[.agg #[v0, v1, v2, v3, v4], .int .i64 left] w fun e w' => (∃ r : Int, e = .returned (.int .i64 r) ∧ (r < 0 ∨ (0 ≤ r ∧ SmallA A))) ∧ Nx w w' := by
  obtain ⟨⟨a0, c0, rfl, hn0, _⟩, ⟨a1, c1, rfl, hn1, _⟩, ⟨a2, c2, rfl, hn2, _⟩, ⟨a3, c3, rfl, hn3, _⟩, ⟨a4, c4, rfl, hn4, _⟩⟩ := h0
  generalize hg0 : A.pa.length = n0 at *
  generalize hg1 : A.la.length = n1 at *
  generalize hg2 : A.fa.length = n2 at *
  generalize hg3 : A.mu.length = n3 at *
  generalize hg4 : A.bd.length = n4 at *
  have HS : Hid (n0 ≤ 1048576 → n1 ≤ 1048576 → n2 ≤ 1048576 → n3 ≤ 1048576 → n4 ≤ 1048576 → SmallA A) := fun g0 g1 g2 g3 g4 => ⟨by omega, by omega, by omega, by omega, by omega⟩
  clear hg0 hg1 hg2 hg3 hg4
  go_enter Try.func16, Try.ntmps16
  have b0 := szI_bd left n0 (by omega)
  generalize hr0 : szI left n0 = r0 at *
  have HR0 : Hid (szI left n0 = r0) := hr0
  clear hr0
  obtain ⟨b0, d0, e0⟩ := b0
  go_wp2_with fail
  refine (szInts_any _ _ _ _ _ hn0 (by omega) (by omega)).mono ?_
  rintro e w1 ⟨rfl, rfl⟩
  rw [HR0.out]
  by_cases hneg0 : r0 < 0
  · go_wp2
    go_ret
    exact ⟨⟨-1, rfl, Or.inl (by omega)⟩, box1 _ _⟩
  have f0 := e0 (by omega)
  clear e0
  have b1 := szI_bd r0 n1 (by omega)
  generalize hr1 : szI r0 n1 = r1 at *
  have HR1 : Hid (szI r0 n1 = r1) := hr1
  clear hr1
  obtain ⟨b1, d1, e1⟩ := b1
  go_wp2_with fail
  refine (szInts_any _ _ _ _ _ hn1 (by omega) (by omega)).mono ?_
  rintro e w1 ⟨rfl, rfl⟩
  rw [HR1.out]
  by_cases hneg1 : r1 < 0
  · go_wp2
    go_ret
    exact ⟨⟨-1, rfl, Or.inl (by omega)⟩, box1 _ _⟩
  have f1 := e1 (by omega)
  clear e1
  have b2 := szI_bd r1 n2 (by omega)
  generalize hr2 : szI r1 n2 = r2 at *
  have HR2 : Hid (szI r1 n2 = r2) := hr2
  clear hr2
  obtain ⟨b2, d2, e2⟩ := b2
  go_wp2_with fail
  refine (szInts_any _ _ _ _ _ hn2 (by omega) (by omega)).mono ?_
  rintro e w1 ⟨rfl, rfl⟩
  rw [HR2.out]
  by_cases hneg2 : r2 < 0
  · go_wp2
    go_ret
    exact ⟨⟨-1, rfl, Or.inl (by omega)⟩, box1 _ _⟩
  have f2 := e2 (by omega)
  clear e2
  have b3 := szI_bd r2 n3 (by omega)
  generalize hr3 : szI r2 n3 = r3 at *
  have HR3 : Hid (szI r2 n3 = r3) := hr3
  clear hr3
  obtain ⟨b3, d3, e3⟩ := b3
  go_wp2_with fail
  refine (szInts_any _ _ _ _ _ hn3 (by omega) (by omega)).mono ?_
  rintro e w1 ⟨rfl, rfl⟩
  rw [HR3.out]
  by_cases hneg3 : r3 < 0
  · go_wp2
    go_ret
    exact ⟨⟨-1, rfl, Or.inl (by omega)⟩, box1 _ _⟩
  have f3 := e3 (by omega)
  clear e3
  have b4 := szI_bd r3 n4 (by omega)
  generalize hr4 : szI r3 n4 = r4 at *
  have HR4 : Hid (szI r3 n4 = r4) := hr4
  clear hr4
  obtain ⟨b4, d4, e4⟩ := b4
  go_wp2_with fail
  refine (szBools_any _ _ _ _ _ hn4 (by omega) (by omega)).mono ?_
  rintro e w1 ⟨rfl, rfl⟩
  rw [HR4.out]
  by_cases hneg4 : r4 < 0
  · go_wp2
    go_ret
    exact ⟨⟨-1, rfl, Or.inl (by omega)⟩, box1 _ _⟩
  have f4 := e4 (by omega)
  clear e4
  go_wp2
  go_ret
  exact ⟨⟨r4, rfl, Or.inr ⟨by omega, HS.out (by omega) (by omega) (by omega) (by omega) (by omega)⟩⟩, box1 _ _⟩

set_option maxHeartbeats 2000000 in
theorem eqAuto_same (B B' : Nat) (v0 v1 v2 v3 v4 u0 u1 u2 u3 u4 : Value) (A : Au) (w : World) (h0 : HA B w v0 v1 v2 v3 v4 A) (h1 : HA B' w u0 u1 u2 u3 u4 A) :
    Calls Try.prog 20 #[.agg #[v0, v1, v2, v3, v4], .agg #[u0, u1, u2, u3, u4]] w fun e w' => e = .returned (.bool true) ∧ Nx w w' := by
  go_enter Try.func20, Try.ntmps20
  go_wp2_with fail
  refine (eqInts_same B B' _ _ A.pa _ (by exact (h0.next (box2 _ _ _)).h0) (by exact (h1.next (box2 _ _ _)).h0)).mono ?_
  rintro e w1 ⟨rfl, hx⟩
  have HX : Hid (Nx w w1) := (box2 _ _ _).trans hx
  have BA : Blk w1 w.heap.size #[v0, v1, v2, v3, v4] := ((Blk.new w _ 27 _ rfl).alloc _).next hx
  have BB : Blk w1 (w.heap.size + 1) #[u0, u1, u2, u3, u4] := (Blk.new _ _ 27 _ (by simp)).next hx
  clear hx
  have k0 := BA.cell (i := 1) rfl
  have k1 := BB.cell (i := 1) rfl
  go_wp2_with fail
  refine (eqInts_same B B' _ _ A.la _ (by exact (h0.next HX.out).h1) (by exact (h1.next HX.out).h1)).mono ?_
  rintro e w2 ⟨rfl, hx⟩
  have HX' : Hid (Nx w w2) := HX.out.trans hx
  have BA' := BA.next hx
  have BB' := BB.next hx
  clear hx BA BB HX k0 k1
  have HX := HX'
  have BA := BA'
  have BB := BB'
  clear HX' BA' BB'
  have k0 := BA.cell (i := 2) rfl
  have k1 := BB.cell (i := 2) rfl
  go_wp2_with fail
  refine (eqInts_same B B' _ _ A.fa _ (by exact (h0.next HX.out).h2) (by exact (h1.next HX.out).h2)).mono ?_
  rintro e w2 ⟨rfl, hx⟩
  have HX' : Hid (Nx w w2) := HX.out.trans hx
  have BA' := BA.next hx
  have BB' := BB.next hx
  clear hx BA BB HX k0 k1
  have HX := HX'
  have BA := BA'
  have BB := BB'
  clear HX' BA' BB'
  have k0 := BA.cell (i := 3) rfl
  have k1 := BB.cell (i := 3) rfl
  go_wp2_with fail
  refine (eqInts_same B B' _ _ A.mu _ (by exact (h0.next HX.out).h3) (by exact (h1.next HX.out).h3)).mono ?_
  rintro e w2 ⟨rfl, hx⟩
  have HX' : Hid (Nx w w2) := HX.out.trans hx
  have BA' := BA.next hx
  have BB' := BB.next hx
  clear hx BA BB HX k0 k1
  have HX := HX'
  have BA := BA'
  have BB := BB'
  clear HX' BA' BB'
  have k0 := BA.cell (i := 4) rfl
  have k1 := BB.cell (i := 4) rfl
  go_wp2_with fail
  refine (eqBools_same B B' _ _ A.bd _ (by exact (h0.next HX.out).h4) (by exact (h1.next HX.out).h4)).mono ?_
  rintro e w2 ⟨rfl, hx⟩
  have HX' : Hid (Nx w w2) := HX.out.trans hx
  have BA' := BA.next hx
  have BB' := BB.next hx
  clear hx BA BB HX k0 k1
  have HX := HX'
  have BA := BA'
  have BB := BB'
  clear HX' BA' BB'
  go_wp2
  go_ret
  exact ⟨rfl, HX.out⟩

set_option maxHeartbeats 4000000 in
theorem toAuto_any (B : Nat) (v0 v1 v2 v3 v4 : Value) (A : Au) (w : World) (h0 : HA B w v0 v1 v2 v3 v4 A) (hs : SmallA A) :
    Calls Try.prog 18 #[.agg #[v0, v1, v2, v3, v4]] w fun e w' => (∃ a0 n0 c0 a1 n1 c1 a2 n2 c2 a3 n3 c3 a4 n4 c4, e = .returned (.agg #[.slice a0 n0 c0, .slice a1 n1 c1, .slice a2 n2 c2, .slice a3 n3 c3, .slice a4 n4 c4]) ∧ HA w.heap.size w' (.slice a0 n0 c0) (.slice a1 n1 c1) (.slice a2 n2 c2) (.slice a3 n3 c3) (.slice a4 n4 c4) A) ∧ Nu w w' := by
  go_enter Try.func18, Try.ntmps18
  go_wp2_with fail
  have HXX : Hid (Nu w (((w.alloc (.cells #[v0, v1, v2, v3, v4] 38)).alloc (.cells #[.slice none 0 0, .slice none 0 0, .slice none 0 0, .slice none 0 0, .slice none 0 0] 27)).alloc (.cells #[.slice none 0 0, .slice none 0 0, .slice none 0 0, .slice none 0 0, .slice none 0 0] 27))) := (ubox2 _ _ _ _ _).alloc _ _
  have BA : Blk (((w.alloc (.cells #[v0, v1, v2, v3, v4] 38)).alloc (.cells #[.slice none 0 0, .slice none 0 0, .slice none 0 0, .slice none 0 0, .slice none 0 0] 27)).alloc (.cells #[.slice none 0 0, .slice none 0 0, .slice none 0 0, .slice none 0 0, .slice none 0 0] 27)) w.heap.size #[v0, v1, v2, v3, v4] := ((Blk.new w _ 38 _ rfl).alloc _).alloc _
  have BB : Blk (((w.alloc (.cells #[v0, v1, v2, v3, v4] 38)).alloc (.cells #[.slice none 0 0, .slice none 0 0, .slice none 0 0, .slice none 0 0, .slice none 0 0] 27)).alloc (.cells #[.slice none 0 0, .slice none 0 0, .slice none 0 0, .slice none 0 0, .slice none 0 0] 27)) (w.heap.size + 1) #[.slice none 0 0, .slice none 0 0, .slice none 0 0, .slice none 0 0, .slice none 0 0] := (Blk.new _ _ 27 _ (by simp)).alloc _
  have BC : Blk (((w.alloc (.cells #[v0, v1, v2, v3, v4] 38)).alloc (.cells #[.slice none 0 0, .slice none 0 0, .slice none 0 0, .slice none 0 0, .slice none 0 0] 27)).alloc (.cells #[.slice none 0 0, .slice none 0 0, .slice none 0 0, .slice none 0 0, .slice none 0 0] 27)) (w.heap.size + 1 + 1) #[.slice none 0 0, .slice none 0 0, .slice none 0 0, .slice none 0 0, .slice none 0 0] := Blk.new _ _ 27 _ (by simp)
  have hsz : w.heap.size + 3 ≤ (((w.alloc (.cells #[v0, v1, v2, v3, v4] 38)).alloc (.cells #[.slice none 0 0, .slice none 0 0, .slice none 0 0, .slice none 0 0, .slice none 0 0] 27)).alloc (.cells #[.slice none 0 0, .slice none 0 0, .slice none 0 0, .slice none 0 0, .slice none 0 0] 27)).heap.size := by simp
  refine (toInts_any B _ A.pa _ (by exact h0.h0.keep (HXX.out.keeps B)) hs.s0).mono ?_
  rintro e w0 ⟨⟨a0, n0, c0, rfl, g0⟩, hu⟩
  have hx := hu.nx
  have HX : Hid (Nu w w0) := HXX.out.trans hu
  clear HXX
  have BA := BA.next hx
  have BB := BB.next hx
  have BC := BC.next hx
  have G0 : Hid (HInts (w.heap.size + 3) w0 (.slice a0 n0 c0) A.pa) := g0.base hsz
  have hsz : w.heap.size + 3 ≤ w0.heap.size := Nat.le_trans hsz hx.size
  clear hx hu g0
  have k0 := BA.cell (i := 1) rfl
  have k1 := BC.cell (i := 0) rfl
  have k2 := BC.frozen 0
  have HS : Hid (w.heap.size + 3 ≤ w0.heap.size) := hsz
  go_wp2_with fail
  have HXX : Hid (Nu w (w0.setCell ⟨w.heap.size + 1 + 1, 0, none⟩ (.slice a0 n0 c0))) := Nu.setCell HX.out (by simp; omega) _
  have BA := BA.setOther (g := w.heap.size + 1 + 1) (by omega) 0 (.slice a0 n0 c0)
  have BB := BB.setOther (g := w.heap.size + 1 + 1) (by omega) 0 (.slice a0 n0 c0)
  have BC := BC.set 0 (.slice a0 n0 c0)
  have hsz : w.heap.size + 3 ≤ (w0.setCell ⟨w.heap.size + 1 + 1, 0, none⟩ (.slice a0 n0 c0)).heap.size := by simp only [World.setCell, Array.size_modify]; exact HS.out
  have G0 : Hid (HInts (w.heap.size + 3) (w0.setCell ⟨w.heap.size + 1 + 1, 0, none⟩ (.slice a0 n0 c0)) (.slice a0 n0 c0) A.pa) := G0.out.keep (set_keeps _ _ (by omega) _)
  clear k0 k1 k2 HS HX
  refine (toInts_any B _ A.la _ (by exact h0.h1.keep (HXX.out.keeps B)) hs.s1).mono ?_
  rintro e w1 ⟨⟨a1, n1, c1, rfl, g1⟩, hu⟩
  have hx := hu.nx
  have HX : Hid (Nu w w1) := HXX.out.trans hu
  clear HXX
  have BA := BA.next hx
  have BB := BB.next hx
  have BC := BC.next hx
  have G1 : Hid (HInts (w.heap.size + 3) w1 (.slice a1 n1 c1) A.la) := g1.base hsz
  have G0 : Hid (HInts (w.heap.size + 3) w1 (.slice a0 n0 c0) A.pa) := G0.out.keep (hx.keeps _)
  have hsz : w.heap.size + 3 ≤ w1.heap.size := Nat.le_trans hsz hx.size
  clear hx hu g1
  have k0 := BA.cell (i := 2) rfl
  have k1 := BC.cell (i := 1) rfl
  have k2 := BC.frozen 1
  have HS : Hid (w.heap.size + 3 ≤ w1.heap.size) := hsz
  go_wp2_with fail
  have HXX : Hid (Nu w (w1.setCell ⟨w.heap.size + 1 + 1, 1, none⟩ (.slice a1 n1 c1))) := Nu.setCell HX.out (by simp; omega) _
  have BA := BA.setOther (g := w.heap.size + 1 + 1) (by omega) 1 (.slice a1 n1 c1)
  have BB := BB.setOther (g := w.heap.size + 1 + 1) (by omega) 1 (.slice a1 n1 c1)
  have BC := BC.set 1 (.slice a1 n1 c1)
  have hsz : w.heap.size + 3 ≤ (w1.setCell ⟨w.heap.size + 1 + 1, 1, none⟩ (.slice a1 n1 c1)).heap.size := by simp only [World.setCell, Array.size_modify]; exact HS.out
  have G0 : Hid (HInts (w.heap.size + 3) (w1.setCell ⟨w.heap.size + 1 + 1, 1, none⟩ (.slice a1 n1 c1)) (.slice a0 n0 c0) A.pa) := G0.out.keep (set_keeps _ _ (by omega) _)
  have G1 : Hid (HInts (w.heap.size + 3) (w1.setCell ⟨w.heap.size + 1 + 1, 1, none⟩ (.slice a1 n1 c1)) (.slice a1 n1 c1) A.la) := G1.out.keep (set_keeps _ _ (by omega) _)
  clear k0 k1 k2 HS HX
  refine (toInts_any B _ A.fa _ (by exact h0.h2.keep (HXX.out.keeps B)) hs.s2).mono ?_
  rintro e w2 ⟨⟨a2, n2, c2, rfl, g2⟩, hu⟩
  have hx := hu.nx
  have HX : Hid (Nu w w2) := HXX.out.trans hu
  clear HXX
  have BA := BA.next hx
  have BB := BB.next hx
  have BC := BC.next hx
  have G2 : Hid (HInts (w.heap.size + 3) w2 (.slice a2 n2 c2) A.fa) := g2.base hsz
  have G0 : Hid (HInts (w.heap.size + 3) w2 (.slice a0 n0 c0) A.pa) := G0.out.keep (hx.keeps _)
  have G1 : Hid (HInts (w.heap.size + 3) w2 (.slice a1 n1 c1) A.la) := G1.out.keep (hx.keeps _)
  have hsz : w.heap.size + 3 ≤ w2.heap.size := Nat.le_trans hsz hx.size
  clear hx hu g2
  have k0 := BA.cell (i := 3) rfl
  have k1 := BC.cell (i := 2) rfl
  have k2 := BC.frozen 2
  have HS : Hid (w.heap.size + 3 ≤ w2.heap.size) := hsz
  go_wp2_with fail
  have HXX : Hid (Nu w (w2.setCell ⟨w.heap.size + 1 + 1, 2, none⟩ (.slice a2 n2 c2))) := Nu.setCell HX.out (by simp; omega) _
  have BA := BA.setOther (g := w.heap.size + 1 + 1) (by omega) 2 (.slice a2 n2 c2)
  have BB := BB.setOther (g := w.heap.size + 1 + 1) (by omega) 2 (.slice a2 n2 c2)
  have BC := BC.set 2 (.slice a2 n2 c2)
  have hsz : w.heap.size + 3 ≤ (w2.setCell ⟨w.heap.size + 1 + 1, 2, none⟩ (.slice a2 n2 c2)).heap.size := by simp only [World.setCell, Array.size_modify]; exact HS.out
  have G0 : Hid (HInts (w.heap.size + 3) (w2.setCell ⟨w.heap.size + 1 + 1, 2, none⟩ (.slice a2 n2 c2)) (.slice a0 n0 c0) A.pa) := G0.out.keep (set_keeps _ _ (by omega) _)
  have G1 : Hid (HInts (w.heap.size + 3) (w2.setCell ⟨w.heap.size + 1 + 1, 2, none⟩ (.slice a2 n2 c2)) (.slice a1 n1 c1) A.la) := G1.out.keep (set_keeps _ _ (by omega) _)
  have G2 : Hid (HInts (w.heap.size + 3) (w2.setCell ⟨w.heap.size + 1 + 1, 2, none⟩ (.slice a2 n2 c2)) (.slice a2 n2 c2) A.fa) := G2.out.keep (set_keeps _ _ (by omega) _)
  clear k0 k1 k2 HS HX
  refine (toInts_any B _ A.mu _ (by exact h0.h3.keep (HXX.out.keeps B)) hs.s3).mono ?_
  rintro e w3 ⟨⟨a3, n3, c3, rfl, g3⟩, hu⟩
  have hx := hu.nx
  have HX : Hid (Nu w w3) := HXX.out.trans hu
  clear HXX
  have BA := BA.next hx
  have BB := BB.next hx
  have BC := BC.next hx
  have G3 : Hid (HInts (w.heap.size + 3) w3 (.slice a3 n3 c3) A.mu) := g3.base hsz
  have G0 : Hid (HInts (w.heap.size + 3) w3 (.slice a0 n0 c0) A.pa) := G0.out.keep (hx.keeps _)
  have G1 : Hid (HInts (w.heap.size + 3) w3 (.slice a1 n1 c1) A.la) := G1.out.keep (hx.keeps _)
  have G2 : Hid (HInts (w.heap.size + 3) w3 (.slice a2 n2 c2) A.fa) := G2.out.keep (hx.keeps _)
  have hsz : w.heap.size + 3 ≤ w3.heap.size := Nat.le_trans hsz hx.size
  clear hx hu g3
  have k0 := BA.cell (i := 4) rfl
  have k1 := BC.cell (i := 3) rfl
  have k2 := BC.frozen 3
  have HS : Hid (w.heap.size + 3 ≤ w3.heap.size) := hsz
  go_wp2_with fail
  have HXX : Hid (Nu w (w3.setCell ⟨w.heap.size + 1 + 1, 3, none⟩ (.slice a3 n3 c3))) := Nu.setCell HX.out (by simp; omega) _
  have BA := BA.setOther (g := w.heap.size + 1 + 1) (by omega) 3 (.slice a3 n3 c3)
  have BB := BB.setOther (g := w.heap.size + 1 + 1) (by omega) 3 (.slice a3 n3 c3)
  have BC := BC.set 3 (.slice a3 n3 c3)
  have hsz : w.heap.size + 3 ≤ (w3.setCell ⟨w.heap.size + 1 + 1, 3, none⟩ (.slice a3 n3 c3)).heap.size := by simp only [World.setCell, Array.size_modify]; exact HS.out
  have G0 : Hid (HInts (w.heap.size + 3) (w3.setCell ⟨w.heap.size + 1 + 1, 3, none⟩ (.slice a3 n3 c3)) (.slice a0 n0 c0) A.pa) := G0.out.keep (set_keeps _ _ (by omega) _)
  have G1 : Hid (HInts (w.heap.size + 3) (w3.setCell ⟨w.heap.size + 1 + 1, 3, none⟩ (.slice a3 n3 c3)) (.slice a1 n1 c1) A.la) := G1.out.keep (set_keeps _ _ (by omega) _)
  have G2 : Hid (HInts (w.heap.size + 3) (w3.setCell ⟨w.heap.size + 1 + 1, 3, none⟩ (.slice a3 n3 c3)) (.slice a2 n2 c2) A.fa) := G2.out.keep (set_keeps _ _ (by omega) _)
  have G3 : Hid (HInts (w.heap.size + 3) (w3.setCell ⟨w.heap.size + 1 + 1, 3, none⟩ (.slice a3 n3 c3)) (.slice a3 n3 c3) A.mu) := G3.out.keep (set_keeps _ _ (by omega) _)
  clear k0 k1 k2 HS HX
  refine (toBools_any B _ A.bd _ (by exact h0.h4.keep (HXX.out.keeps B)) hs.s4).mono ?_
  rintro e w4 ⟨⟨a4, n4, c4, rfl, g4⟩, hu⟩
  have hx := hu.nx
  have HX : Hid (Nu w w4) := HXX.out.trans hu
  clear HXX
  have BA := BA.next hx
  have BB := BB.next hx
  have BC := BC.next hx
  have G4 : Hid (HBools (w.heap.size + 3) w4 (.slice a4 n4 c4) A.bd) := g4.base hsz
  have G0 : Hid (HInts (w.heap.size + 3) w4 (.slice a0 n0 c0) A.pa) := G0.out.keep (hx.keeps _)
  have G1 : Hid (HInts (w.heap.size + 3) w4 (.slice a1 n1 c1) A.la) := G1.out.keep (hx.keeps _)
  have G2 : Hid (HInts (w.heap.size + 3) w4 (.slice a2 n2 c2) A.fa) := G2.out.keep (hx.keeps _)
  have G3 : Hid (HInts (w.heap.size + 3) w4 (.slice a3 n3 c3) A.mu) := G3.out.keep (hx.keeps _)
  have hsz : w.heap.size + 3 ≤ w4.heap.size := Nat.le_trans hsz hx.size
  clear hx hu g4
  have l0 := BC.cell (i := 0) rfl
  have m0 := BB.cell (i := 0) rfl
  have f0 := BB.frozen 0
  have l1 := BC.cell (i := 1) rfl
  have m1 := BB.cell (i := 1) rfl
  have f1 := BB.frozen 1
  have l2 := BC.cell (i := 2) rfl
  have m2 := BB.cell (i := 2) rfl
  have f2 := BB.frozen 2
  have l3 := BC.cell (i := 3) rfl
  have m3 := BB.cell (i := 3) rfl
  have f3 := BB.frozen 3
  have l4 := BC.cell (i := 4) rfl
  have m4 := BB.cell (i := 4) rfl
  have f4 := BB.frozen 4
  have f7 := BC.frozen 4
  go_wp2
  have K7 := ((((((set_keeps (B := w.heap.size + 3) w4 (g := w.heap.size + 1 + 1) 4 (by omega) (.slice a4 n4 c4)).trans (set_keeps _ (g := w.heap.size + 1) 0 (by omega) (.slice a0 n0 c0))).trans (set_keeps _ (g := w.heap.size + 1) 1 (by omega) (.slice a1 n1 c1))).trans (set_keeps _ (g := w.heap.size + 1) 2 (by omega) (.slice a2 n2 c2))).trans (set_keeps _ (g := w.heap.size + 1) 3 (by omega) (.slice a3 n3 c3))).trans (set_keeps _ (g := w.heap.size + 1) 4 (by omega) (.slice a4 n4 c4)))
  refine bodyPost_ret (v := .agg #[.slice a0 n0 c0, .slice a1 n1 c1, .slice a2 n2 c2, .slice a3 n3 c3, .slice a4 n4 c4]) (by simp [results, Try.results18, go_sem, m0, m1, m2, m3, m4]) rfl ⟨⟨a0, n0, c0, a1, n1, c1, a2, n2, c2, a3, n3, c3, a4, n4, c4, rfl, ?_, ?_, ?_, ?_, ?_⟩, ?_⟩
  · exact (G0.out.keep K7).base (by omega)
  · exact (G1.out.keep K7).base (by omega)
  · exact (G2.out.keep K7).base (by omega)
  · exact (G3.out.keep K7).base (by omega)
  · exact (G4.out.keep K7).base (by omega)
  · exact (Nu.setCell (Nu.setCell (Nu.setCell (Nu.setCell (Nu.setCell (Nu.setCell HX.out (by simp; omega) _) (by simp) _) (by simp) _) (by simp) _) (by simp) _) (by simp) _)
end Go.Proofs.Ytifefpeefcjabaa
