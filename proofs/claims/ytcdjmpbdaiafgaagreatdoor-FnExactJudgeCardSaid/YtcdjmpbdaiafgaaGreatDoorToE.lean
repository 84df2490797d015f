import Derived.Test.YtcdjmpbdaiafgaaGreatDoorToA
namespace Go.Proofs.YtcdjmpbdaiafgaaGreatDoor
open Go.RowKit
set_option linter.unusedVariables false

/-- the first k structs of the new row hold the list's -/
def toWaysRow (w : World) (g n k : Nat) (zs : List Wy) : Prop := ∃ cs : Array Value, Blk w g cs ∧ cs.size = n * 4 ∧ ∀ i, i < k → ∃ p q : Value, cs[i * 4]? = some (.int .i64 (wat zs i).id) ∧ cs[i * 4 + 1]? = some (.bool (wat zs i).both) ∧ cs[i * 4 + 2]? = some p ∧ cs[i * 4 + 3]? = some q ∧ HInts (g + 1) w p (wat zs i).nodes ∧ HInts (g + 1) w q (wat zs i).weights
theorem toWaysRow.step {wr w1 : World} {g n k : Nat} {zs : List Wy} (h : toWaysRow wr g n k zs) (hx : Nx wr w1) (hk : k < n) (p : Value) (q : Value) (h0 : HInts (g + 1) w1 p (wat zs k).nodes) (h1 : HInts (g + 1) w1 q (wat zs k).weights) :
    toWaysRow ((((w1.setCell ⟨g, k * 4, none⟩ (.int .i64 (wat zs k).id)).setCell ⟨g, k * 4 + 1, none⟩ (.bool (wat zs k).both)).setCell ⟨g, k * 4 + 2, none⟩ p).setCell ⟨g, k * 4 + 3, none⟩ q) g n (k + 1) zs := by
  obtain ⟨cs, BK, hs, hi⟩ := h
  have hm : (k + 1) * 4 ≤ n * 4 := Nat.mul_le_mul_right 4 hk
  refine ⟨_, (((((BK.next hx).set (k * 4) (.int .i64 (wat zs k).id)).set (k * 4 + 1) (.bool (wat zs k).both)).set (k * 4 + 2) p).set (k * 4 + 3) q), by simpa using hs, fun i hik => ?_⟩
  by_cases e : i = k
  · subst e
    exact ⟨p, q, (by rw [set_ne _ (by omega)]; rw [set_ne _ (by omega)]; rw [set_ne _ (by omega)]; exact set_eq _ (by simp [hs]; omega)), (by rw [set_ne _ (by omega)]; rw [set_ne _ (by omega)]; exact set_eq _ (by simp [hs]; omega)), (by rw [set_ne _ (by omega)]; exact set_eq _ (by simp [hs]; omega)), (by  exact set_eq _ (by simp [hs]; omega)), ((((h0.store (by omega) _).store (by omega) _).store (by omega) _).store (by omega) _), ((((h1.store (by omega) _).store (by omega) _).store (by omega) _).store (by omega) _)⟩
  · obtain ⟨p', q', e0, e1, e2, e3, i0, i1⟩ := hi i (by omega)
    exact ⟨p', q', (by rw [set_ne _ (by omega)]; rw [set_ne _ (by omega)]; rw [set_ne _ (by omega)]; rw [set_ne _ (by omega)]; exact e0), (by rw [set_ne _ (by omega)]; rw [set_ne _ (by omega)]; rw [set_ne _ (by omega)]; rw [set_ne _ (by omega)]; exact e1), (by rw [set_ne _ (by omega)]; rw [set_ne _ (by omega)]; rw [set_ne _ (by omega)]; rw [set_ne _ (by omega)]; exact e2), (by rw [set_ne _ (by omega)]; rw [set_ne _ (by omega)]; rw [set_ne _ (by omega)]; rw [set_ne _ (by omega)]; exact e3), (((((i0.next hx).store (by omega) _).store (by omega) _).store (by omega) _).store (by omega) _), (((((i1.next hx).store (by omega) _).store (by omega) _).store (by omega) _).store (by omega) _)⟩
theorem toWaysRow.held {w : World} {g n : Nat} {zs : List Wy} (hn : zs.length = n) (hm : n ≤ maxLen) (h : toWaysRow w g n n zs) : HWays g w (.slice (some ⟨g, 0, none⟩) n n) zs := by
  obtain ⟨cs, BK, hs, hi⟩ := h
  subst hn
  refine ⟨_, _, rfl, hm, fun h0 => ⟨g, 0, rfl, Nat.le_refl _, BK.lt, fun i hik => ?_⟩⟩
  obtain ⟨p', q', e0, e1, e2, e3, i0, i1⟩ := hi i hik
  exact ⟨p', q', BK.cell (by simpa using e0), BK.cell (by simpa using e1), BK.cell (by simpa using e2), BK.cell (by simpa using e3), i0.base (by omega), i1.base (by omega)⟩
theorem info45 : (Tryz.prog.info? 90).map (fun i => (i.zero, i.size, i.bytes)) = some (some (.agg #[.int .i64 0, .bool false, .slice none 0 0, .slice none 0 0]), 4, 64) := by kernel_rfl

set_option maxHeartbeats 1000000 in
theorem toWays_any (B : Nat) (v : Value) (zs : List Wy) (w : World) (h0 : HWays B w v zs) (hs : zs.length ≤ 1048576) (hs1 : ∀ i, i < zs.length → (wat zs i).nodes.length ≤ 1048576 ∧ (wat zs i).weights.length ≤ 1048576) :
    Calls Tryz.prog 26 #[v] w fun e w' => (∃ a' n' c', e = .returned (.slice a' n' c') ∧ HWays w.heap.size w' (.slice a' n' c') zs) ∧ Nu w w' := by
  obtain ⟨a, cap, rfl, hn, hk⟩ := h0
  generalize hz : zs.length = n at *
  have HZ : Hid (zs.length = n) := hz
  have HM : Hid (n ≤ maxLen) := hn
  clear hz hn
  have hmk := make_structs 34 90 (.agg #[.int .i64 0, .bool false, .slice none 0 0, .slice none 0 0]) 4 64 Tryz.underlying34 info45 n (by omega) (by omega)
  go_enter Tryz.func26, Tryz.ntmps26
  go_wp2
  go_loopw [4] (fun i wr => ∃ k : Nat, k ≤ n ∧ i = .int .i64 k ∧ Hid (toWaysRow wr w.heap.size n k zs) ∧ Hid (Nu w wr)) (fun i _ => n - (intOf i).toNat)
  case atStart => exact ⟨0, Nat.zero_le _, rfl, ⟨_, Blk.made _ _ _ _, size_madeCells _ _, fun i hi => absurd hi (Nat.not_lt_zero _)⟩, ubox1 _ _ _⟩
  case round =>
    obtain ⟨k, hkn, rfl, HR, HN⟩ := hrel
    clear hmk
    by_cases hlt : k < n
    · obtain ⟨b, off, rfl, hB, hb, hc⟩ := hk (by omega)
      obtain ⟨p1, p2, a0, a1, a2, a3, n1, w1'⟩ := hc k hlt
      have a0 := cell_next HN.out.nx hb a0
      have a1 := cell_next HN.out.nx hb a1
      have a2 := cell_next HN.out.nx hb a2
      have a3 := cell_next HN.out.nx hb a3
      have hlt' : (k : Int) < n := by omega
      obtain ⟨cs, BK, hcs, _⟩ := HR.out
      have hm : (k + 1) * 4 ≤ n * 4 := Nat.mul_le_mul_right 4 hlt
      have hsz : w.heap.size < wr.heap.size := BK.lt
      clear hc hk
      go_wp2_with fail
      refine (toWay_any B _ _ _ _ (wat zs k).nodes (wat zs k).weights _ (by exact n1.next HN.out.nx) (by exact w1'.next HN.out.nx) (hs1 k hlt).1 (hs1 k hlt).2).mono ?_
      rintro e w1 ⟨⟨q1, m1, c1, q2, m2, c2, rfl, g0', g1'⟩, hu⟩
      have hx := hu.nx
      have BK1 := BK.next hx
      have g0 : Hid (HInts wr.heap.size w1 (.slice q1 m1 c1) (wat zs k).nodes) := g0'
      have g1 : Hid (HInts wr.heap.size w1 (.slice q2 m2 c2) (wat zs k).weights) := g1'
      clear g0' g1'
      have r0 := BK1.cell (i := k * 4) (Array.getElem?_eq_getElem (by omega))
      have r1 := BK1.cell (i := k * 4 + 1) (Array.getElem?_eq_getElem (by omega))
      have r2 := BK1.cell (i := k * 4 + 2) (Array.getElem?_eq_getElem (by omega))
      have r3 := BK1.cell (i := k * 4 + 3) (Array.getElem?_eq_getElem (by omega))
      have f0 := BK1.frozen (k * 4)
      have f1 := BK1.frozen (k * 4 + 1)
      have f2 := BK1.frozen (k * 4 + 2)
      have f3 := BK1.frozen (k * 4 + 3)
      have HX : Hid (Nu wr w1) := hu
      clear hx hu BK BK1
      go_wp2
      go_roundw
      case rel => exact ⟨k + 1, by omega, by go_num, HR.out.step HX.out.nx hlt _ _ (g0.out.base (by omega)) (g1.out.base (by omega)), Nu.setCell (Nu.setCell (Nu.setCell (Nu.setCell (HN.out.trans HX.out) (Nat.le_refl _) _) (Nat.le_refl _) _) (Nat.le_refl _) _) (Nat.le_refl _) _⟩
      case measure => simp [intOf]; omega
    · go_wp2
      go_ret
      have e : k = n := by omega
      subst e
      exact ⟨⟨_, _, _, rfl, HR.out.held HZ.out HM.out⟩, HN.out⟩
end Go.Proofs.YtcdjmpbdaiafgaaGreatDoor

namespace Go.Proofs.YtcdjmpbdaiafgaaGreatDoor
open Go.RowKit
set_option linter.unusedVariables false

/-- the first k structs of the new row hold the list's -/
def toRelsRow (w : World) (g n k : Nat) (zs : List Rl) : Prop := ∃ cs : Array Value, Blk w g cs ∧ cs.size = n * 7 ∧ ∀ i, i < k → ∃ p : Value, cs[i * 7]? = some (.int .i64 (rat zs i).id) ∧ cs[i * 7 + 1]? = some (.bool (rat zs i).only) ∧ cs[i * 7 + 2]? = some (.int .i64 (rat zs i).frm) ∧ cs[i * 7 + 3]? = some (.int .i64 (rat zs i).to) ∧ cs[i * 7 + 4]? = some (.bool (rat zs i).via) ∧ cs[i * 7 + 5]? = some (.int .i64 (rat zs i).node) ∧ cs[i * 7 + 6]? = some p ∧ HInts (g + 1) w p (rat zs i).ways
theorem toRelsRow.step {wr w1 : World} {g n k : Nat} {zs : List Rl} (h : toRelsRow wr g n k zs) (hx : Nx wr w1) (hk : k < n) (p : Value) (h0 : HInts (g + 1) w1 p (rat zs k).ways) :
    toRelsRow (((((((w1.setCell ⟨g, k * 7, none⟩ (.int .i64 (rat zs k).id)).setCell ⟨g, k * 7 + 1, none⟩ (.bool (rat zs k).only)).setCell ⟨g, k * 7 + 2, none⟩ (.int .i64 (rat zs k).frm)).setCell ⟨g, k * 7 + 3, none⟩ (.int .i64 (rat zs k).to)).setCell ⟨g, k * 7 + 4, none⟩ (.bool (rat zs k).via)).setCell ⟨g, k * 7 + 5, none⟩ (.int .i64 (rat zs k).node)).setCell ⟨g, k * 7 + 6, none⟩ p) g n (k + 1) zs := by
  obtain ⟨cs, BK, hs, hi⟩ := h
  have hm : (k + 1) * 7 ≤ n * 7 := Nat.mul_le_mul_right 7 hk
  refine ⟨_, ((((((((BK.next hx).set (k * 7) (.int .i64 (rat zs k).id)).set (k * 7 + 1) (.bool (rat zs k).only)).set (k * 7 + 2) (.int .i64 (rat zs k).frm)).set (k * 7 + 3) (.int .i64 (rat zs k).to)).set (k * 7 + 4) (.bool (rat zs k).via)).set (k * 7 + 5) (.int .i64 (rat zs k).node)).set (k * 7 + 6) p), by simpa using hs, fun i hik => ?_⟩
  by_cases e : i = k
  · subst e
    exact ⟨p, (by rw [set_ne _ (by omega)]; rw [set_ne _ (by omega)]; rw [set_ne _ (by omega)]; rw [set_ne _ (by omega)]; rw [set_ne _ (by omega)]; rw [set_ne _ (by omega)]; exact set_eq _ (by simp [hs]; omega)), (by rw [set_ne _ (by omega)]; rw [set_ne _ (by omega)]; rw [set_ne _ (by omega)]; rw [set_ne _ (by omega)]; rw [set_ne _ (by omega)]; exact set_eq _ (by simp [hs]; omega)), (by rw [set_ne _ (by omega)]; rw [set_ne _ (by omega)]; rw [set_ne _ (by omega)]; rw [set_ne _ (by omega)]; exact set_eq _ (by simp [hs]; omega)), (by rw [set_ne _ (by omega)]; rw [set_ne _ (by omega)]; rw [set_ne _ (by omega)]; exact set_eq _ (by simp [hs]; omega)), (by rw [set_ne _ (by omega)]; rw [set_ne _ (by omega)]; exact set_eq _ (by simp [hs]; omega)), (by rw [set_ne _ (by omega)]; exact set_eq _ (by simp [hs]; omega)), (by  exact set_eq _ (by simp [hs]; omega)), (((((((h0.store (by omega) _).store (by omega) _).store (by omega) _).store (by omega) _).store (by omega) _).store (by omega) _).store (by omega) _)⟩
  · obtain ⟨p', e0, e1, e2, e3, e4, e5, e6, i0⟩ := hi i (by omega)
    exact ⟨p', (by rw [set_ne _ (by omega)]; rw [set_ne _ (by omega)]; rw [set_ne _ (by omega)]; rw [set_ne _ (by omega)]; rw [set_ne _ (by omega)]; rw [set_ne _ (by omega)]; rw [set_ne _ (by omega)]; exact e0), (by rw [set_ne _ (by omega)]; rw [set_ne _ (by omega)]; rw [set_ne _ (by omega)]; rw [set_ne _ (by omega)]; rw [set_ne _ (by omega)]; rw [set_ne _ (by omega)]; rw [set_ne _ (by omega)]; exact e1), (by rw [set_ne _ (by omega)]; rw [set_ne _ (by omega)]; rw [set_ne _ (by omega)]; rw [set_ne _ (by omega)]; rw [set_ne _ (by omega)]; rw [set_ne _ (by omega)]; rw [set_ne _ (by omega)]; exact e2), (by rw [set_ne _ (by omega)]; rw [set_ne _ (by omega)]; rw [set_ne _ (by omega)]; rw [set_ne _ (by omega)]; rw [set_ne _ (by omega)]; rw [set_ne _ (by omega)]; rw [set_ne _ (by omega)]; exact e3), (by rw [set_ne _ (by omega)]; rw [set_ne _ (by omega)]; rw [set_ne _ (by omega)]; rw [set_ne _ (by omega)]; rw [set_ne _ (by omega)]; rw [set_ne _ (by omega)]; rw [set_ne _ (by omega)]; exact e4), (by rw [set_ne _ (by omega)]; rw [set_ne _ (by omega)]; rw [set_ne _ (by omega)]; rw [set_ne _ (by omega)]; rw [set_ne _ (by omega)]; rw [set_ne _ (by omega)]; rw [set_ne _ (by omega)]; exact e5), (by rw [set_ne _ (by omega)]; rw [set_ne _ (by omega)]; rw [set_ne _ (by omega)]; rw [set_ne _ (by omega)]; rw [set_ne _ (by omega)]; rw [set_ne _ (by omega)]; rw [set_ne _ (by omega)]; exact e6), ((((((((i0.next hx).store (by omega) _).store (by omega) _).store (by omega) _).store (by omega) _).store (by omega) _).store (by omega) _).store (by omega) _)⟩
theorem toRelsRow.held {w : World} {g n : Nat} {zs : List Rl} (hn : zs.length = n) (hm : n ≤ maxLen) (h : toRelsRow w g n n zs) : HRels g w (.slice (some ⟨g, 0, none⟩) n n) zs := by
  obtain ⟨cs, BK, hs, hi⟩ := h
  subst hn
  refine ⟨_, _, rfl, hm, fun h0 => ⟨g, 0, rfl, Nat.le_refl _, BK.lt, fun i hik => ?_⟩⟩
  obtain ⟨p', e0, e1, e2, e3, e4, e5, e6, i0⟩ := hi i hik
  exact ⟨p', BK.cell (by simpa using e0), BK.cell (by simpa using e1), BK.cell (by simpa using e2), BK.cell (by simpa using e3), BK.cell (by simpa using e4), BK.cell (by simpa using e5), BK.cell (by simpa using e6), i0.base (by omega)⟩
theorem info49 : (Tryz.prog.info? 93).map (fun i => (i.zero, i.size, i.bytes)) = some (some (.agg #[.int .i64 0, .bool false, .int .i64 0, .int .i64 0, .bool false, .int .i64 0, .slice none 0 0]), 7, 72) := by kernel_rfl

set_option maxHeartbeats 1000000 in
theorem toRels_any (B : Nat) (v : Value) (zs : List Rl) (w : World) (h0 : HRels B w v zs) (hs : zs.length ≤ 1048576) (hs1 : ∀ i, i < zs.length → (rat zs i).ways.length ≤ 1048576) :
    Calls Tryz.prog 27 #[v] w fun e w' => (∃ a' n' c', e = .returned (.slice a' n' c') ∧ HRels w.heap.size w' (.slice a' n' c') zs) ∧ Nu w w' := by
  obtain ⟨a, cap, rfl, hn, hk⟩ := h0
  generalize hz : zs.length = n at *
  have HZ : Hid (zs.length = n) := hz
  have HM : Hid (n ≤ maxLen) := hn
  clear hz hn
  have hmk := make_structs 35 93 (.agg #[.int .i64 0, .bool false, .int .i64 0, .int .i64 0, .bool false, .int .i64 0, .slice none 0 0]) 7 72 Tryz.underlying35 info49 n (by omega) (by omega)
  go_enter Tryz.func27, Tryz.ntmps27
  go_wp2
  go_loopw [4] (fun i wr => ∃ k : Nat, k ≤ n ∧ i = .int .i64 k ∧ Hid (toRelsRow wr w.heap.size n k zs) ∧ Hid (Nu w wr)) (fun i _ => n - (intOf i).toNat)
  case atStart => exact ⟨0, Nat.zero_le _, rfl, ⟨_, Blk.made _ _ _ _, size_madeCells _ _, fun i hi => absurd hi (Nat.not_lt_zero _)⟩, ubox1 _ _ _⟩
  case round =>
    obtain ⟨k, hkn, rfl, HR, HN⟩ := hrel
    clear hmk
    by_cases hlt : k < n
    · obtain ⟨b, off, rfl, hB, hb, hc⟩ := hk (by omega)
      obtain ⟨p1, a0, a1, a2, a3, a4, a5, a6, n1⟩ := hc k hlt
      have a0 := cell_next HN.out.nx hb a0
      have a1 := cell_next HN.out.nx hb a1
      have a2 := cell_next HN.out.nx hb a2
      have a3 := cell_next HN.out.nx hb a3
      have a4 := cell_next HN.out.nx hb a4
      have a5 := cell_next HN.out.nx hb a5
      have a6 := cell_next HN.out.nx hb a6
      have hlt' : (k : Int) < n := by omega
      obtain ⟨cs, BK, hcs, _⟩ := HR.out
      have hm : (k + 1) * 7 ≤ n * 7 := Nat.mul_le_mul_right 7 hlt
      have hsz : w.heap.size < wr.heap.size := BK.lt
      clear hc hk
      go_wp2_with fail
      refine (toRel_any B (rat zs k) _ _ (by exact n1.next HN.out.nx) (hs1 k hlt)).mono ?_
      rintro e w1 ⟨⟨q1, m1, c1, rfl, g0'⟩, hu⟩
      have hx := hu.nx
      have BK1 := BK.next hx
      have g0 : Hid (HInts wr.heap.size w1 (.slice q1 m1 c1) (rat zs k).ways) := g0'
      clear g0'
      have r0 := BK1.cell (i := k * 7) (Array.getElem?_eq_getElem (by omega))
      have r1 := BK1.cell (i := k * 7 + 1) (Array.getElem?_eq_getElem (by omega))
      have r2 := BK1.cell (i := k * 7 + 2) (Array.getElem?_eq_getElem (by omega))
      have r3 := BK1.cell (i := k * 7 + 3) (Array.getElem?_eq_getElem (by omega))
      have r4 := BK1.cell (i := k * 7 + 4) (Array.getElem?_eq_getElem (by omega))
      have r5 := BK1.cell (i := k * 7 + 5) (Array.getElem?_eq_getElem (by omega))
      have r6 := BK1.cell (i := k * 7 + 6) (Array.getElem?_eq_getElem (by omega))
      have f0 := BK1.frozen (k * 7)
      have f1 := BK1.frozen (k * 7 + 1)
      have f2 := BK1.frozen (k * 7 + 2)
      have f3 := BK1.frozen (k * 7 + 3)
      have f4 := BK1.frozen (k * 7 + 4)
      have f5 := BK1.frozen (k * 7 + 5)
      have f6 := BK1.frozen (k * 7 + 6)
      have HX : Hid (Nu wr w1) := hu
      clear hx hu BK BK1
      go_wp2
      go_roundw
      case rel => exact ⟨k + 1, by omega, by go_num, HR.out.step HX.out.nx hlt _ (g0.out.base (by omega)), Nu.setCell (Nu.setCell (Nu.setCell (Nu.setCell (Nu.setCell (Nu.setCell (Nu.setCell (HN.out.trans HX.out) (Nat.le_refl _) _) (Nat.le_refl _) _) (Nat.le_refl _) _) (Nat.le_refl _) _) (Nat.le_refl _) _) (Nat.le_refl _) _) (Nat.le_refl _) _⟩
      case measure => simp [intOf]; omega
    · go_wp2
      go_ret
      have e : k = n := by omega
      subst e
      exact ⟨⟨_, _, _, rfl, HR.out.held HZ.out HM.out⟩, HN.out⟩
end Go.Proofs.YtcdjmpbdaiafgaaGreatDoor

namespace Go.Proofs.YtcdjmpbdaiafgaaGreatDoor
open Go.RowKit
set_option linter.unusedVariables false

/-- the first k structs of the new row hold the list's -/
def toTurnsRow (w : World) (g n k : Nat) (zs : List Tn) : Prop := ∃ cs : Array Value, Blk w g cs ∧ cs.size = n * 3 ∧ ∀ i, i < k → cs[i * 3]? = some (.int .i64 (tat zs i).frm) ∧ cs[i * 3 + 1]? = some (.int .i64 (tat zs i).to) ∧ cs[i * 3 + 2]? = some (.int .i64 (tat zs i).cost)
theorem toTurnsRow.step {wr w1 : World} {g n k : Nat} {zs : List Tn} (h : toTurnsRow wr g n k zs) (hx : Nx wr w1) (hk : k < n)   :
    toTurnsRow (((w1.setCell ⟨g, k * 3, none⟩ (.int .i64 (tat zs k).frm)).setCell ⟨g, k * 3 + 1, none⟩ (.int .i64 (tat zs k).to)).setCell ⟨g, k * 3 + 2, none⟩ (.int .i64 (tat zs k).cost)) g n (k + 1) zs := by
  obtain ⟨cs, BK, hs, hi⟩ := h
  have hm : (k + 1) * 3 ≤ n * 3 := Nat.mul_le_mul_right 3 hk
  refine ⟨_, ((((BK.next hx).set (k * 3) (.int .i64 (tat zs k).frm)).set (k * 3 + 1) (.int .i64 (tat zs k).to)).set (k * 3 + 2) (.int .i64 (tat zs k).cost)), by simpa using hs, fun i hik => ?_⟩
  by_cases e : i = k
  · subst e
    exact ⟨(by rw [set_ne _ (by omega)]; rw [set_ne _ (by omega)]; exact set_eq _ (by simp [hs]; omega)), (by rw [set_ne _ (by omega)]; exact set_eq _ (by simp [hs]; omega)), (by  exact set_eq _ (by simp [hs]; omega))⟩
  · obtain ⟨e0, e1, e2⟩ := hi i (by omega)
    exact ⟨(by rw [set_ne _ (by omega)]; rw [set_ne _ (by omega)]; rw [set_ne _ (by omega)]; exact e0), (by rw [set_ne _ (by omega)]; rw [set_ne _ (by omega)]; rw [set_ne _ (by omega)]; exact e1), (by rw [set_ne _ (by omega)]; rw [set_ne _ (by omega)]; rw [set_ne _ (by omega)]; exact e2)⟩
theorem toTurnsRow.held {w : World} {g n : Nat} {zs : List Tn} (hn : zs.length = n) (hm : n ≤ maxLen) (h : toTurnsRow w g n n zs) : HTurns g w (.slice (some ⟨g, 0, none⟩) n n) zs := by
  obtain ⟨cs, BK, hs, hi⟩ := h
  subst hn
  refine ⟨_, _, rfl, hm, fun h0 => ⟨g, 0, rfl, Nat.le_refl _, BK.lt, fun i hik => ?_⟩⟩
  obtain ⟨e0, e1, e2⟩ := hi i hik
  exact ⟨BK.cell (by simpa using e0), BK.cell (by simpa using e1), BK.cell (by simpa using e2)⟩
theorem info51 : (Tryz.prog.info? 95).map (fun i => (i.zero, i.size, i.bytes)) = some (some (.agg #[.int .i64 0, .int .i64 0, .int .i64 0]), 3, 24) := by kernel_rfl

set_option maxHeartbeats 1000000 in
theorem toTurns_any (B : Nat) (v : Value) (zs : List Tn) (w : World) (h0 : HTurns B w v zs) (hs : zs.length ≤ 1048576)  :
    Calls Tryz.prog 28 #[v] w fun e w' => (∃ a' n' c', e = .returned (.slice a' n' c') ∧ HTurns w.heap.size w' (.slice a' n' c') zs) ∧ Nu w w' := by
  obtain ⟨a, cap, rfl, hn, hk⟩ := h0
  generalize hz : zs.length = n at *
  have HZ : Hid (zs.length = n) := hz
  have HM : Hid (n ≤ maxLen) := hn
  clear hz hn
  have hmk := make_structs 36 95 (.agg #[.int .i64 0, .int .i64 0, .int .i64 0]) 3 24 Tryz.underlying36 info51 n (by omega) (by omega)
  go_enter Tryz.func28, Tryz.ntmps28
  go_wp2
  go_loopw [4] (fun i wr => ∃ k : Nat, k ≤ n ∧ i = .int .i64 k ∧ Hid (toTurnsRow wr w.heap.size n k zs) ∧ Hid (Nu w wr)) (fun i _ => n - (intOf i).toNat)
  case atStart => exact ⟨0, Nat.zero_le _, rfl, ⟨_, Blk.made _ _ _ _, size_madeCells _ _, fun i hi => absurd hi (Nat.not_lt_zero _)⟩, ubox1 _ _ _⟩
  case round =>
    obtain ⟨k, hkn, rfl, HR, HN⟩ := hrel
    clear hmk
    by_cases hlt : k < n
    · obtain ⟨b, off, rfl, hB, hb, hc⟩ := hk (by omega)
      obtain ⟨a0, a1, a2⟩ := hc k hlt
      have a0 := cell_next HN.out.nx hb a0
      have a1 := cell_next HN.out.nx hb a1
      have a2 := cell_next HN.out.nx hb a2
      have hlt' : (k : Int) < n := by omega
      obtain ⟨cs, BK, hcs, _⟩ := HR.out
      have hm : (k + 1) * 3 ≤ n * 3 := Nat.mul_le_mul_right 3 hlt
      have hsz : w.heap.size < wr.heap.size := BK.lt
      clear hc hk
      go_wp2_with fail
      refine (toTurn_any (tat zs k) _).mono ?_
      rintro e w1 ⟨rfl, hu⟩
      have hx := hu.nx
      have BK1 := BK.next hx
      have r0 := BK1.cell (i := k * 3) (Array.getElem?_eq_getElem (by omega))
      have r1 := BK1.cell (i := k * 3 + 1) (Array.getElem?_eq_getElem (by omega))
      have r2 := BK1.cell (i := k * 3 + 2) (Array.getElem?_eq_getElem (by omega))
      have f0 := BK1.frozen (k * 3)
      have f1 := BK1.frozen (k * 3 + 1)
      have f2 := BK1.frozen (k * 3 + 2)
      have HX : Hid (Nu wr w1) := hu
      clear hx hu BK BK1
      go_wp2
      go_roundw
      case rel => exact ⟨k + 1, by omega, by go_num, HR.out.step HX.out.nx hlt  , Nu.setCell (Nu.setCell (Nu.setCell (HN.out.trans HX.out) (Nat.le_refl _) _) (Nat.le_refl _) _) (Nat.le_refl _) _⟩
      case measure => simp [intOf]; omega
    · go_wp2
      go_ret
      have e : k = n := by omega
      subst e
      exact ⟨⟨_, _, _, rfl, HR.out.held HZ.out HM.out⟩, HN.out⟩
end Go.Proofs.YtcdjmpbdaiafgaaGreatDoor

namespace Go.Proofs.YtcdjmpbdaiafgaaGreatDoor
open Go.RowKit
set_option linter.unusedVariables false

theorem set_keeps {B : Nat} (w : World) {g : Nat} (o : Nat) (hg : g < B) (u : Value) : Keeps B w (w.setCell ⟨g, o, none⟩ u) :=
  ⟨by simp [World.setCell], fun b hb _ o' => World.cell?_of_block (w := w) (Below.heap_setCell _ _ _ _ (by simp; omega))⟩
theorem HWays.base {B B' : Nat} {w : World} {v : Value} {xs : List Wy} (h : HWays B w v xs) (hB : B' ≤ B) : HWays B' w v xs :=
  HSlice.mono h hB (Nat.le_refl _) fun b off hb hs i hi hc => by
    obtain ⟨p, q, h0, h1, h2, h3, h4, h5⟩ := hc
    exact ⟨p, q, h0, h1, h2, h3, h4.base hB, h5.base hB⟩
theorem HRels.base {B B' : Nat} {w : World} {v : Value} {xs : List Rl} (h : HRels B w v xs) (hB : B' ≤ B) : HRels B' w v xs :=
  HSlice.mono h hB (Nat.le_refl _) fun b off hb hs i hi hc => by
    obtain ⟨p, h0, h1, h2, h3, h4, h5, h6, h7⟩ := hc
    exact ⟨p, h0, h1, h2, h3, h4, h5, h6, h7.base hB⟩
theorem HTurns.base {B B' : Nat} {w : World} {v : Value} {xs : List Tn} (h : HTurns B w v xs) (hB : B' ≤ B) : HTurns B' w v xs :=
  HSlice.mono h hB (Nat.le_refl _) fun b off hb hs i hi hc => hc

theorem Keeps.trans {B : Nat} {a b c : World} (h : Keeps B a b) (k : Keeps B b c) : Keeps B a c :=
  ⟨Nat.le_trans h.1 k.1, fun x hx hl o => (k.2 x hx (Nat.lt_of_lt_of_le hl h.1) o).trans (h.2 x hx hl o)⟩
structure Small (N : Nt) : Prop where
  nodes : N.nodes.length ≤ 1048576
  ways : N.ways.length ≤ 1048576
  way : ∀ i, i < N.ways.length → (wat N.ways i).nodes.length ≤ 1048576 ∧ (wat N.ways i).weights.length ≤ 1048576
  rels : N.rels.length ≤ 1048576
  rel : ∀ i, i < N.rels.length → (rat N.rels i).ways.length ≤ 1048576
  turns : N.turns.length ≤ 1048576

set_option maxHeartbeats 1000000 in
theorem toNet_any (B : Nat) (v0 v1 v2 v3 : Value) (N : Nt) (w : World) (h0 : HNet B w v0 v1 v2 v3 N) (hs : Small N) :
    Calls Tryz.prog 7 #[.agg #[v0, v1, v2, v3, .int .i64 N.uturn]] w fun e w' => (∃ a0 n0 c0 a1 n1 c1 a2 n2 c2 a3 n3 c3, e = .returned (.agg #[.slice a0 n0 c0, .slice a1 n1 c1, .slice a2 n2 c2, .slice a3 n3 c3, .int .i64 N.uturn]) ∧ HNet w.heap.size w' (.slice a0 n0 c0) (.slice a1 n1 c1) (.slice a2 n2 c2) (.slice a3 n3 c3) N) ∧ Nu w w' := by
  obtain ⟨i0, i1, i2, i3⟩ := h0
  go_enter Tryz.func7, Tryz.ntmps7
  go_wp2_with fail
  have HXX : Hid (Nu w (((w.alloc (.cells #[v0, v1, v2, v3, .int .i64 N.uturn] 27)).alloc (.cells #[.slice none 0 0, .slice none 0 0, .slice none 0 0, .slice none 0 0, .int .i64 0] 38)).alloc (.cells #[.slice none 0 0, .slice none 0 0, .slice none 0 0, .slice none 0 0, .int .i64 0] 38))) := (ubox2 _ _ _ _ _).alloc _ _
  have BA : Blk (((w.alloc (.cells #[v0, v1, v2, v3, .int .i64 N.uturn] 27)).alloc (.cells #[.slice none 0 0, .slice none 0 0, .slice none 0 0, .slice none 0 0, .int .i64 0] 38)).alloc (.cells #[.slice none 0 0, .slice none 0 0, .slice none 0 0, .slice none 0 0, .int .i64 0] 38)) w.heap.size #[v0, v1, v2, v3, .int .i64 N.uturn] := ((Blk.new w _ 27 _ rfl).alloc _).alloc _
  have BB : Blk (((w.alloc (.cells #[v0, v1, v2, v3, .int .i64 N.uturn] 27)).alloc (.cells #[.slice none 0 0, .slice none 0 0, .slice none 0 0, .slice none 0 0, .int .i64 0] 38)).alloc (.cells #[.slice none 0 0, .slice none 0 0, .slice none 0 0, .slice none 0 0, .int .i64 0] 38)) (w.heap.size + 1) #[.slice none 0 0, .slice none 0 0, .slice none 0 0, .slice none 0 0, .int .i64 0] := (Blk.new _ _ 38 _ (by simp)).alloc _
  have BC : Blk (((w.alloc (.cells #[v0, v1, v2, v3, .int .i64 N.uturn] 27)).alloc (.cells #[.slice none 0 0, .slice none 0 0, .slice none 0 0, .slice none 0 0, .int .i64 0] 38)).alloc (.cells #[.slice none 0 0, .slice none 0 0, .slice none 0 0, .slice none 0 0, .int .i64 0] 38)) (w.heap.size + 1 + 1) #[.slice none 0 0, .slice none 0 0, .slice none 0 0, .slice none 0 0, .int .i64 0] := Blk.new _ _ 38 _ (by simp)
  have hsz : w.heap.size + 3 ≤ (((w.alloc (.cells #[v0, v1, v2, v3, .int .i64 N.uturn] 27)).alloc (.cells #[.slice none 0 0, .slice none 0 0, .slice none 0 0, .slice none 0 0, .int .i64 0] 38)).alloc (.cells #[.slice none 0 0, .slice none 0 0, .slice none 0 0, .slice none 0 0, .int .i64 0] 38)).heap.size := by simp
  refine (toInts_any B _ N.nodes _ (by exact i0.keep (HXX.out.keeps B)) hs.nodes).mono ?_
  rintro e w0 ⟨⟨a0, n0, c0, rfl, g0⟩, hu⟩
  have hx := hu.nx
  have HX : Hid (Nu w w0) := HXX.out.trans hu
  clear HXX
  have BA := BA.next hx
  have BB := BB.next hx
  have BC := BC.next hx
  have G0 : Hid (HInts (w.heap.size + 3) w0 (.slice a0 n0 c0) N.nodes) := g0.base hsz
  have hsz : w.heap.size + 3 ≤ w0.heap.size := Nat.le_trans hsz hx.size
  clear hx hu g0
  have k0 := BA.cell (i := 1) rfl
  have k1 := BC.cell (i := 0) rfl
  have k2 := BC.frozen 0
  have HS : Hid (w.heap.size + 3 ≤ w0.heap.size) := hsz
  go_wp2_with fail
  have HXX : Hid (Nu w (w0.setCell ⟨w.heap.size + 1 + 1, 0, none⟩ (.slice a0 n0 c0))) := Nu.setCell HX.out (by simp; omega) _
  have BA := BA.setOther (g := w.heap.size + 1 + 1) (by omega) 0 (.slice a0 n0 c0)
  have BB := BB.setOther (g := w.heap.size + 1 + 1) (by omega) 0 (.slice a0 n0 c0)
  have BC := BC.set 0 (.slice a0 n0 c0)
  have hsz : w.heap.size + 3 ≤ (w0.setCell ⟨w.heap.size + 1 + 1, 0, none⟩ (.slice a0 n0 c0)).heap.size := by simp only [World.setCell, Array.size_modify]; exact HS.out
  have G0 : Hid (HInts (w.heap.size + 3) (w0.setCell ⟨w.heap.size + 1 + 1, 0, none⟩ (.slice a0 n0 c0)) (.slice a0 n0 c0) N.nodes) := G0.out.keep (set_keeps _ _ (by omega) _)
  clear k0 k1 k2 HS HX
  refine (toWays_any B _ N.ways _ (by exact i1.keep (HXX.out.keeps B)) hs.ways hs.way).mono ?_
  rintro e w1 ⟨⟨a1, n1, c1, rfl, g1⟩, hu⟩
  have hx := hu.nx
  have HX : Hid (Nu w w1) := HXX.out.trans hu
  clear HXX
  have BA := BA.next hx
  have BB := BB.next hx
  have BC := BC.next hx
  have G1 : Hid (HWays (w.heap.size + 3) w1 (.slice a1 n1 c1) N.ways) := g1.base hsz
  have G0 : Hid (HInts (w.heap.size + 3) w1 (.slice a0 n0 c0) N.nodes) := G0.out.keep (hx.keeps _)
  have hsz : w.heap.size + 3 ≤ w1.heap.size := Nat.le_trans hsz hx.size
  clear hx hu g1
  have k0 := BA.cell (i := 2) rfl
  have k1 := BC.cell (i := 1) rfl
  have k2 := BC.frozen 1
  have HS : Hid (w.heap.size + 3 ≤ w1.heap.size) := hsz
  go_wp2_with fail
  have HXX : Hid (Nu w (w1.setCell ⟨w.heap.size + 1 + 1, 1, none⟩ (.slice a1 n1 c1))) := Nu.setCell HX.out (by simp; omega) _
  have BA := BA.setOther (g := w.heap.size + 1 + 1) (by omega) 1 (.slice a1 n1 c1)
  have BB := BB.setOther (g := w.heap.size + 1 + 1) (by omega) 1 (.slice a1 n1 c1)
  have BC := BC.set 1 (.slice a1 n1 c1)
  have hsz : w.heap.size + 3 ≤ (w1.setCell ⟨w.heap.size + 1 + 1, 1, none⟩ (.slice a1 n1 c1)).heap.size := by simp only [World.setCell, Array.size_modify]; exact HS.out
  have G0 : Hid (HInts (w.heap.size + 3) (w1.setCell ⟨w.heap.size + 1 + 1, 1, none⟩ (.slice a1 n1 c1)) (.slice a0 n0 c0) N.nodes) := G0.out.keep (set_keeps _ _ (by omega) _)
  have G1 : Hid (HWays (w.heap.size + 3) (w1.setCell ⟨w.heap.size + 1 + 1, 1, none⟩ (.slice a1 n1 c1)) (.slice a1 n1 c1) N.ways) := G1.out.keep (set_keeps _ _ (by omega) _)
  clear k0 k1 k2 HS HX
  refine (toRels_any B _ N.rels _ (by exact i2.keep (HXX.out.keeps B)) hs.rels hs.rel).mono ?_
  rintro e w2 ⟨⟨a2, n2, c2, rfl, g2⟩, hu⟩
  have hx := hu.nx
  have HX : Hid (Nu w w2) := HXX.out.trans hu
  clear HXX
  have BA := BA.next hx
  have BB := BB.next hx
  have BC := BC.next hx
  have G2 : Hid (HRels (w.heap.size + 3) w2 (.slice a2 n2 c2) N.rels) := g2.base hsz
  have G0 : Hid (HInts (w.heap.size + 3) w2 (.slice a0 n0 c0) N.nodes) := G0.out.keep (hx.keeps _)
  have G1 : Hid (HWays (w.heap.size + 3) w2 (.slice a1 n1 c1) N.ways) := G1.out.keep (hx.keeps _)
  have hsz : w.heap.size + 3 ≤ w2.heap.size := Nat.le_trans hsz hx.size
  clear hx hu g2
  have k0 := BA.cell (i := 3) rfl
  have k1 := BC.cell (i := 2) rfl
  have k2 := BC.frozen 2
  have HS : Hid (w.heap.size + 3 ≤ w2.heap.size) := hsz
  go_wp2_with fail
  have HXX : Hid (Nu w (w2.setCell ⟨w.heap.size + 1 + 1, 2, none⟩ (.slice a2 n2 c2))) := Nu.setCell HX.out (by simp; omega) _
  have BA := BA.setOther (g := w.heap.size + 1 + 1) (by omega) 2 (.slice a2 n2 c2)
  have BB := BB.setOther (g := w.heap.size + 1 + 1) (by omega) 2 (.slice a2 n2 c2)
  have BC := BC.set 2 (.slice a2 n2 c2)
  have hsz : w.heap.size + 3 ≤ (w2.setCell ⟨w.heap.size + 1 + 1, 2, none⟩ (.slice a2 n2 c2)).heap.size := by simp only [World.setCell, Array.size_modify]; exact HS.out
  have G0 : Hid (HInts (w.heap.size + 3) (w2.setCell ⟨w.heap.size + 1 + 1, 2, none⟩ (.slice a2 n2 c2)) (.slice a0 n0 c0) N.nodes) := G0.out.keep (set_keeps _ _ (by omega) _)
  have G1 : Hid (HWays (w.heap.size + 3) (w2.setCell ⟨w.heap.size + 1 + 1, 2, none⟩ (.slice a2 n2 c2)) (.slice a1 n1 c1) N.ways) := G1.out.keep (set_keeps _ _ (by omega) _)
  have G2 : Hid (HRels (w.heap.size + 3) (w2.setCell ⟨w.heap.size + 1 + 1, 2, none⟩ (.slice a2 n2 c2)) (.slice a2 n2 c2) N.rels) := G2.out.keep (set_keeps _ _ (by omega) _)
  clear k0 k1 k2 HS HX
  refine (toTurns_any B _ N.turns _ (by exact i3.keep (HXX.out.keeps B)) hs.turns).mono ?_
  rintro e w3 ⟨⟨a3, n3, c3, rfl, g3⟩, hu⟩
  have hx := hu.nx
  have HX : Hid (Nu w w3) := HXX.out.trans hu
  clear HXX
  have BA := BA.next hx
  have BB := BB.next hx
  have BC := BC.next hx
  have G3 : Hid (HTurns (w.heap.size + 3) w3 (.slice a3 n3 c3) N.turns) := g3.base hsz
  have G0 : Hid (HInts (w.heap.size + 3) w3 (.slice a0 n0 c0) N.nodes) := G0.out.keep (hx.keeps _)
  have G1 : Hid (HWays (w.heap.size + 3) w3 (.slice a1 n1 c1) N.ways) := G1.out.keep (hx.keeps _)
  have G2 : Hid (HRels (w.heap.size + 3) w3 (.slice a2 n2 c2) N.rels) := G2.out.keep (hx.keeps _)
  have hsz : w.heap.size + 3 ≤ w3.heap.size := Nat.le_trans hsz hx.size
  clear hx hu g3
  have k0 := BA.cell (i := 4) rfl
  have l0 := BC.cell (i := 0) rfl
  have m0 := BB.cell (i := 0) rfl
  have f0 := BB.frozen 0
  have l1 := BC.cell (i := 1) rfl
  have m1 := BB.cell (i := 1) rfl
  have f1 := BB.frozen 1
  have l2 := BC.cell (i := 2) rfl
  have m2 := BB.cell (i := 2) rfl
  have f2 := BB.frozen 2
  have l3 := BC.cell (i := 3) rfl
  have m3 := BB.cell (i := 3) rfl
  have f3 := BB.frozen 3
  have l4 := BC.cell (i := 4) rfl
  have m4 := BB.cell (i := 4) rfl
  have f4 := BB.frozen 4
  have f5 := BC.frozen 3
  have f6 := BC.frozen 4
  go_wp2
  have K7 := ((((((set_keeps (B := w.heap.size + 3) w3 (g := w.heap.size + 1 + 1) 3 (by omega) (.slice a3 n3 c3)).trans (set_keeps _ (g := w.heap.size + 1 + 1) 4 (by omega) (.int .i64 N.uturn))).trans (set_keeps _ (g := w.heap.size + 1) 0 (by omega) (.slice a0 n0 c0))).trans (set_keeps _ (g := w.heap.size + 1) 1 (by omega) (.slice a1 n1 c1))).trans (set_keeps _ (g := w.heap.size + 1) 2 (by omega) (.slice a2 n2 c2))).trans (set_keeps _ (g := w.heap.size + 1) 3 (by omega) (.slice a3 n3 c3))).trans (set_keeps _ (g := w.heap.size + 1) 4 (by omega) (.int .i64 N.uturn))
  refine bodyPost_ret (v := .agg #[.slice a0 n0 c0, .slice a1 n1 c1, .slice a2 n2 c2, .slice a3 n3 c3, .int .i64 N.uturn]) (by simp [results, Tryz.results7, go_sem, m0, m1, m2, m3, m4]) rfl ⟨⟨a0, n0, c0, a1, n1, c1, a2, n2, c2, a3, n3, c3, rfl, ?_, ?_, ?_, ?_⟩, ?_⟩
  · exact (G0.out.keep K7).base (by omega)
  · exact (G1.out.keep K7).base (by omega)
  · exact (G2.out.keep K7).base (by omega)
  · exact (G3.out.keep K7).base (by omega)
  · exact Nu.setCell (Nu.setCell (Nu.setCell (Nu.setCell (Nu.setCell (Nu.setCell (Nu.setCell HX.out (by simp; omega) _) (by simp; omega) _) (by simp) _) (by simp) _) (by simp) _) (by simp) _) (by simp) _
end Go.Proofs.YtcdjmpbdaiafgaaGreatDoor
