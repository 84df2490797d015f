import Derived.Test.YtaenphgggndphaaToD
namespace Go.Proofs.Ytaenphgggndphaa
open Go.RowKit
set_option linter.unusedVariables false

/-- the first k structs of the new row hold the list's -/
def toWaysRow (w : World) (g n k : Nat) (zs : List Wy) : Prop := ∃ cs : Array Value, Blk w g cs ∧ cs.size = n * 4 ∧ ∀ i, i < k → ∃ p q : Value, cs[i * 4]? = some (.int .i64 (wat zs i).id) ∧ cs[i * 4 + 1]? = some (.bool (wat zs i).both) ∧ cs[i * 4 + 2]? = some p ∧ cs[i * 4 + 3]? = some q ∧ HInts (g + 1) w p (wat zs i).nodes ∧ HInts (g + 1) w q (wat zs i).weights
theorem toWaysRow.step {wr w1 : World} {g n k : Nat} {zs : List Wy} (h : toWaysRow wr g n k zs) (hx : Nx wr w1) (hk : k < n) (p : Value) (q : Value) (h0 : HInts (g + 1) w1 p (wat zs k).nodes) (h1 : HInts (g + 1) w1 q (wat zs k).weights) :
    toWaysRow ((((w1.setCell ⟨g, k * 4, none⟩ (.int .i64 (wat zs k).id)).setCell ⟨g, k * 4 + 1, none⟩ (.bool (wat zs k).both)).setCell ⟨g, k * 4 + 2, none⟩ p).setCell ⟨g, k * 4 + 3, none⟩ q) g n (k + 1) zs := by
  obtain ⟨cs, BK, hs, hi⟩ := h
  have hm : (k + 1) * 4 ≤ n * 4 := Nat.mul_le_mul_right 4 hk
  refine ⟨_, (((((BK.next hx).set (k * 4) (.int .i64 (wat zs k).id)).set (k * 4 + 1) (.bool (wat zs k).both)).set (k * 4 + 2) p).set (k * 4 + 3) q), by simpa using hs, fun i hik => ?_⟩
  by_cases e : i = k
  · subst e
    exact ⟨p, q, (by rw [set_ne _ (by omega)]; rw [set_ne _ (by omega)]; rw [set_ne _ (by omega)]; exact set_eq _ (by simp [hs]; omega)), (by rw [set_ne _ (by omega)]; rw [set_ne _ (by omega)]; exact set_eq _ (by simp [hs]; omega)), (by rw [set_ne _ (by omega)]; exact set_eq _ (by simp [hs]; omega)), (by  exact set_eq _ (by simp [hs]; omega)), ((((h0.store (by omega) _).store (by omega) _).store (by omega) _).store (by omega) _), ((((h1.store (by omega) _).store (by omega) _).store (by omega) _).store (by omega) _)⟩
  · obtain ⟨p', q', e0, e1, e2, e3, i0, i1⟩ := hi i (by omega)
    exact ⟨p', q', (by rw [set_ne _ (by omega)]; rw [set_ne _ (by omega)]; rw [set_ne _ (by omega)]; rw [set_ne _ (by omega)]; exact e0), (by rw [set_ne _ (by omega)]; rw [set_ne _ (by omega)]; rw [set_ne _ (by omega)]; rw [set_ne _ (by omega)]; exact e1), (by rw [set_ne _ (by omega)]; rw [set_ne _ (by omega)]; rw [set_ne _ (by omega)]; rw [set_ne _ (by omega)]; exact e2), (by rw [set_ne _ (by omega)]; rw [set_ne _ (by omega)]; rw [set_ne _ (by omega)]; rw [set_ne _ (by omega)]; exact e3), (((((i0.next hx).store (by omega) _).store (by omega) _).store (by omega) _).store (by omega) _), (((((i1.next hx).store (by omega) _).store (by omega) _).store (by omega) _).store (by omega) _)⟩
theorem toWaysRow.held {w : World} {g n : Nat} {zs : List Wy} (hn : zs.length = n) (hm : n ≤ maxLen) (h : toWaysRow w g n n zs) : HWays g w (.slice (some ⟨g, 0, none⟩) n n) zs := by
  obtain ⟨cs, BK, hs, hi⟩ := h
  subst hn
  refine ⟨_, _, rfl, hm, fun h0 => ⟨g, 0, rfl, Nat.le_refl _, BK.lt, fun i hik => ?_⟩⟩
  obtain ⟨p', q', e0, e1, e2, e3, i0, i1⟩ := hi i hik
  exact ⟨p', q', BK.cell (by simpa using e0), BK.cell (by simpa using e1), BK.cell (by simpa using e2), BK.cell (by simpa using e3), i0.base (by omega), i1.base (by omega)⟩
theorem info45 : (Try.prog.info? 45).map (fun i => (i.zero, i.size, i.bytes)) = some (some (.agg #[.int .i64 0, .bool false, .slice none 0 0, .slice none 0 0]), 4, 64) := by kernel_rfl

set_option maxHeartbeats 1000000 in
theorem toWays_any (B : Nat) (v : Value) (zs : List Wy) (w : World) (h0 : HWays B w v zs) (hs : zs.length ≤ 1048576) (hs1 : ∀ i, i < zs.length → (wat zs i).nodes.length ≤ 1048576 ∧ (wat zs i).weights.length ≤ 1048576) :
    Calls Try.prog 19 #[v] w fun e w' => (∃ a' n' c', e = .returned (.slice a' n' c') ∧ HWays w.heap.size w' (.slice a' n' c') zs) ∧ Nx w w' := by
  obtain ⟨a, cap, rfl, hn, hk⟩ := h0
  generalize hz : zs.length = n at *
  have HZ : Hid (zs.length = n) := hz
  have HM : Hid (n ≤ maxLen) := hn
  clear hz hn
  have hmk := make_structs 30 45 (.agg #[.int .i64 0, .bool false, .slice none 0 0, .slice none 0 0]) 4 64 Try.underlying30 info45 n (by omega) (by omega)
  go_enter Try.func19, Try.ntmps19
  go_wp2
  go_loopw [4] (fun i wr => ∃ k : Nat, k ≤ n ∧ i = .int .i64 k ∧ Hid (toWaysRow wr w.heap.size n k zs) ∧ Hid (Nx w wr)) (fun i _ => n - (intOf i).toNat)
  case atStart => exact ⟨0, Nat.zero_le _, rfl, ⟨_, Blk.made _ _ _ _, size_madeCells _ _, fun i hi => absurd hi (Nat.not_lt_zero _)⟩, box1 _ _⟩
  case round =>
    obtain ⟨k, hkn, rfl, HR, HN⟩ := hrel
    clear hmk
    by_cases hlt : k < n
    · obtain ⟨b, off, rfl, hB, hb, hc⟩ := hk (by omega)
      obtain ⟨p1, p2, a0, a1, a2, a3, n1, w1'⟩ := hc k hlt
      have a0 := cell_next HN.out hb a0
      have a1 := cell_next HN.out hb a1
      have a2 := cell_next HN.out hb a2
      have a3 := cell_next HN.out hb a3
      have hlt' : (k : Int) < n := by omega
      obtain ⟨cs, BK, hcs, _⟩ := HR.out
      have hm : (k + 1) * 4 ≤ n * 4 := Nat.mul_le_mul_right 4 hlt
      have hsz : w.heap.size < wr.heap.size := BK.lt
      clear hc hk
      go_wp2_with fail
      refine (toWay_any B _ _ _ _ (wat zs k).nodes (wat zs k).weights _ (by exact n1.next HN.out) (by exact w1'.next HN.out) (hs1 k hlt).1 (hs1 k hlt).2).mono ?_
      rintro e w1 ⟨⟨q1, m1, c1, q2, m2, c2, rfl, g0', g1'⟩, hx⟩
      have BK1 := BK.next hx
      have g0 : Hid (HInts wr.heap.size w1 (.slice q1 m1 c1) (wat zs k).nodes) := g0'
      have g1 : Hid (HInts wr.heap.size w1 (.slice q2 m2 c2) (wat zs k).weights) := g1'
      clear g0' g1'
      have r0 := BK1.cell (i := k * 4) (Array.getElem?_eq_getElem (by omega))
      have r1 := BK1.cell (i := k * 4 + 1) (Array.getElem?_eq_getElem (by omega))
      have r2 := BK1.cell (i := k * 4 + 2) (Array.getElem?_eq_getElem (by omega))
      have r3 := BK1.cell (i := k * 4 + 3) (Array.getElem?_eq_getElem (by omega))
      have f0 := BK1.frozen (k * 4)
      have f1 := BK1.frozen (k * 4 + 1)
      have f2 := BK1.frozen (k * 4 + 2)
      have f3 := BK1.frozen (k * 4 + 3)
      have HX : Hid (Nx wr w1) := hx
      clear hx BK BK1
      go_wp2
      go_roundw
      case rel => exact ⟨k + 1, by omega, by go_num, HR.out.step HX.out hlt _ _ (g0.out.base (by omega)) (g1.out.base (by omega)), Below.setCell (Below.setCell (Below.setCell (Below.setCell (HN.out.trans HX.out) (Nat.le_refl _) _) (Nat.le_refl _) _) (Nat.le_refl _) _) (Nat.le_refl _) _⟩
      case measure => simp [intOf]; omega
    · go_wp2
      go_ret
      have e : k = n := by omega
      subst e
      exact ⟨⟨_, _, _, rfl, HR.out.held HZ.out HM.out⟩, HN.out⟩
end Go.Proofs.Ytaenphgggndphaa
