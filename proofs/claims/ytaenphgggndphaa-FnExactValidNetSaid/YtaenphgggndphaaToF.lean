import Derived.Test.YtaenphgggndphaaToD
namespace Go.Proofs.Ytaenphgggndphaa
open Go.RowKit
set_option linter.unusedVariables false

/-- the first k structs of the new row hold the list's -/
def toRelsRow (w : World) (g n k : Nat) (zs : List Rl) : Prop := ∃ cs : Array Value, Blk w g cs ∧ cs.size = n * 7 ∧ ∀ i, i < k → ∃ p : Value, cs[i * 7]? = some (.int .i64 (rat zs i).id) ∧ cs[i * 7 + 1]? = some (.bool (rat zs i).only) ∧ cs[i * 7 + 2]? = some (.int .i64 (rat zs i).frm) ∧ cs[i * 7 + 3]? = some (.int .i64 (rat zs i).to) ∧ cs[i * 7 + 4]? = some (.bool (rat zs i).via) ∧ cs[i * 7 + 5]? = some (.int .i64 (rat zs i).node) ∧ cs[i * 7 + 6]? = some p ∧ HInts (g + 1) w p (rat zs i).ways
theorem toRelsRow.step {wr w1 : World} {g n k : Nat} {zs : List Rl} (h : toRelsRow wr g n k zs) (hx : Nx wr w1) (hk : k < n) (p : Value) (h0 : HInts (g + 1) w1 p (rat zs k).ways) :
    toRelsRow (((((((w1.setCell ⟨g, k * 7, none⟩ (.int .i64 (rat zs k).id)).setCell ⟨g, k * 7 + 1, none⟩ (.bool (rat zs k).only)).setCell ⟨g, k * 7 + 2, none⟩ (.int .i64 (rat zs k).frm)).setCell ⟨g, k * 7 + 3, none⟩ (.int .i64 (rat zs k).to)).setCell ⟨g, k * 7 + 4, none⟩ (.bool (rat zs k).via)).setCell ⟨g, k * 7 + 5, none⟩ (.int .i64 (rat zs k).node)).setCell ⟨g, k * 7 + 6, none⟩ p) g n (k + 1) zs := by
  obtain ⟨cs, BK, hs, hi⟩ := h
  have hm : (k + 1) * 7 ≤ n * 7 := Nat.mul_le_mul_right 7 hk
  refine ⟨_, ((((((((BK.next hx).set (k * 7) (.int .i64 (rat zs k).id)).set (k * 7 + 1) (.bool (rat zs k).only)).set (k * 7 + 2) (.int .i64 (rat zs k).frm)).set (k * 7 + 3) (.int .i64 (rat zs k).to)).set (k * 7 + 4) (.bool (rat zs k).via)).set (k * 7 + 5) (.int .i64 (rat zs k).node)).set (k * 7 + 6) p), by simpa using hs, fun i hik => ?_⟩
  by_cases e : i = k
  · subst e
    exact ⟨p, (by rw [set_ne _ (by omega)]; rw [set_ne _ (by omega)]; rw [set_ne _ (by omega)]; rw [set_ne _ (by omega)]; rw [set_ne _ (by omega)]; rw [set_ne _ (by omega)]; exact set_eq _ (by simp [hs]; omega)), (by rw [set_ne _ (by omega)]; rw [set_ne _ (by omega)]; rw [set_ne _ (by omega)]; rw [set_ne _ (by omega)]; rw [set_ne _ (by omega)]; exact set_eq _ (by simp [hs]; omega)), (by rw [set_ne _ (by omega)]; rw [set_ne _ (by omega)]; rw [set_ne _ (by omega)]; rw [set_ne _ (by omega)]; exact set_eq _ (by simp [hs]; omega)), (by rw [set_ne _ (by omega)]; rw [set_ne _ (by omega)]; rw [set_ne _ (by omega)]; exact set_eq _ (by simp [hs]; omega)), (by rw [set_ne _ (by omega)]; rw [set_ne _ (by omega)]; exact set_eq _ (by simp [hs]; omega)), (by rw [set_ne _ (by omega)]; exact set_eq _ (by simp [hs]; omega)), (by  exact set_eq _ (by simp [hs]; omega)), (((((((h0.store (by omega) _).store (by omega) _).store (by omega) _).store (by omega) _).store (by omega) _).store (by omega) _).store (by omega) _)⟩
  · obtain ⟨p', e0, e1, e2, e3, e4, e5, e6, i0⟩ := hi i (by omega)
    exact ⟨p', (by rw [set_ne _ (by omega)]; rw [set_ne _ (by omega)]; rw [set_ne _ (by omega)]; rw [set_ne _ (by omega)]; rw [set_ne _ (by omega)]; rw [set_ne _ (by omega)]; rw [set_ne _ (by omega)]; exact e0), (by rw [set_ne _ (by omega)]; rw [set_ne _ (by omega)]; rw [set_ne _ (by omega)]; rw [set_ne _ (by omega)]; rw [set_ne _ (by omega)]; rw [set_ne _ (by omega)]; rw [set_ne _ (by omega)]; exact e1), (by rw [set_ne _ (by omega)]; rw [set_ne _ (by omega)]; rw [set_ne _ (by omega)]; rw [set_ne _ (by omega)]; rw [set_ne _ (by omega)]; rw [set_ne _ (by omega)]; rw [set_ne _ (by omega)]; exact e2), (by rw [set_ne _ (by omega)]; rw [set_ne _ (by omega)]; rw [set_ne _ (by omega)]; rw [set_ne _ (by omega)]; rw [set_ne _ (by omega)]; rw [set_ne _ (by omega)]; rw [set_ne _ (by omega)]; exact e3), (by rw [set_ne _ (by omega)]; rw [set_ne _ (by omega)]; rw [set_ne _ (by omega)]; rw [set_ne _ (by omega)]; rw [set_ne _ (by omega)]; rw [set_ne _ (by omega)]; rw [set_ne _ (by omega)]; exact e4), (by rw [set_ne _ (by omega)]; rw [set_ne _ (by omega)]; rw [set_ne _ (by omega)]; rw [set_ne _ (by omega)]; rw [set_ne _ (by omega)]; rw [set_ne _ (by omega)]; rw [set_ne _ (by omega)]; exact e5), (by rw [set_ne _ (by omega)]; rw [set_ne _ (by omega)]; rw [set_ne _ (by omega)]; rw [set_ne _ (by omega)]; rw [set_ne _ (by omega)]; rw [set_ne _ (by omega)]; rw [set_ne _ (by omega)]; exact e6), ((((((((i0.next hx).store (by omega) _).store (by omega) _).store (by omega) _).store (by omega) _).store (by omega) _).store (by omega) _).store (by omega) _)⟩
theorem toRelsRow.held {w : World} {g n : Nat} {zs : List Rl} (hn : zs.length = n) (hm : n ≤ maxLen) (h : toRelsRow w g n n zs) : HRels g w (.slice (some ⟨g, 0, none⟩) n n) zs := by
  obtain ⟨cs, BK, hs, hi⟩ := h
  subst hn
  refine ⟨_, _, rfl, hm, fun h0 => ⟨g, 0, rfl, Nat.le_refl _, BK.lt, fun i hik => ?_⟩⟩
  obtain ⟨p', e0, e1, e2, e3, e4, e5, e6, i0⟩ := hi i hik
  exact ⟨p', BK.cell (by simpa using e0), BK.cell (by simpa using e1), BK.cell (by simpa using e2), BK.cell (by simpa using e3), BK.cell (by simpa using e4), BK.cell (by simpa using e5), BK.cell (by simpa using e6), i0.base (by omega)⟩
theorem info49 : (Try.prog.info? 49).map (fun i => (i.zero, i.size, i.bytes)) = some (some (.agg #[.int .i64 0, .bool false, .int .i64 0, .int .i64 0, .bool false, .int .i64 0, .slice none 0 0]), 7, 72) := by kernel_rfl

set_option maxHeartbeats 1000000 in
theorem toRels_any (B : Nat) (v : Value) (zs : List Rl) (w : World) (h0 : HRels B w v zs) (hs : zs.length ≤ 1048576) (hs1 : ∀ i, i < zs.length → (rat zs i).ways.length ≤ 1048576) :
    Calls Try.prog 20 #[v] w fun e w' => (∃ a' n' c', e = .returned (.slice a' n' c') ∧ HRels w.heap.size w' (.slice a' n' c') zs) ∧ Nx w w' := by
  obtain ⟨a, cap, rfl, hn, hk⟩ := h0
  generalize hz : zs.length = n at *
  have HZ : Hid (zs.length = n) := hz
  have HM : Hid (n ≤ maxLen) := hn
  clear hz hn
  have hmk := make_structs 31 49 (.agg #[.int .i64 0, .bool false, .int .i64 0, .int .i64 0, .bool false, .int .i64 0, .slice none 0 0]) 7 72 Try.underlying31 info49 n (by omega) (by omega)
  go_enter Try.func20, Try.ntmps20
  go_wp2
  go_loopw [4] (fun i wr => ∃ k : Nat, k ≤ n ∧ i = .int .i64 k ∧ Hid (toRelsRow wr w.heap.size n k zs) ∧ Hid (Nx w wr)) (fun i _ => n - (intOf i).toNat)
  case atStart => exact ⟨0, Nat.zero_le _, rfl, ⟨_, Blk.made _ _ _ _, size_madeCells _ _, fun i hi => absurd hi (Nat.not_lt_zero _)⟩, box1 _ _⟩
  case round =>
    obtain ⟨k, hkn, rfl, HR, HN⟩ := hrel
    clear hmk
    by_cases hlt : k < n
    · obtain ⟨b, off, rfl, hB, hb, hc⟩ := hk (by omega)
      obtain ⟨p1, a0, a1, a2, a3, a4, a5, a6, n1⟩ := hc k hlt
      have a0 := cell_next HN.out hb a0
      have a1 := cell_next HN.out hb a1
      have a2 := cell_next HN.out hb a2
      have a3 := cell_next HN.out hb a3
      have a4 := cell_next HN.out hb a4
      have a5 := cell_next HN.out hb a5
      have a6 := cell_next HN.out hb a6
      have hlt' : (k : Int) < n := by omega
      obtain ⟨cs, BK, hcs, _⟩ := HR.out
      have hm : (k + 1) * 7 ≤ n * 7 := Nat.mul_le_mul_right 7 hlt
      have hsz : w.heap.size < wr.heap.size := BK.lt
      clear hc hk
      go_wp2_with fail
      refine (toRel_any B (rat zs k) _ _ (by exact n1.next HN.out) (hs1 k hlt)).mono ?_
      rintro e w1 ⟨⟨q1, m1, c1, rfl, g0'⟩, hx⟩
      have BK1 := BK.next hx
      have g0 : Hid (HInts wr.heap.size w1 (.slice q1 m1 c1) (rat zs k).ways) := g0'
      clear g0'
      have r0 := BK1.cell (i := k * 7) (Array.getElem?_eq_getElem (by omega))
      have r1 := BK1.cell (i := k * 7 + 1) (Array.getElem?_eq_getElem (by omega))
      have r2 := BK1.cell (i := k * 7 + 2) (Array.getElem?_eq_getElem (by omega))
      have r3 := BK1.cell (i := k * 7 + 3) (Array.getElem?_eq_getElem (by omega))
      have r4 := BK1.cell (i := k * 7 + 4) (Array.getElem?_eq_getElem (by omega))
      have r5 := BK1.cell (i := k * 7 + 5) (Array.getElem?_eq_getElem (by omega))
      have r6 := BK1.cell (i := k * 7 + 6) (Array.getElem?_eq_getElem (by omega))
      have f0 := BK1.frozen (k * 7)
      have f1 := BK1.frozen (k * 7 + 1)
      have f2 := BK1.frozen (k * 7 + 2)
      have f3 := BK1.frozen (k * 7 + 3)
      have f4 := BK1.frozen (k * 7 + 4)
      have f5 := BK1.frozen (k * 7 + 5)
      have f6 := BK1.frozen (k * 7 + 6)
      have HX : Hid (Nx wr w1) := hx
      clear hx BK BK1
      go_wp2
      go_roundw
      case rel => exact ⟨k + 1, by omega, by go_num, HR.out.step HX.out hlt _ (g0.out.base (by omega)), Below.setCell (Below.setCell (Below.setCell (Below.setCell (Below.setCell (Below.setCell (Below.setCell (HN.out.trans HX.out) (Nat.le_refl _) _) (Nat.le_refl _) _) (Nat.le_refl _) _) (Nat.le_refl _) _) (Nat.le_refl _) _) (Nat.le_refl _) _) (Nat.le_refl _) _⟩
      case measure => simp [intOf]; omega
    · go_wp2
      go_ret
      have e : k = n := by omega
      subst e
      exact ⟨⟨_, _, _, rfl, HR.out.held HZ.out HM.out⟩, HN.out⟩
end Go.Proofs.Ytaenphgggndphaa
