import Derived.Test.YtaenphgggndphaaToD
namespace Go.Proofs.Ytaenphgggndphaa
open Go.RowKit
set_option linter.unusedVariables false

/-- the first k structs of the new row hold the list's -/
def toTurnsRow (w : World) (g n k : Nat) (zs : List Tn) : Prop := ∃ cs : Array Value, Blk w g cs ∧ cs.size = n * 3 ∧ ∀ i, i < k → cs[i * 3]? = some (.int .i64 (tat zs i).frm) ∧ cs[i * 3 + 1]? = some (.int .i64 (tat zs i).to) ∧ cs[i * 3 + 2]? = some (.int .i64 (tat zs i).cost)
theorem toTurnsRow.step {wr w1 : World} {g n k : Nat} {zs : List Tn} (h : toTurnsRow wr g n k zs) (hx : Nx wr w1) (hk : k < n)   :
    toTurnsRow (((w1.setCell ⟨g, k * 3, none⟩ (.int .i64 (tat zs k).frm)).setCell ⟨g, k * 3 + 1, none⟩ (.int .i64 (tat zs k).to)).setCell ⟨g, k * 3 + 2, none⟩ (.int .i64 (tat zs k).cost)) g n (k + 1) zs := by
  obtain ⟨cs, BK, hs, hi⟩ := h
  have hm : (k + 1) * 3 ≤ n * 3 := Nat.mul_le_mul_right 3 hk
  refine ⟨_, ((((BK.next hx).set (k * 3) (.int .i64 (tat zs k).frm)).set (k * 3 + 1) (.int .i64 (tat zs k).to)).set (k * 3 + 2) (.int .i64 (tat zs k).cost)), by simpa using hs, fun i hik => ?_⟩
  by_cases e : i = k
  · subst e
    exact ⟨(by rw [set_ne _ (by omega)]; rw [set_ne _ (by omega)]; exact set_eq _ (by simp [hs]; omega)), (by rw [set_ne _ (by omega)]; exact set_eq _ (by simp [hs]; omega)), (by  exact set_eq _ (by simp [hs]; omega))⟩
  · obtain ⟨e0, e1, e2⟩ := hi i (by omega)
    exact ⟨(by rw [set_ne _ (by omega)]; rw [set_ne _ (by omega)]; rw [set_ne _ (by omega)]; exact e0), (by rw [set_ne _ (by omega)]; rw [set_ne _ (by omega)]; rw [set_ne _ (by omega)]; exact e1), (by rw [set_ne _ (by omega)]; rw [set_ne _ (by omega)]; rw [set_ne _ (by omega)]; exact e2)⟩
theorem toTurnsRow.held {w : World} {g n : Nat} {zs : List Tn} (hn : zs.length = n) (hm : n ≤ maxLen) (h : toTurnsRow w g n n zs) : HTurns g w (.slice (some ⟨g, 0, none⟩) n n) zs := by
  obtain ⟨cs, BK, hs, hi⟩ := h
  subst hn
  refine ⟨_, _, rfl, hm, fun h0 => ⟨g, 0, rfl, Nat.le_refl _, BK.lt, fun i hik => ?_⟩⟩
  obtain ⟨e0, e1, e2⟩ := hi i hik
  exact ⟨BK.cell (by simpa using e0), BK.cell (by simpa using e1), BK.cell (by simpa using e2)⟩
theorem info51 : (Try.prog.info? 51).map (fun i => (i.zero, i.size, i.bytes)) = some (some (.agg #[.int .i64 0, .int .i64 0, .int .i64 0]), 3, 24) := by kernel_rfl

set_option maxHeartbeats 1000000 in
theorem toTurns_any (B : Nat) (v : Value) (zs : List Tn) (w : World) (h0 : HTurns B w v zs) (hs : zs.length ≤ 1048576)  :
    Calls Try.prog 21 #[v] w fun e w' => (∃ a' n' c', e = .returned (.slice a' n' c') ∧ HTurns w.heap.size w' (.slice a' n' c') zs) ∧ Nx w w' := by
  obtain ⟨a, cap, rfl, hn, hk⟩ := h0
  generalize hz : zs.length = n at *
  have HZ : Hid (zs.length = n) := hz
  have HM : Hid (n ≤ maxLen) := hn
  clear hz hn
  have hmk := make_structs 32 51 (.agg #[.int .i64 0, .int .i64 0, .int .i64 0]) 3 24 Try.underlying32 info51 n (by omega) (by omega)
  go_enter Try.func21, Try.ntmps21
  go_wp2
  go_loopw [4] (fun i wr => ∃ k : Nat, k ≤ n ∧ i = .int .i64 k ∧ Hid (toTurnsRow wr w.heap.size n k zs) ∧ Hid (Nx w wr)) (fun i _ => n - (intOf i).toNat)
  case atStart => exact ⟨0, Nat.zero_le _, rfl, ⟨_, Blk.made _ _ _ _, size_madeCells _ _, fun i hi => absurd hi (Nat.not_lt_zero _)⟩, box1 _ _⟩
  case round =>
    obtain ⟨k, hkn, rfl, HR, HN⟩ := hrel
    clear hmk
    by_cases hlt : k < n
    · obtain ⟨b, off, rfl, hB, hb, hc⟩ := hk (by omega)
      obtain ⟨a0, a1, a2⟩ := hc k hlt
      have a0 := cell_next HN.out hb a0
      have a1 := cell_next HN.out hb a1
      have a2 := cell_next HN.out hb a2
      have hlt' : (k : Int) < n := by omega
      obtain ⟨cs, BK, hcs, _⟩ := HR.out
      have hm : (k + 1) * 3 ≤ n * 3 := Nat.mul_le_mul_right 3 hlt
      have hsz : w.heap.size < wr.heap.size := BK.lt
      clear hc hk
      go_wp2_with fail
      refine (toTurn_any (tat zs k) _).mono ?_
      rintro e w1 ⟨rfl, hx⟩
      have BK1 := BK.next hx
      have r0 := BK1.cell (i := k * 3) (Array.getElem?_eq_getElem (by omega))
      have r1 := BK1.cell (i := k * 3 + 1) (Array.getElem?_eq_getElem (by omega))
      have r2 := BK1.cell (i := k * 3 + 2) (Array.getElem?_eq_getElem (by omega))
      have f0 := BK1.frozen (k * 3)
      have f1 := BK1.frozen (k * 3 + 1)
      have f2 := BK1.frozen (k * 3 + 2)
      have HX : Hid (Nx wr w1) := hx
      clear hx BK BK1
      go_wp2
      go_roundw
      case rel => exact ⟨k + 1, by omega, by go_num, HR.out.step HX.out hlt  , Below.setCell (Below.setCell (Below.setCell (HN.out.trans HX.out) (Nat.le_refl _) _) (Nat.le_refl _) _) (Nat.le_refl _) _⟩
      case measure => simp [intOf]; omega
    · go_wp2
      go_ret
      have e : k = n := by omega
      subst e
      exact ⟨⟨_, _, _, rfl, HR.out.held HZ.out HM.out⟩, HN.out⟩
end Go.Proofs.Ytaenphgggndphaa
