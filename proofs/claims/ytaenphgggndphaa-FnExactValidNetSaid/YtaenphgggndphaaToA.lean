import Derived.Test.YtaenphgggndphaaBase
import Derived.Deep.OwnRows
namespace Go.Proofs.Ytaenphgggndphaa
open Go.RowKit
set_option linter.unusedVariables false

theorem info2 : (Try.prog.info? 2).map (fun i => (i.zero, i.size, i.bytes)) = some (some (.int .i64 0), 1, 8) := by kernel_rfl

/-- the first k cells of the new row hold the list's -/
def RowTo (w : World) (g n k : Nat) (zs : List Int) : Prop := ∃ f, w.rowIs g 2 n f ∧ ∀ i, i < k → f i = .int .i64 (iat zs i)
theorem RowTo.set {w : World} {g n k : Nat} {zs : List Int} (h : RowTo w g n k zs) : RowTo (w.setCell ⟨g, k, none⟩ (.int .i64 (iat zs k))) g n (k + 1) zs := by
  obtain ⟨f, h1, h2⟩ := h
  refine ⟨_, h1.set k _, fun i hi => ?_⟩
  by_cases e : i = k
  · subst e; simp
  · simp [e]; exact h2 i (by omega)
theorem RowTo.held {w : World} {g n : Nat} {zs : List Int} (hn : zs.length = n) (hm : n ≤ maxLen) (h : RowTo w g n n zs) : HInts g w (.slice (some ⟨g, 0, none⟩) n n) zs := by
  obtain ⟨f, h1, h2⟩ := h
  subst hn
  refine ⟨_, _, rfl, hm, fun h0 => ⟨g, 0, rfl, Nat.le_refl _, h1.lt, fun i hi => ?_⟩⟩
  show w.cell? ⟨g, 0 + i, none⟩ = _
  rw [Nat.zero_add, h1.cell hi, h2 i hi]

set_option maxHeartbeats 400000 in
theorem toInts_any (B : Nat) (v : Value) (zs : List Int) (w : World) (h0 : HInts B w v zs) (hs : zs.length ≤ 1048576) :
    Calls Try.prog 18 #[v] w fun e w' => (∃ a' n' c', e = .returned (.slice a' n' c') ∧ HInts w.heap.size w' (.slice a' n' c') zs) ∧ Nx w w' := by
  obtain ⟨a, cap, rfl, hn, hk⟩ := h0
  generalize hz : zs.length = n at *
  have HZ : Hid (zs.length = n) := hz
  have HM : Hid (n ≤ maxLen) := hn
  clear hz hn
  have hmk := run_make_row' (P := Try.prog) 22 2 (.int .i64 0) 8 Try.underlying22 info2 rfl .i64 .i64 n (by omega) (by omega)
  go_enter Try.func18, Try.ntmps18
  go_wp2
  go_loopw [4] (fun i wr => ∃ k : Nat, k ≤ n ∧ i = .int .i64 k ∧ Hid (RowTo wr w.heap.size n k zs) ∧ Hid (Nx w wr)) (fun i _ => n - (intOf i).toNat)
  case atStart => exact ⟨0, Nat.zero_le _, rfl, ⟨_, World.rowIs_made _ _ _ _, fun i hi => absurd hi (Nat.not_lt_zero _)⟩, box1 _ _⟩
  case round =>
    obtain ⟨k, hkn, rfl, HR, HN⟩ := hrel
    clear hmk
    by_cases hlt : k < n
    · obtain ⟨b, off, rfl, hB, hb, hc⟩ := hk (by omega)
      have c0 := cell_next HN.out hb (hc k hlt)
      have hlt' : (k : Int) < n := by omega
      obtain ⟨f, hf, hf'⟩ := HR.out
      have r0 := hf.cell hlt
      have r1 := hf.frozen k
      clear hc hk hf hf'
      go_wp2
      go_roundw
      case rel => exact ⟨k + 1, by omega, by go_num, HR.out.set, Below.setCell HN.out (Nat.le_refl _) _⟩
      case measure => simp [intOf]; omega
    · go_wp2
      go_ret
      have e : k = n := by omega
      subst e
      exact ⟨⟨_, _, _, rfl, HR.out.held HZ.out HM.out⟩, HN.out⟩
end Go.Proofs.Ytaenphgggndphaa
