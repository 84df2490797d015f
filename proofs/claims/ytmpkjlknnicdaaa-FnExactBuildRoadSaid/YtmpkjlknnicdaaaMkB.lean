import Derived.Test.YtmpkjlknnicdaaaMkA
namespace Go.Proofs.Ytmpkjlknnicdaaa
open Go.RowKit
set_option linter.unusedVariables false

set_option maxHeartbeats 1000000 in
theorem markTurns_any (B : Nat) (w0 w1 : World) (v : Value) (zs : List Tn) (w : World) (k : Int) (h0 : HTurns B w0 v zs) (hm : Mk B w0 w1 w) (hs : zs.length ≤ 1048576) (hk0 : 0 ≤ k) (hk1 : k ≤ 1152921504606846976) :
    Calls Try.prog 47 #[v, .int .i64 k] w fun e w' => (∃ r : Int, e = .returned (.int .i64 r) ∧ k ≤ r ∧ r ≤ k + zs.length * 4194304) ∧ Mk B w0 w1 w' := by
  obtain ⟨a, cap, rfl, hn, hk⟩ := h0
  generalize hz : zs.length = n at *
  clear hz hn
  go_enter Try.func47, Try.ntmps47
  go_wp2
  go_loopw [1, 5] (fun c i wr => ∃ j : Nat, ∃ r : Int, j ≤ n ∧ i = .int .i64 j ∧ c = .int .i64 r ∧ (k ≤ r ∧ r ≤ k + j * 4194304) ∧ Hid (Mk B w0 w1 wr)) (fun _ i _ => n - (intOf i).toNat)
  case atStart => exact ⟨0, k, Nat.zero_le _, rfl, rfl, by omega, hm⟩
  case round =>
    obtain ⟨j, r, hjn, rfl, rfl, ⟨hr0, hr1⟩, HM⟩ := hrel
    clear hm
    by_cases hlt : j < n
    · obtain ⟨b, off, rfl, hB, hb, hc⟩ := hk (by omega)
      obtain ⟨a0, a1, a2⟩ := hc j hlt
      obtain ⟨y0, c0, f0⟩ := HM.out.int hB hb a0
      obtain ⟨y1, c1, f1⟩ := HM.out.int hB hb a1
      obtain ⟨y2, c2, f2⟩ := HM.out.int hB hb a2
      have HM' : Hid (∀ x0 x1 x2 : Int, Mk B w0 w1 (((wr.setCell ⟨b, off + j * 3, none⟩ (.int .i64 x0)).setCell ⟨b, off + j * 3 + 1, none⟩ (.int .i64 x1)).setCell ⟨b, off + j * 3 + 2, none⟩ (.int .i64 x2))) :=
        fun x0 x1 x2 => (((HM.out.setI hB hb a0 x0).setI hB hb a1 x1).setI hB hb a2 x2)
      have hlt' : (j : Int) < n := by omega
      have hr2 : r + 3 ≤ 9223372036854775807 := by omega
      clear hc hk a0 a1 a2
      go_wp2
      go_roundw
      case rel => exact ⟨j + 1, _, by omega, by go_num, rfl, ⟨by go_num, by go_num⟩, HM'.out _ _ _⟩
      case measure => simp [intOf]; omega
    · go_wp2
      go_ret
      have e : j = n := by omega
      subst e
      exact ⟨⟨r, rfl, hr0, hr1⟩, HM.out⟩
end Go.Proofs.Ytmpkjlknnicdaaa
