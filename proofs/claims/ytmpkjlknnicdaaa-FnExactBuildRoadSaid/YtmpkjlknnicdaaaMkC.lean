import Derived.Test.YtmpkjlknnicdaaaMkB
import Derived.Test.YtmpkjlknnicdaaaNets
namespace Go.Proofs.Ytmpkjlknnicdaaa
open Go.RowKit
set_option linter.unusedVariables false

set_option maxHeartbeats 1000000 in
theorem markWays_any (B : Nat) (w0 w1 : World) (v : Value) (zs : List Wy) (w : World) (k : Int) (h0 : HWays B w0 v zs) (hm : Mk B w0 w1 w) (hs : zs.length ≤ 1048576) (hs1 : ∀ i, i < zs.length → (wat zs i).nodes.length ≤ 1048576 ∧ (wat zs i).weights.length ≤ 1048576) (hk0 : 0 ≤ k) (hk1 : k ≤ 1152921504606846976) :
    Calls Try.prog 45 #[v, .int .i64 k] w fun e w' => (∃ r : Int, e = .returned (.int .i64 r) ∧ k ≤ r ∧ r ≤ k + zs.length * 4194304) ∧ Mk B w0 w1 w' := by
  obtain ⟨a, cap, rfl, hn, hk⟩ := h0
  generalize hz : zs.length = n at *
  clear hz hn
  go_enter Try.func45, Try.ntmps45
  go_wp2
  go_loopw [1, 5] (fun c i wr => ∃ j : Nat, ∃ r : Int, j ≤ n ∧ i = .int .i64 j ∧ c = .int .i64 r ∧ (k ≤ r ∧ r ≤ k + j * 4194304) ∧ Hid (Mk B w0 w1 wr)) (fun _ i _ => n - (intOf i).toNat)
  case atStart => exact ⟨0, k, Nat.zero_le _, rfl, rfl, by omega, hm⟩
  case round =>
    obtain ⟨j, r, hjn, rfl, rfl, ⟨hr0, hr1⟩, HM⟩ := hrel
    clear hm
    by_cases hlt : j < n
    · obtain ⟨b, off, rfl, hB, hb, hc⟩ := hk (by omega)
      obtain ⟨p2, p3, a0, a1, a2, a3, n2, n3⟩ := hc j hlt
      obtain ⟨q2, m2, rfl, _⟩ := n2.slice
      obtain ⟨q3, m3, rfl, _⟩ := n3.slice
      obtain ⟨y0, c0, f0⟩ := HM.out.int hB hb a0
      obtain ⟨y1, c1, f1⟩ := HM.out.bool hB hb a1
      have c2 := HM.out.slice hB hb a2
      have c3 := HM.out.slice hB hb a3
      have HM' : Hid (∀ (x0 : Int) (x1 : Bool), Mk B w0 w1 ((wr.setCell ⟨b, off + j * 4, none⟩ (.int .i64 x0)).setCell ⟨b, off + j * 4 + 1, none⟩ (.bool x1))) := fun x0 x1 => ((HM.out.setI hB hb a0 x0).setB hB hb a1 x1)
      have hlt' : (j : Int) < n := by omega
      have hr2 : r + 2097200 ≤ 9223372036854775807 := by omega
      have HL := hs1 j hlt
      have HSL : Hid (∀ w', Mk B w0 w1 w' → w'.cell? ⟨b, off + j * 4 + 2, none⟩ = some (.slice q2 _ m2) ∧ w'.cell? ⟨b, off + j * 4 + 3, none⟩ = some (.slice q3 _ m3)) := fun w' h => ⟨h.slice hB hb a2, h.slice hB hb a3⟩
      have hbz : b < w1.heap.size := Nat.lt_of_lt_of_le hb HM.out.le
      clear hc hk a0 a1 a2 a3
      go_wp2_with fail
      refine (markInts_any B w0 w1 _ (wat zs j).nodes _ _ n2 (HM'.out _ _) HL.1 (by omega) (by omega)).mono ?_
      rintro e w2 ⟨rfl, hm2⟩
      have HM2 : Hid (Mk B w0 w1 w2) := hm2
      clear hm2 HM HM' c0 c1 c2 c3 f0 f1
      have c3 := (HSL.out _ HM2.out).2
      go_wp2_with fail
      refine (markInts_any B w0 w1 _ (wat zs j).weights _ _ n3 HM2.out HL.2 (by omega) (by omega)).mono ?_
      rintro e w3 ⟨rfl, hm3⟩
      have HM3 : Hid (Mk B w0 w1 w3) := hm3
      clear hm3 c3
      go_wp2
      go_roundw
      case rel => exact ⟨j + 1, _, by omega, by go_num, rfl, ⟨by go_num, by go_num⟩, HM3⟩
      case measure => simp [intOf]; omega
    · go_wp2
      go_ret
      have e : j = n := by omega
      subst e
      exact ⟨⟨r, rfl, hr0, hr1⟩, HM.out⟩

set_option maxHeartbeats 1000000 in
theorem markRels_any (B : Nat) (w0 w1 : World) (v : Value) (zs : List Rl) (w : World) (k : Int) (h0 : HRels B w0 v zs) (hm : Mk B w0 w1 w) (hs : zs.length ≤ 1048576) (hs1 : ∀ i, i < zs.length → (rat zs i).ways.length ≤ 1048576) (hk0 : 0 ≤ k) (hk1 : k ≤ 1152921504606846976) :
    Calls Try.prog 46 #[v, .int .i64 k] w fun e w' => (∃ r : Int, e = .returned (.int .i64 r) ∧ k ≤ r ∧ r ≤ k + zs.length * 4194304) ∧ Mk B w0 w1 w' := by
  obtain ⟨a, cap, rfl, hn, hk⟩ := h0
  generalize hz : zs.length = n at *
  clear hz hn
  go_enter Try.func46, Try.ntmps46
  go_wp2
  go_loopw [1, 5] (fun c i wr => ∃ j : Nat, ∃ r : Int, j ≤ n ∧ i = .int .i64 j ∧ c = .int .i64 r ∧ (k ≤ r ∧ r ≤ k + j * 4194304) ∧ Hid (Mk B w0 w1 wr)) (fun _ i _ => n - (intOf i).toNat)
  case atStart => exact ⟨0, k, Nat.zero_le _, rfl, rfl, by omega, hm⟩
  case round =>
    obtain ⟨j, r, hjn, rfl, rfl, ⟨hr0, hr1⟩, HM⟩ := hrel
    clear hm
    by_cases hlt : j < n
    · obtain ⟨b, off, rfl, hB, hb, hc⟩ := hk (by omega)
      obtain ⟨p6, a0, a1, a2, a3, a4, a5, a6, n6⟩ := hc j hlt
      obtain ⟨q6, m6, rfl, _⟩ := n6.slice
      obtain ⟨y0, c0, f0⟩ := HM.out.int hB hb a0
      obtain ⟨y1, c1, f1⟩ := HM.out.bool hB hb a1
      obtain ⟨y2, c2, f2⟩ := HM.out.int hB hb a2
      obtain ⟨y3, c3, f3⟩ := HM.out.int hB hb a3
      obtain ⟨y4, c4, f4⟩ := HM.out.bool hB hb a4
      obtain ⟨y5, c5, f5⟩ := HM.out.int hB hb a5
      have c6 := HM.out.slice hB hb a6
      have HM' : Hid (∀ (x0 : Int) (x1 : Bool) (x2 : Int) (x3 : Int) (x4 : Bool) (x5 : Int), Mk B w0 w1 ((((((wr.setCell ⟨b, off + j * 7, none⟩ (.int .i64 x0)).setCell ⟨b, off + j * 7 + 1, none⟩ (.bool x1)).setCell ⟨b, off + j * 7 + 2, none⟩ (.int .i64 x2)).setCell ⟨b, off + j * 7 + 3, none⟩ (.int .i64 x3)).setCell ⟨b, off + j * 7 + 4, none⟩ (.bool x4)).setCell ⟨b, off + j * 7 + 5, none⟩ (.int .i64 x5))) := fun x0 x1 x2 x3 x4 x5 => ((((((HM.out.setI hB hb a0 x0).setB hB hb a1 x1).setI hB hb a2 x2).setI hB hb a3 x3).setB hB hb a4 x4).setI hB hb a5 x5)
      have hlt' : (j : Int) < n := by omega
      have hr2 : r + 2097200 ≤ 9223372036854775807 := by omega
      have HL := hs1 j hlt
      have HSL : Hid (∀ w', Mk B w0 w1 w' → w'.cell? ⟨b, off + j * 7 + 6, none⟩ = some (.slice q6 _ m6)) := fun w' h => h.slice hB hb a6
      have hbz : b < w1.heap.size := Nat.lt_of_lt_of_le hb HM.out.le
      clear hc hk a0 a1 a2 a3 a4 a5 a6
      go_wp2_with fail
      refine (markInts_any B w0 w1 _ (rat zs j).ways _ _ n6 (HM'.out _ _ _ _ _ _) HL (by omega) (by omega)).mono ?_
      rintro e w2 ⟨rfl, hm2⟩
      have HM2 : Hid (Mk B w0 w1 w2) := hm2
      clear hm2 HM HM' c0 c1 c2 c3 c4 c5 c6 f0 f1 f2 f3 f4 f5
      go_wp2
      go_roundw
      case rel => exact ⟨j + 1, _, by omega, by go_num, rfl, ⟨by go_num, by go_num⟩, HM2⟩
      case measure => simp [intOf]; omega
    · go_wp2
      go_ret
      have e : j = n := by omega
      subst e
      exact ⟨⟨r, rfl, hr0, hr1⟩, HM.out⟩

end Go.Proofs.Ytmpkjlknnicdaaa
