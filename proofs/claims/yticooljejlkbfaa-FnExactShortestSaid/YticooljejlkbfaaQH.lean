import Derived.Test.YticooljejlkbfaaQE
import Derived.Test.YticooljejlkbfaaSQ
import Derived.Test.YticooljejlkbfaaHF
namespace Go.Proofs.Yticooljejlkbfaa
open Go.RowKit Go.Sort Go.Maps Go.Shelf
set_option linter.unusedVariables false
set_option maxRecDepth 100000

/-- what Shortest answers -/
def ShI (G : Gr) (s t : Int) (w w' : World) (e : Ending) : Prop := ∃ (rc rk : Int) (oa : Option Addr) (on oc : Nat) (r : Rt), e = .returned (.agg #[.int .i64 rc, .int .i64 rk, .slice oa on oc]) ∧ RouteIs G s t r ∧ HRt w.heap.size w' rc rk oa on oc r ∧ r.edges.length ≤ 7001
theorem cell_set3 {w : World} {b b' o : Nat} {v x y z : Value} (h : b ≠ b') (hc : w.cell? ⟨b, o, none⟩ = some v) : (((w.setCell ⟨b', 0, none⟩ x).setCell ⟨b', 1, none⟩ y).setCell ⟨b', 2, none⟩ z).cell? ⟨b, o, none⟩ = some v :=
  (((OnS.set [b'] w (by simp) 0 x).tr (OnS.set [b'] _ (by simp) 1 y)).tr (OnS.set [b'] _ (by simp) 2 z)).cell (by simpa using h) hc
set_option maxHeartbeats 8000000 in
theorem inB_any (x : Int) (n : Nat) (w : World) (hn : n ≤ 100000) :
    Calls Try.prog 36 #[.int .i64 x, .int .i64 (n : Int)] w fun e w' => e = .returned (.bool (decide (0 ≤ x ∧ x < n))) ∧ Nx w w' := by
  by_cases h1 : 0 ≤ x
  · have d1 : decide (0 ≤ x) = true := decide_eq_true h1
    by_cases h2 : x < n
    · have d2 : decide (x < (n : Int)) = true := decide_eq_true h2
      have HD : Hid (decide (0 ≤ x ∧ x < (n : Int)) = true) := decide_eq_true ⟨h1, h2⟩
      go_enter Try.func36, Try.ntmps36
      go_wp2
      go_ret
      exact ⟨ret_bool HD.out.symm, Below.refl _ _⟩
    · have d2 : decide (x < (n : Int)) = false := decide_eq_false h2
      have HD : Hid (decide (0 ≤ x ∧ x < (n : Int)) = false) := decide_eq_false (fun h => h2 h.2)
      clear h2
      go_enter Try.func36, Try.ntmps36
      go_wp2
      go_ret
      exact ⟨ret_bool HD.out.symm, Below.refl _ _⟩
  · have d1 : decide (0 ≤ x) = false := decide_eq_false h1
    have HD : Hid (decide (0 ≤ x ∧ x < (n : Int)) = false) := decide_eq_false (fun h => h1 h.1)
    clear h1
    go_enter Try.func36, Try.ntmps36
    go_wp2
    go_ret
    exact ⟨ret_bool HD.out.symm, Below.refl _ _⟩

set_option maxHeartbeats 16000000 in
/-- **bestRoute** -/
theorem bestRoute_any (B : Nat) (a0 : Option Addr) (m0 c0 : Nat) (a1 : Option Addr) (m1 c1 : Nat) (a2 : Option Addr) (m2 c2 : Nat) (a3 : Option Addr) (m3 c3 : Nat) (a4 : Option Addr) (m4 c4 : Nat) (a5 : Option Addr) (m5 c5 : Nat) (a6 : Option Addr) (m6 c6 : Nat) (G : Gr) (s t : Int) (w : World) (HVG : Hid (VG G)) (HVB : Hid (validG G = true)) (HH : Hid (HG B w (.slice a0 m0 c0) (.slice a1 m1 c1) (.slice a2 m2 c2) (.slice a3 m3 c3) (.slice a4 m4 c4) (.slice a5 m5 c5) (.slice a6 m6 c6) G)) :
    Calls Try.prog 23 #[.agg #[.slice a0 m0 c0, .slice a1 m1 c1, .slice a2 m2 c2, .slice a3 m3 c3, .slice a4 m4 c4, .slice a5 m5 c5, .slice a6 m6 c6], .int .i64 s, .int .i64 t] w fun e w' => ShI G s t w w' e ∧ Nx w w' := by
  have HBADR : Hid (¬ (0 ≤ s ∧ s < G.sr.length ∧ 0 ≤ t ∧ t < G.sr.length) → RouteIs G s t ⟨2, 0, []⟩) := fun h => Or.inr (Or.inl ⟨HVB.out, h, rfl⟩)
  have e5 := HH.out.h5.len
  have e0 := HH.out.h0.len
  have hm5 : m5 ≤ 100000 := by have := HVG.out.e; omega
  have HE5 : Hid (m5 = G.sr.length) := e5
  have HE0 : Hid (m0 = G.eo.length) := e0
  clear e5 e0
  generalize hWA : (w.alloc (.cells #[.slice a0 m0 c0, .slice a1 m1 c1, .slice a2 m2 c2, .slice a3 m3 c3, .slice a4 m4 c4, .slice a5 m5 c5, .slice a6 m6 c6] 29)).alloc (.cells #[.int .i64 0, .int .i64 0, .slice none 0 0] 27) = wA
  have HXA : Hid (Nx w wA) := by unfold Hid; rw [← hWA]; exact box2 _ _ _
  have BG : Hid (Blk wA w.heap.size #[.slice a0 m0 c0, .slice a1 m1 c1, .slice a2 m2 c2, .slice a3 m3 c3, .slice a4 m4 c4, .slice a5 m5 c5, .slice a6 m6 c6]) := by unfold Hid; rw [← hWA]; exact (Blk.new w _ _ _ rfl).alloc _
  have BZ : Hid (Blk wA (w.heap.size + 1) #[.int .i64 0, .int .i64 0, .slice none 0 0]) := by unfold Hid; rw [← hWA]; exact Blk.new _ _ _ _ (by rw [size_alloc'])
  have HSA : Hid (wA.heap.size = w.heap.size + 2) := by unfold Hid; rw [← hWA, size_alloc', size_alloc']
  go_enter Try.func23, Try.ntmps23
  go_upto_region 1 with fail
  clear hWA
  have k0 : wA.cell? ⟨w.heap.size, 0, none⟩ = some (.slice a0 m0 c0) := BG.out.cell (i := 0) rfl
  have k1 : wA.cell? ⟨w.heap.size, 1, none⟩ = some (.slice a1 m1 c1) := BG.out.cell (i := 1) rfl
  have k2 : wA.cell? ⟨w.heap.size, 2, none⟩ = some (.slice a2 m2 c2) := BG.out.cell (i := 2) rfl
  have k3 : wA.cell? ⟨w.heap.size, 3, none⟩ = some (.slice a3 m3 c3) := BG.out.cell (i := 3) rfl
  have k4 : wA.cell? ⟨w.heap.size, 4, none⟩ = some (.slice a4 m4 c4) := BG.out.cell (i := 4) rfl
  have k5 : wA.cell? ⟨w.heap.size, 5, none⟩ = some (.slice a5 m5 c5) := BG.out.cell (i := 5) rfl
  have k6 : wA.cell? ⟨w.heap.size, 6, none⟩ = some (.slice a6 m6 c6) := BG.out.cell (i := 6) rfl
  by_cases g1 : 0 ≤ s ∧ s < (m5 : Int)
  case neg =>
    have d1 : decide (0 ≤ s ∧ s < (m5 : Int)) = false := decide_eq_false g1
    have HF : Hid (RouteIs G s t ⟨2, 0, []⟩) := HBADR.out (by have := HE5.out; omega)
    clear g1
    go_wp2_with fail
    refine (inB_any s m5 _ hm5).mono ?_
    rintro e w1 ⟨rfl, hx⟩
    rw [d1]
    have HX1 : Hid (Nx w w1) := HXA.out.trans hx
    have BZ1 : Hid (Blk w1 (w.heap.size + 1) #[.int .i64 0, .int .i64 0, .slice none 0 0]) := BZ.out.next hx
    clear hx d1 k0 k1 k2 k3 k4 k5 k6
    have y0 : w1.cell? ⟨w.heap.size + 1, 0, none⟩ = some (.int .i64 0) := BZ1.out.cell (i := 0) rfl
    have z0 := BZ1.out.frozen 0
    have y1 : w1.cell? ⟨w.heap.size + 1, 1, none⟩ = some (.int .i64 0) := BZ1.out.cell (i := 1) rfl
    have z1 := BZ1.out.frozen 1
    have y2 : w1.cell? ⟨w.heap.size + 1, 2, none⟩ = some (.slice none 0 0) := BZ1.out.cell (i := 2) rfl
    have z2 := BZ1.out.frozen 2
    go_wp2
    have BR' := (((BZ1.out).set 0 (.int .i64 2)).set 1 (.int .i64 0)).set 2 (.slice none 0 0)
    have q0 : _ = some (Value.int .i64 2) := BR'.cell (i := 0) rfl
    have q1 : _ = some (Value.int .i64 0) := BR'.cell (i := 1) rfl
    have q2 : _ = some (Value.slice none 0 0) := BR'.cell (i := 2) rfl
    clear y0 y1 y2 BR'
    refine bodyPost_ret (v := .agg #[.int .i64 2, .int .i64 0, .slice none 0 0]) (by simp [results, Try.results23, go_sem, q0, q1, q2]) rfl ?_
    exact ⟨⟨2, 0, none, 0, 0, ⟨2, 0, []⟩, rfl, HF.out, hrt_nil _ _ _, Nat.zero_le _⟩, Below.setCell (Below.setCell (Below.setCell HX1.out (Nat.le_succ _) _) (Nat.le_succ _) _) (Nat.le_succ _) _⟩
  have d1 : decide (0 ≤ s ∧ s < (m5 : Int)) = true := decide_eq_true g1
  have HG1 : Hid (0 ≤ s ∧ s < (m5 : Int)) := g1
  clear g1
  go_wp2_with fail
  refine (inB_any s m5 _ hm5).mono ?_
  rintro e w1 ⟨rfl, hx⟩
  rw [d1]
  have HX1 : Hid (Nx wA w1) := hx
  have k5' := cellq hx k5
  clear hx d1
  by_cases g2 : 0 ≤ t ∧ t < (m5 : Int)
  case neg =>
    have d2 : decide (0 ≤ t ∧ t < (m5 : Int)) = false := decide_eq_false g2
    have HF : Hid (RouteIs G s t ⟨2, 0, []⟩) := HBADR.out (by have := HE5.out; omega)
    clear g2
    go_wp2_with fail
    refine (inB_any t m5 _ hm5).mono ?_
    rintro e w2 ⟨rfl, hx⟩
    rw [d2]
    have HX2 : Hid (Nx w w2) := (HXA.out.trans HX1.out).trans hx
    have BZ2 : Hid (Blk w2 (w.heap.size + 1) #[.int .i64 0, .int .i64 0, .slice none 0 0]) := (BZ.out.next HX1.out).next hx
    clear hx d2 k0 k1 k2 k3 k4 k5 k6 k5'
    have y0 : w2.cell? ⟨w.heap.size + 1, 0, none⟩ = some (.int .i64 0) := BZ2.out.cell (i := 0) rfl
    have z0 := BZ2.out.frozen 0
    have y1 : w2.cell? ⟨w.heap.size + 1, 1, none⟩ = some (.int .i64 0) := BZ2.out.cell (i := 1) rfl
    have z1 := BZ2.out.frozen 1
    have y2 : w2.cell? ⟨w.heap.size + 1, 2, none⟩ = some (.slice none 0 0) := BZ2.out.cell (i := 2) rfl
    have z2 := BZ2.out.frozen 2
    go_wp2
    have BR' := (((BZ2.out).set 0 (.int .i64 2)).set 1 (.int .i64 0)).set 2 (.slice none 0 0)
    have q0 : _ = some (Value.int .i64 2) := BR'.cell (i := 0) rfl
    have q1 : _ = some (Value.int .i64 0) := BR'.cell (i := 1) rfl
    have q2 : _ = some (Value.slice none 0 0) := BR'.cell (i := 2) rfl
    clear y0 y1 y2 BR'
    refine bodyPost_ret (v := .agg #[.int .i64 2, .int .i64 0, .slice none 0 0]) (by simp [results, Try.results23, go_sem, q0, q1, q2]) rfl ?_
    exact ⟨⟨2, 0, none, 0, 0, ⟨2, 0, []⟩, rfl, HF.out, hrt_nil _ _ _, Nat.zero_le _⟩, Below.setCell (Below.setCell (Below.setCell HX2.out (Nat.le_succ _) _) (Nat.le_succ _) _) (Nat.le_succ _) _⟩
  have d2 : decide (0 ≤ t ∧ t < (m5 : Int)) = true := decide_eq_true g2
  have HG2 : Hid (0 ≤ t ∧ t < (m5 : Int)) := g2
  clear g2
  go_wp2_with fail
  refine (inB_any t m5 _ hm5).mono ?_
  rintro e w2 ⟨rfl, hx⟩
  rw [d2]
  have HXA2 : Hid (Nx wA w2) := HX1.out.trans hx
  have HX2 : Hid (Nx w w2) := HXA.out.trans HXA2.out
  have BG2 : Hid (Blk w2 w.heap.size #[.slice a0 m0 c0, .slice a1 m1 c1, .slice a2 m2 c2, .slice a3 m3 c3, .slice a4 m4 c4, .slice a5 m5 c5, .slice a6 m6 c6]) := BG.out.next HXA2.out
  have BZ2 : Hid (Blk w2 (w.heap.size + 1) #[.int .i64 0, .int .i64 0, .slice none 0 0]) := BZ.out.next HXA2.out
  clear hx d2 k0 k1 k2 k3 k4 k5 k6 k5' HX1 BG BZ
  obtain ⟨sn, rfl⟩ : ∃ sn : Nat, s = sn := ⟨s.toNat, by have := HG1.out; omega⟩
  have hsn : sn < G.sr.length := by have := HG1.out; have := HE5.out; omega
  have HOKR : Hid (∀ r, BestR t (fun c E => ∃ v, WK (eoG G) (arcsG G) (stG G sn) (iat G.we sn) E c v ∧ eoG G v = t) r → RouteIs G sn t r) := fun r h => Or.inr (Or.inr ⟨HVB.out, by have := HG1.out; have := HG2.out; have := HE5.out; omega, by rw [Int.toNat_natCast]; exact h⟩)
  obtain ⟨hst, hsr, hse⟩ := st_lt HVG.out hsn
  have HST : Hid (stG G sn < G.eo.length) := hst
  have hwe := HVG.out.we sn hsn
  have HWE : Hid (0 ≤ iat G.we sn ∧ iat G.we sn ≤ 1048576) := hwe
  have HH2 : Hid (HG B w2 (.slice a0 m0 c0) (.slice a1 m1 c1) (.slice a2 m2 c2) (.slice a3 m3 c3) (.slice a4 m4 c4) (.slice a5 m5 c5) (.slice a6 m6 c6) G) := HH.out.next HX2.out
  obtain ⟨hj5, b5, o5, ha5, hc5⟩ := HH.out.h5.row (by omega)
  have HY5 : Hid (w.cell? ⟨b5, o5 + sn, none⟩ = some (.int .i64 (stG G sn : Int))) := by unfold Hid; rw [← hsr]; exact hc5 sn hsn
  subst ha5
  have hsm5 : (sn : Int) < m5 := HG1.out.2
  have HSN : Hid (sn < G.sr.length) := hsn
  clear hc5 hst hsr hse hwe hsn hj5
  have k0 : w2.cell? ⟨w.heap.size, 0, none⟩ = some (.slice a0 m0 c0) := BG2.out.cell (i := 0) rfl
  have k1 : w2.cell? ⟨w.heap.size, 1, none⟩ = some (.slice a1 m1 c1) := BG2.out.cell (i := 1) rfl
  have k2 : w2.cell? ⟨w.heap.size, 2, none⟩ = some (.slice a2 m2 c2) := BG2.out.cell (i := 2) rfl
  have k3 : w2.cell? ⟨w.heap.size, 3, none⟩ = some (.slice a3 m3 c3) := BG2.out.cell (i := 3) rfl
  have k4 : w2.cell? ⟨w.heap.size, 4, none⟩ = some (.slice a4 m4 c4) := BG2.out.cell (i := 4) rfl
  have k5 : w2.cell? ⟨w.heap.size, 5, none⟩ = some (.slice (some ⟨b5, o5, none⟩) m5 c5) := BG2.out.cell (i := 5) rfl
  have k6 : w2.cell? ⟨w.heap.size, 6, none⟩ = some (.slice a6 m6 c6) := BG2.out.cell (i := 6) rfl
  go_wp2_with fail
  refine (newSearch_any w2 m0 a0 m0 c0 a1 m1 c1 a2 m2 c2 a3 m3 c3 a4 m4 c4 (some ⟨b5, o5, none⟩) m5 c5 a6 m6 c6 t rfl (by have := HVG.out.v; have := HE0.out; omega)).mono ?_
  rintro e w3 ⟨sb, p, q, mb, rb, rfl, hSR, hx3⟩
  have HX3 : Hid (Nx w2 w3) := hx3
  have HSR : Hid (SR w2.heap.size w3 sb p q mb rb m0 [.slice a0 m0 c0, .slice a1 m1 c1, .slice a2 m2 c2, .slice a3 m3 c3, .slice a4 m4 c4, .slice (some ⟨b5, o5, none⟩) m5 c5, .slice a6 m6 c6] t (0, 0) (.slice none 0 0) (.slice none 0 0) (fun _ => (0, 0)) [] (.map []) []) := hSR
  clear hSR hx3 k0 k1 k2 k3 k4 k5 k6
  go_wp2_with fail
  refine (spread_any w2 w3 sb p q mb rb m0 a0 m0 c0 a1 m1 c1 a2 m2 c2 a3 m3 c3 a4 m4 c4 (some ⟨b5, o5, none⟩) m5 c5 a6 m6 c6 t G B sn _ _ _ HVG HH2 HE0.out.symm HSN.out HX3.out HSR.out).mono ?_
  rintro e w4 ⟨hx4, h | ⟨rfl, sv, iv, S, K, L, D, v0, hSR4, hv0, hDJ, hle, hev⟩⟩
  · obtain ⟨rfl, hB⟩ := h
    have HF : Hid (RouteIs G sn t ⟨1, 0, []⟩) := HOKR.out _ hB
    have HX4 : Hid (Nx w w4) := HX2.out.trans hx4
    have BZ4 : Hid (Blk w4 (w.heap.size + 1) #[.int .i64 0, .int .i64 0, .slice none 0 0]) := BZ2.out.next hx4
    clear hx4 hB
    have y0 : w4.cell? ⟨w.heap.size + 1, 0, none⟩ = some (.int .i64 0) := BZ4.out.cell (i := 0) rfl
    have z0 := BZ4.out.frozen 0
    have y1 : w4.cell? ⟨w.heap.size + 1, 1, none⟩ = some (.int .i64 0) := BZ4.out.cell (i := 1) rfl
    have z1 := BZ4.out.frozen 1
    have y2 : w4.cell? ⟨w.heap.size + 1, 2, none⟩ = some (.slice none 0 0) := BZ4.out.cell (i := 2) rfl
    have z2 := BZ4.out.frozen 2
    go_wp2
    have BR' := (((BZ4.out).set 0 (.int .i64 1)).set 1 (.int .i64 0)).set 2 (.slice none 0 0)
    have q0 : _ = some (Value.int .i64 1) := BR'.cell (i := 0) rfl
    have q1 : _ = some (Value.int .i64 0) := BR'.cell (i := 1) rfl
    have q2 : _ = some (Value.slice none 0 0) := BR'.cell (i := 2) rfl
    clear y0 y1 y2 BR'
    refine bodyPost_ret (v := .agg #[.int .i64 1, .int .i64 0, .slice none 0 0]) (by simp [results, Try.results23, go_sem, q0, q1, q2]) rfl ?_
    exact ⟨⟨1, 0, none, 0, 0, ⟨1, 0, []⟩, rfl, HF.out, hrt_nil _ _ _, Nat.zero_le _⟩, Below.setCell (Below.setCell (Below.setCell HX4.out (Nat.le_succ _) _) (Nat.le_succ _) _) (Nat.le_succ _) _⟩
  have HX4 : Hid (Nx w2 w4) := hx4
  have HSR4 : Hid (SR w2.heap.size w4 sb p q mb rb m0 [.slice a0 m0 c0, .slice a1 m1 c1, .slice a2 m2 c2, .slice a3 m3 c3, .slice a4 m4 c4, .slice (some ⟨b5, o5, none⟩) m5 c5, .slice a6 m6 c6] t (K v0) iv sv K L D S) := hSR4
  have HDJ : Hid (DJ (eoG G) (arcsG G) (stG G sn) (iat G.we sn) t (arcsG G) K S (v0 :: L)) := hDJ
  have HLE : Hid (∀ y ∈ v0 :: L, ¬ rlt (K y) (K v0)) := hle
  have HEV : Hid (eoG G v0 = t) := hev
  have BZ4 : Hid (Blk w4 (w.heap.size + 1) #[.int .i64 0, .int .i64 0, .slice none 0 0]) := BZ2.out.next hx4
  have r11 := hSR4.s.cell.2.2.2.2.1
  have r5 := cellq hx4 (BG2.out.cell (i := 5) rfl)
  have r6 := cellq (HX2.out.trans hx4) HY5.out
  have HTR : Hid (∀ W, Nx w4 W → Calls Try.prog 39 #[.pointer (some ⟨p, 0, none⟩), .int .i64 (stG G sn : Int)] W fun e w' => ∃ v' E, e = .returned v' ∧ OwnI W.heap.size w' v' E ∧ BestR t (fun c E => ∃ v, WK (eoG G) (arcsG G) (stG G sn) (iat G.we sn) E c v ∧ eoG G v = t) ⟨0, (K v0).1, E⟩ ∧ E.length ≤ 7001 ∧ Nx W w') := fun W hW =>
    trace_any w2 W sb p q mb rb m0 a0 m0 c0 a1 m1 c1 a2 m2 c2 a3 m3 c3 a4 m4 c4 (some ⟨b5, o5, none⟩) m5 c5 a6 m6 c6 t G B (stG G sn) (iat G.we sn) v0 iv sv K L D S (v0 :: L) HVG HH2 HE0.out.symm (by have := HST.out; have := HE0.out; omega) HWE.out (HX4.out.trans hW) (HSR4.out.next hW) HDJ.out (by simp) HLE.out HEV.out
  have HNE : Hid (p ≠ w.heap.size + 1 ∧ w.heap.size ≠ w.heap.size + 1 ∧ b5 ≠ w.heap.size + 1) := by
    have h1 := hSR4.cb.2.1
    have h2 := HXA2.out.size
    have h3 := HSA.out
    have h4 := cell_lt HY5.out
    refine ⟨by omega, by omega, by omega⟩
  clear hx4 hSR4 hDJ hle hev hv0
  generalize (K v0).1 = kc at *
  go_upto_region 6 with fail
  go_region_held3 (fun w' => w'.cell? ⟨p, 11, none⟩ = some (.int .i64 kc) ∧ w'.cell? ⟨w.heap.size, 5, none⟩ = some (.slice (some ⟨b5, o5, none⟩) m5 c5) ∧ w'.cell? ⟨b5, o5 + sn, none⟩ = some (.int .i64 (stG G sn : Int))) (first | exact ⟨t1, t2, t3⟩ | exact ⟨cell_set3 HNE.out.1 t1, cell_set3 HNE.out.2.1 t2, cell_set3 HNE.out.2.2 t3⟩ | (go_keep; done)) (first | (go_at_call 39; refine (HTR.out _ (Nx.refl _).drew).mono ?_; rintro e w5 ⟨v5, E, rfl, hO5, hB5, hl5, hx5⟩; have HL5 : Hid (E.length ≤ 7001) := hl5; have HX5 : Hid (Nx w4 w5) := (Nx.refl _).drew.trans hx5; have HO5 : Hid (OwnI w4.heap.size w5 v5 E) := hO5; have HB5 : Hid (BestR t (fun c E => ∃ v, WK (eoG G) (arcsG G) (stG G sn) (iat G.we sn) E c v ∧ eoG G v = t) ⟨0, kc, E⟩) := hB5; have BZ5 : Hid (Blk w5 (w.heap.size + 1) #[.int .i64 0, .int .i64 0, .slice none 0 0]) := BZ4.out.next HX5.out; have t1 := cellq HX5.out r11; have t2 := cellq HX5.out r5; have t3 := cellq HX5.out r6; have y0 : w5.cell? ⟨w.heap.size + 1, 0, none⟩ = some (.int .i64 0) := BZ5.out.cell (i := 0) rfl; have z0 := BZ5.out.frozen 0; have y1 : w5.cell? ⟨w.heap.size + 1, 1, none⟩ = some (.int .i64 0) := BZ5.out.cell (i := 1) rfl; have z1 := BZ5.out.frozen 1; have y2 : w5.cell? ⟨w.heap.size + 1, 2, none⟩ = some (.slice none 0 0) := BZ5.out.cell (i := 2) rfl; have z2 := BZ5.out.frozen 2; obtain ⟨oa, oc, hv5⟩ := hO5.slice; subst hv5; clear hO5 hB5 hx5 hl5))
  have BR' := (((BZ5.out).set 0 (.int .i64 0)).set 1 (.int .i64 kc)).set 2 (.slice oa E.length oc)
  have q0 : _ = some (Value.int .i64 0) := BR'.cell (i := 0) rfl
  have q1 : _ = some (Value.int .i64 kc) := BR'.cell (i := 1) rfl
  have q2 : _ = some (Value.slice oa E.length oc) := BR'.cell (i := 2) rfl
  clear y0 y1 y2 BR' t1 t2 t3
  go_wp2
  refine bodyPost_ret (v := .agg #[.int .i64 0, .int .i64 kc, .slice oa E.length oc]) (by simp [results, Try.results23, go_sem, q0, q1, q2]) rfl ?_
  refine ⟨⟨0, kc, oa, E.length, oc, ⟨0, kc, E⟩, rfl, HOKR.out _ HB5.out, ⟨rfl, rfl, ?_⟩, HL5.out⟩, ?_⟩
  · have h1 : w.heap.size + 1 < w4.heap.size := by have := HSA.out; have := HXA2.out.size; have := HX4.out.size; omega
    exact OwnI.base (own_store (own_store (own_store HO5.out h1 _ _) h1 _ _) h1 _ _) (by omega)
  · exact Below.setCell (Below.setCell (Below.setCell ((HX2.out.trans HX4.out).trans HX5.out) (Nat.le_succ _) _) (Nat.le_succ _) _) (Nat.le_succ _) _
end Go.Proofs.Yticooljejlkbfaa
