import Derived.Test.YticooljejlkbfaaQH
import Derived.Test.YticooljejlkbfaaSM
namespace Go.Proofs.Yticooljejlkbfaa
open Go.RowKit Go.Sort Go.Maps Go.Shelf
set_option linter.unusedVariables false
set_option maxRecDepth 100000

theorem HInts.sl {B : Nat} {w : World} {v : Value} {zs : List Int} (h : HInts B w v zs) : ∃ a m c, v = .slice a m c := by
  obtain ⟨a, c, e, _⟩ := h
  exact ⟨a, _, c, e⟩
theorem SI.next {w w' : World} {v : Value} {n : Nat} {F : Nat → Int} (h : SI w v n F) (k : Nx w w') : SI w' v n F := by
  obtain ⟨a, c, e, h⟩ := h
  refine ⟨a, c, e, fun h0 => ?_⟩
  obtain ⟨g, e2, cs, hb, r⟩ := h h0
  exact ⟨g, e2, cs, (k.block g (Array.getElem?_eq_some_iff.1 hb).1).trans hb, r⟩
set_option maxHeartbeats 16000000 in
/-- **the program's Shortest** -/
theorem implShort_any (B : Nat) (v0 v1 v2 v3 v4 v5 v6 : Value) (G : Gr) (s t : Int) (w : World) (h0 : HG B w v0 v1 v2 v3 v4 v5 v6 G) (hs : SmallG G) :
    Calls Try.prog 7 #[.agg #[v0, v1, v2, v3, v4, v5, v6], .int .i64 s, .int .i64 t] w fun e w' => ShI G s t w w' e ∧ Nx w w' := by
  obtain ⟨a0, m0, c0, rfl⟩ := h0.h0.sl
  obtain ⟨a1, m1, c1, rfl⟩ := h0.h1.sl
  obtain ⟨a2, m2, c2, rfl⟩ := h0.h2.sl
  obtain ⟨a3, m3, c3, rfl⟩ := h0.h3.sl
  obtain ⟨a4, m4, c4, rfl⟩ := h0.h4.sl
  obtain ⟨a5, m5, c5, rfl⟩ := h0.h5.sl
  obtain ⟨a6, m6, c6, rfl⟩ := h0.h6.sl
  have HH : Hid (HG B w (.slice a0 m0 c0) (.slice a1 m1 c1) (.slice a2 m2 c2) (.slice a3 m3 c3) (.slice a4 m4 c4) (.slice a5 m5 c5) (.slice a6 m6 c6) G) := h0
  have HS : Hid (SmallG G) := hs
  clear h0 hs
  generalize hWA : (w.alloc (.cells #[.slice a0 m0 c0, .slice a1 m1 c1, .slice a2 m2 c2, .slice a3 m3 c3, .slice a4 m4 c4, .slice a5 m5 c5, .slice a6 m6 c6] 29)).alloc (.cells #[.int .i64 0, .int .i64 0, .slice none 0 0] 27) = wA
  have HXA : Hid (Nx w wA) := by unfold Hid; rw [← hWA]; exact box2 _ _ _
  have BG : Hid (Blk wA w.heap.size #[.slice a0 m0 c0, .slice a1 m1 c1, .slice a2 m2 c2, .slice a3 m3 c3, .slice a4 m4 c4, .slice a5 m5 c5, .slice a6 m6 c6]) := by unfold Hid; rw [← hWA]; exact (Blk.new w _ _ _ rfl).alloc _
  have BZ : Hid (Blk wA (w.heap.size + 1) #[.int .i64 0, .int .i64 0, .slice none 0 0]) := by unfold Hid; rw [← hWA]; exact Blk.new _ _ _ _ (by rw [size_alloc'])
  have HSA : Hid (wA.heap.size = w.heap.size + 2) := by unfold Hid; rw [← hWA, size_alloc', size_alloc']
  go_enter Try.func7, Try.ntmps7
  go_upto_region 1 with fail
  clear hWA
  have k0 : wA.cell? ⟨w.heap.size, 0, none⟩ = some (.slice a0 m0 c0) := BG.out.cell (i := 0) rfl
  have k1 : wA.cell? ⟨w.heap.size, 1, none⟩ = some (.slice a1 m1 c1) := BG.out.cell (i := 1) rfl
  have k2 : wA.cell? ⟨w.heap.size, 2, none⟩ = some (.slice a2 m2 c2) := BG.out.cell (i := 2) rfl
  have k3 : wA.cell? ⟨w.heap.size, 3, none⟩ = some (.slice a3 m3 c3) := BG.out.cell (i := 3) rfl
  have k4 : wA.cell? ⟨w.heap.size, 4, none⟩ = some (.slice a4 m4 c4) := BG.out.cell (i := 4) rfl
  have k5 : wA.cell? ⟨w.heap.size, 5, none⟩ = some (.slice a5 m5 c5) := BG.out.cell (i := 5) rfl
  have k6 : wA.cell? ⟨w.heap.size, 6, none⟩ = some (.slice a6 m6 c6) := BG.out.cell (i := 6) rfl
  go_wp2_with fail
  refine (implValidG_any B _ _ _ _ _ _ _ G _ (HH.out.next HXA.out) HS.out).mono ?_
  rintro e w1 ⟨rfl, hx⟩
  have HXA1 : Hid (Nx wA w1) := hx
  have HX1 : Hid (Nx w w1) := HXA.out.trans hx
  have BG1 : Hid (Blk w1 w.heap.size #[.slice a0 m0 c0, .slice a1 m1 c1, .slice a2 m2 c2, .slice a3 m3 c3, .slice a4 m4 c4, .slice a5 m5 c5, .slice a6 m6 c6]) := BG.out.next hx
  have BZ1 : Hid (Blk w1 (w.heap.size + 1) #[.int .i64 0, .int .i64 0, .slice none 0 0]) := BZ.out.next hx
  clear hx k0 k1 k2 k3 k4 k5 k6
  cases hvg : validG G
  case false =>
    have HF : Hid (RouteIs G s t ⟨3, 0, []⟩) := Or.inl ⟨hvg, rfl⟩
    clear hvg
    have y0 : w1.cell? ⟨w.heap.size + 1, 0, none⟩ = some (.int .i64 0) := BZ1.out.cell (i := 0) rfl
    have z0 := BZ1.out.frozen 0
    have y1 : w1.cell? ⟨w.heap.size + 1, 1, none⟩ = some (.int .i64 0) := BZ1.out.cell (i := 1) rfl
    have z1 := BZ1.out.frozen 1
    have y2 : w1.cell? ⟨w.heap.size + 1, 2, none⟩ = some (.slice none 0 0) := BZ1.out.cell (i := 2) rfl
    have z2 := BZ1.out.frozen 2
    go_wp2
    have BR' := (((BZ1.out).set 0 (.int .i64 3)).set 1 (.int .i64 0)).set 2 (.slice none 0 0)
    have q0 : _ = some (Value.int .i64 3) := BR'.cell (i := 0) rfl
    have q1 : _ = some (Value.int .i64 0) := BR'.cell (i := 1) rfl
    have q2 : _ = some (Value.slice none 0 0) := BR'.cell (i := 2) rfl
    clear y0 y1 y2 BR'
    refine bodyPost_ret (v := .agg #[.int .i64 3, .int .i64 0, .slice none 0 0]) (by simp [results, Try.results7, go_sem, q0, q1, q2]) rfl ?_
    exact ⟨⟨3, 0, none, 0, 0, ⟨3, 0, []⟩, rfl, HF.out, hrt_nil _ _ _, Nat.zero_le _⟩, Below.setCell (Below.setCell (Below.setCell HX1.out (Nat.le_succ _) _) (Nat.le_succ _) _) (Nat.le_succ _) _⟩
  have HVG : Hid (VG G) := vg_of hvg
  have HVB : Hid (validG G = true) := hvg
  clear hvg
  have k0 : w1.cell? ⟨w.heap.size, 0, none⟩ = some (.slice a0 m0 c0) := BG1.out.cell (i := 0) rfl
  have k1 : w1.cell? ⟨w.heap.size, 1, none⟩ = some (.slice a1 m1 c1) := BG1.out.cell (i := 1) rfl
  have k2 : w1.cell? ⟨w.heap.size, 2, none⟩ = some (.slice a2 m2 c2) := BG1.out.cell (i := 2) rfl
  have k3 : w1.cell? ⟨w.heap.size, 3, none⟩ = some (.slice a3 m3 c3) := BG1.out.cell (i := 3) rfl
  have k4 : w1.cell? ⟨w.heap.size, 4, none⟩ = some (.slice a4 m4 c4) := BG1.out.cell (i := 4) rfl
  have k5 : w1.cell? ⟨w.heap.size, 5, none⟩ = some (.slice a5 m5 c5) := BG1.out.cell (i := 5) rfl
  have k6 : w1.cell? ⟨w.heap.size, 6, none⟩ = some (.slice a6 m6 c6) := BG1.out.cell (i := 6) rfl
  go_wp2_with fail
  refine (bestRoute_any B a0 m0 c0 a1 m1 c1 a2 m2 c2 a3 m3 c3 a4 m4 c4 a5 m5 c5 a6 m6 c6 G s t w1 HVG HVB (HH.out.next HX1.out)).mono ?_
  rintro e w2 ⟨⟨rc, rk, oa, on, oc, r, rfl, hR, hO, hl⟩, hx2⟩
  have HX2 : Hid (Nx w1 w2) := hx2
  have HR : Hid (RouteIs G s t r) := hR
  have HO : Hid (HRt w1.heap.size w2 rc rk oa on oc r) := hO
  have HL : Hid (r.edges.length ≤ 7001) := hl
  have BZ2 : Hid (Blk w2 (w.heap.size + 1) #[.int .i64 0, .int .i64 0, .slice none 0 0]) := BZ1.out.next hx2
  clear hx2 hR hO hl k0 k1 k2 k3 k4 k5 k6
  have y0 : w2.cell? ⟨w.heap.size + 1, 0, none⟩ = some (.int .i64 0) := BZ2.out.cell (i := 0) rfl
  have z0 := BZ2.out.frozen 0
  have y1 : w2.cell? ⟨w.heap.size + 1, 1, none⟩ = some (.int .i64 0) := BZ2.out.cell (i := 1) rfl
  have z1 := BZ2.out.frozen 1
  have y2 : w2.cell? ⟨w.heap.size + 1, 2, none⟩ = some (.slice none 0 0) := BZ2.out.cell (i := 2) rfl
  have z2 := BZ2.out.frozen 2
  go_wp2
  have BR' := (((BZ2.out).set 0 (.int .i64 rc)).set 1 (.int .i64 rk)).set 2 (.slice oa on oc)
  have q0 : _ = some (Value.int .i64 rc) := BR'.cell (i := 0) rfl
  have q1 : _ = some (Value.int .i64 rk) := BR'.cell (i := 1) rfl
  have q2 : _ = some (Value.slice oa on oc) := BR'.cell (i := 2) rfl
  clear y0 y1 y2 BR'
  refine bodyPost_ret (v := .agg #[.int .i64 rc, .int .i64 rk, .slice oa on oc]) (by simp [results, Try.results7, go_sem, q0, q1, q2]) rfl ?_
  refine ⟨⟨rc, rk, oa, on, oc, r, rfl, HR.out, ⟨HO.out.1, HO.out.2.1, ?_⟩, HL.out⟩, ?_⟩
  · have h1 : w.heap.size + 1 < w1.heap.size := by have := HSA.out; have := HXA1.out.size; omega
    exact OwnI.base (own_store (own_store (own_store HO.out.2.2 h1 _ _) h1 _ _) h1 _ _) (by omega)
  · exact Below.setCell (Below.setCell (Below.setCell (HX1.out.trans HX2.out) (Nat.le_succ _) _) (Nat.le_succ _) _) (Nat.le_succ _) _

set_option maxHeartbeats 4000000 in
theorem eqRoute_same (B B' : Nat) (rc rk : Int) (oa : Option Addr) (on oc : Nat) (oa' : Option Addr) (on' oc' : Nat) (E : List Int) (w : World) (h0 : HInts B w (.slice oa on oc) E) (h1 : HInts B' w (.slice oa' on' oc') E) :
    Calls Try.prog 8 #[.agg #[.int .i64 rc, .int .i64 rk, .slice oa on oc], .agg #[.int .i64 rc, .int .i64 rk, .slice oa' on' oc']] w fun e w' => e = .returned (.bool true) ∧ Nx w w' := by
  generalize hWA : (w.alloc (.cells #[.int .i64 rc, .int .i64 rk, .slice oa on oc] 27)).alloc (.cells #[.int .i64 rc, .int .i64 rk, .slice oa' on' oc'] 27) = wA
  have HXA : Hid (Nx w wA) := by unfold Hid; rw [← hWA]; exact box2 _ _ _
  have BA : Hid (Blk wA w.heap.size #[.int .i64 rc, .int .i64 rk, .slice oa on oc]) := by unfold Hid; rw [← hWA]; exact (Blk.new w _ _ _ rfl).alloc _
  have BB : Hid (Blk wA (w.heap.size + 1) #[.int .i64 rc, .int .i64 rk, .slice oa' on' oc']) := by unfold Hid; rw [← hWA]; exact Blk.new _ _ _ _ (by rw [size_alloc'])
  have H0 : Hid (HInts B wA (.slice oa on oc) E) := h0.next HXA.out
  have H1 : Hid (HInts B' wA (.slice oa' on' oc') E) := h1.next HXA.out
  have d1 : (rc != rc) = false := by simp
  have d2 : (rk != rk) = false := by simp
  clear h0 h1
  go_enter Try.func8, Try.ntmps8
  go_upto_region 1 with fail
  clear hWA
  have k0 : wA.cell? ⟨w.heap.size, 0, none⟩ = some (.int .i64 rc) := BA.out.cell (i := 0) rfl
  have k1 : wA.cell? ⟨w.heap.size, 1, none⟩ = some (.int .i64 rk) := BA.out.cell (i := 1) rfl
  have k2 : wA.cell? ⟨w.heap.size, 2, none⟩ = some (.slice oa on oc) := BA.out.cell (i := 2) rfl
  have l0 : wA.cell? ⟨w.heap.size + 1, 0, none⟩ = some (.int .i64 rc) := BB.out.cell (i := 0) rfl
  have l1 : wA.cell? ⟨w.heap.size + 1, 1, none⟩ = some (.int .i64 rk) := BB.out.cell (i := 1) rfl
  have l2 : wA.cell? ⟨w.heap.size + 1, 2, none⟩ = some (.slice oa' on' oc') := BB.out.cell (i := 2) rfl
  go_wp2_with fail
  refine (eqInts_same B B' _ _ E _ H0.out H1.out).mono ?_
  rintro e w1 ⟨rfl, hx⟩
  have HX1 : Hid (Nx w w1) := HXA.out.trans hx
  clear hx k0 k1 k2 l0 l1 l2
  go_wp2
  go_ret
  exact ⟨rfl, HX1.out⟩

set_option maxHeartbeats 4000000 in
theorem markRoute_any (rc rk : Int) (oa : Option Addr) (on oc : Nat) (F : Nat → Int) (w : World) (k : Int) (h0 : SI w (.slice oa on oc) on F) (hs : on ≤ 1048576) (hk0 : 0 ≤ k) (hk1 : k ≤ 4611686018427387904) :
    Calls Try.prog 11 #[.agg #[.int .i64 rc, .int .i64 rk, .slice oa on oc], .int .i64 k] w fun e w' => e = .returned (.int .i64 (k + on)) ∧ SI w' (.slice oa on oc) on (fun i => k + i) ∧ Only (Value.ownBlock (.slice oa on oc)) (w.alloc (.cells #[.int .i64 rc, .int .i64 rk, .slice oa on oc] 27)) w' := by
  generalize hWA : w.alloc (.cells #[.int .i64 rc, .int .i64 rk, .slice oa on oc] 27) = wA
  have HXA : Hid (Nx w wA) := by unfold Hid; rw [← hWA]; exact box1 _ _
  have BA : Hid (Blk wA w.heap.size #[.int .i64 rc, .int .i64 rk, .slice oa on oc]) := by unfold Hid; rw [← hWA]; exact Blk.new w _ _ _ rfl
  have H0 : Hid (SI wA (.slice oa on oc) on F) := h0.next HXA.out
  clear h0
  go_enter Try.func11, Try.ntmps11
  go_upto_region 1 with fail
  clear hWA
  have k2 : wA.cell? ⟨w.heap.size, 2, none⟩ = some (.slice oa on oc) := BA.out.cell (i := 2) rfl
  go_wp2_with fail
  refine (markI_any _ on F _ k H0.out hs hk0 hk1).mono ?_
  rintro e w1 ⟨rfl, hsi, hon⟩
  have HSI : Hid (SI w1 (.slice oa on oc) on (fun i => k + i)) := hsi
  have HON : Hid (Only (Value.ownBlock (.slice oa on oc)) wA w1) := hon
  clear hsi hon k2
  go_wp2
  go_ret
  exact ⟨rfl, HSI.out, HON.out⟩
set_option maxHeartbeats 4000000 in
theorem heldRoute_any (rc rk : Int) (oa : Option Addr) (on oc : Nat) (w : World) (k : Int) (h0 : SI w (.slice oa on oc) on (fun i => k + i)) (hs : on ≤ 1048576) (hk0 : 0 ≤ k) (hk1 : k ≤ 4611686018427387904) :
    Calls Try.prog 12 #[.agg #[.int .i64 rc, .int .i64 rk, .slice oa on oc], .int .i64 k] w fun e w' => e = .returned (.int .i64 (k + on)) ∧ Nx w w' := by
  generalize hWA : w.alloc (.cells #[.int .i64 rc, .int .i64 rk, .slice oa on oc] 27) = wA
  have HXA : Hid (Nx w wA) := by unfold Hid; rw [← hWA]; exact box1 _ _
  have BA : Hid (Blk wA w.heap.size #[.int .i64 rc, .int .i64 rk, .slice oa on oc]) := by unfold Hid; rw [← hWA]; exact Blk.new w _ _ _ rfl
  have H0 : Hid (SI wA (.slice oa on oc) on (fun i => k + i)) := h0.next HXA.out
  have d1 : decide (k + (on : Int) < 0) = false := by simp; omega
  clear h0
  go_enter Try.func12, Try.ntmps12
  go_upto_region 1 with fail
  clear hWA
  have k2 : wA.cell? ⟨w.heap.size, 2, none⟩ = some (.slice oa on oc) := BA.out.cell (i := 2) rfl
  go_wp2_with fail
  refine (heldI_any _ on _ k H0.out hs hk0 hk1).mono ?_
  rintro e w1 ⟨rfl, rfl⟩
  clear k2
  go_wp2
  go_ret
  exact ⟨rfl, HXA.out⟩
end Go.Proofs.Yticooljejlkbfaa
