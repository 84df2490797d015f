import Derived.Test.YticooljejlkbfaaSU
namespace Go.Proofs.Yticooljejlkbfaa
open Go.RowKit Go.Sort
set_option linter.unusedVariables false
set_option maxRecDepth 100000

def ShE (G : Gr) (s t : Int) (w w' : World) (e : Ending) : Prop := ∃ (rc rk : Int) (oa : Option Addr) (on oc : Nat) (r : Rt), e = .returned (.agg #[.int .i64 rc, .int .i64 rk, .slice oa on oc]) ∧ RouteIs G s t r ∧ HRt w.heap.size w' rc rk oa on oc r
theorem hrt_nil (C : Nat) (w : World) (c : Int) : HRt C w c 0 none 0 0 ⟨c, 0, []⟩ := ⟨rfl, rfl, ⟨rfl, Or.inl ⟨rfl, rfl⟩⟩⟩
theorem HRt.base {C C' : Nat} {w : World} {rc rk : Int} {oa : Option Addr} {on oc : Nat} {r : Rt} (h : HRt C w rc rk oa on oc r) (hC : C' ≤ C) : HRt C' w rc rk oa on oc r := ⟨h.1, h.2.1, h.2.2.base hC⟩
theorem HRt.next {C : Nat} {w w' : World} {rc rk : Int} {oa : Option Addr} {on oc : Nat} {r : Rt} (h : HRt C w rc rk oa on oc r) (k : Nx w w') : HRt C w' rc rk oa on oc r := ⟨h.1, h.2.1, h.2.2.next k⟩

set_option maxHeartbeats 16000000 in
theorem specShort_any (B : Nat) (v0 v1 v2 v3 v4 v5 v6 : Value) (G : Gr) (s t : Int) (w : World) (h0 : HG B w v0 v1 v2 v3 v4 v5 v6 G) :
    Calls Try.prog 5 #[.agg #[v0, v1, v2, v3, v4, v5, v6], .int .i64 s, .int .i64 t] w fun e w' => ShE G s t w w' e ∧ Nx w w' := by
  have HH : Hid (HG B w v0 v1 v2 v3 v4 v5 v6 G) := h0
  obtain ⟨a0, c0, hv0, _hm0, _hk0⟩ := h0.h0
  clear _hm0 _hk0
  obtain ⟨a1, c1, hv1, _hm1, _hk1⟩ := h0.h1
  clear _hm1 _hk1
  obtain ⟨a2, c2, hv2, _hm2, _hk2⟩ := h0.h2
  clear _hm2 _hk2
  obtain ⟨a3, c3, hv3, _hm3, _hk3⟩ := h0.h3
  clear _hm3 _hk3
  obtain ⟨a4, c4, hv4, _hm4, _hk4⟩ := h0.h4
  clear _hm4 _hk4
  obtain ⟨a5, c5, hv5, _hm5, _hk5⟩ := h0.h5
  clear _hm5 _hk5
  obtain ⟨a6, c6, hv6, _hm6, _hk6⟩ := h0.h6
  clear _hm6 _hk6
  subst hv0 hv1 hv2 hv3 hv4 hv5 hv6
  generalize hWA : (w.alloc (.cells #[.slice a0 G.eo.length c0, .slice a1 G.so.length c1, .slice a2 G.fi.length c2, .slice a3 G.tt.length c3, .slice a4 G.co.length c4, .slice a5 G.sr.length c5, .slice a6 G.we.length c6] 29)).alloc (.cells #[.int .i64 0, .int .i64 0, .slice none 0 0] 27) = wA
  have HXA : Hid (Nx w wA) := by unfold Hid; rw [← hWA]; exact box2 _ _ _
  have BG : Hid (Blk wA w.heap.size #[.slice a0 G.eo.length c0, .slice a1 G.so.length c1, .slice a2 G.fi.length c2, .slice a3 G.tt.length c3, .slice a4 G.co.length c4, .slice a5 G.sr.length c5, .slice a6 G.we.length c6]) := by unfold Hid; rw [← hWA]; exact (Blk.new w _ _ _ rfl).alloc _
  have BZ : Hid (Blk wA (w.heap.size + 1) #[.int .i64 0, .int .i64 0, .slice none 0 0]) := by unfold Hid; rw [← hWA]; exact Blk.new _ _ _ _ (by rw [size_alloc'])
  have HSA : Hid (wA.heap.size = w.heap.size + 2) := by unfold Hid; rw [← hWA, size_alloc', size_alloc']
  go_enter Try.func5, Try.ntmps5
  go_upto_region 1 with fail
  clear hWA
  have k0 : wA.cell? ⟨w.heap.size, 0, none⟩ = some (.slice a0 G.eo.length c0) := BG.out.cell (i := 0) rfl
  have k1 : wA.cell? ⟨w.heap.size, 1, none⟩ = some (.slice a1 G.so.length c1) := BG.out.cell (i := 1) rfl
  have k2 : wA.cell? ⟨w.heap.size, 2, none⟩ = some (.slice a2 G.fi.length c2) := BG.out.cell (i := 2) rfl
  have k3 : wA.cell? ⟨w.heap.size, 3, none⟩ = some (.slice a3 G.tt.length c3) := BG.out.cell (i := 3) rfl
  have k4 : wA.cell? ⟨w.heap.size, 4, none⟩ = some (.slice a4 G.co.length c4) := BG.out.cell (i := 4) rfl
  have k5 : wA.cell? ⟨w.heap.size, 5, none⟩ = some (.slice a5 G.sr.length c5) := BG.out.cell (i := 5) rfl
  have k6 : wA.cell? ⟨w.heap.size, 6, none⟩ = some (.slice a6 G.we.length c6) := BG.out.cell (i := 6) rfl
  go_wp2_with fail
  refine (specValidG_any B _ _ _ _ _ _ _ G _ (by exact HH.out.next HXA.out)).mono ?_
  rintro e w1 ⟨rfl, hx⟩
  have HXA1 : Hid (Nx wA w1) := hx
  have HX1 : Hid (Nx w w1) := HXA.out.trans hx
  have BG1 : Hid (Blk w1 w.heap.size #[.slice a0 G.eo.length c0, .slice a1 G.so.length c1, .slice a2 G.fi.length c2, .slice a3 G.tt.length c3, .slice a4 G.co.length c4, .slice a5 G.sr.length c5, .slice a6 G.we.length c6]) := BG.out.next hx
  have BZ1 : Hid (Blk w1 (w.heap.size + 1) #[.int .i64 0, .int .i64 0, .slice none 0 0]) := BZ.out.next hx
  clear hx k0 k1 k2 k3 k4 k5 k6
  cases hvg : validG G
  case false =>
    have HF : Hid (RouteIs G s t ⟨3, 0, []⟩) := Or.inl ⟨hvg, rfl⟩
    clear hvg
    have y0 : w1.cell? ⟨w.heap.size + 1, 0, none⟩ = some (.int .i64 0) := BZ1.out.cell (i := 0) rfl
    have z0 := BZ1.out.frozen 0
    have y1 : w1.cell? ⟨w.heap.size + 1, 1, none⟩ = some (.int .i64 0) := BZ1.out.cell (i := 1) rfl
    have z1 := BZ1.out.frozen 1
    have y2 : w1.cell? ⟨w.heap.size + 1, 2, none⟩ = some (.slice none 0 0) := BZ1.out.cell (i := 2) rfl
    have z2 := BZ1.out.frozen 2
    go_wp2
    have BR' := (((BZ1.out).set 0 (.int .i64 3)).set 1 (.int .i64 0)).set 2 (.slice none 0 0)
    have q0 : _ = some (Value.int .i64 3) := BR'.cell (i := 0) rfl
    have q1 : _ = some (Value.int .i64 0) := BR'.cell (i := 1) rfl
    have q2 : _ = some (Value.slice none 0 0) := BR'.cell (i := 2) rfl
    clear y0 y1 y2 BR'
    refine bodyPost_ret (v := .agg #[.int .i64 3, .int .i64 0, .slice none 0 0]) (by simp [results, Try.results5, go_sem, q0, q1, q2]) rfl ?_
    exact ⟨⟨3, 0, none, 0, 0, ⟨3, 0, []⟩, rfl, HF.out, hrt_nil _ _ _⟩, Below.setCell (Below.setCell (Below.setCell HX1.out (Nat.le_succ _) _) (Nat.le_succ _) _) (Nat.le_succ _) _⟩
  have HVG : Hid (VG G) := vg_of hvg
  have HVB : Hid (validG G = true) := hvg
  clear hvg
  have HBADR : Hid (¬ (0 ≤ s ∧ s < G.sr.length ∧ 0 ≤ t ∧ t < G.sr.length) → RouteIs G s t ⟨2, 0, []⟩) := fun h => Or.inr (Or.inl ⟨HVB.out, h, rfl⟩)
  have k0 : w1.cell? ⟨w.heap.size, 0, none⟩ = some (.slice a0 G.eo.length c0) := BG1.out.cell (i := 0) rfl
  have k1 : w1.cell? ⟨w.heap.size, 1, none⟩ = some (.slice a1 G.so.length c1) := BG1.out.cell (i := 1) rfl
  have k2 : w1.cell? ⟨w.heap.size, 2, none⟩ = some (.slice a2 G.fi.length c2) := BG1.out.cell (i := 2) rfl
  have k3 : w1.cell? ⟨w.heap.size, 3, none⟩ = some (.slice a3 G.tt.length c3) := BG1.out.cell (i := 3) rfl
  have k4 : w1.cell? ⟨w.heap.size, 4, none⟩ = some (.slice a4 G.co.length c4) := BG1.out.cell (i := 4) rfl
  have k5 : w1.cell? ⟨w.heap.size, 5, none⟩ = some (.slice a5 G.sr.length c5) := BG1.out.cell (i := 5) rfl
  have k6 : w1.cell? ⟨w.heap.size, 6, none⟩ = some (.slice a6 G.we.length c6) := BG1.out.cell (i := 6) rfl
  by_cases g1 : s < 0
  · have f1 : decide (s < 0) = true := by simpa using g1
    have HF : Hid (RouteIs G s t ⟨2, 0, []⟩) := HBADR.out (by omega)
    have y0 : w1.cell? ⟨w.heap.size + 1, 0, none⟩ = some (.int .i64 0) := BZ1.out.cell (i := 0) rfl
    have z0 := BZ1.out.frozen 0
    have y1 : w1.cell? ⟨w.heap.size + 1, 1, none⟩ = some (.int .i64 0) := BZ1.out.cell (i := 1) rfl
    have z1 := BZ1.out.frozen 1
    have y2 : w1.cell? ⟨w.heap.size + 1, 2, none⟩ = some (.slice none 0 0) := BZ1.out.cell (i := 2) rfl
    have z2 := BZ1.out.frozen 2
    go_wp2
    have BR' := (((BZ1.out).set 0 (.int .i64 2)).set 1 (.int .i64 0)).set 2 (.slice none 0 0)
    have q0 : _ = some (Value.int .i64 2) := BR'.cell (i := 0) rfl
    have q1 : _ = some (Value.int .i64 0) := BR'.cell (i := 1) rfl
    have q2 : _ = some (Value.slice none 0 0) := BR'.cell (i := 2) rfl
    clear y0 y1 y2 BR'
    refine bodyPost_ret (v := .agg #[.int .i64 2, .int .i64 0, .slice none 0 0]) (by simp [results, Try.results5, go_sem, q0, q1, q2]) rfl ?_
    exact ⟨⟨2, 0, none, 0, 0, ⟨2, 0, []⟩, rfl, HF.out, hrt_nil _ _ _⟩, Below.setCell (Below.setCell (Below.setCell HX1.out (Nat.le_succ _) _) (Nat.le_succ _) _) (Nat.le_succ _) _⟩
  have f1 : decide (s < 0) = false := by simpa using g1
  by_cases g2 : (G.sr.length : Int) ≤ s
  · have f2 : decide ((G.sr.length : Int) ≤ s) = true := by simpa using g2
    have HF : Hid (RouteIs G s t ⟨2, 0, []⟩) := HBADR.out (by omega)
    have y0 : w1.cell? ⟨w.heap.size + 1, 0, none⟩ = some (.int .i64 0) := BZ1.out.cell (i := 0) rfl
    have z0 := BZ1.out.frozen 0
    have y1 : w1.cell? ⟨w.heap.size + 1, 1, none⟩ = some (.int .i64 0) := BZ1.out.cell (i := 1) rfl
    have z1 := BZ1.out.frozen 1
    have y2 : w1.cell? ⟨w.heap.size + 1, 2, none⟩ = some (.slice none 0 0) := BZ1.out.cell (i := 2) rfl
    have z2 := BZ1.out.frozen 2
    go_wp2
    have BR' := (((BZ1.out).set 0 (.int .i64 2)).set 1 (.int .i64 0)).set 2 (.slice none 0 0)
    have q0 : _ = some (Value.int .i64 2) := BR'.cell (i := 0) rfl
    have q1 : _ = some (Value.int .i64 0) := BR'.cell (i := 1) rfl
    have q2 : _ = some (Value.slice none 0 0) := BR'.cell (i := 2) rfl
    clear y0 y1 y2 BR'
    refine bodyPost_ret (v := .agg #[.int .i64 2, .int .i64 0, .slice none 0 0]) (by simp [results, Try.results5, go_sem, q0, q1, q2]) rfl ?_
    exact ⟨⟨2, 0, none, 0, 0, ⟨2, 0, []⟩, rfl, HF.out, hrt_nil _ _ _⟩, Below.setCell (Below.setCell (Below.setCell HX1.out (Nat.le_succ _) _) (Nat.le_succ _) _) (Nat.le_succ _) _⟩
  have f2 : decide ((G.sr.length : Int) ≤ s) = false := by simpa using g2
  by_cases g3 : t < 0
  · have f3 : decide (t < 0) = true := by simpa using g3
    have HF : Hid (RouteIs G s t ⟨2, 0, []⟩) := HBADR.out (by omega)
    have y0 : w1.cell? ⟨w.heap.size + 1, 0, none⟩ = some (.int .i64 0) := BZ1.out.cell (i := 0) rfl
    have z0 := BZ1.out.frozen 0
    have y1 : w1.cell? ⟨w.heap.size + 1, 1, none⟩ = some (.int .i64 0) := BZ1.out.cell (i := 1) rfl
    have z1 := BZ1.out.frozen 1
    have y2 : w1.cell? ⟨w.heap.size + 1, 2, none⟩ = some (.slice none 0 0) := BZ1.out.cell (i := 2) rfl
    have z2 := BZ1.out.frozen 2
    go_wp2
    have BR' := (((BZ1.out).set 0 (.int .i64 2)).set 1 (.int .i64 0)).set 2 (.slice none 0 0)
    have q0 : _ = some (Value.int .i64 2) := BR'.cell (i := 0) rfl
    have q1 : _ = some (Value.int .i64 0) := BR'.cell (i := 1) rfl
    have q2 : _ = some (Value.slice none 0 0) := BR'.cell (i := 2) rfl
    clear y0 y1 y2 BR'
    refine bodyPost_ret (v := .agg #[.int .i64 2, .int .i64 0, .slice none 0 0]) (by simp [results, Try.results5, go_sem, q0, q1, q2]) rfl ?_
    exact ⟨⟨2, 0, none, 0, 0, ⟨2, 0, []⟩, rfl, HF.out, hrt_nil _ _ _⟩, Below.setCell (Below.setCell (Below.setCell HX1.out (Nat.le_succ _) _) (Nat.le_succ _) _) (Nat.le_succ _) _⟩
  have f3 : decide (t < 0) = false := by simpa using g3
  by_cases g4 : (G.sr.length : Int) ≤ t
  · have f4 : decide ((G.sr.length : Int) ≤ t) = true := by simpa using g4
    have HF : Hid (RouteIs G s t ⟨2, 0, []⟩) := HBADR.out (by omega)
    have y0 : w1.cell? ⟨w.heap.size + 1, 0, none⟩ = some (.int .i64 0) := BZ1.out.cell (i := 0) rfl
    have z0 := BZ1.out.frozen 0
    have y1 : w1.cell? ⟨w.heap.size + 1, 1, none⟩ = some (.int .i64 0) := BZ1.out.cell (i := 1) rfl
    have z1 := BZ1.out.frozen 1
    have y2 : w1.cell? ⟨w.heap.size + 1, 2, none⟩ = some (.slice none 0 0) := BZ1.out.cell (i := 2) rfl
    have z2 := BZ1.out.frozen 2
    go_wp2
    have BR' := (((BZ1.out).set 0 (.int .i64 2)).set 1 (.int .i64 0)).set 2 (.slice none 0 0)
    have q0 : _ = some (Value.int .i64 2) := BR'.cell (i := 0) rfl
    have q1 : _ = some (Value.int .i64 0) := BR'.cell (i := 1) rfl
    have q2 : _ = some (Value.slice none 0 0) := BR'.cell (i := 2) rfl
    clear y0 y1 y2 BR'
    refine bodyPost_ret (v := .agg #[.int .i64 2, .int .i64 0, .slice none 0 0]) (by simp [results, Try.results5, go_sem, q0, q1, q2]) rfl ?_
    exact ⟨⟨2, 0, none, 0, 0, ⟨2, 0, []⟩, rfl, HF.out, hrt_nil _ _ _⟩, Below.setCell (Below.setCell (Below.setCell HX1.out (Nat.le_succ _) _) (Nat.le_succ _) _) (Nat.le_succ _) _⟩
  have f4 : decide ((G.sr.length : Int) ≤ t) = false := by simpa using g4
  obtain ⟨sn, rfl⟩ : ∃ sn : Nat, s = sn := ⟨s.toNat, by omega⟩
  have hsn : sn < G.sr.length := by omega
  have HSN : Hid (sn < G.sr.length) := hsn
  have HOKR : Hid (∀ r, BestR t (fun c E => ∃ v, WK (eoG G) (arcsG G) (stG G sn) (iat G.we sn) E c v ∧ eoG G v = t) r → RouteIs G sn t r) := fun r h => Or.inr (Or.inr ⟨HVB.out, by omega, by rw [Int.toNat_natCast]; exact h⟩)
  have HST : Hid (stG G sn < G.eo.length ∧ iat G.sr sn = (stG G sn : Int) ∧ eoG G (stG G sn) = sn) := st_lt HVG.out hsn
  have HWE : Hid (0 ≤ iat G.we sn ∧ iat G.we sn ≤ 1048576) := HVG.out.we sn hsn
  clear g1 g2 g3 g4 HBADR
  obtain ⟨_, _, e5, _, hk5⟩ := HH.out.h5
  obtain ⟨_, _, e6, _, hk6⟩ := HH.out.h6
  simp only [Value.slice.injEq] at e5 e6
  obtain ⟨e5, _j1, _j2⟩ := e5
  obtain ⟨e6, _j3, _j4⟩ := e6
  clear _j1 _j2 _j3 _j4
  rw [← e5] at hk5
  rw [← e6] at hk6
  obtain ⟨b5, o5, ha5, _, hb5, hc5⟩ := hk5 (by omega)
  obtain ⟨b6, o6, ha6, _, hb6, hc6⟩ := hk6 (by rw [HVG.out.lw]; omega)
  clear e5 e6 hk5 hk6
  have x5 : w1.cell? ⟨b5, o5 + sn, none⟩ = some (.int .i64 (iat G.sr sn)) := cell_next HX1.out hb5 (hc5 sn hsn)
  have x6 : w1.cell? ⟨b6, o6 + sn, none⟩ = some (.int .i64 (iat G.we sn)) := cell_next HX1.out hb6 (hc6 sn (by rw [HVG.out.lw]; exact hsn))
  subst ha5 ha6
  have hsn1 : (sn : Int) < (G.sr.length : Int) := by omega
  have hsn2 : (sn : Int) < (G.we.length : Int) := by have := HVG.out.lw; omega
  have hsn0 : (0 : Int) ≤ sn := by omega
  have ne5 := World.new_ne w1 _ k5
  have ne6 := World.new_ne w1 _ k6
  have nx5 := World.new_ne w1 _ x5
  have nx6 := World.new_ne w1 _ x6
  have HCA : Hid (wA.heap.size ≤ w1.heap.size) := HXA1.out.size
  have HPX : Hid (∀ W e k, Nx w1 W → OwnI wA.heap.size W e [(sn : Int)] → OwnI wA.heap.size W k [iat G.sr sn] → OwnK wA.heap.size (W.alloc (.cells #[e, .int .i64 (iat G.we sn), k] 39)) (.slice (some ⟨W.heap.size, 0, none⟩) 1 1) [⟨[(sn : Int)], iat G.we sn, [iat G.sr sn]⟩]) := fun W e k hW he hk => ownK_one (x := ⟨[(sn : Int)], iat G.we sn, [iat G.sr sn]⟩) he hk (Nat.le_trans HCA.out hW.size)
  have HONE : Hid (∀ z : Int, OwnI wA.heap.size (w1.alloc (.cells #[.int .i64 z] 2)) (.slice (some ⟨w1.heap.size, 0, none⟩) 1 1) [z]) := fun z => ownI_one wA.heap.size w1 z HCA.out
  have HTWO : Hid (∀ o (z : Int), OwnI wA.heap.size ((w1.alloc o).alloc (.cells #[.int .i64 z] 2)) (.slice (some ⟨w1.heap.size + 1, 0, none⟩) 1 1) [z]) := fun o z => (ownI_two w1 o z).base (by have := HCA.out; omega)
  have HPX2 : Hid (∀ o o' e k, OwnI wA.heap.size ((w1.alloc o).alloc o') e [(sn : Int)] → OwnI wA.heap.size ((w1.alloc o).alloc o') k [iat G.sr sn] → OwnK wA.heap.size ((((w1.alloc o).alloc o').alloc (.cells #[e, .int .i64 (iat G.we sn), k] 39)).drew) (.slice (some ⟨w1.heap.size + 1 + 1, 0, none⟩) 1 1) [⟨[(sn : Int)], iat G.we sn, [iat G.sr sn]⟩]) := by
    intro o o' e k he hk
    have := HPX.out ((w1.alloc o).alloc o') e k (box2 _ _ _) he hk
    rw [size_alloc', size_alloc'] at this
    exact this.next (Nx.refl _).drew
  clear hc5 hc6
  go_upto_region 6 with fail
  go_cut [8] from 19 (fun s8 wc => Hid (OwnK wA.heap.size wc s8 [⟨[(sn : Int)], iat G.we sn, [iat G.sr sn]⟩]) ∧ Hid (Nx w1 wc))
  case first =>
    go_region_held3 (fun w' => w'.cell? ⟨w.heap.size, 5, none⟩ = some (.slice (some ⟨b5, o5, none⟩) G.sr.length c5) ∧ w'.cell? ⟨w.heap.size, 6, none⟩ = some (.slice (some ⟨b6, o6, none⟩) G.we.length c6) ∧ w'.cell? ⟨b5, o5 + sn, none⟩ = some (.int .i64 (iat G.sr sn)) ∧ w'.cell? ⟨b6, o6 + sn, none⟩ = some (.int .i64 (iat G.we sn))) (first | (go_keep; done) | exact ⟨cellq ((box2 w1 _ _).alloc _) k5, cellq ((box2 w1 _ _).alloc _) k6, cellq ((box2 w1 _ _).alloc _) x5, cellq ((box2 w1 _ _).alloc _) x6⟩ | exact cellq ((box2 w1 _ _).alloc _) k5 | exact cellq ((box2 w1 _ _).alloc _) k6 | exact cellq ((box2 w1 _ _).alloc _) x5 | exact cellq ((box2 w1 _ _).alloc _) x6) (fail)
    all_goals go_wp2
    all_goals go_meet
    · exact ⟨HPX2.out _ _ _ _ ((HONE.out _).next (box1 _ _)) (HTWO.out _ _), ((box2 _ _ _).alloc _).drew⟩
    · exact ⟨HPX2.out _ _ _ _ (HTWO.out _ _) ((HONE.out _).next (box1 _ _)), ((box2 _ _ _).alloc _).drew⟩
  case rest =>
  obtain ⟨HF1, HXc⟩ := hcut
  have HSR : Hid (iat G.sr sn = (stG G sn : Int)) := HST.out.2.1
  have HEO : Hid (eoG G (stG G sn) = sn) := HST.out.2.2
  have HF2 : Hid (OwnK wA.heap.size wc u8 [⟨[eoG G (stG G sn)], iat G.we sn, [((stG G sn : Nat) : Int)]⟩]) := by unfold Hid; rw [HEO.out, ← HSR.out]; exact HF1.out
  have HXAc : Hid (Nx wA wc) := HXA1.out.trans HXc.out
  have HXwc : Hid (Nx w wc) := HXA.out.trans HXAc.out
  clear HF1 HPX HPX2 HONE HTWO ne5 ne6 nx5 nx6 x5 x6 k0 k1 k2 k3 k4 k5 k6 HXc
  obtain ⟨fa, fc, hfs⟩ := HF2.out.slice
  rw [List.length_singleton] at hfs
  subst hfs
  have HCc : Hid (wA.heap.size ≤ wc.heap.size) := HXAc.out.size
  have HFL : Hid (∀ g, (Value.slice fa 1 fc).ownBlock = some g → g < wc.heap.size) := fun g e => (ownK_lt HF2.out g e).2
  have HFB : Hid (OwnK wA.heap.size (wc.alloc (.cells #[] 39)) (.slice fa 1 fc) [⟨[eoG G (stG G sn)], iat G.we sn, [((stG G sn : Nat) : Int)]⟩]) := HF2.out.next (box1 _ _)
  have HNB : Hid (OwnK wA.heap.size (wc.alloc (.cells #[] 39)) (.slice (some ⟨wc.heap.size, 0, none⟩) 0 0) []) := ownK_nil _ _ HCc.out
  have HAPN : Hid (∀ g, (Value.slice (some ⟨wc.heap.size, 0, none⟩) 0 0).ownBlock = some g → (Value.slice fa 1 fc).ownBlock ≠ some g) := fun g e e' => by
    have := HFL.out g e'
    simp [Value.ownBlock] at e
    omega
  go_wp2_with fail
  refine (l5See_any wA.heap.size _ _ [] [⟨[eoG G (stG G sn)], iat G.we sn, [((stG G sn : Nat) : Int)]⟩] _ (by exact HNB.out) (by exact HFB.out) kp_nil HAPN.out (by simp) (by rw [size_alloc']; have := HCc.out; omega)).mono ?_
  rintro e w3 ⟨sv, rfl, hS, hat, hon⟩
  have HS3 : Hid (OwnK wA.heap.size w3 sv (seeW [] [⟨[eoG G (stG G sn)], iat G.we sn, [((stG G sn : Nat) : Int)]⟩])) := hS
  have HF3 : Hid (OwnK wA.heap.size w3 (.slice fa 1 fc) [⟨[eoG G (stG G sn)], iat G.we sn, [((stG G sn : Nat) : Int)]⟩]) := HFB.out.onl hon HNB.out.wrow (fun g e e' => HAPN.out g e' e)
  have HX3 : Hid (Nx wA w3) := Below.trans (HXAc.out.alloc _) (hon.below (by rw [size_alloc']; have := HCc.out; omega) (fun g e => by simp [Value.ownBlock] at e; have := HCc.out; omega))
  have HSL : Hid (∀ g, sv.ownBlock = some g → wc.heap.size ≤ g ∧ g < w3.heap.size) := fun g e => ⟨by
    rcases hat g e with h | h
    · simp [Value.ownBlock] at h; omega
    · rw [size_alloc'] at h; omega, (ownK_lt hS g e).2⟩
  obtain ⟨sa, sc, hss⟩ := hS.slice
  generalize (seeW [] [⟨[eoG G (stG G sn)], iat G.we sn, [((stG G sn : Nat) : Int)]⟩]).length = sl at hss
  subst hss
  clear hS hat hon HFB HNB HAPN HF2
  go_wp2_with fail
  refine (l5Best_any wA.heap.size _ [⟨[eoG G (stG G sn)], iat G.we sn, [((stG G sn : Nat) : Int)]⟩] ⟨1, 0, []⟩ 1 0 none 0 0 t _ (by exact HF3.out) (hrt_nil _ _ _) (by intro x hx; simp at hx; subst hx; simp) (by simp)).mono ?_
  rintro e w4 ⟨⟨rc, rk, oa, on, oc, rfl, hR⟩, hx⟩
  have HST1 : Hid (ST G (stG G sn) (iat G.we sn) t wA.heap.size w4.heap.size 1 wA (w4.alloc (.cells #[.int .i64 rc, .int .i64 rk, .slice oa on oc] 27)) (.slice fa 1 fc) (.slice sa sl sc) (seeW [] [⟨[eoG G (stG G sn)], iat G.we sn, [((stG G sn : Nat) : Int)]⟩]) [⟨[eoG G (stG G sn)], iat G.we sn, [((stG G sn : Nat) : Int)]⟩] (bestW t ⟨1, 0, []⟩ [⟨[eoG G (stG G sn)], iat G.we sn, [((stG G sn : Nat) : Int)]⟩]) rc rk oa on oc) := by
    refine ⟨(HF3.out.next hx).next (box1 _ _), (HS3.out.next hx).next (box1 _ _), seeW_kp kp_nil, by simp [KP], LV.start t, fun g e e' => ?_, fun g e => ?_, ?_, hR.next (box1 _ _), (HX3.out.trans hx).alloc _⟩
    · have h1 := (HSL.out g e).1
      have h2 := HFL.out g e'
      omega
    · have h1 := (HSL.out g e).2
      have h2 := hx.size
      omega
    · show (w4.heap.push _)[w4.heap.size]? = _
      rw [Array.getElem?_push, if_pos rfl]
  have HXA5 : Hid (Nx wA (w4.alloc (.cells #[.int .i64 rc, .int .i64 rk, .slice oa on oc] 27))) := (HX3.out.trans hx).alloc _
  have k0 := (BG.out.next HXA5.out).cell (i := 0) rfl
  have k0 : (w4.alloc (.cells #[.int .i64 rc, .int .i64 rk, .slice oa on oc] 27)).cell? ⟨w.heap.size, 0, none⟩ = some (.slice a0 G.eo.length c0) := k0
  have HX4 : Hid (Nx wA w4) := HX3.out.trans hx
  clear hx hR HS3 HF3 HX3 HSL HFL
  go_upto_region 9 with fail
  generalize hn : G.eo.length = n at *
  have HN : Hid (G.eo.length = n) := hn
  clear hn
  have HHA : Hid (HG B wA (.slice a0 n c0) (.slice a1 G.so.length c1) (.slice a2 G.fi.length c2) (.slice a3 G.tt.length c3) (.slice a4 G.co.length c4) (.slice (some ⟨b5, o5, none⟩) G.sr.length c5) (.slice (some ⟨b6, o6, none⟩) G.we.length c6) G) := HH.out.next HXA.out
  have HSTL : Hid (stG G sn < n) := HST.out.1
  have HBC : Hid (wA.heap.size ≤ w4.heap.size) := by have := HX4.out.size; exact this
  go_wp2
  clear k0
  have e11 : (.int .i64 (n : Int) : Value) = .int .i64 ((n : Int) + 1 - ((1 : Nat) : Int)) := by congr 1; omega
  rw [e11]
  clear e11
  refine short_l1 (C := wA.heap.size) HVG HN HSTL HWE rfl HBC HHA BG _ _ _ _ _ _ _ _ _ _ _ _ _ _ _ _ _ _ _ _ _ _ _ _ _ _ _ _ _ _ _ _ _ _ _ _ _ _ _ _ _ _ _ _ _ _ _ _ _ _ _ _ _ _ _ _ _ _ _ _ _ _ _ _ _ _ _ _ _ _ _ _ _ _ _ _ _ _ _ _ _ _ _ _ _ _ _ _ _ _ _ _ _ _ _ _ _ _ _ _ _ _ _ _ _ _ _ _ _ _ _ _ _ _ _ _ _ _ _ _ _ _ _ _ _ _ _ _ _ _ _ _ _ _ _ _ _ _ _ _ _ _ _ _ _ _ _ _ _ _ _ _ _ _ _ _ _ _ _ _ _ ?_ _ _ 1 _ _ _ _ _ _ _ _ _ (Nat.le_refl _) (by omega) HST1.out
  intro fv sv r seen front best rc rk oa on oc y12 y13 y14 y15 y16 y17 y18 y68 y69 y70 y71 y72 y73 y74 y75 y76 y77 y78 y79 y80 y81 y82 y83 y84 y85 y86 y87 y88 y89 y90 y91 y92 y93 y94 y95 y96 y97 y98 y99 y100 y101 y102 y103 y104 y105 y106 y107 y108 y109 y110 y111 y112 y113 y114 y115 y116 y117 y118 y119 y120 y121 y122 y123 y124 y125 y126 y127 y128 y129 y130 y131 y132 y133 y134 y135 y136 y137 y138 y139 y140 y141 y142 y143 y144 y145 y146 y147 y148 y149 y150 y151 y152 y153 y154 y155 y156 y157 y158 y159 y160 y161 y162 y163 y164 wx hS hE
  have HS : Hid (ST G (stG G sn) (iat G.we sn) t wA.heap.size w4.heap.size r wA wx fv sv seen front best rc rk oa on oc) := hS
  have HRT : Hid (RouteIs G sn t best) := HOKR.out _ (HS.out.lv.stop hE)
  have BZr : Hid (Blk wx (w.heap.size + 1) #[.int .i64 0, .int .i64 0, .slice none 0 0]) := BZ.out.next HS.out.nx
  have y0 : wx.cell? ⟨w4.heap.size, 0, none⟩ = some (.int .i64 rc) := HS.out.bx.blk.cell (i := 0) rfl
  have y1 : wx.cell? ⟨w4.heap.size, 1, none⟩ = some (.int .i64 rk) := HS.out.bx.blk.cell (i := 1) rfl
  have y2 : wx.cell? ⟨w4.heap.size, 2, none⟩ = some (.slice oa on oc) := HS.out.bx.blk.cell (i := 2) rfl
  have x0 : wx.cell? ⟨w.heap.size + 1, 0, none⟩ = some (.int .i64 0) := BZr.out.cell (i := 0) rfl
  have x1 : wx.cell? ⟨w.heap.size + 1, 1, none⟩ = some (.int .i64 0) := BZr.out.cell (i := 1) rfl
  have x2 : wx.cell? ⟨w.heap.size + 1, 2, none⟩ = some (.slice none 0 0) := BZr.out.cell (i := 2) rfl
  have z0 := BZr.out.frozen 0
  have z1 := BZr.out.frozen 1
  have z2 := BZr.out.frozen 2
  clear hS hE HST1
  go_wp2
  have BR' := ((BZr.out.set 0 (.int .i64 rc)).set 1 (.int .i64 rk)).set 2 (.slice oa on oc)
  have q0 : _ = some (Value.int .i64 rc) := BR'.cell (i := 0) rfl
  have q1 : _ = some (Value.int .i64 rk) := BR'.cell (i := 1) rfl
  have q2 : _ = some (Value.slice oa on oc) := BR'.cell (i := 2) rfl
  clear x0 x1 x2 BR'
  refine bodyPost_ret (v := .agg #[.int .i64 rc, .int .i64 rk, .slice oa on oc]) (by simp [results, Try.results5, go_sem, q0, q1, q2]) rfl ?_
  have hlt : w.heap.size + 1 < wA.heap.size := by have := HSA.out; omega
  exact ⟨⟨rc, rk, oa, on, oc, best, rfl, HRT.out, HS.out.rt.1, HS.out.rt.2.1, OwnI.base (own_store (own_store (own_store HS.out.rt.2.2 hlt _ _) hlt _ _) hlt _ _) HXA.out.size⟩, Below.setCell (Below.setCell (Below.setCell (HXA.out.trans HS.out.nx) (Nat.le_succ _) _) (Nat.le_succ _) _) (Nat.le_succ _) _⟩
end Go.Proofs.Yticooljejlkbfaa
