import Derived.Test.YtmpkjlknnicdaaaRoS
import Derived.Test.YtmpkjlknnicdaaaRoP
import Derived.Test.YtmpkjlknnicdaaaMkD
import Derived.Test.YtmpkjlknnicdaaaNets
import Derived.Test.YtmpkjlknnicdaaaImO
namespace Go.Proofs.Ytmpkjlknnicdaaa
open Go.RowKit
set_option linter.unusedVariables false
set_option maxRecDepth 100000

theorem Mk.below {B C : Nat} {w0 w1 w : World} (h : Mk B w0 w1 w) (hC : C ≤ B) (hs : C ≤ w1.heap.size) : Below C w1 w :=
  ⟨h.os, h.tape, h.output, h.size, fun k hk => h.same k (by omega) (by omega)⟩
theorem HRoad.slices {B : Nat} {w : World} {v0 v1 v2 v3 : Value} {R : Rd} (h : HRoad B w v0 v1 v2 v3 R) : ∃ a0 n0 c0 a1 n1 c1 a2 n2 c2 a3 n3 c3, v0 = .slice a0 n0 c0 ∧ v1 = .slice a1 n1 c1 ∧ v2 = .slice a2 n2 c2 ∧ v3 = .slice a3 n3 c3 := by
  obtain ⟨⟨a0, c0, e0, _⟩, ⟨a1, c1, e1, _⟩, ⟨a2, c2, e2, _⟩, ⟨a3, c3, e3, _⟩⟩ := h
  exact ⟨a0, _, c0, a1, _, c1, a2, _, c2, a3, _, c3, e0, e1, e2, e3⟩
/-- rows from C on stand where the blocks from C on stand -/
theorem RoadOwn.keepC {C : Nat} {w w' : World} {v0 v1 v2 v3 : Value} {R : Rd} (h : RoadOwn C w v0 v1 v2 v3 R) (k : ∀ b, C ≤ b → b < w.heap.size → w'.heap[b]? = w.heap[b]?) : RoadOwn C w' v0 v1 v2 v3 R := by
  have ko : ∀ (B : Nat), C ≤ B → ∀ ty sz v n xs, w.ownsRow B ty sz v n xs → w'.ownsRow B ty sz v n xs := by
    intro B hB ty sz v n xs ⟨h1, h2⟩
    refine ⟨h1, ?_⟩
    rcases h2 with h2 | ⟨g, cap, cur, hv, hg, hh, r⟩
    · exact Or.inl h2
    · exact Or.inr ⟨g, cap, cur, hv, hg, (k g (by omega) (Array.getElem?_eq_some_iff.1 hh).1).trans hh, r⟩
  rcases h with h | ⟨gF, gO, cF, cO, e2, e3, h1, h2, h3, h4, h5, h6, h7, h8, h9⟩
  · exact Or.inl h
  · exact Or.inr ⟨gF, gO, cF, cO, e2, e3, h1, ko _ (Nat.le_refl _) _ _ _ _ _ h2, h3, h4.of_block (k gF h7 h4.lt), h5.of_block (k gO (by omega) h5.lt), ko _ (by omega) _ _ _ _ _ h6, h7, h8, h9⟩
theorem road_len (N : Nt) : (roadOf N).nodes.length ≤ 1048576 ∧ (roadOf N).edges.length ≤ 1048576 ∧ (roadOf N).first.length ≤ 1048576 ∧ (roadOf N).out.length ≤ 1048576 := by
  cases hv : implValid N
  · simp [roadOf, hv]
  · have hr := road_in hv
    have e0 : roadOf N = roadY N := by simp [roadOf, hv]
    have l2 := out_len hr
    have hm : mN N ≤ 4000 := by unfold mN; rw [st_ed]; exact hr.ed
    have c0 := hr.c0
    have l1 : (roadY N).first.length = N.nodes.length + 1 := by simp [roadY]
    have l3 : (roadY N).edges.length = mN N := E1_len N
    have l4 : (roadY N).nodes.length = N.nodes.length := rfl
    rw [e0]
    omega

set_option maxHeartbeats 8000000 in
theorem roadlaw_any (B : Nat) (v0 v1 v2 v3 : Value) (N : Nt) (w : World) (h0 : HNet B w v0 v1 v2 v3 N) :
    Calls Try.prog 4 #[.agg #[v0, v1, v2, v3, .int .i64 N.uturn]] w fun e w' => e = .returned (.bool true) ∧ Nx w w' := by
  have HLN : Hid ((roadOf N).nodes.length ≤ 1048576 ∧ (roadOf N).edges.length ≤ 1048576 ∧ (roadOf N).first.length ≤ 1048576 ∧ (roadOf N).out.length ≤ 1048576) := road_len N
  generalize hR : roadOf N = R at HLN
  have HRE : Hid (roadOf N = R) := hR
  clear hR
  go_enter Try.func4, Try.ntmps4
  go_wp2_with fail
  refine (szNet_any B _ _ _ _ N _ (by exact h0.next (box1 _ _))).mono ?_
  rintro e w1 ⟨⟨r, rfl, hr⟩, hx⟩
  have BA := (Blk.new w #[v0, v1, v2, v3, .int .i64 N.uturn] 27 _ rfl).next hx
  have HX : Hid (Nx w w1) := (box1 _ _).trans hx
  clear hx
  rcases hr with hr | ⟨hr, hsm, hws⟩
  · go_wp2
    go_ret
    exact ⟨rfl, HX.out⟩
  have HSM : Hid (Small N ∧ wsum N.ways N.ways.length ≤ 1048576) := ⟨hsm, hws⟩
  clear hsm hws
  have k0 := BA.cell (i := 0) rfl
  have k1 := BA.cell (i := 1) rfl
  have k2 := BA.cell (i := 2) rfl
  have k3 := BA.cell (i := 3) rfl
  have k4 := BA.cell (i := 4) rfl
  go_wp2_with fail
  refine (toNet_any B _ _ _ _ N _ (by exact h0.next HX.out) HSM.out.1).mono ?_
  rintro e w2 ⟨⟨a0, n0, c0, a1, n1, c1, a2, n2, c2, a3, n3, c3, rfl, hN⟩, hu⟩
  have hx := hu.nx
  have HX2 : Hid (Nx w w2) := HX.out.trans hx
  have BA2 := BA.next hx
  clear hx hu BA k0 k1 k2 k3 k4 HX
  go_wp2_with fail
  refine (specRoad_any _ _ _ _ _ N _ hN HSM.out.2).mono ?_
  rintro e w3 ⟨⟨u0, u1, u2, u3, rfl, hu⟩, hx⟩
  rw [HRE.out] at hu
  have HU : Hid (HRoad w2.heap.size w3 u0 u1 u2 u3 R) := hu
  obtain ⟨b0, m0, d0, b1, m1, d1, b2, m2, d2, b3, m3, d3, rfl, rfl, rfl, rfl⟩ := hu.slices
  have HX3 : Hid (Nx w w3) := HX2.out.trans hx
  have BA3 := BA2.next hx
  clear hx hu BA2 HX2 hN
  have k0 := BA3.cell (i := 0) rfl
  have k1 := BA3.cell (i := 1) rfl
  have k2 := BA3.cell (i := 2) rfl
  have k3 := BA3.cell (i := 3) rfl
  have k4 := BA3.cell (i := 4) rfl
  have BW3 := Blk.new w3 #[.slice b0 m0 d0, .slice b1 m1 d1, .slice b2 m2 d2, .slice b3 m3 d3] 40 _ rfl
  have BA3' := BA3.alloc (.cells #[.slice b0 m0 d0, .slice b1 m1 d1, .slice b2 m2 d2, .slice b3 m3 d3] 40)
  have hz3 := BA3.lt
  go_wp2_with fail
  refine (toNet_any B _ _ _ _ N _ (by exact h0.next (HX3.out.trans (box1 _ _))) HSM.out.1).mono ?_
  rintro e w4 ⟨⟨p0, s0, t0, p1, s1, t1, p2, s2, t2, p3, s3, t3, rfl, hN⟩, hu⟩
  have hx := hu.nx
  have HY4 : Hid (Nx (w3.alloc (.cells #[.slice b0 m0 d0, .slice b1 m1 d1, .slice b2 m2 d2, .slice b3 m3 d3] 40)) w4) := hx
  have HOP : Hid (∀ b, w3.heap.size + 1 ≤ b → b < w4.heap.size → Opn w4 b) := fun b hb => hu.op b (by simpa using hb)
  have HN4 : Hid (HNet (w3.heap.size + 1) w4 (.slice p0 s0 t0) (.slice p1 s1 t1) (.slice p2 s2 t2) (.slice p3 s3 t3) N) := by
    unfold Hid
    simpa using hN
  have HZ4 : Hid (w3.heap.size + 1 ≤ w4.heap.size) := by have := hx.size; unfold Hid; simpa using this
  have HX4 : Hid (Nx w w4) := (HX3.out.trans (box1 _ _)).trans hx
  have HU4 : Hid (HRoad w2.heap.size w4 (.slice b0 m0 d0) (.slice b1 m1 d1) (.slice b2 m2 d2) (.slice b3 m3 d3) R) := (HU.out.next (box1 _ _)).next hx
  have BW4 := BW3.next hx
  have BA4 := BA3'.next hx
  have HBW : Hid (Blk w4 w3.heap.size #[.slice b0 m0 d0, .slice b1 m1 d1, .slice b2 m2 d2, .slice b3 m3 d3]) := BW4
  have HBA : Hid (Blk w4 w.heap.size #[v0, v1, v2, v3, .int .i64 N.uturn]) := BA4
  have HY34 : Hid (Nx w3 w4) := (box1 _ _).trans hx
  clear hx hu hN k0 k1 k2 k3 k4 BA3 BA3' BW3 HY4
  go_wp2_with fail
  have BX := Blk.new w4 #[.slice p0 s0 t0, .slice p1 s1 t1, .slice p2 s2 t2, .slice p3 s3 t3, .int .i64 N.uturn] 34 _ rfl
  refine (implRoad_any _ _ _ _ _ N _ (by exact HN4.out.next (box1 _ _)) HSM.out.2).mono ?_
  rintro e w5 ⟨⟨g0, g1, g2, g3, rfl, hg⟩, hx⟩
  rw [HRE.out] at hg
  have HG5 : Hid (RoadOwn (w4.heap.size + 1) w5 g0 g1 g2 g3 R) := by unfold Hid; simpa using hg
  obtain ⟨x0, y0, z0, x1, y1, z1, x2, y2, z2, x3, y3, z3, rfl, rfl, rfl, rfl⟩ := hg.held.slices
  have HY5 : Hid (Nx w4 w5) := (box1 _ _).trans hx
  have BX5 := BX.next hx
  have BA5 := HBA.out.next HY5.out
  have BW5 := HBW.out.next HY5.out
  have HX5 : Hid (Nx w w5) := HX4.out.trans HY5.out
  clear hx hg BX BA4 BW4
  have BG := Blk.new w5 #[.slice x0 y0 z0, .slice x1 y1 z1, .slice x2 y2 z2, .slice x3 y3 z3] 40 _ rfl
  have BW5' := BW5.alloc (.cells #[.slice x0 y0 z0, .slice x1 y1 z1, .slice x2 y2 z2, .slice x3 y3 z3] 40)
  have BX5' := BX5.alloc (.cells #[.slice x0 y0 z0, .slice x1 y1 z1, .slice x2 y2 z2, .slice x3 y3 z3] 40)
  have BA5' := BA5.alloc (.cells #[.slice x0 y0 z0, .slice x1 y1 z1, .slice x2 y2 z2, .slice x3 y3 z3] 40)
  have q0 := BW5'.cell (i := 0) rfl
  have q1 := BW5'.cell (i := 1) rfl
  have q2 := BW5'.cell (i := 2) rfl
  have q3 := BW5'.cell (i := 3) rfl
  have hzw := BW5.lt
  go_wp2_with fail
  refine (eqRoad_same (w4.heap.size + 1) w2.heap.size _ _ _ _ _ _ _ _ R _ (by exact HG5.out.held.next (box1 _ _)) (by exact (HU4.out.next HY5.out).next (box1 _ _))).mono ?_
  rintro e w6 ⟨rfl, hx⟩
  have HY6 : Hid (Nx w4 w6) := (HY5.out.trans (box1 _ _)).trans hx
  have HG6 : Hid (RoadOwn (w4.heap.size + 1) w6 (.slice x0 y0 z0) (.slice x1 y1 z1) (.slice x2 y2 z2) (.slice x3 y3 z3) R) := HG5.out.keepC fun b _ hb => (((box1 _ _).trans hx).block b hb)
  have BX6 := BX5'.next hx
  have BA6 := BA5'.next hx
  have BG6 := BG.next hx
  have HGL : Hid (∀ v : Value, v = .slice x0 y0 z0 ∨ v = .slice x1 y1 z1 ∨ v = .slice x2 y2 z2 ∨ v = .slice x3 y3 z3 → ∀ g, v.ownBlock = some g → g < w5.heap.size) := by
    obtain ⟨F0, V, F2, F3, f⟩ := HG5.out.four
    intro v hv g hg
    rcases hv with rfl | rfl | rfl | rfl
    · exact (f.b0 g hg).2
    · exact (f.b1 g hg).2
    · exact (f.b2 g hg).2
    · exact (f.b3 g hg).2
  have HZ5 : Hid (w4.heap.size + 1 ≤ w5.heap.size) := by have := BX5.lt; unfold Hid; omega
  clear hx BG BW5' BX5' BA5' BW5 BX5 BA5 q0 q1 q2 q3 HG5 hzw
  have k0 := BA6.cell (i := 0) rfl
  have k1 := BA6.cell (i := 1) rfl
  have k2 := BA6.cell (i := 2) rfl
  have k3 := BA6.cell (i := 3) rfl
  have k4 := BA6.cell (i := 4) rfl
  have l0 := BX6.cell (i := 0) rfl
  have l1 := BX6.cell (i := 1) rfl
  have l2 := BX6.cell (i := 2) rfl
  have l3 := BX6.cell (i := 3) rfl
  have l4 := BX6.cell (i := 4) rfl
  have BD := BX6.drew
  have BGD := BG6.drew
  clear BX6 BA6 BG6
  go_wp2
  have HXD : Hid (Nx w w6.drew) := (HX4.out.trans HY6.out).drew
  have HND : Hid (HNet (w3.heap.size + 1) w6.drew (.slice p0 s0 t0) (.slice p1 s1 t1) (.slice p2 s2 t2) (.slice p3 s3 t3) N) := HN4.out.next HY6.out.drew
  go_region_with (first
    | (go_at_call 7; refine (toNet_any B _ _ _ _ N _ (by exact h0.next HXD.out) HSM.out.1).mono ?_; rintro e w7 ⟨⟨y0', i0, z0', y1', i1, z1', y2', i2, z2', y3', i3, z3', rfl, hN6⟩, hu7⟩; have BE := BD.next hu7.nx; have q0 := BE.cell (i := 0) rfl; have q1 := BE.cell (i := 1) rfl; have q2 := BE.cell (i := 2) rfl; have q3 := BE.cell (i := 3) rfl; have q4 := BE.cell (i := 4) rfl)
    | (go_at_call 9; refine (eqNet_same _ _ _ _ _ _ _ _ _ _ N _ (by exact HND.out.next hu7.nx) (by exact hN6)).mono ?_; rintro e w8 ⟨rfl, hx8⟩))
  all_goals
    have HD8 : Hid (Nx w6.drew w8) := hu7.nx.trans hx8
    have HY8 : Hid (Nx w4 w8) := HY6.out.drew.trans HD8.out
    have HG8 : Hid (RoadOwn (w4.heap.size + 1) w8 (.slice x0 y0 z0) (.slice x1 y1 z1) (.slice x2 y2 z2) (.slice x3 y3 z3) R) := HG6.out.keepC fun b _ hb => HD8.out.block b hb
    have BX8 := BD.next HD8.out
    have BG8 := BGD.next HD8.out
    have HM8 : Hid (Mk (w3.heap.size + 1) w4 w8 w8) := Mk.start HY8.out HOP.out
    clear hx8 hu7 hN6 BE BD BGD q0 q1 q2 q3 q4 k0 k1 k2 k3 k4 l0 l1 l2 l3 l4 HND HXD HD8
    have l0 := BX8.cell (i := 0) rfl
    have l1 := BX8.cell (i := 1) rfl
    have l2 := BX8.cell (i := 2) rfl
    have l3 := BX8.cell (i := 3) rfl
    have l4 := BX8.cell (i := 4) rfl
    go_wp2_with fail
    refine (markNet_any (w3.heap.size + 1) w4 w8 _ _ _ _ N _ HN4.out HM8.out HSM.out.1).mono ?_
    rintro e w9 ⟨⟨k9, rfl, hk9⟩, hm⟩
    have hk9' : ¬ k9 < 0 := by omega
    have hz8 : w4.heap.size ≤ w8.heap.size := HY8.out.size
    have HL9 : Hid (Below (w3.heap.size + 1) w4 w9) := Below.trans (Below.mono HY8.out HZ4.out) (hm.below (Nat.le_refl _) (by have := HZ4.out; omega))
    have HG9 : Hid (RoadOwn (w4.heap.size + 1) w9 (.slice x0 y0 z0) (.slice x1 y1 z1) (.slice x2 y2 z2) (.slice x3 y3 z3) R) := HG8.out.keepC fun b hb hs => hm.same b hs (by omega)
    have BG9 : Blk w9 w5.heap.size #[.slice x0 y0 z0, .slice x1 y1 z1, .slice x2 y2 z2, .slice x3 y3 z3] := by
      have hl := BG8.lt
      obtain ⟨t, hb⟩ := BG8
      exact ⟨t, (hm.same _ hl (by have := HZ5.out; omega)).trans hb⟩
    have lowBlk : ∀ b cs, b < w3.heap.size + 1 → Blk w4 b cs → Blk w9 b cs := fun b cs hb hB => by
      obtain ⟨t, h⟩ := hB
      exact ⟨t, (HL9.out.block b hb).trans h⟩
    have BW9 := lowBlk _ _ (Nat.lt_succ_self _) HBW.out
    have HW9 : Hid (Nx w3 w9) := Below.trans HY34.out (Below.mono HL9.out (Nat.le_succ _))
    have HZ9 : Hid (w8.heap.size ≤ w9.heap.size) := hm.size
    clear hm BX8 l0 l1 l2 l3 l4 HM8 HG8 BG8 lowBlk
    have r0 := BG9.cell (i := 0) rfl
    have r1 := BG9.cell (i := 1) rfl
    have r2 := BG9.cell (i := 2) rfl
    have r3 := BG9.cell (i := 3) rfl
    have q0 := BW9.cell (i := 0) rfl
    have q1 := BW9.cell (i := 1) rfl
    have q2 := BW9.cell (i := 2) rfl
    have q3 := BW9.cell (i := 3) rfl
    go_wp2_with fail
    refine (eqRoad_same (w4.heap.size + 1) w2.heap.size _ _ _ _ _ _ _ _ R _ (by exact HG9.out.held) (by exact HU.out.next HW9.out)).mono ?_
    rintro e w10 ⟨rfl, hx⟩
    have HG10 : Hid (RoadOwn (w4.heap.size + 1) w10 (.slice x0 y0 z0) (.slice x1 y1 z1) (.slice x2 y2 z2) (.slice x3 y3 z3) R) := HG9.out.keepC fun b _ hb => hx.block b hb
    have BG10 := BG9.next hx
    have HW10 : Hid (Nx w3 w10) := HW9.out.trans hx
    have HL10 : Hid (Below (w3.heap.size + 1) w4 w10) := Below.trans HL9.out (Below.mono hx (by have := HZ4.out; have := HL9.out.size; omega))
    clear hx HG9 BG9 BW9 HW9 HL9 r0 r1 r2 r3 q0 q1 q2 q3
    have r0 := BG10.cell (i := 0) rfl
    have r1 := BG10.cell (i := 1) rfl
    have r2 := BG10.cell (i := 2) rfl
    have r3 := BG10.cell (i := 3) rfl
    obtain ⟨F0, V, F2, F3, hf⟩ := HG10.out.four
    have hz10 : w4.heap.size + 1 ≤ w10.heap.size := by have := BG10.lt; have := HZ5.out; omega
    have HF : Hid (Four (w4.heap.size + 1) w10 (.slice x0 y0 z0) (.slice x1 y1 z1) (.slice x2 y2 z2) (.slice x3 y3 z3) R.nodes.length R.edges.length R.first.length R.out.length F0 V F2 F3) := hf
    clear hf
    go_wp2_with fail
    refine (markRoad_any (w4.heap.size + 1) _ _ _ _ _ _ _ _ F0 V F2 F3 _ HF.out hz10 HLN.out.1 HLN.out.2.1 HLN.out.2.2.1 HLN.out.2.2.2).mono ?_
    rintro e w11 ⟨rfl, ⟨s0', s1', s2', s3'⟩, hbl, hke⟩
    have HS0 : Hid (SI w11 (.slice x0 y0 z0) R.nodes.length (fun i => 1 + i)) := s0'
    have HS1 : Hid (SE w11 (.slice x1 y1 z1) R.edges.length (fun i q => mV (1 + R.nodes.length + 7 * i) q)) := s1'
    have HS2 : Hid (SI w11 (.slice x2 y2 z2) R.first.length (fun i => 1 + R.nodes.length + 7 * R.edges.length + i)) := s2'
    have HS3 : Hid (SI w11 (.slice x3 y3 z3) R.out.length (fun i => 1 + R.nodes.length + 7 * R.edges.length + R.first.length + i)) := s3'
    have BG11 : Blk w11 w5.heap.size #[.slice x0 y0 z0, .slice x1 y1 z1, .slice x2 y2 z2, .slice x3 y3 z3] := by
      have hl := BG10.lt
      obtain ⟨t, hb⟩ := BG10
      exact ⟨t, (hke _ hl (fun e => Nat.lt_irrefl _ (HGL.out _ (by simp) _ e)) (fun e => Nat.lt_irrefl _ (HGL.out _ (by simp) _ e)) (fun e => Nat.lt_irrefl _ (HGL.out _ (by simp) _ e)) (fun e => Nat.lt_irrefl _ (HGL.out _ (by simp) _ e))).trans hb⟩
    have HL11 : Hid (Below (w3.heap.size + 1) w4 w11) := Below.trans HL10.out (Below.mono hbl (by have := HZ4.out; omega))
    have HZ11 : Hid (w5.heap.size ≤ w11.heap.size) := Nat.le_of_lt BG11.lt
    clear s0' s1' s2' s3' hbl hke HF BG10 r0 r1 r2 r3 HG10 HW10 HL10
    have r0 := BG11.cell (i := 0) rfl
    have r1 := BG11.cell (i := 1) rfl
    have r2 := BG11.cell (i := 2) rfl
    have r3 := BG11.cell (i := 3) rfl
    go_wp2_with fail
    refine (heldRoad_any _ _ _ _ R.nodes.length R.edges.length R.first.length R.out.length _ HS0.out HS1.out HS2.out HS3.out (fun v hv g hg => Nat.lt_of_lt_of_le (HGL.out v hv g hg) HZ11.out) HLN.out.1 HLN.out.2.1 HLN.out.2.2.1 HLN.out.2.2.2).mono ?_
    rintro e w12 ⟨rfl, hx⟩
    have HL12 : Hid (Below (w3.heap.size + 1) w4 w12) := Below.trans HL11.out (Below.mono hx (by have := HZ4.out; have := HL11.out.size; omega))
    clear hx BG11 r0 r1 r2 r3 HS0 HS1 HS2 HS3 HL11
    have HXW : Hid (Nx w3 w12) := Below.trans HY34.out (Below.mono HL12.out (Nat.le_succ _))
    have HX12 : Hid (Nx w w12) := HX3.out.trans HXW.out
    have hzb : w.heap.size < w3.heap.size + 1 := by omega
    have BA12 : Blk w12 w.heap.size #[v0, v1, v2, v3, .int .i64 N.uturn] := by
      obtain ⟨t, hb⟩ := HBA.out
      exact ⟨t, (HL12.out.block _ hzb).trans hb⟩
    have BW12 : Blk w12 w3.heap.size #[.slice b0 m0 d0, .slice b1 m1 d1, .slice b2 m2 d2, .slice b3 m3 d3] := by
      obtain ⟨t, hb⟩ := HBW.out
      exact ⟨t, (HL12.out.block _ (Nat.lt_succ_self _)).trans hb⟩
    have k0 := BA12.cell (i := 0) rfl
    have k1 := BA12.cell (i := 1) rfl
    have k2 := BA12.cell (i := 2) rfl
    have k3 := BA12.cell (i := 3) rfl
    have k4 := BA12.cell (i := 4) rfl
    have hq : ((1 + (R.nodes.length : Int) + 7 * (R.edges.length : Int) + (R.first.length : Int) + (R.out.length : Int)) != 1 + (R.nodes.length : Int) + 7 * (R.edges.length : Int) + (R.first.length : Int) + (R.out.length : Int)) = false := by simp
    have hq2 : ¬ (1 + (R.nodes.length : Int) + 7 * (R.edges.length : Int) + (R.first.length : Int) + (R.out.length : Int) < 0) := by omega
    go_wp2_with fail
    refine (toNet_any B _ _ _ _ N _ (by exact h0.next HX12.out) HSM.out.1).mono ?_
    rintro e w13 ⟨⟨f0, i0', j0', f1, i1', j1', f2, i2', j2', f3, i3', j3', rfl, hN7⟩, hu8⟩
    have HXW13 : Hid (Nx w3 w13) := HXW.out.trans hu8.nx
    have BW13 := BW12.next hu8.nx
    clear hu8 BA12 BW12 k0 k1 k2 k3 k4
    go_wp2_with fail
    refine (implRoad_any _ _ _ _ _ N _ (by exact hN7) HSM.out.2).mono ?_
    rintro e w14 ⟨⟨h0', h1', h2', h3', rfl, hg2⟩, hx⟩
    rw [HRE.out] at hg2
    have HH : Hid (HRoad w13.heap.size w14 h0' h1' h2' h3' R) := hg2.held
    obtain ⟨x0', y0'', z0'', x1', y1'', z1'', x2', y2'', z2'', x3', y3'', z3'', rfl, rfl, rfl, rfl⟩ := hg2.held.slices
    have HXW14 : Hid (Nx w3 w14) := HXW13.out.trans hx
    have BW14 := BW13.next hx
    clear hx hN7 hg2 BW13
    have q0 := BW14.cell (i := 0) rfl
    have q1 := BW14.cell (i := 1) rfl
    have q2 := BW14.cell (i := 2) rfl
    have q3 := BW14.cell (i := 3) rfl
    have hzw := BW14.lt
    go_wp2_with fail
    refine (eqRoad_same w13.heap.size w2.heap.size _ _ _ _ _ _ _ _ R _ (by exact HH.out.next (box1 _ _)) (by exact (HU.out.next HXW14.out).next (box1 _ _))).mono ?_
    rintro e w15 ⟨rfl, hx⟩
    go_wp2
    go_ret
    exact ⟨rfl, HX3.out.trans ((HXW14.out.trans (box1 _ _)).trans hx)⟩
end Go.Proofs.Ytmpkjlknnicdaaa
