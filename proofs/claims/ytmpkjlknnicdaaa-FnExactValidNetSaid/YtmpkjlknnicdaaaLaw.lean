import Derived.Test.YtmpkjlknnicdaaaSpD
import Derived.Test.YtmpkjlknnicdaaaNets
import Derived.Test.YtmpkjlknnicdaaaImO
namespace Go.Proofs.Ytmpkjlknnicdaaa
open Go.RowKit Go.Sort
set_option linter.unusedVariables false

set_option maxHeartbeats 2000000 in
theorem law_any (B : Nat) (v0 v1 v2 v3 : Value) (N : Nt) (w : World) (h0 : HNet B w v0 v1 v2 v3 N) :
    Calls Try.prog 3 #[.agg #[v0, v1, v2, v3, .int .i64 N.uturn]] w fun e w' => e = .returned (.bool true) ∧ Nx w w' := by
  go_enter Try.func3, Try.ntmps3
  go_wp2_with fail
  refine (szNet_any B _ _ _ _ N _ (by exact h0.next (box1 _ _))).mono ?_
  rintro e w1 ⟨⟨r, rfl, hr⟩, hx⟩
  have BA := (Blk.new w #[v0, v1, v2, v3, .int .i64 N.uturn] 27 _ rfl).next hx
  have HX : Hid (Nx w w1) := (box1 _ _).trans hx
  clear hx
  rcases hr with hr | ⟨hr, hsm, hws⟩
  · go_wp2
    go_ret
    exact ⟨rfl, HX.out⟩
  have HSM : Hid (Small N ∧ wsum N.ways N.ways.length ≤ 1048576) := ⟨hsm, hws⟩
  clear hsm hws
  have k0 := BA.cell (i := 0) rfl
  have k1 := BA.cell (i := 1) rfl
  have k2 := BA.cell (i := 2) rfl
  have k3 := BA.cell (i := 3) rfl
  have k4 := BA.cell (i := 4) rfl
  go_wp2_with fail
  refine (toNet_any B _ _ _ _ N _ (by exact h0.next HX.out) HSM.out.1).mono ?_
  rintro e w2 ⟨⟨a0, n0, c0, a1, n1, c1, a2, n2, c2, a3, n3, c3, rfl, hN⟩, hu⟩
  have hx := hu.nx
  clear hu
  have HX2 : Hid (Nx w w2) := HX.out.trans hx
  have BA2 := BA.next hx
  clear hx BA k0 k1 k2 k3 k4 HX
  go_wp2_with fail
  refine (specValid_any _ _ _ _ _ N _ hN HSM.out.2).mono ?_
  rintro e w3 ⟨rfl, hx⟩
  have HX3 : Hid (Nx w w3) := HX2.out.trans hx
  have BA3 := BA2.next hx
  clear hx BA2 HX2 hN
  have k0 := BA3.cell (i := 0) rfl
  have k1 := BA3.cell (i := 1) rfl
  have k2 := BA3.cell (i := 2) rfl
  have k3 := BA3.cell (i := 3) rfl
  have k4 := BA3.cell (i := 4) rfl
  go_wp2_with fail
  refine (toNet_any B _ _ _ _ N _ (by exact h0.next HX3.out) HSM.out.1).mono ?_
  rintro e w4 ⟨⟨p0, s0, t0, p1, s1, t1, p2, s2, t2, p3, s3, t3, rfl, hN⟩, hu⟩
  have hx := hu.nx
  clear hu
  have HX4 : Hid (Nx w w4) := HX3.out.trans hx
  have BA4 := BA3.next hx
  have HN4 : Hid (HNet w3.heap.size w4 (.slice p0 s0 t0) (.slice p1 s1 t1) (.slice p2 s2 t2) (.slice p3 s3 t3) N) := hN
  clear hx BA3 HX3 hN k0 k1 k2 k3 k4
  go_wp2_with fail
  have BX := Blk.new w4 #[.slice p0 s0 t0, .slice p1 s1 t1, .slice p2 s2 t2, .slice p3 s3 t3, .int .i64 N.uturn] 34 _ rfl
  have BA5 := BA4.alloc (.cells #[.slice p0 s0 t0, .slice p1 s1 t1, .slice p2 s2 t2, .slice p3 s3 t3, .int .i64 N.uturn] 34)
  refine (implValid_any _ _ _ _ _ N _ (by exact HN4.out.next (box1 _ _)) HSM.out.2).mono ?_
  rintro e w5 ⟨rfl, hx⟩
  rw [same_valid N]
  have HX5 : Hid (Nx w w5) := HX4.out.trans ((box1 _ _).trans hx)
  have HN5 : Hid (HNet w3.heap.size w5 (.slice p0 s0 t0) (.slice p1 s1 t1) (.slice p2 s2 t2) (.slice p3 s3 t3) N) := (HN4.out.next (box1 _ _)).next hx
  have BX5 := BX.next hx
  have BA6 := BA5.next hx
  have hd : (specValid N != specValid N) = false := by simp
  clear hx BX BA4 BA5 HX4 HN4
  have k0 := BA6.cell (i := 0) rfl
  have k1 := BA6.cell (i := 1) rfl
  have k2 := BA6.cell (i := 2) rfl
  have k3 := BA6.cell (i := 3) rfl
  have k4 := BA6.cell (i := 4) rfl
  have l0 := BX5.cell (i := 0) rfl
  have l1 := BX5.cell (i := 1) rfl
  have l2 := BX5.cell (i := 2) rfl
  have l3 := BX5.cell (i := 3) rfl
  have l4 := BX5.cell (i := 4) rfl
  have hlt5 := BX5.lt
  have BD := BX5.drew
  clear BX5 BA6
  go_wp2
  go_region_with (first
    | (go_at_call 7; refine (toNet_any B _ _ _ _ N _ (by exact h0.next HX5.out.drew) HSM.out.1).mono ?_; rintro e w6 ⟨⟨y0, i0, z0, y1, i1, z1, y2, i2, z2, y3, i3, z3, rfl, hN6⟩, hu6⟩; have hx6 := hu6.nx; have BE := BD.next hx6; have q0 := BE.cell (i := 0) rfl; have q1 := BE.cell (i := 1) rfl; have q2 := BE.cell (i := 2) rfl; have q3 := BE.cell (i := 3) rfl; have q4 := BE.cell (i := 4) rfl)
    | (go_at_call 9; refine (eqNet_same _ _ _ _ _ _ _ _ _ _ N _ (by exact (HN5.out.next (Nx.refl _).drew).next hx6) (by exact hN6)).mono ?_; rintro e w7 ⟨rfl, hx7⟩))
  all_goals go_wp2
  all_goals
    go_ret
    exact ⟨rfl, (HX5.out.drew.trans hx6).trans hx7⟩
end Go.Proofs.Ytmpkjlknnicdaaa
