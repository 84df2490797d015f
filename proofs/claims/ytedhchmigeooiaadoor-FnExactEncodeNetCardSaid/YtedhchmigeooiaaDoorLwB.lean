import Derived.Test.YtedhchmigeooiaaDoorEnN
import Derived.Test.YtedhchmigeooiaaDoorMkA
import Derived.Test.YtedhchmigeooiaaDoorLwA
import Derived.Test.YtedhchmigeooiaaDoorNets
import Derived.Test.YtedhchmigeooiaaDoorImO
namespace Go.Proofs.YtedhchmigeooiaaDoor
open Go.RowKit Go.Sort
set_option linter.unusedVariables false

theorem Tab.up {B B' : Nat} {w : World} (h : Tab B w) (hB : B ≤ B') : Tab B' w := fun w' h' => h w' (Below.mono h' hB)
theorem Mk.below {B C : Nat} {w0 w1 w : World} (h : Mk B w0 w1 w) (hC : C ≤ B) (hs : C ≤ w1.heap.size) : Below C w1 w :=
  ⟨h.os, h.tape, h.output, h.size, fun k hk => h.same k (by omega) (by omega)⟩
theorem Own.mk {B C : Nat} {w0 w1 w : World} {v : Value} {bs : List UInt8} (h : Own C w1 v bs) (k : Mk B w0 w1 w) (hC : w0.heap.size ≤ C) : Own C w v bs := by
  obtain ⟨h1, h2⟩ := h
  refine ⟨h1, ?_⟩
  rcases h2 with h2 | ⟨g, cap, cur, hv, hg, hh, r⟩
  · exact Or.inl h2
  · exact Or.inr ⟨g, cap, cur, hv, hg, (k.same g (Array.getElem?_eq_some_iff.1 hh).1 (by omega)).trans hh, r⟩
theorem encTx_len (N : Nt) : (encTx N).length ≤ 1048576 := by
  cases hv : implValid N
  · rw [encTx_no hv]; simp
  · have h := net_in hv
    rw [encTx_yes hv]
    unfold netTx
    have h1 := t4_len h N.turns.length (Nat.le_refl _)
    have h2 := h.c3
    omega

set_option maxHeartbeats 4000000 in
theorem law_any (B : Nat) (v0 v1 v2 v3 : Value) (N : Nt) (w : World) (h0 : HNet B w v0 v1 v2 v3 N) (ht : Tab w.heap.size w) :
    Calls Tryd.prog 3 #[.agg #[v0, v1, v2, v3, .int .i64 N.uturn]] w fun e w' => e = .returned (.bool true) ∧ Nx w w' := by
  have HT : Hid (Tab w.heap.size w) := ht
  have HTL : Hid ((encTx N).length ≤ 1048576) := encTx_len N
  clear ht
  generalize hT : encTx N = T at HTL
  have HTE : Hid (encTx N = T) := hT
  clear hT
  go_enter Tryd.func3, Tryd.ntmps3
  go_wp2_with fail
  refine (szNet_any B _ _ _ _ N _ (by exact h0.next (box1 _ _))).mono ?_
  rintro e w1 ⟨⟨r, rfl, hr⟩, hx⟩
  have BA := (Blk.new w #[v0, v1, v2, v3, .int .i64 N.uturn] 27 _ rfl).next hx
  have HX : Hid (Nx w w1) := (box1 _ _).trans hx
  clear hx
  rcases hr with hr | ⟨hr, hsm, hws⟩
  · go_wp2
    go_ret
    exact ⟨rfl, HX.out⟩
  have HSM : Hid (Small N ∧ wsum N.ways N.ways.length ≤ 1048576) := ⟨hsm, hws⟩
  clear hsm hws
  have k0 := BA.cell (i := 0) rfl
  have k1 := BA.cell (i := 1) rfl
  have k2 := BA.cell (i := 2) rfl
  have k3 := BA.cell (i := 3) rfl
  have k4 := BA.cell (i := 4) rfl
  go_wp2_with fail
  refine (toNet_any B _ _ _ _ N _ (by exact h0.next HX.out) HSM.out.1).mono ?_
  rintro e w2 ⟨⟨a0, n0, c0, a1, n1, c1, a2, n2, c2, a3, n3, c3, rfl, hN⟩, hu⟩
  have hx := hu.nx
  have HX2 : Hid (Nx w w2) := HX.out.trans hx
  have BA2 := BA.next hx
  clear hx hu BA k0 k1 k2 k3 k4 HX
  go_wp2_with fail
  refine (specEncode_any _ _ _ _ _ N _ hN HSM.out.2).mono ?_
  rintro e w3 ⟨⟨u, rfl, hu⟩, hx⟩
  rw [HTE.out] at hu
  have HU : Hid (HBy w2.heap.size w3 u T.length (bat T)) := hu.hby
  have HX3 : Hid (Nx w w3) := HX2.out.trans hx
  have BA3 := BA2.next hx
  clear hx hu BA2 HX2 hN
  have k0 := BA3.cell (i := 0) rfl
  have k1 := BA3.cell (i := 1) rfl
  have k2 := BA3.cell (i := 2) rfl
  have k3 := BA3.cell (i := 3) rfl
  have k4 := BA3.cell (i := 4) rfl
  go_wp2_with fail
  refine (toNet_any B _ _ _ _ N _ (by exact h0.next HX3.out) HSM.out.1).mono ?_
  rintro e w4 ⟨⟨p0, s0, t0, p1, s1, t1, p2, s2, t2, p3, s3, t3, rfl, hN⟩, hu⟩
  have hx := hu.nx
  have HY4 : Hid (Nx w3 w4) := hx
  have HOP : Hid (∀ b, w3.heap.size ≤ b → b < w4.heap.size → Opn w4 b) := hu.op
  have BA4 := BA3.next hx
  have HN4 : Hid (HNet w3.heap.size w4 (.slice p0 s0 t0) (.slice p1 s1 t1) (.slice p2 s2 t2) (.slice p3 s3 t3) N) := hN
  clear hx hu hN k0 k1 k2 k3 k4
  go_wp2_with fail
  have BX := Blk.new w4 #[.slice p0 s0 t0, .slice p1 s1 t1, .slice p2 s2 t2, .slice p3 s3 t3, .int .i64 N.uturn] 35 _ rfl
  have BA5 := BA4.alloc (.cells #[.slice p0 s0 t0, .slice p1 s1 t1, .slice p2 s2 t2, .slice p3 s3 t3, .int .i64 N.uturn] 35)
  refine (implEncode_any _ _ _ _ _ N _ (by exact HN4.out.next (box1 _ _)) HSM.out.2 (Tab.up (HT.out.on ((HX3.out.trans HY4.out).trans (box1 _ _))) (by have := HX3.out.size; have := HY4.out.size; simp; omega))).mono ?_
  rintro e w5 ⟨⟨g, rfl, hg⟩, hx⟩
  rw [HTE.out] at hg
  have HG5 : Hid (Own (w4.heap.size + 1) w5 g T) := by unfold Hid; simpa using hg
  have HZ4 : Hid (Nx w4 w5) := (box1 _ _).trans hx
  have BX5 := BX.next hx
  have BA6 := BA5.next hx
  clear hx hg BX BA4 BA5
  go_wp2_with fail
  refine (eqBytes_same _ _ _ _ _ _ _ (by exact HG5.out.hby) (by exact HU.out.next (HY4.out.trans HZ4.out))).mono ?_
  rintro e w6 ⟨rfl, hx⟩
  have HZ6 : Hid (Nx w4 w6) := HZ4.out.trans hx
  have HG6 : Hid (Own (w4.heap.size + 1) w6 g T) := HG5.out.next hx
  have BX6 := BX5.next hx
  have BA7 := BA6.next hx
  clear hx BX5 BA6 HG5 HZ4
  have k0 := BA7.cell (i := 0) rfl
  have k1 := BA7.cell (i := 1) rfl
  have k2 := BA7.cell (i := 2) rfl
  have k3 := BA7.cell (i := 3) rfl
  have k4 := BA7.cell (i := 4) rfl
  have l0 := BX6.cell (i := 0) rfl
  have l1 := BX6.cell (i := 1) rfl
  have l2 := BX6.cell (i := 2) rfl
  have l3 := BX6.cell (i := 3) rfl
  have l4 := BX6.cell (i := 4) rfl
  have hlt5 := BX6.lt
  have BD := BX6.drew
  have BAD := BA7.drew
  clear BX6 BA7
  go_wp2
  have HXD : Hid (Nx w w6.drew) := ((HX3.out.trans HY4.out).trans HZ6.out).drew
  have HND : Hid (HNet w3.heap.size w6.drew (.slice p0 s0 t0) (.slice p1 s1 t1) (.slice p2 s2 t2) (.slice p3 s3 t3) N) := HN4.out.next HZ6.out.drew
  go_region_with (first
    | (go_at_call 6; refine (toNet_any B _ _ _ _ N _ (by exact h0.next HXD.out) HSM.out.1).mono ?_; rintro e w7 ⟨⟨y0, i0, z0, y1, i1, z1, y2, i2, z2, y3, i3, z3, rfl, hN6⟩, hu7⟩; have BE := BD.next hu7.nx; have q0 := BE.cell (i := 0) rfl; have q1 := BE.cell (i := 1) rfl; have q2 := BE.cell (i := 2) rfl; have q3 := BE.cell (i := 3) rfl; have q4 := BE.cell (i := 4) rfl)
    | (go_at_call 9; refine (eqNet_same _ _ _ _ _ _ _ _ _ _ N _ (by exact HND.out.next hu7.nx) (by exact hN6)).mono ?_; rintro e w8 ⟨rfl, hx8⟩))
  all_goals
    have HY8 : Hid (Nx w4 w8) := (HZ6.out.drew.trans hu7.nx).trans hx8
    have HG8 : Hid (Own (w4.heap.size + 1) w8 g T) := Own.next (Own.next (show Own (w4.heap.size + 1) w6.drew g T from HG6.out) hu7.nx) hx8
    have BX8 := (BD.next hu7.nx).next hx8
    have HM8 : Hid (Mk w3.heap.size w4 w8 w8) := Mk.start HY8.out HOP.out
    clear hx8 hu7 hN6 BE BD BAD q0 q1 q2 q3 q4 k0 k1 k2 k3 k4 l0 l1 l2 l3 l4 HND HXD hlt5
    have l0 := BX8.cell (i := 0) rfl
    have l1 := BX8.cell (i := 1) rfl
    have l2 := BX8.cell (i := 2) rfl
    have l3 := BX8.cell (i := 3) rfl
    have l4 := BX8.cell (i := 4) rfl
    go_wp2_with fail
    refine (markNet_any w3.heap.size w4 w8 _ _ _ _ N _ HN4.out HM8.out HSM.out.1).mono ?_
    rintro e w9 ⟨⟨k9, rfl, hk9⟩, hm⟩
    have hk9' : ¬ k9 < 0 := by omega
    have HY9 : Hid (Nx w3 w9) := Below.trans (HY4.out.trans HY8.out) (hm.below (Nat.le_refl _) (Nat.le_trans HY4.out.size HY8.out.size))
    have HG9 : Hid (Own (w4.heap.size + 1) w9 g T) := HG8.out.mk hm (by omega)
    clear hm BX8 l0 l1 l2 l3 l4 HM8 HG8
    go_wp2_with fail
    refine (eqBytes_same _ _ _ _ _ _ _ (by exact HG9.out.hby) (by exact HU.out.next HY9.out)).mono ?_
    rintro e w10 ⟨rfl, hx⟩
    have HY10 : Hid (Nx w3 w10) := HY9.out.trans hx
    have HG10 : Hid (Own (w4.heap.size + 1) w10 g T) := HG9.out.next hx
    clear hx HG9 HY9
    go_wp2_with fail
    refine (markBytes_any (w4.heap.size + 1) _ T.length _ (HG10.out.mopen 1) HTL.out).mono ?_
    rintro e w11 ⟨rfl, hb, hbl⟩
    have HY11 : Hid (Nx w3 w11) := Below.trans HY10.out (Below.mono hbl (by have := HY4.out.size; omega))
    have HB11 : Hid (HBy (w4.heap.size + 1) w11 g T.length (fun i => IntKind.u8.wrap (1 + i))) := hb
    clear hb hbl HG10 HY10
    have HTL' := HTL.out
    go_wp2_with fail
    refine (heldBytes_any _ _ T.length _ HB11.out HTL.out).mono ?_
    rintro e w12 ⟨rfl, hx⟩
    have HY12 : Hid (Nx w3 w12) := HY11.out.trans hx
    clear hx HB11 HY11
    have BA12 := BA3.next HY12.out
    have k0 := BA12.cell (i := 0) rfl
    have k1 := BA12.cell (i := 1) rfl
    have k2 := BA12.cell (i := 2) rfl
    have k3 := BA12.cell (i := 3) rfl
    have k4 := BA12.cell (i := 4) rfl
    have hq : ((1 + (T.length : Int)) != 1 + (T.length : Int)) = false := by simp
    have hq2 : ¬ (1 + (T.length : Int) < 0) := by omega
    go_wp2_with fail
    refine (toNet_any B _ _ _ _ N _ (by exact h0.next (HX3.out.trans HY12.out)) HSM.out.1).mono ?_
    rintro e w13 ⟨⟨x0, y0', z0', x1, y1', z1', x2, y2', z2', x3, y3', z3', rfl, hN7⟩, hu8⟩
    have HY13 : Hid (Nx w3 w13) := HY12.out.trans hu8.nx
    clear hu8 BA12 k0 k1 k2 k3 k4
    go_wp2_with fail
    refine (implEncode_any _ _ _ _ _ N _ (by exact hN7) HSM.out.2 (Tab.up (HT.out.on (HX3.out.trans HY13.out)) (by have := HX3.out.size; have := HY13.out.size; omega))).mono ?_
    rintro e w14 ⟨⟨g2, rfl, hg2⟩, hx⟩
    rw [HTE.out] at hg2
    have HY14 : Hid (Nx w3 w14) := HY13.out.trans hx
    clear hx hN7
    go_wp2_with fail
    refine (eqBytes_same _ _ _ _ _ _ _ (by exact hg2.hby) (by exact HU.out.next HY14.out)).mono ?_
    rintro e w15 ⟨rfl, hx⟩
    go_wp2
    go_ret
    exact ⟨rfl, HX3.out.trans (HY14.out.trans hx)⟩
end Go.Proofs.YtedhchmigeooiaaDoor
