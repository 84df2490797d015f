import Derived.Test.YtifefpeefcjabaaDM
namespace Go.Proofs.Ytifefpeefcjabaa
open Go.RowKit Go.Sort Go.Maps
set_option linter.unusedVariables false
set_option maxRecDepth 100000

theorem built_len {rs : List Ru} {c : Int} {A : Au} (h : BuiltIs rs c A) : A.pa.length ≤ 2000 ∧ A.la.length ≤ 2000 ∧ A.fa.length ≤ 2000 ∧ A.mu.length ≤ 2000 ∧ A.bd.length ≤ 2000 := by
  rcases h with ⟨_, _, rfl⟩ | ⟨_, ws, _, ⟨_, _, rfl⟩ | ⟨hl, _, rfl⟩⟩
  · simp [auZ]
  · simp [auZ]
  · simpa [autoOf] using hl

set_option maxHeartbeats 16000000 in
theorem lawBA_any (B : Nat) (v : Value) (rs : List Ru) (w : World) (h0 : HRules0 B w v rs) :
    Calls Try.prog 3 #[v] w fun e w' => e = .returned (.bool true) ∧ Nx w w' := by
  have HH : Hid (HRules0 B w v rs) := h0
  obtain ⟨va, vc, rfl, _, _⟩ := h0
  go_enter Try.func3, Try.ntmps3
  go_wp2_with fail
  refine (szRules_any B _ rs _ _ HH.out (by omega) (by omega)).mono ?_
  rintro e w1 ⟨⟨r, rfl, hr⟩, hx⟩
  have HX1 : Hid (Nx w w1) := hx
  clear hx
  rcases hr with hr | ⟨hr, _, hsl, hsf⟩
  · go_wp2
    go_ret
    exact ⟨rfl, HX1.out⟩
  have HSL : Hid (rs.length ≤ 1048576) := hsl
  have HSF : Hid (RFit rs rs.length) := hsf
  clear hsl hsf
  go_wp2_with fail
  refine (toRules_any B _ rs _ (HH.out.next HX1.out) HSL.out HSF.out).mono ?_
  rintro e w2 ⟨⟨ca, cn, cc, rfl, hC⟩, hu⟩
  have HX2 : Hid (Nx w w2) := HX1.out.trans hu.nx
  clear hu
  go_wp2_with fail
  refine (specBuild_any _ _ rs _ hC).mono ?_
  rintro e w3 ⟨⟨c, pa0, pn0, pc0, pa1, pn1, pc1, pa2, pn2, pc2, pa3, pn3, pc3, pa4, pn4, pc4, A, rfl, hB, hO⟩, hx⟩
  have HBI : Hid (BuiltIs rs c A) := hB
  have HLN : Hid (A.pa.length ≤ 2000 ∧ A.la.length ≤ 2000 ∧ A.fa.length ≤ 2000 ∧ A.mu.length ≤ 2000 ∧ A.bd.length ≤ 2000) := built_len hB
  have HX3 : Hid (Nx w w3) := HX2.out.trans hx
  have HP3 : Hid (O5 w2.heap.size w3 (.slice pa0 pn0 pc0) (.slice pa1 pn1 pc1) (.slice pa2 pn2 pc2) (.slice pa3 pn3 pc3) (.slice pa4 pn4 pc4) A) := hO
  have HUP : Hid (UB5 w3.heap.size (.slice pa0 pn0 pc0) (.slice pa1 pn1 pc1) (.slice pa2 pn2 pc2) (.slice pa3 pn3 pc3) (.slice pa4 pn4 pc4)) := hO.ub
  have HZW : Hid (w.heap.size ≤ w3.heap.size) := HX3.out.size
  clear hx hC hB hO
  have B4 := Blk.new w3 #[.int .i64 c, .slice pa0 pn0 pc0, .slice pa1 pn1 pc1, .slice pa2 pn2 pc2, .slice pa3 pn3 pc3, .slice pa4 pn4 pc4] 29 _ rfl
  have HX4 : Hid (Nx w (w3.alloc (.cells #[.int .i64 c, .slice pa0 pn0 pc0, .slice pa1 pn1 pc1, .slice pa2 pn2 pc2, .slice pa3 pn3 pc3, .slice pa4 pn4 pc4] 29))) := HX3.out.trans (box1 _ _)
  have HP4 : Hid (O5 w2.heap.size (w3.alloc (.cells #[.int .i64 c, .slice pa0 pn0 pc0, .slice pa1 pn1 pc1, .slice pa2 pn2 pc2, .slice pa3 pn3 pc3, .slice pa4 pn4 pc4] 29)) (.slice pa0 pn0 pc0) (.slice pa1 pn1 pc1) (.slice pa2 pn2 pc2) (.slice pa3 pn3 pc3) (.slice pa4 pn4 pc4) A) := HP3.out.next (box1 _ _)
  have HSZ4 : Hid ((w3.alloc (.cells #[.int .i64 c, .slice pa0 pn0 pc0, .slice pa1 pn1 pc1, .slice pa2 pn2 pc2, .slice pa3 pn3 pc3, .slice pa4 pn4 pc4] 29)).heap.size = w3.heap.size + 1) := size_alloc' _ _
  have HB4 : Hid (Blk (w3.alloc (.cells #[.int .i64 c, .slice pa0 pn0 pc0, .slice pa1 pn1 pc1, .slice pa2 pn2 pc2, .slice pa3 pn3 pc3, .slice pa4 pn4 pc4] 29)) w3.heap.size #[.int .i64 c, .slice pa0 pn0 pc0, .slice pa1 pn1 pc1, .slice pa2 pn2 pc2, .slice pa3 pn3 pc3, .slice pa4 pn4 pc4]) := B4
  clear B4 HP3 HX3
  go_upto_region 6 with fail
  generalize w3.alloc (.cells #[.int .i64 c, .slice pa0 pn0 pc0, .slice pa1 pn1 pc1, .slice pa2 pn2 pc2, .slice pa3 pn3 pc3, .slice pa4 pn4 pc4] 29) = w4 at *
  go_wp2_with fail
  refine (toRules_any B _ rs _ (HH.out.next HX4.out) HSL.out HSF.out).mono ?_
  rintro e w5 ⟨⟨xa, xn, xc, rfl, hx0⟩, hu⟩
  have HX5 : Hid (Nx w w5) := HX4.out.trans hu.nx
  have HXR : Hid (HRules w4.heap.size w5 (.slice xa xn xc) rs) := hx0
  have HOPN : Hid (∀ b, w4.heap.size ≤ b → b < w5.heap.size → Opn w5 b) := hu.op
  have HP5 : Hid (O5 w2.heap.size w5 (.slice pa0 pn0 pc0) (.slice pa1 pn1 pc1) (.slice pa2 pn2 pc2) (.slice pa3 pn3 pc3) (.slice pa4 pn4 pc4) A) := HP4.out.next hu.nx
  have HB5 : Hid (Blk w5 w3.heap.size #[.int .i64 c, .slice pa0 pn0 pc0, .slice pa1 pn1 pc1, .slice pa2 pn2 pc2, .slice pa3 pn3 pc3, .slice pa4 pn4 pc4]) := HB4.out.next hu.nx
  have HZ5 : Hid (w4.heap.size ≤ w5.heap.size) := hu.nx.size
  clear hu hx0 HP4 HB4 HX4
  go_wp2_with fail
  refine (implBuild_any _ _ rs _ HXR.out).mono ?_
  rintro e w6 ⟨⟨c', qa0, qn0, qc0, qa1, qn1, qc1, qa2, qn2, qc2, qa3, qn3, qc3, qa4, qn4, qc4, A', rfl, hB, hO⟩, hx⟩
  obtain ⟨hc', hA'⟩ := built_same HBI.out hB
  subst hc' hA'
  have HX6 : Hid (Nx w w6) := HX5.out.trans hx
  have HX56 : Hid (Nx w5 w6) := hx
  have HQ6 : Hid (O5 w5.heap.size w6 (.slice qa0 qn0 qc0) (.slice qa1 qn1 qc1) (.slice qa2 qn2 qc2) (.slice qa3 qn3 qc3) (.slice qa4 qn4 qc4) A) := hO
  have HUQ : Hid (UB5 w6.heap.size (.slice qa0 qn0 qc0) (.slice qa1 qn1 qc1) (.slice qa2 qn2 qc2) (.slice qa3 qn3 qc3) (.slice qa4 qn4 qc4)) := hO.ub
  have HGQ : Hid (∀ b, b < w5.heap.size → (Value.slice qa0 qn0 qc0).ownBlock ≠ some b ∧ (Value.slice qa1 qn1 qc1).ownBlock ≠ some b ∧ (Value.slice qa2 qn2 qc2).ownBlock ≠ some b ∧ (Value.slice qa3 qn3 qc3).ownBlock ≠ some b ∧ (Value.slice qa4 qn4 qc4).ownBlock ≠ some b) := hO.ge
  have HP6 : Hid (O5 w2.heap.size w6 (.slice pa0 pn0 pc0) (.slice pa1 pn1 pc1) (.slice pa2 pn2 pc2) (.slice pa3 pn3 pc3) (.slice pa4 pn4 pc4) A) := HP5.out.next hx
  have HB6 : Hid (Blk w6 w3.heap.size #[.int .i64 c, .slice pa0 pn0 pc0, .slice pa1 pn1 pc1, .slice pa2 pn2 pc2, .slice pa3 pn3 pc3, .slice pa4 pn4 pc4]) := HB5.out.next hx
  clear hx hB hO HP5 HB5
  have HB7 : Hid (Blk (w6.alloc (.cells #[.int .i64 c, .slice qa0 qn0 qc0, .slice qa1 qn1 qc1, .slice qa2 qn2 qc2, .slice qa3 qn3 qc3, .slice qa4 qn4 qc4] 29)) w6.heap.size #[.int .i64 c, .slice qa0 qn0 qc0, .slice qa1 qn1 qc1, .slice qa2 qn2 qc2, .slice qa3 qn3 qc3, .slice qa4 qn4 qc4]) := Blk.new w6 _ _ _ rfl
  have HP7 : Hid (O5 w2.heap.size (w6.alloc (.cells #[.int .i64 c, .slice qa0 qn0 qc0, .slice qa1 qn1 qc1, .slice qa2 qn2 qc2, .slice qa3 qn3 qc3, .slice qa4 qn4 qc4] 29)) (.slice pa0 pn0 pc0) (.slice pa1 pn1 pc1) (.slice pa2 pn2 pc2) (.slice pa3 pn3 pc3) (.slice pa4 pn4 pc4) A) := HP6.out.next (box1 _ _)
  have HQ7 : Hid (O5 w5.heap.size (w6.alloc (.cells #[.int .i64 c, .slice qa0 qn0 qc0, .slice qa1 qn1 qc1, .slice qa2 qn2 qc2, .slice qa3 qn3 qc3, .slice qa4 qn4 qc4] 29)) (.slice qa0 qn0 qc0) (.slice qa1 qn1 qc1) (.slice qa2 qn2 qc2) (.slice qa3 qn3 qc3) (.slice qa4 qn4 qc4) A) := HQ6.out.next (box1 _ _)
  have HB47 : Hid (Blk (w6.alloc (.cells #[.int .i64 c, .slice qa0 qn0 qc0, .slice qa1 qn1 qc1, .slice qa2 qn2 qc2, .slice qa3 qn3 qc3, .slice qa4 qn4 qc4] 29)) w3.heap.size #[.int .i64 c, .slice pa0 pn0 pc0, .slice pa1 pn1 pc1, .slice pa2 pn2 pc2, .slice pa3 pn3 pc3, .slice pa4 pn4 pc4]) := HB6.out.alloc _
  have HX7 : Hid (Nx w (w6.alloc (.cells #[.int .i64 c, .slice qa0 qn0 qc0, .slice qa1 qn1 qc1, .slice qa2 qn2 qc2, .slice qa3 qn3 qc3, .slice qa4 qn4 qc4] 29))) := HX6.out.trans (box1 _ _)
  have HX57 : Hid (Nx w5 (w6.alloc (.cells #[.int .i64 c, .slice qa0 qn0 qc0, .slice qa1 qn1 qc1, .slice qa2 qn2 qc2, .slice qa3 qn3 qc3, .slice qa4 qn4 qc4] 29))) := HX56.out.trans (box1 _ _)
  have HZ67 : Hid (w6.heap.size < (w6.alloc (.cells #[.int .i64 c, .slice qa0 qn0 qc0, .slice qa1 qn1 qc1, .slice qa2 qn2 qc2, .slice qa3 qn3 qc3, .slice qa4 qn4 qc4] 29)).heap.size) := by unfold Hid; rw [size_alloc']; omega
  have HZ56 : Hid (w5.heap.size ≤ w6.heap.size) := HX56.out.size
  clear HP6 HQ6 HB6 HX6 HX56 HX5
  go_upto_region 8 with fail
  generalize w6.alloc (.cells #[.int .i64 c, .slice qa0 qn0 qc0, .slice qa1 qn1 qc1, .slice qa2 qn2 qc2, .slice qa3 qn3 qc3, .slice qa4 qn4 qc4] 29) = w7 at *
  have k0 : w7.cell? ⟨w3.heap.size, 0, none⟩ = some (.int .i64 c) := HB47.out.cell (i := 0) rfl
  have k1 : w7.cell? ⟨w3.heap.size, 1, none⟩ = some (.slice pa0 pn0 pc0) := HB47.out.cell (i := 1) rfl
  have k2 : w7.cell? ⟨w3.heap.size, 2, none⟩ = some (.slice pa1 pn1 pc1) := HB47.out.cell (i := 2) rfl
  have k3 : w7.cell? ⟨w3.heap.size, 3, none⟩ = some (.slice pa2 pn2 pc2) := HB47.out.cell (i := 3) rfl
  have k4 : w7.cell? ⟨w3.heap.size, 4, none⟩ = some (.slice pa3 pn3 pc3) := HB47.out.cell (i := 4) rfl
  have k5 : w7.cell? ⟨w3.heap.size, 5, none⟩ = some (.slice pa4 pn4 pc4) := HB47.out.cell (i := 5) rfl
  have l0 : w7.cell? ⟨w6.heap.size, 0, none⟩ = some (.int .i64 c) := HB7.out.cell (i := 0) rfl
  have l1 : w7.cell? ⟨w6.heap.size, 1, none⟩ = some (.slice qa0 qn0 qc0) := HB7.out.cell (i := 1) rfl
  have l2 : w7.cell? ⟨w6.heap.size, 2, none⟩ = some (.slice qa1 qn1 qc1) := HB7.out.cell (i := 2) rfl
  have l3 : w7.cell? ⟨w6.heap.size, 3, none⟩ = some (.slice qa2 qn2 qc2) := HB7.out.cell (i := 3) rfl
  have l4 : w7.cell? ⟨w6.heap.size, 4, none⟩ = some (.slice qa3 qn3 qc3) := HB7.out.cell (i := 4) rfl
  have l5 : w7.cell? ⟨w6.heap.size, 5, none⟩ = some (.slice qa4 qn4 qc4) := HB7.out.cell (i := 5) rfl
  go_wp2_with fail
  refine (eqBuilt_same _ _ c _ _ _ _ _ _ _ _ _ _ A _ (by exact HQ7.out.ha) (by exact HP7.out.ha)).mono ?_
  rintro e w8 ⟨rfl, hx⟩
  have HX8 : Hid (Nx w w8) := HX7.out.trans hx
  have HX58 : Hid (Nx w5 w8) := HX57.out.trans hx
  have HP8 : Hid (O5 w2.heap.size w8 (.slice pa0 pn0 pc0) (.slice pa1 pn1 pc1) (.slice pa2 pn2 pc2) (.slice pa3 pn3 pc3) (.slice pa4 pn4 pc4) A) := HP7.out.next hx
  have HQ8 : Hid (O5 w5.heap.size w8 (.slice qa0 qn0 qc0) (.slice qa1 qn1 qc1) (.slice qa2 qn2 qc2) (.slice qa3 qn3 qc3) (.slice qa4 qn4 qc4) A) := HQ7.out.next hx
  have HB8 : Hid (Blk w8 w3.heap.size #[.int .i64 c, .slice pa0 pn0 pc0, .slice pa1 pn1 pc1, .slice pa2 pn2 pc2, .slice pa3 pn3 pc3, .slice pa4 pn4 pc4]) := HB47.out.next hx
  have HD8 : Hid (Blk w8 w6.heap.size #[.int .i64 c, .slice qa0 qn0 qc0, .slice qa1 qn1 qc1, .slice qa2 qn2 qc2, .slice qa3 qn3 qc3, .slice qa4 qn4 qc4]) := HB7.out.next hx
  clear hx HP7 HQ7 HB47 HB7 HX7 HX57 k0 k1 k2 k3 k4 k5 l0 l1 l2 l3 l4 l5
  go_wp2_with fail
  refine (toRules_any B _ rs _ (HH.out.next HX8.out) HSL.out HSF.out).mono ?_
  rintro e w9 ⟨⟨ya, yn, yc, rfl, hy0⟩, hu⟩
  have HX9 : Hid (Nx w w9) := HX8.out.trans hu.nx
  have HX59 : Hid (Nx w5 w9) := HX58.out.trans hu.nx
  have HX89 : Hid (Nx w8 w9) := hu.nx
  have HYR : Hid (HRules w8.heap.size w9 (.slice ya yn yc) rs) := hy0
  clear hu hy0 HX58
  go_wp2_with fail
  refine (eqRules_same w4.heap.size w8.heap.size _ _ rs _ (by exact HXR.out.next HX59.out) (by exact HYR.out)).mono ?_
  rintro e w10 ⟨rfl, hx⟩
  have HX10 : Hid (Nx w w10) := HX9.out.trans hx
  have HX510 : Hid (Nx w5 w10) := HX59.out.trans hx
  have HX810 : Hid (Nx w8 w10) := HX89.out.trans hx
  have HP10 : Hid (O5 w2.heap.size w10 (.slice pa0 pn0 pc0) (.slice pa1 pn1 pc1) (.slice pa2 pn2 pc2) (.slice pa3 pn3 pc3) (.slice pa4 pn4 pc4) A) := HP8.out.next HX810.out
  have HQ10 : Hid (O5 w5.heap.size w10 (.slice qa0 qn0 qc0) (.slice qa1 qn1 qc1) (.slice qa2 qn2 qc2) (.slice qa3 qn3 qc3) (.slice qa4 qn4 qc4) A) := HQ8.out.next HX810.out
  have HB10 : Hid (Blk w10 w3.heap.size #[.int .i64 c, .slice pa0 pn0 pc0, .slice pa1 pn1 pc1, .slice pa2 pn2 pc2, .slice pa3 pn3 pc3, .slice pa4 pn4 pc4]) := HB8.out.next HX810.out
  have HD10 : Hid (Blk w10 w6.heap.size #[.int .i64 c, .slice qa0 qn0 qc0, .slice qa1 qn1 qc1, .slice qa2 qn2 qc2, .slice qa3 qn3 qc3, .slice qa4 qn4 qc4]) := HD8.out.next HX810.out
  have HMK0 : Hid (Mk w4.heap.size w5 w10 w10) := Mk.start HX510.out HOPN.out
  clear hx HP8 HQ8 HB8 HD8 HX8 HX9 HX59 HX89 HX810 HYR HOPN HX510
  go_wp2_with fail
  refine (markRules_any w4.heap.size w5 w10 _ rs _ (by exact HXR.out) HMK0.out HSL.out HSF.out).mono ?_
  rintro e w11 ⟨⟨kk, rfl, hkk⟩, hm⟩
  have hB4 : w4.heap.size = w3.heap.size + 1 := HSZ4.out
  have HSZ : Hid (w3.heap.size < w4.heap.size) := by unfold Hid; omega
  have HX11 : Hid (Nx w w11) := Below.trans HX10.out (hm.below (Nat.le_trans HZW.out (Nat.le_of_lt HSZ.out)) HX10.out.size)
  have HP11 : Hid (O5 w2.heap.size w11 (.slice pa0 pn0 pc0) (.slice pa1 pn1 pc1) (.slice pa2 pn2 pc2) (.slice pa3 pn3 pc3) (.slice pa4 pn4 pc4) A) := HP10.out.same HUP.out (fun b _ hb => hm.same b (Nat.lt_of_lt_of_le hb (by have := HB10.out.lt; omega)) (by have := HSZ.out; omega))
  have HQ11 : Hid (O5 w5.heap.size w11 (.slice qa0 qn0 qc0) (.slice qa1 qn1 qc1) (.slice qa2 qn2 qc2) (.slice qa3 qn3 qc3) (.slice qa4 qn4 qc4) A) := HQ10.out.same HUQ.out (fun b hb hb' => hm.same b (Nat.lt_of_lt_of_le hb' (by have := HD10.out.lt; omega)) (by omega))
  have HB11 : Hid (Blk w11 w3.heap.size #[.int .i64 c, .slice pa0 pn0 pc0, .slice pa1 pn1 pc1, .slice pa2 pn2 pc2, .slice pa3 pn3 pc3, .slice pa4 pn4 pc4]) := by
    obtain ⟨ty, hb⟩ := HB10.out
    exact ⟨ty, (hm.same _ HB10.out.lt (by have := HSZ.out; omega)).trans hb⟩
  have HD11 : Hid (Blk w11 w6.heap.size #[.int .i64 c, .slice qa0 qn0 qc0, .slice qa1 qn1 qc1, .slice qa2 qn2 qc2, .slice qa3 qn3 qc3, .slice qa4 qn4 qc4]) := HD10.out.mk hm HZ56.out
  clear hm hB4 HP10 HQ10 HB10 HD10 HX10 HMK0 HXR
  have k0 : w11.cell? ⟨w3.heap.size, 0, none⟩ = some (.int .i64 c) := HB11.out.cell (i := 0) rfl
  have k1 : w11.cell? ⟨w3.heap.size, 1, none⟩ = some (.slice pa0 pn0 pc0) := HB11.out.cell (i := 1) rfl
  have k2 : w11.cell? ⟨w3.heap.size, 2, none⟩ = some (.slice pa1 pn1 pc1) := HB11.out.cell (i := 2) rfl
  have k3 : w11.cell? ⟨w3.heap.size, 3, none⟩ = some (.slice pa2 pn2 pc2) := HB11.out.cell (i := 3) rfl
  have k4 : w11.cell? ⟨w3.heap.size, 4, none⟩ = some (.slice pa3 pn3 pc3) := HB11.out.cell (i := 4) rfl
  have k5 : w11.cell? ⟨w3.heap.size, 5, none⟩ = some (.slice pa4 pn4 pc4) := HB11.out.cell (i := 5) rfl
  have l0 : w11.cell? ⟨w6.heap.size, 0, none⟩ = some (.int .i64 c) := HD11.out.cell (i := 0) rfl
  have l1 : w11.cell? ⟨w6.heap.size, 1, none⟩ = some (.slice qa0 qn0 qc0) := HD11.out.cell (i := 1) rfl
  have l2 : w11.cell? ⟨w6.heap.size, 2, none⟩ = some (.slice qa1 qn1 qc1) := HD11.out.cell (i := 2) rfl
  have l3 : w11.cell? ⟨w6.heap.size, 3, none⟩ = some (.slice qa2 qn2 qc2) := HD11.out.cell (i := 3) rfl
  have l4 : w11.cell? ⟨w6.heap.size, 4, none⟩ = some (.slice qa3 qn3 qc3) := HD11.out.cell (i := 4) rfl
  have l5 : w11.cell? ⟨w6.heap.size, 5, none⟩ = some (.slice qa4 qn4 qc4) := HD11.out.cell (i := 5) rfl
  have dk : decide (kk < 0) = false := decide_eq_false (by omega)
  go_wp2_with fail
  refine (eqBuilt_same _ _ c _ _ _ _ _ _ _ _ _ _ A _ (by exact HQ11.out.ha) (by exact HP11.out.ha)).mono ?_
  rintro e w12 ⟨rfl, hx⟩
  have HX12 : Hid (Nx w w12) := HX11.out.trans hx
  have HP12 : Hid (O5 w2.heap.size w12 (.slice pa0 pn0 pc0) (.slice pa1 pn1 pc1) (.slice pa2 pn2 pc2) (.slice pa3 pn3 pc3) (.slice pa4 pn4 pc4) A) := HP11.out.next hx
  have HQ12 : Hid (O5 w5.heap.size w12 (.slice qa0 qn0 qc0) (.slice qa1 qn1 qc1) (.slice qa2 qn2 qc2) (.slice qa3 qn3 qc3) (.slice qa4 qn4 qc4) A) := HQ11.out.next hx
  have HB12 : Hid (Blk w12 w3.heap.size #[.int .i64 c, .slice pa0 pn0 pc0, .slice pa1 pn1 pc1, .slice pa2 pn2 pc2, .slice pa3 pn3 pc3, .slice pa4 pn4 pc4]) := HB11.out.next hx
  have HD12 : Hid (Blk w12 w6.heap.size #[.int .i64 c, .slice qa0 qn0 qc0, .slice qa1 qn1 qc1, .slice qa2 qn2 qc2, .slice qa3 qn3 qc3, .slice qa4 qn4 qc4]) := HD11.out.next hx
  clear hx HP11 HQ11 HB11 HD11 HX11 k0 k1 k2 k3 k4 k5 l0 l1 l2 l3 l4 l5 dk hkk
  have l0 : w12.cell? ⟨w6.heap.size, 0, none⟩ = some (.int .i64 c) := HD12.out.cell (i := 0) rfl
  have l1 : w12.cell? ⟨w6.heap.size, 1, none⟩ = some (.slice qa0 qn0 qc0) := HD12.out.cell (i := 1) rfl
  have l2 : w12.cell? ⟨w6.heap.size, 2, none⟩ = some (.slice qa1 qn1 qc1) := HD12.out.cell (i := 2) rfl
  have l3 : w12.cell? ⟨w6.heap.size, 3, none⟩ = some (.slice qa2 qn2 qc2) := HD12.out.cell (i := 3) rfl
  have l4 : w12.cell? ⟨w6.heap.size, 4, none⟩ = some (.slice qa3 qn3 qc3) := HD12.out.cell (i := 4) rfl
  have l5 : w12.cell? ⟨w6.heap.size, 5, none⟩ = some (.slice qa4 qn4 qc4) := HD12.out.cell (i := 5) rfl
  have hl := HLN.out
  have HG12 : Hid (G5 w6.heap.size w12 (.slice qa0 qn0 qc0) (.slice qa1 qn1 qc1) (.slice qa2 qn2 qc2) (.slice qa3 qn3 qc3) (.slice qa4 qn4 qc4) A.pa.length A.la.length A.fa.length A.mu.length A.bd.length (iat A.pa) (iat A.la) (iat A.fa) (iat A.mu) (bat A.bd)) := by
    have g := HQ12.out.open
    exact ⟨g.s0, g.s1, g.s2, g.s3, g.s4, HUQ.out, g.a01, g.a02, g.a03, g.a04, g.a12, g.a13, g.a14, g.a23, g.a24, g.a34⟩
  go_wp2_with fail
  refine (markBuilt_any w6.heap.size c _ _ _ _ _ _ _ _ _ _ _ _ _ _ _ _ (by exact HG12.out) (Nat.le_of_lt HD12.out.lt) hl.1 hl.2.1 hl.2.2.1 hl.2.2.2.1 hl.2.2.2.2).mono ?_
  rintro e w13 ⟨rfl, hg, ho⟩
  have HG13 : Hid (G5 w6.heap.size w13 (.slice qa0 qn0 qc0) (.slice qa1 qn1 qc1) (.slice qa2 qn2 qc2) (.slice qa3 qn3 qc3) (.slice qa4 qn4 qc4) A.pa.length A.la.length A.fa.length A.mu.length A.bd.length (fun i => 1 + i) (fun i => 1 + A.pa.length + i) (fun i => 1 + A.pa.length + A.la.length + i) (fun i => 1 + A.pa.length + A.la.length + A.fa.length + i) (fun i => m3 (1 + A.pa.length + A.la.length + A.fa.length + A.mu.length + i))) := hg
  have HX13 : Hid (Nx w w13) := Below.trans HX12.out (ho.below HX12.out.size (fun b hb => HGQ.out b (by have := HZW.out; have := HSZ.out; have := HZ5.out; omega)))
  have HP13 : Hid (O5 w2.heap.size w13 (.slice pa0 pn0 pc0) (.slice pa1 pn1 pc1) (.slice pa2 pn2 pc2) (.slice pa3 pn3 pc3) (.slice pa4 pn4 pc4) A) := HP12.out.same HUP.out (fun b _ hb => ho.block b (Nat.lt_trans hb HB12.out.lt) (HGQ.out b (by have := HSZ.out; have := HZ5.out; omega)))
  have HB13 : Hid (Blk w13 w3.heap.size #[.int .i64 c, .slice pa0 pn0 pc0, .slice pa1 pn1 pc1, .slice pa2 pn2 pc2, .slice pa3 pn3 pc3, .slice pa4 pn4 pc4]) := HB12.out.on5 ho (HGQ.out _ (by have := HSZ.out; have := HZ5.out; omega))
  have HD13 : Hid (Blk w13 w6.heap.size #[.int .i64 c, .slice qa0 qn0 qc0, .slice qa1 qn1 qc1, .slice qa2 qn2 qc2, .slice qa3 qn3 qc3, .slice qa4 qn4 qc4]) := HD12.out.on5 ho (HUQ.out.ne (Nat.le_refl _))
  clear hg ho HP12 HQ12 HB12 HD12 HX12 HG12 l0 l1 l2 l3 l4 l5
  have l0 : w13.cell? ⟨w6.heap.size, 0, none⟩ = some (.int .i64 c) := HD13.out.cell (i := 0) rfl
  have l1 : w13.cell? ⟨w6.heap.size, 1, none⟩ = some (.slice qa0 qn0 qc0) := HD13.out.cell (i := 1) rfl
  have l2 : w13.cell? ⟨w6.heap.size, 2, none⟩ = some (.slice qa1 qn1 qc1) := HD13.out.cell (i := 2) rfl
  have l3 : w13.cell? ⟨w6.heap.size, 3, none⟩ = some (.slice qa2 qn2 qc2) := HD13.out.cell (i := 3) rfl
  have l4 : w13.cell? ⟨w6.heap.size, 4, none⟩ = some (.slice qa3 qn3 qc3) := HD13.out.cell (i := 4) rfl
  have l5 : w13.cell? ⟨w6.heap.size, 5, none⟩ = some (.slice qa4 qn4 qc4) := HD13.out.cell (i := 5) rfl
  have dn : decide (1 + (A.pa.length : Int) + A.la.length + A.fa.length + A.mu.length + A.bd.length < 0) = false := decide_eq_false (by omega)
  have de : ((1 + (A.pa.length : Int) + A.la.length + A.fa.length + A.mu.length + A.bd.length) != (1 + (A.pa.length : Int) + A.la.length + A.fa.length + A.mu.length + A.bd.length)) = false := by simp
  go_wp2_with fail
  refine (heldBuilt_any w6.heap.size c _ _ _ _ _ _ _ _ _ _ _ (by exact HG13.out) hl.1 hl.2.1 hl.2.2.1 hl.2.2.2.1 hl.2.2.2.2).mono ?_
  rintro e w14 ⟨rfl, hx⟩
  have HX14 : Hid (Nx w w14) := HX13.out.trans hx
  have HP14 : Hid (O5 w2.heap.size w14 (.slice pa0 pn0 pc0) (.slice pa1 pn1 pc1) (.slice pa2 pn2 pc2) (.slice pa3 pn3 pc3) (.slice pa4 pn4 pc4) A) := HP13.out.next hx
  have HB14 : Hid (Blk w14 w3.heap.size #[.int .i64 c, .slice pa0 pn0 pc0, .slice pa1 pn1 pc1, .slice pa2 pn2 pc2, .slice pa3 pn3 pc3, .slice pa4 pn4 pc4]) := HB13.out.next hx
  clear hx HP13 HB13 HD13 HX13 HG13 l0 l1 l2 l3 l4 l5
  go_wp2_with fail
  refine (toRules_any B _ rs _ (HH.out.next HX14.out) HSL.out HSF.out).mono ?_
  rintro e w15 ⟨⟨za, zn, zc, rfl, hz0⟩, hu⟩
  have HX15 : Hid (Nx w w15) := HX14.out.trans hu.nx
  have HP15 : Hid (O5 w2.heap.size w15 (.slice pa0 pn0 pc0) (.slice pa1 pn1 pc1) (.slice pa2 pn2 pc2) (.slice pa3 pn3 pc3) (.slice pa4 pn4 pc4) A) := HP14.out.next hu.nx
  have HB15 : Hid (Blk w15 w3.heap.size #[.int .i64 c, .slice pa0 pn0 pc0, .slice pa1 pn1 pc1, .slice pa2 pn2 pc2, .slice pa3 pn3 pc3, .slice pa4 pn4 pc4]) := HB14.out.next hu.nx
  have HZR : Hid (HRules w14.heap.size w15 (.slice za zn zc) rs) := hz0
  clear hu hz0 HP14 HB14 HX14 dn de
  go_wp2_with fail
  refine (implBuild_any _ _ rs _ HZR.out).mono ?_
  rintro e w16 ⟨⟨c'', ra0, rn0, rc0, ra1, rn1, rc1, ra2, rn2, rc2, ra3, rn3, rc3, ra4, rn4, rc4, A'', rfl, hB, hO⟩, hx⟩
  obtain ⟨hc', hA'⟩ := built_same HBI.out hB
  subst hc' hA'
  have HX16 : Hid (Nx w w16) := HX15.out.trans hx
  have HP16 : Hid (O5 w2.heap.size w16 (.slice pa0 pn0 pc0) (.slice pa1 pn1 pc1) (.slice pa2 pn2 pc2) (.slice pa3 pn3 pc3) (.slice pa4 pn4 pc4) A) := HP15.out.next hx
  have HB16 : Hid (Blk w16 w3.heap.size #[.int .i64 c, .slice pa0 pn0 pc0, .slice pa1 pn1 pc1, .slice pa2 pn2 pc2, .slice pa3 pn3 pc3, .slice pa4 pn4 pc4]) := HB15.out.next hx
  have HR16 : Hid (O5 w15.heap.size w16 (.slice ra0 rn0 rc0) (.slice ra1 rn1 rc1) (.slice ra2 rn2 rc2) (.slice ra3 rn3 rc3) (.slice ra4 rn4 rc4) A) := hO
  clear hx hB hO HP15 HB15 HX15 HZR
  have HE : Hid (Blk (w16.alloc (.cells #[.int .i64 c, .slice ra0 rn0 rc0, .slice ra1 rn1 rc1, .slice ra2 rn2 rc2, .slice ra3 rn3 rc3, .slice ra4 rn4 rc4] 29)) w16.heap.size #[.int .i64 c, .slice ra0 rn0 rc0, .slice ra1 rn1 rc1, .slice ra2 rn2 rc2, .slice ra3 rn3 rc3, .slice ra4 rn4 rc4]) := Blk.new w16 _ _ _ rfl
  have HP17 : Hid (O5 w2.heap.size (w16.alloc (.cells #[.int .i64 c, .slice ra0 rn0 rc0, .slice ra1 rn1 rc1, .slice ra2 rn2 rc2, .slice ra3 rn3 rc3, .slice ra4 rn4 rc4] 29)) (.slice pa0 pn0 pc0) (.slice pa1 pn1 pc1) (.slice pa2 pn2 pc2) (.slice pa3 pn3 pc3) (.slice pa4 pn4 pc4) A) := HP16.out.next (box1 _ _)
  have HR17 : Hid (O5 w15.heap.size (w16.alloc (.cells #[.int .i64 c, .slice ra0 rn0 rc0, .slice ra1 rn1 rc1, .slice ra2 rn2 rc2, .slice ra3 rn3 rc3, .slice ra4 rn4 rc4] 29)) (.slice ra0 rn0 rc0) (.slice ra1 rn1 rc1) (.slice ra2 rn2 rc2) (.slice ra3 rn3 rc3) (.slice ra4 rn4 rc4) A) := HR16.out.next (box1 _ _)
  have HB17 : Hid (Blk (w16.alloc (.cells #[.int .i64 c, .slice ra0 rn0 rc0, .slice ra1 rn1 rc1, .slice ra2 rn2 rc2, .slice ra3 rn3 rc3, .slice ra4 rn4 rc4] 29)) w3.heap.size #[.int .i64 c, .slice pa0 pn0 pc0, .slice pa1 pn1 pc1, .slice pa2 pn2 pc2, .slice pa3 pn3 pc3, .slice pa4 pn4 pc4]) := HB16.out.alloc _
  have HX17 : Hid (Nx w (w16.alloc (.cells #[.int .i64 c, .slice ra0 rn0 rc0, .slice ra1 rn1 rc1, .slice ra2 rn2 rc2, .slice ra3 rn3 rc3, .slice ra4 rn4 rc4] 29))) := HX16.out.trans (box1 _ _)
  clear HP16 HR16 HB16 HX16
  go_upto_region 25 with fail
  generalize w16.alloc (.cells #[.int .i64 c, .slice ra0 rn0 rc0, .slice ra1 rn1 rc1, .slice ra2 rn2 rc2, .slice ra3 rn3 rc3, .slice ra4 rn4 rc4] 29) = w17 at *
  have k0 : w17.cell? ⟨w3.heap.size, 0, none⟩ = some (.int .i64 c) := HB17.out.cell (i := 0) rfl
  have k1 : w17.cell? ⟨w3.heap.size, 1, none⟩ = some (.slice pa0 pn0 pc0) := HB17.out.cell (i := 1) rfl
  have k2 : w17.cell? ⟨w3.heap.size, 2, none⟩ = some (.slice pa1 pn1 pc1) := HB17.out.cell (i := 2) rfl
  have k3 : w17.cell? ⟨w3.heap.size, 3, none⟩ = some (.slice pa2 pn2 pc2) := HB17.out.cell (i := 3) rfl
  have k4 : w17.cell? ⟨w3.heap.size, 4, none⟩ = some (.slice pa3 pn3 pc3) := HB17.out.cell (i := 4) rfl
  have k5 : w17.cell? ⟨w3.heap.size, 5, none⟩ = some (.slice pa4 pn4 pc4) := HB17.out.cell (i := 5) rfl
  have l0 : w17.cell? ⟨w16.heap.size, 0, none⟩ = some (.int .i64 c) := HE.out.cell (i := 0) rfl
  have l1 : w17.cell? ⟨w16.heap.size, 1, none⟩ = some (.slice ra0 rn0 rc0) := HE.out.cell (i := 1) rfl
  have l2 : w17.cell? ⟨w16.heap.size, 2, none⟩ = some (.slice ra1 rn1 rc1) := HE.out.cell (i := 2) rfl
  have l3 : w17.cell? ⟨w16.heap.size, 3, none⟩ = some (.slice ra2 rn2 rc2) := HE.out.cell (i := 3) rfl
  have l4 : w17.cell? ⟨w16.heap.size, 4, none⟩ = some (.slice ra3 rn3 rc3) := HE.out.cell (i := 4) rfl
  have l5 : w17.cell? ⟨w16.heap.size, 5, none⟩ = some (.slice ra4 rn4 rc4) := HE.out.cell (i := 5) rfl
  go_wp2_with fail
  refine (eqBuilt_same _ _ c _ _ _ _ _ _ _ _ _ _ A _ (by exact HR17.out.ha) (by exact HP17.out.ha)).mono ?_
  rintro e w18 ⟨rfl, hx⟩
  have HX18 : Hid (Nx w w18) := HX17.out.trans hx
  clear hx k0 k1 k2 k3 k4 k5 l0 l1 l2 l3 l4 l5
  go_wp2
  go_ret
  exact ⟨rfl, HX18.out⟩
end Go.Proofs.Ytifefpeefcjabaa
