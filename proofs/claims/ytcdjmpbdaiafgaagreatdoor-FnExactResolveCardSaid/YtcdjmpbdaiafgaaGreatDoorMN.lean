import Derived.Test.YtcdjmpbdaiafgaaGreatDoorMK
import Derived.Test.YtcdjmpbdaiafgaaGreatDoorRoP
import Derived.Test.YtcdjmpbdaiafgaaGreatDoorMkC
import Derived.Test.YtcdjmpbdaiafgaaGreatDoorNets
import Derived.Test.YtcdjmpbdaiafgaaGreatDoorImN
namespace Go.Proofs.YtcdjmpbdaiafgaaGreatDoor
open Go.RowKit Go.Sort
set_option linter.unusedVariables false
set_option maxRecDepth 100000

theorem Mk.below {B C : Nat} {w0 w1 w : World} (h : Mk B w0 w1 w) (hC : C ≤ B) (hs : C ≤ w1.heap.size) : Below C w1 w :=
  ⟨h.os, h.tape, h.output, h.size, fun k hk => h.same k (by omega) (by omega)⟩
theorem row_keepC {C ty sz n : Nat} {w w' : World} {v : Value} {xs : List Value} (h : w.ownsRow C ty sz v n xs) (k : ∀ b, C ≤ b → b < w.heap.size → w'.heap[b]? = w.heap[b]?) : w'.ownsRow C ty sz v n xs := by
  obtain ⟨h1, h2⟩ := h
  refine ⟨h1, ?_⟩
  rcases h2 with h2 | ⟨g, cap, cur, hv, hg, hh, r⟩
  · exact Or.inl h2
  · exact Or.inr ⟨g, cap, cur, hv, hg, (k g hg (Array.getElem?_eq_some_iff.1 hh).1).trans hh, r⟩
theorem ResV.keepC {C : Nat} {w w' : World} {a b : Value} {R : Rs} {vs : List Value} (h : ResV C w a b R vs) (k : ∀ b, C ≤ b → b < w.heap.size → w'.heap[b]? = w.heap[b]?) : ResV C w' a b R vs :=
  ⟨h.len, row_keepC h.row k, fun i hi => row_keepC (h.seq i hi) k, h.ap, row_keepC h.drops k⟩
theorem seq_short {N : Nt} (hv : implValid N = true) : ∀ k, k ≤ N.rels.length → ∀ x ∈ (resTo (chP N) N.rels k).rules, x.seq.length ≤ 16002
  | 0, _, x, hx => by simp [resTo] at hx
  | k + 1, hk, x, hx => by
    have hx' : x ∈ (resStep (resTo (chP N) N.rels k) (rat N.rels k) (chP N (rat N.rels k))).rules := hx
    unfold resStep at hx'
    split at hx'
    · rename_i hr
      rcases List.mem_append.1 hx' with g | g
      · exact seq_short hv k (by omega) x g
      · have hone : (chP N (rat N.rels k)).length = 1 := by
          unfold reason at hr
          split at hr
          · omega
          · split at hr
            · omega
            · omega
        have := List.mem_singleton.1 g
        rw [this]
        show (nums _).length ≤ _
        rw [nums_len]
        exact (chP_ok hv (rel_g ((rels_in hv).rel k (by omega))) _ (lsat_one hone)).1
    · exact seq_short hv k (by omega) x hx'
theorem res_len (N : Nt) : (resOf N).rules.length ≤ 1000 ∧ (resOf N).drops.length ≤ 1000 ∧ ∀ i, i < (resOf N).rules.length → (ruat (resOf N).rules i).seq.length ≤ 1000000 := by
  cases hv : implValid N
  · have e : resOf N = ⟨[], []⟩ := by unfold resOf; rw [hv]; rfl
    rw [e]
    exact ⟨by simp, by simp, fun i hi => absurd hi (Nat.not_lt_zero _)⟩
  · rw [res_same hv]
    have h1 := resTo_len (chP N) N.rels N.rels.length
    have h2 := (rels_in hv).cnt
    refine ⟨by omega, by omega, fun i hi => ?_⟩
    have h3 := seq_short hv N.rels.length (Nat.le_refl _) _ (List.getElem_mem hi)
    rw [ruat_eq hi]
    omega

set_option maxHeartbeats 8000000 in
theorem reslaw_any (B : Nat) (v0 v1 v2 v3 : Value) (N : Nt) (w : World) (h0 : HNet B w v0 v1 v2 v3 N) (ht : TabW w) :
    Calls Tryz.prog 3 #[.agg #[v0, v1, v2, v3, .int .i64 N.uturn]] w fun e w' => e = .returned (.bool true) ∧ Nx w w' := by
  have HLN : Hid ((resOf N).rules.length ≤ 1000 ∧ (resOf N).drops.length ≤ 1000 ∧ ∀ i, i < (resOf N).rules.length → (ruat (resOf N).rules i).seq.length ≤ 1000000) := res_len N
  generalize hR : resOf N = R at HLN
  have HRE : Hid (resOf N = R) := hR
  have HT : Hid (TabW w) := ht
  clear hR ht
  go_enter Tryz.func3, Tryz.ntmps3
  go_wp2_with fail
  refine (szNet_any B _ _ _ _ N _ (by exact h0.next (box1 _ _))).mono ?_
  rintro e w1 ⟨⟨r, rfl, hr⟩, hx⟩
  have BA := (Blk.new w #[v0, v1, v2, v3, .int .i64 N.uturn] 27 _ rfl).next hx
  have HX : Hid (Nx w w1) := (box1 _ _).trans hx
  clear hx
  rcases hr with hr | ⟨hr, hsm, hws⟩
  · go_wp2
    go_ret
    exact ⟨rfl, HX.out⟩
  have HSM : Hid (Small N ∧ wsum N.ways N.ways.length ≤ 1048576) := ⟨hsm, hws⟩
  clear hsm hws
  have k0 := BA.cell (i := 0) rfl
  have k1 := BA.cell (i := 1) rfl
  have k2 := BA.cell (i := 2) rfl
  have k3 := BA.cell (i := 3) rfl
  have k4 := BA.cell (i := 4) rfl
  go_wp2_with fail
  refine (toNet_any B _ _ _ _ N _ (by exact h0.next HX.out) HSM.out.1).mono ?_
  rintro e w2 ⟨⟨a0, n0, c0, a1, n1, c1, a2, n2, c2, a3, n3, c3, rfl, hN⟩, hu⟩
  have hx := hu.nx
  have HX2 : Hid (Nx w w2) := HX.out.trans hx
  have BA2 := BA.next hx
  clear hx hu BA k0 k1 k2 k3 k4 HX
  go_wp2_with fail
  refine (specResolve_any _ _ _ _ _ N _ hN HSM.out.2).mono ?_
  rintro e w3 ⟨⟨u0, u1, rfl, hu, hd⟩, hx⟩
  rw [HRE.out] at hu hd
  have HU : Hid (HRu w3 u0 R.rules ∧ HDp w3 u1 R.drops) := ⟨hu.hru, hd.hdp⟩
  obtain ⟨b0, d0, hb0⟩ : ∃ a c, u0 = .slice a R.rules.length c := by obtain ⟨vs, _, hrow, _⟩ := hu; exact row_slice hrow
  obtain ⟨b1, d1, hb1⟩ := row_slice hd
  generalize R.rules.length = m0 at hb0
  generalize R.drops.length = m1 at hb1
  subst hb0 hb1
  have HX3 : Hid (Nx w w3) := HX2.out.trans hx
  have BA3 := BA2.next hx
  clear hx hu hd BA2 HX2 hN
  have k0 := BA3.cell (i := 0) rfl
  have k1 := BA3.cell (i := 1) rfl
  have k2 := BA3.cell (i := 2) rfl
  have k3 := BA3.cell (i := 3) rfl
  have k4 := BA3.cell (i := 4) rfl
  have BW3 := Blk.new w3 #[.slice b0 m0 d0, .slice b1 m1 d1] 32 _ rfl
  have BA3' := BA3.alloc (.cells #[.slice b0 m0 d0, .slice b1 m1 d1] 32)
  have hz3 := BA3.lt
  go_wp2_with fail
  refine (toNet_c B _ _ _ _ N _ (by exact h0.next (HX3.out.trans (box1 _ _))) HSM.out.1).mono ?_
  rintro e w4 ⟨⟨p0, s0, t0, p1, s1, t1, p2, s2, t2, p3, s3, t3, rfl, hN⟩, hu⟩
  have hx := hu.nx
  have HY4 : Hid (Nx (w3.alloc (.cells #[.slice b0 m0 d0, .slice b1 m1 d1] 32)) w4) := hx
  have HOP : Hid (∀ b, w3.heap.size + 1 ≤ b → b < w4.heap.size → Opn w4 b) := fun b hb => hu.op b (by simpa using hb)
  have HN4 : Hid (HNet (w3.heap.size + 1) w4 (.slice p0 s0 t0) (.slice p1 s1 t1) (.slice p2 s2 t2) (.slice p3 s3 t3) N) := by
    unfold Hid
    simpa using hN.net
  have HRC : Hid (HRelsC w4 (.slice p2 s2 t2) N.rels) := hN.caps
  have HZ4 : Hid (w3.heap.size + 1 ≤ w4.heap.size) := by have := hx.size; unfold Hid; simpa using this
  have HX4 : Hid (Nx w w4) := (HX3.out.trans (box1 _ _)).trans hx
  have HU4 : Hid (HRu w4 (.slice b0 m0 d0) R.rules ∧ HDp w4 (.slice b1 m1 d1) R.drops) := ⟨(HU.out.1.next (box1 _ _)).next hx, (HU.out.2.next (box1 _ _)).next hx⟩
  have BW4 := BW3.next hx
  have BA4 := BA3'.next hx
  have HBW : Hid (Blk w4 w3.heap.size #[.slice b0 m0 d0, .slice b1 m1 d1]) := BW4
  have HBA : Hid (Blk w4 w.heap.size #[v0, v1, v2, v3, .int .i64 N.uturn]) := BA4
  have HY34 : Hid (Nx w3 w4) := (box1 _ _).trans hx
  clear hx hu hN k0 k1 k2 k3 k4 BA3 BA3' BW3 HY4
  go_wp2_with fail
  have BX := Blk.new w4 #[.slice p0 s0 t0, .slice p1 s1 t1, .slice p2 s2 t2, .slice p3 s3 t3, .int .i64 N.uturn] 38 _ rfl
  refine (implResolve_any _ _ _ _ _ N _ (by exact HN4.out.next (box1 _ _)) (by exact HRC.out.next (box1 _ _)) HSM.out.2 (by exact HT.out.next (HX4.out.trans (box1 _ _)))).mono ?_
  rintro e w5 ⟨⟨g0, g1, rfl, hg⟩, hx⟩
  rw [HRE.out] at hg
  rw [size_alloc'] at hg
  obtain ⟨vs, hvs⟩ := ResV.of hg.1 hg.2
  have HG5 : Hid (ResV (w4.heap.size + 1) w5 g0 g1 R vs) := hvs
  obtain ⟨x0, z0, hx0⟩ := hg.1.slice
  obtain ⟨x1, z1, hx1⟩ := row_slice hg.2
  generalize R.rules.length = y0 at hx0
  generalize R.drops.length = y1 at hx1
  subst hx0 hx1
  have HY5 : Hid (Nx w4 w5) := (box1 _ _).trans hx
  have BX5 := BX.next hx
  have BA5 := HBA.out.next HY5.out
  have BW5 := HBW.out.next HY5.out
  have HX5 : Hid (Nx w w5) := HX4.out.trans HY5.out
  clear hx hg hvs BX BA4 BW4
  have BG := Blk.new w5 #[.slice x0 y0 z0, .slice x1 y1 z1] 32 _ rfl
  have BW5' := BW5.alloc (.cells #[.slice x0 y0 z0, .slice x1 y1 z1] 32)
  have BX5' := BX5.alloc (.cells #[.slice x0 y0 z0, .slice x1 y1 z1] 32)
  have BA5' := BA5.alloc (.cells #[.slice x0 y0 z0, .slice x1 y1 z1] 32)
  have q0 := BW5'.cell (i := 0) rfl
  have q1 := BW5'.cell (i := 1) rfl
  have hzw := BW5.lt
  go_wp2_with fail
  refine (eqRes_same _ _ _ _ R _ (by exact (HG5.out.own.hru).next (box1 _ _)) (by exact (HG5.out.drops.hdp).next (box1 _ _)) (by exact (HU4.out.1.next HY5.out).next (box1 _ _)) (by exact (HU4.out.2.next HY5.out).next (box1 _ _))).mono ?_
  rintro e w6 ⟨rfl, hx⟩
  have HY6 : Hid (Nx w4 w6) := (HY5.out.trans (box1 _ _)).trans hx
  have HG6 : Hid (ResV (w4.heap.size + 1) w6 (.slice x0 y0 z0) (.slice x1 y1 z1) R vs) := HG5.out.keepC fun b _ hb => (((box1 _ _).trans hx).block b hb)
  have BX6 := BX5'.next hx
  have BA6 := BA5'.next hx
  have BG6 := BG.next hx
  have HZ5 : Hid (w4.heap.size + 1 ≤ w5.heap.size) := by have := BX5.lt; unfold Hid; omega
  have hmk5 := RMk.of HG5.out HLN.out.1 HLN.out.2.1 HLN.out.2.2
  have HGL : Hid (∀ g, inM (.slice x0 y0 z0) (.slice x1 y1 z1) R.rules.length (vat vs) g → g < w5.heap.size) := fun g hg => (hmk5.lt g hg).2
  clear hx BG BW5' BX5' BA5' BW5 BX5 BA5 q0 q1 hzw hmk5
  have k0 := BA6.cell (i := 0) rfl
  have k1 := BA6.cell (i := 1) rfl
  have k2 := BA6.cell (i := 2) rfl
  have k3 := BA6.cell (i := 3) rfl
  have k4 := BA6.cell (i := 4) rfl
  have l0 := BX6.cell (i := 0) rfl
  have l1 := BX6.cell (i := 1) rfl
  have l2 := BX6.cell (i := 2) rfl
  have l3 := BX6.cell (i := 3) rfl
  have l4 := BX6.cell (i := 4) rfl
  have BD := BX6.drew
  have BGD := BG6.drew
  clear BX6 BA6 BG6
  go_wp2
  have HXD : Hid (Nx w w6.drew) := (HX4.out.trans HY6.out).drew
  have HND : Hid (HNet (w3.heap.size + 1) w6.drew (.slice p0 s0 t0) (.slice p1 s1 t1) (.slice p2 s2 t2) (.slice p3 s3 t3) N) := HN4.out.next HY6.out.drew
  go_region_with (first
    | (go_at_call 7; refine (toNet_any B _ _ _ _ N _ (by exact h0.next HXD.out) HSM.out.1).mono ?_; rintro e w7 ⟨⟨y0', i0, z0', y1', i1, z1', y2', i2, z2', y3', i3, z3', rfl, hN6⟩, hu7⟩; have BE := BD.next hu7.nx; have q0 := BE.cell (i := 0) rfl; have q1 := BE.cell (i := 1) rfl; have q2 := BE.cell (i := 2) rfl; have q3 := BE.cell (i := 3) rfl; have q4 := BE.cell (i := 4) rfl)
    | (go_at_call 10; refine (eqNet_same _ _ _ _ _ _ _ _ _ _ N _ (by exact HND.out.next hu7.nx) (by exact hN6)).mono ?_; rintro e w8 ⟨rfl, hx8⟩))
  all_goals
    have HD8 : Hid (Nx w6.drew w8) := hu7.nx.trans hx8
    have HY8 : Hid (Nx w4 w8) := HY6.out.drew.trans HD8.out
    have HG8 : Hid (ResV (w4.heap.size + 1) w8 (.slice x0 y0 z0) (.slice x1 y1 z1) R vs) := HG6.out.keepC fun b _ hb => HD8.out.block b hb
    have BX8 := BD.next HD8.out
    have BG8 := BGD.next HD8.out
    have HM8 : Hid (Mk (w3.heap.size + 1) w4 w8 w8) := Mk.start HY8.out HOP.out
    clear hx8 hu7 hN6 BE BD BGD q0 q1 q2 q3 q4 k0 k1 k2 k3 k4 l0 l1 l2 l3 l4 HND HXD HD8
    have l0 := BX8.cell (i := 0) rfl
    have l1 := BX8.cell (i := 1) rfl
    have l2 := BX8.cell (i := 2) rfl
    have l3 := BX8.cell (i := 3) rfl
    have l4 := BX8.cell (i := 4) rfl
    go_wp2_with fail
    refine (markNet_any (w3.heap.size + 1) w4 w8 _ _ _ _ N _ HN4.out HM8.out HSM.out.1).mono ?_
    rintro e w9 ⟨⟨k9, rfl, hk9⟩, hm⟩
    have hk9' : ¬ k9 < 0 := by omega
    have hz8 : w4.heap.size ≤ w8.heap.size := HY8.out.size
    have HL9 : Hid (Below (w3.heap.size + 1) w4 w9) := Below.trans (Below.mono HY8.out HZ4.out) (hm.below (Nat.le_refl _) (by have := HZ4.out; omega))
    have HG9 : Hid (ResV (w4.heap.size + 1) w9 (.slice x0 y0 z0) (.slice x1 y1 z1) R vs) := HG8.out.keepC fun b hb hs => hm.same b hs (by omega)
    have BG9 : Blk w9 w5.heap.size #[.slice x0 y0 z0, .slice x1 y1 z1] := by
      have hl := BG8.lt
      obtain ⟨t, hb⟩ := BG8
      exact ⟨t, (hm.same _ hl (by have := HZ5.out; omega)).trans hb⟩
    have lowBlk : ∀ b cs, b < w3.heap.size + 1 → Blk w4 b cs → Blk w9 b cs := fun b cs hb hB => by
      obtain ⟨t, h⟩ := hB
      exact ⟨t, (HL9.out.block b hb).trans h⟩
    have BW9 := lowBlk _ _ (Nat.lt_succ_self _) HBW.out
    have HW9 : Hid (Nx w3 w9) := Below.trans HY34.out (Below.mono HL9.out (Nat.le_succ _))
    have HZ9 : Hid (w8.heap.size ≤ w9.heap.size) := hm.size
    clear hm BX8 l0 l1 l2 l3 l4 HM8 HG8 BG8 lowBlk
    have r0 := BG9.cell (i := 0) rfl
    have r1 := BG9.cell (i := 1) rfl
    have q0 := BW9.cell (i := 0) rfl
    have q1 := BW9.cell (i := 1) rfl
    go_wp2_with fail
    refine (eqRes_same _ _ _ _ R _ (by exact HG9.out.own.hru) (by exact HG9.out.drops.hdp) (by exact HU.out.1.next HW9.out) (by exact HU.out.2.next HW9.out)).mono ?_
    rintro e w10 ⟨rfl, hx⟩
    have HG10 : Hid (ResV (w4.heap.size + 1) w10 (.slice x0 y0 z0) (.slice x1 y1 z1) R vs) := HG9.out.keepC fun b _ hb => hx.block b hb
    have BG10 := BG9.next hx
    have HW10 : Hid (Nx w3 w10) := HW9.out.trans hx
    have HL10 : Hid (Below (w3.heap.size + 1) w4 w10) := Below.trans HL9.out (Below.mono hx (by have := HZ4.out; have := HL9.out.size; omega))
    clear hx HG9 BG9 BW9 HW9 HL9 r0 r1 q0 q1
    have r0 := BG10.cell (i := 0) rfl
    have r1 := BG10.cell (i := 1) rfl
    have HMK : Hid (RMk (w4.heap.size + 1) w10 (.slice x0 y0 z0) (.slice x1 y1 z1) R.rules.length (vat vs) (fun i => (ruat R.rules i).seq.length) R.drops.length) := RMk.of HG10.out HLN.out.1 HLN.out.2.1 HLN.out.2.2
    have hz10 : w4.heap.size + 1 ≤ w10.heap.size := by have := BG10.lt; have := HZ5.out; omega
    go_wp2_with fail
    refine (markRes_any (w4.heap.size + 1) _ _ _ (vat vs) _ _ _ HMK.out).mono ?_
    rintro e w11 ⟨rfl, ⟨s0', s1', s2'⟩, hc11⟩
    have HS0 := mkHid s0'
    have HS1 := mkHid s1'
    have HS2 := mkHid s2'
    have BG11 : Blk w11 w5.heap.size #[.slice x0 y0 z0, .slice x1 y1 z1] := by
      have hl := BG10.lt
      obtain ⟨t, hb⟩ := BG10
      exact ⟨t, (hc11.block _ hl (fun x => Nat.lt_irrefl _ (HGL.out _ x))).trans hb⟩
    have HL11 : Hid (Below (w3.heap.size + 1) w4 w11) := Below.trans HL10.out ⟨hc11.os, hc11.tape, hc11.output, hc11.size, fun b hb => hc11.block b (by have := HZ4.out; omega) (fun x => by have := (HMK.out.lt b x).1; have := HZ4.out; omega)⟩
    clear s0' s1' s2' hc11 BG10 r0 r1 HG10 HW10 HL10
    have r0 := BG11.cell (i := 0) rfl
    have r1 := BG11.cell (i := 1) rfl
    generalize hKN : kTo 1 (fun i => (ruat R.rules i).seq.length) R.rules.length = kn at *
    have HKN : Hid (1 ≤ kn ∧ kn ≤ 1 + 1000002 * R.rules.length) := by
      have := kTo_le (k := 1) HMK.out.hL R.rules.length (Nat.le_refl _)
      rw [hKN] at this
      exact this
    go_wp2_with fail
    refine (heldRes_any _ _ R.rules.length (vat vs) (fun i => (ruat R.rules i).seq.length) R.drops.length _ HS0.out HS1.out (by rw [hKN]; exact HS2.out) HLN.out.1 HLN.out.2.1 HLN.out.2.2).mono ?_
    rintro e w12 ⟨rfl, hx⟩
    rw [hKN]
    have HL12 : Hid (Below (w3.heap.size + 1) w4 w12) := Below.trans HL11.out (Below.mono hx (by have := HZ4.out; have := HL11.out.size; omega))
    clear hx BG11 r0 r1 HS0 HS1 HS2 HL11 hKN
    have HXW : Hid (Nx w3 w12) := Below.trans HY34.out (Below.mono HL12.out (Nat.le_succ _))
    have HX12 : Hid (Nx w w12) := HX3.out.trans HXW.out
    have hzb : w.heap.size < w3.heap.size + 1 := by omega
    have BA12 : Blk w12 w.heap.size #[v0, v1, v2, v3, .int .i64 N.uturn] := by
      obtain ⟨t, hb⟩ := HBA.out
      exact ⟨t, (HL12.out.block _ hzb).trans hb⟩
    have BW12 : Blk w12 w3.heap.size #[.slice b0 m0 d0, .slice b1 m1 d1] := by
      obtain ⟨t, hb⟩ := HBW.out
      exact ⟨t, (HL12.out.block _ (Nat.lt_succ_self _)).trans hb⟩
    have k0 := BA12.cell (i := 0) rfl
    have k1 := BA12.cell (i := 1) rfl
    have k2 := BA12.cell (i := 2) rfl
    have k3 := BA12.cell (i := 3) rfl
    have k4 := BA12.cell (i := 4) rfl
    have hkn := HKN.out
    have hq : ((kn + 2 * (R.drops.length : Int)) != kn + 2 * (R.drops.length : Int)) = false := by simp
    have hq2 : ¬ (kn + 2 * (R.drops.length : Int) < 0) := by omega
    go_wp2_with fail
    refine (toNet_c B _ _ _ _ N _ (by exact h0.next HX12.out) HSM.out.1).mono ?_
    rintro e w13 ⟨⟨f0, i0', j0', f1, i1', j1', f2, i2', j2', f3, i3', j3', rfl, hN7⟩, hu8⟩
    have HXW13 : Hid (Nx w3 w13) := HXW.out.trans hu8.nx
    have BW13 := BW12.next hu8.nx
    clear hu8 BA12 BW12 k0 k1 k2 k3 k4
    go_wp2_with fail
    refine (implResolve_any _ _ _ _ _ N _ (by exact hN7.net) (by exact hN7.caps) HSM.out.2 (HT.out.next (HX3.out.trans HXW13.out))).mono ?_
    rintro e w14 ⟨⟨h0', h1', rfl, hg2, hg3⟩, hx⟩
    rw [HRE.out] at hg2 hg3
    have HH : Hid (HRu w14 h0' R.rules ∧ HDp w14 h1' R.drops) := ⟨hg2.hru, hg3.hdp⟩
    obtain ⟨x0', z0'', hx0⟩ := hg2.slice
    obtain ⟨x1', z1'', hx1⟩ := row_slice hg3
    generalize R.rules.length = y0'' at hx0
    generalize R.drops.length = y1'' at hx1
    subst hx0 hx1
    have HXW14 : Hid (Nx w3 w14) := HXW13.out.trans hx
    have BW14 := BW13.next hx
    clear hx hN7 hg2 hg3 BW13
    have q0 := BW14.cell (i := 0) rfl
    have q1 := BW14.cell (i := 1) rfl
    have hzw := BW14.lt
    go_wp2_with fail
    refine (eqRes_same _ _ _ _ R _ (by exact HH.out.1.next (box1 _ _)) (by exact HH.out.2.next (box1 _ _)) (by exact (HU.out.1.next HXW14.out).next (box1 _ _)) (by exact (HU.out.2.next HXW14.out).next (box1 _ _))).mono ?_
    rintro e w15 ⟨rfl, hx⟩
    go_wp2
    go_ret
    exact ⟨rfl, HX3.out.trans ((HXW14.out.trans (box1 _ _)).trans hx)⟩
end Go.Proofs.YtcdjmpbdaiafgaaGreatDoor
