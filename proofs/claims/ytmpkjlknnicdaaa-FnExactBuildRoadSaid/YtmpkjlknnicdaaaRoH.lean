import Derived.Test.YtmpkjlknnicdaaaRoK
namespace Go.Proofs.Ytmpkjlknnicdaaa
open Go.RowKit
set_option linter.unusedVariables false
set_option maxRecDepth 100000

set_option maxHeartbeats 8000000 in
theorem layEdges_any (B0 : Nat) (v0 v1 v2 v3 : Value) (N : Nt) (w : World) (h0 : HNet B0 w v0 v1 v2 v3 N) (hs : wsum N.ways N.ways.length ≤ 1048576) (hv : implValid N = true) :
    Calls Try.prog 40 #[.agg #[v0, v1, v2, v3, .int .i64 N.uturn]] w fun e w' => (∃ v', e = .returned v' ∧ OwnE w.heap.size w' v' (E1 N)) ∧ Nx w w' := by
  obtain ⟨ii, hi, hz0, hz1, hz2⟩ := info_parts infoEdge
  have HN : Hid (RoadIn N) := road_in hv
  have HS : Hid (wsum N.ways N.ways.length ≤ 1048576) := hs
  clear hv hs
  obtain ⟨i0, i1, i2, i3⟩ := h0
  have HI0 : Hid (HInts B0 w v0 N.nodes) := i0
  have HI1 : Hid (HWays B0 w v1 N.ways) := i1
  obtain ⟨a1, c1, rfl, hn1, hk1⟩ := i1
  unfold maxLen at hn1
  clear i0 i2 i3
  have hed := HN.out.ed
  generalize hm1 : N.ways.length = m1 at *
  have HM1 : Hid (N.ways.length = m1) := hm1
  clear hm1
  have hmk : ∀ (w : World) (n : Nat), n ≤ 4000 → (Instr.makeSlice 38 (.int .i64 0) (.int .i64 (n : Int))).run Try.prog w = .ok (.slice (some ⟨w.heap.size, 0, none⟩) 0 n) (w.alloc (.cells (madeCells (Value.agg #[.int .i64 0, .int .i64 0, .int .i64 0, .int .i64 0, .int .i64 0, .bool false, .int .i64 0]).cells (n * 7)) 70)) := by
    intro w n hn
    have hr := run_make (P := Try.prog) w 38 70 ii _ Try.underlying38 hi hz0 .i64 .i64 0 n (by omega) (by omega) (by rw [hz2]; omega) (by omega)
    simpa [hz1] using hr
  go_enter Try.func40, Try.ntmps40
  go_wp2_with fail
  refine (countEdges_any B0 _ _ _ _ _ N.ways _ (by exact HI1.out.keep ((box1 _ _).keeps B0)) (by rw [HM1.out]; exact HS.out)).mono ?_
  rintro e w1 ⟨rfl, hx⟩
  have BA : BlkE w1 w.heap.size #[v0, .slice a1 m1 c1, v2, v3, .int .i64 N.uturn] := (BlkE.new w _ 34 _ (by decide) rfl).keep (B := w.heap.size) (Ge.of_nx hx (by simp))
  have HX1 : Hid (Nx w w1) := (box1 _ _).trans hx
  clear hx
  rw [HM1.out]
  have hmk1 := hmk w1 (edTo N.ways m1) hed
  have kk0 := BA.blk.cell (i := 1) rfl
  have hsz1 := BA.blk.lt
  have HE : Hid (edTo N.ways m1 ≤ 4000) := hed
  have HO0 : Hid (OwnE w.heap.size (w1.alloc (.cells (madeCells (Value.agg #[.int .i64 0, .int .i64 0, .int .i64 0, .int .i64 0, .int .i64 0, .bool false, .int .i64 0]).cells (edTo N.ways m1 * 7)) 70)) (.slice (some ⟨w1.heap.size, 0, none⟩) 0 (edTo N.ways m1)) []) :=
    ownE_made _ _ _ _ HX1.out.size (by unfold maxLen; omega) (size_madeCells _ _)
  generalize hE : edTo N.ways m1 = E at *
  clear hmk hE
  go_wp2
  clear kk0
  go_loopw [3, 4, 5, 6, 7, 8, 9, 10, 17] (fun es p4 p5 p6 p7 p8 p9 p10 i wr => ∃ k : Nat, k ≤ m1 ∧ i = .int .i64 k ∧ Hid (OwnE w.heap.size wr es (lay (sg1 N) (nsN N) k)) ∧ Hid (Ge w.heap.size w1 wr)) (fun _ _ _ _ _ _ _ _ i _ => m1 - (intOf i).toNat)
  case atStart => exact ⟨0, Nat.zero_le _, rfl, HO0, (Ge.refl _ _).alloc HX1.out.size _⟩
  clear HO0 hmk1
  obtain ⟨k, hkn, rfl, HO, HG⟩ := hrel
  have HGA : Hid (Ge w.heap.size w wr) := (Ge.of_nx HX1.out (Nat.le_refl _)).trans HG.out
  have HB : Hid (w.heap.size ≤ wr.heap.size) := HGA.out.1.size
  by_cases hlt : k < m1
  · obtain ⟨b, off, rfl, hB, hb, hc⟩ := hk1 (by omega)
    obtain ⟨p1, p2, d0, d1, d2, d3, n1, n2⟩ := hc k hlt
    have HM2 : Hid (HInts B0 w p1 (wat N.ways k).nodes) := n1
    have HM3 : Hid (HInts B0 w p2 (wat N.ways k).weights) := n2
    have HWL : Hid ((wat N.ways k).nodes.length = (wat N.ways k).weights.length + 1) := HN.out.len k (by rw [HM1.out]; exact hlt)
    have HWS : Hid ((wat N.ways k).weights.length ≤ 100) := HN.out.seg k (by rw [HM1.out]; exact hlt)
    have HWH : Hid (∀ j, j < (wat N.ways k).nodes.length → hasI N.nodes (iat (wat N.ways k).nodes j) = true) := fun j hj => HN.out.has k j (by rw [HM1.out]; exact hlt) hj
    have HLE : Hid (∀ q, q ≤ (wat N.ways k).weights.length → (wlay (sg1 N) k (lay (sg1 N) (nsN N) k) q).length ≤ 4000) := fun q hq => wlay_le HN.out (by rw [HM1.out]; exact hlt) hq
    have HLS : Hid (lay (sg1 N) (nsN N) (k + 1) = wlay (sg1 N) k (lay (sg1 N) (nsN N) k) (wat N.ways k).weights.length) := rfl
    have HSG : Hid (∀ o j, sg1 N k o j = if (wat N.ways k).both then [fwd N k j ((o : Int) + 1), bwd N k j o] else [fwd N k j (-1)]) := fun o j => rfl
    have HFW : Hid (∀ j t, fwd N k j t = ⟨pos N.nodes (iat (wat N.ways k).nodes j), pos N.nodes (iat (wat N.ways k).nodes (j + 1)), iat (wat N.ways k).weights j, k, j, false, t⟩) := fun j t => rfl
    have HBW : Hid (∀ j t, bwd N k j t = ⟨pos N.nodes (iat (wat N.ways k).nodes (j + 1)), pos N.nodes (iat (wat N.ways k).nodes j), iat (wat N.ways k).weights j, k, j, true, t⟩) := fun j t => rfl
    obtain ⟨an, cn, rfl, _⟩ := n1.slice
    obtain ⟨aw, cw, rfl, _⟩ := n2.slice
    have d0 := cell_next HGA.out.1 hb d0
    have d1 := cell_next HGA.out.1 hb d1
    have d2 := cell_next HGA.out.1 hb d2
    have d3 := cell_next HGA.out.1 hb d3
    have hlt' : (k : Int) < m1 := by omega
    have hbr : b < wr.heap.size := Nat.lt_of_lt_of_le hb HB.out
    generalize hxx : wat N.ways k = x at *
    generalize hq1 : x.nodes.length = q1 at *
    generalize hq2 : x.weights.length = q2 at *
    clear hc hk1 n1 n2 hxx hq1 hq2
    have HBX : Hid (BlkE (wr.alloc (.cells #[.int .i64 x.id, .bool x.both, .slice an q1 cn, .slice aw q2 cw] 52)) wr.heap.size #[.int .i64 x.id, .bool x.both, .slice an q1 cn, .slice aw q2 cw]) := BlkE.new _ _ _ _ (by decide) rfl
    have HBN : Hid (BlkE wr w.heap.size #[v0, .slice (some ⟨b, off, none⟩) m1 c1, v2, v3, .int .i64 N.uturn]) := BA.keep HG.out
    go_wp2
    clear d0 d1 d2 d3
    rename World => wo
    go_loopw [3, 6, 7, 8, 9, 10, 25] (fun es p6 p7 p8 p9 p10 j wi => ∃ q : Nat, q ≤ q2 ∧ j = .int .i64 q ∧ Hid (OwnE w.heap.size wi es (wlay (sg1 N) k (lay (sg1 N) (nsN N) k) q)) ∧ Hid (Ge w.heap.size (wo.alloc (.cells #[.int .i64 x.id, .bool x.both, .slice an q1 cn, .slice aw q2 cw] 52)) wi)) (fun _ _ _ _ _ _ j _ => q2 - (intOf j).toNat)
    case atStart => exact ⟨0, Nat.zero_le _, rfl, HO.out.alloc _, Ge.refl _ _⟩
    obtain ⟨q, hqn, rfl, HOI, HGI⟩ := hrel
    have HGI2 : Hid (Ge w.heap.size w wr) := (HGA.out.alloc HB.out _).trans HGI.out
    have HBI : Hid (w.heap.size ≤ wr.heap.size) := HGI2.out.1.size
    have BNI := (HBN.out.keep (B := w.heap.size) ((Ge.refl _ _).alloc HB.out _)).keep HGI.out
    have BXI := HBX.out.keep HGI.out
    by_cases hjl : q < q2
    · obtain ⟨bw, ow, haw, hbw, cw0⟩ := cell_of' HM3.out HGI2.out.1 (i := q) hjl
      subst haw
      obtain ⟨bn, on, han, hbn, cn0⟩ := cell_of' HM2.out HGI2.out.1 (i := q) (by have := HWL.out; omega)
      subst han
      obtain ⟨bn', on', han', _, cn1⟩ := cell_of' HM2.out HGI2.out.1 (i := q + 1) (by have := HWL.out; omega)
      simp only [Option.some.injEq, Addr.mk.injEq] at han'
      obtain ⟨e1, e2, _⟩ := han'
      rw [← e1, ← e2] at cn1
      clear e1 e2
      obtain ⟨ae, ce, hes, _⟩ := HOI.out.slice
      subst hes
      have hlen := HLE.out q hqn
      have HH0 : Hid (hasI N.nodes (iat x.nodes q) = true) := HWH.out q (by have := HWL.out; omega)
      have HH1 : Hid (hasI N.nodes (iat x.nodes (q + 1)) = true) := HWH.out (q + 1) (by have := HWL.out; omega)
      have HID : Hid (HInts B0 wr.drew v0 N.nodes) := HI0.out.next HGI2.out.1.drew
      have hx1 := BXI.blk.cell (i := 1) rfl
      have hx2 := BXI.blk.cell (i := 2) rfl
      have hx3 := BXI.blk.cell (i := 3) rfl
      have N0 := BNI.blk.cell (i := 0) rfl
      have N1 := BNI.blk.cell (i := 1) rfl
      have N2 := BNI.blk.cell (i := 2) rfl
      have N3 := BNI.blk.cell (i := 3) rfl
      have N4 := BNI.blk.cell (i := 4) rfl
      have HNB : Hid (w.heap.size < wr.heap.size) := BNI.blk.lt
      have HXB : Hid (wo.heap.size < wr.heap.size) := BXI.blk.lt
      have HNW : Hid (bn < wr.heap.size) := Nat.lt_of_lt_of_le hbn HBI.out
      have HX1' : Hid (wr.cell? ⟨wo.heap.size, 1, none⟩ = some (.bool x.both)) := hx1
      have HC : Hid ((wr.cell? ⟨w.heap.size, 0, none⟩ = some v0 ∧ wr.cell? ⟨w.heap.size, 1, none⟩ = some (.slice (some ⟨b, off, none⟩) m1 c1) ∧ wr.cell? ⟨w.heap.size, 2, none⟩ = some v2 ∧ wr.cell? ⟨w.heap.size, 3, none⟩ = some v3 ∧ wr.cell? ⟨w.heap.size, 4, none⟩ = some (.int .i64 N.uturn)) ∧ wr.cell? ⟨wo.heap.size, 2, none⟩ = some (.slice (some ⟨bn, on, none⟩) q1 cn) ∧ wr.cell? ⟨bn, on + q, none⟩ = some (.int .i64 (iat x.nodes q)) ∧ wr.cell? ⟨bn, on + (q + 1), none⟩ = some (.int .i64 (iat x.nodes (q + 1)))) := ⟨⟨N0, N1, N2, N3, N4⟩, hx2, cn0, cn1⟩
      generalize hL : (wlay (sg1 N) k (lay (sg1 N) (nsN N) k) q).length = L at *
      have HL : Hid ((wlay (sg1 N) k (lay (sg1 N) (nsN N) k) q).length = L) := hL
      have hjl' : (q : Int) < q2 := by omega
      have hjl1 : (q : Int) < q1 := by have := HWL.out; omega
      have hjl2 : (q : Int) + 1 < q1 := by have := HWL.out; omega
      have hq100 : q2 ≤ 100 := HWS.out
      have hwr : IntKind.i64.wrap ((q : Int) + 1) = (q : Int) + 1 := by rw [IntKind.wrap_i64]; omega
      have hwn : ((q : Int) + 1).toNat = q + 1 := by omega
      have hwm : ¬ (q : Int) + 1 < 0 := by omega
      have hw0 : (0 : Int) ≤ (q : Int) + 1 := by omega
      have hw9 : (0 : Int) ≤ (q : Int) := by omega
      have nr0 := World.new_ne wr _ N0
      have nr5 := World.new_ne wr _ hx2
      have nr6 := World.new_ne wr _ cn0
      clear hL HLE BNI BXI
      go_upto_region 9 with fail
      go_cut [9, 25] from 25 to 76 (fun s9 s25 wc => ∃ gf, s9 = .pointer (some ⟨gf, 0, none⟩) ∧ s25 = .int .i64 q ∧ Hid (Nx wr wc) ∧ Hid (wr.heap.size ≤ gf) ∧ Hid (FB wc gf ⟨pos N.nodes (iat x.nodes q), pos N.nodes (iat x.nodes (q + 1)), iat x.weights q, k, q, false, -1⟩))
      case first =>
        go_region_held3 (fun w' => w'.cell? ⟨w.heap.size, 0, none⟩ = some v0 ∧ w'.cell? ⟨w.heap.size, 1, none⟩ = some (.slice (some ⟨b, off, none⟩) m1 c1) ∧ w'.cell? ⟨w.heap.size, 2, none⟩ = some v2 ∧ w'.cell? ⟨w.heap.size, 3, none⟩ = some v3 ∧ w'.cell? ⟨w.heap.size, 4, none⟩ = some (.int .i64 N.uturn) ∧ w'.cell? ⟨wo.heap.size, 2, none⟩ = some (.slice (some ⟨bn, on, none⟩) q1 cn) ∧ w'.cell? ⟨bn, on + q, none⟩ = some (.int .i64 (iat x.nodes q)) ∧ w'.cell? ⟨bn, on + (q + 1), none⟩ = some (.int .i64 (iat x.nodes (q + 1)))) (go_keep) (first
          | (go_at_call 75; refine (position_any B0 _ _ _ _ _ _ N.nodes _ (by with_reducible exact HID.out.next hxa) HN.out.asc (by first | exact HH0.out | exact HH1.out)).mono ?_; rintro e wb ⟨rfl, hxb⟩; have hxc := hxa.trans hxb; have BF2 := BF1.next hxb; have g0 := BF2.cell (i := 0) rfl; have g1 := BF2.cell (i := 1) rfl; have g2 := BF2.cell (i := 2) rfl; have g3 := BF2.cell (i := 3) rfl; have g4 := BF2.cell (i := 4) rfl; have g5 := BF2.cell (i := 5) rfl; have g6 := BF2.cell (i := 6) rfl; have z0 := BF2.frozen 0; have z1 := BF2.frozen 1; have z2 := BF2.frozen 2; have z3 := BF2.frozen 3; have z4 := BF2.frozen 4; have z5 := BF2.frozen 5; have z6 := BF2.frozen 6; have t0 := cell_next hxc HNB.out HC.out.1.1; have t1 := cell_next hxc HNB.out HC.out.1.2.1; have t2 := cell_next hxc HNB.out HC.out.1.2.2.1; have t3 := cell_next hxc HNB.out HC.out.1.2.2.2.1; have t4 := cell_next hxc HNB.out HC.out.1.2.2.2.2; have t5 := cell_next hxc HXB.out HC.out.2.1; have t6 := cell_next hxc HNW.out HC.out.2.2.1; have t7 := cell_next hxc HNW.out HC.out.2.2.2; have nn0 := World.new_ne wb _ t0; have nn5 := World.new_ne wb _ t5; have nn6 := World.new_ne wb _ t6)
          | (go_at_call 75; refine (position_any B0 _ _ _ _ _ _ N.nodes _ (by with_reducible exact HID.out.next hxa) HN.out.asc (by first | exact HH0.out | exact HH1.out)).mono ?_; rintro e wb ⟨rfl, hxb⟩; have hxc := hxa.trans hxb; have t0 := cell_next hxc HNB.out HC.out.1.1; have t1 := cell_next hxc HNB.out HC.out.1.2.1; have t2 := cell_next hxc HNB.out HC.out.1.2.2.1; have t3 := cell_next hxc HNB.out HC.out.1.2.2.2.1; have t4 := cell_next hxc HNB.out HC.out.1.2.2.2.2; have t5 := cell_next hxc HXB.out HC.out.2.1; have t6 := cell_next hxc HNW.out HC.out.2.2.1; have t7 := cell_next hxc HNW.out HC.out.2.2.2; have nn0 := World.new_ne wb _ t0; have nn5 := World.new_ne wb _ t5; have nn6 := World.new_ne wb _ t6)
          | (go_at_call 75; refine (position_any B0 _ _ _ _ _ _ N.nodes _ (by with_reducible exact HID.out.next (hxa.alloc _)) HN.out.asc (by first | exact HH0.out | exact HH1.out)).mono ?_; rintro e wb ⟨rfl, hxb⟩; have hxc := (hxa.alloc _).trans hxb; have BF2 := (Blk.new wa _ 70 wa.heap.size rfl).next hxb; have g0 := BF2.cell (i := 0) rfl; have g1 := BF2.cell (i := 1) rfl; have g2 := BF2.cell (i := 2) rfl; have g3 := BF2.cell (i := 3) rfl; have g4 := BF2.cell (i := 4) rfl; have g5 := BF2.cell (i := 5) rfl; have g6 := BF2.cell (i := 6) rfl; have z0 := BF2.frozen 0; have z1 := BF2.frozen 1; have z2 := BF2.frozen 2; have z3 := BF2.frozen 3; have z4 := BF2.frozen 4; have z5 := BF2.frozen 5; have z6 := BF2.frozen 6; have t0 := cell_next hxc HNB.out HC.out.1.1; have t1 := cell_next hxc HNB.out HC.out.1.2.1; have t2 := cell_next hxc HNB.out HC.out.1.2.2.1; have t3 := cell_next hxc HNB.out HC.out.1.2.2.2.1; have t4 := cell_next hxc HNB.out HC.out.1.2.2.2.2; have t5 := cell_next hxc HXB.out HC.out.2.1; have t6 := cell_next hxc HNW.out HC.out.2.2.1; have t7 := cell_next hxc HNW.out HC.out.2.2.2; have nn0 := World.new_ne wb _ t0; have nn5 := World.new_ne wb _ t5; have nn6 := World.new_ne wb _ t6)
          | (go_at_call 75; refine (position_any B0 _ _ _ _ _ _ N.nodes _ (by with_reducible exact HID.out) HN.out.asc (by first | exact HH0.out | exact HH1.out)).mono ?_; rintro e wa ⟨rfl, hxa⟩; have s0 := cell_next hxa HNB.out HC.out.1.1; have s1 := cell_next hxa HNB.out HC.out.1.2.1; have s2 := cell_next hxa HNB.out HC.out.1.2.2.1; have s3 := cell_next hxa HNB.out HC.out.1.2.2.2.1; have s4 := cell_next hxa HNB.out HC.out.1.2.2.2.2; have s5 := cell_next hxa HXB.out HC.out.2.1; have s6 := cell_next hxa HNW.out HC.out.2.2.1; have s7 := cell_next hxa HNW.out HC.out.2.2.2; have na0 := World.new_ne wa _ s0; have na5 := World.new_ne wa _ s5; have na6 := World.new_ne wa _ s6)
          | (go_at_call 75; refine (position_any B0 _ _ _ _ _ _ N.nodes _ (by with_reducible exact HID.out.next (box1 _ _)) HN.out.asc (by first | exact HH0.out | exact HH1.out)).mono ?_; rintro e wa ⟨rfl, hxa0⟩; have hxa := (box1 wr.drew _).trans hxa0; have BF1 := (Blk.new wr.drew _ 70 wr.heap.size rfl).next hxa0; have s0 := cell_next hxa HNB.out HC.out.1.1; have s1 := cell_next hxa HNB.out HC.out.1.2.1; have s2 := cell_next hxa HNB.out HC.out.1.2.2.1; have s3 := cell_next hxa HNB.out HC.out.1.2.2.2.1; have s4 := cell_next hxa HNB.out HC.out.1.2.2.2.2; have s5 := cell_next hxa HXB.out HC.out.2.1; have s6 := cell_next hxa HNW.out HC.out.2.2.1; have s7 := cell_next hxa HNW.out HC.out.2.2.2; have na0 := World.new_ne wa _ s0; have na5 := World.new_ne wa _ s5; have na6 := World.new_ne wa _ s6))
        all_goals go_wp2
        all_goals go_meet
        all_goals first
          | (have hb1 := BF1; exact ⟨_, rfl, rfl, nx_seven (g := wr.heap.size) (Nx.trans (Nx.refl wr).drew hxc) (Nat.le_refl _) _ _ _ _ _ _ _, Nat.le_refl _, fb_seven BF2 rfl ⟨pos N.nodes (iat x.nodes q), pos N.nodes (iat x.nodes (q + 1)), iat x.weights q, k, q, false, -1⟩⟩)
          | (have hb2 := BF2; exact ⟨_, rfl, rfl, nx_seven (g := wa.heap.size) (Nx.trans (Nx.refl wr).drew hxc) hxa.size _ _ _ _ _ _ _, hxa.size, fb_seven BF2 rfl ⟨pos N.nodes (iat x.nodes q), pos N.nodes (iat x.nodes (q + 1)), iat x.weights q, k, q, false, -1⟩⟩)
          | exact ⟨_, rfl, rfl, Nx.alloc (Nx.trans (Nx.refl wr).drew hxc) _, hxc.size, ⟨_, Blk.new _ _ 70 _ rfl, rfl⟩⟩
      case rest =>
        obtain ⟨gf, rfl, rfl, HNX, HGF, HFB⟩ := hcut
        have HGC : Hid (Ge w.heap.size w wc) := HGI2.out.trans (Ge.of_nx HNX.out HBI.out)
        have HGCI : Hid (Ge w.heap.size (wo.alloc (.cells #[.int .i64 x.id, .bool x.both, .slice (some ⟨bn, on, none⟩) q1 cn, .slice (some ⟨bw, ow, none⟩) q2 cw] 52)) wc) := HGI.out.trans (Ge.of_nx HNX.out HBI.out)
        have HOC : Hid (OwnE w.heap.size wc (.slice ae L ce) (wlay (sg1 N) k (lay (sg1 N) (nsN N) k) q)) := HOI.out.next HNX.out
        have HNY : Hid (∀ a b : Obj, Nx wr ((((wc.setCell ⟨gf, 6, none⟩ (.int .i64 ((L : Int) + 1))).alloc a).alloc b).drew)) := fun a b => Nx.drew (Nx.alloc (Nx.alloc (Below.setCell HNX.out HGF.out _) _) _)
        have HOX : Hid (∀ a b : Obj, OwnE w.heap.size ((((wc.setCell ⟨gf, 6, none⟩ (.int .i64 ((L : Int) + 1))).alloc a).alloc b).drew) (.slice ae L ce) (wlay (sg1 N) k (lay (sg1 N) (nsN N) k) q)) := fun a b => HOI.out.next (HNY.out a b)
        have HGX : Hid (∀ a b : Obj, Ge w.heap.size (wo.alloc (.cells #[.int .i64 x.id, .bool x.both, .slice (some ⟨bn, on, none⟩) q1 cn, .slice (some ⟨bw, ow, none⟩) q2 cw] 52)) ((((wc.setCell ⟨gf, 6, none⟩ (.int .i64 ((L : Int) + 1))).alloc a).alloc b).drew)) := fun a b => HGI.out.trans (Ge.of_nx (HNY.out a b) HBI.out)
        have HZX : Hid (∀ a b : Obj, w.heap.size ≤ ((((wc.setCell ⟨gf, 6, none⟩ (.int .i64 ((L : Int) + 1))).alloc a).alloc b).drew).heap.size) := fun a b => Nat.le_trans HBI.out (HNY.out a b).size
        have HBC : Hid (w.heap.size ≤ wc.heap.size) := HGC.out.1.size
        have bx := cell_next HNX.out HXB.out HX1'.out
        have F0 := HFB.out.cell (i := 0) rfl
        have F1' := HFB.out.cell (i := 1) rfl
        have F2' := HFB.out.cell (i := 2) rfl
        have F3' := HFB.out.cell (i := 3) rfl
        have F4 := HFB.out.cell (i := 4) rfl
        have F5 := HFB.out.cell (i := 5) rfl
        have F6 := HFB.out.cell (i := 6) rfl
        have fz6 := HFB.out.frozen 6
        have hgl := HFB.out.lt
        have HSQ : Hid (wlay (sg1 N) k (lay (sg1 N) (nsN N) k) (q + 1) = wlay (sg1 N) k (lay (sg1 N) (nsN N) k) q ++ sg1 N k L q) := by unfold Hid; rw [wlay_succ, HL.out]
        clear cw0 cn0 cn1 hx1 hx2 hx3 N0 N1 N2 N3 N4 nr0 nr5 nr6 HC HX1' HH0 HH1 HID HNB HXB HNW HGI2 HBI HOI HGI
        generalize hA : (pos N.nodes (iat x.nodes q) : Int) = A at *
        generalize hBB : (pos N.nodes (iat x.nodes (q + 1)) : Int) = BB at *
        generalize hWW : iat x.weights q = WW at *
        have HA : Hid ((pos N.nodes (iat x.nodes q) : Int) = A ∧ (pos N.nodes (iat x.nodes (q + 1)) : Int) = BB ∧ iat x.weights q = WW) := ⟨hA, hBB, hWW⟩
        clear hA hBB hWW
        have HF1 : Hid (∀ t, fwd N k q t = ⟨A, BB, WW, k, q, false, t⟩) := fun t => by rw [HFW.out, HA.out.1, HA.out.2.1, HA.out.2.2]
        have HB1 : Hid (∀ t, bwd N k q t = ⟨BB, A, WW, k, q, true, t⟩) := fun t => by rw [HBW.out, HA.out.1, HA.out.2.1, HA.out.2.2]
        clear HFB HFW HBW HA
        by_cases hbo : x.both = true
        · rw [hbo] at bx
          have HBO : Hid (x.both = true) := hbo
          clear hbo
          have HSS : Hid (sg1 N k L q = [⟨A, BB, WW, k, q, false, (L : Int) + 1⟩, ⟨BB, A, WW, k, q, true, L⟩]) := by unfold Hid; rw [HSG.out, HBO.out, if_pos rfl, HF1.out, HB1.out]
          have hwL : IntKind.i64.wrap ((L : Int) + 1) = (L : Int) + 1 := by rw [IntKind.wrap_i64]; omega
          have hng := World.new_ne wc _ F0
          clear HSG HF1 HB1
          go_upto_region 13 with fail
          go_cut [9, 10, 25] from 25 to 76 (fun s9 s10 s25 wx => s9 = .pointer (some ⟨gf, 0, none⟩) ∧ s10 = .pointer (some ⟨wc.heap.size, 0, none⟩) ∧ s25 = .int .i64 q ∧ wx = (wc.alloc (.cells #[.int .i64 BB, .int .i64 A, .int .i64 WW, .int .i64 k, .int .i64 q, .bool false, .int .i64 (-1)] 70)).drew)
          case first =>
            go_region_with (fail)
            all_goals go_wp2
            all_goals go_meet
            all_goals exact ⟨rfl, rfl, rfl, rfl⟩
          case rest =>
            obtain ⟨rfl, rfl, rfl, rfl⟩ := hcut
            go_wp2_with (at_builtin; refine wpList_append_own _ rfl _ _ 38 rfl w.heap.size 70 ii (.agg #[.int .i64 0, .int .i64 0, .int .i64 0, .int .i64 0, .int .i64 0, .bool false, .int .i64 0]) 7 56 Try.underlying38 hi hz0 hz1 hz2 rfl (by decide) _ _ _ rfl (HOX.out _ _) ⟨wc.heap.size + 1, 0, none⟩ 2 2 (cells7 ⟨A, BB, WW, k, q, false, (L : Int) + 1⟩ ++ cells7 ⟨BB, A, WW, k, q, true, L⟩) rfl rfl ?e1 ?e2 ?e3 ?e4 ?e5 ?_)
            case e1 => exact fun j u hj => hj
            case e2 =>
              intro u hu
              rcases hu with h | h
              · exact cells7_one _ u h
              · exact cells7_one _ u h
            case e3 => have := HL.out; unfold maxLen; omega
            case e4 => have := HL.out; omega
            case e5 => have := HBC.out; omega
            intro v7 w7 hown' hgrow _
            have HV7 : Hid (OwnE w.heap.size w7 v7 (wlay (sg1 N) k (lay (sg1 N) (nsN N) k) (q + 1))) := by unfold Hid; rw [HSQ.out, HSS.out]; exact OwnE.two hown'
            have HG7 : Hid (Ge w.heap.size (wo.alloc (.cells #[.int .i64 x.id, .bool x.both, .slice (some ⟨bn, on, none⟩) q1 cn, .slice (some ⟨bw, ow, none⟩) q2 cw] 52)) w7) := (HGX.out _ _).grown (HOX.out _ _) hgrow (HZX.out _ _)
            clear hown' hgrow
            go_wp2
            go_roundw
            case rel => exact ⟨q + 1, by omega, by go_num, HV7, HG7⟩
            case measure => simp [intOf]; omega
        have hbf : x.both = false := by simpa using hbo
        rw [hbf] at bx
        have HBO : Hid (x.both = false) := hbf
        clear hbo hbf
        · skip
          have HSS : Hid (sg1 N k L q = [⟨A, BB, WW, k, q, false, -1⟩]) := by unfold Hid; rw [HSG.out, HBO.out, if_neg (by decide), HF1.out]
          clear HSG HF1 HB1
          go_wp2_with (at_builtin; refine wpList_append_own _ rfl _ _ 38 rfl w.heap.size 70 ii (.agg #[.int .i64 0, .int .i64 0, .int .i64 0, .int .i64 0, .int .i64 0, .bool false, .int .i64 0]) 7 56 Try.underlying38 hi hz0 hz1 hz2 rfl (by decide) _ _ _ rfl (HOC.out.alloc _) ⟨wc.heap.size, 0, none⟩ 1 1 (cells7 ⟨A, BB, WW, k, q, false, -1⟩) rfl rfl ?c1 ?c2 ?c3 ?c4 ?c5 ?_)
          case c1 => exact fun j u hj => hj
          case c2 => exact cells7_one _
          case c3 => have := HL.out; unfold maxLen; omega
          case c4 => have := HL.out; omega
          case c5 => have := HBC.out; simp; omega
          intro v7 w7 hown' hgrow _
          have HV7 : Hid (OwnE w.heap.size w7 v7 (wlay (sg1 N) k (lay (sg1 N) (nsN N) k) (q + 1))) := by unfold Hid; rw [HSQ.out, HSS.out]; exact OwnE.one hown'
          have HG7 : Hid (Ge w.heap.size (wo.alloc (.cells #[.int .i64 x.id, .bool x.both, .slice (some ⟨bn, on, none⟩) q1 cn, .slice (some ⟨bw, ow, none⟩) q2 cw] 52)) w7) := (HGCI.out.alloc HBC.out _).grown (HOC.out.alloc _) hgrow (by have := HBC.out; simp; omega)
          clear hown' hgrow
          go_wp2
          go_roundw
          case rel => exact ⟨q + 1, by omega, by go_num, HV7, HG7⟩
          case measure => simp [intOf]; omega
    have eq : q2 = q := by omega
    subst eq
    have HO' : Hid (OwnE w.heap.size wr u3 (lay (sg1 N) (nsN N) (k + 1))) := by unfold Hid; rw [HLS.out]; exact HOI.out
    have HG' : Hid (Ge w.heap.size w1 wr) := (HG.out.alloc HB.out _).trans HGI.out
    go_wp2
    go_roundw
    case rel => exact ⟨k + 1, by omega, by go_num, HO', HG'⟩
    case measure => simp [intOf]; omega
  have e : m1 = k := by omega
  subst e
  go_wp2
  go_ret
  exact ⟨⟨_, rfl, by unfold E1; rw [HM1.out]; exact HO.out⟩, HGA.out.1⟩
end Go.Proofs.Ytmpkjlknnicdaaa
