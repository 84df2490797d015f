import Derived.Test.YtmpkjlknnicdaaaRoK
import Derived.Test.YtmpkjlknnicdaaaRoI
namespace Go.Proofs.Ytmpkjlknnicdaaa
open Go.RowKit
set_option linter.unusedVariables false
set_option maxRecDepth 100000

theorem wlay0_le {N : Nt} (h : RoadIn N) {k q : Nat} (hk : k < N.ways.length) (hq : q ≤ (wat N.ways k).weights.length) : (wlay (sg0 N) k (lay (sg0 N) (nsN N) k) q).length ≤ 4000 := by
  have := wlay_le h hk hq
  rw [wlay_len (sg1_len N), lay_len (sg1_len N)] at this
  rw [wlay_len (sg0_len N), lay_len (sg0_len N)]
  exact this

set_option maxHeartbeats 8000000 in
theorem l2Edges_any (B0 : Nat) (v0 v1 v2 v3 : Value) (N : Nt) (w : World) (h0 : HNet B0 w v0 v1 v2 v3 N) (hv : implValid N = true) :
    Calls Try.prog 39 #[.agg #[v0, v1, v2, v3, .int .i64 N.uturn]] w fun e w' => (∃ v', e = .returned v' ∧ OwnE w.heap.size w' v' (E0 N)) ∧ Nx w w' := by
  obtain ⟨ii, hi, hz0, hz1, hz2⟩ := info_parts infoEdge
  have HN : Hid (RoadIn N) := road_in hv
  clear hv
  obtain ⟨i0, i1, i2, i3⟩ := h0
  have HI0 : Hid (HInts B0 w v0 N.nodes) := i0
  obtain ⟨a1, c1, rfl, hn1, hk1⟩ := i1
  unfold maxLen at hn1
  clear i0 i2 i3
  generalize hm1 : N.ways.length = m1 at *
  have HM1 : Hid (N.ways.length = m1) := hm1
  clear hm1
  have BA : BlkE ((w.alloc (.cells #[v0, .slice a1 m1 c1, v2, v3, .int .i64 N.uturn] 34)).alloc (.cells #[] 70)) w.heap.size #[v0, .slice a1 m1 c1, v2, v3, .int .i64 N.uturn] := (BlkE.new w _ 34 _ (by decide) rfl).keep (B := w.heap.size) ((Ge.refl _ _).alloc (by simp) _)
  have HO0 : Hid (OwnE w.heap.size ((w.alloc (.cells #[v0, .slice a1 m1 c1, v2, v3, .int .i64 N.uturn] 34)).alloc (.cells #[] 70)) (.slice (some ⟨w.heap.size + 1, 0, none⟩) 0 0) []) := by
    have := ownE_made w.heap.size (w.alloc (.cells #[v0, .slice a1 m1 c1, v2, v3, .int .i64 N.uturn] 34)) #[] 0 (by simp) (by simp [maxLen]) rfl
    unfold Hid
    simpa using this
  have HG0 : Hid (Ge w.heap.size w ((w.alloc (.cells #[v0, .slice a1 m1 c1, v2, v3, .int .i64 N.uturn] 34)).alloc (.cells #[] 70))) := ((Ge.refl _ _).alloc (Nat.le_refl _) _).alloc (by simp) _
  go_enter Try.func39, Try.ntmps39
  go_wp2
  go_loopw [3, 4, 5, 6, 7, 8] (fun es i p5 p6 p7 p8 wr => ∃ k : Nat, k ≤ m1 ∧ i = .int .i64 k ∧ Hid (OwnE w.heap.size wr es (lay (sg0 N) (nsN N) k)) ∧ Hid (Ge w.heap.size w wr) ∧ Hid (BlkE wr w.heap.size #[v0, .slice a1 m1 c1, v2, v3, .int .i64 N.uturn])) (fun _ i _ _ _ _ _ => m1 - (intOf i).toNat)
  case atStart => exact ⟨0, Nat.zero_le _, rfl, HO0, HG0, BA⟩
  clear HO0 HG0 BA
  obtain ⟨k, hkn, rfl, HO, HGA, HBN⟩ := hrel
  have HB : Hid (w.heap.size ≤ wr.heap.size) := HGA.out.1.size
  have kk0 := HBN.out.blk.cell (i := 1) rfl
  by_cases hlt : k < m1
  · obtain ⟨b, off, rfl, hB, hb, hc⟩ := hk1 (by omega)
    obtain ⟨p1, p2, d0, d1, d2, d3, n1, n2⟩ := hc k hlt
    have HM2 : Hid (HInts B0 w p1 (wat N.ways k).nodes) := n1
    have HM3 : Hid (HInts B0 w p2 (wat N.ways k).weights) := n2
    have HWL : Hid ((wat N.ways k).nodes.length = (wat N.ways k).weights.length + 1) := HN.out.len k (by rw [HM1.out]; exact hlt)
    have HWS : Hid ((wat N.ways k).weights.length ≤ 100) := HN.out.seg k (by rw [HM1.out]; exact hlt)
    have HWH : Hid (∀ j, j < (wat N.ways k).nodes.length → hasI N.nodes (iat (wat N.ways k).nodes j) = true) := fun j hj => HN.out.has k j (by rw [HM1.out]; exact hlt) hj
    have HLE : Hid (∀ q, q ≤ (wat N.ways k).weights.length → (wlay (sg0 N) k (lay (sg0 N) (nsN N) k) q).length ≤ 4000) := fun q hq => wlay0_le HN.out (by rw [HM1.out]; exact hlt) hq
    have HLS : Hid (lay (sg0 N) (nsN N) (k + 1) = wlay (sg0 N) k (lay (sg0 N) (nsN N) k) (wat N.ways k).weights.length) := rfl
    have HSG : Hid (∀ o j, sg0 N k o j = if (wat N.ways k).both then [fwd N k j (-1), bwd N k j (-1)] else [fwd N k j (-1)]) := fun o j => rfl
    have HFW : Hid (∀ j t, fwd N k j t = ⟨pos N.nodes (iat (wat N.ways k).nodes j), pos N.nodes (iat (wat N.ways k).nodes (j + 1)), iat (wat N.ways k).weights j, k, j, false, t⟩) := fun j t => rfl
    have HBW : Hid (∀ j t, bwd N k j t = ⟨pos N.nodes (iat (wat N.ways k).nodes (j + 1)), pos N.nodes (iat (wat N.ways k).nodes j), iat (wat N.ways k).weights j, k, j, true, t⟩) := fun j t => rfl
    obtain ⟨an, cn, rfl, _⟩ := n1.slice
    obtain ⟨aw, cw, rfl, _⟩ := n2.slice
    have d0 := cell_next HGA.out.1 hb d0
    have d1 := cell_next HGA.out.1 hb d1
    have d2 := cell_next HGA.out.1 hb d2
    have d3 := cell_next HGA.out.1 hb d3
    have hlt' : (k : Int) < m1 := by omega
    have hbr : b < wr.heap.size := Nat.lt_of_lt_of_le hb HB.out
    generalize hxx : wat N.ways k = x at *
    generalize hq1 : x.nodes.length = q1 at *
    generalize hq2 : x.weights.length = q2 at *
    clear hc hk1 n1 n2 hxx hq1 hq2
    have HBX : Hid (BlkE (wr.alloc (.cells #[.int .i64 x.id, .bool x.both, .slice an q1 cn, .slice aw q2 cw] 52)) wr.heap.size #[.int .i64 x.id, .bool x.both, .slice an q1 cn, .slice aw q2 cw]) := BlkE.new _ _ _ _ (by decide) rfl
    have hsz := HBN.out.blk.lt
    go_wp2
    clear d0 d1 d2 d3 kk0
    rename World => wo
    go_loopw [3, 6, 7, 8] (fun es j p7 p8 wi => ∃ q : Nat, q ≤ q2 ∧ j = .int .i64 q ∧ Hid (OwnE w.heap.size wi es (wlay (sg0 N) k (lay (sg0 N) (nsN N) k) q)) ∧ Hid (Ge w.heap.size (wo.alloc (.cells #[.int .i64 x.id, .bool x.both, .slice an q1 cn, .slice aw q2 cw] 52)) wi)) (fun _ j _ _ _ => q2 - (intOf j).toNat)
    case atStart => exact ⟨0, Nat.zero_le _, rfl, HO.out.alloc _, Ge.refl _ _⟩
    obtain ⟨q, hqn, rfl, HOI, HGI⟩ := hrel
    have HGXwr : Hid (Ge w.heap.size w wr) := (HGA.out.alloc HB.out _).trans HGI.out
    have HBI : Hid (w.heap.size ≤ wr.heap.size) := HGXwr.out.1.size
    have BNwr := (HBN.out.keep (B := w.heap.size) ((Ge.refl _ _).alloc HB.out _)).keep HGI.out
    have BXwr := HBX.out.keep HGI.out
    have hx3 := BXwr.blk.cell (i := 3) rfl
    by_cases hjl : q < q2
    · obtain ⟨bw, ow, haw, hbw, cw0⟩ := cell_of' HM3.out HGXwr.out.1 (i := q) hjl
      subst haw
      obtain ⟨bn, on, han, hbn, cn0⟩ := cell_of' HM2.out HGXwr.out.1 (i := q) (by have := HWL.out; omega)
      subst han
      have HBNL : Hid (bn < w.heap.size ∧ bw < w.heap.size) := ⟨hbn, hbw⟩
      obtain ⟨ae, ce, hes, _⟩ := HOI.out.slice
      subst hes
      have hlen := HLE.out q hqn
      have HH0 : Hid (hasI N.nodes (iat x.nodes q) = true) := HWH.out q (by have := HWL.out; omega)
      have HH1 : Hid (hasI N.nodes (iat x.nodes (q + 1)) = true) := HWH.out (q + 1) (by have := HWL.out; omega)
      have HSQ : Hid (wlay (sg0 N) k (lay (sg0 N) (nsN N) k) (q + 1) = wlay (sg0 N) k (lay (sg0 N) (nsN N) k) q ++ if x.both then [fwd N k q (-1), bwd N k q (-1)] else [fwd N k q (-1)]) := by unfold Hid; rw [wlay_succ, HSG.out]
      have hjl' : (q : Int) < q2 := by omega
      have hjl1 : (q : Int) < q1 := by have := HWL.out; omega
      have hjl2 : (q : Int) + 1 < q1 := by have := HWL.out; omega
      have hq100 : q2 ≤ 100 := HWS.out
      have hwr : IntKind.i64.wrap ((q : Int) + 1) = (q : Int) + 1 := by rw [IntKind.wrap_i64]; omega
      have hwn : ((q : Int) + 1).toNat = q + 1 := by omega
      have hwm : ¬ (q : Int) + 1 < 0 := by omega
      generalize hW : wlay (sg0 N) k (lay (sg0 N) (nsN N) k) q = W at *
      generalize hL : W.length = L at *
      have HL : Hid (W.length = L) := hL
      clear hL hW HLE HSG
      have HIDwa : Hid (HInts B0 wr.drew v0 N.nodes) := HI0.out.next HGXwr.out.1.drew
      have hx2 := BXwr.blk.cell (i := 2) rfl
      have N0 := BNwr.blk.cell (i := 0) rfl
      have N1 := BNwr.blk.cell (i := 1) rfl
      have N2 := BNwr.blk.cell (i := 2) rfl
      have N3 := BNwr.blk.cell (i := 3) rfl
      have N4 := BNwr.blk.cell (i := 4) rfl
      have HNB : Hid (w.heap.size < wr.heap.size) := BNwr.blk.lt
      have HXB : Hid (wo.heap.size < wr.heap.size) := BXwr.blk.lt
      have HNW : Hid (bn < wr.heap.size) := Nat.lt_of_lt_of_le HBNL.out.1 HGXwr.out.1.size
      have HCwa : Hid ((wr.cell? ⟨w.heap.size, 0, none⟩ = some v0 ∧ wr.cell? ⟨w.heap.size, 1, none⟩ = some (.slice (some ⟨b, off, none⟩) m1 c1) ∧ wr.cell? ⟨w.heap.size, 2, none⟩ = some v2 ∧ wr.cell? ⟨w.heap.size, 3, none⟩ = some v3 ∧ wr.cell? ⟨w.heap.size, 4, none⟩ = some (.int .i64 N.uturn)) ∧ wr.cell? ⟨wo.heap.size, 2, none⟩ = some (.slice (some ⟨bn, on, none⟩) q1 cn) ∧ wr.cell? ⟨bn, on + q, none⟩ = some (.int .i64 (iat x.nodes q))) := ⟨⟨N0, N1, N2, N3, N4⟩, hx2, cn0⟩
      go_wp2
      go_region_held3 (fun w' => w'.cell? ⟨w.heap.size, 0, none⟩ = some v0 ∧ w'.cell? ⟨w.heap.size, 1, none⟩ = some (.slice (some ⟨b, off, none⟩) m1 c1) ∧ w'.cell? ⟨w.heap.size, 2, none⟩ = some v2 ∧ w'.cell? ⟨w.heap.size, 3, none⟩ = some v3 ∧ w'.cell? ⟨w.heap.size, 4, none⟩ = some (.int .i64 N.uturn) ∧ w'.cell? ⟨wo.heap.size, 2, none⟩ = some (.slice (some ⟨bn, on, none⟩) q1 cn) ∧ w'.cell? ⟨bn, on + q, none⟩ = some (.int .i64 (iat x.nodes q))) (go_keep) (first
        | (go_at_call 74; refine (l2Position_any B0 _ _ _ _ _ _ N.nodes _ (by exact HIDwa.out) HH0.out).mono ?_; rintro e wa ⟨rfl, hxa⟩; have s0 := cell_next hxa HNB.out HCwa.out.1.1; have s1 := cell_next hxa HNB.out HCwa.out.1.2.1; have s2 := cell_next hxa HNB.out HCwa.out.1.2.2.1; have s3 := cell_next hxa HNB.out HCwa.out.1.2.2.2.1; have s4 := cell_next hxa HNB.out HCwa.out.1.2.2.2.2; have s5 := cell_next hxa HXB.out HCwa.out.2.1; have s6 := cell_next hxa HNW.out HCwa.out.2.2))
      clear s0 s1 s2 s3 s4 s5 s6 hx2 N0 N1 N2 N3 N4 HNB HXB HNW HCwa HIDwa
      have HXa : Hid (Nx wr wa) := Nx.trans (Nx.refl wr).drew hxa
      clear hxa
      have HGXwa : Hid (Ge w.heap.size w wa) := HGXwr.out.trans (Ge.of_nx HXa.out HBI.out)
      have HBa : Hid (w.heap.size ≤ wa.heap.size) := HGXwa.out.1.size
      have BNwa := BNwr.keep (B := w.heap.size) (Ge.of_nx HXa.out HBI.out)
      have BXwa := BXwr.keep (B := w.heap.size) (Ge.of_nx HXa.out HBI.out)
      obtain ⟨bn', on', han', _, cn1⟩ := cell_of' HM2.out HGXwa.out.1 (i := q + 1) (by have := HWL.out; omega)
      simp only [Option.some.injEq, Addr.mk.injEq] at han'
      obtain ⟨e1, e2, _⟩ := han'
      rw [← e1, ← e2] at cn1
      clear e1 e2 cn0 cw0 hx3 BNwr BXwr
      have HIDwb : Hid (HInts B0 wa.drew v0 N.nodes) := HI0.out.next HGXwa.out.1.drew
      have hx2 := BXwa.blk.cell (i := 2) rfl
      have N0 := BNwa.blk.cell (i := 0) rfl
      have N1 := BNwa.blk.cell (i := 1) rfl
      have N2 := BNwa.blk.cell (i := 2) rfl
      have N3 := BNwa.blk.cell (i := 3) rfl
      have N4 := BNwa.blk.cell (i := 4) rfl
      have HNB : Hid (w.heap.size < wa.heap.size) := BNwa.blk.lt
      have HXB : Hid (wo.heap.size < wa.heap.size) := BXwa.blk.lt
      have HNW : Hid (bn < wa.heap.size) := Nat.lt_of_lt_of_le HBNL.out.1 HGXwa.out.1.size
      have HCwb : Hid ((wa.cell? ⟨w.heap.size, 0, none⟩ = some v0 ∧ wa.cell? ⟨w.heap.size, 1, none⟩ = some (.slice (some ⟨b, off, none⟩) m1 c1) ∧ wa.cell? ⟨w.heap.size, 2, none⟩ = some v2 ∧ wa.cell? ⟨w.heap.size, 3, none⟩ = some v3 ∧ wa.cell? ⟨w.heap.size, 4, none⟩ = some (.int .i64 N.uturn)) ∧ wa.cell? ⟨wo.heap.size, 2, none⟩ = some (.slice (some ⟨bn, on, none⟩) q1 cn) ∧ wa.cell? ⟨bn, on + (q + 1), none⟩ = some (.int .i64 (iat x.nodes (q + 1)))) := ⟨⟨N0, N1, N2, N3, N4⟩, hx2, cn1⟩
      go_wp2
      go_region_held3 (fun w' => w'.cell? ⟨w.heap.size, 0, none⟩ = some v0 ∧ w'.cell? ⟨w.heap.size, 1, none⟩ = some (.slice (some ⟨b, off, none⟩) m1 c1) ∧ w'.cell? ⟨w.heap.size, 2, none⟩ = some v2 ∧ w'.cell? ⟨w.heap.size, 3, none⟩ = some v3 ∧ w'.cell? ⟨w.heap.size, 4, none⟩ = some (.int .i64 N.uturn) ∧ w'.cell? ⟨wo.heap.size, 2, none⟩ = some (.slice (some ⟨bn, on, none⟩) q1 cn) ∧ w'.cell? ⟨bn, on + (q + 1), none⟩ = some (.int .i64 (iat x.nodes (q + 1)))) (go_keep) (first
        | (go_at_call 74; refine (l2Position_any B0 _ _ _ _ _ _ N.nodes _ (by exact HIDwb.out) HH1.out).mono ?_; rintro e wb ⟨rfl, hxb⟩; have s0 := cell_next hxb HNB.out HCwb.out.1.1; have s1 := cell_next hxb HNB.out HCwb.out.1.2.1; have s2 := cell_next hxb HNB.out HCwb.out.1.2.2.1; have s3 := cell_next hxb HNB.out HCwb.out.1.2.2.2.1; have s4 := cell_next hxb HNB.out HCwb.out.1.2.2.2.2; have s5 := cell_next hxb HXB.out HCwb.out.2.1; have s6 := cell_next hxb HNW.out HCwb.out.2.2))
      clear s0 s1 s2 s3 s4 s5 s6 hx2 N0 N1 N2 N3 N4 HNB HXB HNW HCwb HIDwb
      have HXb : Hid (Nx wr wb) := HXa.out.trans (Nx.trans (Nx.refl wa).drew hxb)
      clear hxb cn1
      have HGXwb : Hid (Ge w.heap.size w wb) := HGXwr.out.trans (Ge.of_nx HXb.out HBI.out)
      have HGIb : Hid (Ge w.heap.size (wo.alloc (.cells #[.int .i64 x.id, .bool x.both, .slice (some ⟨bn, on, none⟩) q1 cn, .slice (some ⟨bw, ow, none⟩) q2 cw] 52)) wb) := HGI.out.trans (Ge.of_nx HXb.out HBI.out)
      have HBb : Hid (w.heap.size ≤ wb.heap.size) := HGXwb.out.1.size
      have HOb : Hid (OwnE w.heap.size wb (.slice ae L ce) W) := HOI.out.next HXb.out
      have HBXb : Hid (BlkE wb wo.heap.size #[.int .i64 x.id, .bool x.both, .slice (some ⟨bn, on, none⟩) q1 cn, .slice (some ⟨bw, ow, none⟩) q2 cw]) := HBX.out.keep HGIb.out
      obtain ⟨bw', ow', haw', _, cw0⟩ := cell_of' HM3.out HGXwb.out.1 (i := q) hjl
      simp only [Option.some.injEq, Addr.mk.injEq] at haw'
      obtain ⟨e1, e2, _⟩ := haw'
      rw [← e1, ← e2] at cw0
      clear e1 e2 BNwa BXwa HXa HGXwa HBa HOI
      have hx3 := HBXb.out.blk.cell (i := 3) rfl
      generalize hA : (pos N.nodes (iat x.nodes q) : Int) = A at *
      generalize hBB : (pos N.nodes (iat x.nodes (q + 1)) : Int) = BB at *
      have HA : Hid ((pos N.nodes (iat x.nodes q) : Int) = A ∧ (pos N.nodes (iat x.nodes (q + 1)) : Int) = BB) := ⟨hA, hBB⟩
      clear hA hBB
      have HF1 : Hid (fwd N k q (-1) = ⟨A, BB, iat x.weights q, k, q, false, -1⟩) := by unfold Hid; rw [HFW.out, HA.out.1, HA.out.2]
      have HB1 : Hid (bwd N k q (-1) = ⟨BB, A, iat x.weights q, k, q, true, -1⟩) := by unfold Hid; rw [HBW.out, HA.out.1, HA.out.2]
      rw [HF1.out, HB1.out] at HSQ
      clear HF1 HB1 HFW HBW HA HH0 HH1
      go_wp2_with (at_builtin; refine wpList_append_own _ rfl _ _ 38 rfl w.heap.size 70 ii (.agg #[.int .i64 0, .int .i64 0, .int .i64 0, .int .i64 0, .int .i64 0, .bool false, .int .i64 0]) 7 56 Try.underlying38 hi hz0 hz1 hz2 rfl (by decide) _ _ _ rfl (HOb.out.alloc _) ⟨wb.heap.size, 0, none⟩ 1 1 (cells7 ⟨A, BB, iat x.weights q, k, q, false, -1⟩) rfl rfl ?c1 ?c2 ?c3 ?c4 ?c5 ?_)
      case c1 => first | exact fun j u hj => new_cells _ _ _ _ rfl j u hj | exact fun j u hj => hj
      case c2 => exact cells7_one _
      case c3 => have := HL.out; unfold maxLen; omega
      case c4 => have := HL.out; omega
      case c5 => have := HBb.out; simp; omega
      intro v7 w7 hown' hgrow _
      have HV7 : Hid (OwnE w.heap.size w7 v7 (W ++ [⟨A, BB, iat x.weights q, k, q, false, -1⟩])) := OwnE.one hown'
      have HG7 : Hid (Ge w.heap.size (wo.alloc (.cells #[.int .i64 x.id, .bool x.both, .slice (some ⟨bn, on, none⟩) q1 cn, .slice (some ⟨bw, ow, none⟩) q2 cw] 52)) w7) := (HGIb.out.alloc HBb.out _).grown (HOb.out.alloc _) hgrow (by have := HBb.out; simp; omega)
      clear hown' hgrow cw0 hx3 HOb HGIb
      have HGX7 : Hid (Ge w.heap.size w w7) := (HGA.out.alloc HB.out _).trans HG7.out
      have HB7 : Hid (w.heap.size ≤ w7.heap.size) := HGX7.out.1.size
      have HBX7 : Hid (BlkE w7 wo.heap.size #[.int .i64 x.id, .bool x.both, .slice (some ⟨bn, on, none⟩) q1 cn, .slice (some ⟨bw, ow, none⟩) q2 cw]) := HBX.out.keep HG7.out
      have hx1 := HBX7.out.blk.cell (i := 1) rfl
      by_cases hbo : x.both = true
      · rw [hbo] at hx1
        have HSS : Hid (wlay (sg0 N) k (lay (sg0 N) (nsN N) k) (q + 1) = (W ++ [⟨A, BB, iat x.weights q, k, q, false, -1⟩]) ++ [⟨BB, A, iat x.weights q, k, q, true, -1⟩]) := by unfold Hid; rw [HSQ.out, hbo, if_pos rfl]; simp
        clear hbo HSQ
        obtain ⟨a7, c7, hv7, _⟩ := HV7.out.slice
        subst hv7
        have hl7 : (W ++ ([⟨A, BB, iat x.weights q, k, q, false, -1⟩] : List Eg)).length = L + 1 := by rw [List.length_append, HL.out]; rfl
        generalize (W ++ ([⟨A, BB, iat x.weights q, k, q, false, -1⟩] : List Eg)) = W7 at *
        have HL7 : Hid (W7.length = L + 1) := hl7
        clear hl7
        have hx3 := HBX7.out.blk.cell (i := 3) rfl
        obtain ⟨bw', ow', haw', _, cw0⟩ := cell_of' HM3.out HGX7.out.1 (i := q) hjl
        simp only [Option.some.injEq, Addr.mk.injEq] at haw'
        obtain ⟨e1, e2, _⟩ := haw'
        rw [← e1, ← e2] at cw0
        clear e1 e2
        go_wp2_with (at_builtin; refine wpList_append_own _ rfl _ _ 38 rfl w.heap.size 70 ii (.agg #[.int .i64 0, .int .i64 0, .int .i64 0, .int .i64 0, .int .i64 0, .bool false, .int .i64 0]) 7 56 Try.underlying38 hi hz0 hz1 hz2 rfl (by decide) _ _ _ rfl (HV7.out.alloc _) ⟨w7.heap.size, 0, none⟩ 1 1 (cells7 ⟨BB, A, iat x.weights q, k, q, true, -1⟩) rfl rfl ?e1 ?e2 ?e3 ?e4 ?e5 ?_)
        case e1 => first | exact fun j u hj => new_cells _ _ _ _ rfl j u hj | exact fun j u hj => hj
        case e2 => exact cells7_one _
        case e3 => have := HL7.out; unfold maxLen; omega
        case e4 => have := HL7.out; omega
        case e5 => have := HB7.out; simp; omega
        intro v8 w8 hown' hgrow _
        have HV8 : Hid (OwnE w.heap.size w8 v8 (wlay (sg0 N) k (lay (sg0 N) (nsN N) k) (q + 1))) := by unfold Hid; rw [HSS.out]; exact OwnE.one hown'
        have HG8 : Hid (Ge w.heap.size (wo.alloc (.cells #[.int .i64 x.id, .bool x.both, .slice (some ⟨bn, on, none⟩) q1 cn, .slice (some ⟨bw, ow, none⟩) q2 cw] 52)) w8) := (HG7.out.alloc HB7.out _).grown (HV7.out.alloc _) hgrow (by have := HB7.out; simp; omega)
        clear hown' hgrow
        go_wp2
        go_roundw
        case rel => exact ⟨q + 1, by omega, by go_num, HV8, HG8⟩
        case measure => simp [intOf]; omega
      have hbf : x.both = false := by simpa using hbo
      rw [hbf] at hx1
      have HV8 : Hid (OwnE w.heap.size w7 v7 (wlay (sg0 N) k (lay (sg0 N) (nsN N) k) (q + 1))) := by unfold Hid; rw [HSQ.out, hbf, if_neg (by decide)]; exact HV7.out
      clear hbo hbf HV7 HSQ
      go_wp2
      go_roundw
      case rel => exact ⟨q + 1, by omega, by go_num, HV8, HG7⟩
      case measure => simp [intOf]; omega
    have eq : q2 = q := by omega
    subst eq
    have HO' : Hid (OwnE w.heap.size wr u3 (lay (sg0 N) (nsN N) (k + 1))) := by unfold Hid; rw [HLS.out]; exact HOI.out
    have HB' : Hid (BlkE wr w.heap.size #[v0, .slice (some ⟨b, off, none⟩) m1 c1, v2, v3, .int .i64 N.uturn]) := BNwr
    go_wp2
    go_roundw
    case rel => exact ⟨k + 1, by omega, by go_num, HO', HGXwr, HB'⟩
    case measure => simp [intOf]; omega
  have e : m1 = k := by omega
  subst e
  go_wp2
  go_ret
  exact ⟨⟨_, rfl, by unfold E0; rw [HM1.out]; exact HO.out⟩, HGA.out.1⟩
end Go.Proofs.Ytmpkjlknnicdaaa
