import Derived.Test.YtedhchmigeooiaaDoorEnM
import Derived.Test.YtedhchmigeooiaaDoorSpD
namespace Go.Proofs.YtedhchmigeooiaaDoor
open Go.RowKit
set_option linter.unusedVariables false
set_option maxRecDepth 100000

theorem infoInt : (Tryd.prog.info? 2).map (fun i => (i.zero, i.size, i.bytes)) = some (some (.int .i64 0), 1, 8) := by kernel_rfl
theorem head_put (bs : List UInt8) : [] ++ (⟨#[114, 111, 97, 100, 110, 101, 116, 32, 49, 10]⟩ : ByteArray).data.toList = headB := rfl

theorem Gx.drew {B : Nat} {a b : World} (h : Gx B a b) : Gx B a b.drew := ⟨Below.drew h.1, h.2⟩
def tk (x : Rl) (j : Nat) : List Int := x.ways.take j
theorem tk_zero (x : Rl) : tk x 0 = [] := rfl
theorem tk_succ (x : Rl) (j : Nat) (h : j < x.ways.length) : tk x (j + 1) = tk x j ++ [iat x.ways j] := by
  unfold tk
  rw [List.take_succ_eq_append_getElem h, iat_eq h]
theorem tk_len (x : Rl) (j : Nat) (h : x.ways.length ≤ 4) : (tk x j).length ≤ 4 := Nat.le_trans (List.length_take_le' j x.ways) h
theorem small_snoc {zs : List Int} {z : Int} (h : small zs) (hz : In z) : small (zs ++ [z]) := by
  intro i hi
  by_cases h' : i < zs.length
  · have := h i h'
    rw [iat_eq h'] at this
    rw [iat_eq hi, List.getElem_append_left h']
    exact this
  · have e : i = zs.length := by simp at hi; omega
    subst e
    rw [iat_eq hi, List.getElem_append_right (Nat.le_refl _)]
    have := hz; unfold In at this; simpa using this

set_option maxHeartbeats 8000000 in
theorem specEncode_any (B0 : Nat) (v0 v1 v2 v3 : Value) (N : Nt) (w : World) (h0 : HNet B0 w v0 v1 v2 v3 N) (hs : wsum N.ways N.ways.length ≤ 1048576) :
    Calls Tryd.prog 5 #[.agg #[v0, v1, v2, v3, .int .i64 N.uturn]] w fun e w' => (∃ v', e = .returned v' ∧ Own w.heap.size w' v' (encTx N)) ∧ Below w.heap.size w w' := by
  obtain ⟨ii, hi, hz0, hz1, hz2⟩ := info_parts infoInt
  obtain ⟨i0, i1, i2, i3⟩ := h0
  have HI0 : Hid (HNums w.heap.size w v0 N.nodes) := i0.nums (Nat.le_refl _)
  have HI : Hid (HNet B0 w v0 v1 v2 v3 N) := ⟨i0, i1, i2, i3⟩
  obtain ⟨a0, c0, rfl, hn0, _⟩ := i0
  obtain ⟨a1, c1, rfl, hn1, hk1⟩ := i1
  obtain ⟨a2, c2, rfl, hn2, hk2⟩ := i2
  obtain ⟨a3, c3, rfl, hn3, hk3⟩ := i3
  unfold maxLen at hn0 hn1 hn2 hn3
  generalize hz0 : N.nodes.length = m0 at *
  generalize hz1 : N.ways.length = m1 at *
  generalize hz2 : N.rels.length = m2 at *
  generalize hz3 : N.turns.length = m3 at *
  have HZ : Hid (N.nodes.length = m0 ∧ N.ways.length = m1 ∧ N.rels.length = m2 ∧ N.turns.length = m3) := ⟨hz0, hz1, hz2, hz3⟩
  clear hz0 hz1 hz2 hz3
  go_enter Tryd.func5, Tryd.ntmps5
  go_wp2_with fail
  refine (specValid_any B0 _ _ _ _ N _ (by exact HI.out.next (box2 _ _ _)) (by rw [HZ.out.2.1]; exact hs)).mono ?_
  rintro e w1 ⟨rfl, hx⟩
  rw [← same_valid]
  have HO1 : Hid (Own w.heap.size w1 (.slice (some ⟨w.heap.size + 1, 0, none⟩) 0 0) []) := by
    have := (own_empty w.heap.size (w.alloc (.cells #[.slice a0 m0 c0, .slice a1 m1 c1, .slice a2 m2 c2, .slice a3 m3 c3, .int .i64 N.uturn] 35)) (by simp)).next hx
    unfold Hid
    simpa using this
  cases hv : implValid N
  case false =>
    go_wp2
    go_ret
    exact ⟨⟨_, rfl, by rw [encTx_no hv]; exact HO1.out⟩, (box2 _ _ _).trans hx⟩
  have HV : Hid (implValid N = true) := hv
  have HN : Hid (NetIn N) := net_in hv
  have BA : BlkN w1 w.heap.size #[.slice a0 m0 c0, .slice a1 m1 c1, .slice a2 m2 c2, .slice a3 m3 c3, .int .i64 N.uturn] := ((BlkN.new w #[.slice a0 m0 c0, .slice a1 m1 c1, .slice a2 m2 c2, .slice a3 m3 c3, .int .i64 N.uturn] 35 _ (by decide) rfl).keep (B := w.heap.size) ((Gx.refl _ _).alloc (by simp) _)).keep (B := w.heap.size) (Gx.of_nx hx (by simp; omega))
  have HG1 : Hid (Gx w.heap.size w w1) := (((Gx.refl w.heap.size w).alloc (Nat.le_refl _) _).alloc (by simp) _).trans (Gx.of_nx hx (by simp; omega))
  have HB1 : Hid (w.heap.size ≤ w1.heap.size) := HG1.out.1.size
  clear hx hs
  go_wp2_with fail
  refine (l1Put_any w.heap.size _ [] ⟨#[114, 111, 97, 100, 110, 101, 116, 32, 49, 10]⟩ _ HO1.out HB1.out (by simp) (by decide)).mono ?_
  rintro e w2 ⟨⟨o2, rfl, ho⟩, hg⟩
  have HO2 : Hid (Own w.heap.size w2 o2 headB) := ho
  have HG2 : Hid (Gx w.heap.size w1 w2) := hg
  have HB2 : Hid (w.heap.size ≤ w2.heap.size) := Nat.le_trans HB1.out hg.1.size
  clear ho hg HO1
  have BA2 := BA.keep HG2.out
  have kk0 := BA2.blk.cell (i := 4) rfl
  go_wp2_with fail
  refine (l1PutLine_any w.heap.size _ headB ⟨#[117, 116, 117, 114, 110]⟩ _ [N.uturn] _ (HO2.out.alloc _) (by have := HB2.out; simp; omega) (by decide) (by decide) (nums1' _ _ _ _ rfl) (by simp) (small1 HN.out.ut)).mono ?_
  rintro e w3 ⟨⟨o3, rfl, ho⟩, hg⟩
  have HO3 : Hid (Own w.heap.size w3 o3 (t1 N 0)) := by unfold Hid; rw [line_ut] at ho; rw [t1_zero]; exact ho
  have HG3 : Hid (Gx w.heap.size w1 w3) := (HG2.out.alloc HB2.out _).trans hg
  clear ho hg BA2 kk0 HO2 HG2 HB2
  go_wp2
  go_loopw [3, 4] (fun o i wr => ∃ k : Nat, k ≤ m0 ∧ i = .int .i64 k ∧ Hid (Own w.heap.size wr o (t1 N k)) ∧ Hid (Gx w.heap.size w1 wr)) (fun _ i _ => m0 - (intOf i).toNat)
  case atStart => exact ⟨0, Nat.zero_le _, rfl, HO3, HG3⟩
  clear HO3 HG3
  obtain ⟨k, hkn, rfl, HO, HG⟩ := hrel
  have HGA : Hid (Gx w.heap.size w wr) := HG1.out.trans HG.out
  have HB : Hid (w.heap.size ≤ wr.heap.size) := HGA.out.1.size
  have HLL : Hid ((t1 N k).length ≤ 380000) := by
    have h1 := t1_len HN.out k (by rw [HZ.out.1]; exact hkn)
    have h2 := HN.out.c0
    rw [HZ.out.1] at h2
    unfold Hid
    omega
  have BA2 := BA.keep HG.out
  have kk0 := BA2.blk.cell (i := 0) rfl
  by_cases hlt : k < m0
  · obtain ⟨b, off, h2a, h2c⟩ := cell_of HI0.out HGA.out (k := k) (by rw [HZ.out.1]; exact hlt)
    subst h2a
    have hlt' : (k : Int) < m0 := by omega
    clear BA2
    go_wp2_with fail
    refine (l1PutLine_any w.heap.size _ (t1 N k) ⟨#[110, 111, 100, 101]⟩ _ [iat N.nodes k] _ (HO.out.alloc _) (by have := HB.out; simp; omega) (by have := HLL.out; omega) (by decide) (nums1' _ _ _ _ rfl) (by simp) (small1 (HN.out.nodes k (by rw [HZ.out.1]; exact hlt)))).mono ?_
    rintro e wn ⟨⟨vn, rfl, ho⟩, hg⟩
    have HO' : Hid (Own w.heap.size wn vn (t1 N (k + 1))) := by
      unfold Hid
      rw [line_node] at ho
      rw [t1_succ]
      exact ho
    have HG' : Hid (Gx w.heap.size w1 wn) := (HG.out.alloc HB.out _).trans hg
    clear ho hg
    go_wp2
    go_roundw
    case rel => exact ⟨k + 1, by omega, by go_num, HO', HG'⟩
    case measure => simp [intOf]; omega
  have ek : m0 = k := by omega
  subst ek
  have HOW := Own.to HO.out (show t1 N m0 = t2 N 0 by rw [t2_zero, HZ.out.1])
  clear HO
  have HO : Hid _ := HOW
  clear HOW HLL HGA HB hkn hlt BA2
  go_wp2
  clear kk0
  go_loopw [3, 5, 6, 7, 8, 9] (fun o i p6 p7 p8 p9 wr => ∃ k : Nat, k ≤ m1 ∧ i = .int .i64 k ∧ Hid (Own w.heap.size wr o (t2 N k)) ∧ Hid (Gx w.heap.size w1 wr)) (fun _ i _ _ _ _ _ => m1 - (intOf i).toNat)
  case atStart => exact ⟨0, Nat.zero_le _, rfl, HO, HG⟩
  clear HO HG
  obtain ⟨k, hkn, rfl, HO, HG⟩ := hrel
  have HGA : Hid (Gx w.heap.size w wr) := HG1.out.trans HG.out
  have HB : Hid (w.heap.size ≤ wr.heap.size) := HGA.out.1.size
  have HLL : Hid ((t2 N k).length ≤ 380000) := by
    have h1 := t2_max HN.out k (by rw [HZ.out.2.1]; exact hkn)
    unfold Hid
    omega
  have BA2 := BA.keep HG.out
  have kk0 := BA2.blk.cell (i := 1) rfl
  by_cases hlt : k < m1
  · obtain ⟨b, off, rfl, hB, hb, hc⟩ := hk1 (by omega)
    obtain ⟨p1, p2, d0, d1, d2, d3, n1, n2⟩ := hc k hlt
    have HM1 : Hid (HNums w.heap.size w p1 (wat N.ways k).nodes) := n1.nums (Nat.le_refl _)
    have HM2 : Hid (HNums w.heap.size w p2 (wat N.ways k).weights) := n2.nums (Nat.le_refl _)
    have HWI : Hid (WayIn (wat N.ways k)) := HN.out.ways k (by rw [HZ.out.2.1]; exact hlt)
    have HTS : Hid (t2 N (k + 1) = t2 N k ++ wayTx (wat N.ways k)) := t2_succ N k
    obtain ⟨an, cn, rfl, _⟩ := n1.slice
    obtain ⟨aw, cw, rfl, _⟩ := n2.slice
    have d0 := cell_next HGA.out.1 hb d0
    have d1 := cell_next HGA.out.1 hb d1
    have d2 := cell_next HGA.out.1 hb d2
    have d3 := cell_next HGA.out.1 hb d3
    have hlt' : (k : Int) < m1 := by omega
    have hbr : b < wr.heap.size := Nat.lt_of_lt_of_le hb HB.out
    generalize hxx : wat N.ways k = x at *
    have HS1 : Hid (x.nodes.length = x.weights.length + 1) := HWI.out.len
    have HS2 : Hid (x.weights.length ≤ 100) := HWI.out.seg
    generalize hq1 : x.nodes.length = q1 at *
    generalize hq2 : x.weights.length = q2 at *
    have HQ : Hid (x.nodes.length = q1 ∧ x.weights.length = q2) := ⟨hq1, hq2⟩
    clear hc hk1 n1 n2 hxx BA2 hq1 hq2
    have HBX : Hid (BlkN (wr.alloc (.cells #[.int .i64 x.id, .bool x.both, .slice an q1 cn, .slice aw q2 cw] 50)) wr.heap.size #[.int .i64 x.id, .bool x.both, .slice an q1 cn, .slice aw q2 cw]) := BlkN.new _ _ _ _ (by decide) rfl
    cases hbo : x.both
    all_goals rw [hbo] at HBX d1
    · have BX4 := HBX.out
      have hdl : (Lib.decDigits x.id.toNat).length ≤ 7 := dec_len 6 _ (by have h1 := HWI.out.id.1; have h2 := HWI.out.id.2; omega)
      have hn7 : ¬ 9223372036854775807 < 4 + (Lib.decDigits x.id.toNat).length := by omega
      have hn8 : ¬ 9223372036854775807 < 4 + (Lib.decDigits x.id.toNat).length + 2 := by omega
      have HWH : Hid (({ data := #[119, 97, 121, 32] } : ByteArray) ++ { data := (Lib.decDigits x.id.toNat).toArray } ++ { data := #[32, 102] } = wayHd x) := by unfold Hid wayHd; rw [hbo]; rfl
      clear HBX hdl
      have e0 := BX4.blk.cell (i := 0) rfl
      go_wp2_with fail
      refine (l1Dec_any x.id.toNat x.id _ (Nat.le_refl _) HWI.out.id.1 HWI.out.id.2).mono ?_
      rintro e w5 ⟨rfl, hx⟩
      have HX5 : Hid (Nx (wr.alloc (.cells #[.int .i64 x.id, .bool false, .slice an q1 cn, .slice aw q2 cw] 50)) w5) := hx
      clear hx
      have BX5 := (BX4).keep (B := (wr.alloc (.cells #[.int .i64 x.id, .bool false, .slice an q1 cn, .slice aw q2 cw] 50)).heap.size) (Gx.of_nx HX5.out (Nat.le_refl _))
      clear e0
      have e0 := BX5.blk.cell (i := 0) rfl
      have e1 := BX5.blk.cell (i := 1) rfl
      clear e0 e1
      have HNA : Hid (Nx (wr.alloc (.cells #[.int .i64 x.id, .bool false, .slice an q1 cn, .slice aw q2 cw] 50)) w5) := HX5.out
      have HGW : Hid (Gx w.heap.size w w5) := (HGA.out.alloc HB.out _).trans (Gx.of_nx HNA.out (by have := HB.out; simp; omega))
      have HBA : Hid (w.heap.size ≤ w5.heap.size) := HGW.out.1.size
      have HOA : Hid (Own w.heap.size w5 u3 (t2 N k)) := (HO.out.alloc _).next HNA.out
      have HG1A : Hid (Gx w.heap.size w1 w5) := (HG.out.alloc HB.out _).trans (Gx.of_nx HNA.out (by have := HB.out; simp; omega))
      have HBX : Hid (BlkN w5 wr.heap.size #[.int .i64 x.id, .bool false, .slice an q1 cn, .slice aw q2 cw]) := BX5
      clear HO HG HGA HB
      have f2 := BX5.blk.cell (i := 2) rfl
      have f1 := BX5.blk.cell (i := 1) rfl
      obtain ⟨bn, on, hna, hnc⟩ := cell_of HM1.out HGW.out (k := 0) (by rw [HQ.out.1, HS1.out]; omega)
      subst hna
      have hq1p : (0 : Int) < q1 := by have := HS1.out; omega
      have hnc' : w5.cell? ⟨bn, on, none⟩ = some (.int .i64 (iat x.nodes 0)) := hnc
      clear hnc d0 d1 d2 d3
      go_wp2
      clear f2 f1 hnc'
      go_loopw [8, 9] (fun v i wi => ∃ j : Nat, j ≤ q2 ∧ i = .int .i64 j ∧ Hid (OwnI w5.heap.size wi v (wv x j)) ∧ Hid (Nx w5 wi)) (fun _ i _ => q2 - (intOf i).toNat)
      case atStart => exact ⟨0, Nat.zero_le _, rfl, ownI_one _ _ _ (Nat.le_refl _), box1 _ _⟩
      obtain ⟨j, hjn, rfl, HVI, HNI⟩ := hrel
      have HGI : Hid (Gx w.heap.size w wr) := HGW.out.trans (Gx.of_nx HNI.out HBA.out)
      have HBI : Hid (w5.heap.size ≤ wr.heap.size) := HNI.out.size
      have BI := HBX.out.keep (B := w5.heap.size) (Gx.of_nx HNI.out (Nat.le_refl _))
      have f3 := BI.blk.cell (i := 3) rfl
      have f2 := BI.blk.cell (i := 2) rfl
      have HJ : Hid ((wv x j).length = 1 + 2 * j) := wv_len x j
      clear BI
      by_cases hjl : j < q2
      · obtain ⟨bw, ow, hwa, hwc⟩ := cell_of HM2.out HGI.out (k := j) (by rw [HQ.out.2]; exact hjl)
        subst hwa
        have hjl' : (j : Int) < q2 := by omega
        have hjl2 : (j : Int) + 1 < q1 := by have := HS1.out; omega
        clear f2
        go_wp2_with (at_builtin; refine wpList_append_own _ rfl _ _ 22 rfl w5.heap.size 2 ii (.int .i64 0) 1 8 Tryd.underlying22 hi hz0 hz1 hz2 rfl (by decide) _ _ _ rfl (HVI.out.alloc _) ⟨wr.heap.size, 0, none⟩ 1 1 [Value.int .i64 (iat x.weights j)] rfl rfl ?c1 ?c2 ?c3 ?c4 ?c5 ?_)
        case c1 =>
          intro j u hj
          match j, hj with
          | 0, hj => simp at hj; subst hj; simp [Addr.add]
        case c2 => intro u hu; simp at hu; subst hu; rfl
        case c3 => have := HJ.out; have := HS2.out; unfold maxLen; omega
        case c4 => have := HJ.out; have := HS2.out; omega
        case c5 => have := HBI.out; simp; omega
        intro v7 w7 hown' hgrow _
        have HV7 : Hid (OwnI w5.heap.size w7 v7 (wv x j ++ [iat x.weights j])) := OwnI.snoc hown'
        have HN7 : Hid (Nx w5 w7) := Below.grown (HNI.out.alloc _) hgrow (by have := HBI.out; simp; omega) (fun g hg => (World.ownsRow.lt HVI.out g hg).1)
        clear hown' hgrow f3 hwc
        have HG7 : Hid (Gx w.heap.size w w7) := HGW.out.trans (Gx.of_nx HN7.out HBA.out)
        have HB7 : Hid (w5.heap.size ≤ w7.heap.size) := HN7.out.size
        have BI := HBX.out.keep (B := w5.heap.size) (Gx.of_nx HN7.out (Nat.le_refl _))
        have f2 := BI.blk.cell (i := 2) rfl
        clear BI
        obtain ⟨bm, om, h3a, h3c⟩ := cell_of HM1.out HG7.out (k := j + 1) (by rw [HQ.out.1, HS1.out]; omega)
        simp only [Option.some.injEq, Addr.mk.injEq] at h3a
        obtain ⟨e3a, e3b, _⟩ := h3a
        rw [← e3a, ← e3b] at h3c
        clear e3a e3b
        have hq2 : q2 ≤ 100 := HS2.out
        have HJ7 : Hid ((wv x j ++ [iat x.weights j]).length = 2 + 2 * j) := by unfold Hid; rw [List.length_append, HJ.out]; simp; omega
        go_wp2_with (at_builtin; refine wpList_append_own _ rfl _ _ 22 rfl w5.heap.size 2 ii (.int .i64 0) 1 8 Tryd.underlying22 hi hz0 hz1 hz2 rfl (by decide) _ _ _ rfl (HV7.out.alloc _) ⟨w7.heap.size, 0, none⟩ 1 1 [Value.int .i64 (iat x.nodes (j + 1))] rfl rfl ?g1 ?g2 ?g3 ?g4 ?g5 ?_)
        case g1 =>
          intro j u hj
          match j, hj with
          | 0, hj => simp at hj; subst hj; simp [Addr.add]
        case g2 => intro u hu; simp at hu; subst hu; rfl
        case g3 => have := HJ7.out; have := HS2.out; unfold maxLen; omega
        case g4 => have := HJ7.out; have := HS2.out; omega
        case g5 => have := HB7.out; simp; omega
        intro v8 w8 hown' hgrow _
        have HV8 : Hid (OwnI w5.heap.size w8 v8 (wv x (j + 1))) := by unfold Hid; rw [wv_succ]; exact OwnI.snoc (by rw [List.length_append]; exact hown')
        have HN8 : Hid (Nx w5 w8) := Below.grown (HN7.out.alloc _) hgrow (by have := HB7.out; simp; omega) (fun g hg => (World.ownsRow.lt HV7.out g hg).1)
        clear hown' hgrow f2 h3c
        go_wp2
        go_roundw
        case rel => exact ⟨j + 1, by omega, by go_num, HV8, HN8⟩
        case measure => simp [intOf]; omega
      have ej : q2 = j := by omega
      subst ej
      have HBI2 : Hid (w.heap.size ≤ wr.heap.size) := HGI.out.1.size
      have hlw := line_way (t2 N k) x
      rw [HQ.out.2] at hlw
      have HLW : Hid (t2 N k ++ (wayHd x).data.toList ++ numsTo (wv x q2) (wv x q2).length ++ [10] = t2 N k ++ wayTx x) := hlw
      have hsm := wv_small HWI.out
      rw [HQ.out.2] at hsm
      have HSM : Hid (small (wv x q2)) := hsm
      clear hlw hsm
      go_wp2_with fail
      rw [HWH.out]
      refine (l1PutLine_any w.heap.size _ (t2 N k) (wayHd x) _ (wv x q2) _ (HOA.out.next HNI.out) HBI2.out (by have := HLL.out; omega) (by have := wayHd_size HWI.out; omega) HVI.out.nums (by have := HJ.out; have := HS2.out; omega) HSM.out).mono ?_
      rintro e wn ⟨⟨vn, rfl, ho⟩, hg⟩
      have HO' : Hid (Own w.heap.size wn vn (t2 N (k + 1))) := by
        unfold Hid
        rw [HLW.out] at ho
        rw [HTS.out]
        exact ho
      have HG' : Hid (Gx w.heap.size w1 wn) := (HG1A.out.trans (Gx.of_nx HNI.out HBA.out)).trans hg
      clear ho hg f2 f3
      go_wp2
      go_roundw
      case rel => exact ⟨k + 1, by omega, by go_num, HO', HG'⟩
      case measure => simp [intOf]; omega
    · have BX4 := HBX.out
      have hdl : (Lib.decDigits x.id.toNat).length ≤ 7 := dec_len 6 _ (by have h1 := HWI.out.id.1; have h2 := HWI.out.id.2; omega)
      have hn7 : ¬ 9223372036854775807 < 4 + (Lib.decDigits x.id.toNat).length := by omega
      have hn8 : ¬ 9223372036854775807 < 4 + (Lib.decDigits x.id.toNat).length + 2 := by omega
      have HWH : Hid (({ data := #[119, 97, 121, 32] } : ByteArray) ++ { data := (Lib.decDigits x.id.toNat).toArray } ++ { data := #[32, 98] } = wayHd x) := by unfold Hid wayHd; rw [hbo]; rfl
      clear HBX hdl
      have e0 := BX4.blk.cell (i := 0) rfl
      go_wp2_with fail
      refine (l1Dec_any x.id.toNat x.id _ (Nat.le_refl _) HWI.out.id.1 HWI.out.id.2).mono ?_
      rintro e w5 ⟨rfl, hx⟩
      have HX5 : Hid (Nx (wr.alloc (.cells #[.int .i64 x.id, .bool true, .slice an q1 cn, .slice aw q2 cw] 50)) w5) := hx
      clear hx
      have BX5 := (BX4).keep (B := (wr.alloc (.cells #[.int .i64 x.id, .bool true, .slice an q1 cn, .slice aw q2 cw] 50)).heap.size) (Gx.of_nx HX5.out (Nat.le_refl _))
      clear e0
      have e0 := BX5.blk.cell (i := 0) rfl
      have e1 := BX5.blk.cell (i := 1) rfl
      go_wp2_with fail
      refine (l1Dec_any x.id.toNat x.id _ (Nat.le_refl _) HWI.out.id.1 HWI.out.id.2).mono ?_
      rintro e w6 ⟨rfl, hx⟩
      have HX6 : Hid (Nx w5 w6) := hx
      clear hx
      have BX6 := (BX5).keep (B := w5.heap.size) (Gx.of_nx HX6.out (Nat.le_refl _))
      clear e0 e1
      have HNA : Hid (Nx (wr.alloc (.cells #[.int .i64 x.id, .bool true, .slice an q1 cn, .slice aw q2 cw] 50)) w6) := HX5.out.trans HX6.out
      have HGW : Hid (Gx w.heap.size w w6) := (HGA.out.alloc HB.out _).trans (Gx.of_nx HNA.out (by have := HB.out; simp; omega))
      have HBA : Hid (w.heap.size ≤ w6.heap.size) := HGW.out.1.size
      have HOA : Hid (Own w.heap.size w6 u3 (t2 N k)) := (HO.out.alloc _).next HNA.out
      have HG1A : Hid (Gx w.heap.size w1 w6) := (HG.out.alloc HB.out _).trans (Gx.of_nx HNA.out (by have := HB.out; simp; omega))
      have HBX : Hid (BlkN w6 wr.heap.size #[.int .i64 x.id, .bool true, .slice an q1 cn, .slice aw q2 cw]) := BX6
      clear HO HG HGA HB
      have f2 := BX6.blk.cell (i := 2) rfl
      have f1 := BX6.blk.cell (i := 1) rfl
      obtain ⟨bn, on, hna, hnc⟩ := cell_of HM1.out HGW.out (k := 0) (by rw [HQ.out.1, HS1.out]; omega)
      subst hna
      have hq1p : (0 : Int) < q1 := by have := HS1.out; omega
      have hnc' : w6.cell? ⟨bn, on, none⟩ = some (.int .i64 (iat x.nodes 0)) := hnc
      clear hnc d0 d1 d2 d3
      go_wp2
      clear f2 f1 hnc'
      go_loopw [8, 9] (fun v i wi => ∃ j : Nat, j ≤ q2 ∧ i = .int .i64 j ∧ Hid (OwnI w6.heap.size wi v (wv x j)) ∧ Hid (Nx w6 wi)) (fun _ i _ => q2 - (intOf i).toNat)
      case atStart => exact ⟨0, Nat.zero_le _, rfl, ownI_one _ _ _ (Nat.le_refl _), box1 _ _⟩
      obtain ⟨j, hjn, rfl, HVI, HNI⟩ := hrel
      have HGI : Hid (Gx w.heap.size w wr) := HGW.out.trans (Gx.of_nx HNI.out HBA.out)
      have HBI : Hid (w6.heap.size ≤ wr.heap.size) := HNI.out.size
      have BI := HBX.out.keep (B := w6.heap.size) (Gx.of_nx HNI.out (Nat.le_refl _))
      have f3 := BI.blk.cell (i := 3) rfl
      have f2 := BI.blk.cell (i := 2) rfl
      have HJ : Hid ((wv x j).length = 1 + 2 * j) := wv_len x j
      clear BI
      by_cases hjl : j < q2
      · obtain ⟨bw, ow, hwa, hwc⟩ := cell_of HM2.out HGI.out (k := j) (by rw [HQ.out.2]; exact hjl)
        subst hwa
        have hjl' : (j : Int) < q2 := by omega
        have hjl2 : (j : Int) + 1 < q1 := by have := HS1.out; omega
        clear f2
        go_wp2_with (at_builtin; refine wpList_append_own _ rfl _ _ 22 rfl w6.heap.size 2 ii (.int .i64 0) 1 8 Tryd.underlying22 hi hz0 hz1 hz2 rfl (by decide) _ _ _ rfl (HVI.out.alloc _) ⟨wr.heap.size, 0, none⟩ 1 1 [Value.int .i64 (iat x.weights j)] rfl rfl ?c1 ?c2 ?c3 ?c4 ?c5 ?_)
        case c1 =>
          intro j u hj
          match j, hj with
          | 0, hj => simp at hj; subst hj; simp [Addr.add]
        case c2 => intro u hu; simp at hu; subst hu; rfl
        case c3 => have := HJ.out; have := HS2.out; unfold maxLen; omega
        case c4 => have := HJ.out; have := HS2.out; omega
        case c5 => have := HBI.out; simp; omega
        intro v7 w7 hown' hgrow _
        have HV7 : Hid (OwnI w6.heap.size w7 v7 (wv x j ++ [iat x.weights j])) := OwnI.snoc hown'
        have HN7 : Hid (Nx w6 w7) := Below.grown (HNI.out.alloc _) hgrow (by have := HBI.out; simp; omega) (fun g hg => (World.ownsRow.lt HVI.out g hg).1)
        clear hown' hgrow f3 hwc
        have HG7 : Hid (Gx w.heap.size w w7) := HGW.out.trans (Gx.of_nx HN7.out HBA.out)
        have HB7 : Hid (w6.heap.size ≤ w7.heap.size) := HN7.out.size
        have BI := HBX.out.keep (B := w6.heap.size) (Gx.of_nx HN7.out (Nat.le_refl _))
        have f2 := BI.blk.cell (i := 2) rfl
        clear BI
        obtain ⟨bm, om, h3a, h3c⟩ := cell_of HM1.out HG7.out (k := j + 1) (by rw [HQ.out.1, HS1.out]; omega)
        simp only [Option.some.injEq, Addr.mk.injEq] at h3a
        obtain ⟨e3a, e3b, _⟩ := h3a
        rw [← e3a, ← e3b] at h3c
        clear e3a e3b
        have hq2 : q2 ≤ 100 := HS2.out
        have HJ7 : Hid ((wv x j ++ [iat x.weights j]).length = 2 + 2 * j) := by unfold Hid; rw [List.length_append, HJ.out]; simp; omega
        go_wp2_with (at_builtin; refine wpList_append_own _ rfl _ _ 22 rfl w6.heap.size 2 ii (.int .i64 0) 1 8 Tryd.underlying22 hi hz0 hz1 hz2 rfl (by decide) _ _ _ rfl (HV7.out.alloc _) ⟨w7.heap.size, 0, none⟩ 1 1 [Value.int .i64 (iat x.nodes (j + 1))] rfl rfl ?g1 ?g2 ?g3 ?g4 ?g5 ?_)
        case g1 =>
          intro j u hj
          match j, hj with
          | 0, hj => simp at hj; subst hj; simp [Addr.add]
        case g2 => intro u hu; simp at hu; subst hu; rfl
        case g3 => have := HJ7.out; have := HS2.out; unfold maxLen; omega
        case g4 => have := HJ7.out; have := HS2.out; omega
        case g5 => have := HB7.out; simp; omega
        intro v8 w8 hown' hgrow _
        have HV8 : Hid (OwnI w6.heap.size w8 v8 (wv x (j + 1))) := by unfold Hid; rw [wv_succ]; exact OwnI.snoc (by rw [List.length_append]; exact hown')
        have HN8 : Hid (Nx w6 w8) := Below.grown (HN7.out.alloc _) hgrow (by have := HB7.out; simp; omega) (fun g hg => (World.ownsRow.lt HV7.out g hg).1)
        clear hown' hgrow f2 h3c
        go_wp2
        go_roundw
        case rel => exact ⟨j + 1, by omega, by go_num, HV8, HN8⟩
        case measure => simp [intOf]; omega
      have ej : q2 = j := by omega
      subst ej
      have HBI2 : Hid (w.heap.size ≤ wr.heap.size) := HGI.out.1.size
      have hlw := line_way (t2 N k) x
      rw [HQ.out.2] at hlw
      have HLW : Hid (t2 N k ++ (wayHd x).data.toList ++ numsTo (wv x q2) (wv x q2).length ++ [10] = t2 N k ++ wayTx x) := hlw
      have hsm := wv_small HWI.out
      rw [HQ.out.2] at hsm
      have HSM : Hid (small (wv x q2)) := hsm
      clear hlw hsm
      go_wp2_with fail
      rw [HWH.out]
      refine (l1PutLine_any w.heap.size _ (t2 N k) (wayHd x) _ (wv x q2) _ (HOA.out.next HNI.out) HBI2.out (by have := HLL.out; omega) (by have := wayHd_size HWI.out; omega) HVI.out.nums (by have := HJ.out; have := HS2.out; omega) HSM.out).mono ?_
      rintro e wn ⟨⟨vn, rfl, ho⟩, hg⟩
      have HO' : Hid (Own w.heap.size wn vn (t2 N (k + 1))) := by
        unfold Hid
        rw [HLW.out] at ho
        rw [HTS.out]
        exact ho
      have HG' : Hid (Gx w.heap.size w1 wn) := (HG1A.out.trans (Gx.of_nx HNI.out HBA.out)).trans hg
      clear ho hg f2 f3
      go_wp2
      go_roundw
      case rel => exact ⟨k + 1, by omega, by go_num, HO', HG'⟩
      case measure => simp [intOf]; omega
  have ek : m1 = k := by omega
  subst ek
  have HOW := Own.to HO.out (show t2 N m1 = t3 N 0 by rw [t3_zero, HZ.out.2.1])
  clear HO
  have HO : Hid _ := HOW
  clear HOW HLL HGA HB hkn hlt BA2
  go_wp2
  clear kk0
  go_loopw [3, 10, 11, 12, 13, 14] (fun o i p11 p12 p13 p14 wr => ∃ k : Nat, k ≤ m2 ∧ i = .int .i64 k ∧ Hid (Own w.heap.size wr o (t3 N k)) ∧ Hid (Gx w.heap.size w1 wr)) (fun _ i _ _ _ _ _ => m2 - (intOf i).toNat)
  case atStart => exact ⟨0, Nat.zero_le _, rfl, HO, HG⟩
  clear HO HG
  obtain ⟨k, hkn, rfl, HO, HG⟩ := hrel
  have HGA : Hid (Gx w.heap.size w wr) := HG1.out.trans HG.out
  have HB : Hid (w.heap.size ≤ wr.heap.size) := HGA.out.1.size
  have HLL : Hid ((t3 N k).length ≤ 380000) := by
    have h1 := t3_len HN.out k (by rw [HZ.out.2.2.1]; exact hkn)
    have h2 := HN.out.c2
    rw [HZ.out.2.2.1] at h2
    unfold Hid
    omega
  have BA2 := BA.keep HG.out
  have kk0 := BA2.blk.cell (i := 2) rfl
  by_cases hlt : k < m2
  · obtain ⟨b, off, rfl, hB, hb, hc⟩ := hk2 (by omega)
    obtain ⟨p1, d0, d1, d2, d3, d4, d5, d6, n1⟩ := hc k hlt
    have HM1 : Hid (HNums w.heap.size w p1 (rat N.rels k).ways) := n1.nums (Nat.le_refl _)
    have HRI : Hid (RelIn (rat N.rels k)) := HN.out.rels k (by rw [HZ.out.2.2.1]; exact hlt)
    have HTS : Hid (t3 N (k + 1) = t3 N k ++ relTx (rat N.rels k)) := t3_succ N k
    obtain ⟨an, cn, rfl, _⟩ := n1.slice
    have d0 := cell_next HGA.out.1 hb d0
    have d1 := cell_next HGA.out.1 hb d1
    have d2 := cell_next HGA.out.1 hb d2
    have d3 := cell_next HGA.out.1 hb d3
    have d4 := cell_next HGA.out.1 hb d4
    have d5 := cell_next HGA.out.1 hb d5
    have d6 := cell_next HGA.out.1 hb d6
    have hlt' : (k : Int) < m2 := by omega
    have hbr : b < wr.heap.size := Nat.lt_of_lt_of_le hb HB.out
    generalize hxx : rat N.rels k = x at *
    have HS : Hid (x.ways.length ≤ 4) := HRI.out.len
    generalize hq : x.ways.length = q at *
    have HQ : Hid (x.ways.length = q) := hq
    clear hc hk2 n1 hxx BA2 hq
    cases hon : x.only <;> cases hvi : x.via
    all_goals rw [hon] at d1; rw [hvi] at d4
    · have BX : BlkN (wr.alloc (.cells #[.int .i64 x.id, .bool false, .int .i64 x.frm, .int .i64 x.to, .bool false, .int .i64 x.node, .slice an q cn] 53)) wr.heap.size #[.int .i64 x.id, .bool false, .int .i64 x.frm, .int .i64 x.to, .bool false, .int .i64 x.node, .slice an q cn] := BlkN.new _ _ _ _ (by decide) rfl
      have e0 := BX.blk.cell (i := 0) rfl
      have e1 := BX.blk.cell (i := 1) rfl
      have e2 := BX.blk.cell (i := 2) rfl
      have E0 := cell_regrown e0
      have E2 := cell_regrown e2
      have CI : Hid (∀ d os, Calls Tryd.prog 20 #[.int .i64 x.id] (Sort.grow (redrawn (wr.alloc (.cells #[.int .i64 x.id, .bool false, .int .i64 x.frm, .int .i64 x.to, .bool false, .int .i64 x.node, .slice an q cn] 53)) d) os) fun e w'' => e = .returned (.string ⟨(Lib.decDigits x.id.toNat).toArray⟩) ∧ ∃ p : Regrown, w'' = Sort.grow (redrawn (wr.alloc (.cells #[.int .i64 x.id, .bool false, .int .i64 x.frm, .int .i64 x.to, .bool false, .int .i64 x.node, .slice an q cn] 53)) p.d) p.os) :=
        fun d os => Calls.regrown_of (l1Dec_any x.id.toNat x.id _ (Nat.le_refl _) HRI.out.id.1 HRI.out.id.2)
      have CF : Hid (∀ d os, Calls Tryd.prog 20 #[.int .i64 x.frm] (Sort.grow (redrawn (wr.alloc (.cells #[.int .i64 x.id, .bool false, .int .i64 x.frm, .int .i64 x.to, .bool false, .int .i64 x.node, .slice an q cn] 53)) d) os) fun e w'' => e = .returned (.string ⟨(Lib.decDigits x.frm.toNat).toArray⟩) ∧ ∃ p : Regrown, w'' = Sort.grow (redrawn (wr.alloc (.cells #[.int .i64 x.id, .bool false, .int .i64 x.frm, .int .i64 x.to, .bool false, .int .i64 x.node, .slice an q cn] 53)) p.d) p.os) :=
        fun d os => Calls.regrown_of (l1Dec_any x.frm.toNat x.frm _ (Nat.le_refl _) HRI.out.frm.1 HRI.out.frm.2)
      have hdl1 : (Lib.decDigits x.id.toNat).length ≤ 7 := dec_len 6 _ (by have h1 := HRI.out.id.1; have h2 := HRI.out.id.2; omega)
      have hdl2 : (Lib.decDigits x.frm.toNat).length ≤ 7 := dec_len 6 _ (by have h1 := HRI.out.frm.1; have h2 := HRI.out.frm.2; omega)
      have hn5 : ¬ 9223372036854775807 < (Lib.decDigits x.id.toNat).length + 1 := by omega
      have hn6 : ¬ 9223372036854775807 < (Lib.decDigits x.id.toNat).length + 1 + (Lib.decDigits x.frm.toNat).length := by omega
      have hn7 : ¬ 9223372036854775807 < 3 + ((Lib.decDigits x.id.toNat).length + 1 + (Lib.decDigits x.frm.toNat).length) := by omega
      have hn8 : ¬ 9223372036854775807 < 3 + ((Lib.decDigits x.id.toNat).length + 1 + (Lib.decDigits x.frm.toNat).length) + 3 := by omega
      have HWH : Hid (({ data := #[110, 111, 32] } : ByteArray) ++ ({ data := (Lib.decDigits x.id.toNat).toArray } ++ { data := #[32] } ++ { data := (Lib.decDigits x.frm.toNat).toArray }) ++ { data := #[32, 98, 121] } = relHd x [32, 98, 121]) := by unfold Hid relHd; rw [hon]; rfl
      clear hdl1 hdl2
      go_wp2
      refine wp_region_quiet_below (by kernel_rfl) (by kernel_rfl) ?_
      repeat (go_big_quiet_step (first | with_reducible exact CI.out _ _ | with_reducible exact CF.out _ _))
      refine wpQuiet_nil ?_
      intro _ hw'
      obtain ⟨⟨dq, osq⟩, hw''⟩ := hw'
      subst hw''
      have HNA : Hid (Nx (wr.alloc (.cells #[.int .i64 x.id, .bool false, .int .i64 x.frm, .int .i64 x.to, .bool false, .int .i64 x.node, .slice an q cn] 53)) (Sort.grow (redrawn (wr.alloc (.cells #[.int .i64 x.id, .bool false, .int .i64 x.frm, .int .i64 x.to, .bool false, .int .i64 x.node, .slice an q cn] 53)) dq) osq)) := below_regrown _ dq osq
      clear e0 e1 e2 E0 E2 CI CF hn5 hn6 hn7
      generalize hwq : Sort.grow (redrawn (wr.alloc (.cells #[.int .i64 x.id, .bool false, .int .i64 x.frm, .int .i64 x.to, .bool false, .int .i64 x.node, .slice an q cn] 53)) dq) osq = wq at *
      clear hwq
      have HGW : Hid (Gx w.heap.size w wq) := (HGA.out.alloc HB.out _).trans (Gx.of_nx HNA.out (by have := HB.out; simp; omega))
      have HBA : Hid (w.heap.size ≤ wq.heap.size) := HGW.out.1.size
      have HOA : Hid (Own w.heap.size wq u3 (t3 N k)) := (HO.out.alloc _).next HNA.out
      have HG1A : Hid (Gx w.heap.size w1 wq) := (HG.out.alloc HB.out _).trans (Gx.of_nx HNA.out (by have := HB.out; simp; omega))
      have BXQ := BX.keep (B := (wr.alloc (.cells #[.int .i64 x.id, .bool false, .int .i64 x.frm, .int .i64 x.to, .bool false, .int .i64 x.node, .slice an q cn] 53)).heap.size) (Gx.of_nx HNA.out (Nat.le_refl _))
      clear HO HG HGA HB d0 d1 d2 d3 d4 d5 d6 BX
      have f3 := BXQ.blk.cell (i := 3) rfl
      have f4 := BXQ.blk.cell (i := 4) rfl
      go_wp2
      go_loopw [13, 14] (fun v i wi => ∃ j : Nat, j ≤ q ∧ i = .int .i64 j ∧ Hid (OwnI wq.heap.size wi v (tk x j)) ∧ Hid (Nx wq wi)) (fun _ i _ => q - (intOf i).toNat)
      case atStart => exact ⟨0, Nat.zero_le _, rfl, by unfold Hid; rw [tk_zero]; exact ownI_none _ _ (Nat.le_refl _), box1 _ _⟩
      clear f3 f4
      obtain ⟨j, hjn, rfl, HVI, HNI⟩ := hrel
      have HGI : Hid (Gx w.heap.size w wr) := HGW.out.trans (Gx.of_nx HNI.out HBA.out)
      have HBI : Hid (wq.heap.size ≤ wr.heap.size) := HNI.out.size
      have BI := BXQ.keep (B := wq.heap.size) (Gx.of_nx HNI.out (Nat.le_refl _))
      have f6 := BI.blk.cell (i := 6) rfl
      have f3 := BI.blk.cell (i := 3) rfl
      have HJ : Hid ((tk x j).length ≤ 4) := tk_len x j HRI.out.len
      clear BI
      by_cases hjl : j < q
      · obtain ⟨bw, ow, hwa, hwc⟩ := cell_of HM1.out HGI.out (k := j) (by rw [HQ.out]; exact hjl)
        subst hwa
        have hjl' : (j : Int) < q := by omega
        have HTK : Hid (tk x (j + 1) = tk x j ++ [iat x.ways j]) := tk_succ x j (by rw [HQ.out]; exact hjl)
        have hq4 : q ≤ 4 := HS.out
        clear f3
        go_wp2_with (at_builtin; refine wpList_append_own _ rfl _ _ 22 rfl wq.heap.size 2 ii (.int .i64 0) 1 8 Tryd.underlying22 hi hz0 hz1 hz2 rfl (by decide) _ _ _ rfl (HVI.out.alloc _) ⟨wr.heap.size, 0, none⟩ 1 1 [Value.int .i64 (iat x.ways j)] rfl rfl ?c1 ?c2 ?c3 ?c4 ?c5 ?_)
        case c1 =>
          intro j u hj
          match j, hj with
          | 0, hj => simp at hj; subst hj; simp [Addr.add]
        case c2 => intro u hu; simp at hu; subst hu; rfl
        case c3 => have := HJ.out; unfold maxLen; omega
        case c4 => have := HJ.out; omega
        case c5 => have := HBI.out; simp; omega
        intro v7 w7 hown' hgrow _
        have HV7 : Hid (OwnI wq.heap.size w7 v7 (tk x (j + 1))) := by unfold Hid; rw [HTK.out]; exact OwnI.snoc hown'
        have HN7 : Hid (Nx wq w7) := Below.grown (HNI.out.alloc _) hgrow (by have := HBI.out; simp; omega) (fun g hg => (World.ownsRow.lt HVI.out g hg).1)
        clear hown' hgrow f6 hwc
        go_wp2
        go_roundw
        case rel => exact ⟨j + 1, by omega, by go_num, HV7, HN7⟩
        case measure => simp [intOf]; omega
      have ej : q = j := by omega
      subst ej
      have HTQ : Hid (tk x q = x.ways) := by unfold Hid; rw [← HQ.out]; exact List.take_length
      go_wp2_with (at_builtin; refine wpList_append_own _ rfl _ _ 22 rfl wq.heap.size 2 ii (.int .i64 0) 1 8 Tryd.underlying22 hi hz0 hz1 hz2 rfl (by decide) _ _ _ rfl (HVI.out.alloc _) ⟨wr.heap.size, 0, none⟩ 1 1 [Value.int .i64 x.to] rfl rfl ?g1 ?g2 ?g3 ?g4 ?g5 ?_)
      case g1 =>
        intro j u hj
        match j, hj with
        | 0, hj => simp at hj; subst hj; simp [Addr.add]
      case g2 => intro u hu; simp at hu; subst hu; rfl
      case g3 => have := HJ.out; unfold maxLen; omega
      case g4 => have := HJ.out; omega
      case g5 => have := HBI.out; simp; omega
      intro v7 w7 hown' hgrow _
      have HV7 : Hid (OwnI wq.heap.size w7 v7 (x.ways ++ [x.to])) := by have := OwnI.snoc hown'; rw [HTQ.out] at this; exact this
      have HN7 : Hid (Nx wq w7) := Below.grown (HNI.out.alloc _) hgrow (by have := HBI.out; simp; omega) (fun g hg => (World.ownsRow.lt HVI.out g hg).1)
      clear hown' hgrow f6 f3
      have HGI7 : Hid (Gx w.heap.size w w7) := HGW.out.trans (Gx.of_nx HN7.out HBA.out)
      have HSM : Hid (small (x.ways ++ [x.to])) := small_snoc HRI.out.ways HRI.out.to
      go_wp2_with fail
      rw [HWH.out]
      refine (l1PutLine_any w.heap.size _ (t3 N k) (relHd x [32, 98, 121]) _ (x.ways ++ [x.to]) _ (HOA.out.next HN7.out) HGI7.out.1.size (by have := HLL.out; omega) (by have := relHd_size HRI.out [32, 98, 121] (by decide); omega) HV7.out.nums (by have := HRI.out.len; simp; omega) HSM.out).mono ?_
      rintro e wn ⟨⟨vn, rfl, ho⟩, hg⟩
      have HO' : Hid (Own w.heap.size wn vn (t3 N (k + 1))) := by
        unfold Hid
        rw [line_by _ _ hvi] at ho
        rw [HTS.out]
        exact ho
      have HG' : Hid (Gx w.heap.size w1 wn) := (HG1A.out.trans (Gx.of_nx HN7.out HBA.out)).trans hg
      clear ho hg
      go_wp2
      go_roundw
      case rel => exact ⟨k + 1, by omega, by go_num, HO', HG'⟩
      case measure => simp [intOf]; omega
    · have BX : BlkN (wr.alloc (.cells #[.int .i64 x.id, .bool false, .int .i64 x.frm, .int .i64 x.to, .bool true, .int .i64 x.node, .slice an q cn] 53)) wr.heap.size #[.int .i64 x.id, .bool false, .int .i64 x.frm, .int .i64 x.to, .bool true, .int .i64 x.node, .slice an q cn] := BlkN.new _ _ _ _ (by decide) rfl
      have e0 := BX.blk.cell (i := 0) rfl
      have e1 := BX.blk.cell (i := 1) rfl
      have e2 := BX.blk.cell (i := 2) rfl
      have E0 := cell_regrown e0
      have E2 := cell_regrown e2
      have CI : Hid (∀ d os, Calls Tryd.prog 20 #[.int .i64 x.id] (Sort.grow (redrawn (wr.alloc (.cells #[.int .i64 x.id, .bool false, .int .i64 x.frm, .int .i64 x.to, .bool true, .int .i64 x.node, .slice an q cn] 53)) d) os) fun e w'' => e = .returned (.string ⟨(Lib.decDigits x.id.toNat).toArray⟩) ∧ ∃ p : Regrown, w'' = Sort.grow (redrawn (wr.alloc (.cells #[.int .i64 x.id, .bool false, .int .i64 x.frm, .int .i64 x.to, .bool true, .int .i64 x.node, .slice an q cn] 53)) p.d) p.os) :=
        fun d os => Calls.regrown_of (l1Dec_any x.id.toNat x.id _ (Nat.le_refl _) HRI.out.id.1 HRI.out.id.2)
      have CF : Hid (∀ d os, Calls Tryd.prog 20 #[.int .i64 x.frm] (Sort.grow (redrawn (wr.alloc (.cells #[.int .i64 x.id, .bool false, .int .i64 x.frm, .int .i64 x.to, .bool true, .int .i64 x.node, .slice an q cn] 53)) d) os) fun e w'' => e = .returned (.string ⟨(Lib.decDigits x.frm.toNat).toArray⟩) ∧ ∃ p : Regrown, w'' = Sort.grow (redrawn (wr.alloc (.cells #[.int .i64 x.id, .bool false, .int .i64 x.frm, .int .i64 x.to, .bool true, .int .i64 x.node, .slice an q cn] 53)) p.d) p.os) :=
        fun d os => Calls.regrown_of (l1Dec_any x.frm.toNat x.frm _ (Nat.le_refl _) HRI.out.frm.1 HRI.out.frm.2)
      have hdl1 : (Lib.decDigits x.id.toNat).length ≤ 7 := dec_len 6 _ (by have h1 := HRI.out.id.1; have h2 := HRI.out.id.2; omega)
      have hdl2 : (Lib.decDigits x.frm.toNat).length ≤ 7 := dec_len 6 _ (by have h1 := HRI.out.frm.1; have h2 := HRI.out.frm.2; omega)
      have hn5 : ¬ 9223372036854775807 < (Lib.decDigits x.id.toNat).length + 1 := by omega
      have hn6 : ¬ 9223372036854775807 < (Lib.decDigits x.id.toNat).length + 1 + (Lib.decDigits x.frm.toNat).length := by omega
      have hn7 : ¬ 9223372036854775807 < 3 + ((Lib.decDigits x.id.toNat).length + 1 + (Lib.decDigits x.frm.toNat).length) := by omega
      have hn8 : ¬ 9223372036854775807 < 3 + ((Lib.decDigits x.id.toNat).length + 1 + (Lib.decDigits x.frm.toNat).length) + 3 := by omega
      have HWH : Hid (({ data := #[110, 111, 32] } : ByteArray) ++ ({ data := (Lib.decDigits x.id.toNat).toArray } ++ { data := #[32] } ++ { data := (Lib.decDigits x.frm.toNat).toArray }) ++ { data := #[32, 97, 116] } = relHd x [32, 97, 116]) := by unfold Hid relHd; rw [hon]; rfl
      clear hdl1 hdl2
      go_wp2
      refine wp_region_quiet_below (by kernel_rfl) (by kernel_rfl) ?_
      repeat (go_big_quiet_step (first | with_reducible exact CI.out _ _ | with_reducible exact CF.out _ _))
      refine wpQuiet_nil ?_
      intro _ hw'
      obtain ⟨⟨dq, osq⟩, hw''⟩ := hw'
      subst hw''
      have HNA : Hid (Nx (wr.alloc (.cells #[.int .i64 x.id, .bool false, .int .i64 x.frm, .int .i64 x.to, .bool true, .int .i64 x.node, .slice an q cn] 53)) (Sort.grow (redrawn (wr.alloc (.cells #[.int .i64 x.id, .bool false, .int .i64 x.frm, .int .i64 x.to, .bool true, .int .i64 x.node, .slice an q cn] 53)) dq) osq)) := below_regrown _ dq osq
      clear e0 e1 e2 E0 E2 CI CF hn5 hn6 hn7
      generalize hwq : Sort.grow (redrawn (wr.alloc (.cells #[.int .i64 x.id, .bool false, .int .i64 x.frm, .int .i64 x.to, .bool true, .int .i64 x.node, .slice an q cn] 53)) dq) osq = wq at *
      clear hwq
      have HGW : Hid (Gx w.heap.size w wq) := (HGA.out.alloc HB.out _).trans (Gx.of_nx HNA.out (by have := HB.out; simp; omega))
      have HBA : Hid (w.heap.size ≤ wq.heap.size) := HGW.out.1.size
      have HOA : Hid (Own w.heap.size wq u3 (t3 N k)) := (HO.out.alloc _).next HNA.out
      have HG1A : Hid (Gx w.heap.size w1 wq) := (HG.out.alloc HB.out _).trans (Gx.of_nx HNA.out (by have := HB.out; simp; omega))
      have BXQ := BX.keep (B := (wr.alloc (.cells #[.int .i64 x.id, .bool false, .int .i64 x.frm, .int .i64 x.to, .bool true, .int .i64 x.node, .slice an q cn] 53)).heap.size) (Gx.of_nx HNA.out (Nat.le_refl _))
      clear HO HG HGA HB d0 d1 d2 d3 d4 d5 d6 BX
      have f3 := BXQ.blk.cell (i := 3) rfl
      have f4 := BXQ.blk.cell (i := 4) rfl
      have f5 := BXQ.blk.cell (i := 5) rfl
      go_wp2_with fail
      rw [HWH.out]
      refine (l1PutLine_any w.heap.size _ (t3 N k) (relHd x [32, 97, 116]) _ [x.node, x.to] _ (HOA.out.alloc _) (by have := HBA.out; simp; omega) (by have := HLL.out; omega) (by have := relHd_size HRI.out [32, 97, 116] (by decide); omega) (nums2 _ _ _ _) (by simp) (small2 HRI.out.node HRI.out.to)).mono ?_
      rintro e wn ⟨⟨vn, rfl, ho⟩, hg⟩
      have HO' : Hid (Own w.heap.size wn vn (t3 N (k + 1))) := by
        unfold Hid
        rw [line_at _ _ hvi] at ho
        rw [HTS.out]
        exact ho
      have HG' : Hid (Gx w.heap.size w1 wn) := (HG1A.out.alloc HBA.out _).trans hg
      clear ho hg
      go_wp2
      go_roundw
      case rel => exact ⟨k + 1, by omega, by go_num, HO', HG'⟩
      case measure => simp [intOf]; omega
    · have BX : BlkN (wr.alloc (.cells #[.int .i64 x.id, .bool true, .int .i64 x.frm, .int .i64 x.to, .bool false, .int .i64 x.node, .slice an q cn] 53)) wr.heap.size #[.int .i64 x.id, .bool true, .int .i64 x.frm, .int .i64 x.to, .bool false, .int .i64 x.node, .slice an q cn] := BlkN.new _ _ _ _ (by decide) rfl
      have e0 := BX.blk.cell (i := 0) rfl
      have e1 := BX.blk.cell (i := 1) rfl
      have e2 := BX.blk.cell (i := 2) rfl
      have E0 := cell_regrown e0
      have E2 := cell_regrown e2
      have CI : Hid (∀ d os, Calls Tryd.prog 20 #[.int .i64 x.id] (Sort.grow (redrawn (wr.alloc (.cells #[.int .i64 x.id, .bool true, .int .i64 x.frm, .int .i64 x.to, .bool false, .int .i64 x.node, .slice an q cn] 53)) d) os) fun e w'' => e = .returned (.string ⟨(Lib.decDigits x.id.toNat).toArray⟩) ∧ ∃ p : Regrown, w'' = Sort.grow (redrawn (wr.alloc (.cells #[.int .i64 x.id, .bool true, .int .i64 x.frm, .int .i64 x.to, .bool false, .int .i64 x.node, .slice an q cn] 53)) p.d) p.os) :=
        fun d os => Calls.regrown_of (l1Dec_any x.id.toNat x.id _ (Nat.le_refl _) HRI.out.id.1 HRI.out.id.2)
      have CF : Hid (∀ d os, Calls Tryd.prog 20 #[.int .i64 x.frm] (Sort.grow (redrawn (wr.alloc (.cells #[.int .i64 x.id, .bool true, .int .i64 x.frm, .int .i64 x.to, .bool false, .int .i64 x.node, .slice an q cn] 53)) d) os) fun e w'' => e = .returned (.string ⟨(Lib.decDigits x.frm.toNat).toArray⟩) ∧ ∃ p : Regrown, w'' = Sort.grow (redrawn (wr.alloc (.cells #[.int .i64 x.id, .bool true, .int .i64 x.frm, .int .i64 x.to, .bool false, .int .i64 x.node, .slice an q cn] 53)) p.d) p.os) :=
        fun d os => Calls.regrown_of (l1Dec_any x.frm.toNat x.frm _ (Nat.le_refl _) HRI.out.frm.1 HRI.out.frm.2)
      have hdl1 : (Lib.decDigits x.id.toNat).length ≤ 7 := dec_len 6 _ (by have h1 := HRI.out.id.1; have h2 := HRI.out.id.2; omega)
      have hdl2 : (Lib.decDigits x.frm.toNat).length ≤ 7 := dec_len 6 _ (by have h1 := HRI.out.frm.1; have h2 := HRI.out.frm.2; omega)
      have hn5 : ¬ 9223372036854775807 < (Lib.decDigits x.id.toNat).length + 1 := by omega
      have hn6 : ¬ 9223372036854775807 < (Lib.decDigits x.id.toNat).length + 1 + (Lib.decDigits x.frm.toNat).length := by omega
      have hn7 : ¬ 9223372036854775807 < 5 + ((Lib.decDigits x.id.toNat).length + 1 + (Lib.decDigits x.frm.toNat).length) := by omega
      have hn8 : ¬ 9223372036854775807 < 5 + ((Lib.decDigits x.id.toNat).length + 1 + (Lib.decDigits x.frm.toNat).length) + 3 := by omega
      have HWH : Hid (({ data := #[111, 110, 108, 121, 32] } : ByteArray) ++ ({ data := (Lib.decDigits x.id.toNat).toArray } ++ { data := #[32] } ++ { data := (Lib.decDigits x.frm.toNat).toArray }) ++ { data := #[32, 98, 121] } = relHd x [32, 98, 121]) := by unfold Hid relHd; rw [hon]; rfl
      clear hdl1 hdl2
      go_wp2
      refine wp_region_quiet_below (by kernel_rfl) (by kernel_rfl) ?_
      repeat (go_big_quiet_step (first | with_reducible exact CI.out _ _ | with_reducible exact CF.out _ _))
      refine wpQuiet_nil ?_
      intro _ hw'
      obtain ⟨⟨dq, osq⟩, hw''⟩ := hw'
      subst hw''
      have HNA : Hid (Nx (wr.alloc (.cells #[.int .i64 x.id, .bool true, .int .i64 x.frm, .int .i64 x.to, .bool false, .int .i64 x.node, .slice an q cn] 53)) (Sort.grow (redrawn (wr.alloc (.cells #[.int .i64 x.id, .bool true, .int .i64 x.frm, .int .i64 x.to, .bool false, .int .i64 x.node, .slice an q cn] 53)) dq) osq)) := below_regrown _ dq osq
      clear e0 e1 e2 E0 E2 CI CF hn5 hn6 hn7
      generalize hwq : Sort.grow (redrawn (wr.alloc (.cells #[.int .i64 x.id, .bool true, .int .i64 x.frm, .int .i64 x.to, .bool false, .int .i64 x.node, .slice an q cn] 53)) dq) osq = wq at *
      clear hwq
      have HGW : Hid (Gx w.heap.size w wq) := (HGA.out.alloc HB.out _).trans (Gx.of_nx HNA.out (by have := HB.out; simp; omega))
      have HBA : Hid (w.heap.size ≤ wq.heap.size) := HGW.out.1.size
      have HOA : Hid (Own w.heap.size wq u3 (t3 N k)) := (HO.out.alloc _).next HNA.out
      have HG1A : Hid (Gx w.heap.size w1 wq) := (HG.out.alloc HB.out _).trans (Gx.of_nx HNA.out (by have := HB.out; simp; omega))
      have BXQ := BX.keep (B := (wr.alloc (.cells #[.int .i64 x.id, .bool true, .int .i64 x.frm, .int .i64 x.to, .bool false, .int .i64 x.node, .slice an q cn] 53)).heap.size) (Gx.of_nx HNA.out (Nat.le_refl _))
      clear HO HG HGA HB d0 d1 d2 d3 d4 d5 d6 BX
      have f3 := BXQ.blk.cell (i := 3) rfl
      have f4 := BXQ.blk.cell (i := 4) rfl
      go_wp2
      go_loopw [13, 14] (fun v i wi => ∃ j : Nat, j ≤ q ∧ i = .int .i64 j ∧ Hid (OwnI wq.heap.size wi v (tk x j)) ∧ Hid (Nx wq wi)) (fun _ i _ => q - (intOf i).toNat)
      case atStart => exact ⟨0, Nat.zero_le _, rfl, by unfold Hid; rw [tk_zero]; exact ownI_none _ _ (Nat.le_refl _), box1 _ _⟩
      clear f3 f4
      obtain ⟨j, hjn, rfl, HVI, HNI⟩ := hrel
      have HGI : Hid (Gx w.heap.size w wr) := HGW.out.trans (Gx.of_nx HNI.out HBA.out)
      have HBI : Hid (wq.heap.size ≤ wr.heap.size) := HNI.out.size
      have BI := BXQ.keep (B := wq.heap.size) (Gx.of_nx HNI.out (Nat.le_refl _))
      have f6 := BI.blk.cell (i := 6) rfl
      have f3 := BI.blk.cell (i := 3) rfl
      have HJ : Hid ((tk x j).length ≤ 4) := tk_len x j HRI.out.len
      clear BI
      by_cases hjl : j < q
      · obtain ⟨bw, ow, hwa, hwc⟩ := cell_of HM1.out HGI.out (k := j) (by rw [HQ.out]; exact hjl)
        subst hwa
        have hjl' : (j : Int) < q := by omega
        have HTK : Hid (tk x (j + 1) = tk x j ++ [iat x.ways j]) := tk_succ x j (by rw [HQ.out]; exact hjl)
        have hq4 : q ≤ 4 := HS.out
        clear f3
        go_wp2_with (at_builtin; refine wpList_append_own _ rfl _ _ 22 rfl wq.heap.size 2 ii (.int .i64 0) 1 8 Tryd.underlying22 hi hz0 hz1 hz2 rfl (by decide) _ _ _ rfl (HVI.out.alloc _) ⟨wr.heap.size, 0, none⟩ 1 1 [Value.int .i64 (iat x.ways j)] rfl rfl ?c1 ?c2 ?c3 ?c4 ?c5 ?_)
        case c1 =>
          intro j u hj
          match j, hj with
          | 0, hj => simp at hj; subst hj; simp [Addr.add]
        case c2 => intro u hu; simp at hu; subst hu; rfl
        case c3 => have := HJ.out; unfold maxLen; omega
        case c4 => have := HJ.out; omega
        case c5 => have := HBI.out; simp; omega
        intro v7 w7 hown' hgrow _
        have HV7 : Hid (OwnI wq.heap.size w7 v7 (tk x (j + 1))) := by unfold Hid; rw [HTK.out]; exact OwnI.snoc hown'
        have HN7 : Hid (Nx wq w7) := Below.grown (HNI.out.alloc _) hgrow (by have := HBI.out; simp; omega) (fun g hg => (World.ownsRow.lt HVI.out g hg).1)
        clear hown' hgrow f6 hwc
        go_wp2
        go_roundw
        case rel => exact ⟨j + 1, by omega, by go_num, HV7, HN7⟩
        case measure => simp [intOf]; omega
      have ej : q = j := by omega
      subst ej
      have HTQ : Hid (tk x q = x.ways) := by unfold Hid; rw [← HQ.out]; exact List.take_length
      go_wp2_with (at_builtin; refine wpList_append_own _ rfl _ _ 22 rfl wq.heap.size 2 ii (.int .i64 0) 1 8 Tryd.underlying22 hi hz0 hz1 hz2 rfl (by decide) _ _ _ rfl (HVI.out.alloc _) ⟨wr.heap.size, 0, none⟩ 1 1 [Value.int .i64 x.to] rfl rfl ?g1 ?g2 ?g3 ?g4 ?g5 ?_)
      case g1 =>
        intro j u hj
        match j, hj with
        | 0, hj => simp at hj; subst hj; simp [Addr.add]
      case g2 => intro u hu; simp at hu; subst hu; rfl
      case g3 => have := HJ.out; unfold maxLen; omega
      case g4 => have := HJ.out; omega
      case g5 => have := HBI.out; simp; omega
      intro v7 w7 hown' hgrow _
      have HV7 : Hid (OwnI wq.heap.size w7 v7 (x.ways ++ [x.to])) := by have := OwnI.snoc hown'; rw [HTQ.out] at this; exact this
      have HN7 : Hid (Nx wq w7) := Below.grown (HNI.out.alloc _) hgrow (by have := HBI.out; simp; omega) (fun g hg => (World.ownsRow.lt HVI.out g hg).1)
      clear hown' hgrow f6 f3
      have HGI7 : Hid (Gx w.heap.size w w7) := HGW.out.trans (Gx.of_nx HN7.out HBA.out)
      have HSM : Hid (small (x.ways ++ [x.to])) := small_snoc HRI.out.ways HRI.out.to
      go_wp2_with fail
      rw [HWH.out]
      refine (l1PutLine_any w.heap.size _ (t3 N k) (relHd x [32, 98, 121]) _ (x.ways ++ [x.to]) _ (HOA.out.next HN7.out) HGI7.out.1.size (by have := HLL.out; omega) (by have := relHd_size HRI.out [32, 98, 121] (by decide); omega) HV7.out.nums (by have := HRI.out.len; simp; omega) HSM.out).mono ?_
      rintro e wn ⟨⟨vn, rfl, ho⟩, hg⟩
      have HO' : Hid (Own w.heap.size wn vn (t3 N (k + 1))) := by
        unfold Hid
        rw [line_by _ _ hvi] at ho
        rw [HTS.out]
        exact ho
      have HG' : Hid (Gx w.heap.size w1 wn) := (HG1A.out.trans (Gx.of_nx HN7.out HBA.out)).trans hg
      clear ho hg
      go_wp2
      go_roundw
      case rel => exact ⟨k + 1, by omega, by go_num, HO', HG'⟩
      case measure => simp [intOf]; omega
    · have BX : BlkN (wr.alloc (.cells #[.int .i64 x.id, .bool true, .int .i64 x.frm, .int .i64 x.to, .bool true, .int .i64 x.node, .slice an q cn] 53)) wr.heap.size #[.int .i64 x.id, .bool true, .int .i64 x.frm, .int .i64 x.to, .bool true, .int .i64 x.node, .slice an q cn] := BlkN.new _ _ _ _ (by decide) rfl
      have e0 := BX.blk.cell (i := 0) rfl
      have e1 := BX.blk.cell (i := 1) rfl
      have e2 := BX.blk.cell (i := 2) rfl
      have E0 := cell_regrown e0
      have E2 := cell_regrown e2
      have CI : Hid (∀ d os, Calls Tryd.prog 20 #[.int .i64 x.id] (Sort.grow (redrawn (wr.alloc (.cells #[.int .i64 x.id, .bool true, .int .i64 x.frm, .int .i64 x.to, .bool true, .int .i64 x.node, .slice an q cn] 53)) d) os) fun e w'' => e = .returned (.string ⟨(Lib.decDigits x.id.toNat).toArray⟩) ∧ ∃ p : Regrown, w'' = Sort.grow (redrawn (wr.alloc (.cells #[.int .i64 x.id, .bool true, .int .i64 x.frm, .int .i64 x.to, .bool true, .int .i64 x.node, .slice an q cn] 53)) p.d) p.os) :=
        fun d os => Calls.regrown_of (l1Dec_any x.id.toNat x.id _ (Nat.le_refl _) HRI.out.id.1 HRI.out.id.2)
      have CF : Hid (∀ d os, Calls Tryd.prog 20 #[.int .i64 x.frm] (Sort.grow (redrawn (wr.alloc (.cells #[.int .i64 x.id, .bool true, .int .i64 x.frm, .int .i64 x.to, .bool true, .int .i64 x.node, .slice an q cn] 53)) d) os) fun e w'' => e = .returned (.string ⟨(Lib.decDigits x.frm.toNat).toArray⟩) ∧ ∃ p : Regrown, w'' = Sort.grow (redrawn (wr.alloc (.cells #[.int .i64 x.id, .bool true, .int .i64 x.frm, .int .i64 x.to, .bool true, .int .i64 x.node, .slice an q cn] 53)) p.d) p.os) :=
        fun d os => Calls.regrown_of (l1Dec_any x.frm.toNat x.frm _ (Nat.le_refl _) HRI.out.frm.1 HRI.out.frm.2)
      have hdl1 : (Lib.decDigits x.id.toNat).length ≤ 7 := dec_len 6 _ (by have h1 := HRI.out.id.1; have h2 := HRI.out.id.2; omega)
      have hdl2 : (Lib.decDigits x.frm.toNat).length ≤ 7 := dec_len 6 _ (by have h1 := HRI.out.frm.1; have h2 := HRI.out.frm.2; omega)
      have hn5 : ¬ 9223372036854775807 < (Lib.decDigits x.id.toNat).length + 1 := by omega
      have hn6 : ¬ 9223372036854775807 < (Lib.decDigits x.id.toNat).length + 1 + (Lib.decDigits x.frm.toNat).length := by omega
      have hn7 : ¬ 9223372036854775807 < 5 + ((Lib.decDigits x.id.toNat).length + 1 + (Lib.decDigits x.frm.toNat).length) := by omega
      have hn8 : ¬ 9223372036854775807 < 5 + ((Lib.decDigits x.id.toNat).length + 1 + (Lib.decDigits x.frm.toNat).length) + 3 := by omega
      have HWH : Hid (({ data := #[111, 110, 108, 121, 32] } : ByteArray) ++ ({ data := (Lib.decDigits x.id.toNat).toArray } ++ { data := #[32] } ++ { data := (Lib.decDigits x.frm.toNat).toArray }) ++ { data := #[32, 97, 116] } = relHd x [32, 97, 116]) := by unfold Hid relHd; rw [hon]; rfl
      clear hdl1 hdl2
      go_wp2
      refine wp_region_quiet_below (by kernel_rfl) (by kernel_rfl) ?_
      repeat (go_big_quiet_step (first | with_reducible exact CI.out _ _ | with_reducible exact CF.out _ _))
      refine wpQuiet_nil ?_
      intro _ hw'
      obtain ⟨⟨dq, osq⟩, hw''⟩ := hw'
      subst hw''
      have HNA : Hid (Nx (wr.alloc (.cells #[.int .i64 x.id, .bool true, .int .i64 x.frm, .int .i64 x.to, .bool true, .int .i64 x.node, .slice an q cn] 53)) (Sort.grow (redrawn (wr.alloc (.cells #[.int .i64 x.id, .bool true, .int .i64 x.frm, .int .i64 x.to, .bool true, .int .i64 x.node, .slice an q cn] 53)) dq) osq)) := below_regrown _ dq osq
      clear e0 e1 e2 E0 E2 CI CF hn5 hn6 hn7
      generalize hwq : Sort.grow (redrawn (wr.alloc (.cells #[.int .i64 x.id, .bool true, .int .i64 x.frm, .int .i64 x.to, .bool true, .int .i64 x.node, .slice an q cn] 53)) dq) osq = wq at *
      clear hwq
      have HGW : Hid (Gx w.heap.size w wq) := (HGA.out.alloc HB.out _).trans (Gx.of_nx HNA.out (by have := HB.out; simp; omega))
      have HBA : Hid (w.heap.size ≤ wq.heap.size) := HGW.out.1.size
      have HOA : Hid (Own w.heap.size wq u3 (t3 N k)) := (HO.out.alloc _).next HNA.out
      have HG1A : Hid (Gx w.heap.size w1 wq) := (HG.out.alloc HB.out _).trans (Gx.of_nx HNA.out (by have := HB.out; simp; omega))
      have BXQ := BX.keep (B := (wr.alloc (.cells #[.int .i64 x.id, .bool true, .int .i64 x.frm, .int .i64 x.to, .bool true, .int .i64 x.node, .slice an q cn] 53)).heap.size) (Gx.of_nx HNA.out (Nat.le_refl _))
      clear HO HG HGA HB d0 d1 d2 d3 d4 d5 d6 BX
      have f3 := BXQ.blk.cell (i := 3) rfl
      have f4 := BXQ.blk.cell (i := 4) rfl
      have f5 := BXQ.blk.cell (i := 5) rfl
      go_wp2_with fail
      rw [HWH.out]
      refine (l1PutLine_any w.heap.size _ (t3 N k) (relHd x [32, 97, 116]) _ [x.node, x.to] _ (HOA.out.alloc _) (by have := HBA.out; simp; omega) (by have := HLL.out; omega) (by have := relHd_size HRI.out [32, 97, 116] (by decide); omega) (nums2 _ _ _ _) (by simp) (small2 HRI.out.node HRI.out.to)).mono ?_
      rintro e wn ⟨⟨vn, rfl, ho⟩, hg⟩
      have HO' : Hid (Own w.heap.size wn vn (t3 N (k + 1))) := by
        unfold Hid
        rw [line_at _ _ hvi] at ho
        rw [HTS.out]
        exact ho
      have HG' : Hid (Gx w.heap.size w1 wn) := (HG1A.out.alloc HBA.out _).trans hg
      clear ho hg
      go_wp2
      go_roundw
      case rel => exact ⟨k + 1, by omega, by go_num, HO', HG'⟩
      case measure => simp [intOf]; omega
  have ek : m2 = k := by omega
  subst ek
  have HOW := Own.to HO.out (show t3 N m2 = t4 N 0 by rw [t4_zero, HZ.out.2.2.1])
  clear HO
  have HO : Hid _ := HOW
  clear HOW HLL HGA HB hkn hlt BA2
  go_wp2
  clear kk0
  go_loopw [3, 15] (fun o i wr => ∃ k : Nat, k ≤ m3 ∧ i = .int .i64 k ∧ Hid (Own w.heap.size wr o (t4 N k)) ∧ Hid (Gx w.heap.size w1 wr)) (fun _ i _ => m3 - (intOf i).toNat)
  case atStart => exact ⟨0, Nat.zero_le _, rfl, HO, HG⟩
  clear HO HG
  obtain ⟨k, hkn, rfl, HO, HG⟩ := hrel
  have HGA : Hid (Gx w.heap.size w wr) := HG1.out.trans HG.out
  have HB : Hid (w.heap.size ≤ wr.heap.size) := HGA.out.1.size
  have HLL : Hid ((t4 N k).length ≤ 380000) := by
    have h1 := t4_len HN.out k (by rw [HZ.out.2.2.2]; exact hkn)
    have h2 := HN.out.c3
    rw [HZ.out.2.2.2] at h2
    unfold Hid
    omega
  have BA2 := BA.keep HG.out
  have kk0 := BA2.blk.cell (i := 3) rfl
  by_cases hlt : k < m3
  · obtain ⟨b, off, rfl, hB, hb, hc⟩ := hk3 (by omega)
    obtain ⟨d0, d1, d2⟩ := hc k hlt
    have d0 := cell_next HGA.out.1 hb d0
    have d1 := cell_next HGA.out.1 hb d1
    have d2 := cell_next HGA.out.1 hb d2
    have HTI : Hid (TurnIn (tat N.turns k)) := HN.out.turns k (by rw [HZ.out.2.2.2]; exact hlt)
    have HTS : Hid (t4 N (k + 1) = t4 N k ++ turnTx (tat N.turns k)) := t4_succ N k
    have hlt' : (k : Int) < m3 := by omega
    have hbr : b < wr.heap.size := Nat.lt_of_lt_of_le hb HB.out
    generalize hxx : tat N.turns k = x at *
    have HD : Hid (wr.cell? ⟨b, off + k * 3, none⟩ = some (.int .i64 x.frm) ∧ wr.cell? ⟨b, off + k * 3 + 1, none⟩ = some (.int .i64 x.to) ∧ wr.cell? ⟨b, off + k * 3 + 2, none⟩ = some (.int .i64 x.cost)) := ⟨d0, d1, d2⟩
    have HBB : Hid (b < w.heap.size) := hb
    have HBA2 : Hid (BlkN wr w.heap.size #[.slice a0 m0 c0, .slice a1 m1 c1, .slice a2 m2 c2, .slice (some ⟨b, off, none⟩) m3 c3, .int .i64 N.uturn]) := BA2
    clear hc hk3 hxx BA2
    go_wp2
    go_region_held3 (fun w' => w'.cell? ⟨w.heap.size, 3, none⟩ = some (.slice (some ⟨b, off, none⟩) m3 c3) ∧ w'.cell? ⟨b, off + k * 3, none⟩ = some (.int .i64 x.frm) ∧ w'.cell? ⟨b, off + k * 3 + 1, none⟩ = some (.int .i64 x.to) ∧ w'.cell? ⟨b, off + k * 3 + 2, none⟩ = some (.int .i64 x.cost)) (go_keep) (first | (go_at_call 19; refine (l1PutLine_any w.heap.size _ (t4 N k) ⟨#[116, 117, 114, 110]⟩ _ [x.frm, x.to, x.cost] _ (by exact Own.alloc (show Own w.heap.size wr.drew _ (t4 N k) from HO.out) _) (by have := HB.out; simp; omega) (by have := HLL.out; omega) (by decide) (by exact nums3' _ _ _ _ _ _ (by simp)) (by simp) (small3 HTI.out.frm HTI.out.to HTI.out.cost)).mono ?_; rintro e wn ⟨⟨vn, rfl, ho⟩, hg⟩; have hg2 : Gx w.heap.size wr wn := Gx.trans (Gx.alloc (Gx.refl w.heap.size wr).drew (show w.heap.size ≤ wr.drew.heap.size from HB.out) _) hg; have s0 := cell_next hg2.1 HBB.out HD.out.1; have s1 := cell_next hg2.1 HBB.out HD.out.2.1; have s2 := cell_next hg2.1 HBB.out HD.out.2.2; have s3 := (HBA2.out.keep hg2).blk.cell (i := 3) rfl))
    all_goals
      have HO' : Hid (Own w.heap.size wn vn (t4 N (k + 1))) := by
        unfold Hid
        rw [line_turn] at ho
        rw [HTS.out]
        exact ho
      have HG' : Hid (Gx w.heap.size w1 wn) := Gx.trans (Gx.alloc (show Gx w.heap.size w1 wr.drew from HG.out.drew) (show w.heap.size ≤ wr.drew.heap.size from HB.out) _) hg
      clear ho hg hg2 s0 s1 s2 s3
      go_wp2
      go_roundw
      case rel => exact ⟨k + 1, by omega, by go_num, HO', HG'⟩
      case measure => simp [intOf]; omega
  have ek : m3 = k := by omega
  subst ek
  go_wp2
  go_ret
  exact ⟨⟨_, rfl, by rw [encTx_yes HV.out]; unfold netTx; rw [HZ.out.2.2.2]; exact HO.out⟩, HGA.out.1⟩
end Go.Proofs.YtedhchmigeooiaaDoor
