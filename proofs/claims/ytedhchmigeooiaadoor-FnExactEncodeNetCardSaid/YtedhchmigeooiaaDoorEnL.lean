import Derived.Test.YtedhchmigeooiaaDoorEnK
namespace Go.Proofs.YtedhchmigeooiaaDoor
open Go.RowKit
set_option linter.unusedVariables false
set_option maxRecDepth 100000

theorem own_empty (B : Nat) (w : World) (h : B ≤ w.heap.size) : Own B (w.alloc (.cells #[] 5)) (.slice (some ⟨w.heap.size, 0, none⟩) 0 0) [] := by
  refine ⟨rfl, .inr ⟨w.heap.size, 0, #[], rfl, h, by show (w.heap.push _)[w.heap.size]? = _; simp, Nat.le_refl _, by simp [maxLen], by simp, by simp [Lib.byteCells]⟩⟩
theorem cell_new (w : World) (C : Array Value) (t : TypeId) (fz : Nat × Nat) (j : Nat) : (w.alloc (.cells C t fz)).cell? ⟨w.heap.size, j, none⟩ = C[j]? := by
  have h : (w.alloc (.cells C t fz)).heap[w.heap.size]? = some (.cells C t fz) := by show (w.heap.push _)[w.heap.size]? = _; simp
  unfold World.cell?
  rw [h]
  simp
theorem head_full (w : World) (fz : Nat × Nat) : Full (w.alloc (.cells #[.int .u8 114, .int .u8 111, .int .u8 97, .int .u8 100, .int .u8 110, .int .u8 101, .int .u8 116, .int .u8 32, .int .u8 49, .int .u8 10] 5 fz)) w.heap.size headB := by
  intro j u hj
  rw [show (⟨w.heap.size, 0, none⟩ : Addr).add j = ⟨w.heap.size, j, none⟩ from by simp [Addr.add]; exact fun h => h.symm, cell_new, ← Array.getElem?_toList]
  exact hj
theorem Full.alloc {w : World} {g : Nat} {bs : List UInt8} (h : Full w g bs) (o : Obj) : Full (w.alloc o) g bs := fun j u hj => Lib.cell?_alloc_marked o (h j u hj)
theorem nums1' (B : Nat) (w : World) (x : Int) (n : Nat) (h : n = w.heap.size) : HNums B (w.alloc (.cells #[.int .i64 x] 2)) (.slice (some ⟨n, 0, none⟩) 1 1) [x] := by subst h; exact nums1 B w x
theorem nums3' (B : Nat) (w : World) (x y z : Int) (n : Nat) (h : n = w.heap.size) : HNums B (w.alloc (.cells #[.int .i64 x, .int .i64 y, .int .i64 z] 2)) (.slice (some ⟨n, 0, none⟩) 3 3) [x, y, z] := by subst h; exact nums3 B w x y z
theorem Own.to {B : Nat} {w : World} {v : Value} {a b : List UInt8} (h : Own B w v a) (e : a = b) : Own B w v b := e ▸ h
theorem encTx_no {N : Nt} (h : implValid N = false) : encTx N = [] := by simp [encTx, h]
theorem encTx_yes {N : Nt} (h : implValid N = true) : encTx N = netTx N := by simp [encTx, h]
theorem line_ut (u : Int) : headB ++ (⟨#[117, 116, 117, 114, 110]⟩ : ByteArray).data.toList ++ numsTo [u] [u].length ++ [10] = headTx u := by simp [headTx]

set_option maxHeartbeats 4000000 in
theorem implEncode_any (B0 : Nat) (v0 v1 v2 v3 : Value) (N : Nt) (w : World) (h0 : HNet B0 w v0 v1 v2 v3 N) (hs : wsum N.ways N.ways.length ≤ 1048576) (ht : Tab w.heap.size w) :
    Calls Tryd.prog 7 #[.agg #[v0, v1, v2, v3, .int .i64 N.uturn]] w fun e w' => (∃ v', e = .returned v' ∧ Own w.heap.size w' v' (encTx N)) ∧ Below w.heap.size w w' := by
  have HT : Hid (Tab w.heap.size w) := ht
  clear ht
  have kc := fun (w : World) (C : Array Value) (n c : Nat) => Lib.run_convert_bytes_const (P := Tryd.prog) w 29 5 C n c Tryd.underlying29 Tryd.underlying5
  obtain ⟨i0, i1, i2, i3⟩ := h0
  have HI0 : Hid (HNums w.heap.size w v0 N.nodes) := i0.nums (Nat.le_refl _)
  have HI : Hid (HNet B0 w v0 v1 v2 v3 N) := ⟨i0, i1, i2, i3⟩
  obtain ⟨a0, c0, rfl, hn0, _⟩ := i0
  obtain ⟨a1, c1, rfl, hn1, hk1⟩ := i1
  obtain ⟨a2, c2, rfl, hn2, hk2⟩ := i2
  obtain ⟨a3, c3, rfl, hn3, hk3⟩ := i3
  unfold maxLen at hn0 hn1 hn2 hn3
  generalize hz0 : N.nodes.length = m0 at *
  generalize hz1 : N.ways.length = m1 at *
  generalize hz2 : N.rels.length = m2 at *
  generalize hz3 : N.turns.length = m3 at *
  have HZ : Hid (N.nodes.length = m0 ∧ N.ways.length = m1 ∧ N.rels.length = m2 ∧ N.turns.length = m3) := ⟨hz0, hz1, hz2, hz3⟩
  clear hz0 hz1 hz2 hz3
  go_enter Tryd.func7, Tryd.ntmps7
  go_wp2_with fail
  refine (implValid_any B0 _ _ _ _ N _ (by exact HI.out.next (box1 _ _)) (by rw [HZ.out.2.1]; exact hs)).mono ?_
  rintro e w1 ⟨rfl, hx⟩
  cases hv : implValid N
  case false =>
    go_wp2
    go_ret
    exact ⟨⟨_, rfl, by rw [encTx_no hv]; exact own_empty _ _ (Nat.le_trans (by simp) hx.size)⟩, (((box1 _ _).trans hx).trans (box1 _ _))⟩
  have HV : Hid (implValid N = true) := hv
  have HN : Hid (NetIn N) := net_in hv
  have BA : BlkN w1 w.heap.size #[.slice a0 m0 c0, .slice a1 m1 c1, .slice a2 m2 c2, .slice a3 m3 c3, .int .i64 N.uturn] := (BlkN.new w #[.slice a0 m0 c0, .slice a1 m1 c1, .slice a2 m2 c2, .slice a3 m3 c3, .int .i64 N.uturn] 35 _ (by decide) rfl).keep (B := w.heap.size) (Gx.of_nx hx (by simp))
  have HG1 : Hid (Gx w.heap.size w w1) := ((Gx.refl w.heap.size w).alloc (Nat.le_refl _) _).trans (Gx.of_nx hx (by simp))
  have HB1 : Hid (w.heap.size ≤ w1.heap.size) := HG1.out.1.size
  clear hx hs
  have HF : Hid (Full (w1.alloc (.cells #[.int .u8 114, .int .u8 111, .int .u8 97, .int .u8 100, .int .u8 110, .int .u8 101, .int .u8 116, .int .u8 32, .int .u8 49, .int .u8 10] 5 (10, 11))) w1.heap.size headB) := head_full _ _
  have HG2 : Hid (Gx w.heap.size w1 (w1.alloc (.cells #[.int .u8 114, .int .u8 111, .int .u8 97, .int .u8 100, .int .u8 110, .int .u8 101, .int .u8 116, .int .u8 32, .int .u8 49, .int .u8 10] 5 (10, 11)))) := (Gx.refl w.heap.size w1).alloc HB1.out _
  have BA2 : BlkN (w1.alloc (.cells #[.int .u8 114, .int .u8 111, .int .u8 97, .int .u8 100, .int .u8 110, .int .u8 101, .int .u8 116, .int .u8 32, .int .u8 49, .int .u8 10] 5 (10, 11))) w.heap.size #[.slice a0 m0 c0, .slice a1 m1 c1, .slice a2 m2 c2, .slice a3 m3 c3, .int .i64 N.uturn] := BA.keep HG2.out
  have kk0 := BA2.blk.cell (i := 4) rfl
  go_wp2_with fail
  refine (appendLine_full w.heap.size w1.heap.size headB ⟨#[117, 116, 117, 114, 110]⟩ _ [N.uturn] _ (HF.out.alloc _) (by decide) (by have := HB1.out; simp; omega) (by decide) (by decide) (nums1' _ _ _ _ (by simp)) (by simp) (small1 HN.out.ut) (HT.out.on (HG1.out.trans (HG2.out.alloc (by have := HB1.out; simp; omega) _)).1)).mono ?_
  rintro e w2 ⟨⟨o2, rfl, ho⟩, hg⟩
  have HO2 : Hid (Own w.heap.size w2 o2 (t0 N)) := by unfold Hid; rw [line_ut] at ho; exact ho
  have HG3 : Hid (Gx w.heap.size w1 w2) := (HG2.out.alloc (by have := HB1.out; simp; omega) _).trans hg
  clear ho hg HF HG2 BA2 kk0
  have BA2 := BA.keep HG3.out
  have kk0 := BA2.blk.cell (i := 0) rfl
  go_wp2
  clear kk0
  go_loopw [3, 5, 26] (fun o p i wr => ∃ k : Nat, k ≤ m0 ∧ i = .int .i64 k ∧ Hid (Own w.heap.size wr o (t1 N k)) ∧ Hid (Gx w.heap.size w1 wr)) (fun _ _ i _ => m0 - (intOf i).toNat)
  case atStart => exact ⟨0, Nat.zero_le _, rfl, by unfold Hid; rw [t1_zero]; exact HO2.out, HG3⟩
  case round =>
    obtain ⟨k, hkn, rfl, HO, HG⟩ := hrel
    have HGA : Hid (Gx w.heap.size w wr) := HG1.out.trans HG.out
    have HB : Hid (w.heap.size ≤ wr.heap.size) := HGA.out.1.size
    have HLL : Hid ((t1 N k).length ≤ 380000) := by
      have h1 := t1_len HN.out k (by rw [HZ.out.1]; exact hkn)
      have h2 := HN.out.c0
      rw [HZ.out.1] at h2
      unfold Hid
      omega
    by_cases hlt : k < m0
    · obtain ⟨b, off, h2a, h2c⟩ := cell_of HI0.out HGA.out (k := k) (by rw [HZ.out.1]; exact hlt)
      subst h2a
      have hlt' : (k : Int) < m0 := by omega
      go_wp2_with fail
      refine (appendLine_any w.heap.size _ (t1 N k) ⟨#[110, 111, 100, 101]⟩ _ [iat N.nodes k] _ (HO.out.alloc _) (by have := HB.out; simp; omega) (by have := HLL.out; omega) (by decide) (nums1' _ _ _ _ rfl) (by simp) (small1 (HN.out.nodes k (by rw [HZ.out.1]; exact hlt))) (HT.out.on (HGA.out.alloc HB.out _).1)).mono ?_
      rintro e wn ⟨⟨vn, rfl, ho⟩, hg⟩
      have HO' : Hid (Own w.heap.size wn vn (t1 N (k + 1))) := by
        unfold Hid
        rw [line_node] at ho
        rw [t1_succ]
        exact ho
      have HG' : Hid (Gx w.heap.size w1 wn) := (HG.out.alloc HB.out _).trans hg
      clear ho hg
      go_wp2
      go_roundw
      case rel => exact ⟨k + 1, by omega, by go_num, HO', HG'⟩
      case measure => simp [intOf]; omega
    have ek : m0 = k := by omega
    subst ek
    have HOW := Own.to HO.out (show t1 N m0 = t2 N 0 by rw [t2_zero, HZ.out.1])
    clear HO
    have HO : Hid _ := HOW
    clear HOW HLL HGA HB HO2 HG3 BA2 hkn hlt
    have BA2 := BA.keep HG.out
    have kk0 := BA2.blk.cell (i := 1) rfl
    go_wp2
    clear kk0 BA2
    go_loopw [3, 7, 38] (fun o p i wr => ∃ k : Nat, k ≤ m1 ∧ i = .int .i64 k ∧ Hid (Own w.heap.size wr o (t2 N k)) ∧ Hid (Gx w.heap.size w1 wr)) (fun _ _ i _ => m1 - (intOf i).toNat)
    case atStart => exact ⟨0, Nat.zero_le _, rfl, HO, HG⟩
    clear HO HG
    obtain ⟨k, hkn, rfl, HO, HG⟩ := hrel
    have HGA : Hid (Gx w.heap.size w wr) := HG1.out.trans HG.out
    have HB : Hid (w.heap.size ≤ wr.heap.size) := HGA.out.1.size
    have HLL : Hid ((t2 N k).length ≤ 380000) := by
      have h1 := t2_max HN.out k (by rw [HZ.out.2.1]; exact hkn)
      unfold Hid
      omega
    by_cases hlt : k < m1
    · obtain ⟨b, off, rfl, hB, hb, hc⟩ := hk1 (by omega)
      obtain ⟨p1, p2, d0, d1, d2, d3, n1, n2⟩ := hc k hlt
      have HM1 : Hid (HNums w.heap.size w p1 (wat N.ways k).nodes) := n1.nums (Nat.le_refl _)
      have HM2 : Hid (HNums w.heap.size w p2 (wat N.ways k).weights) := n2.nums (Nat.le_refl _)
      obtain ⟨an, cn, rfl, _⟩ := n1.slice
      obtain ⟨aw, cw, rfl, _⟩ := n2.slice
      have d0 := cell_next HGA.out.1 hb d0
      have d1 := cell_next HGA.out.1 hb d1
      have d2 := cell_next HGA.out.1 hb d2
      have d3 := cell_next HGA.out.1 hb d3
      have hlt' : (k : Int) < m1 := by omega
      have hbr : b < wr.heap.size := Nat.lt_of_lt_of_le hb HB.out
      clear hc hk1 n1 n2
      go_wp2_with fail
      refine (appendWay_any w.heap.size _ (t2 N k) (wat N.ways k) _ _ _ _ _ _ _ (HO.out.alloc _) (by have := HB.out; simp; omega) HLL.out (HM1.out.keep (HGA.out.alloc HB.out _)) (HM2.out.keep (HGA.out.alloc HB.out _)) (HN.out.ways k (by rw [HZ.out.2.1]; exact hlt)) (HT.out.on (HGA.out.alloc HB.out _).1)).mono ?_
      rintro e wn ⟨⟨vn, rfl, ho⟩, hg⟩
      have HO' : Hid (Own w.heap.size wn vn (t2 N (k + 1))) := by
        unfold Hid
        rw [t2_succ]
        exact ho
      have HG' : Hid (Gx w.heap.size w1 wn) := (HG.out.alloc HB.out _).trans hg
      clear ho hg
      go_wp2
      go_roundw
      case rel => exact ⟨k + 1, by omega, by go_num, HO', HG'⟩
      case measure => simp [intOf]; omega
    have ek : m1 = k := by omega
    subst ek
    have HOW := Own.to HO.out (show t2 N m1 = t3 N 0 by rw [t3_zero, HZ.out.2.1])
    clear HO
    have HO : Hid _ := HOW
    clear HOW HLL HGA HB hkn hlt
    have BA2 := BA.keep HG.out
    have kk0 := BA2.blk.cell (i := 2) rfl
    go_wp2
    clear kk0 BA2
    go_loopw [3, 9, 49] (fun o p i wr => ∃ k : Nat, k ≤ m2 ∧ i = .int .i64 k ∧ Hid (Own w.heap.size wr o (t3 N k)) ∧ Hid (Gx w.heap.size w1 wr)) (fun _ _ i _ => m2 - (intOf i).toNat)
    case atStart => exact ⟨0, Nat.zero_le _, rfl, HO, HG⟩
    clear HO HG
    obtain ⟨k, hkn, rfl, HO, HG⟩ := hrel
    have HGA : Hid (Gx w.heap.size w wr) := HG1.out.trans HG.out
    have HB : Hid (w.heap.size ≤ wr.heap.size) := HGA.out.1.size
    have HLL : Hid ((t3 N k).length ≤ 380000) := by
      have h1 := t3_len HN.out k (by rw [HZ.out.2.2.1]; exact hkn)
      have h2 := HN.out.c2
      rw [HZ.out.2.2.1] at h2
      unfold Hid
      omega
    by_cases hlt : k < m2
    · obtain ⟨b, off, rfl, hB, hb, hc⟩ := hk2 (by omega)
      obtain ⟨p1, d0, d1, d2, d3, d4, d5, d6, n1⟩ := hc k hlt
      have HM1 : Hid (HNums w.heap.size w p1 (rat N.rels k).ways) := n1.nums (Nat.le_refl _)
      obtain ⟨an, cn, rfl, _⟩ := n1.slice
      have d0 := cell_next HGA.out.1 hb d0
      have d1 := cell_next HGA.out.1 hb d1
      have d2 := cell_next HGA.out.1 hb d2
      have d3 := cell_next HGA.out.1 hb d3
      have d4 := cell_next HGA.out.1 hb d4
      have d5 := cell_next HGA.out.1 hb d5
      have d6 := cell_next HGA.out.1 hb d6
      have hlt' : (k : Int) < m2 := by omega
      have hbr : b < wr.heap.size := Nat.lt_of_lt_of_le hb HB.out
      clear hc hk2 n1
      go_wp2_with fail
      refine (appendRel_any w.heap.size _ (t3 N k) (rat N.rels k) _ _ (HO.out.alloc _) (by have := HB.out; simp; omega) HLL.out (HM1.out.keep (HGA.out.alloc HB.out _)) (HN.out.rels k (by rw [HZ.out.2.2.1]; exact hlt)) (HT.out.on (HGA.out.alloc HB.out _).1)).mono ?_
      rintro e wn ⟨⟨vn, rfl, ho⟩, hg⟩
      have HO' : Hid (Own w.heap.size wn vn (t3 N (k + 1))) := by
        unfold Hid
        rw [t3_succ]
        exact ho
      have HG' : Hid (Gx w.heap.size w1 wn) := (HG.out.alloc HB.out _).trans hg
      clear ho hg
      go_wp2
      go_roundw
      case rel => exact ⟨k + 1, by omega, by go_num, HO', HG'⟩
      case measure => simp [intOf]; omega
    have ek : m2 = k := by omega
    subst ek
    have HOW := Own.to HO.out (show t3 N m2 = t4 N 0 by rw [t4_zero, HZ.out.2.2.1])
    clear HO
    have HO : Hid _ := HOW
    clear HOW HLL HGA HB hkn hlt
    have BA2 := BA.keep HG.out
    have kk0 := BA2.blk.cell (i := 3) rfl
    go_wp2
    clear kk0 BA2
    go_loopw [3, 11, 60] (fun o p i wr => ∃ k : Nat, k ≤ m3 ∧ i = .int .i64 k ∧ Hid (Own w.heap.size wr o (t4 N k)) ∧ Hid (Gx w.heap.size w1 wr)) (fun _ _ i _ => m3 - (intOf i).toNat)
    case atStart => exact ⟨0, Nat.zero_le _, rfl, HO, HG⟩
    clear HO HG
    obtain ⟨k, hkn, rfl, HO, HG⟩ := hrel
    have HGA : Hid (Gx w.heap.size w wr) := HG1.out.trans HG.out
    have HB : Hid (w.heap.size ≤ wr.heap.size) := HGA.out.1.size
    have HLL : Hid ((t4 N k).length ≤ 380000) := by
      have h1 := t4_len HN.out k (by rw [HZ.out.2.2.2]; exact hkn)
      have h2 := HN.out.c3
      rw [HZ.out.2.2.2] at h2
      unfold Hid
      omega
    by_cases hlt : k < m3
    · obtain ⟨b, off, rfl, hB, hb, hc⟩ := hk3 (by omega)
      obtain ⟨d0, d1, d2⟩ := hc k hlt
      have d0 := cell_next HGA.out.1 hb d0
      have d1 := cell_next HGA.out.1 hb d1
      have d2 := cell_next HGA.out.1 hb d2
      have hlt' : (k : Int) < m3 := by omega
      have hbr : b < wr.heap.size := Nat.lt_of_lt_of_le hb HB.out
      clear hc hk3
      go_wp2_with fail
      refine (appendLine_any w.heap.size _ (t4 N k) ⟨#[116, 117, 114, 110]⟩ _ [(tat N.turns k).frm, (tat N.turns k).to, (tat N.turns k).cost] _ ((HO.out.alloc _).alloc _) (by have := HB.out; simp; omega) (by have := HLL.out; omega) (by decide) (nums3' _ _ _ _ _ _ (by simp)) (by simp) (small3 (HN.out.turns k (by rw [HZ.out.2.2.2]; exact hlt)).frm (HN.out.turns k (by rw [HZ.out.2.2.2]; exact hlt)).to (HN.out.turns k (by rw [HZ.out.2.2.2]; exact hlt)).cost) (HT.out.on ((HGA.out.alloc HB.out _).alloc (by have := HB.out; simp; omega) _).1)).mono ?_
      rintro e wn ⟨⟨vn, rfl, ho⟩, hg⟩
      have HO' : Hid (Own w.heap.size wn vn (t4 N (k + 1))) := by
        unfold Hid
        rw [line_turn] at ho
        rw [t4_succ]
        exact ho
      have HG' : Hid (Gx w.heap.size w1 wn) := ((HG.out.alloc HB.out _).alloc (by have := HB.out; simp; omega) _).trans hg
      clear ho hg
      go_wp2
      go_roundw
      case rel => exact ⟨k + 1, by omega, by go_num, HO', HG'⟩
      case measure => simp [intOf]; omega
    have ek : m3 = k := by omega
    subst ek
    go_wp2
    go_ret
    exact ⟨⟨_, rfl, by rw [encTx_yes HV.out]; unfold netTx; rw [HZ.out.2.2.2]; exact HO.out⟩, HGA.out.1⟩
end Go.Proofs.YtedhchmigeooiaaDoor
