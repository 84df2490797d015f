import Derived.Test.YtifefpeefcjabaaDK
import Derived.Test.YtifefpeefcjabaaAJ
namespace Go.Proofs.Ytifefpeefcjabaa
open Go.RowKit Go.Sort Go.Maps
set_option linter.unusedVariables false
set_option maxRecDepth 100000

set_option maxHeartbeats 400000 in
theorem toIntsC_any (B : Nat) (v : Value) (zs : List Int) (w : World) (h0 : HInts B w v zs) (hs : zs.length ≤ 1048576) :
    Calls Try.prog 24 #[v] w fun e w' => (∃ a' n' c', e = .returned (.slice a' n' c') ∧ HInts w.heap.size w' (.slice a' n' c') zs ∧ n' ≤ c') ∧ Nu w w' := by
  obtain ⟨a, cap, rfl, hn, hk⟩ := h0
  generalize hz : zs.length = n at *
  have HZ : Hid (zs.length = n) := hz
  have HM : Hid (n ≤ maxLen) := hn
  clear hz hn
  have hmk := run_make_row' (P := Try.prog) 24 2 (.int .i64 0) 8 Try.underlying24 info2 rfl .i64 .i64 n (by omega) (by omega)
  go_enter Try.func24, Try.ntmps24
  go_wp2
  go_loopw [4] (fun i wr => ∃ k : Nat, k ≤ n ∧ i = .int .i64 k ∧ Hid (RowTo wr w.heap.size n k zs) ∧ Hid (Nu w wr)) (fun i _ => n - (intOf i).toNat)
  case atStart => exact ⟨0, Nat.zero_le _, rfl, ⟨_, World.rowIs_made _ _ _ _, fun i hi => absurd hi (Nat.not_lt_zero _)⟩, ubox1 _ _ _⟩
  case round =>
    obtain ⟨k, hkn, rfl, HR, HN⟩ := hrel
    clear hmk
    by_cases hlt : k < n
    · obtain ⟨b, off, rfl, hB, hb, hc⟩ := hk (by omega)
      have c0 := cell_next HN.out.nx hb (hc k hlt)
      have hlt' : (k : Int) < n := by omega
      obtain ⟨f, hf, hf'⟩ := HR.out
      have r0 := hf.cell hlt
      have r1 := hf.frozen k
      clear hc hk hf hf'
      go_wp2
      go_roundw
      case rel => exact ⟨k + 1, by omega, by go_num, HR.out.set, Nu.setCell HN.out (Nat.le_refl _) _⟩
      case measure => simp [intOf]; omega
    · go_wp2
      go_ret
      have e : k = n := by omega
      subst e
      exact ⟨⟨_, _, _, rfl, HR.out.held HZ.out HM.out, Nat.le_refl _⟩, HN.out⟩

/-- rules that came in -/
def HRule0 (B : Nat) (w : World) (b o : Nat) (x : Ru) : Prop :=
  ∃ p, w.cell? ⟨b, o, none⟩ = some (.int .i64 x.rel) ∧ w.cell? ⟨b, o + 1, none⟩ = some (.bool x.only) ∧ w.cell? ⟨b, o + 2, none⟩ = some p ∧ HInts B w p x.seq
def HRules0 (B : Nat) (w : World) (v : Value) (rs : List Ru) : Prop := HSlice B w v rs.length fun b off i => HRule0 B w b (off + i * 3) (rat rs i)
theorem HRules0.next {B : Nat} {w w' : World} {v : Value} {rs : List Ru} (h : HRules0 B w v rs) (k : Nx w w') : HRules0 B w' v rs :=
  HSlice.mono h (Nat.le_refl _) k.size fun b off hb hs i hi ⟨p, h1, h2, h3, h4⟩ => ⟨p, cellq' k h1, cellq' k h2, cellq' k h3, h4.next k⟩

set_option maxHeartbeats 400000 in
theorem szRule_any (B : Nat) (x : Ru) (p : Value) (left : Int) (w : World) (h0 : HInts B w p x.seq) (hl0 : 0 ≤ left) (hl1 : left ≤ 1048576) :
    Calls Try.prog 27 #[.agg #[.int .i64 x.rel, .bool x.only, p], .int .i64 left] w fun e w' => (∃ r : Int, e = .returned (.int .i64 r) ∧ (r < 0 ∨ (0 ≤ r ∧ r + x.seq.length = left))) ∧ Nx w w' := by
  obtain ⟨a, cap, rfl, hn, _⟩ := h0
  have b1 := szI_bd left x.seq.length hl0
  generalize x.seq.length = n at *
  generalize hr1 : szI left n = r1 at *
  have HR1 : Hid (szI left n = r1) := hr1
  clear hr1
  obtain ⟨b1, b2, b3⟩ := b1
  have HB3 : Hid (0 ≤ r1 → r1 + n = left) := b3
  clear b3
  go_enter Try.func27, Try.ntmps27
  go_wp2_with fail
  refine (szInts_any _ _ _ _ _ hn hl0 hl1).mono ?_
  rintro e w1 ⟨rfl, rfl⟩
  rw [HR1.out]
  by_cases hneg : r1 < 0
  · go_wp2
    go_ret
    exact ⟨⟨-1, rfl, Or.inl (by omega)⟩, box1 _ _⟩
  · go_wp2
    go_ret
    exact ⟨⟨r1, rfl, Or.inr ⟨by omega, by have := HB3.out (by omega); omega⟩⟩, box1 _ _⟩
/-- short enough -/
def RFit (rs : List Ru) (k : Nat) : Prop := ∀ i, i < k → (rat rs i).seq.length ≤ 1048576
theorem RFit.succ {rs : List Ru} {k : Nat} (h : RFit rs k) (e : (rat rs k).seq.length ≤ 1048576) : RFit rs (k + 1) := fun i hi => by
  rcases Nat.lt_succ_iff_lt_or_eq.1 hi with h1 | rfl
  · exact h i h1
  · exact e

set_option maxHeartbeats 400000 in
theorem szRules_any (B : Nat) (v : Value) (zs : List Ru) (left : Int) (w : World) (h0 : HRules0 B w v zs) (hl0 : 0 ≤ left) (hl1 : left ≤ 1048576) :
    Calls Try.prog 7 #[v, .int .i64 left] w fun e w' => (∃ r : Int, e = .returned (.int .i64 r) ∧ (r < 0 ∨ (0 ≤ r ∧ r ≤ left ∧ zs.length ≤ 1048576 ∧ RFit zs zs.length))) ∧ Nx w w' := by
  obtain ⟨a, cap, rfl, hn, hk⟩ := h0
  unfold maxLen at hn
  generalize hz : zs.length = n at *
  have HZ : Hid (zs.length = n) := hz
  clear hz
  by_cases hneg : left - n < 0
  · go_enter Try.func7, Try.ntmps7
    go_wp2
    go_ret
    exact ⟨⟨-1, rfl, Or.inl (by omega)⟩, Nx.refl _⟩
  · have hnn : (n : Int) ≤ left := by omega
    go_enter Try.func7, Try.ntmps7
    go_wp2
    go_loopw [1, 5] (fun l i wr => ∃ (k : Nat) (lf : Int), k ≤ n ∧ i = .int .i64 k ∧ l = .int .i64 lf ∧ 0 ≤ lf ∧ lf ≤ left ∧ Hid (RFit zs k) ∧ Hid (Nx w wr)) (fun _ i _ => n - (intOf i).toNat)
    case atStart => exact ⟨0, left - n, Nat.zero_le _, rfl, rfl, by omega, by omega, fun i hi => absurd hi (Nat.not_lt_zero _), Nx.refl _⟩
    case round =>
      obtain ⟨k, lf, hkn, rfl, rfl, hf0, hf1, HW, HN⟩ := hrel
      by_cases hlt : k < n
      · obtain ⟨b, off, rfl, hB, hb, hc⟩ := hk (by omega)
        obtain ⟨p1, a0, a1, a2, n1⟩ := hc k hlt
        have a0 := cell_next HN.out hb a0
        have a1 := cell_next HN.out hb a1
        have a2 := cell_next HN.out hb a2
        have hlt' : (k : Int) < n := by omega
        clear hc hk
        go_wp2_with fail
        refine (szRule_any B (rat zs k) _ _ _ (by exact n1.next HN.out) hf0 (by omega)).mono ?_
        rintro e w1 ⟨⟨r, rfl, hr⟩, hx⟩
        have HX : Hid (Nx wr w1) := hx
        clear hx
        rcases hr with hr | ⟨hr, he⟩
        · go_wp2
          go_ret
          exact ⟨⟨-1, rfl, Or.inl (by omega)⟩, HN.out.trans HX.out⟩
        · have HE : Hid (r + (rat zs k).seq.length = lf) := he
          have hrl : r ≤ left := by omega
          clear he
          go_wp2
          go_roundw
          case rel => exact ⟨k + 1, r, by omega, by go_num, rfl, hr, hrl, HW.out.succ (by have := HE.out; omega), HN.out.trans HX.out⟩
          case measure => simp [intOf]; omega
      · go_wp2
        go_ret
        have e : k = n := by omega
        subst e
        exact ⟨⟨lf, rfl, Or.inr ⟨hf0, hf1, by omega, HW.out⟩⟩, HN.out⟩

set_option maxHeartbeats 400000 in
theorem toRule_any (B : Nat) (x : Ru) (p : Value) (w : World) (h0 : HInts B w p x.seq) (hs0 : x.seq.length ≤ 1048576) :
    Calls Try.prog 34 #[.agg #[.int .i64 x.rel, .bool x.only, p]] w fun e w' => (∃ a c, e = .returned (.agg #[.int .i64 x.rel, .bool x.only, .slice a x.seq.length c]) ∧ HInts w.heap.size w' (.slice a x.seq.length c) x.seq ∧ x.seq.length ≤ c) ∧ Nu w w' := by
  go_enter Try.func34, Try.ntmps34
  go_wp2_with fail
  refine (toIntsC_any B _ x.seq _ (h0.next (((box2 _ _ _).alloc _))) hs0).mono ?_
  rintro e w1 ⟨⟨a1, n1, c1, rfl, g1, gc⟩, hu⟩
  have hx := hu.nx
  have HX : Hid (Nu w w1) := ((ubox2 _ _ _ _ _).alloc _ _).trans hu
  have BB2 : Blk w1 (w.heap.size + 1) #[.int .i64 0, .bool false, .slice none 0 0] := ((Blk.new _ _ 62 _ (by simp)).alloc _).next hx
  have BC2 : Blk w1 (w.heap.size + 1 + 1) #[.int .i64 x.rel, .bool x.only, .slice none 0 0] := (Blk.new _ _ 62 _ (by simp)).next hx
  have hn1 : n1 = x.seq.length := by obtain ⟨_, _, e, _⟩ := g1; simp only [Value.slice.injEq] at e; exact e.2.1
  have GC : Hid (x.seq.length ≤ c1) := by unfold Hid; omega
  have G1 : Hid (HInts (w.heap.size + 3) w1 (.slice a1 n1 c1) x.seq) := g1.base (by simp)
  subst hn1
  clear hx hu g1 gc
  have k0 := BC2.cell (i := 0) rfl
  have k1 := BC2.cell (i := 1) rfl
  have k2 := BC2.cell (i := 2) rfl
  have kf := BC2.frozen 2
  have j0 := BB2.cell (i := 0) rfl
  have j1 := BB2.cell (i := 1) rfl
  have j2 := BB2.cell (i := 2) rfl
  have f0 := BB2.frozen 0
  have f1 := BB2.frozen 1
  have f2 := BB2.frozen 2
  go_wp2
  refine bodyPost_ret (v := .agg #[.int .i64 x.rel, .bool x.only, .slice a1 x.seq.length c1]) (by simp [results, Try.results34, go_sem, j0, j1, j2]) rfl ⟨⟨a1, c1, rfl, ?_, GC.out⟩, ?_⟩
  · exact ((((G1.out.store (by omega) _).store (by omega) _).store (by omega) _).store (by omega) _).base (by omega)
  · exact Nu.setCell (Nu.setCell (Nu.setCell (Nu.setCell HX.out (by simp; omega) _) (by simp) _) (by simp) _) (by simp) _
theorem make_structs (t e : TypeId) (z : Value) (k bytes : Nat) (ht : Try.prog.underlying t = some (.slice e)) (hinfo : (Try.prog.info? e).map (fun i => (i.zero, i.size, i.bytes)) = some (some z, k, bytes))
    (n : Nat) (hbytes : bytes * n ≤ 281474976710656) (h63 : n ≤ 9223372036854775807) (w : World) :
    (Instr.makeSlice t (.int .i64 (n : Int)) (.int .i64 (n : Int))).run Try.prog w = .ok (.slice (some ⟨w.heap.size, 0, none⟩) n n) (w.alloc (.cells (madeCells z.cells (n * k)) e)) := by
  obtain ⟨i, hi, hzz⟩ := Option.map_eq_some_iff.1 hinfo
  simp only [Prod.mk.injEq] at hzz
  obtain ⟨hz, hs, hb⟩ := hzz
  have hb' : (i.bytes : Int) * (n : Int) ≤ 281474976710656 := by
    have h : ((i.bytes * n : Nat) : Int) ≤ 281474976710656 := by rw [hb]; omega
    rwa [Int.natCast_mul] at h
  have hr := run_make (P := Try.prog) w t e i z ht hi hz .i64 .i64 n n (by omega) (Int.le_refl _) hb' (by omega)
  simp only [Int.toNat_natCast, hs] at hr
  exact hr

theorem set_ne {cs : Array Value} {i j : Nat} (a : Value) (h : i ≠ j) : (cs.setIfInBounds i a)[j]? = cs[j]? := by rw [Array.getElem?_setIfInBounds, if_neg h]
theorem set_eq {cs : Array Value} {i : Nat} (a : Value) (h : i < cs.size) : (cs.setIfInBounds i a)[i]? = some a := by simp [h]
theorem Blk.made (w : World) (z : Array Value) (n : Nat) (t : TypeId) : Blk (w.alloc (.cells (madeCells z n) t)) w.heap.size (madeCells z n) := Blk.new _ _ _ _ rfl
/-- the first k rules of the new row are the list's -/
def toRulesRow (w : World) (g n k : Nat) (zs : List Ru) : Prop := ∃ cs : Array Value, Blk w g cs ∧ cs.size = n * 3 ∧ ∀ i, i < k → ∃ a c, cs[i * 3]? = some (.int .i64 (rat zs i).rel) ∧ cs[i * 3 + 1]? = some (.bool (rat zs i).only) ∧ cs[i * 3 + 2]? = some (.slice a (rat zs i).seq.length c) ∧ HInts (g + 1) w (.slice a (rat zs i).seq.length c) (rat zs i).seq ∧ (rat zs i).seq.length ≤ c
theorem toRulesRow.step {wr w1 : World} {g n k : Nat} {zs : List Ru} (h : toRulesRow wr g n k zs) (hx : Nx wr w1) (hk : k < n) (a : Option Addr) (c : Nat) (h0 : HInts (g + 1) w1 (.slice a (rat zs k).seq.length c) (rat zs k).seq) (hc : (rat zs k).seq.length ≤ c) :
    toRulesRow (((w1.setCell ⟨g, k * 3, none⟩ (.int .i64 (rat zs k).rel)).setCell ⟨g, k * 3 + 1, none⟩ (.bool (rat zs k).only)).setCell ⟨g, k * 3 + 2, none⟩ (.slice a (rat zs k).seq.length c)) g n (k + 1) zs := by
  obtain ⟨cs, BK, hs, hi⟩ := h
  have hm : (k + 1) * 3 ≤ n * 3 := Nat.mul_le_mul_right 3 hk
  refine ⟨_, ((((BK.next hx).set (k * 3) (.int .i64 (rat zs k).rel)).set (k * 3 + 1) (.bool (rat zs k).only)).set (k * 3 + 2) (.slice a (rat zs k).seq.length c)), by simpa using hs, fun i hik => ?_⟩
  by_cases e : i = k
  · subst e
    exact ⟨a, c, (by rw [set_ne _ (by omega)]; rw [set_ne _ (by omega)]; exact set_eq _ (by simp [hs]; omega)), (by rw [set_ne _ (by omega)]; exact set_eq _ (by simp [hs]; omega)), (by exact set_eq _ (by simp [hs]; omega)), (((h0.store (by omega) _).store (by omega) _).store (by omega) _), hc⟩
  · obtain ⟨a', c', e0, e1, e2, i0, i1⟩ := hi i (by omega)
    exact ⟨a', c', (by rw [set_ne _ (by omega)]; rw [set_ne _ (by omega)]; rw [set_ne _ (by omega)]; exact e0), (by rw [set_ne _ (by omega)]; rw [set_ne _ (by omega)]; rw [set_ne _ (by omega)]; exact e1), (by rw [set_ne _ (by omega)]; rw [set_ne _ (by omega)]; rw [set_ne _ (by omega)]; exact e2), ((((i0.next hx).store (by omega) _).store (by omega) _).store (by omega) _), i1⟩
theorem toRulesRow.held {w : World} {g n : Nat} {zs : List Ru} (hn : zs.length = n) (hm : n ≤ maxLen) (h : toRulesRow w g n n zs) : HRules g w (.slice (some ⟨g, 0, none⟩) n n) zs := by
  obtain ⟨cs, BK, hs, hi⟩ := h
  subst hn
  refine ⟨_, _, rfl, hm, fun h0 => ⟨g, 0, rfl, Nat.le_refl _, BK.lt, fun i hik => ?_⟩⟩
  obtain ⟨a', c', e0, e1, e2, i0, i1⟩ := hi i hik
  exact ⟨a', c', BK.cell (by simpa using e0), BK.cell (by simpa using e1), BK.cell (by simpa using e2), i0.base (by omega), i1⟩
theorem infoRule : (Try.prog.info? 62).map (fun i => (i.zero, i.size, i.bytes)) = some (some (.agg #[.int .i64 0, .bool false, .slice none 0 0]), 3, 40) := by kernel_rfl

set_option maxHeartbeats 1000000 in
theorem toRules_any (B : Nat) (v : Value) (zs : List Ru) (w : World) (h0 : HRules0 B w v zs) (hs : zs.length ≤ 1048576) (hs1 : RFit zs zs.length) :
    Calls Try.prog 9 #[v] w fun e w' => (∃ a' n' c', e = .returned (.slice a' n' c') ∧ HRules w.heap.size w' (.slice a' n' c') zs) ∧ Nu w w' := by
  obtain ⟨a, cap, rfl, hn, hk⟩ := h0
  generalize hz : zs.length = n at *
  have HZ : Hid (zs.length = n) := hz
  have HM : Hid (n ≤ maxLen) := hn
  clear hz hn
  have hmk := make_structs 31 62 (.agg #[.int .i64 0, .bool false, .slice none 0 0]) 3 40 Try.underlying31 infoRule n (by omega) (by omega)
  go_enter Try.func9, Try.ntmps9
  go_wp2
  go_loopw [4] (fun i wr => ∃ k : Nat, k ≤ n ∧ i = .int .i64 k ∧ Hid (toRulesRow wr w.heap.size n k zs) ∧ Hid (Nu w wr)) (fun i _ => n - (intOf i).toNat)
  case atStart => exact ⟨0, Nat.zero_le _, rfl, ⟨_, Blk.made _ _ _ _, size_madeCells _ _, fun i hi => absurd hi (Nat.not_lt_zero _)⟩, ubox1 _ _ _⟩
  case round =>
    obtain ⟨k, hkn, rfl, HR, HN⟩ := hrel
    clear hmk
    by_cases hlt : k < n
    · obtain ⟨b, off, rfl, hB, hb, hc⟩ := hk (by omega)
      obtain ⟨p1, a0, a1, a2, n1⟩ := hc k hlt
      have a0 := cell_next HN.out.nx hb a0
      have a1 := cell_next HN.out.nx hb a1
      have a2 := cell_next HN.out.nx hb a2
      have hlt' : (k : Int) < n := by omega
      obtain ⟨cs, BK, hcs, _⟩ := HR.out
      have hm : (k + 1) * 3 ≤ n * 3 := Nat.mul_le_mul_right 3 hlt
      have hsz : w.heap.size < wr.heap.size := BK.lt
      clear hc hk
      go_wp2_with fail
      refine (toRule_any B (rat zs k) _ _ (by exact n1.next HN.out.nx) (hs1 k hlt)).mono ?_
      rintro e w1 ⟨⟨q1, c1, rfl, g0', gc'⟩, hu⟩
      have hx := hu.nx
      have BK1 := BK.next hx
      have g0 : Hid (HInts wr.heap.size w1 (.slice q1 (rat zs k).seq.length c1) (rat zs k).seq) := g0'
      have gc : Hid ((rat zs k).seq.length ≤ c1) := gc'
      clear g0' gc'
      have r0 := BK1.cell (i := k * 3) (Array.getElem?_eq_getElem (by omega))
      have r1 := BK1.cell (i := k * 3 + 1) (Array.getElem?_eq_getElem (by omega))
      have r2 := BK1.cell (i := k * 3 + 2) (Array.getElem?_eq_getElem (by omega))
      have f0 := BK1.frozen (k * 3)
      have f1 := BK1.frozen (k * 3 + 1)
      have f2 := BK1.frozen (k * 3 + 2)
      have HX : Hid (Nu wr w1) := hu
      clear hx hu BK BK1
      go_wp2
      go_roundw
      case rel => exact ⟨k + 1, by omega, by go_num, HR.out.step HX.out.nx hlt _ _ (g0.out.base (by omega)) gc.out, Nu.setCell (Nu.setCell (Nu.setCell (HN.out.trans HX.out) (Nat.le_refl _) _) (Nat.le_refl _) _) (Nat.le_refl _) _⟩
      case measure => simp [intOf]; omega
    · go_wp2
      go_ret
      have e : k = n := by omega
      subst e
      exact ⟨⟨_, _, _, rfl, HR.out.held HZ.out HM.out⟩, HN.out⟩

set_option maxHeartbeats 400000 in
theorem eqRule_same (B B' : Nat) (x : Ru) (p p' : Value) (w : World) (h0 : HInts B w p x.seq) (h1 : HInts B' w p' x.seq) :
    Calls Try.prog 37 #[.agg #[.int .i64 x.rel, .bool x.only, p], .agg #[.int .i64 x.rel, .bool x.only, p']] w fun e w' => e = .returned (.bool true) ∧ Nx w w' := by
  have hd1 : (x.rel != x.rel) = false := by simp
  have hd2 : (x.only != x.only) = false := by simp
  go_enter Try.func37, Try.ntmps37
  go_wp2_with fail
  refine (eqInts_same B B' _ _ x.seq _ (h0.next (box2 _ _ _)) (h1.next (box2 _ _ _))).mono ?_
  rintro e w1 ⟨rfl, hx⟩
  have HX : Hid (Nx w w1) := (box2 _ _ _).trans hx
  clear hx
  go_wp2
  go_ret
  exact ⟨rfl, HX.out⟩

set_option maxHeartbeats 1000000 in
theorem eqRules_same (B B' : Nat) (v v' : Value) (zs : List Ru) (w : World) (h0 : HRules B w v zs) (h1 : HRules B' w v' zs) :
    Calls Try.prog 12 #[v, v'] w fun e w' => e = .returned (.bool true) ∧ Nx w w' := by
  obtain ⟨a, cap, rfl, hn, hk⟩ := h0
  obtain ⟨a', cap', rfl, hn', hk'⟩ := h1
  unfold maxLen at hn hn'
  generalize zs.length = n at *
  have hd : ((n : Int) != (n : Int)) = false := by simp
  go_enter Try.func12, Try.ntmps12
  go_wp2
  go_loopw [5] (fun i wr => ∃ k : Nat, k ≤ n ∧ i = .int .i64 k ∧ Hid (Nx w wr)) (fun i _ => n - (intOf i).toNat)
  case atStart => exact ⟨0, Nat.zero_le _, rfl, Nx.refl _⟩
  case round =>
    obtain ⟨k, hkn, rfl, HN⟩ := hrel
    by_cases hlt : k < n
    · obtain ⟨b, off, rfl, hB, hb, hc⟩ := hk (by omega)
      obtain ⟨b', off', rfl, hB', hb', hc'⟩ := hk' (by omega)
      obtain ⟨pa, pc, a0, a1, a2, n1, _⟩ := hc k hlt
      obtain ⟨qa, qc, b0, b1, b2, n2, _⟩ := hc' k hlt
      have a0 := cell_next HN.out hb a0
      have a1 := cell_next HN.out hb a1
      have a2 := cell_next HN.out hb a2
      have b0 := cell_next HN.out hb' b0
      have b1 := cell_next HN.out hb' b1
      have b2 := cell_next HN.out hb' b2
      have hlt' : (k : Int) < n := by omega
      clear hc hk hc' hk'
      go_wp2
      go_region_with (go_at_call 37; refine (eqRule_same B B' (rat zs k) _ _ _ (by exact n1.next HN.out.drew) (by exact n2.next HN.out.drew)).mono ?_; rintro e w' ⟨rfl, hx⟩)
      all_goals go_wp2
      all_goals
        go_roundw
        case rel => exact ⟨k + 1, by omega, by go_num, HN.out.drew.trans hx⟩
        case measure => simp [intOf]; omega
    · go_wp2
      go_ret
      exact ⟨rfl, HN.out⟩

set_option maxHeartbeats 1000000 in
theorem markRules_any (B : Nat) (w0 w1 : World) (v : Value) (zs : List Ru) (w : World) (h0 : HRules B w0 v zs) (hm : Mk B w0 w1 w) (hs : zs.length ≤ 1048576) (hs1 : RFit zs zs.length) :
    Calls Try.prog 13 #[v, .int .i64 1] w fun e w' => (∃ k : Int, e = .returned (.int .i64 k) ∧ 0 ≤ k) ∧ Mk B w0 w1 w' := by
  obtain ⟨a, cap, rfl, hn, hk⟩ := h0
  generalize hz : zs.length = n at *
  clear hz hn
  go_enter Try.func13, Try.ntmps13
  go_wp2
  go_loopw [1, 5] (fun c i wr => ∃ (j : Nat) (k : Int), j ≤ n ∧ i = .int .i64 j ∧ c = .int .i64 k ∧ 0 ≤ k ∧ k ≤ 1 + (j : Int) * 2000000 ∧ Hid (Mk B w0 w1 wr)) (fun _ i _ => n - (intOf i).toNat)
  case atStart => exact ⟨0, 1, Nat.zero_le _, rfl, rfl, by omega, by omega, hm⟩
  case round =>
    obtain ⟨j, k, hjn, rfl, rfl, hk0, hk1, HM⟩ := hrel
    clear hm
    by_cases hlt : j < n
    · obtain ⟨b, off, rfl, hB, hb, hc⟩ := hk (by omega)
      obtain ⟨qa, qc, e0, e1, e2, hS, _⟩ := hc j hlt
      have hfit := hs1 j hlt
      have HS : Hid (HInts B w0 (.slice qa (rat zs j).seq.length qc) (rat zs j).seq) := hS
      generalize hsl : (rat zs j).seq.length = sl at *
      have HSL : Hid ((rat zs j).seq.length = sl) := hsl
      obtain ⟨y0, c0, f0⟩ := HM.out.int hB hb e0
      have M1 := HM.out.setI hB hb e0 k
      obtain ⟨y1, c1, f1⟩ := M1.bool hB hb e1
      have M2 : Mk B w0 w1 ((wr.setCell ⟨b, off + j * 3, none⟩ (.int .i64 k)).setCell ⟨b, off + j * 3 + 1, none⟩ (.bool ((k + 1) % 3 == 0))) := M1.setB hB hb e1 ((k + 1) % 3 == 0)
      have HM2 : Hid (Mk B w0 w1 ((wr.setCell ⟨b, off + j * 3, none⟩ (.int .i64 k)).setCell ⟨b, off + j * 3 + 1, none⟩ (.bool ((k + 1) % 3 == 0)))) := M2
      have c2 := M2.slice hB hb e2
      have hlt' : (j : Int) < n := by omega
      clear hc hk M1 M2 hS hsl e0 e1 e2
      go_wp2_with fail
      refine (markInts_any B w0 w1 _ (rat zs j).seq _ _ (by exact HS.out) (by exact HM2.out) (by rw [HSL.out]; exact hfit) (by omega) (by omega)).mono ?_
      rintro e w5 ⟨rfl, h5⟩
      have HM5 : Hid (Mk B w0 w1 w5) := h5
      rw [HSL.out]
      clear h5 c0 f0 c1 f1 c2
      go_wp2
      go_roundw
      case rel => exact ⟨j + 1, k + 1 + 1 + sl, by omega, by go_num, by go_num, by omega, by omega, HM5⟩
      case measure => simp [intOf]; omega
    · go_wp2
      go_ret
      exact ⟨⟨k, rfl, hk0⟩, HM.out⟩
end Go.Proofs.Ytifefpeefcjabaa
