import Derived.Test.YtmpkjlknnicdaaaRoC
import Derived.Test.YtmpkjlknnicdaaaImE
import Derived.Test.YtmpkjlknnicdaaaToA
import Derived.OwnWalk
import Derived.Lib.OthersKept
namespace Go.Proofs.Ytmpkjlknnicdaaa
open Go.RowKit
set_option linter.unusedVariables false
set_option maxRecDepth 100000

theorem infoEdge : (Try.prog.info? 70).map (fun i => (i.zero, i.size, i.bytes)) = some (some (.agg #[.int .i64 0, .int .i64 0, .int .i64 0, .int .i64 0, .int .i64 0, .bool false, .int .i64 0]), 7, 56) := by kernel_rfl

def cells7 (x : Eg) : List Value := [.int .i64 x.tail, .int .i64 x.head, .int .i64 x.weight, .int .i64 x.way, .int .i64 x.seg, .bool x.back, .int .i64 x.twin]
def ecells (es : List Eg) : List Value := es.flatMap cells7
theorem ecells_len (es : List Eg) : (ecells es).length = es.length * 7 := by
  induction es with
  | nil => rfl
  | cons x es ih => simp only [ecells, List.flatMap_cons, List.length_append] at *; rw [ih]; simp [cells7]; omega
theorem ecells_at {es : List Eg} {i q : Nat} (hi : i < es.length) (hq : q < 7) : (ecells es)[i * 7 + q]? = (cells7 (eat es i))[q]? := by
  induction es generalizing i with
  | nil => simp at hi
  | cons x es ih =>
    have hl : (cells7 x).length = 7 := rfl
    match i with
    | 0 =>
      rw [ecells, List.flatMap_cons, List.getElem?_append_left (by omega)]
      simp [eat]
    | i + 1 =>
      rw [ecells, List.flatMap_cons, List.getElem?_append_right (by omega), hl, show (i + 1) * 7 + q - 7 = i * 7 + q by omega]
      have := ih (i := i) (by simpa using hi)
      rw [ecells] at this
      rw [this]
      simp [eat]
theorem ecells_append (es fs : List Eg) : ecells (es ++ fs) = ecells es ++ ecells fs := by simp [ecells]

/-- v owns a row of edges from block B on -/
def OwnE (B : Nat) (w : World) (v : Value) (es : List Eg) : Prop := w.ownsRow B 70 7 v es.length (ecells es)
/-- below B nothing has turned; above it rows of edges alone -/
def Ge (B : Nat) (w w' : World) : Prop := Below B w w' ∧ Lib.OthersKept 70 none w w'
theorem Ge.refl (B : Nat) (w : World) : Ge B w w := ⟨Below.refl _ _, Lib.OthersKept.refl _ _ _⟩
theorem Ge.trans {B : Nat} {a b c : World} (h : Ge B a b) (k : Ge B b c) : Ge B a c := ⟨h.1.trans k.1, h.2.trans k.2⟩
theorem Ge.alloc {B : Nat} {a w : World} (h : Ge B a w) (hB : B ≤ w.heap.size) (o : Obj) : Ge B a (w.alloc o) := ⟨h.1.alloc hB o, h.2.alloc o⟩
theorem Ge.drew {B : Nat} {a b : World} (h : Ge B a b) : Ge B a b.drew := ⟨Below.drew h.1, h.2⟩
theorem Ge.of_nx {B : Nat} {w w' : World} (h : Nx w w') (hB : B ≤ w.heap.size) : Ge B w w' :=
  ⟨Below.mono h hB, fun k o hk _ _ => (h.block k (Array.getElem?_eq_some_iff.1 hk).1).trans hk⟩
theorem ownE_row {B : Nat} {w : World} {v : Value} {es : List Eg} (h : OwnE B w v es) : ∀ g, v.ownBlock = some g → ∃ c fz, w.heap[g]? = some (.cells c 70 fz) := by
  intro g hg
  rcases h.2 with ⟨rfl, _⟩ | ⟨g', cap, cur, rfl, _, hh, _⟩
  · simp [Value.ownBlock] at hg
  · simp [Value.ownBlock] at hg; subst hg; exact ⟨_, _, hh⟩
theorem Ge.grown {B : Nat} {a w w' : World} {v : Value} {es : List Eg} (h : Ge B a w) (hown : OwnE B w v es) (hg : w.grownBy w' v.ownBlock) (hB : B ≤ w.heap.size) : Ge B a w' := by
  refine ⟨h.1.grown hg hB (fun k hk => (World.ownsRow.lt hown k hk).1), h.2.trans ?_⟩
  intro k o hk hb ho
  have hlt : k < w.heap.size := (Array.getElem?_eq_some_iff.1 hk).1
  rw [hg.block k hlt (fun e => by
    obtain ⟨c, fz, hh⟩ := ownE_row hown k e.symm
    rw [hk] at hh
    exact ho c fz (by simpa using hh))]
  exact hk
theorem OwnE.alloc {B : Nat} {w : World} {v : Value} {es : List Eg} (h : OwnE B w v es) (o : Obj) : OwnE B (w.alloc o) v es := World.ownsRow.alloc h o
theorem OwnE.next {B : Nat} {w w' : World} {v : Value} {es : List Eg} (h : OwnE B w v es) (k : Nx w w') : OwnE B w' v es := by
  obtain ⟨h1, h2⟩ := h
  refine ⟨h1, ?_⟩
  rcases h2 with h2 | ⟨g, cap, cur, hv, hg, hh, r⟩
  · exact Or.inl h2
  · exact Or.inr ⟨g, cap, cur, hv, hg, (k.block g (Array.getElem?_eq_some_iff.1 hh).1).trans hh, r⟩
theorem OwnE.one {B : Nat} {w : World} {v : Value} {es : List Eg} {x : Eg} (h : w.ownsRow B 70 7 v (es.length + 1) (ecells es ++ cells7 x)) : OwnE B w v (es ++ [x]) := by
  unfold OwnE
  rw [List.length_append, ecells_append]
  simpa [ecells] using h
theorem OwnE.two {B : Nat} {w : World} {v : Value} {es : List Eg} {x y : Eg} (h : w.ownsRow B 70 7 v (es.length + 2) (ecells es ++ (cells7 x ++ cells7 y))) : OwnE B w v (es ++ [x, y]) := by
  unfold OwnE
  rw [List.length_append, ecells_append]
  simpa [ecells] using h

/-- a block of other things than edges -/
def BlkE (w : World) (b : Nat) (cs : Array Value) : Prop := ∃ t, t ≠ 70 ∧ w.heap[b]? = some (.cells cs t (0, 0))
theorem BlkE.blk {w : World} {b : Nat} {cs : Array Value} (h : BlkE w b cs) : Blk w b cs := by obtain ⟨t, _, h⟩ := h; exact ⟨t, h⟩
theorem BlkE.keep {B : Nat} {w w' : World} {b : Nat} {cs : Array Value} (h : BlkE w b cs) (k : Ge B w w') : BlkE w' b cs := by
  obtain ⟨t, ht, h⟩ := h
  exact ⟨t, ht, k.2 b _ h (by simp) (fun c' fz' e => ht (by simp at e; exact e.2.1))⟩
theorem BlkE.new (w : World) (cs : Array Value) (t n : Nat) (ht : t ≠ 70) (hn : n = w.heap.size) : BlkE (w.alloc (.cells cs t)) n cs := by
  subst hn
  exact ⟨t, ht, by show (w.heap.push _)[w.heap.size]? = _; simp⟩

/-- a row of edges, each told -/
def HEdge (w : World) (b o : Nat) (x : Eg) : Prop :=
  w.cell? ⟨b, o, none⟩ = some (.int .i64 x.tail) ∧ w.cell? ⟨b, o + 1, none⟩ = some (.int .i64 x.head) ∧ w.cell? ⟨b, o + 2, none⟩ = some (.int .i64 x.weight) ∧ w.cell? ⟨b, o + 3, none⟩ = some (.int .i64 x.way) ∧
    w.cell? ⟨b, o + 4, none⟩ = some (.int .i64 x.seg) ∧ w.cell? ⟨b, o + 5, none⟩ = some (.bool x.back) ∧ w.cell? ⟨b, o + 6, none⟩ = some (.int .i64 x.twin)
def HEdges (B : Nat) (w : World) (v : Value) (es : List Eg) : Prop := HSlice B w v es.length fun b off i => HEdge w b (off + i * 7) (eat es i)
theorem HEdge.keep {B : Nat} {w w' : World} {b o : Nat} {x : Eg} (h : HEdge w b o x) (k : Keeps B w w') (hB : B ≤ b) (hs : b < w.heap.size) : HEdge w' b o x := by
  obtain ⟨h0, h1, h2, h3, h4, h5, h6⟩ := h
  exact ⟨(k.2 b hB hs _).trans h0, (k.2 b hB hs _).trans h1, (k.2 b hB hs _).trans h2, (k.2 b hB hs _).trans h3, (k.2 b hB hs _).trans h4, (k.2 b hB hs _).trans h5, (k.2 b hB hs _).trans h6⟩
theorem HEdges.keep {B : Nat} {w w' : World} {v : Value} {es : List Eg} (h : HEdges B w v es) (k : Keeps B w w') : HEdges B w' v es :=
  HSlice.mono h (Nat.le_refl _) k.1 fun b off hb hs i hi hc => hc.keep k hb hs
theorem HEdges.next {B : Nat} {w w' : World} {v : Value} {es : List Eg} (h : HEdges B w v es) (k : Nx w w') : HEdges B w' v es := h.keep (k.keeps B)
theorem OwnE.held {B : Nat} {w : World} {v : Value} {es : List Eg} (h : OwnE B w v es) : HEdges B w v es := by
  obtain ⟨h1, h2⟩ := h
  rcases h2 with ⟨rfl, h2⟩ | ⟨g, cap, cur, rfl, hg, hh, hc, hm, hs, ht⟩
  · unfold HEdges
    rw [h2]
    exact ⟨_, _, rfl, by simp [maxLen], fun h => by omega⟩
  · refine ⟨_, _, rfl, by omega, fun h0 => ⟨g, 0, rfl, hg, (Array.getElem?_eq_some_iff.1 hh).1, fun i hi => ?_⟩⟩
    have e : ∀ q v, q < 7 → (cells7 (eat es i))[q]? = some v → w.cell? ⟨g, 0 + i * 7 + q, none⟩ = some v := by
      intro q v hq hv
      have h3 : (cur.toList.take (es.length * 7))[i * 7 + q]? = (ecells es)[i * 7 + q]? := by rw [ht]
      rw [List.getElem?_take_of_lt (by omega), ecells_at hi hq, hv] at h3
      unfold World.cell?
      simp only [hh]
      rw [Array.getElem?_toList] at h3
      simpa using h3
    exact ⟨e 0 _ (by omega) rfl, e 1 _ (by omega) rfl, e 2 _ (by omega) rfl, e 3 _ (by omega) rfl, e 4 _ (by omega) rfl, e 5 _ (by omega) rfl, e 6 _ (by omega) rfl⟩

theorem hasI_at {zs : List Int} {t : Int} (h : hasI zs t = true) : ∃ i, i < zs.length ∧ iat zs i = t := by
  unfold hasI at h
  rw [List.any_eq_true] at h
  obtain ⟨y, hy, e⟩ := h
  obtain ⟨i, hi, rfl⟩ := List.getElem_of_mem hy
  exact ⟨i, hi, by rw [iat_eq hi]; simpa using e⟩
theorem mid_pos {zs : List Int} {t : Int} {lo : Nat} (hm : ∀ i j, i < j → j < zs.length → iat zs i < iat zs j) (H : Mid (iat zs) zs.length t lo lo) (h : hasI zs t = true) : lo < zs.length ∧ iat zs lo = t ∧ pos zs t = lo := by
  have h1 := hasI_mid hm H
  rw [h] at h1
  simp only [Bool.true_eq, Bool.and_eq_true, decide_eq_true_eq, beq_iff_eq] at h1
  obtain ⟨h2, h3⟩ := h1
  exact ⟨h2, h3, by rw [← h3]; exact pos_at hm h2⟩

theorem ret_pos {n m : Nat} (h : n = m) : Ending.returned (.tuple #[.int .i64 (m : Int), .bool true]) = .returned (.tuple #[.int .i64 (n : Int), .bool true]) := by rw [h]

set_option maxHeartbeats 1000000 in
theorem binSearch_at (B : Nat) (v : Value) (zs : List Int) (t : Int) (w : World) (h0 : HInts B w v zs) (ha : ascI zs = true) (hh : hasI zs t = true) :
    Calls Try.prog 82 #[v, .int .i64 t] w fun e w' => e = .returned (.tuple #[.int .i64 (pos zs t), .bool true]) ∧ w' = w := by
  have hm : Hid (∀ i j, i < j → j < zs.length → iat zs i < iat zs j) := asc_mono (fun i j => rfl) ha
  have HH : Hid (hasI zs t = true) := hh
  clear ha hh
  obtain ⟨a, cap, rfl, hn, hk⟩ := h0
  unfold maxLen at hn
  generalize hz : zs.length = n at *
  have HZ : Hid (zs.length = n) := hz
  clear hz
  go_enter Try.func82, Try.ntmps82
  go_wp2
  go_loop [7, 8, 9] (fun i j h => ∃ lo hi : Nat, lo ≤ hi ∧ hi ≤ n ∧ i = .int .i64 lo ∧ j = .int .i64 hi ∧ Hid (Mid (iat zs) n t lo hi)) (fun i j _ => (intOf j).toNat - (intOf i).toNat)
  case atStart => exact ⟨0, n, Nat.zero_le _, Nat.le_refl _, rfl, rfl, mid_start _ _ _⟩
  case round =>
    obtain ⟨lo, hi, h1, h2, rfl, rfl, hrel⟩ := hrel
    by_cases hlt : lo < hi
    · obtain ⟨b, off, rfl, hB, hb, hc⟩ := hk (by omega)
      obtain ⟨h, hh, hh1, hh2⟩ := halve lo hi hlt (by omega)
      have hcc := hc h (by omega)
      have hhn : (h : Int) < n := by omega
      clear hc hk
      by_cases hab : iat zs h < t
      · have HM : Hid (Mid (iat zs) n t (h + 1) hi) := mid_up hm.out hrel.out hh2 hab hh1
        go_wp2_with (go_at_call 83; refine (less_any _ _ _).mono ?_; rintro e w' ⟨rfl, rfl⟩)
        go_round
        case rel => exact ⟨h + 1, hi, by omega, by omega, by go_num, rfl, HM⟩
        case measure => simp [intOf]; omega
      · have HM : Hid (Mid (iat zs) n t lo h) := mid_down hm.out hrel.out hh2 hab hh1
        have hd : decide (iat zs h < t) = false := by simpa using hab
        go_wp2_with (go_at_call 83; refine (less_any _ _ _).mono ?_; rintro e w' ⟨rfl, rfl⟩)
        go_round
        case rel => exact ⟨lo, h, by omega, by omega, rfl, rfl, HM⟩
        case measure => simp [intOf]; omega
    · have e : hi = lo := by omega
      subst e
      have hp : hi < n ∧ iat zs hi = t ∧ pos zs t = hi := by have z := HZ.out; subst z; exact mid_pos hm.out hrel.out HH.out
      obtain ⟨hl, he, hp⟩ := hp
      have HP : Hid (pos zs t = hi) := hp
      clear hp
      obtain ⟨b, off, rfl, hB, hb, hc⟩ := hk (by omega)
      have hcc := hc hi hl
      have hln : (hi : Int) < n := by omega
      clear hc hk
      have hd : (iat zs hi == t) = true := by simpa using he
      clear he
      go_wp2_with (go_at_call 84; refine (slNaN_any _ _).mono ?_; rintro e w' ⟨rfl, rfl⟩)
      go_ret2
      exact ⟨ret_pos HP.out, rfl⟩

set_option maxHeartbeats 400000 in
theorem position_any (B : Nat) (v0 v1 v2 v3 : Value) (u id : Int) (zs : List Int) (w : World) (h0 : HInts B w v0 zs) (ha : ascI zs = true) (hh : hasI zs id = true) :
    Calls Try.prog 75 #[.agg #[v0, v1, v2, v3, .int .i64 u], .int .i64 id] w fun e w' => e = .returned (.int .i64 (pos zs id)) ∧ Nx w w' := by
  have HA : Hid (ascI zs = true ∧ hasI zs id = true) := ⟨ha, hh⟩
  clear ha hh
  go_enter Try.func75, Try.ntmps75
  go_wp2_with (go_at_call 82; refine (binSearch_at B _ zs _ _ (by exact h0.next (box1 _ _)) HA.out.1 HA.out.2).mono ?_; rintro e w' ⟨rfl, rfl⟩)
  go_ret
  exact ⟨rfl, box1 _ _⟩
end Go.Proofs.Ytmpkjlknnicdaaa
