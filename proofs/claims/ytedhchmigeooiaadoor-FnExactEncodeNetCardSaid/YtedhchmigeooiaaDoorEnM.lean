import Derived.Test.YtedhchmigeooiaaDoorEnL
namespace Go.Proofs.YtedhchmigeooiaaDoor
open Go.RowKit
set_option linter.unusedVariables false
set_option maxRecDepth 100000

def nm (z : Int) : List UInt8 := 32 :: Lib.decDigits z.toNat
theorem numsTo_take (zs : List Int) (k : Nat) (h : k ≤ zs.length) : numsTo zs k = (zs.take k).flatMap nm := by
  induction k with
  | zero => simp [numsTo]
  | succ k ih =>
    rw [numsTo, ih (by omega), List.take_succ_eq_append_getElem (by omega), List.flatMap_append, iat_eq (by omega)]
    simp [nm]
theorem numsTo_all (zs : List Int) : numsTo zs zs.length = zs.flatMap nm := by rw [numsTo_take zs _ (Nat.le_refl _), List.take_length]
theorem numsTo_pairs (x : Wy) : numsTo (pairs x) (2 * x.weights.length) = (pairs x).flatMap nm := by rw [← pairs_len, numsTo_all]

/-- a row of numbers of our own -/
def icells (zs : List Int) : List Value := zs.map fun z => .int .i64 z
def OwnI (C : Nat) (w : World) (v : Value) (zs : List Int) : Prop := w.ownsRow C 2 1 v zs.length (icells zs)
theorem OwnI.alloc {B : Nat} {w : World} {v : Value} {zs : List Int} (h : OwnI B w v zs) (o : Obj) : OwnI B (w.alloc o) v zs := World.ownsRow.alloc h o
theorem OwnI.snoc {B : Nat} {w : World} {v : Value} {zs : List Int} {z : Int} (h : w.ownsRow B 2 1 v (zs.length + 1) (icells zs ++ [.int .i64 z])) : OwnI B w v (zs ++ [z]) := by
  unfold OwnI
  have e : icells (zs ++ [z]) = icells zs ++ [.int .i64 z] := by simp [icells]
  rw [List.length_append, e]
  exact h
theorem ownI_one (B : Nat) (w : World) (x : Int) (h : B ≤ w.heap.size) : OwnI B (w.alloc (.cells #[.int .i64 x] 2)) (.slice (some ⟨w.heap.size, 0, none⟩) 1 1) [x] :=
  ⟨rfl, .inr ⟨w.heap.size, 1, #[.int .i64 x], rfl, h, by show (w.heap.push _)[w.heap.size]? = _; simp, Nat.le_refl _, by simp [maxLen], by simp, by simp [icells]⟩⟩
theorem ownI_none (B : Nat) (w : World) (h : B ≤ w.heap.size) : OwnI B (w.alloc (.cells #[] 2)) (.slice (some ⟨w.heap.size, 0, none⟩) 0 0) [] :=
  ⟨rfl, .inr ⟨w.heap.size, 0, #[], rfl, h, by show (w.heap.push _)[w.heap.size]? = _; simp, Nat.le_refl _, by simp [maxLen], by simp, by simp [icells]⟩⟩
theorem OwnI.nums {C B : Nat} {w : World} {v : Value} {zs : List Int} (h : OwnI C w v zs) : HNums B w v zs := by
  obtain ⟨h1, h2⟩ := h
  rcases h2 with ⟨rfl, h2⟩ | ⟨g, cap, cur, rfl, hg, hh, hc, hm, hs, ht⟩
  · have : zs.length = 0 := by first | exact h2 | exact h2.symm | omega
    exact ⟨none, 0, by rw [this], by rw [this]; simp [maxLen], fun h => by omega⟩
  · refine ⟨_, _, rfl, by omega, fun h0 => ⟨g, 0, rfl, Nat.zero_le _, (Array.getElem?_eq_some_iff.1 hh).1, fun i hi => ⟨Or.inr ⟨cur, 2, _, by decide, hh⟩, ?_⟩⟩⟩
    have e : cur[i]? = some (.int .i64 (iat zs i)) := by
      have : (cur.toList.take (zs.length * 1))[i]? = (icells zs)[i]? := by rw [ht]
      rw [List.getElem?_take_of_lt (by omega)] at this
      rw [← Array.getElem?_toList, this, iat_eq hi]
      simp [icells, hi]
    unfold World.cell?
    simp only [hh]
    simpa using e

/-- the numbers of a way's line -/
def wv (x : Wy) (k : Nat) : List Int := iat x.nodes 0 :: (List.range k).flatMap fun i => [iat x.weights i, iat x.nodes (i + 1)]
theorem wv_zero (x : Wy) : wv x 0 = [iat x.nodes 0] := rfl
theorem wv_succ (x : Wy) (k : Nat) : wv x (k + 1) = wv x k ++ [iat x.weights k] ++ [iat x.nodes (k + 1)] := by simp [wv, List.range_succ, List.flatMap_append]
theorem wv_len (x : Wy) (k : Nat) : (wv x k).length = 1 + 2 * k := by rw [wv, List.length_cons, two_len]; omega
theorem wv_all (x : Wy) : wv x x.weights.length = iat x.nodes 0 :: pairs x := rfl
theorem wv_small {x : Wy} (h : WayIn x) : small (wv x x.weights.length) := by
  intro i hi
  rw [wv_all] at hi ⊢
  have hp := pairs_small h.nodes h.weights h.len
  match i with
  | 0 => exact h.nodes 0 (by rw [h.len]; omega)
  | i + 1 =>
    have := hp i (by simpa using hi)
    simpa [iat] using this

def wayHd (x : Wy) : ByteArray := ⟨#[119, 97, 121, 32]⟩ ++ ⟨(Lib.decDigits x.id.toNat).toArray⟩ ++ ⟨if x.both then #[32, 98] else #[32, 102]⟩
theorem wayHd_list (x : Wy) : (wayHd x).data.toList = [119, 97, 121, 32] ++ Lib.decDigits x.id.toNat ++ (if x.both then [32, 98] else [32, 102]) := by
  unfold wayHd
  simp only [ByteArray.data_append, Array.toList_append]
  cases x.both <;> simp
theorem line_way (b : List UInt8) (x : Wy) : b ++ (wayHd x).data.toList ++ numsTo (wv x x.weights.length) (wv x x.weights.length).length ++ [10] = b ++ wayTx x := by
  rw [wayHd_list, numsTo_all, wv_all]
  unfold wayTx
  rw [numsTo_all, numsTo_all, numsTo_pairs]
  simp [nm]
theorem ba_size (s : ByteArray) : s.size = s.data.toList.length := by simp
theorem wayHd_size {x : Wy} (h : WayIn x) : (wayHd x).size ≤ 13 := by
  have := dec_len 6 x.id.toNat (by have := h.id; unfold In at this; omega)
  have d : (if x.both then [32, 98] else [32, 102] : List UInt8).length = 2 := by split <;> rfl
  rw [ba_size, wayHd_list]
  simp only [List.length_append, List.length_cons, List.length_nil, d]
  omega

def relHd (x : Rl) (tl : List UInt8) : ByteArray := ⟨if x.only then #[111, 110, 108, 121, 32] else #[110, 111, 32]⟩ ++ (⟨(Lib.decDigits x.id.toNat).toArray⟩ ++ ⟨#[32]⟩ ++ ⟨(Lib.decDigits x.frm.toNat).toArray⟩) ++ ⟨tl.toArray⟩
theorem relHd_list (x : Rl) (tl : List UInt8) : (relHd x tl).data.toList = (if x.only then [111, 110, 108, 121, 32] else [110, 111, 32]) ++ (Lib.decDigits x.id.toNat ++ [32] ++ Lib.decDigits x.frm.toNat) ++ tl := by
  unfold relHd
  simp only [ByteArray.data_append, Array.toList_append]
  cases x.only <;> simp
theorem relHd_size {x : Rl} (h : RelIn x) (tl : List UInt8) (hl : tl.length ≤ 3) : (relHd x tl).size ≤ 23 := by
  have := dec_len 6 x.id.toNat (by have := h.id; unfold In at this; omega)
  have := dec_len 6 x.frm.toNat (by have := h.frm; unfold In at this; omega)
  have e : (if x.only then [111, 110, 108, 121, 32] else [110, 111, 32] : List UInt8).length ≤ 5 := by split <;> simp
  rw [ba_size, relHd_list]
  simp only [List.length_append, List.length_cons, List.length_nil]
  omega
theorem line_at (b : List UInt8) (x : Rl) (hv : x.via = true) : b ++ (relHd x [32, 97, 116]).data.toList ++ numsTo [x.node, x.to] [x.node, x.to].length ++ [10] = b ++ relTx x := by
  rw [relHd_list, numsTo_all]
  unfold relTx
  rw [if_pos hv, numsTo_all, numsTo_all, numsTo_all]
  cases x.only <;> simp [nm]
theorem line_by (b : List UInt8) (x : Rl) (hv : x.via = false) : b ++ (relHd x [32, 98, 121]).data.toList ++ numsTo (x.ways ++ [x.to]) (x.ways ++ [x.to]).length ++ [10] = b ++ relTx x := by
  rw [relHd_list, numsTo_all]
  unfold relTx
  rw [if_neg (show ¬ x.via = true by simp [hv]), numsTo_all, numsTo_all, numsTo_all]
  cases x.only <;> simp [nm]
end Go.Proofs.YtedhchmigeooiaaDoor
