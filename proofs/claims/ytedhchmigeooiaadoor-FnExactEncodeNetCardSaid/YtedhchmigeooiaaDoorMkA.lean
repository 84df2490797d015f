import Derived.Test.YtedhchmigeooiaaDoorToA
import Derived.Test.YtedhchmigeooiaaDoorNets
namespace Go.Proofs.YtedhchmigeooiaaDoor
open Go.RowKit
set_option linter.unusedVariables false

/-- a number stays a number, a truth a truth, all else stands -/
def Like (a b : Value) : Prop := a = b ∨ (∃ x y, a = .int .i64 x ∧ b = .int .i64 y) ∨ (∃ x y, a = .bool x ∧ b = .bool y)
theorem Like.int {x : Int} {b : Value} (h : Like (.int .i64 x) b) : ∃ y, b = .int .i64 y := by
  rcases h with h | ⟨_, y, _, h⟩ | ⟨_, _, h, _⟩
  · exact ⟨x, h.symm⟩
  · exact ⟨y, h⟩
  · simp at h
theorem Like.bool {x : Bool} {b : Value} (h : Like (.bool x) b) : ∃ y, b = .bool y := by
  rcases h with h | ⟨_, _, h, _⟩ | ⟨_, y, _, h⟩
  · exact ⟨x, h.symm⟩
  · simp at h
  · exact ⟨y, h⟩
theorem Like.slice {a : Option Addr} {n c : Nat} {b : Value} (h : Like (.slice a n c) b) : b = .slice a n c := by
  rcases h with h | ⟨_, _, h, _⟩ | ⟨_, _, h, _⟩
  · exact h.symm
  · simp at h
  · simp at h

/-- the blocks from B to w0's end may have been marked; all else is as in w1 -/
structure Mk (B : Nat) (w0 w1 w : World) : Prop where
  os : w.os = w1.os
  tape : w.tape = w1.tape
  output : w.output = w1.output
  size : w1.heap.size ≤ w.heap.size
  le : w0.heap.size ≤ w1.heap.size
  same : ∀ b, b < w1.heap.size → ¬ (B ≤ b ∧ b < w0.heap.size) → w.heap[b]? = w1.heap[b]?
  like : ∀ b, B ≤ b → b < w0.heap.size → ∃ (cs : Array Value) (t : TypeId) (cs' : Array Value), w0.heap[b]? = some (.cells cs t (0, 0)) ∧ w.heap[b]? = some (.cells cs' t (0, 0)) ∧ ∀ (i : Nat) (v : Value), cs[i]? = some v → ∃ v', cs'[i]? = some v' ∧ Like v v'

theorem Mk.start {B : Nat} {w0 w1 : World} (h : Nx w0 w1) (ho : ∀ b, B ≤ b → b < w0.heap.size → Opn w0 b) : Mk B w0 w1 w1 := by
  refine ⟨rfl, rfl, rfl, Nat.le_refl _, h.size, fun _ _ _ => rfl, fun b hb hs => ?_⟩
  obtain ⟨cs, t, h0⟩ := ho b hb hs
  exact ⟨cs, t, cs, h0, (h.block b hs).trans h0, fun i v hv => ⟨v, hv, Or.inl rfl⟩⟩
theorem Mk.cell {B : Nat} {w0 w1 w : World} (h : Mk B w0 w1 w) {b o : Nat} (hb : B ≤ b) (hs : b < w0.heap.size) {v : Value} (hc : w0.cell? ⟨b, o, none⟩ = some v) :
    ∃ v', Like v v' ∧ w.cell? ⟨b, o, none⟩ = some v' ∧ w.frozen? ⟨b, o, none⟩ = false := by
  obtain ⟨cs, t, cs', h0, h1, h2⟩ := h.like b hb hs
  have e : cs[o]? = some v := by simpa [World.cell?, h0] using hc
  obtain ⟨v', e', hl⟩ := h2 o v e
  exact ⟨v', hl, by simp [World.cell?, h1, e'], by simp [World.frozen?, h1]⟩
theorem Mk.int {B : Nat} {w0 w1 w : World} (h : Mk B w0 w1 w) {b o : Nat} (hb : B ≤ b) (hs : b < w0.heap.size) {x : Int} (hc : w0.cell? ⟨b, o, none⟩ = some (.int .i64 x)) :
    ∃ y, w.cell? ⟨b, o, none⟩ = some (.int .i64 y) ∧ w.frozen? ⟨b, o, none⟩ = false := by
  obtain ⟨v', hl, h1, h2⟩ := h.cell hb hs hc
  obtain ⟨y, rfl⟩ := hl.int
  exact ⟨y, h1, h2⟩
theorem Mk.bool {B : Nat} {w0 w1 w : World} (h : Mk B w0 w1 w) {b o : Nat} (hb : B ≤ b) (hs : b < w0.heap.size) {x : Bool} (hc : w0.cell? ⟨b, o, none⟩ = some (.bool x)) :
    ∃ y, w.cell? ⟨b, o, none⟩ = some (.bool y) ∧ w.frozen? ⟨b, o, none⟩ = false := by
  obtain ⟨v', hl, h1, h2⟩ := h.cell hb hs hc
  obtain ⟨y, rfl⟩ := hl.bool
  exact ⟨y, h1, h2⟩
theorem Mk.slice {B : Nat} {w0 w1 w : World} (h : Mk B w0 w1 w) {b o : Nat} (hb : B ≤ b) (hs : b < w0.heap.size) {a : Option Addr} {n c : Nat} (hc : w0.cell? ⟨b, o, none⟩ = some (.slice a n c)) :
    w.cell? ⟨b, o, none⟩ = some (.slice a n c) := by
  obtain ⟨v', hl, h1, h2⟩ := h.cell hb hs hc
  rw [hl.slice] at h1
  exact h1
theorem Mk.set {B : Nat} {w0 w1 w : World} (h : Mk B w0 w1 w) {b o : Nat} (hb : B ≤ b) (hs : b < w0.heap.size) {v u : Value} (hc : w0.cell? ⟨b, o, none⟩ = some v) (hl : Like v u) : Mk B w0 w1 (w.setCell ⟨b, o, none⟩ u) := by
  refine ⟨h.os, h.tape, h.output, by simpa [World.setCell] using h.size, h.le, fun k hk hn => ?_, fun k hk hn => ?_⟩
  · rw [← h.same k hk hn]
    exact Below.heap_setCell _ _ _ _ (fun e => hn (by subst e; exact ⟨hb, hs⟩))
  · obtain ⟨cs, t, cs', h0, h1, h2⟩ := h.like k hk hn
    by_cases e : k = b
    · subst e
      refine ⟨cs, t, cs'.setIfInBounds o u, h0, by simp [World.setCell, Array.getElem?_modify, h1], fun i z hz => ?_⟩
      obtain ⟨z', hz', hzl⟩ := h2 i z hz
      by_cases ei : o = i
      · subst ei
        have e2 : cs[o]? = some v := by simpa [World.cell?, h0] using hc
        rw [e2] at hz
        obtain rfl := Option.some.inj hz
        exact ⟨u, by rw [Array.getElem?_setIfInBounds]; simp [(Array.getElem?_eq_some_iff.1 hz').1], hl⟩
      · exact ⟨z', by rw [Array.getElem?_setIfInBounds, if_neg ei]; exact hz', hzl⟩
    · exact ⟨cs, t, cs', h0, (Below.heap_setCell _ _ _ _ e).trans h1, h2⟩
theorem Mk.setI {B : Nat} {w0 w1 w : World} (h : Mk B w0 w1 w) {b o : Nat} (hb : B ≤ b) (hs : b < w0.heap.size) {x : Int} (hc : w0.cell? ⟨b, o, none⟩ = some (.int .i64 x)) (y : Int) : Mk B w0 w1 (w.setCell ⟨b, o, none⟩ (.int .i64 y)) :=
  h.set hb hs hc (Or.inr (Or.inl ⟨x, y, rfl, rfl⟩))
theorem Mk.setB {B : Nat} {w0 w1 w : World} (h : Mk B w0 w1 w) {b o : Nat} (hb : B ≤ b) (hs : b < w0.heap.size) {x : Bool} (hc : w0.cell? ⟨b, o, none⟩ = some (.bool x)) (y : Bool) : Mk B w0 w1 (w.setCell ⟨b, o, none⟩ (.bool y)) :=
  h.set hb hs hc (Or.inr (Or.inr ⟨x, y, rfl, rfl⟩))
theorem Mk.alloc {B : Nat} {w0 w1 w : World} (h : Mk B w0 w1 w) (o : Obj) : Mk B w0 w1 (w.alloc o) := by
  have hz : w.heap.size ≤ (w.alloc o).heap.size := by simp
  have hk : ∀ k, k < w.heap.size → (w.alloc o).heap[k]? = w.heap[k]? := fun k hk => by
    show (w.heap.push _)[k]? = _
    rw [Array.getElem?_push, if_neg (by omega)]
  refine ⟨h.os, h.tape, h.output, Nat.le_trans h.size hz, h.le, fun k hk' hn => (hk k (by have := h.size; omega)).trans (h.same k hk' hn), fun k hb hs => ?_⟩
  obtain ⟨cs, t, cs', h0, h1, h2⟩ := h.like k hb hs
  exact ⟨cs, t, cs', h0, (hk k (Array.getElem?_eq_some_iff.1 h1).1).trans h1, h2⟩

set_option maxHeartbeats 400000 in
theorem markInts_any (B : Nat) (w0 w1 : World) (v : Value) (zs : List Int) (w : World) (k : Int) (h0 : HInts B w0 v zs) (hm : Mk B w0 w1 w) (hs : zs.length ≤ 1048576) (hk0 : 0 ≤ k) (hk1 : k ≤ 4611686018427387904) :
    Calls Tryd.prog 33 #[v, .int .i64 k] w fun e w' => e = .returned (.int .i64 (k + zs.length)) ∧ Mk B w0 w1 w' := by
  obtain ⟨a, cap, rfl, hn, hk⟩ := h0
  generalize hz : zs.length = n at *
  clear hz hn
  go_enter Tryd.func33, Tryd.ntmps33
  go_wp2
  go_loopw [1, 5] (fun c i wr => ∃ j : Nat, j ≤ n ∧ i = .int .i64 j ∧ c = .int .i64 (k + j) ∧ Hid (Mk B w0 w1 wr)) (fun _ i _ => n - (intOf i).toNat)
  case atStart => exact ⟨0, Nat.zero_le _, rfl, by simp, hm⟩
  case round =>
    obtain ⟨j, hjn, rfl, rfl, HM⟩ := hrel
    clear hm
    by_cases hlt : j < n
    · obtain ⟨b, off, rfl, hB, hb, hc⟩ := hk (by omega)
      obtain ⟨y, c0, f0⟩ := HM.out.int hB hb (hc j hlt)
      have HM' : Hid (Mk B w0 w1 (wr.setCell ⟨b, off + j, none⟩ (.int .i64 (k + j)))) := HM.out.setI hB hb (hc j hlt) _
      have hlt' : (j : Int) < n := by omega
      clear hc hk
      go_wp2
      go_roundw
      case rel => exact ⟨j + 1, by omega, by go_num, by go_num, HM'⟩
      case measure => simp [intOf]; omega
    · go_wp2
      go_ret
      have e : j = n := by omega
      subst e
      exact ⟨rfl, HM.out⟩
end Go.Proofs.YtedhchmigeooiaaDoor

namespace Go.Proofs.YtedhchmigeooiaaDoor
open Go.RowKit
set_option linter.unusedVariables false

set_option maxHeartbeats 1000000 in
theorem markTurns_any (B : Nat) (w0 w1 : World) (v : Value) (zs : List Tn) (w : World) (k : Int) (h0 : HTurns B w0 v zs) (hm : Mk B w0 w1 w) (hs : zs.length ≤ 1048576) (hk0 : 0 ≤ k) (hk1 : k ≤ 1152921504606846976) :
    Calls Tryd.prog 36 #[v, .int .i64 k] w fun e w' => (∃ r : Int, e = .returned (.int .i64 r) ∧ k ≤ r ∧ r ≤ k + zs.length * 4194304) ∧ Mk B w0 w1 w' := by
  obtain ⟨a, cap, rfl, hn, hk⟩ := h0
  generalize hz : zs.length = n at *
  clear hz hn
  go_enter Tryd.func36, Tryd.ntmps36
  go_wp2
  go_loopw [1, 5] (fun c i wr => ∃ j : Nat, ∃ r : Int, j ≤ n ∧ i = .int .i64 j ∧ c = .int .i64 r ∧ (k ≤ r ∧ r ≤ k + j * 4194304) ∧ Hid (Mk B w0 w1 wr)) (fun _ i _ => n - (intOf i).toNat)
  case atStart => exact ⟨0, k, Nat.zero_le _, rfl, rfl, by omega, hm⟩
  case round =>
    obtain ⟨j, r, hjn, rfl, rfl, ⟨hr0, hr1⟩, HM⟩ := hrel
    clear hm
    by_cases hlt : j < n
    · obtain ⟨b, off, rfl, hB, hb, hc⟩ := hk (by omega)
      obtain ⟨a0, a1, a2⟩ := hc j hlt
      obtain ⟨y0, c0, f0⟩ := HM.out.int hB hb a0
      obtain ⟨y1, c1, f1⟩ := HM.out.int hB hb a1
      obtain ⟨y2, c2, f2⟩ := HM.out.int hB hb a2
      have HM' : Hid (∀ x0 x1 x2 : Int, Mk B w0 w1 (((wr.setCell ⟨b, off + j * 3, none⟩ (.int .i64 x0)).setCell ⟨b, off + j * 3 + 1, none⟩ (.int .i64 x1)).setCell ⟨b, off + j * 3 + 2, none⟩ (.int .i64 x2))) :=
        fun x0 x1 x2 => (((HM.out.setI hB hb a0 x0).setI hB hb a1 x1).setI hB hb a2 x2)
      have hlt' : (j : Int) < n := by omega
      have hr2 : r + 3 ≤ 9223372036854775807 := by omega
      clear hc hk a0 a1 a2
      go_wp2
      go_roundw
      case rel => exact ⟨j + 1, _, by omega, by go_num, rfl, ⟨by go_num, by go_num⟩, HM'.out _ _ _⟩
      case measure => simp [intOf]; omega
    · go_wp2
      go_ret
      have e : j = n := by omega
      subst e
      exact ⟨⟨r, rfl, hr0, hr1⟩, HM.out⟩
end Go.Proofs.YtedhchmigeooiaaDoor

namespace Go.Proofs.YtedhchmigeooiaaDoor
open Go.RowKit
set_option linter.unusedVariables false

set_option maxHeartbeats 1000000 in
theorem markWays_any (B : Nat) (w0 w1 : World) (v : Value) (zs : List Wy) (w : World) (k : Int) (h0 : HWays B w0 v zs) (hm : Mk B w0 w1 w) (hs : zs.length ≤ 1048576) (hs1 : ∀ i, i < zs.length → (wat zs i).nodes.length ≤ 1048576 ∧ (wat zs i).weights.length ≤ 1048576) (hk0 : 0 ≤ k) (hk1 : k ≤ 1152921504606846976) :
    Calls Tryd.prog 34 #[v, .int .i64 k] w fun e w' => (∃ r : Int, e = .returned (.int .i64 r) ∧ k ≤ r ∧ r ≤ k + zs.length * 4194304) ∧ Mk B w0 w1 w' := by
  obtain ⟨a, cap, rfl, hn, hk⟩ := h0
  generalize hz : zs.length = n at *
  clear hz hn
  go_enter Tryd.func34, Tryd.ntmps34
  go_wp2
  go_loopw [1, 5] (fun c i wr => ∃ j : Nat, ∃ r : Int, j ≤ n ∧ i = .int .i64 j ∧ c = .int .i64 r ∧ (k ≤ r ∧ r ≤ k + j * 4194304) ∧ Hid (Mk B w0 w1 wr)) (fun _ i _ => n - (intOf i).toNat)
  case atStart => exact ⟨0, k, Nat.zero_le _, rfl, rfl, by omega, hm⟩
  case round =>
    obtain ⟨j, r, hjn, rfl, rfl, ⟨hr0, hr1⟩, HM⟩ := hrel
    clear hm
    by_cases hlt : j < n
    · obtain ⟨b, off, rfl, hB, hb, hc⟩ := hk (by omega)
      obtain ⟨p2, p3, a0, a1, a2, a3, n2, n3⟩ := hc j hlt
      obtain ⟨q2, m2, rfl, _⟩ := n2.slice
      obtain ⟨q3, m3, rfl, _⟩ := n3.slice
      obtain ⟨y0, c0, f0⟩ := HM.out.int hB hb a0
      obtain ⟨y1, c1, f1⟩ := HM.out.bool hB hb a1
      have c2 := HM.out.slice hB hb a2
      have c3 := HM.out.slice hB hb a3
      have HM' : Hid (∀ (x0 : Int) (x1 : Bool), Mk B w0 w1 ((wr.setCell ⟨b, off + j * 4, none⟩ (.int .i64 x0)).setCell ⟨b, off + j * 4 + 1, none⟩ (.bool x1))) := fun x0 x1 => ((HM.out.setI hB hb a0 x0).setB hB hb a1 x1)
      have hlt' : (j : Int) < n := by omega
      have hr2 : r + 2097200 ≤ 9223372036854775807 := by omega
      have HL := hs1 j hlt
      have HSL : Hid (∀ w', Mk B w0 w1 w' → w'.cell? ⟨b, off + j * 4 + 2, none⟩ = some (.slice q2 _ m2) ∧ w'.cell? ⟨b, off + j * 4 + 3, none⟩ = some (.slice q3 _ m3)) := fun w' h => ⟨h.slice hB hb a2, h.slice hB hb a3⟩
      have hbz : b < w1.heap.size := Nat.lt_of_lt_of_le hb HM.out.le
      clear hc hk a0 a1 a2 a3
      go_wp2_with fail
      refine (markInts_any B w0 w1 _ (wat zs j).nodes _ _ n2 (HM'.out _ _) HL.1 (by omega) (by omega)).mono ?_
      rintro e w2 ⟨rfl, hm2⟩
      have HM2 : Hid (Mk B w0 w1 w2) := hm2
      clear hm2 HM HM' c0 c1 c2 c3 f0 f1
      have c3 := (HSL.out _ HM2.out).2
      go_wp2_with fail
      refine (markInts_any B w0 w1 _ (wat zs j).weights _ _ n3 HM2.out HL.2 (by omega) (by omega)).mono ?_
      rintro e w3 ⟨rfl, hm3⟩
      have HM3 : Hid (Mk B w0 w1 w3) := hm3
      clear hm3 c3
      go_wp2
      go_roundw
      case rel => exact ⟨j + 1, _, by omega, by go_num, rfl, ⟨by go_num, by go_num⟩, HM3⟩
      case measure => simp [intOf]; omega
    · go_wp2
      go_ret
      have e : j = n := by omega
      subst e
      exact ⟨⟨r, rfl, hr0, hr1⟩, HM.out⟩

set_option maxHeartbeats 1000000 in
theorem markRels_any (B : Nat) (w0 w1 : World) (v : Value) (zs : List Rl) (w : World) (k : Int) (h0 : HRels B w0 v zs) (hm : Mk B w0 w1 w) (hs : zs.length ≤ 1048576) (hs1 : ∀ i, i < zs.length → (rat zs i).ways.length ≤ 1048576) (hk0 : 0 ≤ k) (hk1 : k ≤ 1152921504606846976) :
    Calls Tryd.prog 35 #[v, .int .i64 k] w fun e w' => (∃ r : Int, e = .returned (.int .i64 r) ∧ k ≤ r ∧ r ≤ k + zs.length * 4194304) ∧ Mk B w0 w1 w' := by
  obtain ⟨a, cap, rfl, hn, hk⟩ := h0
  generalize hz : zs.length = n at *
  clear hz hn
  go_enter Tryd.func35, Tryd.ntmps35
  go_wp2
  go_loopw [1, 5] (fun c i wr => ∃ j : Nat, ∃ r : Int, j ≤ n ∧ i = .int .i64 j ∧ c = .int .i64 r ∧ (k ≤ r ∧ r ≤ k + j * 4194304) ∧ Hid (Mk B w0 w1 wr)) (fun _ i _ => n - (intOf i).toNat)
  case atStart => exact ⟨0, k, Nat.zero_le _, rfl, rfl, by omega, hm⟩
  case round =>
    obtain ⟨j, r, hjn, rfl, rfl, ⟨hr0, hr1⟩, HM⟩ := hrel
    clear hm
    by_cases hlt : j < n
    · obtain ⟨b, off, rfl, hB, hb, hc⟩ := hk (by omega)
      obtain ⟨p6, a0, a1, a2, a3, a4, a5, a6, n6⟩ := hc j hlt
      obtain ⟨q6, m6, rfl, _⟩ := n6.slice
      obtain ⟨y0, c0, f0⟩ := HM.out.int hB hb a0
      obtain ⟨y1, c1, f1⟩ := HM.out.bool hB hb a1
      obtain ⟨y2, c2, f2⟩ := HM.out.int hB hb a2
      obtain ⟨y3, c3, f3⟩ := HM.out.int hB hb a3
      obtain ⟨y4, c4, f4⟩ := HM.out.bool hB hb a4
      obtain ⟨y5, c5, f5⟩ := HM.out.int hB hb a5
      have c6 := HM.out.slice hB hb a6
      have HM' : Hid (∀ (x0 : Int) (x1 : Bool) (x2 : Int) (x3 : Int) (x4 : Bool) (x5 : Int), Mk B w0 w1 ((((((wr.setCell ⟨b, off + j * 7, none⟩ (.int .i64 x0)).setCell ⟨b, off + j * 7 + 1, none⟩ (.bool x1)).setCell ⟨b, off + j * 7 + 2, none⟩ (.int .i64 x2)).setCell ⟨b, off + j * 7 + 3, none⟩ (.int .i64 x3)).setCell ⟨b, off + j * 7 + 4, none⟩ (.bool x4)).setCell ⟨b, off + j * 7 + 5, none⟩ (.int .i64 x5))) := fun x0 x1 x2 x3 x4 x5 => ((((((HM.out.setI hB hb a0 x0).setB hB hb a1 x1).setI hB hb a2 x2).setI hB hb a3 x3).setB hB hb a4 x4).setI hB hb a5 x5)
      have hlt' : (j : Int) < n := by omega
      have hr2 : r + 2097200 ≤ 9223372036854775807 := by omega
      have HL := hs1 j hlt
      have HSL : Hid (∀ w', Mk B w0 w1 w' → w'.cell? ⟨b, off + j * 7 + 6, none⟩ = some (.slice q6 _ m6)) := fun w' h => h.slice hB hb a6
      have hbz : b < w1.heap.size := Nat.lt_of_lt_of_le hb HM.out.le
      clear hc hk a0 a1 a2 a3 a4 a5 a6
      go_wp2_with fail
      refine (markInts_any B w0 w1 _ (rat zs j).ways _ _ n6 (HM'.out _ _ _ _ _ _) HL (by omega) (by omega)).mono ?_
      rintro e w2 ⟨rfl, hm2⟩
      have HM2 : Hid (Mk B w0 w1 w2) := hm2
      clear hm2 HM HM' c0 c1 c2 c3 c4 c5 c6 f0 f1 f2 f3 f4 f5
      go_wp2
      go_roundw
      case rel => exact ⟨j + 1, _, by omega, by go_num, rfl, ⟨by go_num, by go_num⟩, HM2⟩
      case measure => simp [intOf]; omega
    · go_wp2
      go_ret
      have e : j = n := by omega
      subst e
      exact ⟨⟨r, rfl, hr0, hr1⟩, HM.out⟩

end Go.Proofs.YtedhchmigeooiaaDoor

namespace Go.Proofs.YtedhchmigeooiaaDoor
open Go.RowKit
set_option linter.unusedVariables false

theorem Mk.rebase {B : Nat} {w0 w1 w : World} (h : Mk B w0 w1 w) : Mk B w0 w w :=
  ⟨rfl, rfl, rfl, Nat.le_refl _, Nat.le_trans h.le h.size, fun _ _ _ => rfl, h.like⟩
theorem Mk.trans {B : Nat} {w0 w1 w w' : World} (h : Mk B w0 w1 w) (k : Mk B w0 w w') : Mk B w0 w1 w' :=
  ⟨k.os.trans h.os, k.tape.trans h.tape, k.output.trans h.output, Nat.le_trans h.size k.size, h.le, fun b hb hn => (k.same b (Nat.lt_of_lt_of_le hb h.size) hn).trans (h.same b hb hn), k.like⟩
theorem Blk.mk {B : Nat} {w0 w1 w : World} {b : Nat} {cs : Array Value} (h : Blk w1 b cs) (k : Mk B w0 w1 w) (hb : w0.heap.size ≤ b) : Blk w b cs := by
  have hl := h.lt
  obtain ⟨t, h⟩ := h
  exact ⟨t, (k.same b hl (by omega)).trans h⟩

set_option maxHeartbeats 1000000 in
theorem markNet_any (B : Nat) (w0 w1 : World) (v0 v1 v2 v3 : Value) (N : Nt) (w : World) (h0 : HNet B w0 v0 v1 v2 v3 N) (hm : Mk B w0 w1 w) (hs : Small N) :
    Calls Tryd.prog 10 #[.agg #[v0, v1, v2, v3, .int .i64 N.uturn], .int .i64 1] w fun e w' => (∃ r : Int, e = .returned (.int .i64 r) ∧ 0 ≤ r) ∧ Mk B w0 w1 w' := by
  obtain ⟨i0, i1, i2, i3⟩ := h0
  have s0 := hs.nodes
  have s1 := hs.ways
  have s2 := hs.rels
  have s3 := hs.turns
  have HM : Hid (Mk B w0 w1 (w.alloc (.cells #[v0, v1, v2, v3, .int .i64 N.uturn] 35))) := hm.alloc _
  have hbz : w0.heap.size ≤ w.heap.size := Nat.le_trans hm.le hm.size
  have BA : Blk (w.alloc (.cells #[v0, v1, v2, v3, .int .i64 N.uturn] 35)) w.heap.size #[v0, v1, v2, v3, .int .i64 N.uturn] := Blk.new w _ 35 _ rfl
  clear hm
  go_enter Tryd.func10, Tryd.ntmps10
  go_wp2_with fail
  refine (markInts_any B w0 _ _ N.nodes _ 1 i0 HM.out.rebase s0 (by omega) (by omega)).mono ?_
  rintro e w2 ⟨rfl, hm2⟩
  have BA := BA.mk hm2 hbz
  have HM := HM.out.trans hm2
  have k0 := BA.cell (i := 1) rfl
  clear hm2
  have HM : Hid _ := HM
  go_wp2_with fail
  refine (markWays_any B w0 _ _ N.ways _ _ i1 HM.out.rebase s1 hs.way (by omega) (by omega)).mono ?_
  rintro e w3 ⟨⟨r3, rfl, hr0, hr1⟩, hm2⟩
  have BA := BA.mk hm2 hbz
  have HM := HM.out.trans hm2
  clear k0 hm2
  have k0 := BA.cell (i := 2) rfl
  have HM : Hid _ := HM
  go_wp2_with fail
  refine (markRels_any B w0 _ _ N.rels _ _ i2 HM.out.rebase s2 hs.rel (by omega) (by omega)).mono ?_
  rintro e w4 ⟨⟨r4, rfl, hr2, hr3⟩, hm2⟩
  have BA := BA.mk hm2 hbz
  have HM := HM.out.trans hm2
  clear k0 hm2
  have k0 := BA.cell (i := 3) rfl
  have HM : Hid _ := HM
  go_wp2_with fail
  refine (markTurns_any B w0 _ _ N.turns _ _ i3 HM.out.rebase s3 (by omega) (by omega)).mono ?_
  rintro e w5 ⟨⟨r5, rfl, hr4, hr5⟩, hm2⟩
  have HM := HM.out.trans hm2
  go_wp2
  go_ret
  exact ⟨⟨r5, rfl, by omega⟩, HM⟩
end Go.Proofs.YtedhchmigeooiaaDoor
