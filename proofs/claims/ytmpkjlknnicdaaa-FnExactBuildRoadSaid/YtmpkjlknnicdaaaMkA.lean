import Derived.Test.YtmpkjlknnicdaaaToA
namespace Go.Proofs.Ytmpkjlknnicdaaa
open Go.RowKit
set_option linter.unusedVariables false

/-- a number stays a number, a truth a truth, all else stands -/
def Like (a b : Value) : Prop := a = b ∨ (∃ x y, a = .int .i64 x ∧ b = .int .i64 y) ∨ (∃ x y, a = .bool x ∧ b = .bool y)
theorem Like.int {x : Int} {b : Value} (h : Like (.int .i64 x) b) : ∃ y, b = .int .i64 y := by
  rcases h with h | ⟨_, y, _, h⟩ | ⟨_, _, h, _⟩
  · exact ⟨x, h.symm⟩
  · exact ⟨y, h⟩
  · simp at h
theorem Like.bool {x : Bool} {b : Value} (h : Like (.bool x) b) : ∃ y, b = .bool y := by
  rcases h with h | ⟨_, _, h, _⟩ | ⟨_, y, _, h⟩
  · exact ⟨x, h.symm⟩
  · simp at h
  · exact ⟨y, h⟩
theorem Like.slice {a : Option Addr} {n c : Nat} {b : Value} (h : Like (.slice a n c) b) : b = .slice a n c := by
  rcases h with h | ⟨_, _, h, _⟩ | ⟨_, _, h, _⟩
  · exact h.symm
  · simp at h
  · simp at h

/-- the blocks from B to w0's end may have been marked; all else is as in w1 -/
structure Mk (B : Nat) (w0 w1 w : World) : Prop where
  os : w.os = w1.os
  tape : w.tape = w1.tape
  output : w.output = w1.output
  size : w1.heap.size ≤ w.heap.size
  le : w0.heap.size ≤ w1.heap.size
  same : ∀ b, b < w1.heap.size → ¬ (B ≤ b ∧ b < w0.heap.size) → w.heap[b]? = w1.heap[b]?
  like : ∀ b, B ≤ b → b < w0.heap.size → ∃ (cs : Array Value) (t : TypeId) (cs' : Array Value), w0.heap[b]? = some (.cells cs t (0, 0)) ∧ w.heap[b]? = some (.cells cs' t (0, 0)) ∧ ∀ (i : Nat) (v : Value), cs[i]? = some v → ∃ v', cs'[i]? = some v' ∧ Like v v'

theorem Mk.start {B : Nat} {w0 w1 : World} (h : Nx w0 w1) (ho : ∀ b, B ≤ b → b < w0.heap.size → Opn w0 b) : Mk B w0 w1 w1 := by
  refine ⟨rfl, rfl, rfl, Nat.le_refl _, h.size, fun _ _ _ => rfl, fun b hb hs => ?_⟩
  obtain ⟨cs, t, h0⟩ := ho b hb hs
  exact ⟨cs, t, cs, h0, (h.block b hs).trans h0, fun i v hv => ⟨v, hv, Or.inl rfl⟩⟩
theorem Mk.cell {B : Nat} {w0 w1 w : World} (h : Mk B w0 w1 w) {b o : Nat} (hb : B ≤ b) (hs : b < w0.heap.size) {v : Value} (hc : w0.cell? ⟨b, o, none⟩ = some v) :
    ∃ v', Like v v' ∧ w.cell? ⟨b, o, none⟩ = some v' ∧ w.frozen? ⟨b, o, none⟩ = false := by
  obtain ⟨cs, t, cs', h0, h1, h2⟩ := h.like b hb hs
  have e : cs[o]? = some v := by simpa [World.cell?, h0] using hc
  obtain ⟨v', e', hl⟩ := h2 o v e
  exact ⟨v', hl, by simp [World.cell?, h1, e'], by simp [World.frozen?, h1]⟩
theorem Mk.int {B : Nat} {w0 w1 w : World} (h : Mk B w0 w1 w) {b o : Nat} (hb : B ≤ b) (hs : b < w0.heap.size) {x : Int} (hc : w0.cell? ⟨b, o, none⟩ = some (.int .i64 x)) :
    ∃ y, w.cell? ⟨b, o, none⟩ = some (.int .i64 y) ∧ w.frozen? ⟨b, o, none⟩ = false := by
  obtain ⟨v', hl, h1, h2⟩ := h.cell hb hs hc
  obtain ⟨y, rfl⟩ := hl.int
  exact ⟨y, h1, h2⟩
theorem Mk.bool {B : Nat} {w0 w1 w : World} (h : Mk B w0 w1 w) {b o : Nat} (hb : B ≤ b) (hs : b < w0.heap.size) {x : Bool} (hc : w0.cell? ⟨b, o, none⟩ = some (.bool x)) :
    ∃ y, w.cell? ⟨b, o, none⟩ = some (.bool y) ∧ w.frozen? ⟨b, o, none⟩ = false := by
  obtain ⟨v', hl, h1, h2⟩ := h.cell hb hs hc
  obtain ⟨y, rfl⟩ := hl.bool
  exact ⟨y, h1, h2⟩
theorem Mk.slice {B : Nat} {w0 w1 w : World} (h : Mk B w0 w1 w) {b o : Nat} (hb : B ≤ b) (hs : b < w0.heap.size) {a : Option Addr} {n c : Nat} (hc : w0.cell? ⟨b, o, none⟩ = some (.slice a n c)) :
    w.cell? ⟨b, o, none⟩ = some (.slice a n c) := by
  obtain ⟨v', hl, h1, h2⟩ := h.cell hb hs hc
  rw [hl.slice] at h1
  exact h1
theorem Mk.set {B : Nat} {w0 w1 w : World} (h : Mk B w0 w1 w) {b o : Nat} (hb : B ≤ b) (hs : b < w0.heap.size) {v u : Value} (hc : w0.cell? ⟨b, o, none⟩ = some v) (hl : Like v u) : Mk B w0 w1 (w.setCell ⟨b, o, none⟩ u) := by
  refine ⟨h.os, h.tape, h.output, by simpa [World.setCell] using h.size, h.le, fun k hk hn => ?_, fun k hk hn => ?_⟩
  · rw [← h.same k hk hn]
    exact Below.heap_setCell _ _ _ _ (fun e => hn (by subst e; exact ⟨hb, hs⟩))
  · obtain ⟨cs, t, cs', h0, h1, h2⟩ := h.like k hk hn
    by_cases e : k = b
    · subst e
      refine ⟨cs, t, cs'.setIfInBounds o u, h0, by simp [World.setCell, Array.getElem?_modify, h1], fun i z hz => ?_⟩
      obtain ⟨z', hz', hzl⟩ := h2 i z hz
      by_cases ei : o = i
      · subst ei
        have e2 : cs[o]? = some v := by simpa [World.cell?, h0] using hc
        rw [e2] at hz
        obtain rfl := Option.some.inj hz
        exact ⟨u, by rw [Array.getElem?_setIfInBounds]; simp [(Array.getElem?_eq_some_iff.1 hz').1], hl⟩
      · exact ⟨z', by rw [Array.getElem?_setIfInBounds, if_neg ei]; exact hz', hzl⟩
    · exact ⟨cs, t, cs', h0, (Below.heap_setCell _ _ _ _ e).trans h1, h2⟩
theorem Mk.setI {B : Nat} {w0 w1 w : World} (h : Mk B w0 w1 w) {b o : Nat} (hb : B ≤ b) (hs : b < w0.heap.size) {x : Int} (hc : w0.cell? ⟨b, o, none⟩ = some (.int .i64 x)) (y : Int) : Mk B w0 w1 (w.setCell ⟨b, o, none⟩ (.int .i64 y)) :=
  h.set hb hs hc (Or.inr (Or.inl ⟨x, y, rfl, rfl⟩))
theorem Mk.setB {B : Nat} {w0 w1 w : World} (h : Mk B w0 w1 w) {b o : Nat} (hb : B ≤ b) (hs : b < w0.heap.size) {x : Bool} (hc : w0.cell? ⟨b, o, none⟩ = some (.bool x)) (y : Bool) : Mk B w0 w1 (w.setCell ⟨b, o, none⟩ (.bool y)) :=
  h.set hb hs hc (Or.inr (Or.inr ⟨x, y, rfl, rfl⟩))
theorem Mk.alloc {B : Nat} {w0 w1 w : World} (h : Mk B w0 w1 w) (o : Obj) : Mk B w0 w1 (w.alloc o) := by
  have hz : w.heap.size ≤ (w.alloc o).heap.size := by simp
  have hk : ∀ k, k < w.heap.size → (w.alloc o).heap[k]? = w.heap[k]? := fun k hk => by
    show (w.heap.push _)[k]? = _
    rw [Array.getElem?_push, if_neg (by omega)]
  refine ⟨h.os, h.tape, h.output, Nat.le_trans h.size hz, h.le, fun k hk' hn => (hk k (by have := h.size; omega)).trans (h.same k hk' hn), fun k hb hs => ?_⟩
  obtain ⟨cs, t, cs', h0, h1, h2⟩ := h.like k hb hs
  exact ⟨cs, t, cs', h0, (hk k (Array.getElem?_eq_some_iff.1 h1).1).trans h1, h2⟩

set_option maxHeartbeats 400000 in
theorem markInts_any (B : Nat) (w0 w1 : World) (v : Value) (zs : List Int) (w : World) (k : Int) (h0 : HInts B w0 v zs) (hm : Mk B w0 w1 w) (hs : zs.length ≤ 1048576) (hk0 : 0 ≤ k) (hk1 : k ≤ 4611686018427387904) :
    Calls Try.prog 44 #[v, .int .i64 k] w fun e w' => e = .returned (.int .i64 (k + zs.length)) ∧ Mk B w0 w1 w' := by
  obtain ⟨a, cap, rfl, hn, hk⟩ := h0
  generalize hz : zs.length = n at *
  clear hz hn
  go_enter Try.func44, Try.ntmps44
  go_wp2
  go_loopw [1, 5] (fun c i wr => ∃ j : Nat, j ≤ n ∧ i = .int .i64 j ∧ c = .int .i64 (k + j) ∧ Hid (Mk B w0 w1 wr)) (fun _ i _ => n - (intOf i).toNat)
  case atStart => exact ⟨0, Nat.zero_le _, rfl, by simp, hm⟩
  case round =>
    obtain ⟨j, hjn, rfl, rfl, HM⟩ := hrel
    clear hm
    by_cases hlt : j < n
    · obtain ⟨b, off, rfl, hB, hb, hc⟩ := hk (by omega)
      obtain ⟨y, c0, f0⟩ := HM.out.int hB hb (hc j hlt)
      have HM' : Hid (Mk B w0 w1 (wr.setCell ⟨b, off + j, none⟩ (.int .i64 (k + j)))) := HM.out.setI hB hb (hc j hlt) _
      have hlt' : (j : Int) < n := by omega
      clear hc hk
      go_wp2
      go_roundw
      case rel => exact ⟨j + 1, by omega, by go_num, by go_num, HM'⟩
      case measure => simp [intOf]; omega
    · go_wp2
      go_ret
      have e : j = n := by omega
      subst e
      exact ⟨rfl, HM.out⟩
end Go.Proofs.Ytmpkjlknnicdaaa
