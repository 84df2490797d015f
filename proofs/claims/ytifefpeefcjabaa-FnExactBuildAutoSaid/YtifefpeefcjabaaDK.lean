import Derived.Test.YtifefpeefcjabaaDI
namespace Go.Proofs.Ytifefpeefcjabaa
open Go.RowKit Go.Sort Go.Maps
set_option linter.unusedVariables false
set_option maxRecDepth 100000

/-- one block alone may have turned -/
structure Only (o : Option Nat) (w w' : World) : Prop where
  os : w'.os = w.os
  tape : w'.tape = w.tape
  output : w'.output = w.output
  size : w.heap.size ≤ w'.heap.size
  block : ∀ b, b < w.heap.size → some b ≠ o → w'.heap[b]? = w.heap[b]?
theorem Only.refl (o : Option Nat) (w : World) : Only o w w := ⟨rfl, rfl, rfl, Nat.le_refl _, fun _ _ _ => rfl⟩
theorem Only.set {o : Option Nat} {w w' : World} (h : Only o w w') {g i : Nat} (hg : o = some g) (u : Value) : Only o w (w'.setCell ⟨g, i, none⟩ u) :=
  ⟨h.os, h.tape, h.output, by simpa [World.setCell] using h.size, fun b hb hn => (Below.heap_setCell _ _ _ _ (fun e => hn (by rw [hg, e]))).trans (h.block b hb hn)⟩
theorem Only.below {o : Option Nat} {w w' : World} (h : Only o w w') {B : Nat} (hB : ∀ g, o = some g → B ≤ g) (hs : B ≤ w.heap.size) : Below B w w' :=
  ⟨h.os, h.tape, h.output, h.size, fun k hk => h.block k (by omega) (fun e => by have := hB k e.symm; omega)⟩

/-- a slice of numbers, open -/
def SI (w : World) (v : Value) (n : Nat) (F : Nat → Int) : Prop := ∃ a c, v = .slice a n c ∧ (0 < n → ∃ g, a = some ⟨g, 0, none⟩ ∧ RW w g n F)

set_option maxHeartbeats 1000000 in
theorem markI_any (v : Value) (n : Nat) (F : Nat → Int) (w : World) (k : Int) (h0 : SI w v n F) (hs : n ≤ 1048576) (hk0 : 0 ≤ k) (hk1 : k ≤ 4611686018427387904) :
    Calls Try.prog 38 #[v, .int .i64 k] w fun e w' => e = .returned (.int .i64 (k + n)) ∧ SI w' v n (fun i => k + i) ∧ Only v.ownBlock w w' := by
  obtain ⟨a, c, rfl, hk⟩ := h0
  go_enter Try.func38, Try.ntmps38
  go_wp2
  go_loopw [1, 5] (fun m i wr => ∃ j : Nat, j ≤ n ∧ i = .int .i64 j ∧ m = .int .i64 (k + j) ∧ Hid (∃ G, SI wr (.slice a n c) n G ∧ ∀ i, i < j → G i = k + i) ∧ Hid (Only (Value.slice a n c).ownBlock w wr)) (fun _ i _ => n - (intOf i).toNat)
  case atStart => exact ⟨0, Nat.zero_le _, rfl, by simp, ⟨F, ⟨a, c, rfl, hk⟩, fun i hi => absurd hi (Nat.not_lt_zero _)⟩, Only.refl _ _⟩
  obtain ⟨j, hjn, rfl, rfl, HM, HO⟩ := hrel
  clear hk
  by_cases hlt : j < n
  · obtain ⟨G, ⟨a', c', e0, hk⟩, hG⟩ := HM.out
    simp only [Value.slice.injEq, true_and] at e0
    obtain ⟨rfl, rfl⟩ := e0
    obtain ⟨g, rfl, hr⟩ := hk (by omega)
    have c0 := hr.cell hlt
    have f0 := hr.frozen j
    have HM' : Hid (∃ G, SI (wr.setCell ⟨g, j, none⟩ (.int .i64 (k + j))) (.slice (some ⟨g, 0, none⟩) n c) n G ∧ ∀ i, i < j + 1 → G i = k + i) := by
      refine ⟨_, ⟨_, _, rfl, fun _ => ⟨g, rfl, hr.set j (k + j)⟩⟩, fun i hi => ?_⟩
      by_cases e : i = j
      · subst e; simp
      · simp only [if_neg e]
        exact hG i (by omega)
    have HO' : Hid (Only (Value.slice (some ⟨g, 0, none⟩) n c).ownBlock w (wr.setCell ⟨g, j, none⟩ (.int .i64 (k + j)))) := HO.out.set rfl _
    have hlt' : (j : Int) < n := by omega
    clear hk hr hG HM HO
    generalize G j = gj at *
    go_wp2
    go_roundw
    case rel => exact ⟨j + 1, by omega, by go_num, by go_num, HM', HO'⟩
    case measure => simp [intOf]; omega
  · have e : j = n := by omega
    subst e
    go_wp2
    go_ret
    refine ⟨rfl, ?_, HO.out⟩
    obtain ⟨G, ⟨a', c', e0, hk⟩, hG⟩ := HM.out
    refine ⟨a', c', e0, fun h0 => ?_⟩
    obtain ⟨g, e1, hr⟩ := hk h0
    exact ⟨g, e1, hr.congr fun i hi => hG i hi⟩

set_option maxHeartbeats 1000000 in
theorem heldI_any (v : Value) (n : Nat) (w : World) (k : Int) (h0 : SI w v n (fun i => k + i)) (hs : n ≤ 1048576) (hk0 : 0 ≤ k) (hk1 : k ≤ 4611686018427387904) :
    Calls Try.prog 59 #[v, .int .i64 k] w fun e w' => e = .returned (.int .i64 (k + n)) ∧ w' = w := by
  obtain ⟨a, c, rfl, hk⟩ := h0
  go_enter Try.func59, Try.ntmps59
  go_wp2
  go_loopw [1, 5] (fun m i wr => ∃ j : Nat, j ≤ n ∧ i = .int .i64 j ∧ m = .int .i64 (k + j) ∧ wr = w) (fun _ i _ => n - (intOf i).toNat)
  case atStart => exact ⟨0, Nat.zero_le _, rfl, by simp, rfl⟩
  obtain ⟨j, hjn, rfl, rfl, rfl⟩ := hrel
  by_cases hlt : j < n
  · obtain ⟨g, rfl, hr⟩ := hk (by omega)
    have c0 := hr.cell hlt
    have hlt' : (j : Int) < n := by omega
    have hne : (k + (j : Int) != k + (j : Int)) = false := by simp
    clear hk hr
    go_wp2
    go_roundw
    case rel => exact ⟨j + 1, by omega, by go_num, by go_num, trivial⟩
    case measure => simp [intOf]; omega
  · have e : j = n := by omega
    subst e
    go_wp2
    go_ret
    exact ⟨rfl, rfl⟩
theorem SI.keep {w w' : World} {v : Value} {n : Nat} {F : Nat → Int} (h : SI w v n F) (k : ∀ g, v.ownBlock = some g → w'.heap[g]? = w.heap[g]?) : SI w' v n F := by
  obtain ⟨a, c, rfl, hk⟩ := h
  refine ⟨a, c, rfl, fun h0 => ?_⟩
  obtain ⟨g, rfl, hr⟩ := hk h0
  exact ⟨g, rfl, hr.of_block (k g rfl)⟩
theorem OwnI.si {B : Nat} {w : World} {v : Value} {zs : List Int} (h : OwnI B w v zs) : SI w v zs.length (iat zs) := by
  rcases h.opened with ⟨rfl, h2⟩ | ⟨g, cap, rfl, hg, hm, hr⟩
  · rw [h2]; exact ⟨none, 0, rfl, fun h => absurd h (Nat.lt_irrefl _)⟩
  · exact ⟨_, _, rfl, fun _ => ⟨g, rfl, hr⟩⟩

theorem Only.blk {o : Option Nat} {W w : World} {b : Nat} {cs : Array Value} (k : Only o W w) (h : Blk W b cs) (hn : some b ≠ o) : Blk w b cs := by
  have hl := h.lt
  obtain ⟨t, hb⟩ := h
  exact ⟨t, (k.block b hl hn).trans hb⟩
theorem Only.own {o : Option Nat} {W w : World} {B ty sz : Nat} {v : Value} {n : Nat} {xs : List Value} (k : Only o W w) (h : W.ownsRow B ty sz v n xs) (hn : ∀ g, v.ownBlock = some g → some g ≠ o) : w.ownsRow B ty sz v n xs := by
  obtain ⟨h1, h2⟩ := h
  refine ⟨h1, ?_⟩
  rcases h2 with h2 | ⟨g, cap, cur, hv, hg, hh, r⟩
  · exact Or.inl h2
  · exact Or.inr ⟨g, cap, cur, hv, hg, (k.block g (Array.getElem?_eq_some_iff.1 hh).1 (hn g (by rw [hv]; rfl))).trans hh, r⟩
/-- a number stays a number, a truth a truth, all else stands -/
def Like (a b : Value) : Prop := a = b ∨ (∃ x y, a = .int .i64 x ∧ b = .int .i64 y) ∨ (∃ x y, a = .bool x ∧ b = .bool y)
theorem Like.int {x : Int} {b : Value} (h : Like (.int .i64 x) b) : ∃ y, b = .int .i64 y := by
  rcases h with h | ⟨_, y, _, h⟩ | ⟨_, _, h, _⟩
  · exact ⟨x, h.symm⟩
  · exact ⟨y, h⟩
  · simp at h
theorem Like.bool {x : Bool} {b : Value} (h : Like (.bool x) b) : ∃ y, b = .bool y := by
  rcases h with h | ⟨_, _, h, _⟩ | ⟨_, y, _, h⟩
  · exact ⟨x, h.symm⟩
  · simp at h
  · exact ⟨y, h⟩
theorem Like.slice {a : Option Addr} {n c : Nat} {b : Value} (h : Like (.slice a n c) b) : b = .slice a n c := by
  rcases h with h | ⟨_, _, h, _⟩ | ⟨_, _, h, _⟩
  · exact h.symm
  · simp at h
  · simp at h

/-- the blocks from B to w0's end may have been marked; all else is as in w1 -/
structure Mk (B : Nat) (w0 w1 w : World) : Prop where
  os : w.os = w1.os
  tape : w.tape = w1.tape
  output : w.output = w1.output
  size : w1.heap.size ≤ w.heap.size
  le : w0.heap.size ≤ w1.heap.size
  same : ∀ b, b < w1.heap.size → ¬ (B ≤ b ∧ b < w0.heap.size) → w.heap[b]? = w1.heap[b]?
  like : ∀ b, B ≤ b → b < w0.heap.size → ∃ (cs : Array Value) (t : TypeId) (cs' : Array Value), w0.heap[b]? = some (.cells cs t (0, 0)) ∧ w.heap[b]? = some (.cells cs' t (0, 0)) ∧ ∀ (i : Nat) (v : Value), cs[i]? = some v → ∃ v', cs'[i]? = some v' ∧ Like v v'

theorem Mk.start {B : Nat} {w0 w1 : World} (h : Nx w0 w1) (ho : ∀ b, B ≤ b → b < w0.heap.size → Opn w0 b) : Mk B w0 w1 w1 := by
  refine ⟨rfl, rfl, rfl, Nat.le_refl _, h.size, fun _ _ _ => rfl, fun b hb hs => ?_⟩
  obtain ⟨cs, t, h0⟩ := ho b hb hs
  exact ⟨cs, t, cs, h0, (h.block b hs).trans h0, fun i v hv => ⟨v, hv, Or.inl rfl⟩⟩
theorem Mk.cell {B : Nat} {w0 w1 w : World} (h : Mk B w0 w1 w) {b o : Nat} (hb : B ≤ b) (hs : b < w0.heap.size) {v : Value} (hc : w0.cell? ⟨b, o, none⟩ = some v) :
    ∃ v', Like v v' ∧ w.cell? ⟨b, o, none⟩ = some v' ∧ w.frozen? ⟨b, o, none⟩ = false := by
  obtain ⟨cs, t, cs', h0, h1, h2⟩ := h.like b hb hs
  have e : cs[o]? = some v := by simpa [World.cell?, h0] using hc
  obtain ⟨v', e', hl⟩ := h2 o v e
  exact ⟨v', hl, by simp [World.cell?, h1, e'], by simp [World.frozen?, h1]⟩
theorem Mk.int {B : Nat} {w0 w1 w : World} (h : Mk B w0 w1 w) {b o : Nat} (hb : B ≤ b) (hs : b < w0.heap.size) {x : Int} (hc : w0.cell? ⟨b, o, none⟩ = some (.int .i64 x)) :
    ∃ y, w.cell? ⟨b, o, none⟩ = some (.int .i64 y) ∧ w.frozen? ⟨b, o, none⟩ = false := by
  obtain ⟨v', hl, h1, h2⟩ := h.cell hb hs hc
  obtain ⟨y, rfl⟩ := hl.int
  exact ⟨y, h1, h2⟩
theorem Mk.bool {B : Nat} {w0 w1 w : World} (h : Mk B w0 w1 w) {b o : Nat} (hb : B ≤ b) (hs : b < w0.heap.size) {x : Bool} (hc : w0.cell? ⟨b, o, none⟩ = some (.bool x)) :
    ∃ y, w.cell? ⟨b, o, none⟩ = some (.bool y) ∧ w.frozen? ⟨b, o, none⟩ = false := by
  obtain ⟨v', hl, h1, h2⟩ := h.cell hb hs hc
  obtain ⟨y, rfl⟩ := hl.bool
  exact ⟨y, h1, h2⟩
theorem Mk.slice {B : Nat} {w0 w1 w : World} (h : Mk B w0 w1 w) {b o : Nat} (hb : B ≤ b) (hs : b < w0.heap.size) {a : Option Addr} {n c : Nat} (hc : w0.cell? ⟨b, o, none⟩ = some (.slice a n c)) :
    w.cell? ⟨b, o, none⟩ = some (.slice a n c) := by
  obtain ⟨v', hl, h1, h2⟩ := h.cell hb hs hc
  rw [hl.slice] at h1
  exact h1
theorem Mk.set {B : Nat} {w0 w1 w : World} (h : Mk B w0 w1 w) {b o : Nat} (hb : B ≤ b) (hs : b < w0.heap.size) {v u : Value} (hc : w0.cell? ⟨b, o, none⟩ = some v) (hl : Like v u) : Mk B w0 w1 (w.setCell ⟨b, o, none⟩ u) := by
  refine ⟨h.os, h.tape, h.output, by simpa [World.setCell] using h.size, h.le, fun k hk hn => ?_, fun k hk hn => ?_⟩
  · rw [← h.same k hk hn]
    exact Below.heap_setCell _ _ _ _ (fun e => hn (by subst e; exact ⟨hb, hs⟩))
  · obtain ⟨cs, t, cs', h0, h1, h2⟩ := h.like k hk hn
    by_cases e : k = b
    · subst e
      refine ⟨cs, t, cs'.setIfInBounds o u, h0, by simp [World.setCell, Array.getElem?_modify, h1], fun i z hz => ?_⟩
      obtain ⟨z', hz', hzl⟩ := h2 i z hz
      by_cases ei : o = i
      · subst ei
        have e2 : cs[o]? = some v := by simpa [World.cell?, h0] using hc
        rw [e2] at hz
        obtain rfl := Option.some.inj hz
        exact ⟨u, by rw [Array.getElem?_setIfInBounds]; simp [(Array.getElem?_eq_some_iff.1 hz').1], hl⟩
      · exact ⟨z', by rw [Array.getElem?_setIfInBounds, if_neg ei]; exact hz', hzl⟩
    · exact ⟨cs, t, cs', h0, (Below.heap_setCell _ _ _ _ e).trans h1, h2⟩
theorem Mk.setI {B : Nat} {w0 w1 w : World} (h : Mk B w0 w1 w) {b o : Nat} (hb : B ≤ b) (hs : b < w0.heap.size) {x : Int} (hc : w0.cell? ⟨b, o, none⟩ = some (.int .i64 x)) (y : Int) : Mk B w0 w1 (w.setCell ⟨b, o, none⟩ (.int .i64 y)) :=
  h.set hb hs hc (Or.inr (Or.inl ⟨x, y, rfl, rfl⟩))
theorem Mk.setB {B : Nat} {w0 w1 w : World} (h : Mk B w0 w1 w) {b o : Nat} (hb : B ≤ b) (hs : b < w0.heap.size) {x : Bool} (hc : w0.cell? ⟨b, o, none⟩ = some (.bool x)) (y : Bool) : Mk B w0 w1 (w.setCell ⟨b, o, none⟩ (.bool y)) :=
  h.set hb hs hc (Or.inr (Or.inr ⟨x, y, rfl, rfl⟩))
theorem Mk.alloc {B : Nat} {w0 w1 w : World} (h : Mk B w0 w1 w) (o : Obj) : Mk B w0 w1 (w.alloc o) := by
  have hz : w.heap.size ≤ (w.alloc o).heap.size := by simp
  have hk : ∀ k, k < w.heap.size → (w.alloc o).heap[k]? = w.heap[k]? := fun k hk => by
    show (w.heap.push _)[k]? = _
    rw [Array.getElem?_push, if_neg (by omega)]
  refine ⟨h.os, h.tape, h.output, Nat.le_trans h.size hz, h.le, fun k hk' hn => (hk k (by have := h.size; omega)).trans (h.same k hk' hn), fun k hb hs => ?_⟩
  obtain ⟨cs, t, cs', h0, h1, h2⟩ := h.like k hb hs
  exact ⟨cs, t, cs', h0, (hk k (Array.getElem?_eq_some_iff.1 h1).1).trans h1, h2⟩

set_option maxHeartbeats 400000 in
theorem markInts_any (B : Nat) (w0 w1 : World) (v : Value) (zs : List Int) (w : World) (k : Int) (h0 : HInts B w0 v zs) (hm : Mk B w0 w1 w) (hs : zs.length ≤ 1048576) (hk0 : 0 ≤ k) (hk1 : k ≤ 4611686018427387904) :
    Calls Try.prog 38 #[v, .int .i64 k] w fun e w' => e = .returned (.int .i64 (k + zs.length)) ∧ Mk B w0 w1 w' := by
  obtain ⟨a, cap, rfl, hn, hk⟩ := h0
  generalize hz : zs.length = n at *
  clear hz hn
  go_enter Try.func38, Try.ntmps38
  go_wp2
  go_loopw [1, 5] (fun c i wr => ∃ j : Nat, j ≤ n ∧ i = .int .i64 j ∧ c = .int .i64 (k + j) ∧ Hid (Mk B w0 w1 wr)) (fun _ i _ => n - (intOf i).toNat)
  case atStart => exact ⟨0, Nat.zero_le _, rfl, by simp, hm⟩
  case round =>
    obtain ⟨j, hjn, rfl, rfl, HM⟩ := hrel
    clear hm
    by_cases hlt : j < n
    · obtain ⟨b, off, rfl, hB, hb, hc⟩ := hk (by omega)
      obtain ⟨y, c0, f0⟩ := HM.out.int hB hb (hc j hlt)
      have HM' : Hid (Mk B w0 w1 (wr.setCell ⟨b, off + j, none⟩ (.int .i64 (k + j)))) := HM.out.setI hB hb (hc j hlt) _
      have hlt' : (j : Int) < n := by omega
      clear hc hk
      go_wp2
      go_roundw
      case rel => exact ⟨j + 1, by omega, by go_num, by go_num, HM'⟩
      case measure => simp [intOf]; omega
    · go_wp2
      go_ret
      have e : j = n := by omega
      subst e
      exact ⟨rfl, HM.out⟩
theorem Mk.rebase {B : Nat} {w0 w1 w : World} (h : Mk B w0 w1 w) : Mk B w0 w w :=
  ⟨rfl, rfl, rfl, Nat.le_refl _, Nat.le_trans h.le h.size, fun _ _ _ => rfl, h.like⟩
theorem Mk.trans {B : Nat} {w0 w1 w w' : World} (h : Mk B w0 w1 w) (k : Mk B w0 w w') : Mk B w0 w1 w' :=
  ⟨k.os.trans h.os, k.tape.trans h.tape, k.output.trans h.output, Nat.le_trans h.size k.size, h.le, fun b hb hn => (k.same b (Nat.lt_of_lt_of_le hb h.size) hn).trans (h.same b hb hn), k.like⟩
theorem Blk.mk {B : Nat} {w0 w1 w : World} {b : Nat} {cs : Array Value} (h : Blk w1 b cs) (k : Mk B w0 w1 w) (hb : w0.heap.size ≤ b) : Blk w b cs := by
  have hl := h.lt
  obtain ⟨t, h⟩ := h
  exact ⟨t, (k.same b hl (by omega)).trans h⟩

theorem Mk.below {B C : Nat} {w0 w1 w : World} (h : Mk B w0 w1 w) (hC : C ≤ B) (hs : C ≤ w1.heap.size) : Below C w1 w :=
  ⟨h.os, h.tape, h.output, h.size, fun k hk => h.same k (by omega) (by omega)⟩


/-- a row of truths, open -/
def RWB (w : World) (g n : Nat) (F : Nat → Bool) : Prop := ∃ c : Array Value, w.heap[g]? = some (.cells c 4 (0, 0)) ∧ n ≤ c.size ∧ ∀ i, i < n → c[i]? = some (.bool (F i))
theorem RWB.of_rowIs {w : World} {g n : Nat} {F : Nat → Bool} (h : w.rowIs g 4 n (fun i => .bool (F i))) : RWB w g n F := by
  obtain ⟨c, h1, h2, h3⟩ := h
  exact ⟨c, h1, by omega, h3⟩
theorem RWB.lt {w : World} {g n : Nat} {F : Nat → Bool} (h : RWB w g n F) : g < w.heap.size := by
  obtain ⟨c, h1, _⟩ := h
  exact (Array.getElem?_eq_some_iff.1 h1).1
theorem RWB.cell {w : World} {g n : Nat} {F : Nat → Bool} (h : RWB w g n F) {i : Nat} (hi : i < n) : w.cell? ⟨g, i, none⟩ = some (.bool (F i)) := by
  obtain ⟨c, hb, _, hc⟩ := h
  simp [World.cell?, hb, hc i hi]
theorem RWB.frozen {w : World} {g n : Nat} {F : Nat → Bool} (h : RWB w g n F) (i : Nat) : w.frozen? ⟨g, i, none⟩ = false := by
  obtain ⟨c, hb, _, _⟩ := h
  simp [World.frozen?, hb]
theorem RWB.congr {w : World} {g n : Nat} {F G : Nat → Bool} (h : RWB w g n F) (e : ∀ i, i < n → F i = G i) : RWB w g n G := by
  obtain ⟨c, hb, hn, hc⟩ := h
  exact ⟨c, hb, hn, fun i hi => by rw [hc i hi, e i hi]⟩
theorem RWB.of_block {w w' : World} {g n : Nat} {F : Nat → Bool} (h : RWB w g n F) (e : w'.heap[g]? = w.heap[g]?) : RWB w' g n F := by
  obtain ⟨c, hb, hn, hc⟩ := h
  exact ⟨c, e.trans hb, hn, hc⟩
theorem RWB.next {w w' : World} {g n : Nat} {F : Nat → Bool} (h : RWB w g n F) (k : Nx w w') : RWB w' g n F := h.of_block (k.block g h.lt)
theorem RWB.alloc {w : World} {g n : Nat} {F : Nat → Bool} (h : RWB w g n F) (o : Obj) : RWB (w.alloc o) g n F := h.next (box1 _ _)
theorem RWB.set {w : World} {g n : Nat} {F : Nat → Bool} (h : RWB w g n F) (i : Nat) (z : Bool) : RWB (w.setCell ⟨g, i, none⟩ (.bool z)) g n (fun j => if j = i then z else F j) := by
  obtain ⟨c, hb, hn, hc⟩ := h
  refine ⟨c.setIfInBounds i (.bool z), ?_, by simpa using hn, fun j hj => ?_⟩
  · simp [World.setCell, Array.getElem?_modify, hb]
  · rw [Array.getElem?_setIfInBounds]
    by_cases e : j = i
    · subst e
      simp [show j < c.size by omega]
    · rw [if_neg (fun h => e h.symm)]
      show c[j]? = some (.bool (if j = i then z else F j))
      rw [if_neg e]
      exact hc j hj
theorem RWB.setOther {w : World} {g n : Nat} {F : Nat → Bool} (h : RWB w g n F) {a : Addr} (ha : g ≠ a.block) (v : Value) : RWB (w.setCell a v) g n F := h.of_block (Below.heap_setCell _ _ _ _ ha)
def m3 (k : Int) : Bool := k % 3 == 0
def SB (w : World) (v : Value) (n : Nat) (F : Nat → Bool) : Prop := ∃ a c, v = .slice a n c ∧ (0 < n → ∃ g, a = some ⟨g, 0, none⟩ ∧ RWB w g n F)

set_option maxHeartbeats 1000000 in
theorem markB_any (v : Value) (n : Nat) (F : Nat → Bool) (w : World) (k : Int) (h0 : SB w v n F) (hs : n ≤ 1048576) (hk0 : 0 ≤ k) (hk1 : k ≤ 4611686018427387904) :
    Calls Try.prog 58 #[v, .int .i64 k] w fun e w' => e = .returned (.int .i64 (k + n)) ∧ SB w' v n (fun i => m3 (k + i)) ∧ Only v.ownBlock w w' := by
  obtain ⟨a, c, rfl, hk⟩ := h0
  go_enter Try.func58, Try.ntmps58
  go_wp2
  go_loopw [1, 5] (fun m i wr => ∃ j : Nat, j ≤ n ∧ i = .int .i64 j ∧ m = .int .i64 (k + j) ∧ Hid (∃ G, SB wr (.slice a n c) n G ∧ ∀ i, i < j → G i = m3 (k + i)) ∧ Hid (Only (Value.slice a n c).ownBlock w wr)) (fun _ i _ => n - (intOf i).toNat)
  case atStart => exact ⟨0, Nat.zero_le _, rfl, by simp, ⟨F, ⟨a, c, rfl, hk⟩, fun i hi => absurd hi (Nat.not_lt_zero _)⟩, Only.refl _ _⟩
  obtain ⟨j, hjn, rfl, rfl, HM, HO⟩ := hrel
  clear hk
  by_cases hlt : j < n
  · obtain ⟨G, ⟨a', c', e0, hk⟩, hG⟩ := HM.out
    simp only [Value.slice.injEq, true_and] at e0
    obtain ⟨rfl, rfl⟩ := e0
    obtain ⟨g, rfl, hr⟩ := hk (by omega)
    have c0 := hr.cell hlt
    have f0 := hr.frozen j
    have HM' : Hid (∃ G, SB (wr.setCell ⟨g, j, none⟩ (.bool (m3 (k + j)))) (.slice (some ⟨g, 0, none⟩) n c) n G ∧ ∀ i, i < j + 1 → G i = m3 (k + i)) := by
      refine ⟨_, ⟨_, _, rfl, fun _ => ⟨g, rfl, hr.set j (m3 (k + j))⟩⟩, fun i hi => ?_⟩
      by_cases e : i = j
      · subst e; simp
      · simp only [if_neg e]
        exact hG i (by omega)
    have HO' : Hid (Only (Value.slice (some ⟨g, 0, none⟩) n c).ownBlock w (wr.setCell ⟨g, j, none⟩ (.bool (m3 (k + j))))) := HO.out.set rfl _
    have hlt' : (j : Int) < n := by omega
    clear hk hr hG HM HO
    generalize G j = gj at *
    go_wp2
    go_roundw
    case rel => exact ⟨j + 1, by omega, by go_num, by go_num, HM', HO'⟩
    case measure => simp [intOf]; omega
  · have e : j = n := by omega
    subst e
    go_wp2
    go_ret
    refine ⟨rfl, ?_, HO.out⟩
    obtain ⟨G, ⟨a', c', e0, hk⟩, hG⟩ := HM.out
    refine ⟨a', c', e0, fun h0 => ?_⟩
    obtain ⟨g, e1, hr⟩ := hk h0
    exact ⟨g, e1, hr.congr fun i hi => hG i hi⟩

set_option maxHeartbeats 1000000 in
theorem heldB_any (v : Value) (n : Nat) (w : World) (k : Int) (h0 : SB w v n (fun i => m3 (k + i))) (hs : n ≤ 1048576) (hk0 : 0 ≤ k) (hk1 : k ≤ 4611686018427387904) :
    Calls Try.prog 60 #[v, .int .i64 k] w fun e w' => e = .returned (.int .i64 (k + n)) ∧ w' = w := by
  obtain ⟨a, c, rfl, hk⟩ := h0
  go_enter Try.func60, Try.ntmps60
  go_wp2
  go_loopw [1, 5] (fun m i wr => ∃ j : Nat, j ≤ n ∧ i = .int .i64 j ∧ m = .int .i64 (k + j) ∧ wr = w) (fun _ i _ => n - (intOf i).toNat)
  case atStart => exact ⟨0, Nat.zero_le _, rfl, by simp, rfl⟩
  obtain ⟨j, hjn, rfl, rfl, rfl⟩ := hrel
  by_cases hlt : j < n
  · obtain ⟨g, rfl, hr⟩ := hk (by omega)
    have c0 := hr.cell hlt
    have hlt' : (j : Int) < n := by omega
    have hne : (((k + (j : Int)) % 3 == 0) != ((k + (j : Int)) % 3 == 0)) = false := by simp
    simp only [m3] at c0
    clear hk hr
    go_wp2
    go_roundw
    case rel => exact ⟨j + 1, by omega, by go_num, by go_num, trivial⟩
    case measure => simp [intOf]; omega
  · have e : j = n := by omega
    subst e
    go_wp2
    go_ret
    exact ⟨rfl, rfl⟩
theorem SB.keep {w w' : World} {v : Value} {n : Nat} {F : Nat → Bool} (h : SB w v n F) (k : ∀ g, v.ownBlock = some g → w'.heap[g]? = w.heap[g]?) : SB w' v n F := by
  obtain ⟨a, c, rfl, hk⟩ := h
  refine ⟨a, c, rfl, fun h0 => ?_⟩
  obtain ⟨g, rfl, hr⟩ := hk h0
  exact ⟨g, rfl, hr.of_block (k g rfl)⟩
theorem OwnB.sb {B : Nat} {w : World} {v : Value} {bs : List Bool} (h : OwnB B w v bs) : SB w v bs.length (bat bs) := by
  obtain ⟨h1, h2⟩ := h
  rcases h2 with ⟨rfl, h3⟩ | ⟨g, cap, cur, rfl, hg, hh, hc, hm, hs, ht⟩
  · rw [h3]; exact ⟨none, 0, rfl, fun h => absurd h (Nat.lt_irrefl _)⟩
  · refine ⟨_, _, rfl, fun _ => ⟨g, rfl, cur, hh, by omega, fun i hi => ?_⟩⟩
    have e : (cur.toList.take (bs.length * 1))[i]? = (bcells bs)[i]? := by rw [ht]
    rw [List.getElem?_take_of_lt (by omega), bcells_at hi, Array.getElem?_toList] at e
    exact e
end Go.Proofs.Ytifefpeefcjabaa
