import Derived.Test.YtdjmlpgdaanipaaChecked
import Derived.WalkKit
import Derived.WalkSpells
import Derived.WalkLawsBesides
import Derived.Deep.QuietTactic
import Derived.BigQuiet
import Derived.Deep.RegionWith
import Derived.BigRegion
import Derived.Deep.RegionHeld3
import Derived.Deep.OwnRows
import Derived.Deep.CutRange
import Derived.Lib.QuietBelow
namespace Go.Proofs.Ytdjmlpgdaanipaa
open Go.RowKit
set_option linter.unusedVariables false

theorem ret_bool {a b : Bool} (h : a = b) : Ending.returned (.bool a) = .returned (.bool b) := by rw [h]
theorem ret_int {k : IntKind} {a b : Int} (h : a = b) : Ending.returned (.int k a) = .returned (.int k b) := by rw [h]

def inB (v : Int) : Bool := decide (0 ≤ v ∧ v ≤ 1048576)

theorem inB_yes {v : Int} (h1 : 0 ≤ v) (h2 : v ≤ 1048576) : true = inB v := by simp [inB, h1, h2]
theorem inB_no1 {v : Int} (h1 : v < 0) : false = inB v := by unfold inB; rw [eq_comm, decide_eq_false_iff_not]; omega
theorem inB_no2 {v : Int} (h2 : 1048576 < v) : false = inB v := by unfold inB; rw [eq_comm, decide_eq_false_iff_not]; omega

set_option maxHeartbeats 400000 in
theorem l1In_any (v : Int) (w : World) :
    Calls Try.prog 24 #[.int .i64 v] w fun e w' => e = .returned (.bool (inB v)) ∧ w' = w := by
  by_cases h1 : 0 ≤ v
  · by_cases h2 : v ≤ 1048576
    · go_enter Try.func24, Try.ntmps24
      go_wp2
      go_ret
      exact ⟨ret_bool (inB_yes h1 h2), rfl⟩
    · go_enter Try.func24, Try.ntmps24
      go_wp2
      go_ret
      exact ⟨ret_bool (inB_no2 h2), rfl⟩
  · go_enter Try.func24, Try.ntmps24
    go_wp2
    go_ret
    exact ⟨ret_bool (inB_no1 h1), rfl⟩

/-- what is left of a budget behind a list of n, -1 where it does not fit -/
def szI (left : Int) (n : Nat) : Int := if left - n < 0 then -1 else left - n

set_option maxHeartbeats 400000 in
theorem szInts_any (a : Option Addr) (n c : Nat) (left : Int) (w : World) (hn : n ≤ maxLen) (h0 : 0 ≤ left) (h1 : left ≤ 1048576) :
    Calls Try.prog 23 #[.slice a n c, .int .i64 left] w fun e w' => e = .returned (.int .i64 (szI left n)) ∧ w' = w := by
  unfold maxLen at hn
  by_cases h : left - n < 0
  · go_enter Try.func23, Try.ntmps23
    go_wp2
    go_ret
    exact ⟨ret_int (by unfold szI; split <;> omega), rfl⟩
  · go_enter Try.func23, Try.ntmps23
    go_wp2
    go_ret
    exact ⟨ret_int (by unfold szI; split <;> omega), rfl⟩

/-- the i-th of a list; named, so that no simp looks inside -/
def iat (zs : List Int) (i : Nat) : Int := zs.getD i 0
theorem iat_eq {zs : List Int} {i : Nat} (h : i < zs.length) : iat zs i = zs[i] := by simp [iat, List.getD, h]

/-- a slice value over n elements, each of which is held by its cells -/
def HSlice (B : Nat) (w : World) (v : Value) (n : Nat) (P : Nat → Nat → Nat → Prop) : Prop :=
  ∃ a cap, v = .slice a n cap ∧ n ≤ maxLen ∧ (0 < n → ∃ b off, a = some ⟨b, off, none⟩ ∧ B ≤ b ∧ b < w.heap.size ∧ ∀ i, i < n → P b off i)

def CapOk (v : Value) : Prop := ∃ a n c, v = .slice a n c ∧ n ≤ c

def HInts (B : Nat) (w : World) (v : Value) (zs : List Int) : Prop :=
  HSlice B w v zs.length fun b off i => w.cell? ⟨b, off + i, none⟩ = some (.int .i64 (iat zs i))

/-- the next world keeps every block below -/
abbrev Nx (w w' : World) : Prop := Below w.heap.size w w'

theorem Nx.trans {a b c : World} (h : Nx a b) (k : Nx b c) : Nx a c := Below.trans h (Below.mono k h.size)
theorem Nx.drew {a b : World} (h : Nx a b) : Nx a b.drew := Below.drew h
theorem Nx.alloc {a b : World} (h : Nx a b) (o : Obj) : Nx a (b.alloc o) := Below.alloc h h.size o

theorem cell_lt {w : World} {b o : Nat} {v : Value} (h : w.cell? ⟨b, o, none⟩ = some v) : b < w.heap.size := by
  rcases Nat.lt_or_ge b w.heap.size with hlt | hge
  · exact hlt
  · have hn : w.heap[b]? = none := Array.getElem?_eq_none hge
    simp [World.cell?, hn] at h

theorem cell_next {B : Nat} {w w' : World} (hx : Below B w w') {b o : Nat} (hB : b < B) {v : Value} (h : w.cell? ⟨b, o, none⟩ = some v) : w'.cell? ⟨b, o, none⟩ = some v :=
  (hx.cell (p := ⟨b, o, none⟩) hB).trans h

/-- 'Keeps B w w'': every block from B on that was there is as it was. -/
def Keeps (B : Nat) (w w' : World) : Prop := w.heap.size ≤ w'.heap.size ∧ ∀ b, B ≤ b → b < w.heap.size → ∀ o, w'.cell? ⟨b, o, none⟩ = w.cell? ⟨b, o, none⟩

theorem Nx.keeps {w w' : World} (h : Nx w w') (B : Nat) : Keeps B w w' := ⟨h.size, fun b _ hb o => h.cell (p := ⟨b, o, none⟩) hb⟩

theorem HSlice.mono {B B' : Nat} {w w' : World} {v : Value} {n : Nat} {P Q : Nat → Nat → Nat → Prop} (h : HSlice B w v n P) (hB : B' ≤ B) (hw : w.heap.size ≤ w'.heap.size)
    (hPQ : ∀ b off, B ≤ b → b < w.heap.size → ∀ i, i < n → P b off i → Q b off i) : HSlice B' w' v n Q := by
  obtain ⟨a, cap, hv, hn, hk⟩ := h
  refine ⟨a, cap, hv, hn, fun h0 => ?_⟩
  obtain ⟨b, off, ha, hb, hs, hc⟩ := hk h0
  exact ⟨b, off, ha, by omega, by omega, fun i hi => hPQ b off hb hs i hi (hc i hi)⟩

theorem HInts.keep {B : Nat} {w w' : World} {v : Value} {zs : List Int} (h : HInts B w v zs) (k : Keeps B w w') : HInts B w' v zs :=
  HSlice.mono h (Nat.le_refl _) k.1 fun b off hb hs i hi hc => (k.2 b hb hs _).trans hc
theorem HInts.next {B : Nat} {w w' : World} {v : Value} {zs : List Int} (h : HInts B w v zs) (k : Nx w w') : HInts B w' v zs := h.keep (k.keeps B)
theorem bcell {W w1 : World} (hb : Below W.heap.size W w1) : (∀ b o, b < W.heap.size → w1.cell? ⟨b, o, none⟩ = W.cell? ⟨b, o, none⟩) ∧ (∀ b o, b < W.heap.size → w1.frozen? ⟨b, o, none⟩ = W.frozen? ⟨b, o, none⟩) :=
  ⟨fun b o h => hb.cell (p := ⟨b, o, none⟩) h, fun b o h => hb.frozen (p := ⟨b, o, none⟩) h⟩
theorem Nx.refl (w : World) : Nx w w := Below.refl _ _
theorem box1 (w : World) (o : Obj) : Nx w (w.alloc o) := (Nx.refl w).alloc o
theorem box2 (w : World) (o o' : Obj) : Nx w ((w.alloc o).alloc o') := (box1 w o).alloc o'

def allN (n : Nat) (p : Nat → Bool) : Bool := (List.range n).all p
def allTo (p : Nat → Bool) (k : Nat) : Prop := ∀ i, i < k → p i = true
theorem allTo_zero (p : Nat → Bool) : allTo p 0 := fun i hi => absurd hi (Nat.not_lt_zero _)
theorem allTo_succ {p : Nat → Bool} {k : Nat} (h : allTo p k) (hk : p k = true) : allTo p (k + 1) := by
  intro i hi
  rcases Nat.lt_succ_iff_lt_or_eq.1 hi with h1 | rfl
  · exact h i h1
  · exact hk
theorem allN_yes {n k : Nat} {p : Nat → Bool} (hk : n ≤ k) (h : allTo p k) : allN n p = true := by
  unfold allN; rw [List.all_eq_true]; intro i hi; exact h i (by have := List.mem_range.1 hi; omega)
theorem allN_no {n k : Nat} {p : Nat → Bool} (hk : k < n) (h : p k = false) : allN n p = false := by
  unfold allN; rw [List.all_eq_false]; exact ⟨k, List.mem_range.2 hk, by simp [h]⟩

theorem wrapJ (j : Nat) (h : j ≤ 9223372036854775807) : IntKind.i64.wrap (j : Int) = (j : Int) := by rw [IntKind.wrap_i64]; omega
theorem szI_bd (left : Int) (n : Nat) (h : 0 ≤ left) : -1 ≤ szI left n ∧ szI left n ≤ left ∧ (0 ≤ szI left n → szI left n + n = left) := by unfold szI; split <;> omega

set_option maxHeartbeats 400000 in
theorem eqInts_same (B B' : Nat) (v v' : Value) (zs : List Int) (w : World) (h0 : HInts B w v zs) (h1 : HInts B' w v' zs) :
    Calls Try.prog 15 #[v, v'] w fun e w' => e = .returned (.bool true) ∧ Nx w w' := by
  obtain ⟨a, cap, rfl, hn, hk⟩ := h0
  obtain ⟨a', cap', rfl, hn', hk'⟩ := h1
  unfold maxLen at hn hn'
  generalize zs.length = n at *
  have hd : ((n : Int) != (n : Int)) = false := by simp
  go_enter Try.func15, Try.ntmps15
  go_wp2
  go_loopw [5] (fun i wr => ∃ k : Nat, k ≤ n ∧ i = .int .i64 k ∧ Hid (Nx w wr)) (fun i _ => n - (intOf i).toNat)
  case atStart => exact ⟨0, Nat.zero_le _, rfl, Nx.refl _⟩
  case round =>
    obtain ⟨k, hkn, rfl, HN⟩ := hrel
    by_cases hlt : k < n
    · obtain ⟨b, off, rfl, hB, hb, hc⟩ := hk (by omega)
      obtain ⟨b', off', rfl, hB', hb', hc'⟩ := hk' (by omega)
      have c0 := cell_next HN.out hb (hc k hlt)
      have c1 := cell_next HN.out hb' (hc' k hlt)
      have hlt' : (k : Int) < n := by omega
      have he : (iat zs k != iat zs k) = false := by simp
      clear hc hk hc' hk'
      go_wp2
      go_region_with (fail)
      all_goals go_wp2
      all_goals
        go_roundw
        case rel => exact ⟨k + 1, by omega, by go_num, HN.out.drew⟩
        case measure => simp [intOf]; omega
    · go_wp2
      go_ret
      exact ⟨rfl, HN.out⟩

/-- block b holds cells, none of them frozen -/
def Opn (w : World) (b : Nat) : Prop := ∃ cs t, w.heap[b]? = some (.cells cs t (0, 0))
/-- what is new is open -/
structure Nu (w w' : World) : Prop where
  nx : Nx w w'
  op : ∀ b, w.heap.size ≤ b → b < w'.heap.size → Opn w' b
theorem Nu.size {w w' : World} (h : Nu w w') : w.heap.size ≤ w'.heap.size := h.nx.size
theorem Nu.keeps {w w' : World} (h : Nu w w') (B : Nat) : Keeps B w w' := h.nx.keeps B
theorem Opn.next {w w' : World} {b : Nat} (h : Opn w b) (k : Nx w w') : Opn w' b := by
  obtain ⟨cs, t, h⟩ := h
  exact ⟨cs, t, (k.block b (Array.getElem?_eq_some_iff.1 h).1).trans h⟩
theorem Opn.setCell {w : World} {b : Nat} (h : Opn w b) (p : Addr) (v : Value) : Opn (w.setCell p v) b := by
  obtain ⟨cs, t, h⟩ := h
  by_cases e : p.block = b
  · exact ⟨if p.spot.isSome then cs else cs.setIfInBounds p.off v, t, by simp [World.setCell, Array.getElem?_modify, h, e]⟩
  · exact ⟨cs, t, (Below.heap_setCell _ _ _ _ (fun h' => e h'.symm)).trans h⟩
theorem Nu.refl (w : World) : Nu w w := ⟨Nx.refl w, fun b h h' => absurd h' (by omega)⟩
theorem Nu.trans {a b c : World} (h : Nu a b) (k : Nu b c) : Nu a c := by
  refine ⟨h.nx.trans k.nx, fun x hx hx' => ?_⟩
  by_cases e : x < b.heap.size
  · exact (h.op x hx e).next k.nx
  · exact k.op x (by omega) hx'
theorem Nu.alloc {a b : World} (h : Nu a b) (cs : Array Value) (t : TypeId) : Nu a (b.alloc (.cells cs t)) := by
  refine ⟨h.nx.alloc _, fun x hx hx' => ?_⟩
  by_cases e : x < b.heap.size
  · exact (h.op x hx e).next (box1 _ _)
  · have e' : x = b.heap.size := by simp at hx'; omega
    subst e'
    exact ⟨cs, t, by show (b.heap.push _)[b.heap.size]? = _; simp⟩
theorem Nu.setCell {a b : World} (h : Nu a b) {p : Addr} (hp : a.heap.size ≤ p.block) (v : Value) : Nu a (b.setCell p v) :=
  ⟨Below.setCell h.nx hp v, fun x hx hx' => (h.op x hx (by simpa [World.setCell] using hx')).setCell p v⟩
theorem ubox1 (w : World) (cs : Array Value) (t : TypeId) : Nu w (w.alloc (.cells cs t)) := (Nu.refl w).alloc cs t
theorem ubox2 (w : World) (cs : Array Value) (t : TypeId) (cs' : Array Value) (t' : TypeId) : Nu w ((w.alloc (.cells cs t)).alloc (.cells cs' t')) := (ubox1 w cs t).alloc cs' t'

theorem info2 : (Try.prog.info? 2).map (fun i => (i.zero, i.size, i.bytes)) = some (some (.int .i64 0), 1, 8) := by kernel_rfl

/-- the first k cells of the new row hold the list's -/
def RowTo (w : World) (g n k : Nat) (zs : List Int) : Prop := ∃ f, w.rowIs g 2 n f ∧ ∀ i, i < k → f i = .int .i64 (iat zs i)
theorem RowTo.set {w : World} {g n k : Nat} {zs : List Int} (h : RowTo w g n k zs) : RowTo (w.setCell ⟨g, k, none⟩ (.int .i64 (iat zs k))) g n (k + 1) zs := by
  obtain ⟨f, h1, h2⟩ := h
  refine ⟨_, h1.set k _, fun i hi => ?_⟩
  by_cases e : i = k
  · subst e; simp
  · simp [e]; exact h2 i (by omega)
theorem RowTo.held {w : World} {g n : Nat} {zs : List Int} (hn : zs.length = n) (hm : n ≤ maxLen) (h : RowTo w g n n zs) : HInts g w (.slice (some ⟨g, 0, none⟩) n n) zs := by
  obtain ⟨f, h1, h2⟩ := h
  subst hn
  refine ⟨_, _, rfl, hm, fun h0 => ⟨g, 0, rfl, Nat.le_refl _, h1.lt, fun i hi => ?_⟩⟩
  show w.cell? ⟨g, 0 + i, none⟩ = _
  rw [Nat.zero_add, h1.cell hi, h2 i hi]

set_option maxHeartbeats 400000 in
theorem toInts_any (B : Nat) (v : Value) (zs : List Int) (w : World) (h0 : HInts B w v zs) (hs : zs.length ≤ 1048576) :
    Calls Try.prog 13 #[v] w fun e w' => (∃ a' n' c', e = .returned (.slice a' n' c') ∧ HInts w.heap.size w' (.slice a' n' c') zs ∧ CapOk (.slice a' n' c')) ∧ Nu w w' := by
  obtain ⟨a, cap, rfl, hn, hk⟩ := h0
  generalize hz : zs.length = n at *
  have HZ : Hid (zs.length = n) := hz
  have HM : Hid (n ≤ maxLen) := hn
  clear hz hn
  have hmk := run_make_row' (P := Try.prog) 22 2 (.int .i64 0) 8 Try.underlying22 info2 rfl .i64 .i64 n (by omega) (by omega)
  go_enter Try.func13, Try.ntmps13
  go_wp2
  go_loopw [4] (fun i wr => ∃ k : Nat, k ≤ n ∧ i = .int .i64 k ∧ Hid (RowTo wr w.heap.size n k zs) ∧ Hid (Nu w wr)) (fun i _ => n - (intOf i).toNat)
  case atStart => exact ⟨0, Nat.zero_le _, rfl, ⟨_, World.rowIs_made _ _ _ _, fun i hi => absurd hi (Nat.not_lt_zero _)⟩, ubox1 _ _ _⟩
  case round =>
    obtain ⟨k, hkn, rfl, HR, HN⟩ := hrel
    clear hmk
    by_cases hlt : k < n
    · obtain ⟨b, off, rfl, hB, hb, hc⟩ := hk (by omega)
      have c0 := cell_next HN.out.nx hb (hc k hlt)
      have hlt' : (k : Int) < n := by omega
      obtain ⟨f, hf, hf'⟩ := HR.out
      have r0 := hf.cell hlt
      have r1 := hf.frozen k
      clear hc hk hf hf'
      go_wp2
      go_roundw
      case rel => exact ⟨k + 1, by omega, by go_num, HR.out.set, Nu.setCell HN.out (Nat.le_refl _) _⟩
      case measure => simp [intOf]; omega
    · go_wp2
      go_ret
      have e : k = n := by omega
      subst e
      exact ⟨⟨_, _, _, rfl, HR.out.held HZ.out HM.out, _, _, _, rfl, Nat.le_refl _⟩, HN.out⟩
theorem HInts.base {B B' : Nat} {w : World} {v : Value} {zs : List Int} (h : HInts B w v zs) (hB : B' ≤ B) : HInts B' w v zs :=
  HSlice.mono h hB (Nat.le_refl _) fun b off hb hs i hi hc => hc
/-- a store into a block below the base -/
theorem HInts.store {B : Nat} {w : World} {v : Value} {zs : List Int} (h : HInts B w v zs) {g o : Nat} (hg : g < B) (u : Value) : HInts B (w.setCell ⟨g, o, none⟩ u) v zs :=
  h.keep ⟨by simp [World.setCell], fun b hb _ o' => World.cell?_of_block (w := w) (Below.heap_setCell _ _ _ _ (by simp; omega))⟩

/-- block b holds these cells, none of them frozen -/
def Blk (w : World) (b : Nat) (cs : Array Value) : Prop := ∃ t, w.heap[b]? = some (.cells cs t (0, 0))
theorem Blk.lt {w : World} {b : Nat} {cs : Array Value} (h : Blk w b cs) : b < w.heap.size := by
  obtain ⟨t, h⟩ := h
  exact (Array.getElem?_eq_some_iff.1 h).1
theorem Blk.cell {w : World} {b : Nat} {cs : Array Value} (h : Blk w b cs) {i : Nat} {v : Value} (hi : cs[i]? = some v) : w.cell? ⟨b, i, none⟩ = some v := by
  obtain ⟨t, h⟩ := h
  simp [World.cell?, h, hi]
theorem Blk.frozen {w : World} {b : Nat} {cs : Array Value} (h : Blk w b cs) (i : Nat) : w.frozen? ⟨b, i, none⟩ = false := by
  obtain ⟨t, h⟩ := h
  simp [World.frozen?, h]
theorem Blk.next {w w' : World} {b : Nat} {cs : Array Value} (h : Blk w b cs) (k : Nx w w') : Blk w' b cs := by
  have hl := h.lt
  obtain ⟨t, h⟩ := h
  exact ⟨t, (k.block b hl).trans h⟩
theorem Blk.drew {w : World} {b : Nat} {cs : Array Value} (h : Blk w b cs) : Blk w.drew b cs := h
theorem Blk.new (w : World) (cs : Array Value) (t : TypeId) (n : Nat) (hn : n = w.heap.size) : Blk (w.alloc (.cells cs t)) n cs := by
  subst hn
  exact ⟨t, by show (w.heap.push _)[w.heap.size]? = _; simp⟩
theorem Blk.alloc {w : World} {b : Nat} {cs : Array Value} (h : Blk w b cs) (o : Obj) : Blk (w.alloc o) b cs := h.next (by exact Below.alloc (Below.refl _ _) (Nat.le_refl _) _)
theorem Blk.set {w : World} {b : Nat} {cs : Array Value} (h : Blk w b cs) (i : Nat) (v : Value) : Blk (w.setCell ⟨b, i, none⟩ v) b (cs.setIfInBounds i v) := by
  obtain ⟨t, h⟩ := h
  exact ⟨t, by simp [World.setCell, Array.getElem?_modify, h]⟩
theorem Blk.setOther {w : World} {b : Nat} {cs : Array Value} (h : Blk w b cs) {g : Nat} (hg : b ≠ g) (i : Nat) (v : Value) : Blk (w.setCell ⟨g, i, none⟩ v) b cs := by
  obtain ⟨t, h⟩ := h
  exact ⟨t, (Below.heap_setCell _ _ _ _ hg).trans h⟩

theorem set_keeps {B : Nat} (w : World) {g : Nat} (o : Nat) (hg : g < B) (u : Value) : Keeps B w (w.setCell ⟨g, o, none⟩ u) :=
  ⟨by simp [World.setCell], fun b hb _ o' => World.cell?_of_block (w := w) (Below.heap_setCell _ _ _ _ (by simp; omega))⟩
theorem Keeps.trans {B : Nat} {a b c : World} (h : Keeps B a b) (k : Keeps B b c) : Keeps B a c :=
  ⟨Nat.le_trans h.1 k.1, fun x hx hl o => (k.2 x hx (Nat.lt_of_lt_of_le hl h.1) o).trans (h.2 x hx hl o)⟩
end Go.Proofs.Ytdjmlpgdaanipaa
