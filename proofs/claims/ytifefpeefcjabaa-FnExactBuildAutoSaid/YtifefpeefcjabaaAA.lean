import Derived.Test.YtifefpeefcjabaaChecked
import Derived.WalkKit
import Derived.WalkSpells
import Derived.WalkLawsBesides
import Derived.Deep.QuietTactic
import Derived.BigQuiet
import Derived.Deep.RegionWith
import Derived.BigRegion
import Derived.Deep.RegionHeld3
import Derived.Deep.OwnRows
import Derived.Deep.CutRange
import Derived.Lib.QuietBelow
import Derived.Maps.AppendAt
import Derived.Lib.SliceRun
import Derived.OwnWalk
import Derived.Deep.RegionLaw
namespace Go.Proofs.Ytifefpeefcjabaa
open Go.RowKit
set_option linter.unusedVariables false

theorem ret_bool {a b : Bool} (h : a = b) : Ending.returned (.bool a) = .returned (.bool b) := by rw [h]
theorem ret_int {k : IntKind} {a b : Int} (h : a = b) : Ending.returned (.int k a) = .returned (.int k b) := by rw [h]

/-- what is left of a budget behind a list of n, -1 where it does not fit -/
def szI (left : Int) (n : Nat) : Int := if left - n < 0 then -1 else left - n

set_option maxHeartbeats 400000 in
theorem szInts_any (a : Option Addr) (n c : Nat) (left : Int) (w : World) (hn : n ≤ maxLen) (h0 : 0 ≤ left) (h1 : left ≤ 1048576) :
    Calls Try.prog 41 #[.slice a n c, .int .i64 left] w fun e w' => e = .returned (.int .i64 (szI left n)) ∧ w' = w := by
  unfold maxLen at hn
  by_cases h : left - n < 0
  · go_enter Try.func41, Try.ntmps41
    go_wp2
    go_ret
    exact ⟨ret_int (by unfold szI; split <;> omega), rfl⟩
  · go_enter Try.func41, Try.ntmps41
    go_wp2
    go_ret
    exact ⟨ret_int (by unfold szI; split <;> omega), rfl⟩

/-- the i-th of a list; named, so that no simp looks inside -/
def iat (zs : List Int) (i : Nat) : Int := zs.getD i 0
theorem iat_eq {zs : List Int} {i : Nat} (h : i < zs.length) : iat zs i = zs[i] := by simp [iat, List.getD, h]

/-- a slice value over n elements, each of which is held by its cells -/
def HSlice (B : Nat) (w : World) (v : Value) (n : Nat) (P : Nat → Nat → Nat → Prop) : Prop :=
  ∃ a cap, v = .slice a n cap ∧ n ≤ maxLen ∧ (0 < n → ∃ b off, a = some ⟨b, off, none⟩ ∧ B ≤ b ∧ b < w.heap.size ∧ ∀ i, i < n → P b off i)

def HInts (B : Nat) (w : World) (v : Value) (zs : List Int) : Prop :=
  HSlice B w v zs.length fun b off i => w.cell? ⟨b, off + i, none⟩ = some (.int .i64 (iat zs i))

/-- the next world keeps every block below -/
abbrev Nx (w w' : World) : Prop := Below w.heap.size w w'

theorem Nx.trans {a b c : World} (h : Nx a b) (k : Nx b c) : Nx a c := Below.trans h (Below.mono k h.size)
theorem Nx.drew {a b : World} (h : Nx a b) : Nx a b.drew := Below.drew h
theorem Nx.alloc {a b : World} (h : Nx a b) (o : Obj) : Nx a (b.alloc o) := Below.alloc h h.size o

theorem cell_lt {w : World} {b o : Nat} {v : Value} (h : w.cell? ⟨b, o, none⟩ = some v) : b < w.heap.size := by
  rcases Nat.lt_or_ge b w.heap.size with hlt | hge
  · exact hlt
  · have hn : w.heap[b]? = none := Array.getElem?_eq_none hge
    simp [World.cell?, hn] at h

theorem cell_next {B : Nat} {w w' : World} (hx : Below B w w') {b o : Nat} (hB : b < B) {v : Value} (h : w.cell? ⟨b, o, none⟩ = some v) : w'.cell? ⟨b, o, none⟩ = some v :=
  (hx.cell (p := ⟨b, o, none⟩) hB).trans h

/-- 'Keeps B w w'': every block from B on that was there is as it was. -/
def Keeps (B : Nat) (w w' : World) : Prop := w.heap.size ≤ w'.heap.size ∧ ∀ b, B ≤ b → b < w.heap.size → ∀ o, w'.cell? ⟨b, o, none⟩ = w.cell? ⟨b, o, none⟩

theorem Nx.keeps {w w' : World} (h : Nx w w') (B : Nat) : Keeps B w w' := ⟨h.size, fun b _ hb o => h.cell (p := ⟨b, o, none⟩) hb⟩

theorem HSlice.mono {B B' : Nat} {w w' : World} {v : Value} {n : Nat} {P Q : Nat → Nat → Nat → Prop} (h : HSlice B w v n P) (hB : B' ≤ B) (hw : w.heap.size ≤ w'.heap.size)
    (hPQ : ∀ b off, B ≤ b → b < w.heap.size → ∀ i, i < n → P b off i → Q b off i) : HSlice B' w' v n Q := by
  obtain ⟨a, cap, hv, hn, hk⟩ := h
  refine ⟨a, cap, hv, hn, fun h0 => ?_⟩
  obtain ⟨b, off, ha, hb, hs, hc⟩ := hk h0
  exact ⟨b, off, ha, by omega, by omega, fun i hi => hPQ b off hb hs i hi (hc i hi)⟩

theorem HInts.keep {B : Nat} {w w' : World} {v : Value} {zs : List Int} (h : HInts B w v zs) (k : Keeps B w w') : HInts B w' v zs :=
  HSlice.mono h (Nat.le_refl _) k.1 fun b off hb hs i hi hc => (k.2 b hb hs _).trans hc
theorem HInts.next {B : Nat} {w w' : World} {v : Value} {zs : List Int} (h : HInts B w v zs) (k : Nx w w') : HInts B w' v zs := h.keep (k.keeps B)
theorem bcell {W w1 : World} (hb : Below W.heap.size W w1) : (∀ b o, b < W.heap.size → w1.cell? ⟨b, o, none⟩ = W.cell? ⟨b, o, none⟩) ∧ (∀ b o, b < W.heap.size → w1.frozen? ⟨b, o, none⟩ = W.frozen? ⟨b, o, none⟩) :=
  ⟨fun b o h => hb.cell (p := ⟨b, o, none⟩) h, fun b o h => hb.frozen (p := ⟨b, o, none⟩) h⟩
theorem Nx.refl (w : World) : Nx w w := Below.refl _ _
theorem box1 (w : World) (o : Obj) : Nx w (w.alloc o) := (Nx.refl w).alloc o
theorem box2 (w : World) (o o' : Obj) : Nx w ((w.alloc o).alloc o') := (box1 w o).alloc o'

def allN (n : Nat) (p : Nat → Bool) : Bool := (List.range n).all p
def allTo (p : Nat → Bool) (k : Nat) : Prop := ∀ i, i < k → p i = true
theorem allTo_zero (p : Nat → Bool) : allTo p 0 := fun i hi => absurd hi (Nat.not_lt_zero _)
theorem allTo_succ {p : Nat → Bool} {k : Nat} (h : allTo p k) (hk : p k = true) : allTo p (k + 1) := by
  intro i hi
  rcases Nat.lt_succ_iff_lt_or_eq.1 hi with h1 | rfl
  · exact h i h1
  · exact hk
theorem allN_yes {n k : Nat} {p : Nat → Bool} (hk : n ≤ k) (h : allTo p k) : allN n p = true := by
  unfold allN; rw [List.all_eq_true]; intro i hi; exact h i (by have := List.mem_range.1 hi; omega)
theorem allN_no {n k : Nat} {p : Nat → Bool} (hk : k < n) (h : p k = false) : allN n p = false := by
  unfold allN; rw [List.all_eq_false]; exact ⟨k, List.mem_range.2 hk, by simp [h]⟩

theorem wrapJ (j : Nat) (h : j ≤ 9223372036854775807) : IntKind.i64.wrap (j : Int) = (j : Int) := by rw [IntKind.wrap_i64]; omega
theorem szI_bd (left : Int) (n : Nat) (h : 0 ≤ left) : -1 ≤ szI left n ∧ szI left n ≤ left ∧ (0 ≤ szI left n → szI left n + n = left) := by unfold szI; split <;> omega

set_option maxHeartbeats 400000 in
theorem eqInts_same (B B' : Nat) (v v' : Value) (zs : List Int) (w : World) (h0 : HInts B w v zs) (h1 : HInts B' w v' zs) :
    Calls Try.prog 26 #[v, v'] w fun e w' => e = .returned (.bool true) ∧ Nx w w' := by
  obtain ⟨a, cap, rfl, hn, hk⟩ := h0
  obtain ⟨a', cap', rfl, hn', hk'⟩ := h1
  unfold maxLen at hn hn'
  generalize zs.length = n at *
  have hd : ((n : Int) != (n : Int)) = false := by simp
  go_enter Try.func26, Try.ntmps26
  go_wp2
  go_loopw [5] (fun i wr => ∃ k : Nat, k ≤ n ∧ i = .int .i64 k ∧ Hid (Nx w wr)) (fun i _ => n - (intOf i).toNat)
  case atStart => exact ⟨0, Nat.zero_le _, rfl, Nx.refl _⟩
  case round =>
    obtain ⟨k, hkn, rfl, HN⟩ := hrel
    by_cases hlt : k < n
    · obtain ⟨b, off, rfl, hB, hb, hc⟩ := hk (by omega)
      obtain ⟨b', off', rfl, hB', hb', hc'⟩ := hk' (by omega)
      have c0 := cell_next HN.out hb (hc k hlt)
      have c1 := cell_next HN.out hb' (hc' k hlt)
      have hlt' : (k : Int) < n := by omega
      have he : (iat zs k != iat zs k) = false := by simp
      clear hc hk hc' hk'
      go_wp2
      go_region_with (fail)
      all_goals go_wp2
      all_goals
        go_roundw
        case rel => exact ⟨k + 1, by omega, by go_num, HN.out.drew⟩
        case measure => simp [intOf]; omega
    · go_wp2
      go_ret
      exact ⟨rfl, HN.out⟩

/-- block b holds cells, none of them frozen -/
def Opn (w : World) (b : Nat) : Prop := ∃ cs t, w.heap[b]? = some (.cells cs t (0, 0))
/-- what is new is open -/
structure Nu (w w' : World) : Prop where
  nx : Nx w w'
  op : ∀ b, w.heap.size ≤ b → b < w'.heap.size → Opn w' b
theorem Nu.size {w w' : World} (h : Nu w w') : w.heap.size ≤ w'.heap.size := h.nx.size
theorem Nu.keeps {w w' : World} (h : Nu w w') (B : Nat) : Keeps B w w' := h.nx.keeps B
theorem Opn.next {w w' : World} {b : Nat} (h : Opn w b) (k : Nx w w') : Opn w' b := by
  obtain ⟨cs, t, h⟩ := h
  exact ⟨cs, t, (k.block b (Array.getElem?_eq_some_iff.1 h).1).trans h⟩
theorem Opn.setCell {w : World} {b : Nat} (h : Opn w b) (p : Addr) (v : Value) : Opn (w.setCell p v) b := by
  obtain ⟨cs, t, h⟩ := h
  by_cases e : p.block = b
  · exact ⟨if p.spot.isSome then cs else cs.setIfInBounds p.off v, t, by simp [World.setCell, Array.getElem?_modify, h, e]⟩
  · exact ⟨cs, t, (Below.heap_setCell _ _ _ _ (fun h' => e h'.symm)).trans h⟩
theorem Nu.refl (w : World) : Nu w w := ⟨Nx.refl w, fun b h h' => absurd h' (by omega)⟩
theorem Nu.trans {a b c : World} (h : Nu a b) (k : Nu b c) : Nu a c := by
  refine ⟨h.nx.trans k.nx, fun x hx hx' => ?_⟩
  by_cases e : x < b.heap.size
  · exact (h.op x hx e).next k.nx
  · exact k.op x (by omega) hx'
theorem Nu.alloc {a b : World} (h : Nu a b) (cs : Array Value) (t : TypeId) : Nu a (b.alloc (.cells cs t)) := by
  refine ⟨h.nx.alloc _, fun x hx hx' => ?_⟩
  by_cases e : x < b.heap.size
  · exact (h.op x hx e).next (box1 _ _)
  · have e' : x = b.heap.size := by simp at hx'; omega
    subst e'
    exact ⟨cs, t, by show (b.heap.push _)[b.heap.size]? = _; simp⟩
theorem Nu.setCell {a b : World} (h : Nu a b) {p : Addr} (hp : a.heap.size ≤ p.block) (v : Value) : Nu a (b.setCell p v) :=
  ⟨Below.setCell h.nx hp v, fun x hx hx' => (h.op x hx (by simpa [World.setCell] using hx')).setCell p v⟩
theorem ubox1 (w : World) (cs : Array Value) (t : TypeId) : Nu w (w.alloc (.cells cs t)) := (Nu.refl w).alloc cs t
theorem ubox2 (w : World) (cs : Array Value) (t : TypeId) (cs' : Array Value) (t' : TypeId) : Nu w ((w.alloc (.cells cs t)).alloc (.cells cs' t')) := (ubox1 w cs t).alloc cs' t'

theorem info2 : (Try.prog.info? 2).map (fun i => (i.zero, i.size, i.bytes)) = some (some (.int .i64 0), 1, 8) := by kernel_rfl

/-- the first k cells of the new row hold the list's -/
def RowTo (w : World) (g n k : Nat) (zs : List Int) : Prop := ∃ f, w.rowIs g 2 n f ∧ ∀ i, i < k → f i = .int .i64 (iat zs i)
theorem RowTo.set {w : World} {g n k : Nat} {zs : List Int} (h : RowTo w g n k zs) : RowTo (w.setCell ⟨g, k, none⟩ (.int .i64 (iat zs k))) g n (k + 1) zs := by
  obtain ⟨f, h1, h2⟩ := h
  refine ⟨_, h1.set k _, fun i hi => ?_⟩
  by_cases e : i = k
  · subst e; simp
  · simp [e]; exact h2 i (by omega)
theorem RowTo.held {w : World} {g n : Nat} {zs : List Int} (hn : zs.length = n) (hm : n ≤ maxLen) (h : RowTo w g n n zs) : HInts g w (.slice (some ⟨g, 0, none⟩) n n) zs := by
  obtain ⟨f, h1, h2⟩ := h
  subst hn
  refine ⟨_, _, rfl, hm, fun h0 => ⟨g, 0, rfl, Nat.le_refl _, h1.lt, fun i hi => ?_⟩⟩
  show w.cell? ⟨g, 0 + i, none⟩ = _
  rw [Nat.zero_add, h1.cell hi, h2 i hi]

set_option maxHeartbeats 400000 in
theorem toInts_any (B : Nat) (v : Value) (zs : List Int) (w : World) (h0 : HInts B w v zs) (hs : zs.length ≤ 1048576) :
    Calls Try.prog 24 #[v] w fun e w' => (∃ a' n' c', e = .returned (.slice a' n' c') ∧ HInts w.heap.size w' (.slice a' n' c') zs) ∧ Nu w w' := by
  obtain ⟨a, cap, rfl, hn, hk⟩ := h0
  generalize hz : zs.length = n at *
  have HZ : Hid (zs.length = n) := hz
  have HM : Hid (n ≤ maxLen) := hn
  clear hz hn
  have hmk := run_make_row' (P := Try.prog) 24 2 (.int .i64 0) 8 Try.underlying24 info2 rfl .i64 .i64 n (by omega) (by omega)
  go_enter Try.func24, Try.ntmps24
  go_wp2
  go_loopw [4] (fun i wr => ∃ k : Nat, k ≤ n ∧ i = .int .i64 k ∧ Hid (RowTo wr w.heap.size n k zs) ∧ Hid (Nu w wr)) (fun i _ => n - (intOf i).toNat)
  case atStart => exact ⟨0, Nat.zero_le _, rfl, ⟨_, World.rowIs_made _ _ _ _, fun i hi => absurd hi (Nat.not_lt_zero _)⟩, ubox1 _ _ _⟩
  case round =>
    obtain ⟨k, hkn, rfl, HR, HN⟩ := hrel
    clear hmk
    by_cases hlt : k < n
    · obtain ⟨b, off, rfl, hB, hb, hc⟩ := hk (by omega)
      have c0 := cell_next HN.out.nx hb (hc k hlt)
      have hlt' : (k : Int) < n := by omega
      obtain ⟨f, hf, hf'⟩ := HR.out
      have r0 := hf.cell hlt
      have r1 := hf.frozen k
      clear hc hk hf hf'
      go_wp2
      go_roundw
      case rel => exact ⟨k + 1, by omega, by go_num, HR.out.set, Nu.setCell HN.out (Nat.le_refl _) _⟩
      case measure => simp [intOf]; omega
    · go_wp2
      go_ret
      have e : k = n := by omega
      subst e
      exact ⟨⟨_, _, _, rfl, HR.out.held HZ.out HM.out⟩, HN.out⟩
theorem HInts.base {B B' : Nat} {w : World} {v : Value} {zs : List Int} (h : HInts B w v zs) (hB : B' ≤ B) : HInts B' w v zs :=
  HSlice.mono h hB (Nat.le_refl _) fun b off hb hs i hi hc => hc
/-- a store into a block below the base -/
theorem HInts.store {B : Nat} {w : World} {v : Value} {zs : List Int} (h : HInts B w v zs) {g o : Nat} (hg : g < B) (u : Value) : HInts B (w.setCell ⟨g, o, none⟩ u) v zs :=
  h.keep ⟨by simp [World.setCell], fun b hb _ o' => World.cell?_of_block (w := w) (Below.heap_setCell _ _ _ _ (by simp; omega))⟩

/-- block b holds these cells, none of them frozen -/
def Blk (w : World) (b : Nat) (cs : Array Value) : Prop := ∃ t, w.heap[b]? = some (.cells cs t (0, 0))
theorem Blk.lt {w : World} {b : Nat} {cs : Array Value} (h : Blk w b cs) : b < w.heap.size := by
  obtain ⟨t, h⟩ := h
  exact (Array.getElem?_eq_some_iff.1 h).1
theorem Blk.cell {w : World} {b : Nat} {cs : Array Value} (h : Blk w b cs) {i : Nat} {v : Value} (hi : cs[i]? = some v) : w.cell? ⟨b, i, none⟩ = some v := by
  obtain ⟨t, h⟩ := h
  simp [World.cell?, h, hi]
theorem Blk.frozen {w : World} {b : Nat} {cs : Array Value} (h : Blk w b cs) (i : Nat) : w.frozen? ⟨b, i, none⟩ = false := by
  obtain ⟨t, h⟩ := h
  simp [World.frozen?, h]
theorem Blk.next {w w' : World} {b : Nat} {cs : Array Value} (h : Blk w b cs) (k : Nx w w') : Blk w' b cs := by
  have hl := h.lt
  obtain ⟨t, h⟩ := h
  exact ⟨t, (k.block b hl).trans h⟩
theorem Blk.drew {w : World} {b : Nat} {cs : Array Value} (h : Blk w b cs) : Blk w.drew b cs := h
theorem Blk.new (w : World) (cs : Array Value) (t : TypeId) (n : Nat) (hn : n = w.heap.size) : Blk (w.alloc (.cells cs t)) n cs := by
  subst hn
  exact ⟨t, by show (w.heap.push _)[w.heap.size]? = _; simp⟩
theorem Blk.alloc {w : World} {b : Nat} {cs : Array Value} (h : Blk w b cs) (o : Obj) : Blk (w.alloc o) b cs := h.next (by exact Below.alloc (Below.refl _ _) (Nat.le_refl _) _)
theorem Blk.set {w : World} {b : Nat} {cs : Array Value} (h : Blk w b cs) (i : Nat) (v : Value) : Blk (w.setCell ⟨b, i, none⟩ v) b (cs.setIfInBounds i v) := by
  obtain ⟨t, h⟩ := h
  exact ⟨t, by simp [World.setCell, Array.getElem?_modify, h]⟩
theorem Blk.setOther {w : World} {b : Nat} {cs : Array Value} (h : Blk w b cs) {g : Nat} (hg : b ≠ g) (i : Nat) (v : Value) : Blk (w.setCell ⟨g, i, none⟩ v) b cs := by
  obtain ⟨t, h⟩ := h
  exact ⟨t, (Below.heap_setCell _ _ _ _ hg).trans h⟩

theorem set_keeps {B : Nat} (w : World) {g : Nat} (o : Nat) (hg : g < B) (u : Value) : Keeps B w (w.setCell ⟨g, o, none⟩ u) :=
  ⟨by simp [World.setCell], fun b hb _ o' => World.cell?_of_block (w := w) (Below.heap_setCell _ _ _ _ (by simp; omega))⟩
theorem Keeps.trans {B : Nat} {a b c : World} (h : Keeps B a b) (k : Keeps B b c) : Keeps B a c :=
  ⟨Nat.le_trans h.1 k.1, fun x hx hl o => (k.2 x hx (Nat.lt_of_lt_of_le hl h.1) o).trans (h.2 x hx hl o)⟩
set_option maxRecDepth 100000
theorem infoInt : (Try.prog.info? 2).map (fun i => (i.zero, i.size, i.bytes)) = some (some (.int .i64 0), 1, 8) := by kernel_rfl

/-- block g is a row of numbers, at least n, the first n told -/
def RW (w : World) (g n : Nat) (F : Nat → Int) : Prop := ∃ c : Array Value, w.heap[g]? = some (.cells c 2 (0, 0)) ∧ n ≤ c.size ∧ ∀ i, i < n → c[i]? = some (.int .i64 (F i))
theorem RW.of_rowIs {w : World} {g n : Nat} {F : Nat → Int} (h : w.rowIs g 2 n (fun i => .int .i64 (F i))) : RW w g n F := by
  obtain ⟨c, h1, h2, h3⟩ := h
  exact ⟨c, h1, by omega, h3⟩
theorem RW.lt {w : World} {g n : Nat} {F : Nat → Int} (h : RW w g n F) : g < w.heap.size := by
  obtain ⟨c, h1, _⟩ := h
  exact (Array.getElem?_eq_some_iff.1 h1).1
theorem RW.cell {w : World} {g n : Nat} {F : Nat → Int} (h : RW w g n F) {i : Nat} (hi : i < n) : w.cell? ⟨g, i, none⟩ = some (.int .i64 (F i)) := by
  obtain ⟨c, hb, _, hc⟩ := h
  simp [World.cell?, hb, hc i hi]
theorem RW.frozen {w : World} {g n : Nat} {F : Nat → Int} (h : RW w g n F) (i : Nat) : w.frozen? ⟨g, i, none⟩ = false := by
  obtain ⟨c, hb, _, _⟩ := h
  simp [World.frozen?, hb]
theorem RW.congr {w : World} {g n : Nat} {F G : Nat → Int} (h : RW w g n F) (e : ∀ i, i < n → F i = G i) : RW w g n G := by
  obtain ⟨c, hb, hn, hc⟩ := h
  exact ⟨c, hb, hn, fun i hi => by rw [hc i hi, e i hi]⟩
theorem RW.of_block {w w' : World} {g n : Nat} {F : Nat → Int} (h : RW w g n F) (e : w'.heap[g]? = w.heap[g]?) : RW w' g n F := by
  obtain ⟨c, hb, hn, hc⟩ := h
  exact ⟨c, e.trans hb, hn, hc⟩
theorem RW.next {w w' : World} {g n : Nat} {F : Nat → Int} (h : RW w g n F) (k : Nx w w') : RW w' g n F := h.of_block (k.block g h.lt)
theorem RW.alloc {w : World} {g n : Nat} {F : Nat → Int} (h : RW w g n F) (o : Obj) : RW (w.alloc o) g n F := h.next (box1 _ _)
theorem RW.set {w : World} {g n : Nat} {F : Nat → Int} (h : RW w g n F) (i : Nat) (z : Int) : RW (w.setCell ⟨g, i, none⟩ (.int .i64 z)) g n (fun j => if j = i then z else F j) := by
  obtain ⟨c, hb, hn, hc⟩ := h
  refine ⟨c.setIfInBounds i (.int .i64 z), ?_, by simpa using hn, fun j hj => ?_⟩
  · simp [World.setCell, Array.getElem?_modify, hb]
  · rw [Array.getElem?_setIfInBounds]
    by_cases e : j = i
    · subst e
      simp [show j < c.size by omega]
    · rw [if_neg (fun h => e h.symm)]
      show c[j]? = some (.int .i64 (if j = i then z else F j))
      rw [if_neg e]
      exact hc j hj
theorem RW.setOther {w : World} {g n : Nat} {F : Nat → Int} (h : RW w g n F) {a : Addr} (ha : g ≠ a.block) (v : Value) : RW (w.setCell a v) g n F := h.of_block (Below.heap_setCell _ _ _ _ ha)
theorem RW.held {w : World} {g n c : Nat} {F : Nat → Int} {zs : List Int} (h : RW w g n F) (hz : zs.length = n) (hm : n ≤ maxLen) (he : ∀ i, i < n → F i = iat zs i) {B : Nat} (hB : B ≤ g) : HInts B w (.slice (some ⟨g, 0, none⟩) n c) zs := by
  subst hz
  refine ⟨_, _, rfl, hm, fun h0 => ⟨g, 0, rfl, hB, h.lt, fun i hi => ?_⟩⟩
  show w.cell? ⟨g, 0 + i, none⟩ = _
  rw [Nat.zero_add, h.cell hi, he i hi]

/-- a row of numbers of our own -/
def icells (zs : List Int) : List Value := zs.map fun z => .int .i64 z
def OwnI (C : Nat) (w : World) (v : Value) (zs : List Int) : Prop := w.ownsRow C 2 1 v zs.length (icells zs)
theorem OwnI.next {B : Nat} {w w' : World} {v : Value} {zs : List Int} (h : OwnI B w v zs) (k : Nx w w') : OwnI B w' v zs := by
  obtain ⟨h1, h2⟩ := h
  refine ⟨h1, ?_⟩
  rcases h2 with h2 | ⟨g, cap, cur, hv, hg, hh, r⟩
  · exact Or.inl h2
  · exact Or.inr ⟨g, cap, cur, hv, hg, (k.block g (Array.getElem?_eq_some_iff.1 hh).1).trans hh, r⟩
theorem icells_at {zs : List Int} {i : Nat} (hi : i < zs.length) : (icells zs)[i]? = some (.int .i64 (iat zs i)) := by rw [iat_eq hi]; simp [icells, hi]
/-- an own row, opened: nil, or a row -/
theorem OwnI.opened {B : Nat} {w : World} {v : Value} {zs : List Int} (h : OwnI B w v zs) : (v = .slice none 0 0 ∧ zs.length = 0) ∨ ∃ g cap, v = .slice (some ⟨g, 0, none⟩) zs.length cap ∧ B ≤ g ∧ zs.length ≤ maxLen ∧ RW w g zs.length (iat zs) := by
  obtain ⟨h1, h2⟩ := h
  rcases h2 with ⟨h2, h3⟩ | ⟨g, cap, cur, hv, hg, hh, hc, hm, hs, ht⟩
  · exact Or.inl ⟨h2, h3⟩
  · refine Or.inr ⟨g, cap, hv, hg, by omega, cur, hh, by omega, fun i hi => ?_⟩
    have e : (cur.toList.take (zs.length * 1))[i]? = (icells zs)[i]? := by rw [ht]
    rw [List.getElem?_take_of_lt (by omega), icells_at hi] at e
    rw [← Array.getElem?_toList, e]
theorem OwnI.held {B : Nat} {w : World} {v : Value} {zs : List Int} (h : OwnI B w v zs) : HInts B w v zs := by
  rcases h.opened with ⟨rfl, h2⟩ | ⟨g, cap, rfl, hg, hm, hr⟩
  · unfold HInts
    rw [h2]
    exact ⟨_, _, rfl, by simp [maxLen], fun h => by omega⟩
  · exact hr.held rfl hm (fun i _ => rfl) hg
theorem ownI_none (B : Nat) (w : World) (h : B ≤ w.heap.size) : OwnI B (w.alloc (.cells #[] 2)) (.slice (some ⟨w.heap.size, 0, none⟩) 0 0) [] :=
  ⟨rfl, .inr ⟨w.heap.size, 0, #[], rfl, h, by show (w.heap.push _)[w.heap.size]? = _; simp, Nat.le_refl _, by simp [maxLen], by simp, by simp [icells]⟩⟩

theorem own_lt {B : Nat} {w : World} {ty sz : Nat} {v : Value} {n : Nat} {xs : List Value} (h : w.ownsRow B ty sz v n xs) : ∀ g, v.ownBlock = some g → B ≤ g ∧ g < w.heap.size := by
  intro g hg
  rcases h.2 with ⟨rfl, _⟩ | ⟨g', cap, cur, rfl, hb, hh, _⟩
  · simp [Value.ownBlock] at hg
  · simp [Value.ownBlock] at hg; subst hg; exact ⟨hb, (Array.getElem?_eq_some_iff.1 hh).1⟩
theorem OwnI.slice {B : Nat} {w : World} {v : Value} {zs : List Int} (h : OwnI B w v zs) : ∃ a c, v = .slice a zs.length c := by
  rcases h.2 with ⟨rfl, h2⟩ | ⟨g, cap, cur, rfl, _⟩
  · exact ⟨none, 0, by rw [h2]⟩
  · exact ⟨_, _, rfl⟩
theorem OwnI.base {B B' : Nat} {w : World} {v : Value} {zs : List Int} (h : OwnI B w v zs) (hB : B' ≤ B) : OwnI B' w v zs := by
  obtain ⟨h1, h2⟩ := h
  refine ⟨h1, ?_⟩
  rcases h2 with h2 | ⟨g, cap, cur, hv, hg, r⟩
  · exact Or.inl h2
  · exact Or.inr ⟨g, cap, cur, hv, by omega, r⟩
theorem own_store {B : Nat} {w : World} {ty sz : Nat} {v : Value} {n : Nat} {xs : List Value} (h : w.ownsRow B ty sz v n xs) {g : Nat} (hg : g < B) (o : Nat) (u : Value) : (w.setCell ⟨g, o, none⟩ u).ownsRow B ty sz v n xs := by
  obtain ⟨h1, h2⟩ := h
  refine ⟨h1, ?_⟩
  rcases h2 with h2 | ⟨g', cap, cur, hv, hg', hh, r⟩
  · exact Or.inl h2
  · exact Or.inr ⟨g', cap, cur, hv, hg', (Below.heap_setCell _ _ _ _ (by simp; omega)).trans hh, r⟩
theorem OwnI.snoc {B : Nat} {w : World} {v : Value} {zs : List Int} {z : Int} (h : w.ownsRow B 2 1 v (zs.length + 1) (icells zs ++ [.int .i64 z])) : OwnI B w v (zs ++ [z]) := by
  unfold OwnI
  have e : icells (zs ++ [z]) = icells zs ++ [.int .i64 z] := by simp [icells]
  rw [List.length_append, e]
  exact h
/-- a block that was there and is not the row that grew -/
theorem Blk.grown {w w' : World} {o : Option Nat} {b : Nat} {cs : Array Value} (h : Blk w b cs) (k : w.grownBy w' o) (hn : some b ≠ o) : Blk w' b cs := by
  have hl := h.lt
  obtain ⟨t, hb⟩ := h
  exact ⟨t, (k.block b hl hn).trans hb⟩
theorem size_alloc' (w : World) (o : Obj) : (w.alloc o).heap.size = w.heap.size + 1 := Array.size_push _
theorem new_cells (w : World) (cs : Array Value) (t : TypeId) (l : List Value) (h : cs.toList = l) (j : Nat) (u : Value) (hj : l[j]? = some u) : (w.alloc (.cells cs t)).cell? ((⟨w.heap.size, 0, none⟩ : Addr).add j) = some u := by
  have e : (w.alloc (.cells cs t)).heap[w.heap.size]? = some (.cells cs t (0, 0)) := by show (w.heap.push _)[w.heap.size]? = _; simp
  have hc : cs[j]? = some u := by rw [← Array.getElem?_toList, h]; exact hj
  rw [Addr.add_lit]
  simp only [World.cell?, e]
  simpa using hc
theorem iat_snoc {p : List Int} {z : Int} {i : Nat} (h : i < p.length) : iat (p ++ [z]) i = iat p i := by
  simp [iat, List.getD, List.getElem?_append_left h]
theorem iat_end {p : List Int} {z : Int} {i : Nat} (h : i = p.length) : iat (p ++ [z]) i = z := by
  subst h
  simp [iat, List.getD]
theorem ownI_one (B : Nat) (w : World) (z : Int) (h : B ≤ w.heap.size) : OwnI B (w.alloc (.cells #[.int .i64 z] 2)) (.slice (some ⟨w.heap.size, 0, none⟩) 1 1) [z] :=
  ⟨rfl, .inr ⟨w.heap.size, 1, #[.int .i64 z], rfl, h, by show (w.heap.push _)[w.heap.size]? = _; simp, Nat.le_refl _, by simp [maxLen], by simp, by simp [icells]⟩⟩
theorem ownI_two (w : World) (o : Obj) (z : Int) : OwnI (w.heap.size + 1) ((w.alloc o).alloc (.cells #[.int .i64 z] 2)) (.slice (some ⟨w.heap.size + 1, 0, none⟩) 1 1) [z] := by
  have := ownI_one (w.heap.size + 1) (w.alloc o) z (Nat.le_of_eq (size_alloc' w o).symm)
  rw [size_alloc'] at this
  exact this
theorem OwnI.drew {B : Nat} {w : World} {v : Value} {zs : List Int} (h : OwnI B w v zs) : OwnI B w.drew v zs := h
theorem OwnI.cell {B : Nat} {w : World} {a : Option Addr} {n c : Nat} {zs : List Int} (h : OwnI B w (.slice a n c) zs) {i : Nat} (hi : i < zs.length) : ∃ g, a = some ⟨g, 0, none⟩ ∧ w.cell? ⟨g, i, none⟩ = some (.int .i64 (iat zs i)) := by
  rcases h.opened with ⟨e, h2⟩ | ⟨g, cap, e, _, _, hr⟩
  · omega
  · simp only [Value.slice.injEq] at e
    exact ⟨g, e.1, hr.cell hi⟩

theorem Blk.below {C : Nat} {w w' : World} {b : Nat} {cs : Array Value} (h : Blk w b cs) (k : Below C w w') (hb : b < C) : Blk w' b cs := by
  obtain ⟨t, h⟩ := h
  exact ⟨t, (k.block b hb).trans h⟩
theorem cellq {w w' : World} (k : Nx w w') {b o : Nat} {v : Value} (h : w.cell? ⟨b, o, none⟩ = some v) : w'.cell? ⟨b, o, none⟩ = some v := cell_next k (cell_lt h) h

end Go.Proofs.Ytifefpeefcjabaa
