import Derived.Test.YtmpkjlknnicdaaaRoD
import Derived.Deep.OwnRows
import Derived.Lib.SliceRun
namespace Go.Proofs.Ytmpkjlknnicdaaa
open Go.RowKit
set_option linter.unusedVariables false
set_option maxRecDepth 100000

theorem infoInt : (Try.prog.info? 2).map (fun i => (i.zero, i.size, i.bytes)) = some (some (.int .i64 0), 1, 8) := by kernel_rfl

/-- block g is a row of numbers, at least n, the first n told -/
def RW (w : World) (g n : Nat) (F : Nat → Int) : Prop := ∃ c : Array Value, w.heap[g]? = some (.cells c 2 (0, 0)) ∧ n ≤ c.size ∧ ∀ i, i < n → c[i]? = some (.int .i64 (F i))
theorem RW.of_rowIs {w : World} {g n : Nat} {F : Nat → Int} (h : w.rowIs g 2 n (fun i => .int .i64 (F i))) : RW w g n F := by
  obtain ⟨c, h1, h2, h3⟩ := h
  exact ⟨c, h1, by omega, h3⟩
theorem RW.lt {w : World} {g n : Nat} {F : Nat → Int} (h : RW w g n F) : g < w.heap.size := by
  obtain ⟨c, h1, _⟩ := h
  exact (Array.getElem?_eq_some_iff.1 h1).1
theorem RW.cell {w : World} {g n : Nat} {F : Nat → Int} (h : RW w g n F) {i : Nat} (hi : i < n) : w.cell? ⟨g, i, none⟩ = some (.int .i64 (F i)) := by
  obtain ⟨c, hb, _, hc⟩ := h
  simp [World.cell?, hb, hc i hi]
theorem RW.frozen {w : World} {g n : Nat} {F : Nat → Int} (h : RW w g n F) (i : Nat) : w.frozen? ⟨g, i, none⟩ = false := by
  obtain ⟨c, hb, _, _⟩ := h
  simp [World.frozen?, hb]
theorem RW.congr {w : World} {g n : Nat} {F G : Nat → Int} (h : RW w g n F) (e : ∀ i, i < n → F i = G i) : RW w g n G := by
  obtain ⟨c, hb, hn, hc⟩ := h
  exact ⟨c, hb, hn, fun i hi => by rw [hc i hi, e i hi]⟩
theorem RW.of_block {w w' : World} {g n : Nat} {F : Nat → Int} (h : RW w g n F) (e : w'.heap[g]? = w.heap[g]?) : RW w' g n F := by
  obtain ⟨c, hb, hn, hc⟩ := h
  exact ⟨c, e.trans hb, hn, hc⟩
theorem RW.next {w w' : World} {g n : Nat} {F : Nat → Int} (h : RW w g n F) (k : Nx w w') : RW w' g n F := h.of_block (k.block g h.lt)
theorem RW.alloc {w : World} {g n : Nat} {F : Nat → Int} (h : RW w g n F) (o : Obj) : RW (w.alloc o) g n F := h.next (box1 _ _)
theorem RW.set {w : World} {g n : Nat} {F : Nat → Int} (h : RW w g n F) (i : Nat) (z : Int) : RW (w.setCell ⟨g, i, none⟩ (.int .i64 z)) g n (fun j => if j = i then z else F j) := by
  obtain ⟨c, hb, hn, hc⟩ := h
  refine ⟨c.setIfInBounds i (.int .i64 z), ?_, by simpa using hn, fun j hj => ?_⟩
  · simp [World.setCell, Array.getElem?_modify, hb]
  · rw [Array.getElem?_setIfInBounds]
    by_cases e : j = i
    · subst e
      simp [show j < c.size by omega]
    · rw [if_neg (fun h => e h.symm)]
      show c[j]? = some (.int .i64 (if j = i then z else F j))
      rw [if_neg e]
      exact hc j hj
theorem RW.setOther {w : World} {g n : Nat} {F : Nat → Int} (h : RW w g n F) {a : Addr} (ha : g ≠ a.block) (v : Value) : RW (w.setCell a v) g n F := h.of_block (Below.heap_setCell _ _ _ _ ha)
theorem RW.held {w : World} {g n c : Nat} {F : Nat → Int} {zs : List Int} (h : RW w g n F) (hz : zs.length = n) (hm : n ≤ maxLen) (he : ∀ i, i < n → F i = iat zs i) {B : Nat} (hB : B ≤ g) : HInts B w (.slice (some ⟨g, 0, none⟩) n c) zs := by
  subst hz
  refine ⟨_, _, rfl, hm, fun h0 => ⟨g, 0, rfl, hB, h.lt, fun i hi => ?_⟩⟩
  show w.cell? ⟨g, 0 + i, none⟩ = _
  rw [Nat.zero_add, h.cell hi, he i hi]

/-- a row of numbers of our own -/
def icells (zs : List Int) : List Value := zs.map fun z => .int .i64 z
def OwnI (C : Nat) (w : World) (v : Value) (zs : List Int) : Prop := w.ownsRow C 2 1 v zs.length (icells zs)
theorem OwnI.next {B : Nat} {w w' : World} {v : Value} {zs : List Int} (h : OwnI B w v zs) (k : Nx w w') : OwnI B w' v zs := by
  obtain ⟨h1, h2⟩ := h
  refine ⟨h1, ?_⟩
  rcases h2 with h2 | ⟨g, cap, cur, hv, hg, hh, r⟩
  · exact Or.inl h2
  · exact Or.inr ⟨g, cap, cur, hv, hg, (k.block g (Array.getElem?_eq_some_iff.1 hh).1).trans hh, r⟩
theorem icells_at {zs : List Int} {i : Nat} (hi : i < zs.length) : (icells zs)[i]? = some (.int .i64 (iat zs i)) := by rw [iat_eq hi]; simp [icells, hi]
/-- an own row, opened: nil, or a row -/
theorem OwnI.opened {B : Nat} {w : World} {v : Value} {zs : List Int} (h : OwnI B w v zs) : (v = .slice none 0 0 ∧ zs.length = 0) ∨ ∃ g cap, v = .slice (some ⟨g, 0, none⟩) zs.length cap ∧ B ≤ g ∧ zs.length ≤ maxLen ∧ RW w g zs.length (iat zs) := by
  obtain ⟨h1, h2⟩ := h
  rcases h2 with ⟨h2, h3⟩ | ⟨g, cap, cur, hv, hg, hh, hc, hm, hs, ht⟩
  · exact Or.inl ⟨h2, h3⟩
  · refine Or.inr ⟨g, cap, hv, hg, by omega, cur, hh, by omega, fun i hi => ?_⟩
    have e : (cur.toList.take (zs.length * 1))[i]? = (icells zs)[i]? := by rw [ht]
    rw [List.getElem?_take_of_lt (by omega), icells_at hi] at e
    rw [← Array.getElem?_toList, e]
theorem OwnI.held {B : Nat} {w : World} {v : Value} {zs : List Int} (h : OwnI B w v zs) : HInts B w v zs := by
  rcases h.opened with ⟨rfl, h2⟩ | ⟨g, cap, rfl, hg, hm, hr⟩
  · unfold HInts
    rw [h2]
    exact ⟨_, _, rfl, by simp [maxLen], fun h => by omega⟩
  · exact hr.held rfl hm (fun i _ => rfl) hg
theorem ownI_none (B : Nat) (w : World) (h : B ≤ w.heap.size) : OwnI B (w.alloc (.cells #[] 2)) (.slice (some ⟨w.heap.size, 0, none⟩) 0 0) [] :=
  ⟨rfl, .inr ⟨w.heap.size, 0, #[], rfl, h, by show (w.heap.push _)[w.heap.size]? = _; simp, Nat.le_refl _, by simp [maxLen], by simp, by simp [icells]⟩⟩

set_option maxHeartbeats 1000000 in
theorem clone_any (B : Nat) (v : Value) (zs : List Int) (w : World) (h0 : HInts B w v zs) (hs : zs.length ≤ 1048576) :
    Calls Try.prog 42 #[v] w fun e w' => (∃ v', e = .returned v' ∧ OwnI w.heap.size w' v' zs) ∧ Nx w w' := by
  obtain ⟨ii, hi, hz0, hz1, hz2⟩ := info_parts infoInt
  have q22 : ∀ (w : World) (a : Option Addr) (n c n' c' : Nat), (binOp .eql 22 (.slice a n c) (.slice none n' c')).run Try.prog w = .ok (.bool a.isNone) w := fun w a n c n' c' => Lib.run_eql_slice_nil w _ _ a n c n' c' Try.underlying22
  obtain ⟨a, cap, rfl, hn, hk⟩ := h0
  cases a with
  | none =>
    have hz : zs.length = 0 := by
      rcases Nat.eq_zero_or_pos zs.length with h | h
      · exact h
      · obtain ⟨b, off, e, _⟩ := hk h
        simp at e
    rw [hz]
    go_enter Try.func42, Try.ntmps42
    go_wp2
    go_ret
    exact ⟨⟨_, rfl, by simp [icells, hz], Or.inl ⟨rfl, hz⟩⟩, Nx.refl _⟩
  | some ad =>
    have HI : Hid (∀ j u, (icells zs)[j]? = some u → w.cell? (ad.add j) = some u) := by
      intro j u hj
      have hjl : j < zs.length := by have := (List.getElem?_eq_some_iff.1 hj).1; simpa [icells] using this
      obtain ⟨b, off, e, _, _, hc⟩ := hk (by omega)
      obtain rfl := Option.some.inj e
      rw [icells_at hjl] at hj
      rw [← Option.some.inj hj]
      have h3 := hc j hjl
      cases j <;> simpa [Addr.add] using h3
    have HL : Hid ((icells zs).length = zs.length) := by unfold Hid; simp [icells]
    clear hk
    go_enter Try.func42, Try.ntmps42
    go_wp2_with (at_builtin; refine wpList_append_own _ rfl _ _ 22 rfl w.heap.size 2 ii (.int .i64 0) 1 8 Try.underlying22 hi hz0 hz1 hz2 rfl (by decide) _ _ _ rfl (ownI_none w.heap.size w (Nat.le_refl _)) ad zs.length cap (icells zs) rfl ?c0 ?c1 ?c2 ?c3 ?c4 ?c5 ?_)
    case c0 => rw [Nat.mul_one]; exact HL.out
    case c1 =>
      intro j u hj
      exact Lib.cell?_alloc_some _ (HI.out j u hj)
    case c2 => intro u hu; simp [icells] at hu; obtain ⟨z, _, rfl⟩ := hu; rfl
    case c3 => unfold maxLen; simp; omega
    case c4 => simp; omega
    case c5 => simp
    intro v7 w7 hown' hgrow _
    have HV7 : Hid (OwnI w.heap.size w7 v7 zs) := by
      unfold Hid OwnI
      simpa [show icells [] = [] from rfl] using hown'
    have HN7 : Hid (Nx w w7) := Below.grown (box1 _ _) hgrow (by simp) (fun g hg => (World.ownsRow.lt (ownI_none w.heap.size w (Nat.le_refl _)) g hg).1)
    clear hown' hgrow
    go_wp2
    go_ret
    exact ⟨⟨_, rfl, HV7.out⟩, HN7.out⟩
end Go.Proofs.Ytmpkjlknnicdaaa
