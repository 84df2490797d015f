import Derived.Test.YtcdjmpbdaiafgaaGreatDoorRoD
import Derived.Test.YtcdjmpbdaiafgaaGreatDoorSpC
import Derived.Deep.RegionHeld3
import Derived.Deep.OwnRows
import Derived.Lib.SliceRun
import Derived.Deep.CutRange
namespace Go.Proofs.YtcdjmpbdaiafgaaGreatDoor
open Go.RowKit
set_option linter.unusedVariables false
set_option maxRecDepth 100000

structure RoadIn (N : Nt) : Prop where
  asc : ascI N.nodes = true
  c0 : N.nodes.length ≤ 2000
  c1 : N.ways.length ≤ 2000
  ed : edTo N.ways N.ways.length ≤ 4000
  len : ∀ i, i < N.ways.length → (wat N.ways i).nodes.length = (wat N.ways i).weights.length + 1
  seg : ∀ i, i < N.ways.length → (wat N.ways i).weights.length ≤ 100
  has : ∀ i j, i < N.ways.length → j < (wat N.ways i).nodes.length → hasI N.nodes (iat (wat N.ways i).nodes j) = true
theorem allN_at {n : Nat} {p : Nat → Bool} (h : allN n p = true) {i : Nat} (hi : i < n) : p i = true := by
  unfold allN at h; rw [List.all_eq_true] at h; exact h i (List.mem_range.2 hi)
theorem road_in {N : Nt} (h : implValid N = true) : RoadIn N := by
  simp only [implValid, counts, Bool.and_eq_true, decide_eq_true_eq] at h
  obtain ⟨⟨c0, c1, ed, c2, c3⟩, hu, ⟨ha, hn⟩, ⟨hw, _⟩, ⟨hr, _⟩, ht, _⟩ := h
  have aw : ∀ i, i < N.ways.length → (wat N.ways i).nodes.length = (wat N.ways i).weights.length + 1 ∧ (wat N.ways i).weights.length ≤ 100 ∧ ∀ j, j < (wat N.ways i).nodes.length → hasI N.nodes (iat (wat N.ways i).nodes j) = true := fun i hi => by
    have := allN_at hw hi
    simp only [wayGood, wayHead, Bool.and_eq_true, decide_eq_true_eq] at this
    obtain ⟨⟨⟨⟨⟨g0, g1⟩, g2⟩, g3⟩, g4⟩, g5⟩ := this
    exact ⟨g3, g2, fun j hj => allN_at g5 hj⟩
  exact ⟨ha, c0, c1, ed, fun i hi => (aw i hi).1, fun i hi => (aw i hi).2.1, fun i j hi hj => (aw i hi).2.2 j hj⟩
theorem st_ed (N : Nt) (k : Nat) : st (nsN N) (bnN N) k = edTo N.ways k := by
  induction k with
  | zero => rfl
  | succ k ih => rw [st, edTo, ih]; unfold nsN bnN edgeN; split <;> omega
theorem edTo_mono (xs : List Wy) (k d : Nat) : edTo xs k ≤ edTo xs (k + d) := by
  induction d with
  | zero => exact Nat.le_refl _
  | succ d ih => rw [← Nat.add_assoc, edTo]; omega
/-- how long the list is behind q segments of way k -/
theorem wlay_le {N : Nt} (h : RoadIn N) {k q : Nat} (hk : k < N.ways.length) (hq : q ≤ (wat N.ways k).weights.length) : (wlay (sg1 N) k (lay (sg1 N) (nsN N) k) q).length ≤ 4000 := by
  rw [wlay_len (sg1_len N), lay_len (sg1_len N)]
  have h1 := st_mono (nsN N) (bnN N) (k + 1) (N.ways.length - (k + 1))
  rw [show k + 1 + (N.ways.length - (k + 1)) = N.ways.length by omega, st_ed N N.ways.length, st] at h1
  have h2 : bnN N k * q ≤ bnN N k * nsN N k := Nat.mul_le_mul_left _ hq
  have := h.ed
  omega
end Go.Proofs.YtcdjmpbdaiafgaaGreatDoor

namespace Go.Proofs.YtcdjmpbdaiafgaaGreatDoor
open Go.RowKit
set_option linter.unusedVariables false
set_option maxRecDepth 100000

theorem infoInt : (Tryz.prog.info? 2).map (fun i => (i.zero, i.size, i.bytes)) = some (some (.int .i64 0), 1, 8) := by kernel_rfl

/-- block g is a row of numbers, at least n, the first n told -/
def RW (w : World) (g n : Nat) (F : Nat → Int) : Prop := ∃ c : Array Value, w.heap[g]? = some (.cells c 2 (0, 0)) ∧ n ≤ c.size ∧ ∀ i, i < n → c[i]? = some (.int .i64 (F i))
theorem RW.of_rowIs {w : World} {g n : Nat} {F : Nat → Int} (h : w.rowIs g 2 n (fun i => .int .i64 (F i))) : RW w g n F := by
  obtain ⟨c, h1, h2, h3⟩ := h
  exact ⟨c, h1, by omega, h3⟩
theorem RW.lt {w : World} {g n : Nat} {F : Nat → Int} (h : RW w g n F) : g < w.heap.size := by
  obtain ⟨c, h1, _⟩ := h
  exact (Array.getElem?_eq_some_iff.1 h1).1
theorem RW.cell {w : World} {g n : Nat} {F : Nat → Int} (h : RW w g n F) {i : Nat} (hi : i < n) : w.cell? ⟨g, i, none⟩ = some (.int .i64 (F i)) := by
  obtain ⟨c, hb, _, hc⟩ := h
  simp [World.cell?, hb, hc i hi]
theorem RW.frozen {w : World} {g n : Nat} {F : Nat → Int} (h : RW w g n F) (i : Nat) : w.frozen? ⟨g, i, none⟩ = false := by
  obtain ⟨c, hb, _, _⟩ := h
  simp [World.frozen?, hb]
theorem RW.congr {w : World} {g n : Nat} {F G : Nat → Int} (h : RW w g n F) (e : ∀ i, i < n → F i = G i) : RW w g n G := by
  obtain ⟨c, hb, hn, hc⟩ := h
  exact ⟨c, hb, hn, fun i hi => by rw [hc i hi, e i hi]⟩
theorem RW.of_block {w w' : World} {g n : Nat} {F : Nat → Int} (h : RW w g n F) (e : w'.heap[g]? = w.heap[g]?) : RW w' g n F := by
  obtain ⟨c, hb, hn, hc⟩ := h
  exact ⟨c, e.trans hb, hn, hc⟩
theorem RW.next {w w' : World} {g n : Nat} {F : Nat → Int} (h : RW w g n F) (k : Nx w w') : RW w' g n F := h.of_block (k.block g h.lt)
theorem RW.alloc {w : World} {g n : Nat} {F : Nat → Int} (h : RW w g n F) (o : Obj) : RW (w.alloc o) g n F := h.next (box1 _ _)
theorem RW.set {w : World} {g n : Nat} {F : Nat → Int} (h : RW w g n F) (i : Nat) (z : Int) : RW (w.setCell ⟨g, i, none⟩ (.int .i64 z)) g n (fun j => if j = i then z else F j) := by
  obtain ⟨c, hb, hn, hc⟩ := h
  refine ⟨c.setIfInBounds i (.int .i64 z), ?_, by simpa using hn, fun j hj => ?_⟩
  · simp [World.setCell, Array.getElem?_modify, hb]
  · rw [Array.getElem?_setIfInBounds]
    by_cases e : j = i
    · subst e
      simp [show j < c.size by omega]
    · rw [if_neg (fun h => e h.symm)]
      show c[j]? = some (.int .i64 (if j = i then z else F j))
      rw [if_neg e]
      exact hc j hj
theorem RW.setOther {w : World} {g n : Nat} {F : Nat → Int} (h : RW w g n F) {a : Addr} (ha : g ≠ a.block) (v : Value) : RW (w.setCell a v) g n F := h.of_block (Below.heap_setCell _ _ _ _ ha)
theorem RW.held {w : World} {g n c : Nat} {F : Nat → Int} {zs : List Int} (h : RW w g n F) (hz : zs.length = n) (hm : n ≤ maxLen) (he : ∀ i, i < n → F i = iat zs i) {B : Nat} (hB : B ≤ g) : HInts B w (.slice (some ⟨g, 0, none⟩) n c) zs := by
  subst hz
  refine ⟨_, _, rfl, hm, fun h0 => ⟨g, 0, rfl, hB, h.lt, fun i hi => ?_⟩⟩
  show w.cell? ⟨g, 0 + i, none⟩ = _
  rw [Nat.zero_add, h.cell hi, he i hi]

/-- a row of numbers of our own -/
def icells (zs : List Int) : List Value := zs.map fun z => .int .i64 z
def OwnI (C : Nat) (w : World) (v : Value) (zs : List Int) : Prop := w.ownsRow C 2 1 v zs.length (icells zs)
theorem OwnI.next {B : Nat} {w w' : World} {v : Value} {zs : List Int} (h : OwnI B w v zs) (k : Nx w w') : OwnI B w' v zs := by
  obtain ⟨h1, h2⟩ := h
  refine ⟨h1, ?_⟩
  rcases h2 with h2 | ⟨g, cap, cur, hv, hg, hh, r⟩
  · exact Or.inl h2
  · exact Or.inr ⟨g, cap, cur, hv, hg, (k.block g (Array.getElem?_eq_some_iff.1 hh).1).trans hh, r⟩
theorem icells_at {zs : List Int} {i : Nat} (hi : i < zs.length) : (icells zs)[i]? = some (.int .i64 (iat zs i)) := by rw [iat_eq hi]; simp [icells, hi]
/-- an own row, opened: nil, or a row -/
theorem OwnI.opened {B : Nat} {w : World} {v : Value} {zs : List Int} (h : OwnI B w v zs) : (v = .slice none 0 0 ∧ zs.length = 0) ∨ ∃ g cap, v = .slice (some ⟨g, 0, none⟩) zs.length cap ∧ B ≤ g ∧ zs.length ≤ maxLen ∧ RW w g zs.length (iat zs) := by
  obtain ⟨h1, h2⟩ := h
  rcases h2 with ⟨h2, h3⟩ | ⟨g, cap, cur, hv, hg, hh, hc, hm, hs, ht⟩
  · exact Or.inl ⟨h2, h3⟩
  · refine Or.inr ⟨g, cap, hv, hg, by omega, cur, hh, by omega, fun i hi => ?_⟩
    have e : (cur.toList.take (zs.length * 1))[i]? = (icells zs)[i]? := by rw [ht]
    rw [List.getElem?_take_of_lt (by omega), icells_at hi] at e
    rw [← Array.getElem?_toList, e]
theorem OwnI.held {B : Nat} {w : World} {v : Value} {zs : List Int} (h : OwnI B w v zs) : HInts B w v zs := by
  rcases h.opened with ⟨rfl, h2⟩ | ⟨g, cap, rfl, hg, hm, hr⟩
  · unfold HInts
    rw [h2]
    exact ⟨_, _, rfl, by simp [maxLen], fun h => by omega⟩
  · exact hr.held rfl hm (fun i _ => rfl) hg
theorem ownI_none (B : Nat) (w : World) (h : B ≤ w.heap.size) : OwnI B (w.alloc (.cells #[] 2)) (.slice (some ⟨w.heap.size, 0, none⟩) 0 0) [] :=
  ⟨rfl, .inr ⟨w.heap.size, 0, #[], rfl, h, by show (w.heap.push _)[w.heap.size]? = _; simp, Nat.le_refl _, by simp [maxLen], by simp, by simp [icells]⟩⟩

end Go.Proofs.YtcdjmpbdaiafgaaGreatDoor

namespace Go.Proofs.YtcdjmpbdaiafgaaGreatDoor
open Go.RowKit
set_option linter.unusedVariables false
set_option maxRecDepth 100000

theorem cell_of' {B : Nat} {w w' : World} {a : Option Addr} {n c : Nat} {zs : List Int} (h : HInts B w (.slice a n c) zs) (k : Below w.heap.size w w') {i : Nat} (hi : i < n) : ∃ b off, a = some ⟨b, off, none⟩ ∧ b < w.heap.size ∧ w'.cell? ⟨b, off + i, none⟩ = some (.int .i64 (iat zs i)) := by
  obtain ⟨a', cap, e, _, hk⟩ := h
  simp only [Value.slice.injEq] at e
  obtain ⟨rfl, rfl, rfl⟩ := e
  obtain ⟨b, off, rfl, _, hb, hc⟩ := hk (by omega)
  exact ⟨b, off, rfl, hb, cell_next k hb (hc i hi)⟩
theorem ints_len {B : Nat} {w : World} {a : Option Addr} {n c : Nat} {zs : List Int} (h : HInts B w (.slice a n c) zs) : zs.length = n := by
  obtain ⟨a', cap, e, _, hk⟩ := h
  simp only [Value.slice.injEq] at e
  exact e.2.1.symm
theorem OwnE.slice {B : Nat} {w : World} {v : Value} {es : List Eg} (h : OwnE B w v es) : ∃ a c, v = .slice a es.length c ∧ es.length ≤ maxLen := by
  rcases h.2 with ⟨rfl, h2⟩ | ⟨g, cap, cur, rfl, _, _, h3, h4, _⟩
  · exact ⟨none, 0, by rw [h2], by rw [h2]; simp [maxLen]⟩
  · exact ⟨_, _, rfl, by omega⟩
/-- a box that holds an edge -/
def FB (w : World) (g : Nat) (x : Eg) : Prop := ∃ cs : Array Value, Blk w g cs ∧ cs.toList = cells7 x
theorem FB.cell {w : World} {g : Nat} {x : Eg} (h : FB w g x) {i : Nat} {v : Value} (hi : (cells7 x)[i]? = some v) : w.cell? ⟨g, i, none⟩ = some v := by
  obtain ⟨cs, h1, h2⟩ := h
  exact h1.cell (by rw [← Array.getElem?_toList, h2]; exact hi)
theorem FB.frozen {w : World} {g : Nat} {x : Eg} (h : FB w g x) (i : Nat) : w.frozen? ⟨g, i, none⟩ = false := by
  obtain ⟨cs, h1, _⟩ := h
  exact h1.frozen i
theorem FB.lt {w : World} {g : Nat} {x : Eg} (h : FB w g x) : g < w.heap.size := by
  obtain ⟨cs, h1, _⟩ := h
  exact h1.lt
theorem fb_seven {w : World} {g : Nat} {cs : Array Value} (h : Blk w g cs) (hs : cs.size = 7) (x : Eg) :
    FB (((((((w.setCell ⟨g, 0, none⟩ (.int .i64 x.tail)).setCell ⟨g, 1, none⟩ (.int .i64 x.head)).setCell ⟨g, 2, none⟩ (.int .i64 x.weight)).setCell ⟨g, 3, none⟩ (.int .i64 x.way)).setCell ⟨g, 4, none⟩ (.int .i64 x.seg)).setCell ⟨g, 5, none⟩ (.bool x.back)).setCell ⟨g, 6, none⟩ (.int .i64 x.twin)) g x := by
  refine ⟨_, ((((((h.set 0 _).set 1 _).set 2 _).set 3 _).set 4 _).set 5 _).set 6 _, ?_⟩
  obtain ⟨l⟩ := cs
  match l, hs with
  | [_, _, _, _, _, _, _], _ => rfl
theorem nx_seven {a w : World} (h : Nx a w) {g : Nat} (hg : a.heap.size ≤ g) (v0 v1 v2 v3 v4 v5 v6 : Value) :
    Nx a (((((((w.setCell ⟨g, 0, none⟩ v0).setCell ⟨g, 1, none⟩ v1).setCell ⟨g, 2, none⟩ v2).setCell ⟨g, 3, none⟩ v3).setCell ⟨g, 4, none⟩ v4).setCell ⟨g, 5, none⟩ v5).setCell ⟨g, 6, none⟩ v6) :=
  Below.setCell (Below.setCell (Below.setCell (Below.setCell (Below.setCell (Below.setCell (Below.setCell h hg _) hg _) hg _) hg _) hg _) hg _) hg _
theorem new_cells (w : World) (cs : Array Value) (t : TypeId) (l : List Value) (h : cs.toList = l) (j : Nat) (u : Value) (hj : l[j]? = some u) : (w.alloc (.cells cs t)).cell? ((⟨w.heap.size, 0, none⟩ : Addr).add j) = some u := by
  have e : (w.alloc (.cells cs t)).heap[w.heap.size]? = some (.cells cs t (0, 0)) := by show (w.heap.push _)[w.heap.size]? = _; simp
  have hc : cs[j]? = some u := by rw [← Array.getElem?_toList, h]; exact hj
  rw [Addr.add_lit]
  simp only [World.cell?, e]
  simpa using hc
theorem cells7_one (x : Eg) : ∀ u ∈ cells7 x, u.oneCell' = true := by
  intro u hu
  simp only [cells7, List.mem_cons, List.not_mem_nil, or_false] at hu
  rcases hu with rfl | rfl | rfl | rfl | rfl | rfl | rfl <;> rfl
theorem wlay_succ (sg : Nat → Nat → Nat → List Eg) (i : Nat) (L : List Eg) (j : Nat) : wlay sg i L (j + 1) = wlay sg i L j ++ sg i (wlay sg i L j).length j := rfl
theorem lay_succ (sg : Nat → Nat → Nat → List Eg) (ns : Nat → Nat) (i : Nat) : lay sg ns (i + 1) = wlay sg i (lay sg ns i) (ns i) := rfl
theorem ownE_made (B : Nat) (w : World) (cs : Array Value) (cap : Nat) (hB : B ≤ w.heap.size) (hc : cap ≤ maxLen) (hs : cs.size = cap * 7) : OwnE B (w.alloc (.cells cs 107)) (.slice (some ⟨w.heap.size, 0, none⟩) 0 cap) [] :=
  ⟨rfl, .inr ⟨w.heap.size, cap, cs, rfl, hB, by show (w.heap.push _)[w.heap.size]? = _; simp, Nat.zero_le _, hc, hs, by simp [ecells]⟩⟩

end Go.Proofs.YtcdjmpbdaiafgaaGreatDoor
