import Derived.Test.YtmpkjlknnicdaaaRoE
import Derived.Test.YtmpkjlknnicdaaaRoF
import Derived.Deep.CutRange
namespace Go.Proofs.Ytmpkjlknnicdaaa
open Go.RowKit
set_option linter.unusedVariables false
set_option maxRecDepth 100000

theorem cell_of' {B : Nat} {w w' : World} {a : Option Addr} {n c : Nat} {zs : List Int} (h : HInts B w (.slice a n c) zs) (k : Below w.heap.size w w') {i : Nat} (hi : i < n) : ∃ b off, a = some ⟨b, off, none⟩ ∧ b < w.heap.size ∧ w'.cell? ⟨b, off + i, none⟩ = some (.int .i64 (iat zs i)) := by
  obtain ⟨a', cap, e, _, hk⟩ := h
  simp only [Value.slice.injEq] at e
  obtain ⟨rfl, rfl, rfl⟩ := e
  obtain ⟨b, off, rfl, _, hb, hc⟩ := hk (by omega)
  exact ⟨b, off, rfl, hb, cell_next k hb (hc i hi)⟩
theorem ints_len {B : Nat} {w : World} {a : Option Addr} {n c : Nat} {zs : List Int} (h : HInts B w (.slice a n c) zs) : zs.length = n := by
  obtain ⟨a', cap, e, _, hk⟩ := h
  simp only [Value.slice.injEq] at e
  exact e.2.1.symm
theorem OwnE.slice {B : Nat} {w : World} {v : Value} {es : List Eg} (h : OwnE B w v es) : ∃ a c, v = .slice a es.length c ∧ es.length ≤ maxLen := by
  rcases h.2 with ⟨rfl, h2⟩ | ⟨g, cap, cur, rfl, _, _, h3, h4, _⟩
  · exact ⟨none, 0, by rw [h2], by rw [h2]; simp [maxLen]⟩
  · exact ⟨_, _, rfl, by omega⟩
/-- a box that holds an edge -/
def FB (w : World) (g : Nat) (x : Eg) : Prop := ∃ cs : Array Value, Blk w g cs ∧ cs.toList = cells7 x
theorem FB.cell {w : World} {g : Nat} {x : Eg} (h : FB w g x) {i : Nat} {v : Value} (hi : (cells7 x)[i]? = some v) : w.cell? ⟨g, i, none⟩ = some v := by
  obtain ⟨cs, h1, h2⟩ := h
  exact h1.cell (by rw [← Array.getElem?_toList, h2]; exact hi)
theorem FB.frozen {w : World} {g : Nat} {x : Eg} (h : FB w g x) (i : Nat) : w.frozen? ⟨g, i, none⟩ = false := by
  obtain ⟨cs, h1, _⟩ := h
  exact h1.frozen i
theorem FB.lt {w : World} {g : Nat} {x : Eg} (h : FB w g x) : g < w.heap.size := by
  obtain ⟨cs, h1, _⟩ := h
  exact h1.lt
theorem fb_seven {w : World} {g : Nat} {cs : Array Value} (h : Blk w g cs) (hs : cs.size = 7) (x : Eg) :
    FB (((((((w.setCell ⟨g, 0, none⟩ (.int .i64 x.tail)).setCell ⟨g, 1, none⟩ (.int .i64 x.head)).setCell ⟨g, 2, none⟩ (.int .i64 x.weight)).setCell ⟨g, 3, none⟩ (.int .i64 x.way)).setCell ⟨g, 4, none⟩ (.int .i64 x.seg)).setCell ⟨g, 5, none⟩ (.bool x.back)).setCell ⟨g, 6, none⟩ (.int .i64 x.twin)) g x := by
  refine ⟨_, ((((((h.set 0 _).set 1 _).set 2 _).set 3 _).set 4 _).set 5 _).set 6 _, ?_⟩
  obtain ⟨l⟩ := cs
  match l, hs with
  | [_, _, _, _, _, _, _], _ => rfl
theorem nx_seven {a w : World} (h : Nx a w) {g : Nat} (hg : a.heap.size ≤ g) (v0 v1 v2 v3 v4 v5 v6 : Value) :
    Nx a (((((((w.setCell ⟨g, 0, none⟩ v0).setCell ⟨g, 1, none⟩ v1).setCell ⟨g, 2, none⟩ v2).setCell ⟨g, 3, none⟩ v3).setCell ⟨g, 4, none⟩ v4).setCell ⟨g, 5, none⟩ v5).setCell ⟨g, 6, none⟩ v6) :=
  Below.setCell (Below.setCell (Below.setCell (Below.setCell (Below.setCell (Below.setCell (Below.setCell h hg _) hg _) hg _) hg _) hg _) hg _) hg _
theorem new_cells (w : World) (cs : Array Value) (t : TypeId) (l : List Value) (h : cs.toList = l) (j : Nat) (u : Value) (hj : l[j]? = some u) : (w.alloc (.cells cs t)).cell? ((⟨w.heap.size, 0, none⟩ : Addr).add j) = some u := by
  have e : (w.alloc (.cells cs t)).heap[w.heap.size]? = some (.cells cs t (0, 0)) := by show (w.heap.push _)[w.heap.size]? = _; simp
  have hc : cs[j]? = some u := by rw [← Array.getElem?_toList, h]; exact hj
  rw [Addr.add_lit]
  simp only [World.cell?, e]
  simpa using hc
theorem cells7_one (x : Eg) : ∀ u ∈ cells7 x, u.oneCell' = true := by
  intro u hu
  simp only [cells7, List.mem_cons, List.not_mem_nil, or_false] at hu
  rcases hu with rfl | rfl | rfl | rfl | rfl | rfl | rfl <;> rfl
theorem wlay_succ (sg : Nat → Nat → Nat → List Eg) (i : Nat) (L : List Eg) (j : Nat) : wlay sg i L (j + 1) = wlay sg i L j ++ sg i (wlay sg i L j).length j := rfl
theorem lay_succ (sg : Nat → Nat → Nat → List Eg) (ns : Nat → Nat) (i : Nat) : lay sg ns (i + 1) = wlay sg i (lay sg ns i) (ns i) := rfl
theorem ownE_made (B : Nat) (w : World) (cs : Array Value) (cap : Nat) (hB : B ≤ w.heap.size) (hc : cap ≤ maxLen) (hs : cs.size = cap * 7) : OwnE B (w.alloc (.cells cs 70)) (.slice (some ⟨w.heap.size, 0, none⟩) 0 cap) [] :=
  ⟨rfl, .inr ⟨w.heap.size, cap, cs, rfl, hB, by show (w.heap.push _)[w.heap.size]? = _; simp, Nat.zero_le _, hc, hs, by simp [ecells]⟩⟩

end Go.Proofs.Ytmpkjlknnicdaaa
