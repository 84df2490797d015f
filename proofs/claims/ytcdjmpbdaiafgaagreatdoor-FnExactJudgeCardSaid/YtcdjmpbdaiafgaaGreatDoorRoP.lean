import Derived.Test.YtcdjmpbdaiafgaaGreatDoorRoM
import Derived.Test.YtcdjmpbdaiafgaaGreatDoorRoN
namespace Go.Proofs.YtcdjmpbdaiafgaaGreatDoor
open Go.RowKit
set_option linter.unusedVariables false
set_option maxRecDepth 100000

theorem SI.keep {w w' : World} {v : Value} {n : Nat} {F : Nat → Int} (h : SI w v n F) (k : ∀ g, v.ownBlock = some g → w'.heap[g]? = w.heap[g]?) : SI w' v n F := by
  obtain ⟨a, c, rfl, hk⟩ := h
  refine ⟨a, c, rfl, fun h0 => ?_⟩
  obtain ⟨g, rfl, hr⟩ := hk h0
  exact ⟨g, rfl, hr.of_block (k g rfl)⟩
theorem SE.keep {w w' : World} {v : Value} {n : Nat} {V : Nat → Nat → Value} (h : SE w v n V) (k : ∀ g, v.ownBlock = some g → w'.heap[g]? = w.heap[g]?) : SE w' v n V := by
  obtain ⟨a, c, rfl, hk⟩ := h
  refine ⟨a, c, rfl, fun h0 => ?_⟩
  obtain ⟨g, rfl, cs, hb, r⟩ := hk h0
  exact ⟨g, rfl, cs, (k g rfl).trans hb, r⟩
theorem OwnE.se {B : Nat} {w : World} {v : Value} {es : List Eg} (h : OwnE B w v es) : SE w v es.length (fun i j => ((cells7 (eat es i))[j]?).getD (.bool false)) := by
  rcases h.2 with ⟨rfl, h2⟩ | ⟨g, cap, cur, rfl, hg, hh, hc, hm, hs, ht⟩
  · rw [h2]; exact ⟨none, 0, rfl, fun h => absurd h (Nat.lt_irrefl _)⟩
  · refine ⟨_, _, rfl, fun _ => ⟨g, rfl, cur, hh, by rw [hs]; exact Nat.mul_le_mul_right 7 hc, fun i j hi hj => ?_⟩⟩
    have h3 : (cur.toList.take (es.length * 7))[i * 7 + j]? = (ecells es)[i * 7 + j]? := by rw [ht]
    rw [List.getElem?_take_of_lt (by omega), ecells_at hi hj] at h3
    rw [← Array.getElem?_toList, h3]
    have : j < (cells7 (eat es i)).length := hj
    show (cells7 (eat es i))[j]? = some (((cells7 (eat es i))[j]?).getD (.bool false))
    rw [List.getElem?_eq_getElem this]
    rfl
theorem OwnI.si {B : Nat} {w : World} {v : Value} {zs : List Int} (h : OwnI B w v zs) : SI w v zs.length (iat zs) := by
  rcases h.opened with ⟨rfl, h2⟩ | ⟨g, cap, rfl, hg, hm, hr⟩
  · rw [h2]; exact ⟨none, 0, rfl, fun h => absurd h (Nat.lt_irrefl _)⟩
  · exact ⟨_, _, rfl, fun _ => ⟨g, rfl, hr⟩⟩

/-- four open rows apart -/
structure Four (B : Nat) (w : World) (v0 v1 v2 v3 : Value) (n0 n1 n2 n3 : Nat) (F0 : Nat → Int) (V : Nat → Nat → Value) (F2 F3 : Nat → Int) : Prop where
  s0 : SI w v0 n0 F0
  s1 : SE w v1 n1 V
  s2 : SI w v2 n2 F2
  s3 : SI w v3 n3 F3
  b0 : ∀ g, v0.ownBlock = some g → B ≤ g ∧ g < w.heap.size
  b1 : ∀ g, v1.ownBlock = some g → B ≤ g ∧ g < w.heap.size
  b2 : ∀ g, v2.ownBlock = some g → B ≤ g ∧ g < w.heap.size
  b3 : ∀ g, v3.ownBlock = some g → B ≤ g ∧ g < w.heap.size
  d01 : ∀ g, v0.ownBlock = some g → v1.ownBlock ≠ some g
  d02 : ∀ g, v0.ownBlock = some g → v2.ownBlock ≠ some g
  d03 : ∀ g, v0.ownBlock = some g → v3.ownBlock ≠ some g
  d12 : ∀ g, v1.ownBlock = some g → v2.ownBlock ≠ some g
  d13 : ∀ g, v1.ownBlock = some g → v3.ownBlock ≠ some g
  d23 : ∀ g, v2.ownBlock = some g → v3.ownBlock ≠ some g
theorem own_lt {B : Nat} {w : World} {ty sz : Nat} {v : Value} {n : Nat} {xs : List Value} (h : w.ownsRow B ty sz v n xs) : ∀ g, v.ownBlock = some g → B ≤ g ∧ g < w.heap.size := by
  intro g hg
  rcases h.2 with ⟨rfl, _⟩ | ⟨g', cap, cur, rfl, hb, hh, _⟩
  · simp [Value.ownBlock] at hg
  · simp [Value.ownBlock] at hg; subst hg; exact ⟨hb, (Array.getElem?_eq_some_iff.1 hh).1⟩
theorem RoadOwn.four {B : Nat} {w : World} {v0 v1 v2 v3 : Value} {R : Rd} (h : RoadOwn B w v0 v1 v2 v3 R) : ∃ F0 V F2 F3, Four B w v0 v1 v2 v3 R.nodes.length R.edges.length R.first.length R.out.length F0 V F2 F3 := by
  rcases h with ⟨rfl, rfl, rfl, rfl, rfl⟩ | ⟨gF, gO, cF, cO, rfl, rfl, h1, h2, h3, h4, h5, h6, h7, h8, h9⟩
  · refine ⟨fun _ => 0, fun _ _ => .bool false, fun _ => 0, fun _ => 0, ⟨none, 0, rfl, fun h => absurd h (Nat.lt_irrefl _)⟩, ⟨none, 0, rfl, fun h => absurd h (Nat.lt_irrefl _)⟩, ⟨none, 0, rfl, fun h => absurd h (Nat.lt_irrefl _)⟩, ⟨none, 0, rfl, fun h => absurd h (Nat.lt_irrefl _)⟩, ?_, ?_, ?_, ?_, ?_, ?_, ?_, ?_, ?_, ?_⟩ <;> intro g hg <;> simp [Value.ownBlock] at hg
  · have z4 := h4.lt
    have z5 := h5.lt
    have l0 := own_lt h6
    have l1 := own_lt h2
    have e2 : (Value.slice (some ⟨gF, 0, none⟩) R.first.length cF).ownBlock = some gF := rfl
    have e3 : (Value.slice (some ⟨gO, 0, none⟩) R.out.length cO).ownBlock = some gO := rfl
    refine ⟨_, _, _, _, h6.si, h2.se, ⟨_, _, rfl, fun _ => ⟨gF, rfl, h4⟩⟩, ⟨_, _, rfl, fun _ => ⟨gO, rfl, h5⟩⟩, ?_, l1, ?_, ?_, ?_, ?_, ?_, ?_, ?_, ?_⟩
    · intro g hg; have := l0 g hg; omega
    · intro g hg; rw [e2] at hg; have := Option.some.inj hg; omega
    · intro g hg; rw [e3] at hg; have := Option.some.inj hg; omega
    · intro g hg hg'; have := l0 g hg; have := h3 g hg'; omega
    · intro g hg hg'; rw [e2] at hg'; have := l0 g hg; have := Option.some.inj hg'; omega
    · intro g hg hg'; rw [e3] at hg'; have := l0 g hg; have := Option.some.inj hg'; omega
    · intro g hg hg'; rw [e2] at hg'; have := h3 g hg; have := Option.some.inj hg'; omega
    · intro g hg hg'; rw [e3] at hg'; have := h3 g hg; have := Option.some.inj hg'; omega
    · intro g hg hg'; rw [e2] at hg; rw [e3] at hg'; have := Option.some.inj hg; have := Option.some.inj hg'; omega

end Go.Proofs.YtcdjmpbdaiafgaaGreatDoor
