import Derived.Test.YtifefpeefcjabaaBH
namespace Go.Proofs.Ytifefpeefcjabaa
open Go.RowKit Go.Maps
set_option linter.unusedVariables false
set_option maxRecDepth 100000

theorem OwnP.keep {C : Nat} {o o' : Option Nat} {w w' : World} {v : Value} {bs : List Nat} (h : OwnP C w v bs) (k : But o o' w w') (hn : ∀ g, v.ownBlock = some g → some g ≠ o ∧ some g ≠ o') : OwnP C w' v bs := by
  obtain ⟨h1, h2⟩ := h
  refine ⟨h1, ?_⟩
  rcases h2 with h2 | ⟨g, cap, cur, hv, hg, hh, r⟩
  · exact Or.inl h2
  · have hb : v.ownBlock = some g := by rw [hv]; rfl
    exact Or.inr ⟨g, cap, cur, hv, hg, (k.block g (Array.getElem?_eq_some_iff.1 hh).1 (hn g hb).1 (hn g hb).2).trans hh, r⟩
/-- of what lay before, the nodes alone may have turned -/
structure Fr (n : Nat) (bl : Nat → Nat) (w0 w : World) : Prop where
  os : w.os = w0.os
  tape : w.tape = w0.tape
  output : w.output = w0.output
  size : w0.heap.size ≤ w.heap.size
  block : ∀ b, b < w0.heap.size → (∀ t, t < n → b ≠ bl t) → w.heap[b]? = w0.heap[b]?
theorem Fr.but {n : Nat} {bl : Nat → Nat} {w0 w w' : World} {o o' : Option Nat} (h : Fr n bl w0 w) (k : But o o' w w') (ho : ∀ g, o = some g → w0.heap.size ≤ g) (ho' : ∀ g, o' = some g → w0.heap.size ≤ g) : Fr n bl w0 w' :=
  ⟨k.os.trans h.os, k.tape.trans h.tape, k.output.trans h.output, Nat.le_trans h.size k.size, fun b hb hn => (k.block b (Nat.lt_of_lt_of_le hb h.size) (fun e => by have := ho b e.symm; omega) (fun e => by have := ho' b e.symm; omega)).trans (h.block b hb hn)⟩
theorem Fr.set {n t : Nat} {bl : Nat → Nat} {w0 w : World} (h : Fr n bl w0 w) (ht : t < n) (i : Nat) (v : Value) : Fr n bl w0 (w.setCell ⟨bl t, i, none⟩ v) :=
  ⟨h.os, h.tape, h.output, by rw [size_set']; exact h.size, fun b hb hn => (Below.heap_setCell _ _ _ _ (hn t ht)).trans (h.block b hb hn)⟩
/-- linkStates under way: i states taken, c put, the fails set below f -/
structure LS (A : Au) (n i f c : Nat) (tk : Int) (w0 w : World) (bl : Nat → Nat) (mv : Nat → Value) (sv qv : Value) : Prop where
  tr : ∃ fl, TR A n f w bl fl mv (fun _ => 0)
  qb : Blk w w0.heap.size #[qv, .int .i64 tk]
  qo : OwnP (w0.heap.size + 1) w qv ((List.range c).map bl)
  so : OwnP (w0.heap.size + 1) w sv ((List.range i).map bl)
  ap : ∀ g, qv.ownBlock = some g → sv.ownBlock ≠ some g
  bb : ∀ t, t < n → bl t < w0.heap.size
  mb : ∀ t b, t < n → mapBlk (mv t) = some b → b < w0.heap.size
  fr : Fr n bl w0 w
theorem LS.qlt {A : Au} {n i f c : Nat} {tk : Int} {w0 w : World} {bl : Nat → Nat} {mv : Nat → Value} {sv qv : Value} (h : LS A n i f c tk w0 w bl mv sv qv) : w0.heap.size < w.heap.size := h.qb.lt
theorem LS.trk {A : Au} {n i f c : Nat} {tk : Int} {w0 w w' : World} {bl : Nat → Nat} {mv : Nat → Value} {sv qv : Value} (h : LS A n i f c tk w0 w bl mv sv qv) {o o' : Option Nat} (k : But o o' w w') (ho : ∀ g, o = some g → w0.heap.size ≤ g) (ho' : ∀ g, o' = some g → w0.heap.size ≤ g) : ∃ fl, TR A n f w' bl fl mv (fun _ => 0) := by
  obtain ⟨fl, ht⟩ := h.tr
  refine ⟨fl, ht.keep k (fun t hn => ?_) (fun t mb hn e => ?_)⟩
  · have := h.bb t hn
    exact ⟨fun e => by have := ho _ e.symm; omega, fun e => by have := ho' _ e.symm; omega⟩
  · have := h.mb t mb hn e
    exact ⟨fun e => by have := ho _ e.symm; omega, fun e => by have := ho' _ e.symm; omega⟩
theorem LS.next {A : Au} {n i f c : Nat} {tk : Int} {w0 w w' : World} {bl : Nat → Nat} {mv : Nat → Value} {sv qv : Value} (h : LS A n i f c tk w0 w bl mv sv qv) (k : Nx w w') : LS A n i f c tk w0 w' bl mv sv qv :=
  ⟨h.trk (o := none) (o' := none) (But.of_nx k) (by simp) (by simp), h.qb.next k, h.qo.next k, h.so.next k, h.ap, h.bb, h.mb, h.fr.but (o := none) (o' := none) (But.of_nx k) (by simp) (by simp)⟩
theorem LS.took {A : Au} {n i f c : Nat} {tk tk' : Int} {w0 w w' : World} {bl : Nat → Nat} {mv : Nat → Value} {sv qv : Value} (h : LS A n i f c tk w0 w bl mv sv qv) (hb : Blk w' w0.heap.size #[qv, .int .i64 tk']) (k : But (some w0.heap.size) none w w') : LS A n i f c tk' w0 w' bl mv sv qv :=
  ⟨h.trk k (fun g e => by cases e; exact Nat.le_refl _) (by simp), hb,
   h.qo.keep k (fun g e => ⟨fun e' => by have := (own_lt h.qo g e).1; have := Option.some.inj e'; omega, by simp⟩),
   h.so.keep k (fun g e => ⟨fun e' => by have := (own_lt h.so g e).1; have := Option.some.inj e'; omega, by simp⟩),
   h.ap, h.bb, h.mb, h.fr.but k (fun g e => by cases e; exact Nat.le_refl _) (by simp)⟩
theorem range_snoc (bl : Nat → Nat) (c : Nat) : (List.range c).map bl ++ [bl c] = (List.range (c + 1)).map bl := by simp [List.range_succ]
theorem LS.put {A : Au} {n i f c : Nat} {tk : Int} {w0 w w' : World} {bl : Nat → Nat} {mv : Nat → Value} {sv qv qv' : Value} (h : LS A n i f c tk w0 w bl mv sv qv) (hb : Blk w' w0.heap.size #[qv', .int .i64 tk]) (ho : OwnP (w0.heap.size + 1) w' qv' ((List.range c).map bl ++ [bl c])) (hat : qv'.ownBlock = qv.ownBlock ∨ qv'.ownBlock = some (w.heap.size + 1)) (k : But (some w0.heap.size) qv.ownBlock w w') : LS A n i f (c + 1) tk w0 w' bl mv sv qv' := by
  have hq : ∀ g, qv.ownBlock = some g → w0.heap.size ≤ g := fun g e => by have := (own_lt h.qo g e).1; omega
  refine ⟨h.trk k (fun g e => by cases e; exact Nat.le_refl _) hq, hb, by rw [← range_snoc]; exact ho, h.so.keep k (fun g e => ⟨fun e' => ?_, fun e' => h.ap g e'.symm e⟩), fun g e e' => ?_, h.bb, h.mb, h.fr.but k (fun g e => by cases e; exact Nat.le_refl _) hq⟩
  · have := (own_lt h.so g e).1
    have := Option.some.inj e'
    omega
  · rcases hat with hat | hat
    · exact h.ap g (by rw [← hat]; exact e) e'
    · rw [hat] at e
      have := (own_lt h.so g e').2
      have := Option.some.inj e
      omega
theorem LS.push {A : Au} {n i f c : Nat} {tk : Int} {w0 w w' : World} {bl : Nat → Nat} {mv : Nat → Value} {sv sv' qv : Value} (h : LS A n i f c tk w0 w bl mv sv qv) (ho : OwnP (w0.heap.size + 1) w' sv' ((List.range i).map bl ++ [bl i])) (hat : sv'.ownBlock = sv.ownBlock ∨ sv'.ownBlock = some (w.heap.size + 1)) (k : But none sv.ownBlock w w') : LS A n (i + 1) f c tk w0 w' bl mv sv' qv := by
  have hs : ∀ g, sv.ownBlock = some g → w0.heap.size ≤ g := fun g e => by have := (own_lt h.so g e).1; omega
  refine ⟨h.trk k (by simp) hs, h.qb.keep k (by simp) (fun e => ?_), h.qo.keep k (fun g e => ⟨by simp, fun e' => h.ap g e e'.symm⟩), by rw [← range_snoc]; exact ho, fun g e e' => ?_, h.bb, h.mb, h.fr.but k (by simp) hs⟩
  · have := (own_lt h.so _ e.symm).1
    omega
  · rcases hat with hat | hat
    · exact h.ap g e (by rw [← hat]; exact e')
    · rw [hat] at e'
      have := (own_lt h.qo g e).2
      have := Option.some.inj e'
      omega
/-- the fail of a node is set -/
theorem LS.fail {A : Au} {n i f c t : Nat} {tk : Int} {w0 w : World} {bl : Nat → Nat} {mv : Nat → Value} {sv qv : Value} (h : LS A n i f c tk w0 w bl mv sv qv) (h1 : 1 ≤ t) (ht : t < n) (hf : f ≤ t) (x : Value) : LS A n i f c tk w0 (w.setCell ⟨bl t, 6, none⟩ x) bl mv sv qv := by
  obtain ⟨fl, hT⟩ := h.tr
  have hlt := h.bb t ht
  exact ⟨⟨_, hT.setFail h1 ht hf x⟩, h.qb.setOther (by omega) _ _, own_store h.qo (by omega) _ _, own_store h.so (by omega) _ _, h.ap, h.bb, h.mb, h.fr.set ht _ _⟩
theorem LS.failed {A : Au} {n i f c : Nat} {tk : Int} {w0 w : World} {bl : Nat → Nat} {mv : Nat → Value} {sv qv : Value} (h : LS A n i f c tk w0 w bl mv sv qv) (h1 : 1 ≤ f) (ht : f < n) (b : Nat) (hx : b = bl (failOf A n f)) : LS A n i (f + 1) c tk w0 (w.setCell ⟨bl f, 6, none⟩ (ptr b)) bl mv sv qv := by
  subst hx
  obtain ⟨fl, hT⟩ := h.tr
  have hlt := h.bb f ht
  exact ⟨⟨_, (hT.setFail h1 ht (Nat.le_refl _) _).up (upd_at _ _ _)⟩, h.qb.setOther (by omega) _ _, own_store h.qo (by omega) _ _, own_store h.so (by omega) _ _, h.ap, h.bb, h.mb, h.fr.set ht _ _⟩
theorem LS.start {A : Au} {n : Nat} {w : World} {bl : Nat → Nat} {mv : Nat → Value} {fl : Nat → Value} (h : TR A n 1 w bl fl mv (fun _ => 0)) (t : TypeId) : LS A n 0 1 0 0 w (w.alloc (.cells #[.slice none 0 0, .int .i64 0] t)) bl mv (.slice none 0 0) (.slice none 0 0) := by
  have k := box1 w (.cells #[.slice none 0 0, .int .i64 0] t)
  exact ⟨⟨fl, h.keep (o := none) (o' := none) (But.of_nx k) (by simp) (by simp)⟩, Blk.new w _ _ _ rfl, ⟨by simp [pcells], Or.inl ⟨rfl, rfl⟩⟩, ⟨by simp [pcells], Or.inl ⟨rfl, rfl⟩⟩, fun g e => by simp [Value.ownBlock] at e, fun t ht => (h.nd t ht).lt, fun t mb ht e => (h.kd t ht).lt e, ⟨k.os, k.tape, k.output, k.size, fun b hb _ => k.block b hb⟩⟩
end Go.Proofs.Ytifefpeefcjabaa
