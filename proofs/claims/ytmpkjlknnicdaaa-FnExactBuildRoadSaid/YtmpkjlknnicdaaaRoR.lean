import Derived.Test.YtmpkjlknnicdaaaRoP
import Derived.Test.YtmpkjlknnicdaaaRoJ
import Derived.Test.YtmpkjlknnicdaaaSpD
import Derived.Maps.AppendAt
import Derived.Deep.RegionLaw
import Derived.Deep.CutRange
import Derived.Lib.QuietBelow
namespace Go.Proofs.Ytmpkjlknnicdaaa
open Go.RowKit
set_option linter.unusedVariables false
set_option maxRecDepth 100000

theorem OwnI.snoc {B : Nat} {w : World} {v : Value} {zs : List Int} {z : Int} (h : w.ownsRow B 2 1 v (zs.length + 1) (icells zs ++ [.int .i64 z])) : OwnI B w v (zs ++ [z]) := by
  unfold OwnI
  have e : icells (zs ++ [z]) = icells zs ++ [.int .i64 z] := by simp [icells]
  rw [List.length_append, e]
  exact h
/-- a block that was there and is not the row that grew -/
theorem Blk.grown {w w' : World} {o : Option Nat} {b : Nat} {cs : Array Value} (h : Blk w b cs) (k : w.grownBy w' o) (hn : some b ≠ o) : Blk w' b cs := by
  have hl := h.lt
  obtain ⟨t, hb⟩ := h
  exact ⟨t, (k.block b hl hn).trans hb⟩
/-- the road's box while its firsts and outs are told -/
structure FO (gb : Nat) (A B : Value) (C : Nat) (w : World) (vF vO : Value) (fs os : List Int) : Prop where
  box : Blk w gb #[A, B, vF, vO]
  F : OwnI C w vF fs
  O : OwnI C w vO os
  ne : ∀ g, vF.ownBlock = some g → vO.ownBlock ≠ some g
theorem FO.boxF {gb C : Nat} {A B vF vO : Value} {w w' : World} {fs os : List Int} (h : FO gb A B C w vF vO fs os) (hC : gb < C) {o : Obj} (hg : (w.alloc o).grownBy w' vF.ownBlock) : Blk w' gb #[A, B, vF, vO] :=
  (h.box.alloc o).grown hg fun e => by have := (own_lt h.F gb e.symm).1; omega
theorem FO.boxO {gb C : Nat} {A B vF vO : Value} {w w' : World} {fs os : List Int} (h : FO gb A B C w vF vO fs os) (hC : gb < C) {o : Obj} (hg : (w.alloc o).grownBy w' vO.ownBlock) : Blk w' gb #[A, B, vF, vO] :=
  (h.box.alloc o).grown hg fun e => by have := (own_lt h.O gb e.symm).1; omega
theorem size_alloc' (w : World) (o : Obj) : (w.alloc o).heap.size = w.heap.size + 1 := Array.size_push _
theorem FO.first {gb C : Nat} {A B vF vO v' : Value} {w w' : World} {fs os : List Int} {z : Int} (h : FO gb A B C w vF vO fs os) (hC : gb < C) {o : Obj}
    (hown : w'.ownsRow C 2 1 v' (fs.length + 1) (icells fs ++ [.int .i64 z])) (hg : (w.alloc o).grownBy w' vF.ownBlock) (hat : v'.ownBlock = vF.ownBlock ∨ v'.ownBlock = some (w.heap.size + 1)) :
    FO gb A B C (w'.setCell ⟨gb, 2, none⟩ v') v' vO (fs ++ [z]) os := by
  refine ⟨(h.boxF hC hg).set 2 v', own_store (OwnI.snoc hown) hC 2 _, own_store (World.ownsRow.kept (World.ownsRow.alloc h.O o) hg ?_) hC 2 _, fun g hg' hO => ?_⟩
  · cases e : vO.ownBlock with
    | none => exact Or.inl rfl
    | some g => exact Or.inr fun e' => h.ne g e'.symm e
  · rcases hat with hat | hat
    · exact h.ne g (hat ▸ hg') hO
    · rw [hat] at hg'
      have := (own_lt h.O g hO).2
      have e := Option.some.inj hg'
      omega
theorem FO.out {gb C : Nat} {A B vF vO v' : Value} {w w' : World} {fs os : List Int} {z : Int} (h : FO gb A B C w vF vO fs os) (hC : gb < C) {o : Obj}
    (hown : w'.ownsRow C 2 1 v' (os.length + 1) (icells os ++ [.int .i64 z])) (hg : (w.alloc o).grownBy w' vO.ownBlock) (hat : v'.ownBlock = vO.ownBlock ∨ v'.ownBlock = some (w.heap.size + 1)) :
    FO gb A B C (w'.setCell ⟨gb, 3, none⟩ v') vF v' fs (os ++ [z]) := by
  refine ⟨(h.boxO hC hg).set 3 v', own_store (World.ownsRow.kept (World.ownsRow.alloc h.F o) hg ?_) hC 3 _, own_store (OwnI.snoc hown) hC 3 _, fun g hF hg' => ?_⟩
  · cases e : vF.ownBlock with
    | none => exact Or.inl rfl
    | some g => exact Or.inr fun e' => h.ne g e e'.symm
  · rcases hat with hat | hat
    · exact h.ne g hF (hat ▸ hg')
    · rw [hat] at hg'
      have := (own_lt h.F g hF).2
      have e := Option.some.inj hg'
      omega
theorem Only.app {gb i : Nat} {W w w' : World} {r : Option Nat} {o : Obj} (h : Only (some gb) W w) (hg : (w.alloc o).grownBy w' r) (hr : ∀ g, r = some g → W.heap.size ≤ g) (u : Value) : Only (some gb) W (w'.setCell ⟨gb, i, none⟩ u) := by
  refine Only.set ?_ rfl u
  have hs := h.size
  have hz := hg.size
  rw [size_alloc'] at hz
  refine ⟨hg.os.trans h.os, hg.tape.trans h.tape, hg.output.trans h.output, by omega, fun b hb hn => ?_⟩
  rw [hg.block b (by rw [size_alloc']; omega) (fun e => by have := hr b e.symm; omega)]
  have : (w.alloc o).heap[b]? = w.heap[b]? := (box1 w o).block b (by omega)
  rw [this]
  exact h.block b hb hn
theorem Only.blk {o : Option Nat} {W w : World} {b : Nat} {cs : Array Value} (k : Only o W w) (h : Blk W b cs) (hn : some b ≠ o) : Blk w b cs := by
  have hl := h.lt
  obtain ⟨t, hb⟩ := h
  exact ⟨t, (k.block b hl hn).trans hb⟩
theorem Only.own {o : Option Nat} {W w : World} {B ty sz : Nat} {v : Value} {n : Nat} {xs : List Value} (k : Only o W w) (h : W.ownsRow B ty sz v n xs) (hn : ∀ g, v.ownBlock = some g → some g ≠ o) : w.ownsRow B ty sz v n xs := by
  obtain ⟨h1, h2⟩ := h
  refine ⟨h1, ?_⟩
  rcases h2 with h2 | ⟨g, cap, cur, hv, hg, hh, r⟩
  · exact Or.inl h2
  · exact Or.inr ⟨g, cap, cur, hv, hg, (k.block g (Array.getElem?_eq_some_iff.1 hh).1 (hn g (by rw [hv]; rfl))).trans hh, r⟩
/-- the firsts and the outs, as far as they are told -/
def fsL (N : Nt) (p : Nat) : List Int := (List.range p).map (fun q => ((cL (tlN N) q (mN N) : Nat) : Int))
def osL (N : Nt) (p k : Nat) : List Int := (outS (tlN N) (mN N) p ++ grp (tlN N) p k).map (fun e : Nat => (e : Int))
theorem fsL_len (N : Nt) (p : Nat) : (fsL N p).length = p := by simp [fsL]
theorem osL_len (N : Nt) (p k : Nat) : (osL N p k).length = cL (tlN N) p (mN N) + cE (tlN N) p k := by simp [osL, outS_len, grp_len]
theorem osL_len0 (N : Nt) (p : Nat) : (osL N p 0).length = cL (tlN N) p (mN N) := by rw [osL_len]; rfl
theorem fsL_succ (N : Nt) (p : Nat) : fsL N (p + 1) = fsL N p ++ [((osL N p 0).length : Int)] := by rw [osL_len0]; simp [fsL, List.range_succ]
theorem osL_yes {N : Nt} {p k : Nat} (h : tlN N k = p) : osL N p (k + 1) = osL N p k ++ [(k : Int)] := by simp [osL, grp, h]
theorem osL_no {N : Nt} {p k : Nat} (h : tlN N k ≠ p) : osL N p (k + 1) = osL N p k := by simp [osL, grp, h]
theorem osL_up (N : Nt) (p : Nat) : osL N p (mN N) = osL N (p + 1) 0 := by simp [osL, outS, grp]
theorem tail_tl {N : Nt} (h : RoadIn N) {e : Nat} (he : e < mN N) : (eat (E1 N) e).tail = ((tlN N e : Nat) : Int) := by
  have := (E1_tail h (e := e) (by rw [E1_len]; exact he)).1
  unfold tlN tlE
  omega
end Go.Proofs.Ytmpkjlknnicdaaa
