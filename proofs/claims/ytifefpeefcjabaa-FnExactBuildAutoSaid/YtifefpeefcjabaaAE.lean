import Derived.Test.YtifefpeefcjabaaAD
namespace Go.Proofs.Ytifefpeefcjabaa
open Go.RowKit
set_option linter.unusedVariables false
set_option maxRecDepth 100000

structure Au where
  pa : List Int
  la : List Int
  fa : List Int
  mu : List Int
  bd : List Bool
def bat (bs : List Bool) (i : Nat) : Bool := bs.getD i false
theorem bat_eq {zs : List Bool} {i : Nat} (h : i < zs.length) : bat zs i = zs[i] := by simp [bat, List.getD, h]
def HBools (B : Nat) (w : World) (v : Value) (bs : List Bool) : Prop :=
  HSlice B w v bs.length fun b off i => w.cell? ⟨b, off + i, none⟩ = some (.bool (bat bs i))
theorem HBools.keep {B : Nat} {w w' : World} {v : Value} {bs : List Bool} (h : HBools B w v bs) (k : Keeps B w w') : HBools B w' v bs :=
  HSlice.mono h (Nat.le_refl _) k.1 fun b off hb hs i hi hc => (k.2 b hb hs _).trans hc
theorem HBools.next {B : Nat} {w w' : World} {v : Value} {bs : List Bool} (h : HBools B w v bs) (k : Nx w w') : HBools B w' v bs := h.keep (k.keeps B)
theorem HBools.base {B B' : Nat} {w : World} {v : Value} {bs : List Bool} (h : HBools B w v bs) (hB : B' ≤ B) : HBools B' w v bs :=
  HSlice.mono h hB (Nat.le_refl _) fun b off hb hs i hi hc => hc
/-- an automaton in memory -/
structure HA (B : Nat) (w : World) (v0 v1 v2 v3 v4 : Value) (A : Au) : Prop where
  h0 : HInts B w v0 A.pa
  h1 : HInts B w v1 A.la
  h2 : HInts B w v2 A.fa
  h3 : HInts B w v3 A.mu
  h4 : HBools B w v4 A.bd
theorem HA.keep {B : Nat} {w w' : World} {v0 v1 v2 v3 v4 : Value} {A : Au} (h : HA B w v0 v1 v2 v3 v4 A) (k : Keeps B w w') : HA B w' v0 v1 v2 v3 v4 A := ⟨h.h0.keep k, h.h1.keep k, h.h2.keep k, h.h3.keep k, h.h4.keep k⟩
theorem HA.next {B : Nat} {w w' : World} {v0 v1 v2 v3 v4 : Value} {A : Au} (h : HA B w v0 v1 v2 v3 v4 A) (k : Nx w w') : HA B w' v0 v1 v2 v3 v4 A := h.keep (k.keeps B)

/-- the word of state s, out of the words before it -/
def nw (A : Au) (ws : List (List Int)) (s : Nat) : List Int := wd ws (iat A.pa s).toNat ++ [iat A.la s]
def okR (A : Au) (s : Nat) : Bool := decide (0 ≤ iat A.pa s) && (decide (iat A.pa s < (s : Int)) && (decide (0 ≤ iat A.la s) && decide (iat A.la s < 4000)))
def okW (A : Au) (ws : List (List Int)) (s : Nat) : Bool := okR A s && (decide ((nw A ws s).length ≤ 402) && befB (wd ws (s - 1)) (nw A ws s))
def okS (A : Au) (ws : List (List Int)) (s : Nat) : Bool := if s = 0 then (iat A.pa 0 == -1) && (iat A.la 0 == -1) else okW A ws s
def spellK (A : Au) : Nat → List (List Int) × Bool
  | 0 => ([], true)
  | s + 1 => if ((spellK A s).2 && okS A (spellK A s).1 s) = true then ((spellK A s).1 ++ [if s = 0 then [] else nw A (spellK A s).1 s], true) else ((spellK A s).1, false)
theorem spellK_go {A : Au} {s : Nat} {ws : List (List Int)} (h : spellK A s = (ws, true)) (ho : okS A ws s = true) : spellK A (s + 1) = (ws ++ [if s = 0 then [] else nw A ws s], true) := by
  rw [spellK, h]
  simp [ho]
theorem spellK_stop {A : Au} {s : Nat} {ws : List (List Int)} (h : spellK A s = (ws, true)) (ho : okS A ws s = false) (d : Nat) : spellK A (s + 1 + d) = (ws, false) := by
  induction d with
  | zero => rw [Nat.add_zero, spellK, h]; simp [ho]
  | succ d ih => rw [← Nat.add_assoc, spellK, ih]; simp
theorem wd_snoc {ws : List (List Int)} {x : List Int} {i : Nat} (h : i < ws.length) : wd (ws ++ [x]) i = wd ws i := by
  simp [wd, List.getD, List.getElem?_append_left h]
theorem wd_end {ws : List (List Int)} {x : List Int} {i : Nat} (h : i = ws.length) : wd (ws ++ [x]) i = x := by
  subst h
  simp [wd, List.getD]

theorem infoWord : (Try.prog.info? 57).map (fun i => (i.zero, i.size, i.bytes)) = some (some (.agg #[.slice none 0 0]), 1, 24) := by kernel_rfl
/-- a row of words of our own -/
def vat (cs : List Value) (i : Nat) : Value := cs.getD i (.bool false)
def OwnW (C : Nat) (w : World) (v : Value) (ws : List (List Int)) : Prop :=
  ∃ cs : List Value, w.ownsRow C 57 1 v ws.length cs ∧ ∀ i, i < ws.length → OwnI C w (vat cs i) (wd ws i)
theorem own_ne {w : World} {B B' e e' size size' n n' : Nat} {v v' : Value} {xs xs' : List Value} (h : w.ownsRow B e size v n xs) (h' : w.ownsRow B' e' size' v' n' xs') (hne : e ≠ e') : v.ownBlock = none ∨ v.ownBlock ≠ v'.ownBlock := by
  rcases h.2 with ⟨rfl, _⟩ | ⟨g, cap, cur, rfl, _, hh, _⟩
  · exact Or.inl rfl
  · rcases h'.2 with ⟨rfl, _⟩ | ⟨g', cap', cur', rfl, _, hh', _⟩
    · exact Or.inr (by simp [Value.ownBlock])
    · refine Or.inr fun e1 => ?_
      simp [Value.ownBlock] at e1
      subst e1
      rw [hh] at hh'
      simp at hh'
      exact hne hh'.2
theorem OwnW.next {C : Nat} {w w' : World} {v : Value} {ws : List (List Int)} (h : OwnW C w v ws) (k : Nx w w') : OwnW C w' v ws := by
  obtain ⟨cs, h1, h2⟩ := h
  refine ⟨cs, ?_, fun i hi => (h2 i hi).next k⟩
  obtain ⟨h3, h4⟩ := h1
  refine ⟨h3, ?_⟩
  rcases h4 with h4 | ⟨g, cap, cur, hv, hg, hh, r⟩
  · exact Or.inl h4
  · exact Or.inr ⟨g, cap, cur, hv, hg, (k.block g (Array.getElem?_eq_some_iff.1 hh).1).trans hh, r⟩
theorem OwnW.slice {C : Nat} {w : World} {v : Value} {ws : List (List Int)} (h : OwnW C w v ws) : ∃ a c, v = .slice a ws.length c := by
  obtain ⟨cs, h1, _⟩ := h
  rcases h1.2 with ⟨rfl, h2⟩ | ⟨g, cap, cur, rfl, _⟩
  · exact ⟨none, 0, by rw [h2]⟩
  · exact ⟨_, _, rfl⟩
theorem OwnW.held {C : Nat} {w : World} {v : Value} {ws : List (List Int)} (h : OwnW C w v ws) : HWords C w v ws := by
  obtain ⟨cs, h1, h2⟩ := h
  obtain ⟨h3, h4⟩ := h1
  rw [Nat.mul_one] at h3
  rcases h4 with ⟨rfl, h4⟩ | ⟨g, cap, cur, rfl, hg, hh, hc, hm, hs, ht⟩
  · unfold HWords
    rw [h4]
    exact ⟨_, _, rfl, by simp [maxLen], fun h => by omega⟩
  · refine ⟨_, _, rfl, by omega, fun h0 => ⟨g, 0, rfl, hg, (Array.getElem?_eq_some_iff.1 hh).1, fun i hi => ⟨vat cs i, ?_, (h2 i hi).held, (h2 i hi).capOk⟩⟩⟩
    have e : (cur.toList.take (ws.length * 1))[i]? = cs[i]? := by rw [ht]
    rw [List.getElem?_take_of_lt (by omega), Array.getElem?_toList] at e
    show w.cell? ⟨g, 0 + i, none⟩ = _
    rw [Nat.zero_add]
    simp [World.cell?, hh, e, vat, List.getD, show i < cs.length by omega]
theorem OwnW.lt {C : Nat} {w : World} {v : Value} {ws : List (List Int)} (h : OwnW C w v ws) : ∀ g, v.ownBlock = some g → C ≤ g := by
  obtain ⟨cs, h1, _⟩ := h
  exact fun g hg => (own_lt h1 g hg).1
theorem ownW_none (B : Nat) (w : World) (h : B ≤ w.heap.size) : OwnW B (w.alloc (.cells #[] 57)) (.slice (some ⟨w.heap.size, 0, none⟩) 0 0) [] :=
  ⟨[], ⟨rfl, .inr ⟨w.heap.size, 0, #[], rfl, h, by show (w.heap.push _)[w.heap.size]? = _; simp, Nat.le_refl _, by simp [maxLen], by simp, by simp⟩⟩, fun i hi => absurd hi (Nat.not_lt_zero _)⟩
/-- one word more -/
theorem OwnW.snoc {C : Nat} {w w0 w' : World} {v v' u : Value} {ws : List (List Int)} {x : List Int} {cs : List Value} (h1 : w.ownsRow C 57 1 v ws.length cs) (h2 : ∀ i, i < ws.length → OwnI C w (vat cs i) (wd ws i))
    (hu : OwnI C w u x) (ho : Obj) (hg : (w.alloc ho).grownBy w' v.ownBlock) (hn : w'.ownsRow C 57 1 v' (ws.length + 1) (cs ++ [u])) : OwnW C w' v' (ws ++ [x]) := by
  have hl : cs.length = ws.length := by have := h1.1; omega
  have hne : (2 : Nat) ≠ 3 := by decide
  have kept : ∀ {z : Value} {zs : List Int}, OwnI C w z zs → OwnI C w' z zs := fun {z zs} hz => World.ownsRow.kept (World.ownsRow.alloc hz ho) hg (own_ne hz h1 (by decide))
  refine ⟨cs ++ [u], by rw [List.length_append]; exact hn, fun i hi => ?_⟩
  rw [List.length_append, List.length_singleton] at hi
  by_cases e : i < ws.length
  · rw [wd_snoc e]
    have : vat (cs ++ [u]) i = vat cs i := by simp [vat, List.getD, List.getElem?_append_left (show i < cs.length by omega)]
    rw [this]
    exact kept (h2 i e)
  · have e' : i = ws.length := by omega
    rw [wd_end e']
    have : vat (cs ++ [u]) i = u := by rw [e', ← hl]; simp [vat, List.getD]
    rw [this]
    exact kept hu
end Go.Proofs.Ytifefpeefcjabaa
