import Derived.Test.YtifefpeefcjabaaAN
import Derived.Test.YtifefpeefcjabaaDL
namespace Go.Proofs.Ytifefpeefcjabaa
open Go.RowKit Go.ChangeShapes Go.WideShapes
set_option linter.unusedVariables false
set_option maxRecDepth 100000

theorem cellsR : Try.prog.cellsOf 52 = 3 := by kernel_rfl
theorem rat_eq {zs : List Ru} {i : Nat} (h : i < zs.length) : rat zs i = zs[i] := by simp [rat, List.getD, h]

section
variable {H : Type} {enc : TypeId × Value → H} {w : World}
theorem list_of {α : Type} {n : Nat} {p : Nat → α → Prop} (h : ∀ i, i < n → ∃ x, p i x) : ∃ xs : List α, xs.length = n ∧ ∀ i (hi : i < xs.length), p i xs[i] := by
  induction n with
  | zero => exact ⟨[], rfl, fun i hi => absurd hi (Nat.not_lt_zero _)⟩
  | succ n ih =>
    obtain ⟨xs, hl, hx⟩ := ih (fun i hi => h i (by omega))
    obtain ⟨x, hp⟩ := h n (by omega)
    refine ⟨xs ++ [x], by simp [hl], fun i hi => ?_⟩
    by_cases e : i < xs.length
    · rw [List.getElem_append_left e]; exact hx i e
    · have e' : i = xs.length := by simp at hi; omega
      subst e'
      rw [List.getElem_append_right (Nat.le_refl _)]
      simpa [hl] using hp
theorem open_rule_list {n : Nat} {c : Value} {y : DataW H × List MemPlace} (h : DataW.trod enc Try.prog w 0 (fun _ => true) true n 22 [c] = some y) : ∃ xs, HRules0 0 w c xs := by
  rcases Deep.open_slice Try.underlying22 h with ⟨hcs, _⟩ | ⟨a, len, cap, m, n', D, Pl, hcs, _, hl, hm, hmm, _, hx⟩
  · simp at hcs; subst hcs
    exact ⟨[], none, 0, rfl, Nat.zero_le _, fun h0 => absurd h0 (Nat.lt_irrefl _)⟩
  · simp at hcs; subst hcs
    have hmm' : m = cap := by simpa using hmm
    rw [cellsR] at hx
    by_cases hlz : len = 0
    · subst hlz
      exact ⟨[], some a, cap, rfl, Nat.zero_le _, fun h0 => absurd h0 (Nat.lt_irrefl _)⟩
    obtain ⟨b, off, rfl⟩ := row_at (k := 3) (by decide) hx (show 0 < m by omega)
    have hel : ∀ i, i < len → ∃ x : Ru, b < w.heap.size ∧ HRule0 0 w b (off + i * 3) x := by
      intro i hi
      obtain ⟨cs, h1, h2⟩ := hx i (by omega)
      obtain ⟨_, hlen, hcell⟩ := World.cells?_some h1
      obtain ⟨xs, k, _, _, _, hxs, hf⟩ := DataW.trod_struct Try.underlying52 h2
      match cs, hlen with
      | [e0, e1, e2], _ =>
        have f0 : DataW.trod enc Try.prog w 0 (fun _ => true) true k 2 (([e0, e1, e2].drop 0).take (Try.prog.cellsOf 2)) = xs[0]? := hf 0 _ rfl
        have f1 : DataW.trod enc Try.prog w 0 (fun _ => true) true k 4 (([e0, e1, e2].drop 1).take (Try.prog.cellsOf 4)) = xs[1]? := hf 1 _ rfl
        have f2 : DataW.trod enc Try.prog w 0 (fun _ => true) true k 24 (([e0, e1, e2].drop 2).take (Try.prog.cellsOf 24)) = xs[2]? := hf 2 _ rfl
        have hxs3 : xs.length = 3 := hxs
        rw [List.getElem?_eq_getElem (by omega)] at f0 f1 f2
        simp only [cells2, cells4, cells22, List.drop_zero, List.drop_succ_cons, List.take_succ_cons, List.take_zero] at f0 f1 f2
        obtain ⟨id, q0, _⟩ := DataW.trod_int Try.underlying2 f0
        obtain ⟨bo, q1, _⟩ := DataW.trod_bool Try.underlying4 f1
        obtain ⟨ns, q2⟩ := open_int_list (c := e2) f2
        simp at q0 q1
        subst q0 q1
        have c0 := hcell 0 (by omega)
        have c1 := hcell 1 (by omega)
        have c2 := hcell 2 (by omega)
        rw [Deep.add_add] at c0 c1 c2
        rw [add_at] at c0 c1 c2
        refine ⟨⟨id, bo, ns⟩, cell_lt c0, e2, ?_, ?_, ?_, q2⟩
        · simpa using c0
        · simpa [Nat.add_assoc] using c1
        · simpa [Nat.add_assoc] using c2
    obtain ⟨xs, hlx, hxs⟩ := list_of hel
    subst hlx
    refine ⟨xs, some ⟨b, off, none⟩, cap, rfl, by omega, fun h0 => ?_⟩
    obtain ⟨hb, _⟩ := hxs 0 h0
    refine ⟨b, off, rfl, Nat.zero_le _, hb, fun i hi => ?_⟩
    obtain ⟨_, hw⟩ := hxs i hi
    rw [rat_eq hi]
    exact hw
theorem open_rules {v : Value} {d : DataW H} {p : List MemPlace} {b0 : Nat} {r : Reach} (hv : Value.okWide Try.prog w r b0 22 v) (h : DataW.Trod enc Try.prog w 0 (fun _ => true) true 22 v d p) : ∃ rs, HRules0 0 w v rs := by
  obtain ⟨fuel, hf⟩ := h
  obtain ⟨a, n, c, rfl⟩ := okWide_slice Try.underlying22 hv
  exact open_rule_list hf
end
end Go.Proofs.Ytifefpeefcjabaa
