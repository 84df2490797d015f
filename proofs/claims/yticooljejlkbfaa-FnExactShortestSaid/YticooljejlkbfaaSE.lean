import Derived.Test.YticooljejlkbfaaSA
import Derived.Test.YticooljejlkbfaaSD
namespace Go.Proofs.Yticooljejlkbfaa
open Go.RowKit Go.Sort
set_option linter.unusedVariables false
set_option maxRecDepth 100000

/-- the first from k on, n of them, that fits; -1 where none does -/
def findA (f : Nat → Bool) : Nat → Nat → Int
  | _, 0 => -1
  | k, n + 1 => if f k then (k : Int) else findA f (k + 1) n
theorem findA_some {f : Nat → Bool} {k n : Nat} (h : 0 ≤ findA f k n) : ∃ a : Nat, findA f k n = a ∧ k ≤ a ∧ a < k + n ∧ f a = true := by
  induction n generalizing k with
  | zero => simp [findA] at h
  | succ n ih =>
    unfold findA at h ⊢
    by_cases e : f k = true
    · rw [if_pos e]; exact ⟨k, rfl, Nat.le_refl _, by omega, e⟩
    · rw [if_neg e] at h ⊢
      obtain ⟨a, h1, h2, h3, h4⟩ := ih h
      exact ⟨a, h1, by omega, by omega, h4⟩
theorem findA_ge (f : Nat → Bool) (k n : Nat) : -1 ≤ findA f k n := by
  induction n generalizing k with
  | zero => simp [findA]
  | succ n ih =>
    unfold findA
    split
    · omega
    · exact ih _
theorem findA_none {f : Nat → Bool} {k n : Nat} (h : ∀ a, k ≤ a → a < k + n → f a = false) : findA f k n = -1 := by
  induction n generalizing k with
  | zero => rfl
  | succ n ih =>
    unfold findA
    rw [if_neg (by rw [h k (Nat.le_refl _) (by omega)]; simp)]
    exact ih fun a h1 h2 => h a (by omega) (by omega)
theorem findA_one {f : Nat → Bool} {k n a : Nat} (h1 : k ≤ a) (h2 : a < k + n) (ha : f a = true) (hu : ∀ b, k ≤ b → b < a → f b = false) : findA f k n = a := by
  induction n generalizing k with
  | zero => omega
  | succ n ih =>
    unfold findA
    by_cases e : k = a
    · subst e; rw [if_pos ha]
    · rw [if_neg (by rw [hu k (Nat.le_refl _) (by omega)]; simp)]
      exact ih (by omega) (by omega) fun b hb hb' => hu b (by omega) hb'

def wkat (ws : List Wk) (i : Nat) : Wk := ws.getD i ⟨[], 0, []⟩
theorem wkat_eq {ws : List Wk} {i : Nat} (h : i < ws.length) : wkat ws i = ws[i] := by simp [wkat, List.getD, h]
theorem wkat_mem {ws : List Wk} {i : Nat} (h : i < ws.length) : wkat ws i ∈ ws := by rw [wkat_eq h]; exact List.getElem_mem h
theorem mem_wkat {ws : List Wk} {x : Wk} (h : x ∈ ws) : ∃ i, i < ws.length ∧ wkat ws i = x := by
  obtain ⟨i, hi, e⟩ := List.mem_iff_getElem.1 h
  exact ⟨i, hi, by rw [wkat_eq hi]; exact e⟩
/-- an own row of walks, their lists own too -/
def OwnK (C : Nat) (w : World) (v : Value) (ws : List Wk) : Prop :=
  ∃ F : Nat → Value, w.ownsRow C 39 3 v ws.length ((List.range (ws.length * 3)).map F) ∧ ∀ i, i < ws.length → OwnI C w (F (i * 3)) (wkat ws i).E ∧ F (i * 3 + 1) = .int .i64 (wkat ws i).c ∧ OwnI C w (F (i * 3 + 2)) (wkat ws i).key
theorem OwnK.slice {C : Nat} {w : World} {v : Value} {ws : List Wk} (h : OwnK C w v ws) : ∃ a c, v = .slice a ws.length c := by
  obtain ⟨F, h1, _⟩ := h
  rcases h1.2 with ⟨rfl, h2⟩ | ⟨g, cap, cur, rfl, _⟩
  · exact ⟨none, 0, by rw [h2]⟩
  · exact ⟨_, _, rfl⟩
theorem ownr_next {C ty sz : Nat} {w w' : World} {v : Value} {n : Nat} {xs : List Value} (h : w.ownsRow C ty sz v n xs) (k : Nx w w') : w'.ownsRow C ty sz v n xs := by
  obtain ⟨h3, h4⟩ := h
  refine ⟨h3, ?_⟩
  rcases h4 with h4 | ⟨g, cap, cur, hv, hg, hh, r⟩
  · exact Or.inl h4
  · exact Or.inr ⟨g, cap, cur, hv, hg, (k.block g (Array.getElem?_eq_some_iff.1 hh).1).trans hh, r⟩
theorem OwnK.next {C : Nat} {w w' : World} {v : Value} {ws : List Wk} (h : OwnK C w v ws) (k : Nx w w') : OwnK C w' v ws := by
  obtain ⟨F, h1, h2⟩ := h
  exact ⟨F, ownr_next h1 k, fun i hi => ⟨(h2 i hi).1.next k, (h2 i hi).2.1, (h2 i hi).2.2.next k⟩⟩
/-- one walk of the row -/
theorem OwnK.at {C : Nat} {w : World} {a : Option Addr} {n c : Nat} {ws : List Wk} (h : OwnK C w (.slice a n c) ws) {i : Nat} (hi : i < ws.length) :
    ∃ g e k, a = some ⟨g, 0, none⟩ ∧ C ≤ g ∧ g < w.heap.size ∧ w.cell? ⟨g, i * 3, none⟩ = some e ∧ w.cell? ⟨g, i * 3 + 1, none⟩ = some (.int .i64 (wkat ws i).c) ∧ w.cell? ⟨g, i * 3 + 2, none⟩ = some k ∧ OwnI C w e (wkat ws i).E ∧ OwnI C w k (wkat ws i).key ∧ ∀ o, w.frozen? ⟨g, o, none⟩ = false := by
  obtain ⟨F, ⟨h1, h2⟩, h3⟩ := h
  rcases h2 with ⟨e, h2⟩ | ⟨g, cap, cur, hv, hg, hh, hc, hm, hs, ht⟩
  · omega
  · simp only [Value.slice.injEq] at hv
    obtain ⟨rfl, rfl, rfl⟩ := hv
    have key : ∀ j, j < ws.length * 3 → w.cell? ⟨g, j, none⟩ = some (F j) := by
      intro j hj
      have e : (cur.toList.take (ws.length * 3))[j]? = ((List.range (ws.length * 3)).map F)[j]? := by rw [ht]
      rw [List.getElem?_take_of_lt hj, Array.getElem?_toList, List.getElem?_map, List.getElem?_range hj] at e
      simp [World.cell?, hh, e]
    have h4 := h3 i hi
    refine ⟨g, F (i * 3), F (i * 3 + 2), rfl, hg, (Array.getElem?_eq_some_iff.1 hh).1, key _ (by omega), ?_, key _ (by omega), h4.1, h4.2.2, fun o => by simp [World.frozen?, hh]⟩
    rw [key _ (by omega), h4.2.1]
theorem OwnK.le {C : Nat} {w : World} {v : Value} {ws : List Wk} (h : OwnK C w v ws) : ws.length ≤ maxLen := by
  obtain ⟨F, ⟨h1, h2⟩, h3⟩ := h
  rcases h2 with ⟨e, h2⟩ | ⟨g, cap, cur, hv, hg, hh, hc, hm, hs, ht⟩
  · omega
  · omega
def fnd (ws : List Wk) (k : List Int) : Int := findA (fun i => decide ((wkat ws i).key = k)) 0 ws.length
theorem fnd_no {ws : List Wk} {k : List Int} (h : fnd ws k < 0) : hasK ws k = false := by
  rw [← Bool.not_eq_true, hasK_iff]
  rintro ⟨x, hx, e⟩
  obtain ⟨i, hi, rfl⟩ := mem_wkat hx
  have : ∃ a, findA (fun i => decide ((wkat ws i).key = k)) 0 ws.length = (a : Int) ∧ 0 ≤ (a : Int) := by
    apply Classical.byContradiction
    intro hn
    have hall : ∀ a, 0 ≤ a → a < 0 + ws.length → decide ((wkat ws a).key = k) = false := by
      intro a
      induction a using Nat.strongRecOn with
      | _ a ih =>
        intro _ ha
        cases hd : decide ((wkat ws a).key = k) with
        | false => rfl
        | true =>
          exact absurd ⟨(a : Int), findA_one (Nat.zero_le _) ha hd (fun b _ hb => ih b hb (Nat.zero_le _) (by omega)), by omega⟩ hn
    have := hall i (Nat.zero_le _) (by omega)
    simp [e] at this
  obtain ⟨a, ha, h0⟩ := this
  unfold fnd at h
  omega
theorem fnd_yes {ws : List Wk} {k : List Int} (h : 0 ≤ fnd ws k) : ∃ i : Nat, i < ws.length ∧ fnd ws k = i ∧ (wkat ws i).key = k := by
  obtain ⟨a, h1, _, h3, h4⟩ := findA_some h
  exact ⟨a, by omega, h1, by simpa using h4⟩

set_option maxHeartbeats 2000000 in
theorem l5Find_any (C B : Nat) (v v' : Value) (ws : List Wk) (k : List Int) (w : World) (h0 : OwnK C w v ws) (h1 : HInts B w v' k) :
    Calls Try.prog 17 #[v, v'] w fun e w' => e = .returned (.int .i64 (fnd ws k)) ∧ Nx w w' := by
  have HK : Hid (OwnK C w v ws) := h0
  have HX : Hid (HInts B w v' k) := h1
  have hm := h0.le
  unfold maxLen at hm
  obtain ⟨a, c, rfl⟩ := h0.slice
  obtain ⟨a', c', rfl, _, _⟩ := h1
  generalize hz : ws.length = n at *
  have HZ : Hid (ws.length = n) := hz
  clear hz h0
  go_enter Try.func17, Try.ntmps17
  go_wp2
  go_loopw [5] (fun i wr => ∃ j : Nat, j ≤ n ∧ i = .int .i64 j ∧ Hid (∀ q, q < j → decide ((wkat ws q).key = k) = false) ∧ Hid (Nx w wr)) (fun i _ => n - (intOf i).toNat)
  case atStart => exact ⟨0, Nat.zero_le _, rfl, fun q hq => absurd hq (Nat.not_lt_zero _), Nx.refl _⟩
  obtain ⟨j, hjn, rfl, HA, HN⟩ := hrel
  by_cases hlt : j < n
  case neg =>
    have HF : Hid (-1 = fnd ws k) := (findA_none fun q _ hq => HA.out q (by rw [HZ.out] at hq; omega)).symm
    have hnl : ¬ (j : Int) < n := by omega
    go_wp2
    go_ret
    exact ⟨ret_int HF.out, HN.out⟩
  obtain ⟨g, ev, kv, rfl, _, _, _, _, c2, _, hk, _⟩ := HK.out.at (i := j) (by rw [HZ.out]; exact hlt)
  have c2 := cellq HN.out c2
  have HKV : Hid (OwnI C w kv (wkat ws j).key) := hk
  obtain ⟨ka, kc, hkv⟩ := hk.slice
  generalize (wkat ws j).key.length = kn at hkv
  subst hkv
  have hlt' : (j : Int) < n := by omega
  clear hk
  go_wp2_with fail
  refine (l2Same_any C B _ _ (wkat ws j).key k _ (by exact (HKV.out.next HN.out).held) (by exact HX.out.next HN.out)).mono ?_
  rintro e w1 ⟨rfl, hx⟩
  have HN1 : Hid (Nx w w1) := HN.out.trans hx
  clear hx c2
  by_cases hs : (wkat ws j).key = k
  · have hd : decide ((wkat ws j).key = k) = true := by simpa using hs
    have HF : Hid ((j : Int) = fnd ws k) := (findA_one (Nat.zero_le _) (by rw [HZ.out]; omega) hd (fun b _ hb => HA.out b hb)).symm
    rw [hd]
    clear hs hd
    go_wp2
    go_ret
    exact ⟨ret_int HF.out, HN1.out⟩
  · have hd : decide ((wkat ws j).key = k) = false := by simpa using hs
    have HA1 : Hid (∀ q, q < j + 1 → decide ((wkat ws q).key = k) = false) := fun q hq => by
      rcases Nat.lt_succ_iff_lt_or_eq.1 hq with h1 | rfl
      · exact HA.out q h1
      · exact hd
    rw [hd]
    clear hs hd
    go_wp2
    go_roundw
    case rel => exact ⟨j + 1, by omega, by go_num, HA1, HN1⟩
    case measure => simp [intOf]; omega
end Go.Proofs.Yticooljejlkbfaa

namespace Go.Proofs.Yticooljejlkbfaa
open Go.RowKit Go.Sort
set_option linter.unusedVariables false
set_option maxRecDepth 100000

/-- one block alone may have turned -/
structure Onl (o : Option Nat) (w w' : World) : Prop where
  os : w'.os = w.os
  tape : w'.tape = w.tape
  output : w'.output = w.output
  size : w.heap.size ≤ w'.heap.size
  block : ∀ b, b < w.heap.size → some b ≠ o → w'.heap[b]? = w.heap[b]?
theorem Onl.refl (o : Option Nat) (w : World) : Onl o w w := ⟨rfl, rfl, rfl, Nat.le_refl _, fun _ _ _ => rfl⟩
theorem Onl.nx {o : Option Nat} {w w' : World} (h : Nx w w') : Onl o w w' := ⟨h.os, h.tape, h.output, h.size, fun b hb _ => h.block b hb⟩
/-- a step in a row that is the old one or a new one -/
theorem Onl.trans {o o' : Option Nat} {a b c : World} (h : Onl o a b) (k : Onl o' b c) (ho : ∀ g, o' = some g → o = some g ∨ a.heap.size ≤ g) : Onl o a c :=
  ⟨k.os.trans h.os, k.tape.trans h.tape, k.output.trans h.output, Nat.le_trans h.size k.size, fun g hg hn => (k.block g (Nat.lt_of_lt_of_le hg h.size) (fun e => by
    rcases ho g e.symm with h1 | h1
    · exact hn h1.symm
    · omega)).trans (h.block g hg hn)⟩
theorem Onl.below {o : Option Nat} {w w' : World} {C : Nat} (h : Onl o w w') (hC : C ≤ w.heap.size) (ho : ∀ g, o = some g → C ≤ g) : Below C w w' := ⟨h.os, h.tape, h.output, h.size, fun b hb => h.block b (by omega) (fun e => by have := ho b e.symm; omega)⟩
theorem Onl.set {o : Option Nat} {w w' : World} (h : Onl o w w') {g : Nat} (hg : o = some g ∨ w.heap.size ≤ g) (i : Nat) (u : Value) : Onl o w (w'.setCell ⟨g, i, none⟩ u) :=
  ⟨h.os, h.tape, h.output, by simpa [World.setCell] using h.size, fun b hb hn => (Below.heap_setCell _ _ _ _ (fun e => by
    rcases hg with h1 | h1
    · exact hn (by rw [h1, e])
    · have e' : b = g := e
      omega)).trans (h.block b hb hn)⟩
/-- a row of walks lies there -/
def WRow (w : World) (o : Option Nat) : Prop := ∀ g, o = some g → g < w.heap.size → ∃ c fr, w.heap[g]? = some (.cells c 39 fr)
theorem OwnK.wrow {C : Nat} {w : World} {v : Value} {ws : List Wk} (h : OwnK C w v ws) : WRow w v.ownBlock := by
  obtain ⟨F, ⟨_, h1⟩, _⟩ := h
  intro g hg hl
  rcases h1 with ⟨rfl, _⟩ | ⟨g', cap, cur, rfl, _, hh, _⟩
  · simp [Value.ownBlock] at hg
  · have : g' = g := by simpa [Value.ownBlock] using hg
    subst this
    exact ⟨_, _, hh⟩
theorem OwnI.onl {C : Nat} {o : Option Nat} {w w' : World} {v : Value} {zs : List Int} (h : OwnI C w v zs) (k : Onl o w w') (hr : WRow w o) : OwnI C w' v zs := by
  obtain ⟨h1, h2⟩ := h
  refine ⟨h1, ?_⟩
  rcases h2 with h2 | ⟨g, cap, cur, hv, hg, hh, r⟩
  · exact Or.inl h2
  · have hl := (Array.getElem?_eq_some_iff.1 hh).1
    refine Or.inr ⟨g, cap, cur, hv, hg, (k.block g hl (fun e => ?_)).trans hh, r⟩
    obtain ⟨c, fr, hc⟩ := hr g e.symm hl
    rw [hh] at hc
    simp at hc
theorem OwnK.onl {C : Nat} {o : Option Nat} {w w' : World} {v : Value} {ws : List Wk} (h : OwnK C w v ws) (k : Onl o w w') (hr : WRow w o) (hv : ∀ g, v.ownBlock = some g → o ≠ some g) : OwnK C w' v ws := by
  obtain ⟨F, ⟨h1, h2⟩, h3⟩ := h
  refine ⟨F, ⟨h1, ?_⟩, fun i hi => ⟨(h3 i hi).1.onl k hr, (h3 i hi).2.1, (h3 i hi).2.2.onl k hr⟩⟩
  rcases h2 with h2 | ⟨g, cap, cur, hv', hg, hh, r⟩
  · exact Or.inl h2
  · exact Or.inr ⟨g, cap, cur, hv', hg, (k.block g (Array.getElem?_eq_some_iff.1 hh).1 (fun e => hv g (by rw [hv']; rfl) e.symm)).trans hh, r⟩
theorem infoWk : (Try.prog.info? 39).map (fun i => (i.zero, i.size, i.bytes)) = some (some (.agg #[.slice none 0 0, .int .i64 0, .slice none 0 0]), 3, 56) := by kernel_rfl
theorem wkat_snoc {ws : List Wk} {x : Wk} {i : Nat} (h : i < ws.length) : wkat (ws ++ [x]) i = wkat ws i := by simp [wkat, List.getD, List.getElem?_append_left h]
theorem wkat_end {ws : List Wk} {x : Wk} {i : Nat} (h : i = ws.length) : wkat (ws ++ [x]) i = x := by subst h; simp [wkat, List.getD]
/-- one walk more -/
theorem OwnK.snoc {C : Nat} {w w' : World} {v v' e k : Value} {ws : List Wk} {x : Wk} {F : Nat → Value} (h2 : ∀ i, i < ws.length → OwnI C w' (F (i * 3)) (wkat ws i).E ∧ F (i * 3 + 1) = .int .i64 (wkat ws i).c ∧ OwnI C w' (F (i * 3 + 2)) (wkat ws i).key) (he : OwnI C w' e x.E) (hk : OwnI C w' k x.key)
    (h : w'.ownsRow C 39 3 v' (ws.length + 1) ((List.range (ws.length * 3)).map F ++ [e, .int .i64 x.c, k])) : OwnK C w' v' (ws ++ [x]) := by
  refine ⟨fun j => if j < ws.length * 3 then F j else if j = ws.length * 3 then e else if j = ws.length * 3 + 1 then .int .i64 x.c else k, ?_, fun i hi => ?_⟩
  · rw [List.length_append, List.length_singleton]
    have e1 : (List.range ((ws.length + 1) * 3)).map (fun j => if j < ws.length * 3 then F j else if j = ws.length * 3 then e else if j = ws.length * 3 + 1 then .int .i64 x.c else k) = (List.range (ws.length * 3)).map F ++ [e, .int .i64 x.c, k] := by
      rw [show (ws.length + 1) * 3 = ws.length * 3 + 1 + 1 + 1 by omega, List.range_succ, List.range_succ, List.range_succ]
      simp only [List.map_append, List.map_cons, List.map_nil, List.append_assoc, List.cons_append, List.nil_append]
      congr 1
      · apply List.map_congr_left
        intro j hj
        rw [List.mem_range] at hj
        rw [if_pos hj]
      · simp
        omega
    rw [e1]; exact h
  · rw [List.length_append, List.length_singleton] at hi
    by_cases c : i < ws.length
    · have := h2 i c
      rw [wkat_snoc c]
      simp only [if_pos (show i * 3 < ws.length * 3 by omega), if_pos (show i * 3 + 1 < ws.length * 3 by omega), if_pos (show i * 3 + 2 < ws.length * 3 by omega)]
      exact this
    · have e1 : i = ws.length := by omega
      rw [wkat_end e1]
      subst e1
      simp only [if_neg (Nat.lt_irrefl _), if_neg (show ¬ ws.length * 3 + 1 < ws.length * 3 by omega), if_neg (show ¬ ws.length * 3 + 2 < ws.length * 3 by omega), if_true, if_neg (show ¬ ws.length * 3 + 1 = ws.length * 3 by omega), if_neg (show ¬ ws.length * 3 + 2 = ws.length * 3 by omega), if_neg (show ¬ ws.length * 3 + 2 = ws.length * 3 + 1 by omega)]
      exact ⟨he, trivial, hk⟩
theorem wkat_set {ws : List Wk} {x : Wk} {i j : Nat} (hj : j < ws.length) : wkat (ws.set i x) j = if i = j then x else wkat ws j := by
  simp only [wkat, List.getD, List.getElem?_set]
  split
  · rename_i h; subst h; simp [hj]
  · rfl
/-- one walk in another's place -/
theorem OwnK.put {C : Nat} {w : World} {g n c : Nat} {e k : Value} {ws : List Wk} {x : Wk} (h : OwnK C w (.slice (some ⟨g, 0, none⟩) n c) ws) {i : Nat} (hi : i < ws.length) (he : OwnI C w e x.E) (hk : OwnI C w k x.key) :
    OwnK C (((w.setCell ⟨g, i * 3, none⟩ e).setCell ⟨g, i * 3 + 1, none⟩ (.int .i64 x.c)).setCell ⟨g, i * 3 + 2, none⟩ k) (.slice (some ⟨g, 0, none⟩) n c) (ws.set i x) := by
  have hr := h.wrow
  have ON : Onl (some g) w (((w.setCell ⟨g, i * 3, none⟩ e).setCell ⟨g, i * 3 + 1, none⟩ (.int .i64 x.c)).setCell ⟨g, i * 3 + 2, none⟩ k) := (((Onl.refl (some g) w).set (Or.inl rfl) _ _).set (Or.inl rfl) _ _).set (Or.inl rfl) _ _
  obtain ⟨F, ⟨h1, h2⟩, h3⟩ := h
  rcases h2 with ⟨h2, _⟩ | ⟨g', cap, cur, hv, hg, hh, hc, hm, hs, ht⟩
  · simp at h2
  simp only [Value.slice.injEq, Option.some.injEq, Addr.mk.injEq, and_true] at hv
  obtain ⟨rfl, rfl, rfl⟩ := hv
  refine ⟨fun j => if j = i * 3 then e else if j = i * 3 + 1 then .int .i64 x.c else if j = i * 3 + 2 then k else F j, ⟨by simp, Or.inr ⟨g, c, ((cur.setIfInBounds (i * 3) e).setIfInBounds (i * 3 + 1) (.int .i64 x.c)).setIfInBounds (i * 3 + 2) k, by rw [List.length_set], hg, ?_, by rw [List.length_set]; exact hc, hm, by simpa using hs, ?_⟩⟩, fun j hj => ?_⟩
  · simp [World.setCell, Array.getElem?_modify, hh]
  · rw [List.length_set]
    apply List.ext_getElem?
    intro j
    by_cases hj : j < ws.length * 3
    · have e0 : (cur.toList.take (ws.length * 3))[j]? = ((List.range (ws.length * 3)).map F)[j]? := by rw [ht]
      rw [List.getElem?_take_of_lt hj, Array.getElem?_toList, List.getElem?_map, List.getElem?_range hj] at e0
      rw [List.getElem?_take_of_lt hj, Array.getElem?_toList, List.getElem?_map, List.getElem?_range hj, Array.getElem?_setIfInBounds, Array.getElem?_setIfInBounds, Array.getElem?_setIfInBounds]
      have hsz : i * 3 + 2 < cur.size := by omega
      by_cases c1 : j = i * 3
      · subst c1; simp; omega
      · by_cases c2 : j = i * 3 + 1
        · subst c2; simp; omega
        · by_cases c3 : j = i * 3 + 2
          · subst c3; simp; omega
          · rw [if_neg (fun h => c3 h.symm), if_neg (fun h => c2 h.symm), if_neg (fun h => c1 h.symm), e0]
            simp [c1, c2, c3]
    · rw [List.getElem?_eq_none (by simp; omega), List.getElem?_eq_none (by simp; omega)]
  · rw [List.length_set] at hj
    rw [wkat_set hj]
    by_cases c1 : i = j
    · subst c1
      simp only [if_true, if_neg (show ¬ i * 3 + 1 = i * 3 by omega), if_neg (show ¬ i * 3 + 2 = i * 3 by omega), if_neg (show ¬ i * 3 + 2 = i * 3 + 1 by omega)]
      exact ⟨he.onl ON hr, trivial, hk.onl ON hr⟩
    · have := h3 j hj
      simp only [if_neg c1, if_neg (show ¬ j * 3 = i * 3 by omega), if_neg (show ¬ j * 3 = i * 3 + 1 by omega), if_neg (show ¬ j * 3 = i * 3 + 2 by omega), if_neg (show ¬ j * 3 + 1 = i * 3 by omega), if_neg (show ¬ j * 3 + 1 = i * 3 + 1 by omega), if_neg (show ¬ j * 3 + 1 = i * 3 + 2 by omega), if_neg (show ¬ j * 3 + 2 = i * 3 by omega), if_neg (show ¬ j * 3 + 2 = i * 3 + 1 by omega), if_neg (show ¬ j * 3 + 2 = i * 3 + 2 by omega)]
      exact ⟨this.1.onl ON hr, this.2.1, this.2.2.onl ON hr⟩
end Go.Proofs.Yticooljejlkbfaa

namespace Go.Proofs.Yticooljejlkbfaa
open Go.RowKit Go.Sort
set_option linter.unusedVariables false
set_option maxRecDepth 100000

theorem grown_onl {o : Option Nat} {w w' : World} (h : w.grownBy w' o) : Onl o w w' := ⟨h.os, h.tape, h.output, h.size, fun b hb hn => h.block b hb hn⟩
theorem row_wrow {C : Nat} {w : World} {v : Value} {n : Nat} {xs : List Value} (h : w.ownsRow C 39 3 v n xs) : WRow w v.ownBlock := by
  intro g hg hl
  rcases h.2 with ⟨rfl, _⟩ | ⟨g', cap, cur, rfl, _, hh, _⟩
  · simp [Value.ownBlock] at hg
  · have : g' = g := by simpa [Value.ownBlock] using hg
    subst this
    exact ⟨_, _, hh⟩
theorem OwnK.app {C : Nat} {w w7 : World} {u v7 e k : Value} {ws : List Wk} {x : Wk} {F : Nat → Value} (hrow : w.ownsRow C 39 3 u ws.length ((List.range (ws.length * 3)).map F)) (hF : ∀ i, i < ws.length → OwnI C w (F (i * 3)) (wkat ws i).E ∧ F (i * 3 + 1) = .int .i64 (wkat ws i).c ∧ OwnI C w (F (i * 3 + 2)) (wkat ws i).key) (he : OwnI C w e x.E) (hk : OwnI C w k x.key) (ob : Obj) (hg : (w.alloc ob).grownBy w7 u.ownBlock)
    (hown : w7.ownsRow C 39 3 v7 (ws.length + 1) ((List.range (ws.length * 3)).map F ++ [e, .int .i64 x.c, k])) : OwnK C w7 v7 (ws ++ [x]) := by
  have hr := row_wrow (World.ownsRow.alloc hrow ob)
  have hq := grown_onl hg
  have key : ∀ {p : Value} {zs : List Int}, OwnI C w p zs → OwnI C w7 p zs := fun hp => (hp.next (box1 _ _)).onl hq hr
  exact OwnK.snoc (w := w) (v := u) (fun i hi => ⟨key (hF i hi).1, (hF i hi).2.1, key (hF i hi).2.2⟩) (key he) (key hk) hown
theorem OwnK.far {C : Nat} {w w7 : World} {u v : Value} {n : Nat} {xs : List Value} {ws : List Wk} (h : OwnK C w v ws) (hrow : w.ownsRow C 39 3 u n xs) (ob : Obj) (hg : (w.alloc ob).grownBy w7 u.ownBlock) (hv : ∀ g, v.ownBlock = some g → u.ownBlock ≠ some g) : OwnK C w7 v ws :=
  (h.next (box1 _ _)).onl (grown_onl hg) (row_wrow (World.ownsRow.alloc hrow ob)) hv
theorem ownK_nil (C : Nat) (w : World) (h : C ≤ w.heap.size) : OwnK C (w.alloc (.cells #[] 39)) (.slice (some ⟨w.heap.size, 0, none⟩) 0 0) [] :=
  ⟨fun _ => .bool false, ⟨by simp, Or.inr ⟨w.heap.size, 0, #[], rfl, h, by show (w.heap.push _)[w.heap.size]? = _; rw [Array.getElem?_push, if_pos rfl], Nat.le_refl _, Nat.zero_le _, by simp, by simp⟩⟩, fun i hi => absurd hi (Nat.not_lt_zero _)⟩
def frB (seen : List Wk) (x : Wk) : Bool := decide (fnd seen x.key < 0) || decide (x.c < (wkat seen (fnd seen x.key).toNat).c)
theorem fr_same {seen : List Wk} (hk : KU seen) (x : Wk) : cheapB seen x = frB seen x := by
  rw [Bool.eq_iff_iff, cheap_iff]
  unfold frB
  rw [Bool.or_eq_true, decide_eq_true_eq, decide_eq_true_eq]
  constructor
  · intro h
    by_cases c : fnd seen x.key < 0
    · exact Or.inl c
    · obtain ⟨i, hi, e, ek⟩ := fnd_yes (show 0 ≤ fnd seen x.key by omega)
      right
      rw [e, Int.toNat_natCast]
      exact h _ (wkat_mem hi) ek
  · rintro (h | h) y hy e
    · have := fnd_no h
      have h2 : hasK seen x.key = true := hasK_iff.2 ⟨y, hy, e⟩
      rw [this] at h2; cases h2
    · by_cases c : fnd seen x.key < 0
      · have := fnd_no c
        have h2 : hasK seen x.key = true := hasK_iff.2 ⟨y, hy, e⟩
        rw [this] at h2; cases h2
      · obtain ⟨i, hi, e', ek⟩ := fnd_yes (show 0 ≤ fnd seen x.key by omega)
        rw [e', Int.toNat_natCast] at h
        rw [hk y hy _ (wkat_mem hi) (e.trans ek.symm)]
        exact h
theorem fresh_up {ws seen : List Wk} {i : Nat} (hi : i < ws.length) : freshW (ws.take (i + 1)) seen = if cheapB seen (wkat ws i) = true then freshW (ws.take i) seen ++ [wkat ws i] else freshW (ws.take i) seen := by
  unfold freshW
  rw [List.take_succ_eq_append_getElem hi, List.filter_append, wkat_eq hi]
  by_cases c : cheapB seen ws[i] = true
  · rw [if_pos c]; simp [c]
  · rw [if_neg c]; simp [c]
theorem fresh_len (ws seen : List Wk) (i : Nat) : (freshW (ws.take i) seen).length ≤ i := by
  unfold freshW
  refine Nat.le_trans (List.length_filter_le _ _) ?_
  rw [List.length_take]; omega

set_option maxHeartbeats 4000000 in
theorem l5Fresh_any (C : Nat) (v v' : Value) (ws seen : List Wk) (w : World) (h0 : OwnK C w v ws) (h1 : OwnK C w v' seen) (hk : KU seen) (hl : ws.length ≤ 1000000) (hC : C ≤ w.heap.size) :
    Calls Try.prog 20 #[v, v'] w fun e w' => (∃ u, e = .returned u ∧ OwnK C w' u (freshW ws seen) ∧ ∀ g, u.ownBlock = some g → w.heap.size ≤ g) ∧ Nx w w' := by
  obtain ⟨ii, hi, hz0, hz1, hz2⟩ := info_parts infoWk
  have H0 : Hid (OwnK C w v ws) := h0
  have H1 : Hid (OwnK C w v' seen) := h1
  have HK : Hid (KU seen) := hk
  have HC : Hid (C ≤ w.heap.size) := hC
  have hm1 := h1.le
  unfold maxLen at hm1
  obtain ⟨a, c, rfl⟩ := h0.slice
  obtain ⟨a', c', rfl⟩ := h1.slice
  have HR0 : Hid (OwnK C (w.alloc (.cells #[] 39)) (.slice (some ⟨w.heap.size, 0, none⟩) 0 0) (freshW (ws.take 0) seen)) := ownK_nil C w hC
  generalize hz : ws.length = n at *
  have HZ : Hid (ws.length = n) := hz
  generalize hz' : seen.length = n' at *
  have HZ' : Hid (seen.length = n') := hz'
  clear hz hz' h0 h1 hk hC
  go_enter Try.func20, Try.ntmps20
  go_wp2
  go_loopw [5, 6, 7] (fun u i _ wr => ∃ j : Nat, j ≤ n ∧ i = .int .i64 j ∧ Hid (OwnK C wr u (freshW (ws.take j) seen)) ∧ Hid (∀ g, u.ownBlock = some g → w.heap.size ≤ g) ∧ Hid (Nx w wr)) (fun _ i _ _ => n - (intOf i).toNat)
  case atStart => exact ⟨0, Nat.zero_le _, rfl, HR0, fun g e => by simp [Value.ownBlock] at e; omega, box1 _ _⟩
  clear HR0
  obtain ⟨j, hjn, rfl, HU, HG, HN⟩ := hrel
  by_cases hlt : j < n
  case neg =>
    have ej : j = n := by omega
    have HF : Hid (OwnK C wr u5 (freshW ws seen)) := by
      unfold Hid
      have e : ws.take j = ws := by rw [ej, ← HZ.out, List.take_length]
      rw [← e]; exact HU.out
    obtain ⟨ua, uc, hus⟩ := HU.out.slice
    generalize (freshW (ws.take j) seen).length = un at hus
    subst hus
    have hnl : ¬ (j : Int) < n := by omega
    clear ej
    go_wp2
    go_ret
    exact ⟨⟨_, rfl, HF.out, HG.out⟩, HN.out⟩
  have HJ : Hid (j < ws.length) := by unfold Hid; rw [HZ.out]; exact hlt
  obtain ⟨g, ev, kv, rfl, _, _, c0, c1, c2, he, hk, _⟩ := H0.out.at HJ.out
  have C0 : Hid (w.cell? ⟨g, j * 3, none⟩ = some ev) := c0
  have C1 : Hid (w.cell? ⟨g, j * 3 + 1, none⟩ = some (.int .i64 (wkat ws j).c)) := c1
  have C2 : Hid (w.cell? ⟨g, j * 3 + 2, none⟩ = some kv) := c2
  have HEV : Hid (OwnI C w ev (wkat ws j).E) := he
  have HKV : Hid (OwnI C w kv (wkat ws j).key) := hk
  have hlt' : (j : Int) < n := by omega
  have c2 := cellq HN.out C2.out
  clear c0 c1 he hk
  go_wp2_with fail
  refine (l5Find_any C C _ _ seen (wkat ws j).key _ (by exact H1.out.next HN.out) (by exact (HKV.out.next HN.out).held)).mono ?_
  rintro e w1 ⟨rfl, hx⟩
  have HN1 : Hid (Nx w w1) := HN.out.trans hx
  have HU1 : Hid (OwnK C w1 u5 (freshW (ws.take j) seen)) := HU.out.next hx
  clear hx c2 HU HN
  have c0 := cellq HN1.out C0.out
  have c1 := cellq HN1.out C1.out
  have c2 := cellq HN1.out C2.out
  have HUP : Hid (freshW (ws.take (j + 1)) seen = if cheapB seen (wkat ws j) = true then freshW (ws.take j) seen ++ [wkat ws j] else freshW (ws.take j) seen) := fresh_up HJ.out
  have HSM : Hid (cheapB seen (wkat ws j) = frB seen (wkat ws j)) := fr_same HK.out _
  have HFR : Hid (frB seen (wkat ws j) = (decide (fnd seen (wkat ws j).key < 0) || decide ((wkat ws j).c < (wkat seen (fnd seen (wkat ws j).key).toNat).c))) := rfl
  have HFL : Hid ((freshW (ws.take j) seen).length ≤ j) := fresh_len _ _ _
  obtain ⟨ea, ec, hev⟩ := HEV.out.slice
  obtain ⟨ka, kc, hkv⟩ := HKV.out.slice
  generalize (wkat ws j).E.length = en at hev
  generalize (wkat ws j).key.length = kn at hkv
  subst hev hkv
  obtain ⟨ua, uc, hus⟩ := HU1.out.slice
  generalize hun : (freshW (ws.take j) seen).length = un at *
  have HUN : Hid ((freshW (ws.take j) seen).length = un) := hun
  subst hus
  clear hun
  have hunl := HFL.out
  obtain ⟨F, hrow0, hF0⟩ := HU1.out
  rw [HUN.out] at hrow0 hF0
  have HROW : Hid (∀ wq, Nx w1 wq → wq.ownsRow C 39 3 (.slice ua un uc) un ((List.range (un * 3)).map F)) := fun wq hq => ownr_next hrow0 hq
  have HAPP : Hid (∀ wq, Nx w1 wq → ∀ w7 v7 ob, (wq.alloc ob).grownBy w7 (Value.slice ua un uc).ownBlock → w7.ownsRow C 39 3 v7 (un + 1) ((List.range (un * 3)).map F ++ [.slice ea en ec, .int .i64 (wkat ws j).c, .slice ka kn kc]) → cheapB seen (wkat ws j) = true → OwnK C w7 v7 (freshW (ws.take (j + 1)) seen)) := by
    intro wq hq w7 v7 ob hgr hrow hch
    rw [HUP.out, if_pos hch]
    refine OwnK.app (F := F) (u := .slice ua un uc) (by rw [HUN.out]; exact ownr_next hrow0 hq) (by rw [HUN.out]; exact fun i hi => ⟨(hF0 i hi).1.next hq, (hF0 i hi).2.1, (hF0 i hi).2.2.next hq⟩) ((HEV.out.next HN1.out).next hq) ((HKV.out.next HN1.out).next hq) ob hgr ?_
    rw [HUN.out]
    exact hrow
  have HNO : Hid (cheapB seen (wkat ws j) = false → OwnK C w1 (.slice ua un uc) (freshW (ws.take (j + 1)) seen)) := by
    intro hch
    rw [HUP.out, if_neg (by rw [hch]; simp)]
    exact HU1.out
  clear hrow0 hF0 HU1 HUP
  have HFND : Hid (0 ≤ fnd seen (wkat ws j).key → ∃ q : Nat, q < n' ∧ fnd seen (wkat ws j).key = q) := by
    intro h
    obtain ⟨q, h1, h2, _⟩ := fnd_yes h
    exact ⟨q, by rw [← HZ'.out]; exact h1, h2⟩
  generalize hfi : fnd seen (wkat ws j).key = fi at *
  clear hfi
  by_cases hneg : fi < 0
  · have d1 : decide (fi < 0) = true := by simpa using hneg
    have HCH : Hid (cheapB seen (wkat ws j) = true) := by unfold Hid; rw [HSM.out, HFR.out, d1]; rfl
    clear hneg HFND HSM HFR HNO
    generalize (wkat ws j).c = cj at *
    go_wp2
    go_quiet (fail)
    generalize hwq : World.drewN w1 nq = wq at *
    have HQ : Hid (Nx w1 wq) := by unfold Hid; rw [← hwq]; exact ⟨rfl, rfl, rfl, Nat.le_refl _, fun _ _ => rfl⟩
    have c0 := cellq HQ.out c0
    have c1 := cellq HQ.out c1
    have c2 := cellq HQ.out c2
    have HZQ : Hid (w.heap.size ≤ wq.heap.size) := Nat.le_trans HN1.out.size HQ.out.size
    clear hwq
    go_wp2_with (at_builtin; refine wpList_append_own_at _ rfl _ _ 40 rfl C 39 ii (.agg #[.slice none 0 0, .int .i64 0, .slice none 0 0]) 3 56 Try.underlying40 hi hz0 hz1 hz2 rfl (by decide) _ _ _ rfl (World.ownsRow.alloc (HROW.out wq HQ.out) _) ⟨wq.heap.size, 0, none⟩ 1 1 [.slice ea en ec, .int .i64 cj, .slice ka kn kc] rfl rfl (fun j u hj => new_cells wq _ _ _ rfl j u hj) (by intro u hu; simp at hu; rcases hu with rfl | rfl | rfl <;> rfl) (by unfold maxLen; omega) (by omega) (by rw [size_alloc']; have := HZQ.out; have := HC.out; omega) ?_)
    intro v7 w7 hown hgrow _ hat
    have HU7 : Hid (OwnK C w7 v7 (freshW (ws.take (j + 1)) seen)) := HAPP.out wq HQ.out w7 v7 _ hgrow hown HCH.out
    have HG7 : Hid (∀ g, v7.ownBlock = some g → w.heap.size ≤ g) := fun g e => by
      rcases hat with h | h
      · exact HG.out g (h ▸ e)
      · rw [h] at e
        have := Option.some.inj e
        have := HZQ.out
        omega
    have HN7 : Hid (Nx w w7) := Below.grown (Below.alloc (HN1.out.trans HQ.out) (Nat.le_trans HN1.out.size HQ.out.size) _) hgrow (by rw [size_alloc']; have := HZQ.out; omega) (fun g hg => HG.out g hg)
    clear hown hgrow hat c0 c1 c2
    go_wp2
    go_roundw
    case rel => exact ⟨j + 1, by omega, by go_num, HU7, HG7, HN7⟩
    case measure => simp [intOf]; omega
  have d1 : decide (fi < 0) = false := by simpa using hneg
  obtain ⟨q, hq, rfl⟩ := HFND.out (by omega)
  have hq' : (q : Int) < n' := by omega
  have hq0 : (0 : Int) ≤ q := by omega
  obtain ⟨g', ev', kv', hga, _, _, _, b1, _, _, _, _⟩ := H1.out.at (i := q) (by rw [HZ'.out]; exact hq)
  subst hga
  have b1 := cellq HN1.out b1
  have HFR2 : Hid (frB seen (wkat ws j) = decide ((wkat ws j).c < (wkat seen q).c)) := by unfold Hid; rw [HFR.out, d1, Bool.false_or, Int.toNat_natCast]
  clear hneg HFND HFR
  generalize hcj : (wkat ws j).c = cj at *
  generalize hcq : (wkat seen q).c = cq at *
  clear hcj hcq
  by_cases hlc : cj < cq
  · have d2 : decide (cj < cq) = true := by simpa using hlc
    have HCH : Hid (cheapB seen (wkat ws j) = true) := by unfold Hid; rw [HSM.out, HFR2.out, d2]
    clear hlc HSM HFR2 HNO
    go_wp2
    go_quiet (fail)
    generalize hwq : World.drewN w1 nq = wq at *
    have HQ : Hid (Nx w1 wq) := by unfold Hid; rw [← hwq]; exact ⟨rfl, rfl, rfl, Nat.le_refl _, fun _ _ => rfl⟩
    have c0 := cellq HQ.out c0
    have c1 := cellq HQ.out c1
    have c2 := cellq HQ.out c2
    have HZQ : Hid (w.heap.size ≤ wq.heap.size) := Nat.le_trans HN1.out.size HQ.out.size
    clear hwq
    go_wp2_with (at_builtin; refine wpList_append_own_at _ rfl _ _ 40 rfl C 39 ii (.agg #[.slice none 0 0, .int .i64 0, .slice none 0 0]) 3 56 Try.underlying40 hi hz0 hz1 hz2 rfl (by decide) _ _ _ rfl (World.ownsRow.alloc (HROW.out wq HQ.out) _) ⟨wq.heap.size, 0, none⟩ 1 1 [.slice ea en ec, .int .i64 cj, .slice ka kn kc] rfl rfl (fun j u hj => new_cells wq _ _ _ rfl j u hj) (by intro u hu; simp at hu; rcases hu with rfl | rfl | rfl <;> rfl) (by unfold maxLen; omega) (by omega) (by rw [size_alloc']; have := HZQ.out; have := HC.out; omega) ?_)
    intro v7 w7 hown hgrow _ hat
    have HU7 : Hid (OwnK C w7 v7 (freshW (ws.take (j + 1)) seen)) := HAPP.out wq HQ.out w7 v7 _ hgrow hown HCH.out
    have HG7 : Hid (∀ g, v7.ownBlock = some g → w.heap.size ≤ g) := fun g e => by
      rcases hat with h | h
      · exact HG.out g (h ▸ e)
      · rw [h] at e
        have := Option.some.inj e
        have := HZQ.out
        omega
    have HN7 : Hid (Nx w w7) := Below.grown (Below.alloc (HN1.out.trans HQ.out) (Nat.le_trans HN1.out.size HQ.out.size) _) hgrow (by rw [size_alloc']; have := HZQ.out; omega) (fun g hg => HG.out g hg)
    clear hown hgrow hat c0 c1 c2
    go_wp2
    go_roundw
    case rel => exact ⟨j + 1, by omega, by go_num, HU7, HG7, HN7⟩
    case measure => simp [intOf]; omega
  · have d2 : decide (cj < cq) = false := by simpa using hlc
    have HNO1 : Hid (OwnK C w1 (.slice ua un uc) (freshW (ws.take (j + 1)) seen)) := HNO.out (by rw [HSM.out, HFR2.out, d2])
    clear hlc HSM HFR2 HNO HAPP
    go_wp2
    go_quiet (fail)
    generalize hwq : World.drewN w1 nq = wq at *
    have HQ : Hid (Nx w1 wq) := by unfold Hid; rw [← hwq]; exact ⟨rfl, rfl, rfl, Nat.le_refl _, fun _ _ => rfl⟩
    clear hwq
    go_wp2
    go_roundw
    case rel => exact ⟨j + 1, by omega, by go_num, HNO1.out.next HQ.out, HG, HN1.out.trans HQ.out⟩
    case measure => simp [intOf]; omega
end Go.Proofs.Yticooljejlkbfaa
