import Derived.Test.YticooljejlkbfaaPH
namespace Go.Proofs.Yticooljejlkbfaa
open Go.RowKit Go.Sort Go.Maps
set_option linter.unusedVariables false
set_option maxRecDepth 100000

/-- the heap whole: what it holds is a heap, each vertex at its place -/
structure HQ (C : Nat) (w : World) (q sb : Nat) (iv : Value) (mb : Nat) (K : Nat → Rk) (nv : Nat) (L : List Nat) (D : DM) : Prop where
  h : HM C w q sb iv mb L D
  o : HeapOK K L
  j : Inj L
  p : PL D L L.length (fun _ => False)
  v : ∀ y ∈ L, y < nv
  s : size D ≤ L.length
theorem lat_app {L : List Nat} {x i : Nat} (h : i ≤ L.length) : lat (L ++ [x]) i = if i = L.length then x else lat L i := by
  unfold lat
  rw [List.getD_eq_getElem?_getD, List.getD_eq_getElem?_getD, List.getElem?_append]
  by_cases e : i = L.length
  · subst e; simp
  · rw [if_pos (by omega), if_neg e]
theorem app_set (L : List Nat) (x : Nat) : (L ++ [x]).set L.length x = L ++ [x] := by
  apply List.ext_getElem?
  intro i
  rw [List.getElem?_set]
  by_cases e : L.length = i
  · subst e; simp
  · rw [if_neg e]
theorem set_same {L : List Nat} {a x : Nat} (ha : a < L.length) (h : lat L a = x) : L.set a x = L := by
  apply List.ext_getElem?
  intro i
  rw [List.getElem?_set]
  by_cases e : a = i
  · subst e
    rw [if_pos rfl, if_pos ha]
    unfold lat at h
    rw [List.getD_eq_getElem?_getD, List.getElem?_eq_getElem ha] at h
    rw [List.getElem?_eq_getElem ha]
    simpa using h.symm
  · rw [if_neg e]
/-- an item goes in: at the end -/
theorem HQ.app {C : Nat} {w : World} {q sb : Nat} {iv : Value} {mb : Nat} {K K' : Nat → Rk} {nv : Nat} {L : List Nat} {D : DM} {x : Nat} (h : HQ C w q sb iv mb K nv L D) (hx : x ∉ L) (hK : ∀ y, y ≠ x → K' y = K y) :
    UP K' ((L ++ [x]).set L.length x) L.length ∧ Inj ((L ++ [x]).set L.length x) ∧ PL D ((L ++ [x]).set L.length x) L.length (fun _ => False) := by
  rw [app_set]
  have hne : ∀ i, i < L.length → lat L i ≠ x := fun i hi e => hx (e ▸ lat_mem hi)
  refine ⟨⟨fun i h0 hl hi => ?_, fun i h0 hl hp h1 => ?_⟩, fun i j hi hj e => ?_, h.p.m, h.p.t, fun i hi hi' => ?_, fun v hv => ?_⟩
  · rw [List.length_append, List.length_singleton] at hl
    rw [lat_app (by omega), lat_app (by omega), if_neg (by omega), if_neg (by omega), hK _ (hne i (by omega)), hK _ (hne _ (by omega))]
    exact h.o i h0 (by omega)
  · rw [List.length_append, List.length_singleton] at hl
    omega
  · rw [List.length_append, List.length_singleton] at hi hj
    rw [lat_app (by omega), lat_app (by omega)] at e
    by_cases c1 : i = L.length
    · by_cases c2 : j = L.length
      · omega
      · rw [if_pos c1, if_neg c2] at e
        exact absurd e.symm (hne j (by omega))
    · by_cases c2 : j = L.length
      · rw [if_neg c1, if_pos c2] at e
        exact absurd e (hne i (by omega))
      · rw [if_neg c1, if_neg c2] at e
        exact h.j i j (by omega) (by omega) e
  · rw [List.length_append, List.length_singleton] at hi
    rw [lat_app (by omega), if_neg hi']
    exact h.p.p i (by omega) (by omega)
  · rcases h.p.k v hv with g | g
    · exact Or.inl (List.mem_append_left _ g)
    · exact g.elim
/-- an item that is inside has become less -/
theorem HQ.dec {C : Nat} {w : World} {q sb : Nat} {iv : Value} {mb : Nat} {K K' : Nat → Rk} {nv : Nat} {L : List Nat} {D : DM} {x a : Nat} (h : HQ C w q sb iv mb K nv L D) (ha : a < L.length) (hx : lat L a = x) (hK : ∀ y, y ≠ x → K' y = K y) (hd : ¬ rlt (K x) (K' x)) :
    UP K' (L.set a x) a ∧ Inj (L.set a x) ∧ PL D (L.set a x) a (fun _ => False) := by
  rw [set_same ha hx]
  have hne : ∀ i, i < L.length → i ≠ a → lat L i ≠ x := fun i hi hia e => hia (h.j i a hi ha (e.trans hx.symm))
  refine ⟨⟨fun i h0 hl hi => ?_, fun i h0 hl hp h1 => ?_⟩, h.j, h.p.m, h.p.t, fun i hi hi' => h.p.p i hi (by omega), h.p.k⟩
  · rw [hK _ (hne i hl hi)]
    have q1 := h.o i h0 hl
    by_cases c : (i - 1) / 2 = a
    · rw [c, hx] at q1 ⊢
      exact rle_tr hd q1
    · rw [hK _ (hne _ (by omega) c)]
      exact q1
  · rw [hK _ (hne i hl (by omega)), hK _ (hne _ (by omega) (by omega))]
    have q1 := h.o i h0 hl
    have q2 := h.o a h1 ha
    rw [hp] at q1
    exact rle_tr q2 q1
theorem lat_take {L : List Nat} {k i : Nat} (h : i < k) : lat (L.take k) i = lat L i := by
  unfold lat
  rw [List.getD_eq_getElem?_getD, List.getD_eq_getElem?_getD, List.getElem?_take_of_lt h]
/-- the last goes to the root -/
theorem HQ.pop {C : Nat} {w : World} {q sb : Nat} {iv : Value} {mb : Nat} {K : Nat → Rk} {nv : Nat} {L : List Nat} {D : DM} {k : Nat} (h : HQ C w q sb iv mb K nv L D) (hk : L.length = k + 1) (h0 : 0 < k) :
    DN K ((L.take k).set 0 (lat L k)) 0 ∧ Inj ((L.take k).set 0 (lat L k)) ∧ PL D ((L.take k).set 0 (lat L k)) 0 (fun v => v = lat L 0) ∧ (∀ y, y ∈ (L.take k).set 0 (lat L k) ↔ y ∈ L ∧ y ≠ lat L 0) := by
  have hl : (L.take k).length = k := by rw [List.length_take]; omega
  have e : ∀ i, i < k → lat ((L.take k).set 0 (lat L k)) i = if i = 0 then lat L k else lat L i := fun i hi => by
    rw [lat_set (by omega)]
    by_cases c : i = 0
    · rw [if_pos c, if_pos c]
    · rw [if_neg c, if_neg c, lat_take hi]
  have hmem : ∀ y, y ∈ (L.take k).set 0 (lat L k) ↔ y ∈ L ∧ y ≠ lat L 0 := by
    intro y
    rw [mem_lat, mem_lat]
    simp only [List.length_set, hl]
    constructor
    · rintro ⟨i, hi, ei⟩
      rw [e i hi] at ei
      by_cases c : i = 0
      · rw [if_pos c] at ei
        refine ⟨⟨k, by omega, ei⟩, fun g => ?_⟩
        have := h.j k 0 (by omega) (by omega) (ei.trans g)
        omega
      · rw [if_neg c] at ei
        refine ⟨⟨i, by omega, ei⟩, fun g => ?_⟩
        exact c (h.j i 0 (by omega) (by omega) (ei.trans g))
    · rintro ⟨⟨i, hi, ei⟩, hne⟩
      have c : i ≠ 0 := fun g => hne (by rw [← ei, g])
      by_cases c2 : i = k
      · exact ⟨0, h0, by rw [e 0 h0, if_pos rfl, ← c2]; exact ei⟩
      · exact ⟨i, by omega, by rw [e i (by omega), if_neg c]; exact ei⟩
  refine ⟨⟨fun i hi hlt hp => ?_, fun i hi hlt hp h1 => absurd h1 (by omega)⟩, fun i j hi hj eij => ?_, ⟨h.p.m, h.p.t, fun i hi hne => ?_, fun v hv => ?_⟩, hmem⟩
  · rw [List.length_set, hl] at hlt
    rw [e i hlt, e _ (by omega), if_neg (by omega), if_neg hp]
    exact h.o i hi (by omega)
  · rw [List.length_set, hl] at hi hj
    rw [e i hi, e j hj] at eij
    by_cases c1 : i = 0
    · by_cases c2 : j = 0
      · omega
      · rw [if_pos c1, if_neg c2] at eij
        have := h.j k j (by omega) (by omega) eij
        omega
    · by_cases c2 : j = 0
      · rw [if_neg c1, if_pos c2] at eij
        have := h.j i k (by omega) (by omega) eij
        omega
      · rw [if_neg c1, if_neg c2] at eij
        exact h.j i j (by omega) (by omega) eij
  · rw [List.length_set, hl] at hi
    rw [e i hi, if_neg hne]
    exact h.p.p i (by omega) (by omega)
  · rcases h.p.k v hv with g | g
    · by_cases c : v = lat L 0
      · exact Or.inr c
      · exact Or.inl ((hmem v).2 ⟨g, c⟩)
    · exact g.elim
theorem PL.drop {D : DM} {M : List Nat} {x : Nat} (h : PL D M M.length (fun v => v = x)) (hx : x ∉ M) : PL (D.del (kv x)) M M.length (fun _ => False) ∧ size (D.del (kv x)) ≤ size D := by
  refine ⟨⟨h.m.del _, h.t.del _, fun i hi hne => ?_, fun v hv => ?_⟩, ?_⟩
  · have hn : lat M i ≠ x := fun e => hx (e ▸ lat_mem hi)
    rw [has_del_other (kv_inj hn), atKey_del_other (kv_inj hn)]
    exact h.p i hi hne
  · by_cases e : v = x
    · subst e; rw [has_del_same] at hv; cases hv
    · rw [has_del_other (kv_inj e)] at hv
      rcases h.k v hv with g | g
      · exact Or.inl g
      · exact absurd g e
  · have := size_del (k := kv x) h.t
    split at this <;> omega
theorem PL.dropsz {D : DM} {M : List Nat} {x : Nat} (h : PL D M M.length (fun v => v = x)) (hx : has D (kv x) = true) : size (D.del (kv x)) + 1 = size D := by
  have := size_del (k := kv x) h.t
  rw [if_pos hx] at this
  exact this
theorem OwnI.cut {C : Nat} {w : World} {g n c : Nat} {zs : List Int} (h : OwnI C w (.slice (some ⟨g, 0, none⟩) n c) zs) {k : Nat} (hk : k ≤ zs.length) : OwnI C w (.slice (some ⟨g, 0, none⟩) k c) (zs.take k) := by
  obtain ⟨h1, h2⟩ := h
  rcases h2 with ⟨h2, _⟩ | ⟨g', cap, cur, hv, hg, hh, hc, hm, hs, ht⟩
  · simp at h2
  simp only [Value.slice.injEq, Option.some.injEq, Addr.mk.injEq, and_true] at hv
  obtain ⟨rfl, rfl, rfl⟩ := hv
  have hl : (zs.take k).length = k := by rw [List.length_take]; omega
  refine ⟨by simp [icells], Or.inr ⟨g, c, cur, by rw [hl], hg, hh, by rw [hl]; omega, hm, hs, ?_⟩⟩
  rw [hl]
  have : icells (zs.take k) = (icells zs).take k := by simp [icells, List.map_take]
  rw [this, ← ht, List.take_take]
  congr 1
  omega
theorem ints_take (L : List Nat) (k : Nat) : (ints L).take k = ints (L.take k) := by unfold ints; rw [List.map_take]
theorem ints_app (L : List Nat) (x : Nat) : ints L ++ [(x : Int)] = ints (L ++ [x]) := by unfold ints; simp
theorem zeroInt (w : World) : (zeroValue 3).run Try.prog w = .ok (.int .i64 0) w := by kernel_rfl
theorem look_run {w : World} {mb n : Nat} {D : DM} (h : w.ownsMap Try.prog 2 (plainElem Try.prog 3) mb n D) {x : Nat} (hx : x ≤ 100000) : ∃ c : Int, (Instr.lookup 82 (.map (some mb)) (.int .i64 (x : Int)) true).run Try.prog w = .ok (.tuple #[.int .i64 c, .bool (has D (kv x))]) w ∧ D.atKey (kv x) (.lit (.int .i64 0)) = .lit (.int .i64 c) := by
  obtain ⟨v, ps, hrun, hv⟩ := h.look_ok keyI Try.underlying82 (zeroInt w) (zd := .lit (.int .i64 0)) (zp := []) (plainElem_int Try.underlying3 (by decide)) (kv_ok x hx)
  obtain ⟨c, rfl, hc, _⟩ := plainElem_int_inv Try.underlying3 hv
  exact ⟨c, hrun, congrArg Prod.fst hc⟩
end Go.Proofs.Yticooljejlkbfaa
