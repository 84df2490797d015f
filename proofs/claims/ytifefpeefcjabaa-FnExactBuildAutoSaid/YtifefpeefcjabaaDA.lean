import Derived.Test.YtifefpeefcjabaaCC
import Derived.Test.YtifefpeefcjabaaBH
namespace Go.Proofs.Ytifefpeefcjabaa
open Go.RowKit Go.Maps
set_option linter.unusedVariables false
set_option maxRecDepth 100000

/-- sorted words, with all their beginnings, over edges -/
structure WS (ws : List (List Int)) : Prop where
  asc : AscW ws
  nil : inW ws []
  down : ∀ x e, inW ws (x ++ [e]) → inW ws x
  edge : ∀ x e, inW ws (x ++ [e]) → 0 ≤ e ∧ e < 4000
def lastE (x : List Int) : Int := x.getLast?.getD (-1)
theorem lastE_snoc (x : List Int) (e : Int) : lastE (x ++ [e]) = e := by simp [lastE]
theorem snoc_of {x : List Int} (h : x ≠ []) : x = x.dropLast ++ [lastE x] := by
  have h1 := List.dropLast_concat_getLast h
  have h2 : lastE x = x.getLast h := by
    conv => lhs; rw [← h1]
    exact lastE_snoc _ _
  rw [h2]; exact h1.symm
theorem asc_inj {ws : List (List Int)} (ha : AscW ws) {i j : Nat} (hi : i < ws.length) (hj : j < ws.length) (e : wd ws i = wd ws j) : i = j := by
  rcases Nat.lt_trichotomy i j with h | h | h
  · have := ha i j h hj
    rw [e, bef_self] at this; cases this
  · exact h
  · have := ha j i h hi
    rw [e, bef_self] at this; cases this
theorem st_at {ws : List (List Int)} (ha : AscW ws) {j : Nat} {x : List Int} (hj : j < ws.length) (e : wd ws j = x) : stW ws x = j := by
  unfold stW
  exact findA_one (Nat.zero_le _) (by omega) (by simpa using e) (fun b _ hb => by
    simp
    intro e'
    have := asc_inj ha (by omega) hj (e'.trans e.symm)
    omega)
theorem bef_len {x y : List Int} (h : befB x y = true) : x.length ≤ y.length := by
  unfold befB at h
  by_cases c : x.length = y.length
  · omega
  · rw [if_neg c] at h; simp at h; omega
theorem WS.pos {ws : List (List Int)} (h : WS ws) : 0 < ws.length := by
  obtain ⟨j, hj, _⟩ := h.nil; omega
theorem WS.root {ws : List (List Int)} (h : WS ws) : wd ws 0 = [] := by
  obtain ⟨j, hj, e⟩ := h.nil
  by_cases h0 : j = 0
  · subst h0; exact e
  · have h1 := h.asc 0 j (by omega) hj
    rw [e] at h1
    have h2 := bef_len h1
    exact List.length_eq_zero_iff.1 (by simpa using h2)
theorem WS.ne {ws : List (List Int)} (h : WS ws) {s : Nat} (h1 : 1 ≤ s) (hs : s < ws.length) : wd ws s ≠ [] := fun e => by
  have := asc_inj h.asc hs h.pos (e.trans h.root.symm)
  omega
theorem WS.par {ws : List (List Int)} (h : WS ws) {s : Nat} (h1 : 1 ≤ s) (hs : s < ws.length) : ∃ t, t < s ∧ wd ws t = (wd ws s).dropLast ∧ stW ws (wd ws s).dropLast = t ∧ wd ws s = wd ws t ++ [lastE (wd ws s)] ∧ 0 ≤ lastE (wd ws s) ∧ lastE (wd ws s) < 4000 := by
  have hn := h.ne h1 hs
  have e := snoc_of hn
  have hin : inW ws ((wd ws s).dropLast ++ [lastE (wd ws s)]) := ⟨s, hs, e⟩
  obtain ⟨t, ht, et⟩ := h.down _ _ hin
  refine ⟨t, ?_, et, st_at h.asc ht et, by rw [et]; exact e, h.edge _ _ hin⟩
  rcases Nat.lt_trichotomy t s with c | c | c
  · exact c
  · subst c
    have : (wd ws t).length = (wd ws t).dropLast.length := by rw [← et]
    rw [List.length_dropLast] at this
    have : 0 < (wd ws t).length := List.length_pos_iff.2 hn
    omega
  · have := bef_len (h.asc s t c ht)
    rw [et, List.length_dropLast] at this
    have : 0 < (wd ws s).length := List.length_pos_iff.2 hn
    omega
/-- the automaton of sorted words, with what each asks -/
def autoOf (ws : List (List Int)) (mu : List Int → Int) (bd : List Int → Bool) : Au :=
  ⟨ws.map (fun x => if x = [] then -1 else stW ws x.dropLast), ws.map lastE, ws.map (fun x => if x = [] then -1 else LW ws x 1), ws.map mu, ws.map bd⟩
theorem iat_map {ws : List (List Int)} (f : List Int → Int) {s : Nat} (h : s < ws.length) : iat (ws.map f) s = f (wd ws s) := by
  simp [iat, wd, List.getD, h]
theorem bat_map {ws : List (List Int)} (f : List Int → Bool) {s : Nat} (h : s < ws.length) : bat (ws.map f) s = f (wd ws s) := by
  simp [bat, wd, List.getD, h]
section
variable {ws : List (List Int)} {mu : List Int → Int} {bd : List Int → Bool}
theorem auto_pa (h : WS ws) {s t : Nat} (h1 : 1 ≤ s) (hs : s < ws.length) (ht : stW ws (wd ws s).dropLast = t) : iat (autoOf ws mu bd).pa s = t := by
  show iat (ws.map _) s = _
  rw [iat_map _ hs, if_neg (h.ne h1 hs), ht]
theorem auto_la {s : Nat} (hs : s < ws.length) : iat (autoOf ws mu bd).la s = lastE (wd ws s) := iat_map _ hs
theorem auto_mu {s : Nat} (hs : s < ws.length) : iat (autoOf ws mu bd).mu s = mu (wd ws s) := iat_map _ hs
theorem auto_bd {s : Nat} (hs : s < ws.length) : bat (autoOf ws mu bd).bd s = bd (wd ws s) := bat_map _ hs
theorem auto_ok (h : WS ws) {s : Nat} (h1 : 1 ≤ s) (hs : s < ws.length) : okR (autoOf ws mu bd) s = true := by
  obtain ⟨t, ht, _, hst, _, e0, e1⟩ := h.par h1 hs
  unfold okR
  rw [auto_pa h h1 hs hst, auto_la hs]
  simp
  omega
theorem auto_wd (h : WS ws) {s : Nat} (hs : s < ws.length) : Wd (autoOf ws mu bd) s = wd ws s := by
  induction s using Nat.strongRecOn with
  | _ s ih =>
    by_cases h0 : s = 0
    · subst h0; rw [Wd_zero, h.root]
    · obtain ⟨t, ht, et, hst, e, _⟩ := h.par (by omega) hs
      rw [Wd_step (auto_ok h (by omega) hs) (by omega), auto_pa h (by omega) hs hst, auto_la hs, Int.toNat_natCast, ih t ht (by omega)]
      exact e.symm
theorem auto_wl (h : WS ws) : wl (autoOf ws mu bd) ws.length = ws := by
  apply List.ext_getElem
  · rw [wl_len]
  · intro i h1 h2
    have e := wl_wd (A := autoOf ws mu bd) (m := ws.length) (s := i) h2
    rw [auto_wd h h2] at e
    unfold wd at e
    rw [List.getD_eq_getElem?_getD, List.getElem?_eq_getElem h1, List.getD_eq_getElem?_getD, List.getElem?_eq_getElem h2] at e
    exact e
theorem auto_trie (h : WS ws) : Trie (autoOf ws mu bd) ws.length :=
  ⟨h.pos, fun t h1 ht => auto_ok h h1 ht, fun i j hij hj => by rw [auto_wd h (by omega), auto_wd h hj]; exact h.asc i j hij hj⟩
theorem auto_asc (h : WS ws) : ∀ t, 1 ≤ t → t < ws.length → pairAsc (autoOf ws mu bd) t = true := by
  intro t h1 ht
  have T : Trie (autoOf ws mu bd) ws.length := auto_trie h
  have h0 : iat (autoOf ws mu bd).pa 0 = -1 := by
    show iat (ws.map _) 0 = _
    rw [iat_map _ h.pos, if_pos h.root]
  rw [← bef_pair h0 (fun u hu1 hu => T.ok u hu1 (by omega)) (fun i j hij hj => T.asc i j hij (by omega)) h1, auto_wd h (by omega), auto_wd h ht]
  exact h.asc _ _ (by omega) ht
theorem auto_fail (h : WS ws) {s : Nat} (h1 : 1 ≤ s) (hs : s < ws.length) : LW ws (wd ws s) 1 = (failOf (autoOf ws mu bd) ws.length s : Int) ∧ failOf (autoOf ws mu bd) ws.length s < s := by
  have := fail_spec (auto_trie (mu := mu) (bd := bd) h) h1 hs
  rw [auto_wl h, auto_wd h hs] at this
  exact this
end
/-- the children of a word -/
def isKid (x y : List Int) : Bool := decide (y ≠ [] ∧ y.dropLast = x)
def kidsW (ws : List (List Int)) (bl : List Int → Nat) (x : List Int) : List (Int × Nat) := (ws.filter (isKid x)).map (fun y => (lastE y, bl y))
theorem range_wd (ws : List (List Int)) : (List.range ws.length).map (wd ws) = ws := by
  apply List.ext_getElem
  · simp
  · intro i h1 h2
    simp [wd, List.getD, h2]
theorem kids_words {ws : List (List Int)} {mu : List Int → Int} {bd : List Int → Bool} (h : WS ws) (bl : List Int → Nat) {s : Nat} (hs : s < ws.length) : kidsL (autoOf ws mu bd) ws.length (fun t => bl (wd ws t)) s = kidsW ws bl (wd ws s) := by
  have e : kidsW ws bl (wd ws s) = (((List.range ws.length).map (wd ws)).filter (isKid (wd ws s))).map (fun y => (lastE y, bl y)) := by rw [range_wd]; rfl
  rw [e, List.filter_map, List.map_map]
  unfold kidsL
  have hf : (List.range ws.length).filter (fun t => decide (1 ≤ t ∧ iat (autoOf ws mu bd).pa t = s)) = (List.range ws.length).filter (isKid (wd ws s) ∘ wd ws) := by
    apply List.filter_congr
    intro t ht
    rw [List.mem_range] at ht
    simp only [Function.comp, isKid]
    congr 1
    by_cases h0 : t = 0
    · subst h0
      rw [h.root]; simp
    · obtain ⟨p, hp, ep, hst, _⟩ := h.par (by omega) ht
      rw [auto_pa h (by omega) ht hst]
      apply propext
      constructor
      · rintro ⟨_, h2⟩
        have : p = s := by omega
        subst this
        exact ⟨h.ne (by omega) ht, ep.symm⟩
      · rintro ⟨_, h2⟩
        refine ⟨by omega, ?_⟩
        have := asc_inj h.asc (by omega) hs (ep.trans h2)
        omega
  rw [hf]
  apply List.map_congr_left
  intro t ht
  rw [List.mem_filter, List.mem_range] at ht
  simp only [Function.comp]
  rw [auto_la ht.1]
/-- what may come next where both demands hold, as the program has it -/
def jm (a b : Int) : Int := if a = -1 ∨ a = b then b else if b = -1 then a else -2
/-- m says all of P -/
def MustIs (P : Int → Prop) (m : Int) : Prop := (m = -1 ∧ ∀ e, ¬ P e) ∨ (0 ≤ m ∧ P m ∧ ∀ e, P e → e = m) ∨ (m = -2 ∧ ∃ e f, P e ∧ P f ∧ e ≠ f)
theorem MustIs.uniq {P : Int → Prop} {a b : Int} (h : MustIs P a) (k : MustIs P b) : a = b := by
  rcases h with ⟨h1, h2⟩ | ⟨h1, h2, h3⟩ | ⟨h1, e, f, h2, h3, h4⟩
  · rcases k with ⟨k1, k2⟩ | ⟨k1, k2, k3⟩ | ⟨k1, e, f, k2, k3, k4⟩
    · omega
    · exact absurd k2 (h2 _)
    · exact absurd k2 (h2 _)
  · rcases k with ⟨k1, k2⟩ | ⟨k1, k2, k3⟩ | ⟨k1, e, f, k2, k3, k4⟩
    · exact absurd h2 (k2 _)
    · exact (h3 _ k2).symm
    · exact absurd ((h3 _ k2).trans (h3 _ k3).symm) k4
  · rcases k with ⟨k1, k2⟩ | ⟨k1, k2, k3⟩ | ⟨k1, e', f', k2, k3, k4⟩
    · exact absurd h2 (k2 _)
    · exact absurd ((k3 _ h2).trans (k3 _ h3).symm) h4
    · omega
theorem MustIs.join {P Q : Int → Prop} {a b : Int} (h : MustIs P a) (k : MustIs Q b) : MustIs (fun e => P e ∨ Q e) (jm a b) := by
  unfold jm
  rcases h with ⟨h1, h2⟩ | ⟨h1, h2, h3⟩ | ⟨h1, e, f, h2, h3, h4⟩
  · rw [if_pos (Or.inl h1)]
    rcases k with ⟨k1, k2⟩ | ⟨k1, k2, k3⟩ | ⟨k1, e, f, k2, k3, k4⟩
    · exact Or.inl ⟨k1, fun e he => he.elim (h2 e) (k2 e)⟩
    · exact Or.inr (Or.inl ⟨k1, Or.inr k2, fun e he => he.elim (fun h => absurd h (h2 e)) (k3 e)⟩)
    · exact Or.inr (Or.inr ⟨k1, e, f, Or.inr k2, Or.inr k3, k4⟩)
  · rcases k with ⟨k1, k2⟩ | ⟨k1, k2, k3⟩ | ⟨k1, e, f, k2, k3, k4⟩
    · rw [if_neg (by omega), if_pos k1]
      exact Or.inr (Or.inl ⟨h1, Or.inl h2, fun e he => he.elim (h3 e) (fun h => absurd h (k2 e))⟩)
    · by_cases c : a = b
      · rw [if_pos (Or.inr c)]
        exact Or.inr (Or.inl ⟨k1, Or.inr k2, fun e he => he.elim (fun h => (h3 e h).trans c) (k3 e)⟩)
      · rw [if_neg (by omega), if_neg (by omega)]
        exact Or.inr (Or.inr ⟨rfl, a, b, Or.inl h2, Or.inr k2, c⟩)
    · rw [if_neg (by omega), if_neg (by omega)]
      exact Or.inr (Or.inr ⟨rfl, e, f, Or.inr k2, Or.inr k3, k4⟩)
  · by_cases c : a = b
    · rw [if_pos (Or.inr c)]
      exact Or.inr (Or.inr ⟨by omega, e, f, Or.inl h2, Or.inl h3, h4⟩)
    · rw [if_neg (by omega)]
      by_cases d : b = -1
      · rw [if_pos d]; exact Or.inr (Or.inr ⟨h1, e, f, Or.inl h2, Or.inl h3, h4⟩)
      · rw [if_neg d]; exact Or.inr (Or.inr ⟨rfl, e, f, Or.inl h2, Or.inl h3, h4⟩)
theorem MustIs.congr {P Q : Int → Prop} {a : Int} (h : MustIs P a) (e : ∀ x, P x ↔ Q x) : MustIs Q a := by
  have : P = Q := funext fun x => propext (e x)
  rw [← this]; exact h
theorem MustIs.one {e : Int} (h : 0 ≤ e) : MustIs (fun x => x = e) e := Or.inr (Or.inl ⟨h, rfl, fun _ h => h⟩)
theorem MustIs.none : MustIs (fun _ => False) (-1) := Or.inl ⟨rfl, fun _ h => h⟩
theorem jm_edge (m l : Int) (h : 0 ≤ l) : jm m l = joinM m l := by
  unfold jm joinM
  by_cases c : m = -1 ∨ m = l
  · rw [if_pos c, if_pos c]
  · rw [if_neg c, if_neg c, if_neg (by omega)]
/-- sufB says: an end -/
theorem suf_iff (q xs : List Int) : sufB q xs = true ↔ q <:+ xs := by
  unfold sufB
  constructor
  · intro h
    rw [Bool.and_eq_true, decide_eq_true_eq] at h
    obtain ⟨h1, h2⟩ := h
    have : q = xs.drop (xs.length - q.length) := by
      apply List.ext_getElem
      · rw [List.length_drop]; omega
      · intro i hi hi'
        have h3 := (List.all_eq_true.1 h2) i (List.mem_range.2 hi)
        have h4 : iat xs (xs.length - q.length + i) = iat q i := by simpa using h3
        rw [iat_eq (by omega), iat_eq hi] at h4
        rw [List.getElem_drop]
        exact h4.symm
    rw [this]
    exact List.drop_suffix _ _
  · rintro ⟨p, rfl⟩
    rw [Bool.and_eq_true, decide_eq_true_eq]
    refine ⟨by simp, allN_yes (Nat.le_refl _) fun i hi => ?_⟩
    have : (p ++ q).length - q.length = p.length := by simp
    rw [this]
    simp [iat, List.getD, List.getElem?_append_right (show p.length ≤ p.length + i by omega)]
theorem rg_at {rs : List Ru} (h : rgB rs = true) {i : Nat} (hi : i < rs.length) : 2 ≤ (rat rs i).seq.length ∧ (rat rs i).seq.length ≤ 402 ∧ ∀ j, j < (rat rs i).seq.length → 0 ≤ iat (rat rs i).seq j ∧ iat (rat rs i).seq j < 4000 := by
  unfold rgB at h
  rw [Bool.and_eq_true] at h
  have h1 := List.all_eq_true.1 h.2 i (List.mem_range.2 hi)
  unfold rgAt at h1
  rw [Bool.and_eq_true, Bool.and_eq_true, decide_eq_true_eq, decide_eq_true_eq] at h1
  refine ⟨h1.1, h1.2.1, fun j hj => ?_⟩
  have h2 := List.all_eq_true.1 h1.2.2 j (List.mem_range.2 hj)
  unfold edgeB at h2
  simpa using h2
theorem most_le (x : Ru) : most x ≤ x.seq.length := by unfold most; split <;> omega
theorem take_of_snoc {x s : List Int} {e : Int} {q : Nat} (hq : q ≤ s.length) (h : x ++ [e] = s.take q) : 1 ≤ q ∧ x = s.take (q - 1) ∧ e = iat s (q - 1) := by
  have hl : x.length + 1 = q := by
    have := congrArg List.length h
    rw [List.length_append, List.length_take] at this
    simp at this; omega
  refine ⟨by omega, ?_, ?_⟩
  · have h1 := congrArg (List.take (q - 1)) h
    rw [List.take_append_of_le_length (by omega), List.take_of_length_le (by omega), List.take_take] at h1
    rw [h1]; congr 1; omega
  · have h1 : (x ++ [e])[x.length]? = (s.take q)[x.length]? := by rw [h]
    rw [List.getElem?_append_right (Nat.le_refl _), List.getElem?_take_of_lt (by omega), Nat.sub_self, List.getElem?_eq_getElem (show x.length < s.length by omega)] at h1
    have h2 : x.length = q - 1 := by omega
    rw [← h2, iat_eq (by omega)]
    simpa using h1
theorem ws_of_pw {rs : List Ru} {i k : Nat} {ws : List (List Int)} (hg : rgB rs = true) (hi : i ≤ rs.length) (hk : k ≤ 1 ∨ (i < rs.length ∧ k ≤ (rat rs i).seq.length + 1)) (ha : AscW ws) (h : ∀ y, inW ws y ↔ PW rs i k y) : WS ws := by
  have key : ∀ x e, PW rs i k (x ++ [e]) → PW rs i k x ∧ 0 ≤ e ∧ e < 4000 := by
    rintro x e (h1 | ⟨j, hj, q, h1, h2, h3⟩ | ⟨q, h1, h2, h3⟩)
    · simp at h1
    · have hr := rg_at hg (show j < rs.length by omega)
      have hm := most_le (rat rs j)
      obtain ⟨_, e1, e2⟩ := take_of_snoc (by omega) h3
      refine ⟨?_, by rw [e2]; exact hr.2.2 _ (by omega)⟩
      by_cases c : q = 1
      · subst c; left; rw [e1]; simp
      · right; left; exact ⟨j, hj, q - 1, by omega, by omega, e1⟩
    · rcases hk with hk | ⟨hk1, hk2⟩
      · omega
      · have hr := rg_at hg hk1
        obtain ⟨_, e1, e2⟩ := take_of_snoc (by omega) h3
        refine ⟨?_, by rw [e2]; exact hr.2.2 _ (by omega)⟩
        by_cases c : q = 1
        · subst c; left; rw [e1]; simp
        · right; right; exact ⟨q - 1, by omega, by omega, e1⟩
  exact ⟨ha, (h []).2 (Or.inl rfl), fun x e hx => (h x).2 (key x e ((h _).1 hx)).1, fun x e hx => (key x e ((h _).1 hx)).2⟩
theorem ws_of_wi {rs : List Ru} {ws : List (List Int)} (hg : rgB rs = true) (h : WI rs rs.length 1 ws) (hl : ws.length ≤ 2000) : WS ws :=
  ws_of_pw hg (Nat.le_refl _) (Or.inl (Nat.le_refl _)) h.asc fun y => ⟨h.yes y, h.all hl y⟩
theorem pw_len {rs : List Ru} {i k : Nat} {y : List Int} (hg : rgB rs = true) (hi : i ≤ rs.length) (hk : k ≤ 1 ∨ i < rs.length) (h : PW rs i k y) : y.length ≤ 402 := by
  rcases h with h1 | ⟨j, hj, q, h1, h2, h3⟩ | ⟨q, h1, h2, h3⟩
  · rw [h1]; simp
  · have hr := rg_at hg (show j < rs.length by omega)
    rw [h3, List.length_take]; omega
  · rcases hk with hk | hk
    · omega
    · have hr := rg_at hg hk
      rw [h3, List.length_take]; omega
theorem wi_len {rs : List Ru} {ws : List (List Int)} (hg : rgB rs = true) (h : WI rs rs.length 1 ws) {s : Nat} (hs : s < ws.length) : (wd ws s).length ≤ 402 := pw_len hg (Nat.le_refl _) (Or.inl (Nat.le_refl _)) (h.yes _ ⟨s, hs, rfl⟩)
end Go.Proofs.Ytifefpeefcjabaa
