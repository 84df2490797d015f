import Derived.Test.YticooljejlkbfaaSO
namespace Go.Proofs.Yticooljejlkbfaa
set_option linter.unusedVariables false

/-- walks over arcs from s0: their edges, cost and last vertex -/
def WK (eo:Nat->Int)(arcs:Nat->List (Nat×Int))(s0:Nat)(w0:Int)(E:List Int)(c:Int)(v:Nat):Prop:=∀P:List Int->Int->Nat->Prop,P [eo s0] w0 s0->(∀E c v u k,P E c v->(u,k)∈arcs v->P (E++[eo u]) (c+k) u)->P E c v
theorem WK.base {eo arcs s0 w0}:WK eo arcs s0 w0 [eo s0] w0 s0:=λ_ b _=>b
theorem WK.step {eo arcs s0 w0 E c v u k}(h:WK eo arcs s0 w0 E c v)(m:(u,k)∈arcs v):WK eo arcs s0 w0 (E++[eo u]) (c+k) u:=λP b s=>s _ _ _ _ _ (h P b s) m
theorem WK.ind {eo arcs s0 w0}{motive:∀E c v,WK eo arcs s0 w0 E c v->Prop}(base:motive _ _ _ WK.base)(step:∀{E c v u k}(h:WK eo arcs s0 w0 E c v)(m:(u,k)∈arcs v),motive E c v h->motive _ _ _ (h.step m)){E c v}(h:WK eo arcs s0 w0 E c v):motive E c v h:=by
 obtain⟨_,i⟩:=h (λE c v=>∃h,motive E c v h) ⟨_,base⟩ (λ_ _ _ _ _ ⟨h,i⟩ m=>⟨_,step h m i⟩)
 exact i
/-- cheaper, or as cheap and of fewer edges or the smaller ones -/
def befC (c : Int) (E : List Int) (c' : Int) (E' : List Int) : Prop := c < c' ∨ (c = c' ∧ befB E E' = true)
theorem befC_self (c : Int) (E : List Int) : ¬ befC c E c E := by
  rintro (h | ⟨_, h⟩)
  · omega
  · rw [bef_self] at h; cases h
theorem befC_trans {a b c : Int} {A B C : List Int} (h : befC a A b B) (k : befC b B c C) : befC a A c C := by
  rcases h with h | ⟨h1, h2⟩
  · rcases k with k | ⟨k1, k2⟩
    · exact Or.inl (by omega)
    · exact Or.inl (by omega)
  · rcases k with k | ⟨k1, k2⟩
    · exact Or.inl (by omega)
    · exact Or.inr ⟨h1.trans k1, bef_trans h2 k2⟩
theorem befC_tri {a b : Int} {A B : List Int} (h : ¬ befC a A b B) (k : ¬ befC b B a A) : a = b ∧ A = B := by
  unfold befC at h k
  have e : a = b := by
    rcases Int.lt_trichotomy a b with c | c | c
    · exact absurd (Or.inl c) h
    · exact c
    · exact absurd (Or.inl c) k
  refine ⟨e, ?_⟩
  by_cases d : A = B
  · exact d
  · cases hb : befB A B with
    | true => exact absurd (Or.inr ⟨e, hb⟩) h
    | false => exact absurd (Or.inr ⟨e.symm, bef_tri d hb⟩) k
/-- no worse and no worse -/
theorem befC_le {a b c : Int} {A B C : List Int} (h : ¬ befC b B a A) (k : ¬ befC c C b B) : ¬ befC c C a A := by
  intro g
  by_cases e : befC a A b B
  · exact k (befC_trans g e)
  · obtain ⟨rfl, rfl⟩ := befC_tri e h
    exact k g
theorem befC_short {a b : Int} {A B : List Int} (h : a ≤ b) (hl : A.length < B.length) : befC a A b B := by
  rcases Int.lt_or_eq_of_le h with c | c
  · exact Or.inl c
  · refine Or.inr ⟨c, ?_⟩
    unfold befB
    rw [if_neg (by omega)]
    simpa using hl
theorem befC_snoc {a b k e : Int} {A B : List Int} (h : befC a A b B) : befC (a + k) (A ++ [e]) (b + k) (B ++ [e]) := by
  rcases h with h | ⟨h1, h2⟩
  · exact Or.inl (by omega)
  · exact Or.inr ⟨by omega, by rw [bef_snoc, h2]; rfl⟩
theorem befC_snoc' {a b k e : Int} {A B : List Int} (h : ¬ befC a A b B) : ¬ befC (a + k) (A ++ [e]) (b + k) (B ++ [e]) := by
  rintro (h1 | ⟨h1, h2⟩)
  · exact h (Or.inl (by omega))
  · rw [bef_snoc] at h2
    simp at h2
    exact h (Or.inr ⟨by omega, h2⟩)

section
variable {eo : Nat → Int} {arcs : Nat → List (Nat × Int)} {s0 : Nat} {w0 : Int}
theorem WK.pos {E : List Int} {c : Int} {v : Nat} (h : WK eo arcs s0 w0 E c v) : 1 ≤ E.length := by
  induction h using WK.ind with
  | base => simp
  | step _ _ hzz => simp
theorem WK.last {E : List Int} {c : Int} {v : Nat} (h : WK eo arcs s0 w0 E c v) : ∃ E0, E = E0 ++ [eo v] := by
  induction h using WK.ind with
  | base => exact ⟨[], rfl⟩
  | step _ _ hzz => exact ⟨_, rfl⟩
theorem WK.one {E : List Int} {c : Int} {v : Nat} (h : WK eo arcs s0 w0 E c v) (hl : E.length ≤ 1) : E = [eo s0] ∧ c = w0 ∧ v = s0 := by
  induction h using WK.ind with
  | base => exact ⟨rfl, rfl, rfl⟩
  | step h _ hzz => have := h.pos; rw [List.length_append, List.length_singleton] at hl; omega
theorem WK.inv {E : List Int} {c : Int} {v : Nat} (h : WK eo arcs s0 w0 E c v) (hl : 2 ≤ E.length) : ∃ E0 c0 u k, WK eo arcs s0 w0 E0 c0 u ∧ (v, k) ∈ arcs u ∧ E = E0 ++ [eo v] ∧ c = c0 + k := by
  induction h using WK.ind with
  | base => simp at hl
  | step h k hzz => exact ⟨_, _, _, _, h, k, rfl, rfl⟩
theorem WK.bd {n : Nat} (hs : s0 < n) (ha : ∀ v u k, (u, k) ∈ arcs v → u < n) {E : List Int} {c : Int} {v : Nat} (h : WK eo arcs s0 w0 E c v) : v < n := by
  induction h using WK.ind with
  | base => exact hs
  | step _ k hzz => exact ha _ _ _ k
/-- the best walk to v of at most r edges -/
structure BV (eo : Nat → Int) (arcs : Nat → List (Nat × Int)) (s0 : Nat) (w0 : Int) (r v : Nat) (c : Int) (E : List Int) : Prop where
  rw : WK eo arcs s0 w0 E c v
  le : E.length ≤ r
  min : ∀ E' c', WK eo arcs s0 w0 E' c' v → E'.length ≤ r → ¬ befC c' E' c E
theorem BV.uniq {r v : Nat} {c c' : Int} {E E' : List Int} (h : BV eo arcs s0 w0 r v c E) (k : BV eo arcs s0 w0 r v c' E') : c = c' ∧ E = E' :=
  befC_tri (fun g => k.min _ _ h.rw h.le g) (fun g => h.min _ _ k.rw k.le g)
theorem BV.one : BV eo arcs s0 w0 1 s0 w0 [eo s0] := ⟨WK.base, by simp, fun E' c' h hl => by
  obtain ⟨rfl, rfl, _⟩ := h.one hl
  exact befC_self _ _⟩
/-- the beginning of a best walk is best -/
theorem BV.pre {r v : Nat} {c : Int} {E : List Int} (h : BV eo arcs s0 w0 (r + 1) v c E) (hl : E.length = r + 1) (hr : 1 ≤ r) : ∃ u c0 k E0, BV eo arcs s0 w0 r u c0 E0 ∧ E0.length = r ∧ (v, k) ∈ arcs u ∧ E = E0 ++ [eo v] ∧ c = c0 + k := by
  obtain ⟨E0, c0, u, k, h0, hk, rfl, rfl⟩ := h.rw.inv (by omega)
  have hl0 : E0.length = r := by simpa using hl
  refine ⟨u, c0, k, E0, ⟨h0, by omega, fun E' c' h' hl' g => ?_⟩, hl0, hk, rfl, rfl⟩
  exact h.min _ _ (h'.step hk) (by simpa using hl') (befC_snoc g)
theorem BV.cheap (hc : ∀ v u k, (u, k) ∈ arcs v → 0 ≤ k) {r v : Nat} {c : Int} {E : List Int} (h : BV eo arcs s0 w0 r v c E) (hl : E.length = r) (hr : 1 ≤ r) :
    ∃ P : List Nat, P.length = r ∧ P.Nodup ∧ ∀ u ∈ P, ∃ j c' E', 1 ≤ j ∧ j ≤ r ∧ BV eo arcs s0 w0 j u c' E' ∧ E'.length = j ∧ c' ≤ c := by
  induction r generalizing v c E with
  | zero => omega
  | succ r ih =>
    by_cases h0 : r = 0
    · subst h0
      refine ⟨[v], rfl, by simp, fun u hu => ?_⟩
      simp at hu
      subst hu
      exact ⟨1, c, E, Nat.le_refl _, Nat.le_refl _, h, hl, Int.le_refl _⟩
    · obtain ⟨u, c0, k, E0, hB, hl0, hk, rfl, rfl⟩ := h.pre hl (by omega)
      obtain ⟨P, p1, p2, p3⟩ := ih hB hl0 (by omega)
      have hk0 := hc _ _ _ hk
      refine ⟨v :: P, by simp [p1], ?_, fun y hy => ?_⟩
      · rw [List.nodup_cons]
        refine ⟨fun hv => ?_, p2⟩
        obtain ⟨j, c', E', j1, j2, hB', hl', hc'⟩ := p3 v hv
        exact h.min _ _ hB'.rw (by omega) (befC_short (by omega) (by omega))
      · rcases List.mem_cons.1 hy with rfl | hy
        · exact ⟨r + 1, _, _, by omega, Nat.le_refl _, h, hl, Int.le_refl _⟩
        · obtain ⟨j, c', E', j1, j2, hB', hl', hc'⟩ := p3 y hy
          exact ⟨j, c', E', j1, by omega, hB', hl', by omega⟩
theorem nodup_len (n : Nat) : ∀ l : List Nat, l.Nodup → (∀ x ∈ l, x < n) → l.length ≤ n := by
  induction n with
  | zero =>
    intro l _ h
    cases l with
    | nil => simp
    | cons x l => exact absurd (h x (List.mem_cons_self ..)) (Nat.not_lt_zero _)
  | succ n ih =>
    intro l hl h
    have h1 := ih (l.erase n) (hl.erase n) (fun x hx => by
      have := (hl.mem_erase_iff).1 hx
      have := h x this.2
      omega)
    have h2 : l.length ≤ (l.erase n).length + 1 := by
      rw [List.length_erase]
      split <;> omega
    omega
/-- a best walk of just r edges: r is at most the number of vertices -/
theorem BV.lvl {n : Nat} (hs : s0 < n) (ha : ∀ v u k, (u, k) ∈ arcs v → u < n) (hc : ∀ v u k, (u, k) ∈ arcs v → 0 ≤ k) {r v : Nat} {c : Int} {E : List Int} (h : BV eo arcs s0 w0 r v c E) (hl : E.length = r) (hr : 1 ≤ r) : r ≤ n := by
  obtain ⟨P, p1, p2, p3⟩ := h.cheap hc hl hr
  have := nodup_len n P p2 (fun u hu => by
    obtain ⟨j, c', E', _, _, hB, _⟩ := p3 u hu
    exact hB.rw.bd hs ha)
  omega
/-- all vertices that r edges reach have a best walk -/
def Has (eo : Nat → Int) (arcs : Nat → List (Nat × Int)) (s0 : Nat) (w0 : Int) (r : Nat) : Prop := ∀ E c v, WK eo arcs s0 w0 E c v → E.length ≤ r → ∃ c' E', BV eo arcs s0 w0 r v c' E'
/-- the least of a list -/
theorem min_of (l : List (Int × List Int)) (hl : l ≠ []) : ∃ m ∈ l, ∀ x ∈ l, ¬ befC x.1 x.2 m.1 m.2 := by
  induction l with
  | nil => exact absurd rfl hl
  | cons y l ih =>
    by_cases e : l = []
    · subst e
      exact ⟨y, List.mem_cons_self .., fun x hx => by simp at hx; subst hx; exact befC_self _ _⟩
    · obtain ⟨m, hm, hmin⟩ := ih e
      by_cases g : befC y.1 y.2 m.1 m.2
      · refine ⟨y, List.mem_cons_self .., fun x hx => ?_⟩
        rcases List.mem_cons.1 hx with rfl | hx
        · exact befC_self _ _
        · exact fun h => hmin x hx (befC_trans h g)
      · refine ⟨m, List.mem_cons_of_mem _ hm, fun x hx => ?_⟩
        rcases List.mem_cons.1 hx with rfl | hx
        · exact g
        · exact hmin x hx
/-- what a best walk of one edge more can be -/
theorem bv_up {r v : Nat} {c : Int} {E : List Int} (hr : 1 ≤ r) (H : Has eo arcs s0 w0 r) (hR : WK eo arcs s0 w0 E c v) (hl : E.length ≤ r + 1)
    (h1 : ∀ c' E', BV eo arcs s0 w0 r v c' E' → ¬ befC c' E' c E) (h2 : ∀ u c0 k E0, BV eo arcs s0 w0 r u c0 E0 → E0.length = r → (v, k) ∈ arcs u → ¬ befC (c0 + k) (E0 ++ [eo v]) c E) : BV eo arcs s0 w0 (r + 1) v c E := by
  refine ⟨hR, hl, fun E' c' h' hl' => ?_⟩
  by_cases e : E'.length ≤ r
  · obtain ⟨c1, E1, hB⟩ := H _ _ _ h' e
    exact befC_le (h1 c1 E1 hB) (hB.min _ _ h' e)
  · obtain ⟨E0, c0, u, k, h0, hk, rfl, rfl⟩ := h'.inv (by omega)
    have hl0 : E0.length = r := by simp at hl' e; omega
    obtain ⟨c1, E1, hB⟩ := H _ _ _ h0 (by omega)
    have h3 := hB.min _ _ h0 (by omega)
    by_cases f : E1.length = r
    · exact befC_le (h2 u c1 k E1 hB f hk) (befC_snoc' h3)
    · -- a shorter one before it: as many edges as before, at most
      have hle := hB.le
      have hs := hB.rw.step hk
      obtain ⟨c2, E2, hB2⟩ := H _ _ _ hs (by simp; omega)
      exact befC_le (befC_le (h1 c2 E2 hB2) (hB2.min _ _ hs (by simp; omega))) (befC_snoc' h3)
end
end Go.Proofs.Yticooljejlkbfaa

namespace Go.Proofs.Yticooljejlkbfaa
set_option linter.unusedVariables false

/-- a walk, its cost, and its key -/
structure Wk where
  E : List Int
  c : Int
  key : List Int
/-- one at most of each key -/
def KU (ws : List Wk) : Prop := ∀ x ∈ ws, ∀ y ∈ ws, x.key = y.key → x = y
def hasK (ws : List Wk) (k : List Int) : Bool := ws.any (fun x => decide (x.key = k))
theorem hasK_iff {ws : List Wk} {k : List Int} : hasK ws k = true ↔ ∃ x ∈ ws, x.key = k := by
  unfold hasK
  rw [List.any_eq_true]
  constructor
  · rintro ⟨x, h1, h2⟩; exact ⟨x, h1, by simpa using h2⟩
  · rintro ⟨x, h1, h2⟩; exact ⟨x, h1, by simpa using h2⟩
def betB (w x : Wk) : Bool := decide (w.c < x.c) || (decide (w.c = x.c) && befB w.E x.E)
theorem bet_iff {w x : Wk} : betB w x = true ↔ befC w.c w.E x.c x.E := by
  unfold betB befC
  simp
/-- the walks with one more; of two with the same key the better one -/
def keepW (ws : List Wk) (w : Wk) : List Wk := if hasK ws w.key then ws.map (fun x => if x.key = w.key ∧ betB w x = true then w else x) else ws ++ [w]
theorem keep_mem {ws : List Wk} {w x : Wk} (h : x ∈ keepW ws w) : x = w ∨ x ∈ ws := by
  unfold keepW at h
  split at h
  · obtain ⟨y, hy, e⟩ := List.mem_map.1 h
    split at e
    · exact Or.inl e.symm
    · exact Or.inr (e ▸ hy)
  · rcases List.mem_append.1 h with h | h
    · exact Or.inr h
    · simp at h; exact Or.inl h
theorem keep_ku {ws : List Wk} {w : Wk} (h : KU ws) : KU (keepW ws w) := by
  intro x hx y hy e
  unfold keepW at hx hy
  by_cases hk : hasK ws w.key = true
  · rw [if_pos hk] at hx hy
    obtain ⟨a, ha, rfl⟩ := List.mem_map.1 hx
    obtain ⟨b, hb, rfl⟩ := List.mem_map.1 hy
    have key : a.key = b.key := by
      split at e <;> split at e
      · rename_i h1 h2; exact h1.1.trans h2.1.symm
      · rename_i h1 h2; exact h1.1.trans e
      · rename_i h1 h2; exact e.trans h2.1.symm
      · exact e
    rw [h a ha b hb key]
  · rw [if_neg hk] at hx hy
    rw [hasK_iff] at hk
    rcases List.mem_append.1 hx with hx1 | hx1
    · rcases List.mem_append.1 hy with hy1 | hy1
      · exact h x hx1 y hy1 e
      · have ey : y = w := by simpa using hy1
        exact absurd ⟨x, hx1, e.trans (by rw [ey])⟩ hk
    · have ex : x = w := by simpa using hx1
      rcases List.mem_append.1 hy with hy1 | hy1
      · exact absurd ⟨y, hy1, e.symm.trans (by rw [ex])⟩ hk
      · have ey : y = w := by simpa using hy1
        rw [ex, ey]
theorem keep_new (ws : List Wk) (w : Wk) : ∃ x ∈ keepW ws w, x.key = w.key ∧ ¬ befC w.c w.E x.c x.E := by
  unfold keepW
  by_cases hk : hasK ws w.key = true
  · rw [if_pos hk]
    obtain ⟨y, hy, e⟩ := hasK_iff.1 hk
    by_cases hb : betB w y = true
    · exact ⟨w, List.mem_map.2 ⟨y, hy, if_pos ⟨e, hb⟩⟩, rfl, befC_self _ _⟩
    · exact ⟨y, List.mem_map.2 ⟨y, hy, if_neg fun h => hb h.2⟩, e, fun h => hb (bet_iff.2 h)⟩
  · rw [if_neg hk]
    exact ⟨w, by simp, rfl, befC_self _ _⟩
theorem keep_old {ws : List Wk} {w y : Wk} (hy : y ∈ ws) : ∃ x ∈ keepW ws w, x.key = y.key ∧ ¬ befC y.c y.E x.c x.E := by
  unfold keepW
  by_cases hk : hasK ws w.key = true
  · rw [if_pos hk]
    by_cases hb : y.key = w.key ∧ betB w y = true
    · exact ⟨w, List.mem_map.2 ⟨y, hy, if_pos hb⟩, hb.1.symm, fun h => befC_self _ _ (befC_trans h (bet_iff.1 hb.2))⟩
    · exact ⟨y, List.mem_map.2 ⟨y, hy, if_neg hb⟩, rfl, befC_self _ _⟩
  · rw [if_neg hk]
    exact ⟨y, List.mem_append_left _ hy, rfl, befC_self _ _⟩
/-- the best of each key -/
structure Best (R cs : List Wk) : Prop where
  ku : KU R
  sub : ∀ x ∈ R, x ∈ cs
  min : ∀ y ∈ cs, ∃ x ∈ R, x.key = y.key ∧ ¬ befC y.c y.E x.c x.E
theorem Best.nil : Best [] [] := ⟨fun x hx => by simp at hx, fun x hx => by simp at hx, fun x hx => by simp at hx⟩
theorem Best.keep {R cs : List Wk} (h : Best R cs) (w : Wk) : Best (keepW R w) (cs ++ [w]) := by
  refine ⟨keep_ku h.ku, fun x hx => ?_, fun y hy => ?_⟩
  · rcases keep_mem hx with rfl | hx
    · simp
    · exact List.mem_append_left _ (h.sub x hx)
  · rcases List.mem_append.1 hy with hy | hy
    · obtain ⟨z, hz, e1, e2⟩ := h.min y hy
      obtain ⟨x, hx, f1, f2⟩ := keep_old (w := w) hz
      exact ⟨x, hx, f1.trans e1, befC_le f2 e2⟩
    · simp at hy
      subst hy
      exact keep_new R y
/-- those that are cheaper than what was seen -/
def cheapB (seen : List Wk) (x : Wk) : Bool := seen.all (fun y => !decide (y.key = x.key) || decide (x.c < y.c))
theorem cheap_iff {seen : List Wk} {x : Wk} : cheapB seen x = true ↔ ∀ y ∈ seen, y.key = x.key → x.c < y.c := by
  unfold cheapB
  rw [List.all_eq_true]
  constructor
  · intro h y hy e
    have := h y hy
    simpa [e] using this
  · intro h y hy
    by_cases e : y.key = x.key
    · simpa [e] using h y hy e
    · simp [e]
def freshW (ws seen : List Wk) : List Wk := ws.filter (cheapB seen)
/-- what was seen, one more put in -/
def seeOne (seen : List Wk) (x : Wk) : List Wk := if hasK seen x.key then seen.map (fun y => if y.key = x.key then x else y) else seen ++ [x]
theorem see_mem {seen : List Wk} {x y : Wk} : y ∈ seeOne seen x ↔ y = x ∨ (y ∈ seen ∧ y.key ≠ x.key) := by
  unfold seeOne
  by_cases hk : hasK seen x.key = true
  · rw [if_pos hk, List.mem_map]
    constructor
    · rintro ⟨z, hz, e⟩
      split at e
      · exact Or.inl e.symm
      · rename_i h; subst e; exact Or.inr ⟨hz, h⟩
    · rintro (rfl | ⟨h1, h2⟩)
      · obtain ⟨z, hz, e⟩ := hasK_iff.1 hk
        exact ⟨z, hz, if_pos e⟩
      · exact ⟨y, h1, if_neg h2⟩
  · rw [if_neg hk, List.mem_append]
    rw [hasK_iff] at hk
    constructor
    · rintro (h | h)
      · exact Or.inr ⟨h, fun e => hk ⟨y, h, e⟩⟩
      · simp at h; exact Or.inl h
    · rintro (rfl | ⟨h1, _⟩)
      · simp
      · exact Or.inl h1
def seeW (seen fresh : List Wk) : List Wk := fresh.foldl seeOne seen
theorem seeW_mem {fresh : List Wk} (hk : fresh.Pairwise (fun x y => x.key ≠ y.key)) (seen : List Wk) (y : Wk) : y ∈ seeW seen fresh ↔ y ∈ fresh ∨ (y ∈ seen ∧ ∀ x ∈ fresh, y.key ≠ x.key) := by
  induction fresh generalizing seen with
  | nil => simp [seeW]
  | cons x l ih =>
    rw [List.pairwise_cons] at hk
    show y ∈ seeW (seeOne seen x) l ↔ _
    rw [ih hk.2, see_mem]
    constructor
    · rintro (h | ⟨rfl | ⟨h1, h2⟩, h3⟩)
      · exact Or.inl (List.mem_cons_of_mem _ h)
      · exact Or.inl (List.mem_cons_self ..)
      · refine Or.inr ⟨h1, fun z hz => ?_⟩
        rcases List.mem_cons.1 hz with rfl | hz
        · exact h2
        · exact h3 z hz
    · rintro (h | ⟨h1, h2⟩)
      · rcases List.mem_cons.1 h with rfl | h
        · exact Or.inr ⟨Or.inl rfl, fun z hz => hk.1 z hz⟩
        · exact Or.inl h
      · exact Or.inr ⟨Or.inr ⟨h1, h2 x (List.mem_cons_self ..)⟩, fun z hz => h2 z (List.mem_cons_of_mem _ hz)⟩
/-- a route: 1: none -/
structure Rt where
  code : Int
  cost : Int
  edges : List Int
def endsB (x : Wk) (t : Int) : Bool := decide (x.E.getLast? = some t)
def bestOne (t : Int) (old : Rt) (x : Wk) : Rt :=
  if endsB x t && (decide (old.code ≠ 0) || (decide (x.c < old.cost) || (decide (x.c = old.cost) && befB x.E old.edges))) then ⟨0, x.c, x.E⟩ else old
def bestW (t : Int) (old : Rt) (ws : List Wk) : Rt := ws.foldl (bestOne t) old
/-- the best of these that end in t -/
structure BestR (t : Int) (P : Int → List Int → Prop) (r : Rt) : Prop where
  none : r.code ≠ 0 → r = ⟨1, 0, []⟩ ∧ ∀ c E, ¬ P c E
  some : r.code = 0 → P r.cost r.edges ∧ ∀ c E, P c E → ¬ befC c E r.cost r.edges
theorem BestR.uniq {t : Int} {P : Int → List Int → Prop} {r r' : Rt} (h : BestR t P r) (k : BestR t P r') : r = r' := by
  by_cases e : r.code = 0
  · have h1 := h.some e
    by_cases e' : r'.code = 0
    · have k1 := k.some e'
      obtain ⟨a, b⟩ := befC_tri (k1.2 _ _ h1.1) (h1.2 _ _ k1.1)
      cases r; cases r'
      simp at e e' a b
      rw [e, e', a, b]
    · exact absurd h1.1 ((k.none e').2 _ _)
  · have h1 := h.none e
    by_cases e' : r'.code = 0
    · exact absurd (k.some e').1 (h1.2 _ _)
    · rw [h1.1, (k.none e').1]
theorem BestR.one {t : Int} {P : Int → List Int → Prop} {old : Rt} (h : BestR t P old) (x : Wk) : BestR t (fun c E => P c E ∨ (c = x.c ∧ E = x.E ∧ endsB x t = true)) (bestOne t old x) := by
  unfold bestOne
  by_cases he : endsB x t = true
  · by_cases h0 : old.code = 0
    · have h1 := h.some h0
      by_cases hb : befC x.c x.E old.cost old.edges
      · rw [if_pos (by rw [he, Bool.true_and]; rcases hb with hb | ⟨b1, b2⟩ <;> simp [*])]
        refine ⟨fun h => absurd rfl h, fun _ => ⟨Or.inr ⟨rfl, rfl, he⟩, ?_⟩⟩
        rintro c E (hP | ⟨rfl, rfl, _⟩)
        · exact fun g => h1.2 _ _ hP (befC_trans g hb)
        · exact befC_self _ _
      · rw [if_neg (by
          intro g
          rw [he, Bool.true_and] at g
          simp [h0] at g
          exact hb g)]
        refine ⟨fun h => absurd h0 h, fun _ => ⟨Or.inl h1.1, ?_⟩⟩
        rintro c E (hP | ⟨rfl, rfl, _⟩)
        · exact h1.2 _ _ hP
        · exact hb
    · rw [if_pos (by simp [he, h0])]
      have h1 := h.none h0
      refine ⟨fun h => absurd rfl h, fun _ => ⟨Or.inr ⟨rfl, rfl, he⟩, ?_⟩⟩
      rintro c E (hP | ⟨rfl, rfl, _⟩)
      · exact absurd hP (h1.2 _ _)
      · exact befC_self _ _
  · have hf : endsB x t = false := by simpa using he
    rw [if_neg (by simp [hf])]
    have e : (fun c E => P c E ∨ (c = x.c ∧ E = x.E ∧ endsB x t = true)) = P := by
      funext c E
      apply propext
      exact ⟨fun g => g.elim id fun g => absurd g.2.2 he, Or.inl⟩
    rw [e]; exact h
theorem BestR.all {t : Int} {P : Int → List Int → Prop} {old : Rt} (h : BestR t P old) (ws : List Wk) : BestR t (fun c E => P c E ∨ ∃ x ∈ ws, c = x.c ∧ E = x.E ∧ endsB x t = true) (bestW t old ws) := by
  induction ws generalizing P old with
  | nil =>
    have e : (fun c E => P c E ∨ ∃ x ∈ ([] : List Wk), c = x.c ∧ E = x.E ∧ endsB x t = true) = P := by
      funext c E
      simp
    rw [e]; exact h
  | cons x l ih =>
    have := ih (h.one x)
    have e : (fun c E => P c E ∨ ∃ y ∈ x :: l, c = y.c ∧ E = y.E ∧ endsB y t = true) = (fun c E => (P c E ∨ (c = x.c ∧ E = x.E ∧ endsB x t = true)) ∨ ∃ y ∈ l, c = y.c ∧ E = y.E ∧ endsB y t = true) := by
      funext c E
      apply propext
      constructor
      · rintro (h | ⟨y, hy, g⟩)
        · exact Or.inl (Or.inl h)
        · rcases List.mem_cons.1 hy with rfl | hy
          · exact Or.inl (Or.inr g)
          · exact Or.inr ⟨y, hy, g⟩
      · rintro ((h | g) | ⟨y, hy, g⟩)
        · exact Or.inl h
        · exact Or.inr ⟨x, List.mem_cons_self .., g⟩
        · exact Or.inr ⟨y, List.mem_cons_of_mem _ hy, g⟩
    rw [e]; exact this
theorem BestR.dom {t : Int} {P Q : Int → List Int → Prop} {r : Rt} (h : BestR t P r) (h1 : ∀ c E, P c E → Q c E) (h2 : ∀ c E, Q c E → ∃ c' E', P c' E' ∧ ¬ befC c E c' E') : BestR t Q r := by
  refine ⟨fun e => ⟨(h.none e).1, fun c E hQ => ?_⟩, fun e => ⟨h1 _ _ (h.some e).1, fun c E hQ => ?_⟩⟩
  · obtain ⟨c', E', hP, _⟩ := h2 c E hQ
    exact (h.none e).2 _ _ hP
  · obtain ⟨c', E', hP, g⟩ := h2 c E hQ
    exact befC_le ((h.some e).2 _ _ hP) g
end Go.Proofs.Yticooljejlkbfaa

namespace Go.Proofs.Yticooljejlkbfaa
set_option linter.unusedVariables false

def KP (ws : List Wk) : Prop := (ws.map (·.key)).Nodup
theorem KP.pw {ws : List Wk} (h : KP ws) : ws.Pairwise (fun x y => x.key ≠ y.key) := List.pairwise_map.1 h
theorem KP.filter {ws : List Wk} (h : KP ws) (p : Wk → Bool) : KP (ws.filter p) := by
  unfold KP at h ⊢
  exact h.sublist (List.Sublist.map _ List.filter_sublist)
theorem keep_kp {ws : List Wk} {w : Wk} (h : KP ws) : KP (keepW ws w) := by
  unfold KP at h ⊢
  unfold keepW
  by_cases hk : hasK ws w.key = true
  · rw [if_pos hk, List.map_map]
    have e : ws.map ((fun x => x.key) ∘ fun x => if x.key = w.key ∧ betB w x = true then w else x) = ws.map (·.key) := by
      apply List.map_congr_left
      intro x _
      simp only [Function.comp]
      split
      · rename_i g; exact g.1.symm
      · rfl
    rw [e]; exact h
  · rw [if_neg hk, List.map_append]
    rw [hasK_iff] at hk
    rw [List.nodup_append]
    refine ⟨h, by simp, fun a ha b hb e => ?_⟩
    simp at hb
    obtain ⟨x, hx, rfl⟩ := List.mem_map.1 ha
    exact hk ⟨x, hx, e.trans hb⟩
theorem kp_nil : KP [] := by simp [KP]

section
variable {eo : Nat → Int} {arcs : Nat → List (Nat × Int)} {s0 : Nat} {w0 : Int}
/-- the walks of r edges are done -/
structure LV (eo : Nat → Int) (arcs : Nat → List (Nat × Int)) (s0 : Nat) (w0 : Int) (t : Int) (r : Nat) (seen front : List Wk) (best : Rt) : Prop where
  r1 : 1 ≤ r
  ku : KU seen
  s1 : ∀ x ∈ seen, ∃ v : Nat, x.key = [(v : Int)] ∧ BV eo arcs s0 w0 r v x.c x.E
  s2 : ∀ E c v, WK eo arcs s0 w0 E c v → E.length ≤ r → ∃ x ∈ seen, x.key = [(v : Int)]
  f : ∀ x, x ∈ front ↔ x ∈ seen ∧ x.E.length = r
  b : BestR t (fun c E => ∃ v, WK eo arcs s0 w0 E c v ∧ E.length ≤ r ∧ eo v = t) best
theorem key_inj {u v : Nat} (h : [(u : Int)] = [(v : Int)]) : u = v := by have h1 := (List.cons.inj h).1; omega
theorem LV.at {t : Int} {r : Nat} {seen front : List Wk} {best : Rt} (h : LV eo arcs s0 w0 t r seen front best) {x : Wk} (hx : x ∈ seen) {v : Nat} (hk : x.key = [(v : Int)]) : BV eo arcs s0 w0 r v x.c x.E := by
  obtain ⟨u, e, hB⟩ := h.s1 x hx
  have := key_inj (e.symm.trans hk)
  subst this
  exact hB
theorem LV.has {t : Int} {r : Nat} {seen front : List Wk} {best : Rt} (h : LV eo arcs s0 w0 t r seen front best) : Has eo arcs s0 w0 r := fun E c v hR hl => by
  obtain ⟨x, hx, e⟩ := h.s2 E c v hR hl
  exact ⟨_, _, h.at hx e⟩
theorem LV.of {t : Int} {r : Nat} {seen front : List Wk} {best : Rt} (h : LV eo arcs s0 w0 t r seen front best) {v : Nat} {c : Int} {E : List Int} (hB : BV eo arcs s0 w0 r v c E) : (⟨E, c, [(v : Int)]⟩ : Wk) ∈ seen := by
  obtain ⟨x, hx, e⟩ := h.s2 E c v hB.rw hB.le
  obtain ⟨e1, e2⟩ := hB.uniq (h.at hx e)
  have : x = ⟨E, c, [(v : Int)]⟩ := by
    cases x
    simp at e e1 e2
    rw [e, e1, e2]
  rw [← this]; exact hx
/-- the walks of one edge more: of those of the front, cheaper than what was seen there -/
def Cands (eo : Nat → Int) (arcs : Nat → List (Nat × Int)) (seen front C : List Wk) : Prop :=
  ∀ z, z ∈ C ↔ ∃ x ∈ front, ∃ (v u : Nat) (k : Int), x.key = [(v : Int)] ∧ (u, k) ∈ arcs v ∧ z = ⟨x.E ++ [eo u], x.c + k, [(u : Int)]⟩ ∧ ∀ y ∈ seen, y.key = [(u : Int)] → ¬ y.c ≤ x.c + k
theorem ends_iff {x : Wk} {t : Int} {v : Nat} (h : WK eo arcs s0 w0 x.E x.c v) : endsB x t = true ↔ eo v = t := by
  obtain ⟨E0, e⟩ := h.last
  unfold endsB
  rw [e]
  simp
theorem LV.up {t : Int} {r : Nat} {seen front C R : List Wk} {best : Rt} (h : LV eo arcs s0 w0 t r seen front best) (hC : Cands eo arcs seen front C) (hR : Best R C) (hp : KP R) :
    LV eo arcs s0 w0 t (r + 1) (seeW seen (freshW R seen)) (freshW R seen) (bestW t best (freshW R seen)) := by
  have r1 := h.r1
  have hw : ∀ z ∈ C, ∃ v : Nat, z.key = [(v : Int)] ∧ WK eo arcs s0 w0 z.E z.c v ∧ z.E.length = r + 1 := by
    intro z hz
    obtain ⟨x, hx, v, u, k, e1, e2, rfl, _⟩ := (hC z).1 hz
    have hxs := (h.f x).1 hx
    exact ⟨u, rfl, (h.at hxs.1 e1).rw.step e2, by simp [hxs.2]⟩
  have hin : ∀ (u v : Nat) (c0 k : Int) (E0 : List Int), BV eo arcs s0 w0 r u c0 E0 → E0.length = r → (v, k) ∈ arcs u → (∀ y ∈ seen, y.key = [(v : Int)] → ¬ y.c ≤ c0 + k) → (⟨E0 ++ [eo v], c0 + k, [(v : Int)]⟩ : Wk) ∈ C := by
    intro u v c0 k E0 hB hl hk hy
    exact (hC _).2 ⟨⟨E0, c0, [(u : Int)]⟩, (h.f _).2 ⟨h.of hB, hl⟩, u, v, k, rfl, hk, rfl, hy⟩
  have hfr : ∀ x, x ∈ freshW R seen ↔ x ∈ R ∧ ∀ y ∈ seen, y.key = x.key → x.c < y.c := by
    intro x
    unfold freshW
    rw [List.mem_filter, cheap_iff]
  have hseen : ∀ y, y ∈ seeW seen (freshW R seen) ↔ y ∈ freshW R seen ∨ (y ∈ seen ∧ ∀ x ∈ freshW R seen, y.key ≠ x.key) := seeW_mem (KP.pw (hp.filter _)) seen
  -- a new one is best
  have hA : ∀ x ∈ freshW R seen, ∃ v : Nat, x.key = [(v : Int)] ∧ BV eo arcs s0 w0 (r + 1) v x.c x.E ∧ x.E.length = r + 1 := by
    intro x hx
    obtain ⟨hxR, hch⟩ := (hfr x).1 hx
    obtain ⟨v, e, hW, hl⟩ := hw x (hR.sub x hxR)
    refine ⟨v, e, bv_up r1 h.has hW (by omega) (fun c' E' hB => ?_) (fun u c0 k E0 hB hl0 hk => ?_), hl⟩
    · have := hch _ (h.of hB) e.symm
      rintro (g | ⟨g, _⟩)
      · simp at this; omega
      · simp at this; omega
    · by_cases hy : ∀ y ∈ seen, y.key = [(v : Int)] → ¬ y.c ≤ c0 + k
      · obtain ⟨x', hx', e1, e2⟩ := hR.min _ (hin u v c0 k E0 hB hl0 hk hy)
        have : x' = x := hR.ku x' hx' x hxR (e1.trans e.symm)
        subst this
        exact e2
      · obtain ⟨y, hy'⟩ := Classical.not_forall.1 hy
        obtain ⟨h1, hy''⟩ := Classical.not_forall.1 hy'
        obtain ⟨h2, h3⟩ := Classical.not_forall.1 hy''
        have h3 := Classical.not_not.1 h3
        have := hch y h1 (h2.trans e.symm)
        rintro (g | ⟨g, _⟩)
        · omega
        · omega
  -- an old one stays
  have hO : ∀ y ∈ seen, (∀ x ∈ freshW R seen, y.key ≠ x.key) → ∃ v : Nat, y.key = [(v : Int)] ∧ BV eo arcs s0 w0 (r + 1) v y.c y.E := by
    intro y hy hno
    obtain ⟨v, e, hB⟩ := h.s1 y hy
    refine ⟨v, e, bv_up r1 h.has hB.rw (by have := hB.le; omega) (fun c' E' hB' => ?_) (fun u c0 k E0 hB0 hl0 hk => ?_)⟩
    · obtain ⟨e1, e2⟩ := hB'.uniq hB
      rw [e1, e2]; exact befC_self _ _
    · intro g
      have hlt : c0 + k < y.c := by
        rcases g with g | ⟨_, g⟩
        · exact g
        · have h1 := bef_len g
          have h2 := hB.le
          rw [List.length_append, List.length_singleton] at h1
          omega
      have hz := hin u v c0 k E0 hB0 hl0 hk (fun y' hy' e' hle => by
        have : y' = y := h.ku y' hy' y hy (e'.trans e.symm)
        subst this
        omega)
      obtain ⟨x, hx, e1, e2⟩ := hR.min _ hz
      refine hno x ((hfr x).2 ⟨hx, fun y' hy' e' => ?_⟩) (e.trans e1.symm)
      have : y' = y := h.ku y' hy' y hy (e'.trans (e1.trans e.symm))
      subst this
      have : x.c ≤ c0 + k := by
        rcases Int.lt_or_le (c0 + k) x.c with q | q
        · exact absurd (Or.inl q) e2
        · exact q
      omega
  have hs1 : ∀ x ∈ seeW seen (freshW R seen), ∃ v : Nat, x.key = [(v : Int)] ∧ BV eo arcs s0 w0 (r + 1) v x.c x.E := by
    intro x hx
    rcases (hseen x).1 hx with hx | ⟨hx, hno⟩
    · obtain ⟨v, e, hB, _⟩ := hA x hx
      exact ⟨v, e, hB⟩
    · exact hO x hx hno
  have hs2 : ∀ E c v, WK eo arcs s0 w0 E c v → E.length ≤ r + 1 → ∃ x ∈ seeW seen (freshW R seen), x.key = [(v : Int)] := by
    intro E c v hW hl
    by_cases hv : ∃ y ∈ seen, y.key = [(v : Int)]
    · obtain ⟨y, hy, e⟩ := hv
      by_cases hno : ∀ x ∈ freshW R seen, y.key ≠ x.key
      · exact ⟨y, (hseen y).2 (Or.inr ⟨hy, hno⟩), e⟩
      · obtain ⟨x, hx'⟩ := Classical.not_forall.1 hno
        obtain ⟨hx, hx''⟩ := Classical.not_forall.1 hx'
        exact ⟨x, (hseen x).2 (Or.inl hx), (Classical.not_not.1 hx'').symm.trans e⟩
    · have hgt : ¬ E.length ≤ r := fun hle => hv (h.s2 E c v hW hle)
      obtain ⟨E0, c0, u, k, h0, hk, rfl, rfl⟩ := hW.inv (by omega)
      have hl0 : E0.length = r := by simp at hl hgt; omega
      obtain ⟨c1, E1, hB⟩ := h.has _ _ _ h0 (by omega)
      have hle := hB.le
      by_cases hl1 : E1.length = r
      · obtain ⟨x, hx, e1, _⟩ := hR.min _ (hin u v c1 k E1 hB hl1 hk (fun y hy e => absurd ⟨y, hy, e⟩ hv))
        exact ⟨x, (hseen x).2 (Or.inl ((hfr x).2 ⟨hx, fun y hy e => absurd ⟨y, hy, e.trans e1⟩ hv⟩)), e1⟩
      · exact absurd (h.s2 _ _ _ (hB.rw.step hk) (by simp; omega)) hv
  have hf : ∀ x, x ∈ freshW R seen ↔ x ∈ seeW seen (freshW R seen) ∧ x.E.length = r + 1 := by
    intro x
    constructor
    · intro hx
      obtain ⟨_, _, _, hl⟩ := hA x hx
      exact ⟨(hseen x).2 (Or.inl hx), hl⟩
    · rintro ⟨hx, hl⟩
      rcases (hseen x).1 hx with hx | ⟨hx, _⟩
      · exact hx
      · obtain ⟨v, _, hB⟩ := h.s1 x hx
        have := hB.le
        omega
  refine ⟨by omega, fun x hx y hy e => ?_, hs1, hs2, hf, ?_⟩
  · rcases (hseen x).1 hx with hx1 | ⟨hx1, hx2⟩
    · rcases (hseen y).1 hy with hy1 | ⟨hy1, hy2⟩
      · exact hR.ku x ((hfr x).1 hx1).1 y ((hfr y).1 hy1).1 e
      · exact absurd e.symm (hy2 x hx1)
    · rcases (hseen y).1 hy with hy1 | ⟨hy1, hy2⟩
      · exact absurd e (hx2 y hy1)
      · exact h.ku x hx1 y hy1 e
  · refine (h.b.all (freshW R seen)).dom (fun c E hP => ?_) (fun c E hQ => ?_)
    · rcases hP with ⟨v, h1, h2, h3⟩ | ⟨x, hx, rfl, rfl, he⟩
      · exact ⟨v, h1, by omega, h3⟩
      · obtain ⟨v, _, hB, hl⟩ := hA x hx
        exact ⟨v, hB.rw, by omega, (ends_iff hB.rw).1 he⟩
    · obtain ⟨v, h1, h2, h3⟩ := hQ
      obtain ⟨x, hx, e⟩ := hs2 E c v h1 h2
      obtain ⟨v', e', hB⟩ := hs1 x hx
      have := key_inj (e'.symm.trans e)
      subst this
      refine ⟨x.c, x.E, ?_, hB.min _ _ h1 h2⟩
      by_cases hl : x.E.length ≤ r
      · exact Or.inl ⟨v', hB.rw, hl, h3⟩
      · exact Or.inr ⟨x, (hf x).2 ⟨hx, by have := hB.le; omega⟩, rfl, rfl, (ends_iff hB.rw).2 h3⟩
/-- the first walks -/
theorem LV.start (t : Int) : LV eo arcs s0 w0 t 1 (seeW [] [⟨[eo s0], w0, [(s0 : Int)]⟩]) [⟨[eo s0], w0, [(s0 : Int)]⟩] (bestW t ⟨1, 0, []⟩ [⟨[eo s0], w0, [(s0 : Int)]⟩]) := by
  have e : seeW [] [⟨[eo s0], w0, [(s0 : Int)]⟩] = [(⟨[eo s0], w0, [(s0 : Int)]⟩ : Wk)] := rfl
  rw [e]
  refine ⟨Nat.le_refl _, fun x hx y hy _ => ?_, fun x hx => ?_, fun E c v hW hl => ?_, fun x => ?_, ?_⟩
  · simp at hx hy; rw [hx, hy]
  · simp at hx; subst hx; exact ⟨s0, rfl, BV.one⟩
  · obtain ⟨_, _, rfl⟩ := hW.one hl
    exact ⟨_, List.mem_cons_self .., rfl⟩
  · constructor
    · intro hx
      simp at hx
      subst hx
      exact ⟨by simp, rfl⟩
    · exact fun hx => hx.1
  · have h0 : BestR t (fun _ _ => False) ⟨1, 0, []⟩ := ⟨fun _ => ⟨rfl, fun _ _ h => h⟩, fun h => absurd h (by decide)⟩
    refine (h0.all [⟨[eo s0], w0, [(s0 : Int)]⟩]).dom (fun c E hP => ?_) (fun c E hQ => ?_)
    · rcases hP with h | ⟨x, hx, rfl, rfl, he⟩
      · exact h.elim
      · simp at hx
        subst hx
        exact ⟨s0, WK.base, by simp, (ends_iff (arcs := arcs) (x := ⟨[eo s0], w0, [(s0 : Int)]⟩) WK.base).1 he⟩
    · obtain ⟨v, h1, h2, h3⟩ := hQ
      obtain ⟨rfl, rfl, rfl⟩ := h1.one h2
      exact ⟨_, _, Or.inr ⟨_, List.mem_cons_self .., rfl, rfl, (ends_iff (arcs := arcs) (x := ⟨[eo v], c, [(v : Int)]⟩) WK.base).2 h3⟩, befC_self _ _⟩
/-- no walk of r edges is best any more: then all is found -/
theorem LV.stop {t : Int} {r : Nat} {seen front : List Wk} {best : Rt} (h : LV eo arcs s0 w0 t r seen front best) (hf : front = []) : BestR t (fun c E => ∃ v, WK eo arcs s0 w0 E c v ∧ eo v = t) best := by
  have key : ∀ E c v, WK eo arcs s0 w0 E c v → ∃ c' E', BV eo arcs s0 w0 r v c' E' ∧ ¬ befC c E c' E' := by
    intro E c v hW
    induction hW using WK.ind with
    | base =>
      obtain ⟨c', E', hB⟩ := h.has _ _ _ (WK.base (eo := eo) (arcs := arcs) (s0 := s0) (w0 := w0)) h.r1
      exact ⟨c', E', hB, hB.min _ _ WK.base h.r1⟩
    | step hW hk ih =>
      obtain ⟨c1, E1, hB, hle⟩ := ih
      have hne : E1.length ≠ r := fun e => by
        have := (h.f _).2 ⟨h.of hB, e⟩
        rw [hf] at this
        simp at this
      have := hB.le
      have hs := hB.rw.step hk
      obtain ⟨c2, E2, hB2⟩ := h.has _ _ _ hs (by simp; omega)
      exact ⟨c2, E2, hB2, befC_le (hB2.min _ _ hs (by simp; omega)) (befC_snoc' hle)⟩
  refine h.b.dom (fun c E ⟨v, h1, _, h3⟩ => ⟨v, h1, h3⟩) (fun c E ⟨v, h1, h3⟩ => ?_)
  obtain ⟨c', E', hB, g⟩ := key E c v h1
  exact ⟨c', E', ⟨v, hB.rw, hB.le, h3⟩, g⟩
/-- behind as many rounds as there are vertices -/
theorem LV.end {n : Nat} (hs : s0 < n) (ha : ∀ v u k, (u, k) ∈ arcs v → u < n) (hc : ∀ v u k, (u, k) ∈ arcs v → 0 ≤ k) {t : Int} {r : Nat} {seen front : List Wk} {best : Rt} (h : LV eo arcs s0 w0 t r seen front best) (hr : n < r) : front = [] := by
  cases hfr : front with
  | nil => rfl
  | cons x l =>
    have hx : x ∈ front := by rw [hfr]; simp
    obtain ⟨h1, h2⟩ := (h.f x).1 hx
    obtain ⟨v, _, hB⟩ := h.s1 x h1
    have := hB.lvl hs ha hc h2 h.r1
    omega
end
end Go.Proofs.Yticooljejlkbfaa
