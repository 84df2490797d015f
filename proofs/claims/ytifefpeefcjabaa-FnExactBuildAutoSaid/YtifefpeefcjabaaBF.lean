import Derived.Test.YtifefpeefcjabaaBE
namespace Go.Proofs.Ytifefpeefcjabaa
open Go.RowKit Go.Maps
set_option linter.unusedVariables false
set_option maxRecDepth 100000

/-- the pairs of parent and last edge ascend from any state to any later one -/
theorem pair_lt {A : Au} {n : Nat} (h : ∀ t, 1 ≤ t → t < n → pairAsc A t = true) (i j : Nat) (hij : i < j) (hj : j < n) : iat A.pa i < iat A.pa j ∨ (iat A.pa i = iat A.pa j ∧ iat A.la i < iat A.la j) := by
  induction j with
  | zero => omega
  | succ j ih =>
    have hs := h (j + 1) (by omega) hj
    unfold pairAsc at hs
    simp only [Nat.add_sub_cancel, Bool.or_eq_true, Bool.and_eq_true, decide_eq_true_eq] at hs
    by_cases e : i = j
    · subst e; exact hs
    · have := ih (by omega) (by omega)
      omega
def upd {α : Type} (f : Nat → α) (k : Nat) (x : α) : Nat → α := fun t => if t = k then x else f t
theorem upd_at {α : Type} (f : Nat → α) (k : Nat) (x : α) : upd f k x k = x := by simp [upd]
theorem upd_ne {α : Type} (f : Nat → α) {k t : Nat} (x : α) (h : t ≠ k) : upd f k x t = f t := by simp [upd, h]
theorem kids_congr {A : Au} {n : Nat} {bl bl' : Nat → Nat} (h : ∀ t, t < n → bl' t = bl t) (s : Nat) : kidsL A n bl' s = kidsL A n bl s := by
  unfold kidsL
  refine List.map_congr_left fun t ht => ?_
  rw [List.mem_filter, List.mem_range] at ht
  rw [h t ht.1]
theorem kids_up {A : Au} {s : Nat} {bl : Nat → Nat} (h1 : 1 ≤ s) (b t : Nat) : kidsL A (s + 1) (upd bl s b) t = kidsL A s bl t ++ (if iat A.pa s = t then [(iat A.la s, b)] else []) := by
  have e : kidsL A (s + 1) (upd bl s b) t = kidsL A s (upd bl s b) t ++ (if iat A.pa s = t then [(iat A.la s, b)] else []) := by
    unfold kidsL
    rw [List.range_succ, List.filter_append, List.map_append]
    congr 1
    by_cases hp : iat A.pa s = t
    · simp [h1, hp, upd]
    · simp [hp]
  rw [e, kids_congr fun u hu => upd_ne bl b (by omega)]
theorem kids_none {A : Au} {s t : Nat} {bl : Nat → Nat} (ho : ∀ u, 1 ≤ u → u < s → iat A.pa u < u) (h : s ≤ t + 1) : kidsL A s bl t = [] := by
  unfold kidsL
  rw [List.map_eq_nil_iff, List.filter_eq_nil_iff]
  intro u hu
  rw [List.mem_range] at hu
  simp
  intro h1 h2
  have := ho u h1 hu
  omega
theorem kids_lt {A : Au} {s p : Nat} {bl : Nat → Nat} (h : ∀ t, 1 ≤ t → t < s + 1 → pairAsc A t = true) (hp : iat A.pa s = p) : ∀ q ∈ kidsL A s bl p, q.1 < iat A.la s := by
  intro q hq
  unfold kidsL at hq
  obtain ⟨t, ht, rfl⟩ := List.mem_map.1 hq
  rw [List.mem_filter, List.mem_range] at ht
  simp at ht
  have := pair_lt h t s ht.1 (by omega)
  show iat A.la t < iat A.la s
  omega
theorem kids_len (A : Au) (s p : Nat) (bl : Nat → Nat) : (kidsL A s bl p).length ≤ s := by
  unfold kidsL
  rw [List.length_map]
  exact Nat.le_trans (List.length_filter_le _ _) (by simp)
/-- a map lies in no block of cells -/
theorem map_cells {w : World} {P : Program} {k : TypeId} {R : Value → Option (DataW Unit × List MemPlace)} {mb n b : Nat} {D : DataW Unit} {cs : Array Value} (h : w.ownsMap P k R mb n D) (hb : Blk w b cs) : mb ≠ b := by
  intro e
  subst e
  obtain ⟨t, h1⟩ := hb
  obtain ⟨es, clock, h2, _⟩ := h
  rw [h1] at h2
  simp at h2
theorem MK.set {w : World} {m : Value} {ks : List (Int × Nat)} (h : MK w m ks) {b : Nat} {cs : Array Value} (hb : Blk w b cs) (i : Nat) (v : Value) : MK (w.setCell ⟨b, i, none⟩ v) m ks := by
  rcases h with h | ⟨mb, rfl, h⟩
  · exact Or.inl h
  · exact Or.inr ⟨mb, rfl, own_set h (map_cells h hb) v⟩
theorem MK.keep {o o' : Option Nat} {w w' : World} {m : Value} {ks : List (Int × Nat)} (h : MK w m ks) (k : But o o' w w') (h1 : ∀ mb, mapBlk m = some mb → some mb ≠ o ∧ some mb ≠ o') : MK w' m ks := by
  rcases h with h | ⟨mb, rfl, h⟩
  · exact Or.inl h
  · refine Or.inr ⟨mb, rfl, ?_⟩
    have hl := h.lt
    obtain ⟨es, clock, hb, r⟩ := h
    exact ⟨es, clock, (k.block mb hl (h1 mb rfl).1 (h1 mb rfl).2).trans hb, r⟩
theorem MK.lt {w : World} {m : Value} {ks : List (Int × Nat)} (h : MK w m ks) {mb : Nat} (e : mapBlk m = some mb) : mb < w.heap.size := by
  rcases h with ⟨rfl, _⟩ | ⟨b, rfl, h⟩
  · simp [mapBlk] at e
  · simp [mapBlk] at e
    subst e
    exact h.lt
theorem MK.ne {w : World} {m : Value} {ks : List (Int × Nat)} (h : MK w m ks) {mb : Nat} (e : mapBlk m = some mb) {b : Nat} {cs : Array Value} (hb : Blk w b cs) : mb ≠ b := by
  rcases h with ⟨rfl, _⟩ | ⟨b', rfl, h⟩
  · simp [mapBlk] at e
  · simp [mapBlk] at e
    subst e
    exact map_cells h hb
theorem Blk.keep {o o' : Option Nat} {w w' : World} {b : Nat} {cs : Array Value} (h : Blk w b cs) (k : But o o' w w') (h1 : some b ≠ o) (h2 : some b ≠ o') : Blk w' b cs := by
  have hl := h.lt
  obtain ⟨t, hb⟩ := h
  exact ⟨t, (k.block b hl h1 h2).trans hb⟩
/-- the trie while it grows: s nodes, no fails, no numbers; all of it lies from block B on -/
structure GT (A : Au) (s : Nat) (B : Nat) (w : World) (bl : Nat → Nat) (mv : Nat → Value) : Prop where
  tr : TR A s 1 w bl (fun _ => .pointer none) mv (fun _ => 0)
  ge : ∀ t, t < s → B ≤ bl t
  mge : ∀ t mb, t < s → mapBlk (mv t) = some mb → B ≤ mb
  ap : ∀ t u mb, t < s → u < s → mapBlk (mv t) = some mb → mapBlk (mv u) = some mb → t = u
theorem GT.keep {A : Au} {s B : Nat} {w w' : World} {bl : Nat → Nat} {mv : Nat → Value} (h : GT A s B w bl mv) {o : Option Nat} (k : But none o w w') (ho : ∀ t, t < s → some (bl t) ≠ o) (hm : ∀ t mb, t < s → mapBlk (mv t) = some mb → some mb ≠ o) : GT A s B w' bl mv :=
  ⟨⟨fun t ht => (h.tr.nd t ht).keep k (by simp) (ho t ht), fun t ht => (h.tr.kd t ht).keep k (fun mb e => ⟨by simp, hm t mb ht e⟩), h.tr.fz, h.tr.fs, h.tr.inj⟩, h.ge, h.mge, h.ap⟩
theorem GT.root {A : Au} {B : Nat} {w : World} {b : Nat} (hb : Blk w b (node 0 0 (-1) (-1) false (.pointer none) (.pointer none) (.map none))) (h0 : iat A.la 0 = -1) (hB : B ≤ b) (bl : Nat → Nat) (hbl : bl 0 = b) : GT A 1 B w bl (fun _ => .map none) := by
  refine ⟨⟨fun s hs => ?_, fun s hs => Or.inl ⟨rfl, ?_⟩, rfl, fun s h1 h2 => by omega, fun s t h1 h2 _ => by omega⟩, fun t ht => ?_, fun t mb _ e => by simp [mapBlk] at e, fun t u mb _ _ e => by simp [mapBlk] at e⟩
  · have e : s = 0 := by omega
    subst e
    rw [hbl, h0, Wd_zero]
    exact hb
  · exact kids_none (fun u h1 h2 => by omega) (by omega)
  · have e : t = 0 := by omega
    subst e
    rw [hbl]; exact hB
theorem GT.grow {A : Au} {s B p : Nat} {w w' : World} {bl : Nat → Nat} {mv : Nat → Value} (h : GT A s B w bl mv) (h1 : 1 ≤ s) (hB : B ≤ w.heap.size) (hk : ∀ t, 1 ≤ t → t < s + 1 → okR A t = true) (hp : iat A.pa s = p) (hps : p < s) {m' : Value}
    (b1 : Blk w' w.heap.size (node 0 ((Wd A p).length + 1) (iat A.la s) (iat A.mu s) (bat A.bd s) (ptr (bl p)) (.pointer none) (.map none)))
    (b2 : Blk w' (bl p) (node 0 (Wd A p).length (iat A.la p) (if p = 0 then -1 else iat A.mu p) (if p = 0 then false else bat A.bd p) (if p = 0 then .pointer none else ptr (bl (iat A.pa p).toNat)) (.pointer none) m'))
    (b3 : MK w' m' (kidsL A s bl p ++ [(iat A.la s, w.heap.size)])) (b4 : mapBlk m' = mapBlk (mv p) ∨ mapBlk m' = some (w.heap.size + 1)) (b5 : But (some (bl p)) (mapBlk (mv p)) w w') :
    GT A (s + 1) B w' (upd bl s w.heap.size) (upd (upd mv p m') s (.map none)) := by
  have hpa : ∀ u, 1 ≤ u → u < s + 1 → 0 ≤ iat A.pa u ∧ iat A.pa u < u := fun u h1 h2 => ⟨(okR_at (hk u h1 h2)).1, (okR_at (hk u h1 h2)).2.1⟩
  have hlt : ∀ t, t < s → bl t < w.heap.size := fun t ht => (h.tr.nd t ht).lt
  have hmm : ∀ t mb, t < s → mapBlk (upd (upd mv p m') s (.map none) t) = some mb → (mapBlk (mv t) = some mb ∧ (t = p → mapBlk m' = mapBlk (mv p))) ∨ (t = p ∧ mb = w.heap.size + 1) := by
    intro t mb ht e
    rw [upd_ne _ _ (by omega)] at e
    by_cases htp : t = p
    · subst htp
      rw [upd_at] at e
      rcases b4 with b4 | b4
      · exact Or.inl ⟨by rw [← b4]; exact e, fun _ => b4⟩
      · exact Or.inr ⟨rfl, by rw [b4] at e; exact (Option.some.inj e).symm⟩
    · rw [upd_ne _ _ htp] at e
      exact Or.inl ⟨e, fun e => absurd e htp⟩
  have hms : ∀ mb, mapBlk (upd (upd mv p m') s (.map none) s) = some mb → False := fun mb e => by rw [upd_at] at e; simp [mapBlk] at e
  refine ⟨⟨fun t ht => ?_, fun t ht => ?_, rfl, fun s h1 h2 => by omega, fun t u ht hu e => ?_⟩, fun t ht => ?_, fun t mb ht e => ?_, fun t u mb ht hu e1 e2 => ?_⟩
  · by_cases hts : t = s
    · subst hts
      rw [upd_at, upd_at, if_neg (by omega), if_neg (by omega), if_neg (by omega), hp, Int.toNat_natCast, upd_ne _ _ (by omega), Wd_step (hk t h1 (by omega)) h1, hp, Int.toNat_natCast, List.length_append]
      exact b1
    · have hq : ∀ x : Value, (if t = 0 then Value.pointer none else ptr (upd bl s w.heap.size (iat A.pa t).toNat)) = (if t = 0 then Value.pointer none else ptr (bl (iat A.pa t).toNat)) := by
        intro x
        by_cases h0 : t = 0
        · rw [if_pos h0, if_pos h0]
        · have := hpa t (by omega) ht
          rw [if_neg h0, if_neg h0, upd_ne _ _ (by omega)]
      rw [upd_ne _ _ hts, upd_ne _ _ hts, hq (.bool true)]
      by_cases htp : t = p
      · subst htp
        rw [upd_at]
        exact b2
      · rw [upd_ne _ _ htp]
        exact (h.tr.nd t (by omega)).keep b5 (fun e => htp (h.tr.inj t p (by omega) hps (Option.some.inj e))) (fun e => (h.tr.kd p hps).ne e.symm (h.tr.nd t (by omega)) rfl)
  · rw [kids_up h1, hp]
    by_cases hts : t = s
    · subst hts
      rw [upd_at]
      refine Or.inl ⟨rfl, ?_⟩
      rw [kids_none (fun u h1 h2 => (hpa u h1 (by omega)).2) (by omega), if_neg (by omega)]
      rfl
    · rw [upd_ne _ _ hts]
      by_cases htp : t = p
      · subst htp
        rw [upd_at, if_pos rfl]
        exact b3
      · rw [upd_ne _ _ htp, if_neg (by omega), List.append_nil]
        refine (h.tr.kd t (by omega)).keep b5 fun mb e => ⟨fun e' => ?_, fun e' => ?_⟩
        · exact (h.tr.kd t (by omega)).ne e (h.tr.nd p hps) (Option.some.inj e')
        · exact htp (h.ap t p mb (by omega) hps e e'.symm)
  · by_cases hts : t = s
    · by_cases hus : u = s
      · omega
      · subst hts
        rw [upd_at, upd_ne _ _ hus] at e
        have := hlt u (by omega)
        omega
    · by_cases hus : u = s
      · subst hus
        rw [upd_at, upd_ne _ _ hts] at e
        have := hlt t (by omega)
        omega
      · rw [upd_ne _ _ hus, upd_ne _ _ hts] at e
        exact h.tr.inj t u (by omega) (by omega) e
  · by_cases hts : t = s
    · subst hts
      rw [upd_at]; exact hB
    · rw [upd_ne _ _ hts]; exact h.ge t (by omega)
  · by_cases hts : t = s
    · subst hts
      exact (hms mb e).elim
    · rcases hmm t mb (by omega) e with ⟨h2, _⟩ | ⟨_, h2⟩
      · exact h.mge t mb (by omega) h2
      · omega
  · by_cases hts : t = s
    · subst hts
      exact (hms mb e1).elim
    · by_cases hus : u = s
      · subst hus
        exact (hms mb e2).elim
      · rcases hmm t mb (by omega) e1 with ⟨h2, _⟩ | ⟨h2, h2'⟩
        · rcases hmm u mb (by omega) e2 with ⟨h3, _⟩ | ⟨h3, h3'⟩
          · exact h.ap t u mb (by omega) (by omega) h2 h3
          · have := (h.tr.kd t (by omega)).lt h2
            omega
        · rcases hmm u mb (by omega) e2 with ⟨h3, _⟩ | ⟨h3, h3'⟩
          · have := (h.tr.kd u (by omega)).lt h3
            omega
          · omega
end Go.Proofs.Ytifefpeefcjabaa
