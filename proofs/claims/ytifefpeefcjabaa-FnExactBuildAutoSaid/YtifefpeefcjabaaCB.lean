import Derived.Test.YtifefpeefcjabaaCA
import Derived.Maps.AppendAt
namespace Go.Proofs.Ytifefpeefcjabaa
open Go.RowKit Go.Sort
set_option linter.unusedVariables false
set_option maxRecDepth 100000

theorem lex_tri {a b : List Int} (hl : a.length = b.length) (hn : a ≠ b) (h : lexB a b = false) : lexB b a = true := by
  induction a generalizing b with
  | nil => cases b with
    | nil => exact absurd rfl hn
    | cons y b => simp at hl
  | cons x a ih => cases b with
    | nil => simp at hl
    | cons y b =>
      unfold lexB at h ⊢
      by_cases e : x = y
      · subst e
        rw [if_pos rfl] at h ⊢
        exact ih (by simpa using hl) (fun e => hn (by rw [e])) h
      · rw [if_neg e] at h
        rw [if_neg (fun h' => e h'.symm)]
        simp at h ⊢
        omega
theorem bef_tri {a b : List Int} (hn : a ≠ b) (h : befB a b = false) : befB b a = true := by
  unfold befB at h ⊢
  by_cases e : a.length = b.length
  · rw [if_pos e] at h
    rw [if_pos e.symm]
    exact lex_tri e hn h
  · rw [if_neg e] at h
    rw [if_neg (fun h' => e h'.symm)]
    simp at h ⊢
    omega
theorem bef_not {a b : List Int} (h : befB a b = true) : befB b a = false := by
  cases e : befB b a with
  | false => rfl
  | true =>
    have := bef_trans h e
    rw [bef_self] at this
    cases this

/-- ws with one more at place i -/
def insAt (ws : List (List Int)) (i : Nat) (x : List Int) : List (List Int) := ws.take i ++ x :: ws.drop i
theorem insAt_len {ws : List (List Int)} {i : Nat} (x : List Int) (h : i ≤ ws.length) : (insAt ws i x).length = ws.length + 1 := by
  simp [insAt]; omega
theorem insAt_at {ws : List (List Int)} {i : Nat} (x : List Int) (h : i ≤ ws.length) (j : Nat) : wd (insAt ws i x) j = if j < i then wd ws j else if j = i then x else wd ws (j - 1) := by
  unfold wd insAt
  have hl : (ws.take i).length = i := by rw [List.length_take]; omega
  by_cases c : j < i
  · rw [if_pos c, List.getD, List.getElem?_append_left (by omega), List.getElem?_take_of_lt c]; rfl
  · rw [if_neg c, List.getD, List.getElem?_append_right (by omega), hl]
    by_cases d : j = i
    · subst d
      rw [if_pos rfl]; simp
    · rw [if_neg d]
      obtain ⟨m, rfl⟩ : ∃ m, j = i + (m + 1) := ⟨j - i - 1, by omega⟩
      rw [show i + (m + 1) - i = m + 1 by omega, List.getElem?_cons_succ, List.getElem?_drop, show i + (m + 1) - 1 = i + m by omega]; rfl
theorem insAt_asc {ws : List (List Int)} {x : List Int} {i : Nat} (ha : AscW ws) (h : PlaceW ws x i i) (hi : i ≤ ws.length) (hn : ∀ j, j < ws.length → wd ws j ≠ x) : AscW (insAt ws i x) := by
  intro a b hab hb
  rw [insAt_len x hi] at hb
  rw [insAt_at x hi, insAt_at x hi]
  by_cases c1 : b < i
  · rw [if_pos c1, if_pos (by omega)]; exact ha a b hab (by omega)
  · rw [if_neg c1]
    by_cases c2 : b = i
    · subst c2
      rw [if_pos rfl, if_pos hab]
      exact h.1 a hab
    · rw [if_neg c2]
      have hx : befB x (wd ws (b - 1)) = true := bef_tri (hn (b - 1) (by omega)) (h.2 (b - 1) (by omega) (by omega))
      by_cases c3 : a < i
      · rw [if_pos c3]; exact ha a (b - 1) (by omega) (by omega)
      · rw [if_neg c3]
        by_cases c4 : a = i
        · rw [if_pos c4]; exact hx
        · rw [if_neg c4]; exact ha (a - 1) (b - 1) (by omega) (by omega)
def inW (ws : List (List Int)) (x : List Int) : Prop := ∃ j, j < ws.length ∧ wd ws j = x
/-- one word more, if it is new -/
def InsW (ws : List (List Int)) (x : List Int) (ws' : List (List Int)) : Prop :=
  (inW ws x ∧ ws' = ws) ∨ (¬ inW ws x ∧ ∃ i, i ≤ ws.length ∧ PlaceW ws x i i ∧ ws' = insAt ws i x)
theorem InsW.asc {ws ws' : List (List Int)} {x : List Int} (h : InsW ws x ws') (ha : AscW ws) : AscW ws' := by
  rcases h with ⟨_, rfl⟩ | ⟨hn, i, hi, hp, rfl⟩
  · exact ha
  · exact insAt_asc ha hp hi fun j hj e => hn ⟨j, hj, e⟩
theorem InsW.mem {ws ws' : List (List Int)} {x : List Int} (h : InsW ws x ws') (y : List Int) : inW ws' y ↔ y = x ∨ inW ws y := by
  rcases h with ⟨h1, rfl⟩ | ⟨hn, i, hi, hp, rfl⟩
  · exact ⟨Or.inr, fun h => h.elim (fun e => e ▸ h1) id⟩
  · constructor
    · rintro ⟨j, hj, e⟩
      rw [insAt_len x hi] at hj
      rw [insAt_at x hi] at e
      by_cases c : j < i
      · rw [if_pos c] at e; exact Or.inr ⟨j, by omega, e⟩
      · rw [if_neg c] at e
        by_cases d : j = i
        · rw [if_pos d] at e; exact Or.inl e.symm
        · rw [if_neg d] at e; exact Or.inr ⟨j - 1, by omega, e⟩
    · rintro (rfl | ⟨j, hj, e⟩)
      · exact ⟨i, by rw [insAt_len _ hi]; omega, by rw [insAt_at _ hi, if_neg (Nat.lt_irrefl _), if_pos rfl]⟩
      · by_cases c : j < i
        · exact ⟨j, by rw [insAt_len x hi]; omega, by rw [insAt_at x hi, if_pos c]; exact e⟩
        · exact ⟨j + 1, by rw [insAt_len x hi]; omega, by rw [insAt_at x hi, if_neg (by omega), if_neg (by omega), Nat.add_sub_cancel]; exact e⟩
theorem InsW.len {ws ws' : List (List Int)} {x : List Int} (h : InsW ws x ws') : ws.length ≤ ws'.length ∧ ws'.length ≤ ws.length + 1 := by
  rcases h with ⟨_, rfl⟩ | ⟨hn, i, hi, hp, rfl⟩
  · omega
  · rw [insAt_len x hi]; omega

/-- an own row of words that lie in w0 -/
def WR (B : Nat) (w0 w : World) (v : Value) (ws : List (List Int)) : Prop :=
  ∃ cs : List Value, w.ownsRow w0.heap.size 57 1 v ws.length cs ∧ ∀ i, i < ws.length → HInts B w0 (vat cs i) (wd ws i) ∧ CapOk (vat cs i)
theorem WR.slice {B : Nat} {w0 w : World} {v : Value} {ws : List (List Int)} (h : WR B w0 w v ws) : ∃ a c, v = .slice a ws.length c := by
  obtain ⟨cs, h1, _⟩ := h
  rcases h1.2 with ⟨rfl, h2⟩ | ⟨g, cap, cur, rfl, _⟩
  · exact ⟨none, 0, by rw [h2]⟩
  · exact ⟨_, _, rfl⟩
theorem own_next {C ty sz : Nat} {w w' : World} {v : Value} {n : Nat} {xs : List Value} (h : w.ownsRow C ty sz v n xs) (k : Nx w w') : w'.ownsRow C ty sz v n xs := by
  obtain ⟨h3, h4⟩ := h
  refine ⟨h3, ?_⟩
  rcases h4 with h4 | ⟨g, cap, cur, hv, hg, hh, r⟩
  · exact Or.inl h4
  · exact Or.inr ⟨g, cap, cur, hv, hg, (k.block g (Array.getElem?_eq_some_iff.1 hh).1).trans hh, r⟩
theorem WR.next {B : Nat} {w0 w w' : World} {v : Value} {ws : List (List Int)} (h : WR B w0 w v ws) (k : Nx w w') : WR B w0 w' v ws := by
  obtain ⟨cs, h1, h2⟩ := h
  exact ⟨cs, own_next h1 k, h2⟩
theorem WR.held {B : Nat} {w0 w : World} {v : Value} {ws : List (List Int)} (h : WR B w0 w v ws) (k : Nx w0 w) : HWords 0 w v ws := by
  obtain ⟨cs, h1, h2⟩ := h
  obtain ⟨h3, h4⟩ := h1
  rw [Nat.mul_one] at h3
  rcases h4 with ⟨rfl, h4⟩ | ⟨g, cap, cur, rfl, hg, hh, hc, hm, hs, ht⟩
  · unfold HWords
    rw [h4]
    exact ⟨_, _, rfl, by simp [maxLen], fun h => by omega⟩
  · refine ⟨_, _, rfl, by omega, fun h0 => ⟨g, 0, rfl, Nat.zero_le _, (Array.getElem?_eq_some_iff.1 hh).1, fun i hi => ⟨vat cs i, ?_, ((h2 i hi).1.next k).base (Nat.zero_le _), (h2 i hi).2⟩⟩⟩
    have e : (cur.toList.take (ws.length * 1))[i]? = cs[i]? := by rw [ht]
    rw [List.getElem?_take_of_lt (by omega), Array.getElem?_toList] at e
    show w.cell? ⟨g, 0 + i, none⟩ = _
    rw [Nat.zero_add]
    simp [World.cell?, hh, e, vat, List.getD, show i < cs.length by omega]
/-- an own row, opened -/
def OV (C : Nat) (w : World) (g n cap : Nat) (F : Nat → Value) : Prop :=
  ∃ cur, C ≤ g ∧ w.heap[g]? = some (.cells cur 57 (0, 0)) ∧ n ≤ cap ∧ cap ≤ maxLen ∧ cur.size = cap ∧ ∀ i, i < n → cur[i]? = some (F i)
theorem OV.of {C : Nat} {w : World} {v : Value} {n : Nat} {cs : List Value} (h : w.ownsRow C 57 1 v n cs) (h0 : 0 < n) : ∃ g cap, v = .slice (some ⟨g, 0, none⟩) n cap ∧ OV C w g n cap (vat cs) := by
  obtain ⟨h3, h4⟩ := h
  rcases h4 with ⟨_, h4⟩ | ⟨g, cap, cur, rfl, hg, hh, hc, hm, hs, ht⟩
  · omega
  · refine ⟨g, cap, rfl, cur, hg, hh, hc, hm, by omega, fun i hi => ?_⟩
    have e : (cur.toList.take (n * 1))[i]? = cs[i]? := by rw [ht]
    rw [List.getElem?_take_of_lt (by omega), Array.getElem?_toList] at e
    rw [e]
    simp [vat, List.getD, show i < cs.length by omega]
theorem OV.own {C : Nat} {w : World} {g n cap : Nat} {F : Nat → Value} (h : OV C w g n cap F) : w.ownsRow C 57 1 (.slice (some ⟨g, 0, none⟩) n cap) n ((List.range n).map F) := by
  obtain ⟨cur, hg, hh, hc, hm, hs, hF⟩ := h
  refine ⟨by simp, .inr ⟨g, cap, cur, rfl, hg, hh, hc, hm, by omega, ?_⟩⟩
  apply List.ext_getElem?
  intro i
  by_cases c : i < n
  · rw [List.getElem?_take_of_lt (by omega), Array.getElem?_toList, hF i c]
    simp [c]
  · rw [List.getElem?_eq_none (by simp; omega), List.getElem?_eq_none (by simp; omega)]
theorem OV.cell {C : Nat} {w : World} {g n cap : Nat} {F : Nat → Value} (h : OV C w g n cap F) {i : Nat} (hi : i < n) : w.cell? ⟨g, i, none⟩ = some (F i) := by
  obtain ⟨cur, hg, hh, hc, hm, hs, hF⟩ := h
  simp [World.cell?, hh, hF i hi]
theorem OV.frozen {C : Nat} {w : World} {g n cap : Nat} {F : Nat → Value} (h : OV C w g n cap F) (i : Nat) : w.frozen? ⟨g, i, none⟩ = false := by
  obtain ⟨cur, hg, hh, _⟩ := h
  simp [World.frozen?, hh]
theorem OV.ge {C : Nat} {w : World} {g n cap : Nat} {F : Nat → Value} (h : OV C w g n cap F) : C ≤ g := by
  obtain ⟨cur, hg, _⟩ := h
  exact hg
theorem OV.set {C : Nat} {w : World} {g n cap : Nat} {F : Nat → Value} (h : OV C w g n cap F) (i : Nat) (x : Value) : OV C (w.setCell ⟨g, i, none⟩ x) g n cap (fun j => if j = i then x else F j) := by
  obtain ⟨cur, hg, hh, hc, hm, hs, hF⟩ := h
  refine ⟨cur.setIfInBounds i x, hg, by simp [World.setCell, Array.getElem?_modify, hh], hc, hm, by simpa using hs, fun j hj => ?_⟩
  by_cases e : j = i
  · subst e
    simp [show j < cur.size by omega]
  · rw [Array.getElem?_setIfInBounds_ne (fun h => e h.symm), hF j hj]
    show some (F j) = some (if j = i then x else F j)
    rw [if_neg e]
theorem OV.congr {C : Nat} {w : World} {g n cap : Nat} {F G : Nat → Value} (h : OV C w g n cap F) (e : ∀ i, i < n → F i = G i) : OV C w g n cap G := by
  obtain ⟨cur, hg, hh, hc, hm, hs, hF⟩ := h
  exact ⟨cur, hg, hh, hc, hm, hs, fun i hi => by rw [hF i hi, e i hi]⟩
/-- moved up from t on -/
def shF (c : Nat → Value) (t k : Nat) : Value := if k ≤ t then c k else c (k - 1)
theorem infoW : (Try.prog.info? 57).map (fun i => (i.zero, i.size, i.bytes)) = some (some (.agg #[.slice none 0 0]), 1, 24) := by kernel_rfl

def InsE (B : Nat) (w0 w' : World) (ws : List (List Int)) (x : List Int) (e : Ending) : Prop := ∃ v2 ws', e = .returned v2 ∧ WR B w0 w' v2 ws' ∧ InsW ws x ws'

set_option maxHeartbeats 4000000 in
theorem l3Insert_any (B : Nat) (w0 w : World) (v : Value) (xa : Option Addr) (xn xc : Nat) (ws : List (List Int)) (x : List Int) (hW : WR B w0 w v ws) (hN : Nx w0 w) (hx : HInts B w0 (.slice xa xn xc) x) (hxc : xn ≤ xc) (ha : AscW ws) (hl : ws.length ≤ 100000) (h0 : 0 < ws.length) :
    Calls Try.prog 50 #[v, .slice xa xn xc] w fun e w' => InsE B w0 w' ws x e ∧ Nx w0 w' := by
  obtain ⟨ii, hi, hz0, hz1, hz2⟩ := info_parts infoW
  have HW : Hid (WR B w0 w v ws) := hW
  have HN0 : Hid (Nx w0 w) := hN
  have HX : Hid (HInts B w0 (.slice xa xn xc) x) := hx
  have HXC : Hid (xn ≤ xc) := hxc
  have HA : Hid (AscW ws) := ha
  have HL : Hid (ws.length ≤ 100000) := hl
  obtain ⟨va, vc, hvs⟩ := hW.slice
  subst hvs
  clear hx ha hN hW hxc
  go_enter Try.func50, Try.ntmps50
  go_wp2_with fail
  refine (l3Place_any 0 B _ _ ws x _ (HW.out.held HN0.out) (HX.out.next HN0.out) HA.out (by have := HL.out; omega)).mono ?_
  rintro e w1 ⟨⟨i, rfl, hin, hp⟩, hx1⟩
  have HN1 : Hid (Nx w0 w1) := HN0.out.trans hx1
  have HW1 : Hid (WR B w0 w1 (.slice va ws.length vc) ws) := HW.out.next hx1
  have HP : Hid (PlaceW ws x i i) := hp
  clear hp hx1 HW HN0
  have hH := HW1.out.held HN1.out
  obtain ⟨ha', hc', hev, hmx, hrow⟩ := hH
  simp only [Value.slice.injEq] at hev
  obtain ⟨rfl, _, rfl⟩ := hev
  unfold maxLen at hmx
  have HNO : Hid ((i < ws.length → wd ws i ≠ x) → ¬ inW ws x) := by
    intro hne
    rintro ⟨j, hj, ej⟩
    rcases Nat.lt_trichotomy j i with h1 | rfl | h1
    · have := HP.out.1 j h1
      rw [ej, bef_self] at this; cases this
    · exact hne hj ej
    · have h2 := HA.out i j h1 hj
      have h3 := HP.out.2 i (Nat.le_refl _) (by omega)
      rw [ej] at h2
      rw [h2] at h3; cases h3
  generalize hz : ws.length = n at *
  have HZ : Hid (ws.length = n) := hz
  clear hz
  obtain ⟨b, off, rfl, _, hb, hc⟩ := hrow h0
  by_cases hlt : i < n
  · obtain ⟨vi, hci, hHi, cpi⟩ := hc i hlt
    have hlt' : (i : Int) < n := by omega
    obtain ⟨a2, n2, c2, rfl, _⟩ := cpi
    have HHI : Hid (HInts 0 w1 (.slice a2 n2 c2) (wd ws i)) := hHi
    clear hc hHi
    go_wp2_with fail
    refine (l2Same_any 0 B _ _ (wd ws i) x _ (by exact HHI.out) (by exact HX.out.next HN1.out)).mono ?_
    rintro e w2 ⟨rfl, hx2⟩
    have HNZ : Hid (Nx w0 w2) := HN1.out.trans hx2
    have HWZ : Hid (WR B w0 w2 (.slice (some ⟨b, off, none⟩) n vc) ws) := HW1.out.next hx2
    clear hx2 HW1 HN1 HHI hci hrow
    by_cases hsm : wd ws i = x
    · have hd : decide (wd ws i = x) = true := by simpa using hsm
      have HIN : Hid (inW ws x) := ⟨i, by rw [HZ.out]; exact hlt, hsm⟩
      rw [hd]
      clear hsm hd
      go_wp2
      go_ret
      exact ⟨⟨_, ws, rfl, HWZ.out, Or.inl ⟨HIN.out, rfl⟩⟩, HNZ.out⟩
    have hd : decide (wd ws i = x) = false := by simpa using hsm
    have HNI : Hid (¬ inW ws x) := HNO.out fun _ => hsm
    rw [hd]
    clear hsm hd HNO
    obtain ⟨cs, hown, hcs⟩ := HWZ.out
    have hcl : cs.length = n := by have := hown.1; rw [HZ.out] at this; omega
    rw [HZ.out] at hown hcs
    have HOWN : Hid (w2.ownsRow w0.heap.size 57 1 (.slice (some ⟨b, off, none⟩) n vc) n cs) := hown
    have HCS : Hid (∀ i, i < n → HInts B w0 (vat cs i) (wd ws i) ∧ CapOk (vat cs i)) := hcs
    clear hown hcs HWZ
    go_wp2_with (at_builtin; refine wpList_append_own_at _ rfl _ _ 54 rfl w0.heap.size 57 ii (.agg #[.slice none 0 0]) 1 24 Try.underlying54 hi hz0 hz1 hz2 rfl (by decide) _ _ _ rfl (World.ownsRow.alloc HOWN.out _) ⟨w2.heap.size, 0, none⟩ 1 1 [.slice xa xn xc] rfl rfl ?c1 ?c2 ?c3 ?c4 ?c5 ?_)
    case c1 => exact fun j u hj => new_cells w2 _ _ _ rfl j u hj
    case c2 => intro u hu; simp at hu; subst hu; rfl
    case c3 => have := HL.out; unfold maxLen; omega
    case c4 => have := HL.out; omega
    case c5 => have := HNZ.out.size; simp; omega
    intro v7 w7 hown' hgrow _ _
    have HN7 : Hid (Nx w0 w7) := Below.grown (Below.alloc HNZ.out HNZ.out.size _) hgrow (by have := HNZ.out.size; simp; omega) (fun g hg => (own_lt HOWN.out g hg).1)
    obtain ⟨g, cap7, hv7, hov⟩ := OV.of hown' (by omega)
    subst hv7
    have HSL : Hid (∀ k, k < n + 1 → ∃ a n c, vat (cs ++ [.slice xa xn xc]) k = .slice a n c ∧ n ≤ c) := by
      intro k hk
      by_cases e : k < n
      · have : vat (cs ++ [.slice xa xn xc]) k = vat cs k := by simp [vat, List.getD, List.getElem?_append_left (show k < cs.length by omega)]
        rw [this]
        exact (HCS.out k e).2
      · have : vat (cs ++ [.slice xa xn xc]) k = .slice xa xn xc := by rw [show k = cs.length by omega]; simp [vat, List.getD]
        rw [this]
        exact ⟨_, _, _, rfl, HXC.out⟩
    have HFIN : Hid (∀ k, k < n + 1 → HInts B w0 (if k = i then .slice xa xn xc else shF (vat (cs ++ [.slice xa xn xc])) i k) (wd (insAt ws i x) k) ∧ CapOk (if k = i then .slice xa xn xc else shF (vat (cs ++ [.slice xa xn xc])) i k)) := by
      intro k hk
      rw [insAt_at x (by rw [HZ.out]; exact hin)]
      unfold shF
      have hcc : ∀ q, q < n → vat (cs ++ [.slice xa xn xc]) q = vat cs q := fun q hq => by simp [vat, List.getD, List.getElem?_append_left (show q < cs.length by omega)]
      by_cases e1 : k < i
      · rw [if_neg (by omega), if_pos (by omega), if_pos e1, hcc k (by omega)]
        exact HCS.out k (by omega)
      · rw [if_neg e1]
        by_cases e2 : k = i
        · rw [if_pos e2, if_pos e2]
          exact ⟨HX.out, _, _, _, rfl, HXC.out⟩
        · rw [if_neg e2, if_neg e2, if_neg (by omega), hcc (k - 1) (by omega)]
          exact HCS.out (k - 1) (by omega)
    have HOV : Hid (OV w0.heap.size w7 g (n + 1) cap7 (shF (vat (cs ++ [.slice xa xn xc])) n)) := hov.congr fun k hk => by unfold shF; rw [if_pos (by omega)]
    have HGE : Hid (w0.heap.size ≤ g) := hov.ge
    clear hown' hgrow hov HOWN HCS HNZ hcl
    generalize vat (cs ++ [.slice xa xn xc]) = c at *
    have hln := HL.out
    have wn : IntKind.i64.wrap ((n : Int) + 1 - 1) = (n : Int) := by rw [IntKind.wrap_i64]; omega
    have wn2 : ((n : Int) + 1 - 1) = (n : Int) := by omega
    have wn3 := wrapJ n (by omega)
    go_wp2
    go_loopw [6] (fun j wr => ∃ t : Nat, i ≤ t ∧ t ≤ n ∧ j = .int .i64 t ∧ Hid (OV w0.heap.size wr g (n + 1) cap7 (shF c t)) ∧ Hid (Nx w0 wr)) (fun j _ => (intOf j).toNat)
    case atStart => exact ⟨n, hin, Nat.le_refl _, by go_num, HOV, HN7⟩
    clear HOV HN7
    obtain ⟨t, hit, htn, rfl, HOV, HN⟩ := hrel
    by_cases hgt : i < t
    · obtain ⟨s, rfl⟩ : ∃ s, t = s + 1 := ⟨t - 1, by omega⟩
      have hgt' : (i : Int) < (s : Int) + 1 := by omega
      have y0 := HOV.out.cell (i := s) (by omega)
      have y1 := HOV.out.cell (i := s + 1) (by omega)
      have y2 := HOV.out.frozen (s + 1)
      have ws1 : IntKind.i64.wrap ((s : Int) + 1 - 1) = (s : Int) := by rw [IntKind.wrap_i64]; omega
      have ws2 : ((s : Int) + 1 - 1) = (s : Int) := by omega
      have ws3 := wrapJ s (by omega)
      have hs1 : (s : Int) < (n : Int) + 1 := by omega
      have hs2 : (s : Int) + 1 < (n : Int) + 1 := by omega
      have es : shF c (s + 1) s = c s := by unfold shF; rw [if_pos (by omega)]
      rw [es] at y0
      obtain ⟨qa, qn, qc, hq, _⟩ := HSL.out s (by omega)
      have HQ : Hid (c s = .slice qa qn qc) := hq
      rw [hq] at y0
      clear es hq wn wn2 wn3
      go_wp2
      go_roundw
      case rel => exact ⟨s, by omega, by omega, by go_num, (HOV.out.set (s + 1) (.slice qa qn qc)).congr (fun k hk => by
          show (if k = s + 1 then Value.slice qa qn qc else shF c (s + 1) k) = shF c s k
          unfold shF
          by_cases e : k = s + 1
          · subst e; rw [if_pos rfl, if_neg (by omega), Nat.add_sub_cancel, HQ.out]
          · rw [if_neg e]
            by_cases e2 : k ≤ s
            · rw [if_pos (by omega), if_pos e2]
            · rw [if_neg (by omega), if_neg e2]), Below.setCell HN.out HGE.out _⟩
      case measure => simp [intOf]
    · have et : t = i := by omega
      subst et
      have y1 := HOV.out.cell (i := t) (by omega)
      have y2 := HOV.out.frozen t
      have hs2 : (t : Int) < (n : Int) + 1 := by omega
      have hgt' : ¬ (t : Int) < t := by omega
      have HRES : Hid (∀ w8, OV w0.heap.size w8 g (n + 1) cap7 (fun k => if k = t then .slice xa xn xc else shF c t k) → WR B w0 w8 (.slice (some ⟨g, 0, none⟩) (n + 1) cap7) (insAt ws t x)) := by
        intro w8 h8
        have hl8 : (insAt ws t x).length = n + 1 := by rw [insAt_len x (by rw [HZ.out]; exact hin), HZ.out]
        refine ⟨_, by rw [hl8]; exact h8.own, fun k hk => ?_⟩
        rw [hl8] at hk
        have : vat ((List.range (n + 1)).map (fun k => if k = t then Value.slice xa xn xc else shF c t k)) k = if k = t then Value.slice xa xn xc else shF c t k := by simp [vat, List.getD, hk]
        rw [this]
        exact HFIN.out k hk
      clear hgt wn wn2 wn3
      go_wp2
      go_ret
      exact ⟨⟨_, _, rfl, HRES.out _ (HOV.out.set t (.slice xa xn xc)), Or.inr ⟨HNI.out, t, by rw [HZ.out]; exact hin, HP.out, rfl⟩⟩, Below.setCell HN.out HGE.out _⟩
  · have hlt2 : ¬ (i : Int) < n := by omega
    have HNI : Hid (¬ inW ws x) := HNO.out fun h => absurd h hlt
    have HNZ : Hid (Nx w0 w1) := HN1
    have HWZ : Hid (WR B w0 w1 (.slice (some ⟨b, off, none⟩) n vc) ws) := HW1
    clear hc HW1 HN1 HNO hrow
    obtain ⟨cs, hown, hcs⟩ := HWZ.out
    have hcl : cs.length = n := by have := hown.1; rw [HZ.out] at this; omega
    rw [HZ.out] at hown hcs
    have HOWN : Hid (w1.ownsRow w0.heap.size 57 1 (.slice (some ⟨b, off, none⟩) n vc) n cs) := hown
    have HCS : Hid (∀ i, i < n → HInts B w0 (vat cs i) (wd ws i) ∧ CapOk (vat cs i)) := hcs
    clear hown hcs HWZ
    go_wp2_with (at_builtin; refine wpList_append_own_at _ rfl _ _ 54 rfl w0.heap.size 57 ii (.agg #[.slice none 0 0]) 1 24 Try.underlying54 hi hz0 hz1 hz2 rfl (by decide) _ _ _ rfl (World.ownsRow.alloc HOWN.out _) ⟨w1.heap.size, 0, none⟩ 1 1 [.slice xa xn xc] rfl rfl ?c1 ?c2 ?c3 ?c4 ?c5 ?_)
    case c1 => exact fun j u hj => new_cells w1 _ _ _ rfl j u hj
    case c2 => intro u hu; simp at hu; subst hu; rfl
    case c3 => have := HL.out; unfold maxLen; omega
    case c4 => have := HL.out; omega
    case c5 => have := HNZ.out.size; simp; omega
    intro v7 w7 hown' hgrow _ _
    have HN7 : Hid (Nx w0 w7) := Below.grown (Below.alloc HNZ.out HNZ.out.size _) hgrow (by have := HNZ.out.size; simp; omega) (fun g hg => (own_lt HOWN.out g hg).1)
    obtain ⟨g, cap7, hv7, hov⟩ := OV.of hown' (by omega)
    subst hv7
    have HSL : Hid (∀ k, k < n + 1 → ∃ a n c, vat (cs ++ [.slice xa xn xc]) k = .slice a n c ∧ n ≤ c) := by
      intro k hk
      by_cases e : k < n
      · have : vat (cs ++ [.slice xa xn xc]) k = vat cs k := by simp [vat, List.getD, List.getElem?_append_left (show k < cs.length by omega)]
        rw [this]
        exact (HCS.out k e).2
      · have : vat (cs ++ [.slice xa xn xc]) k = .slice xa xn xc := by rw [show k = cs.length by omega]; simp [vat, List.getD]
        rw [this]
        exact ⟨_, _, _, rfl, HXC.out⟩
    have HFIN : Hid (∀ k, k < n + 1 → HInts B w0 (if k = i then .slice xa xn xc else shF (vat (cs ++ [.slice xa xn xc])) i k) (wd (insAt ws i x) k) ∧ CapOk (if k = i then .slice xa xn xc else shF (vat (cs ++ [.slice xa xn xc])) i k)) := by
      intro k hk
      rw [insAt_at x (by rw [HZ.out]; exact hin)]
      unfold shF
      have hcc : ∀ q, q < n → vat (cs ++ [.slice xa xn xc]) q = vat cs q := fun q hq => by simp [vat, List.getD, List.getElem?_append_left (show q < cs.length by omega)]
      by_cases e1 : k < i
      · rw [if_neg (by omega), if_pos (by omega), if_pos e1, hcc k (by omega)]
        exact HCS.out k (by omega)
      · rw [if_neg e1]
        by_cases e2 : k = i
        · rw [if_pos e2, if_pos e2]
          exact ⟨HX.out, _, _, _, rfl, HXC.out⟩
        · rw [if_neg e2, if_neg e2, if_neg (by omega), hcc (k - 1) (by omega)]
          exact HCS.out (k - 1) (by omega)
    have HOV : Hid (OV w0.heap.size w7 g (n + 1) cap7 (shF (vat (cs ++ [.slice xa xn xc])) n)) := hov.congr fun k hk => by unfold shF; rw [if_pos (by omega)]
    have HGE : Hid (w0.heap.size ≤ g) := hov.ge
    clear hown' hgrow hov HOWN HCS HNZ hcl
    generalize vat (cs ++ [.slice xa xn xc]) = c at *
    have hln := HL.out
    have wn : IntKind.i64.wrap ((n : Int) + 1 - 1) = (n : Int) := by rw [IntKind.wrap_i64]; omega
    have wn2 : ((n : Int) + 1 - 1) = (n : Int) := by omega
    have wn3 := wrapJ n (by omega)
    go_wp2
    go_loopw [6] (fun j wr => ∃ t : Nat, i ≤ t ∧ t ≤ n ∧ j = .int .i64 t ∧ Hid (OV w0.heap.size wr g (n + 1) cap7 (shF c t)) ∧ Hid (Nx w0 wr)) (fun j _ => (intOf j).toNat)
    case atStart => exact ⟨n, hin, Nat.le_refl _, by go_num, HOV, HN7⟩
    clear HOV HN7
    obtain ⟨t, hit, htn, rfl, HOV, HN⟩ := hrel
    by_cases hgt : i < t
    · exfalso; omega
    · have et : t = i := by omega
      subst et
      have y1 := HOV.out.cell (i := t) (by omega)
      have y2 := HOV.out.frozen t
      have hs2 : (t : Int) < (n : Int) + 1 := by omega
      have hgt' : ¬ (t : Int) < t := by omega
      have HRES : Hid (∀ w8, OV w0.heap.size w8 g (n + 1) cap7 (fun k => if k = t then .slice xa xn xc else shF c t k) → WR B w0 w8 (.slice (some ⟨g, 0, none⟩) (n + 1) cap7) (insAt ws t x)) := by
        intro w8 h8
        have hl8 : (insAt ws t x).length = n + 1 := by rw [insAt_len x (by rw [HZ.out]; exact hin), HZ.out]
        refine ⟨_, by rw [hl8]; exact h8.own, fun k hk => ?_⟩
        rw [hl8] at hk
        have : vat ((List.range (n + 1)).map (fun k => if k = t then Value.slice xa xn xc else shF c t k)) k = if k = t then Value.slice xa xn xc else shF c t k := by simp [vat, List.getD, hk]
        rw [this]
        exact HFIN.out k hk
      clear hgt wn wn2 wn3
      go_wp2
      go_ret
      exact ⟨⟨_, _, rfl, HRES.out _ (HOV.out.set t (.slice xa xn xc)), Or.inr ⟨HNI.out, t, by rw [HZ.out]; exact hin, HP.out, rfl⟩⟩, Below.setCell HN.out HGE.out _⟩
end Go.Proofs.Ytifefpeefcjabaa
