import Derived.Test.YtifefpeefcjabaaAB
namespace Go.Proofs.Ytifefpeefcjabaa
open Go.RowKit
set_option linter.unusedVariables false
set_option maxRecDepth 100000

/-- a slice's length is within its capacity -/
def CapOk (v : Value) : Prop := ∃ a n c, v = .slice a n c ∧ n ≤ c
theorem OwnI.capOk {B : Nat} {w : World} {v : Value} {zs : List Int} (h : OwnI B w v zs) : CapOk v := by
  rcases h.2 with ⟨rfl, _⟩ | ⟨g, cap, cur, rfl, _, _, hc, _⟩
  · exact ⟨_, _, _, rfl, Nat.le_refl _⟩
  · exact ⟨_, _, _, rfl, hc⟩
def wd (ws : List (List Int)) (i : Nat) : List Int := ws.getD i []
def HWords (B : Nat) (w : World) (v : Value) (ws : List (List Int)) : Prop :=
  HSlice B w v ws.length fun b off i => ∃ vi, w.cell? ⟨b, off + i, none⟩ = some vi ∧ HInts B w vi (wd ws i) ∧ CapOk vi
theorem HWords.keep {B : Nat} {w w' : World} {v : Value} {ws : List (List Int)} (h : HWords B w v ws) (k : Keeps B w w') : HWords B w' v ws :=
  HSlice.mono h (Nat.le_refl _) k.1 fun b off hb hs i hi hc => by
    obtain ⟨vi, h1, h2, h3⟩ := hc
    exact ⟨vi, (k.2 b hb hs _).trans h1, h2.keep k, h3⟩
theorem HWords.next {B : Nat} {w w' : World} {v : Value} {ws : List (List Int)} (h : HWords B w v ws) (k : Nx w w') : HWords B w' v ws := h.keep (k.keeps B)

theorem lex_trans {x y z : List Int} (h1 : lexB x y = true) (h2 : lexB y z = true) : lexB x z = true := by
  induction x generalizing y z with
  | nil => simp [lexB] at h1
  | cons a x ih =>
    match y, z with
    | [], _ => simp [lexB] at h1
    | _ :: _, [] => simp [lexB] at h2
    | b :: y, c :: z =>
      simp only [lexB] at h1 h2 ⊢
      by_cases e1 : a = b
      · rw [if_pos e1] at h1
        by_cases e2 : b = c
        · rw [if_pos e2] at h2
          rw [if_pos (by omega)]
          exact ih h1 h2
        · rw [if_neg e2] at h2
          rw [if_neg (by omega)]
          simp at h2 ⊢
          omega
      · rw [if_neg e1] at h1
        by_cases e2 : b = c
        · rw [if_neg (by omega)]
          simp at h1 ⊢
          omega
        · rw [if_neg e2] at h2
          simp at h1 h2
          rw [if_neg (by omega)]
          simp
          omega
theorem bef_trans {x y z : List Int} (h1 : befB x y = true) (h2 : befB y z = true) : befB x z = true := by
  unfold befB at *
  by_cases e1 : x.length = y.length
  · rw [if_pos e1] at h1
    by_cases e2 : y.length = z.length
    · rw [if_pos e2] at h2
      rw [if_pos (by omega)]
      exact lex_trans h1 h2
    · rw [if_neg e2] at h2
      rw [if_neg (by omega)]
      simp at h2 ⊢
      omega
  · rw [if_neg e1] at h1
    by_cases e2 : y.length = z.length
    · rw [if_neg (by omega)]
      simp at h1 ⊢
      omega
    · rw [if_neg e2] at h2
      simp at h1 h2
      rw [if_neg (by omega)]
      simp
      omega
theorem bef_self (x : List Int) : befB x x = false := by unfold befB; rw [if_pos rfl, lex_self]
/-- the words ascend -/
def AscW (ws : List (List Int)) : Prop := ∀ i j, i < j → j < ws.length → befB (wd ws i) (wd ws j) = true

/-- the first from k on, n of them, that fits; -1 where none does -/
def findA (f : Nat → Bool) : Nat → Nat → Int
  | _, 0 => -1
  | k, n + 1 => if f k then (k : Int) else findA f (k + 1) n
theorem findA_some {f : Nat → Bool} {k n : Nat} (h : 0 ≤ findA f k n) : ∃ a : Nat, findA f k n = a ∧ k ≤ a ∧ a < k + n ∧ f a = true := by
  induction n generalizing k with
  | zero => simp [findA] at h
  | succ n ih =>
    unfold findA at h ⊢
    by_cases e : f k = true
    · rw [if_pos e]; exact ⟨k, rfl, Nat.le_refl _, by omega, e⟩
    · rw [if_neg e] at h ⊢
      obtain ⟨a, h1, h2, h3, h4⟩ := ih h
      exact ⟨a, h1, by omega, by omega, h4⟩
theorem findA_ge (f : Nat → Bool) (k n : Nat) : -1 ≤ findA f k n := by
  induction n generalizing k with
  | zero => simp [findA]
  | succ n ih =>
    unfold findA
    split
    · omega
    · exact ih _
theorem findA_none {f : Nat → Bool} {k n : Nat} (h : ∀ a, k ≤ a → a < k + n → f a = false) : findA f k n = -1 := by
  induction n generalizing k with
  | zero => rfl
  | succ n ih =>
    unfold findA
    rw [if_neg (by rw [h k (Nat.le_refl _) (by omega)]; simp)]
    exact ih fun a h1 h2 => h a (by omega) (by omega)
theorem findA_one {f : Nat → Bool} {k n a : Nat} (h1 : k ≤ a) (h2 : a < k + n) (ha : f a = true) (hu : ∀ b, k ≤ b → b < a → f b = false) : findA f k n = a := by
  induction n generalizing k with
  | zero => omega
  | succ n ih =>
    unfold findA
    by_cases e : k = a
    · subst e; rw [if_pos ha]
    · rw [if_neg (by rw [hu k (Nat.le_refl _) (by omega)]; simp)]
      exact ih (by omega) (by omega) fun b hb hb' => hu b (by omega) hb'
/-- the number of a word, or -1 -/
def stW (ws : List (List Int)) (x : List Int) : Int := findA (fun i => decide (wd ws i = x)) 0 ws.length
def PlaceW (ws : List (List Int)) (x : List Int) (lo hi : Nat) : Prop := (∀ i, i < lo → befB (wd ws i) x = true) ∧ ∀ i, hi ≤ i → i < ws.length → befB (wd ws i) x = false
theorem place_up {ws : List (List Int)} {x : List Int} {lo hi m : Nat} (ha : AscW ws) (h : PlaceW ws x lo hi) (hm : m < ws.length) (hb : befB (wd ws m) x = true) : PlaceW ws x (m + 1) hi :=
  ⟨fun i hi => by
    rcases Nat.lt_succ_iff_lt_or_eq.1 hi with h1 | rfl
    · exact bef_trans (ha i m h1 hm) hb
    · exact hb, h.2⟩
theorem place_down {ws : List (List Int)} {x : List Int} {lo hi m : Nat} (ha : AscW ws) (h : PlaceW ws x lo hi) (hb : befB (wd ws m) x = false) : PlaceW ws x lo m :=
  ⟨h.1, fun i h1 h2 => by
    rcases Nat.lt_or_eq_of_le h1 with h3 | rfl
    · cases e : befB (wd ws i) x with
      | false => rfl
      | true => rw [bef_trans (ha m i h3 h2) e] at hb; simp at hb
    · exact hb⟩
theorem place_yes {ws : List (List Int)} {x : List Int} {lo : Nat} (h : PlaceW ws x lo lo) (hl : lo < ws.length) (e : wd ws lo = x) : (lo : Int) = stW ws x := by
  symm
  refine findA_one (Nat.zero_le _) (by omega) (by simpa using e) fun b _ hb => ?_
  rw [decide_eq_false_iff_not]
  intro e'
  have := h.1 b hb
  rw [e', bef_self] at this
  simp at this
theorem place_no {ws : List (List Int)} {x : List Int} {lo : Nat} (ha : AscW ws) (h : PlaceW ws x lo lo) (e : lo < ws.length → wd ws lo ≠ x) : -1 = stW ws x := by
  symm
  refine findA_none fun a _ hl => ?_
  rw [decide_eq_false_iff_not]
  intro e'
  rcases Nat.lt_trichotomy a lo with h1 | rfl | h1
  · have := h.1 a h1
    rw [e', bef_self] at this
    simp at this
  · exact e (by omega) e'
  · have h2 := ha lo a h1 (by omega)
    rw [e'] at h2
    have := h.2 lo (Nat.le_refl _) (by omega)
    rw [h2] at this
    simp at this
theorem halve (lo hi : Nat) (h : lo < hi) (hb : hi ≤ 4611686018427387903) : ∃ m : Nat, ((lo : Int) + hi).tdiv 2 = (m : Int) ∧ lo ≤ m ∧ m < hi := by
  refine ⟨(lo + hi) / 2, ?_, by omega, by omega⟩
  rw [Int.tdiv_eq_ediv_of_nonneg (by omega)]
  omega

set_option maxHeartbeats 2000000 in
theorem l3Place_any (B B' : Nat) (v v' : Value) (ws : List (List Int)) (xs : List Int) (w : World) (h0 : HWords B w v ws) (h1 : HInts B' w v' xs) (ha : AscW ws) (hl : ws.length ≤ 1048576) :
    Calls Try.prog 51 #[v, v'] w fun e w' => (∃ lo : Nat, e = .returned (.int .i64 lo) ∧ lo ≤ ws.length ∧ PlaceW ws xs lo lo) ∧ Nx w w' := by
  have HH : Hid (HWords B w v ws) := h0
  have HX : Hid (HInts B' w v' xs) := h1
  have HA : Hid (AscW ws) := ha
  obtain ⟨a, cap, rfl, hn, hk⟩ := h0
  clear h1 ha
  generalize hz : ws.length = n at *
  have HZ : Hid (ws.length = n) := hz
  clear hz
  go_enter Try.func51, Try.ntmps51
  go_wp2
  go_loopw [5, 6, 7] (fun s5 s6 s7 wr => ∃ lo hi : Nat, lo ≤ hi ∧ hi ≤ n ∧ s5 = .int .i64 lo ∧ s6 = .int .i64 hi ∧ Hid (PlaceW ws xs lo hi) ∧ Hid (Nx w wr)) (fun s5 s6 _ _ => (intOf s6).toNat - (intOf s5).toNat)
  case atStart => exact ⟨0, n, Nat.zero_le _, Nat.le_refl _, rfl, rfl, ⟨fun i hi => absurd hi (Nat.not_lt_zero _), fun i h1 h2 => by rw [HZ.out] at h2; omega⟩, Nx.refl _⟩
  obtain ⟨lo, hi, hlh, hhn, rfl, rfl, HP, HN⟩ := hrel
  by_cases hlt : lo < hi
  · obtain ⟨m, hm, hm1, hm2⟩ := halve lo hi hlt (by omega)
    have hlt' : (lo : Int) < hi := by omega
    have hmn : (m : Int) < n := by omega
    obtain ⟨b, off, rfl, hB, hb, hc⟩ := hk (by omega)
    obtain ⟨vi, hv1, hv2, _⟩ := hc m (by omega)
    have c0 := cell_next HN.out hb hv1
    have HVI : Hid (HInts B wr vi (wd ws m)) := hv2.next HN.out
    have hwm : IntKind.i64.wrap ((lo : Int) + hi) = (lo : Int) + hi := by rw [IntKind.wrap_i64]; omega
    clear hc hk hv1 hv2
    go_wp2_with fail
    refine (l3Before_any B B' _ _ _ xs _ HVI.out (HX.out.next HN.out)).mono ?_
    rintro e w1 ⟨rfl, hx⟩
    have HN1 : Hid (Nx w w1) := HN.out.trans hx
    clear hx HN c0
    cases hbf : befB (wd ws m) xs
    · have HP' : Hid (PlaceW ws xs lo m) := place_down HA.out HP.out hbf
      clear hbf
      go_wp2
      go_roundw
      case rel => exact ⟨lo, m, hm1, by omega, rfl, rfl, HP', HN1⟩
      case measure => simp [intOf]; omega
    · have HP' : Hid (PlaceW ws xs (m + 1) hi) := place_up HA.out HP.out (by rw [HZ.out]; omega) hbf
      clear hbf
      go_wp2
      go_roundw
      case rel => exact ⟨m + 1, hi, by omega, hhn, by go_num, rfl, HP', HN1⟩
      case measure => simp [intOf]; omega
  have ek : lo = hi := by omega
  subst ek
  clear hlt hk
  go_wp2
  go_ret
  exact ⟨⟨lo, rfl, hhn, HP.out⟩, HN.out⟩

set_option maxHeartbeats 2000000 in
theorem l3State_any (B B' : Nat) (v v' : Value) (ws : List (List Int)) (xs : List Int) (w : World) (h0 : HWords B w v ws) (h1 : HInts B' w v' xs) (ha : AscW ws) (hl : ws.length ≤ 1048576) :
    Calls Try.prog 30 #[v, v'] w fun e w' => e = .returned (.int .i64 (stW ws xs)) ∧ Nx w w' := by
  have HH : Hid (HWords B w v ws) := h0
  have HX : Hid (HInts B' w v' xs) := h1
  have HA : Hid (AscW ws) := ha
  have HL : Hid (ws.length ≤ 1048576) := hl
  obtain ⟨a, cap, rfl, hn, hk⟩ := h0
  clear h1 ha
  generalize hz : ws.length = n at *
  have HZ : Hid (ws.length = n) := hz
  clear hz
  go_enter Try.func30, Try.ntmps30
  go_wp2_with fail
  refine (l3Place_any B B' _ _ ws xs _ HH.out HX.out HA.out (by rw [HZ.out]; exact HL.out)).mono ?_
  rintro e w1 ⟨⟨lo, rfl, hlo, hp⟩, hx⟩
  rw [HZ.out] at hlo
  have HP : Hid (PlaceW ws xs lo lo) := hp
  have HN : Hid (Nx w w1) := hx
  clear hp hx
  by_cases hlt : lo < n
  · have hlt' : (lo : Int) < n := by omega
    obtain ⟨b, off, rfl, hB, hb, hc⟩ := hk (by omega)
    obtain ⟨vi, hv1, hv2, _⟩ := hc lo hlt
    have c0 := cell_next HN.out hb hv1
    have HVI : Hid (HInts B w1 vi (wd ws lo)) := hv2.next HN.out
    clear hc hk hv1 hv2
    go_wp2_with fail
    refine (l2Same_any B B' _ _ _ xs _ HVI.out (HX.out.next HN.out)).mono ?_
    rintro e w2 ⟨rfl, hx⟩
    have HN2 : Hid (Nx w w2) := HN.out.trans hx
    clear hx c0
    by_cases he : wd ws lo = xs
    · have HF : Hid ((lo : Int) = stW ws xs) := place_yes HP.out (by rw [HZ.out]; exact hlt) he
      have hd : decide (wd ws lo = xs) = true := by simpa using he
      rw [hd]
      clear he hd
      go_wp2
      go_ret
      exact ⟨ret_int HF.out, HN2.out⟩
    · have HF : Hid (-1 = stW ws xs) := place_no HA.out HP.out fun _ => he
      have hd : decide (wd ws lo = xs) = false := by simpa using he
      rw [hd]
      clear he hd
      go_wp2
      go_ret
      exact ⟨ret_int HF.out, HN2.out⟩
  have hlt' : ¬ (lo : Int) < n := by omega
  have HF : Hid (-1 = stW ws xs) := place_no HA.out HP.out fun h => by rw [HZ.out] at h; omega
  clear hlt hk
  go_wp2
  go_ret
  exact ⟨ret_int HF.out, HN.out⟩
end Go.Proofs.Ytifefpeefcjabaa
