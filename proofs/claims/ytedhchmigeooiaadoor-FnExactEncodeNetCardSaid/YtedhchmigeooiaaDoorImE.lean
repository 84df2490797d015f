import Derived.Test.YtedhchmigeooiaaDoorImC
namespace Go.Proofs.YtedhchmigeooiaaDoor
open Go.RowKit
set_option linter.unusedVariables false

/-- ascending: a lower place holds a smaller number -/
theorem asc_mono {n : Nat} {lt : Nat → Nat → Bool} {f : Nat → Int} (hlt : ∀ i j, lt i j = decide (f i < f j)) (h : ascN n lt = true) : ∀ i j, i < j → j < n → f i < f j := by
  intro i j hij hj
  unfold ascN allN at h
  rw [List.all_eq_true] at h
  induction j with
  | zero => omega
  | succ j ih =>
    have h1 := h (j + 1) (List.mem_range.2 hj)
    rw [ascAt_succ, hlt] at h1
    have h1 := of_decide_eq_true h1
    by_cases e : i = j
    · subst e; exact h1
    · have := ih (by omega) (by omega); omega

/-- where the search stands: what lies below lo is smaller, what lies from hi on is not -/
def Mid (f : Nat → Int) (n : Nat) (t : Int) (lo hi : Nat) : Prop := lo ≤ hi ∧ hi ≤ n ∧ (∀ i, i < lo → f i < t) ∧ (∀ i, hi ≤ i → i < n → t ≤ f i)
theorem mid_start (f : Nat → Int) (n : Nat) (t : Int) : Mid f n t 0 n := ⟨Nat.zero_le _, Nat.le_refl _, fun i hi => absurd hi (Nat.not_lt_zero _), fun i h1 h2 => by omega⟩
theorem mid_up {f : Nat → Int} {n : Nat} {t : Int} {lo hi h : Nat} (hm : ∀ i j, i < j → j < n → f i < f j) (H : Mid f n t lo hi) (h1 : h < hi) (hf : f h < t) (h0 : lo ≤ h) : Mid f n t (h + 1) hi := by
  obtain ⟨a, b, c, d⟩ := H
  refine ⟨by omega, b, fun i hi' => ?_, d⟩
  by_cases e : i = h
  · subst e; exact hf
  · have := hm i h (by omega) (by omega); omega
theorem mid_down {f : Nat → Int} {n : Nat} {t : Int} {lo hi h : Nat} (hm : ∀ i j, i < j → j < n → f i < f j) (H : Mid f n t lo hi) (h1 : h < hi) (hf : ¬ f h < t) (h0 : lo ≤ h) : Mid f n t lo h := by
  obtain ⟨a, b, c, d⟩ := H
  refine ⟨by omega, by omega, c, fun i hi' hn => ?_⟩
  by_cases e : i = h
  · subst e; omega
  · have := hm h i (by omega) hn; omega

theorem hasI_mid {zs : List Int} {t : Int} {lo : Nat} (hm : ∀ i j, i < j → j < zs.length → iat zs i < iat zs j) (H : Mid (iat zs) zs.length t lo lo) : hasI zs t = (decide (lo < zs.length) && (iat zs lo == t)) := by
  obtain ⟨a, b, c, d⟩ := H
  by_cases hl : lo < zs.length
  · by_cases e : iat zs lo = t
    · rw [← hasI_yes hl (by simp [e])]; simp [hl, e]
    · rw [← hasI_no (k := zs.length) (Nat.le_refl _) (fun i hi => ?_)]
      · simp [e]
      · by_cases h1 : i < lo
        · have := c i h1; omega
        · by_cases h2 : i = lo
          · subst h2; exact e
          · have := hm lo i (by omega) hi; have := d lo (Nat.le_refl _) hl; omega
  · rw [← hasI_no (k := zs.length) (Nat.le_refl _) (fun i hi => ?_)]
    · simp [hl]
    · have := c i (by omega); omega
theorem hasW_mid {zs : List Wy} {t : Int} {lo : Nat} (hm : ∀ i j, i < j → j < zs.length → (wat zs i).id < (wat zs j).id) (H : Mid (fun i => (wat zs i).id) zs.length t lo lo) : hasW zs t = (decide (lo < zs.length) && ((wat zs lo).id == t)) := by
  obtain ⟨a, b, c, d⟩ := H
  by_cases hl : lo < zs.length
  · by_cases e : (wat zs lo).id = t
    · rw [hasW_yes hl (by simp [e])]; simp [hl, e]
    · rw [hasW_no (k := zs.length) (Nat.le_refl _) (fun i hi => ?_)]
      · simp [e]
      · by_cases h1 : i < lo
        · have := c i h1; simp only at this; omega
        · by_cases h2 : i = lo
          · subst h2; exact e
          · have := hm lo i (by omega) hi; have := d lo (Nat.le_refl _) hl; simp only at this; omega
  · rw [hasW_no (k := zs.length) (Nat.le_refl _) (fun i hi => ?_)]
    · simp [hl]
    · have := c i (by omega); simp only at this; omega

theorem ret_ib {r : Int} {a b : Bool} (h : a = b) : Ending.returned (.tuple #[.int .i64 r, .bool a]) = .returned (.tuple #[.int .i64 r, .bool b]) := by rw [h]
theorem u64_wrap (n : Int) : IntKind.u64.wrap n = n % 18446744073709551616 := by simp [IntKind.wrap, IntKind.bits, IntKind.signed]
theorem halve (lo hi : Nat) (h1 : lo < hi) (h2 : hi ≤ 9223372036854775807) : ∃ h : Nat, wrap64 (IntKind.u64.wrap (wrap64 ((lo : Int) + (hi : Int))) / 2) = (h : Int) ∧ lo ≤ h ∧ h < hi := by
  refine ⟨(lo + hi) / 2, ?_, by omega, by omega⟩
  rw [u64_wrap]
  unfold wrap64
  omega

set_option maxHeartbeats 1000000 in
theorem binSearch_any (B : Nat) (v : Value) (zs : List Int) (t : Int) (w : World) (h0 : HInts B w v zs) (ha : ascI zs = true) :
    Calls Tryd.prog 79 #[v, .int .i64 t] w fun e w' => (∃ r : Int, e = .returned (.tuple #[.int .i64 r, .bool (hasI zs t)])) ∧ w' = w := by
  have hm : Hid (∀ i j, i < j → j < zs.length → iat zs i < iat zs j) := asc_mono (fun i j => rfl) ha
  clear ha
  obtain ⟨a, cap, rfl, hn, hk⟩ := h0
  unfold maxLen at hn
  generalize hz : zs.length = n at *
  have HZ : Hid (zs.length = n) := hz
  clear hz
  go_enter Tryd.func79, Tryd.ntmps79
  go_wp2
  go_loop [7, 8, 9] (fun i j h => ∃ lo hi : Nat, lo ≤ hi ∧ hi ≤ n ∧ i = .int .i64 lo ∧ j = .int .i64 hi ∧ Hid (Mid (iat zs) n t lo hi)) (fun i j _ => (intOf j).toNat - (intOf i).toNat)
  case atStart => exact ⟨0, n, Nat.zero_le _, Nat.le_refl _, rfl, rfl, mid_start _ _ _⟩
  case round =>
    obtain ⟨lo, hi, h1, h2, rfl, rfl, hrel⟩ := hrel
    by_cases hlt : lo < hi
    · obtain ⟨b, off, rfl, hB, hb, hc⟩ := hk (by omega)
      obtain ⟨h, hh, hh1, hh2⟩ := halve lo hi hlt (by omega)
      have hcc := hc h (by omega)
      have hhn : (h : Int) < n := by omega
      clear hc hk
      by_cases hab : iat zs h < t
      · have HM : Hid (Mid (iat zs) n t (h + 1) hi) := mid_up hm.out hrel.out hh2 hab hh1
        go_wp2_with (go_at_call 81; refine (less_any _ _ _).mono ?_; rintro e w' ⟨rfl, rfl⟩)
        go_round
        case rel => exact ⟨h + 1, hi, by omega, by omega, by go_num, rfl, HM⟩
        case measure => simp [intOf]; omega
      · have HM : Hid (Mid (iat zs) n t lo h) := mid_down hm.out hrel.out hh2 hab hh1
        have hd : decide (iat zs h < t) = false := by simpa using hab
        go_wp2_with (go_at_call 81; refine (less_any _ _ _).mono ?_; rintro e w' ⟨rfl, rfl⟩)
        go_round
        case rel => exact ⟨lo, h, by omega, by omega, rfl, rfl, HM⟩
        case measure => simp [intOf]; omega
    · have e : hi = lo := by omega
      subst e
      have HF : Hid (hasI zs t = (decide (hi < n) && (iat zs hi == t))) := by have z := HZ.out; subst z; exact hasI_mid hm.out hrel.out
      by_cases hl : hi < n
      · obtain ⟨b, off, rfl, hB, hb, hc⟩ := hk (by omega)
        have hcc := hc hi hl
        have hln : (hi : Int) < n := by omega
        clear hc hk
        by_cases he : iat zs hi = t
        · have hd : (iat zs hi == t) = true := by simpa using he
          have HF' : Hid (hasI zs t = true) := by unfold Hid; rw [HF.out, hd]; simp [hl]
          clear he
          go_wp2_with (go_at_call 82; refine (slNaN_any _ _).mono ?_; rintro e w' ⟨rfl, rfl⟩)
          go_ret2
          exact ⟨⟨_, ret_ib HF'.out.symm⟩, rfl⟩
        · have hd : (iat zs hi == t) = false := by simpa using he
          have HF' : Hid (hasI zs t = false) := by unfold Hid; rw [HF.out, hd]; simp
          clear he
          go_wp2_with (go_at_call 82; refine (slNaN_any _ _).mono ?_; rintro e w' ⟨rfl, rfl⟩)
          go_ret2
          exact ⟨⟨_, ret_ib HF'.out.symm⟩, rfl⟩
      · have HF' : Hid (hasI zs t = false) := by unfold Hid; rw [HF.out]; simp [hl]
        have hd : decide ((hi : Int) < n) = false := by simp; omega
        go_wp2
        go_ret2
        exact ⟨⟨_, ret_ib HF'.out.symm⟩, rfl⟩

set_option maxHeartbeats 400000 in
theorem hasNode_any (B : Nat) (v0 v1 v2 v3 : Value) (u id : Int) (zs : List Int) (w : World) (h0 : HInts B w v0 zs) (ha : ascI zs = true) :
    Calls Tryd.prog 75 #[.agg #[v0, v1, v2, v3, .int .i64 u], .int .i64 id] w fun e w' => e = .returned (.bool (hasI zs id)) ∧ Nx w w' := by
  have HA : Hid (ascI zs = true) := ha
  clear ha
  go_enter Tryd.func75, Tryd.ntmps75
  go_wp2_with (go_at_call 79; refine (binSearch_any B _ zs _ _ (by exact h0.next (box1 _ _)) HA.out).mono ?_; rintro e w' ⟨⟨r, rfl⟩, rfl⟩)
  go_ret
  exact ⟨rfl, box1 _ _⟩
end Go.Proofs.YtedhchmigeooiaaDoor
