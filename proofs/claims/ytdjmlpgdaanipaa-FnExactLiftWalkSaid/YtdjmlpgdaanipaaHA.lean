import Derived.Test.YtdjmlpgdaanipaaGA
namespace Go.Proofs.Ytdjmlpgdaanipaa
open Go.RowKit
set_option linter.unusedVariables false
set_option maxRecDepth 100000

def cmpI (x y : Int) : Int := if x < y then -1 else if y < x then 1 else 0
theorem cmpI_lt {x y : Int} (h : x < y) : -1 = cmpI x y := by simp [cmpI, h]
theorem cmpI_gt {x y : Int} (h : y < x) : 1 = cmpI x y := by unfold cmpI; rw [if_neg (by omega), if_pos h]
theorem cmpI_eq {x y : Int} (h : ¬ x < y) (h' : ¬ y < x) : 0 = cmpI x y := by unfold cmpI; rw [if_neg h, if_neg h']

set_option maxHeartbeats 400000 in
theorem inRange_any (v : Int) (w : World) :
    Calls Try.prog 49 #[.int .i64 v] w fun e w' => e = .returned (.bool (inB v)) ∧ w' = w := by
  by_cases h1 : 0 ≤ v
  · by_cases h2 : v ≤ 1048576
    · go_enter Try.func49, Try.ntmps49
      go_wp2
      go_ret
      exact ⟨ret_bool (inB_yes h1 h2), rfl⟩
    · go_enter Try.func49, Try.ntmps49
      go_wp2
      go_ret
      exact ⟨ret_bool (inB_no2 h2), rfl⟩
  · go_enter Try.func49, Try.ntmps49
    go_wp2
    go_ret
    exact ⟨ret_bool (inB_no1 h1), rfl⟩

set_option maxHeartbeats 400000 in
theorem outOfRange_any (v : Int) (w : World) :
    Calls Try.prog 38 #[.int .i64 v] w fun e w' => e = .returned (.bool (!inB v)) ∧ w' = w := by
  go_enter Try.func38, Try.ntmps38
  go_wp2_with (go_at_call 49; refine (inRange_any _ _).mono ?_; rintro e w' ⟨rfl, rfl⟩)
  go_ret
  exact ⟨rfl, rfl⟩

theorem cmpNaN_any (v : Int) (w : World) :
    Calls Try.prog 52 #[.int .i64 v] w fun e w' => e = .returned (.bool false) ∧ w' = w := by
  go_enter Try.func52, Try.ntmps52
  go_wp2
  go_ret
  exact ⟨rfl, rfl⟩

set_option maxHeartbeats 400000 in
theorem cmp_any (x y : Int) (w : World) :
    Calls Try.prog 43 #[.int .i64 x, .int .i64 y] w fun e w' => e = .returned (.int .i64 (cmpI x y)) ∧ w' = w := by
  by_cases h1 : x < y
  · go_enter Try.func43, Try.ntmps43
    go_wp2_with (go_at_call 52; refine (cmpNaN_any _ _).mono ?_; rintro e w' ⟨rfl, rfl⟩)
    go_ret
    exact ⟨ret_int (cmpI_lt h1), rfl⟩
  · by_cases h2 : y < x
    · go_enter Try.func43, Try.ntmps43
      go_wp2_with (go_at_call 52; refine (cmpNaN_any _ _).mono ?_; rintro e w' ⟨rfl, rfl⟩)
      go_ret
      exact ⟨ret_int (cmpI_gt h2), rfl⟩
    · go_enter Try.func43, Try.ntmps43
      go_wp2_with (go_at_call 52; refine (cmpNaN_any _ _).mono ?_; rintro e w' ⟨rfl, rfl⟩)
      go_ret
      exact ⟨ret_int (cmpI_eq (by omega) (by omega)), rfl⟩

set_option maxHeartbeats 400000 in
theorem less_any (x y : Int) (w : World) :
    Calls Try.prog 51 #[.int .i64 x, .int .i64 y] w fun e w' => e = .returned (.bool (decide (x < y))) ∧ w' = w := by
  go_enter Try.func51, Try.ntmps51
  go_wp2_with (go_at_call 52; refine (cmpNaN_any _ _).mono ?_; rintro e w' ⟨rfl, rfl⟩)
  go_ret
  exact ⟨rfl, rfl⟩

/-- each is above the one before it -/
def ascAt (lt : Nat → Nat → Bool) (i : Nat) : Bool := i == 0 || lt (i - 1) i
def ascN (n : Nat) (lt : Nat → Nat → Bool) : Bool := allN n (ascAt lt)
theorem ascAt_one (lt : Nat → Nat → Bool) : allTo (ascAt lt) 1 := by intro i hi; have : i = 0 := by omega
                                                                     subst this; rfl
theorem ascAt_succ (lt : Nat → Nat → Bool) (j : Nat) : ascAt lt (j + 1) = lt j (j + 1) := by simp [ascAt]

theorem cmpI_nonneg (a b : Int) : decide (0 ≤ cmpI a b) = !decide (a < b) := by
  unfold cmpI; by_cases h : a < b
  · simp [h]
  · by_cases h' : b < a <;> simp [h, h']
theorem cmpI_neg (a b : Int) : decide (cmpI a b < 0) = decide (a < b) := by
  unfold cmpI; by_cases h : a < b
  · simp [h]
  · by_cases h' : b < a <;> simp [h, h']
theorem cmpI_zero (a b : Int) : (cmpI a b == 0) = (a == b) := by
  unfold cmpI; by_cases h : a < b
  · simp [h]; omega
  · by_cases h' : b < a
    · simp [h, h']; omega
    · simp [h, h']; omega

def orI (a b : Int) : Int := if a = 0 then b else a

set_option maxHeartbeats 800000 in
theorem or_any (b off c : Nat) (x y : Int) (w : World) (h0 : w.cell? ⟨b, off, none⟩ = some (.int .i64 x)) (h1 : w.cell? ⟨b, off + 1, none⟩ = some (.int .i64 y)) :
    Calls Try.prog 50 #[.slice (some ⟨b, off, none⟩) 2 c] w fun e w' => e = .returned (.int .i64 (orI x y)) ∧ w' = w := by
  go_enter Try.func50, Try.ntmps50
  go_wp2
  go_loop [8] (fun i => (i = .int .i64 0) ∨ (i = .int .i64 1 ∧ Hid (x = 0)) ∨ (i = .int .i64 2 ∧ Hid (x = 0 ∧ y = 0))) (fun i => 2 - (intOf i).toNat)
  case atStart => exact Or.inl rfl
  case round =>
    rcases hrel with rfl | ⟨rfl, hx⟩ | ⟨rfl, hx⟩
    · by_cases hx : x = 0
      · have hd : (x != 0) = false := by simp [hx]
        have HX : Hid (x = 0) := hx
        clear hx
        go_wp2
        go_round
        case rel => exact Or.inr (Or.inl ⟨rfl, HX⟩)
        case measure => simp [intOf]
      · have hd : (x != 0) = true := by simp [hx]
        go_wp2
        go_ret
        exact ⟨ret_int (by simp [orI, hx]), rfl⟩
    · by_cases hy : y = 0
      · have hd : (y != 0) = false := by simp [hy]
        have HY : Hid (x = 0 ∧ y = 0) := ⟨hx.out, hy⟩
        clear hy
        go_wp2
        go_round
        case rel => exact Or.inr (Or.inr ⟨rfl, HY⟩)
        case measure => simp [intOf]
      · have hd : (y != 0) = true := by simp [hy]
        go_wp2
        go_ret
        exact ⟨ret_int (by simp [orI, hx.out]), rfl⟩
    · go_wp2
      go_ret
      exact ⟨ret_int (by simp [orI, hx.out.1, hx.out.2]), rfl⟩
def allIn (zs : List Int) : Bool := allN zs.length (fun i => inB (iat zs i))

set_option maxHeartbeats 400000 in
theorem indexFunc_any (B : Nat) (v : Value) (zs : List Int) (w : World) (h0 : HInts B w v zs) :
    Calls Try.prog 48 #[v, .func (.func 38) #[] #[]] w fun e w' => ∃ r : Int, e = .returned (.int .i64 r) ∧ decide (0 ≤ r) = !allIn zs ∧ w' = w := by
  obtain ⟨a, cap, rfl, hn, hk⟩ := h0
  unfold maxLen at hn
  generalize hz : zs.length = n at *
  have HZ : Hid (zs.length = n) := hz
  clear hz
  go_enter Try.func48, Try.ntmps48
  go_wp2
  go_loop [8] (fun i => ∃ k : Nat, k ≤ n ∧ i = .int .i64 k ∧ Hid (allTo (fun i => inB (iat zs i)) k)) (fun i => n - (intOf i).toNat)
  case atStart => exact ⟨0, Nat.zero_le _, rfl, allTo_zero _⟩
  case round =>
    obtain ⟨k, hkn, rfl, hrel⟩ := hrel
    by_cases hlt : k < n
    · obtain ⟨b, off, rfl, hB, hb, hc⟩ := hk (by omega)
      have hcc := hc k hlt
      clear hc hk
      by_cases hin : inB (iat zs k) = true
      · go_wp2_with (go_at_call 38; refine (outOfRange_any _ _).mono ?_; rintro e w' ⟨rfl, rfl⟩)
        go_round
        case rel => exact ⟨k + 1, by omega, by go_num, allTo_succ hrel hin⟩
        case measure => simp [intOf]; omega
      · have hin' : inB (iat zs k) = false := by simpa using hin
        go_wp2_with (go_at_call 38; refine (outOfRange_any _ _).mono ?_; rintro e w' ⟨rfl, rfl⟩)
        go_ret
        exact ⟨k, rfl, by unfold allIn; rw [allN_no (by rw [HZ.out]; exact hlt) hin']; simp, rfl⟩
    · go_wp2
      go_ret
      exact ⟨-1, rfl, by unfold allIn; rw [allN_yes (by rw [HZ.out]; omega) hrel]; rfl, rfl⟩

set_option maxHeartbeats 400000 in
theorem containsFunc_any (B : Nat) (v : Value) (zs : List Int) (w : World) (h0 : HInts B w v zs) :
    Calls Try.prog 37 #[v, .func (.func 38) #[] #[]] w fun e w' => e = .returned (.bool (!allIn zs)) ∧ w' = w := by
  go_enter Try.func37, Try.ntmps37
  go_wp2_with fail
  refine (indexFunc_any B _ zs _ h0).mono ?_
  rintro e w' ⟨r, rfl, hr, rfl⟩
  go_wp2
  go_ret
  exact ⟨rfl, rfl⟩

theorem fresh0 (W : World) (x y : Value) (t : TypeId) (n : Nat) (hn : W.heap.size = n) : (W.alloc (.cells #[x, y] t)).drew.cell? ⟨n, 0, none⟩ = some x := by subst hn; go_simp
theorem fresh1 (W : World) (x y : Value) (t : TypeId) (n : Nat) (hn : W.heap.size = n) : (W.alloc (.cells #[x, y] t)).drew.cell? ⟨n, 0 + 1, none⟩ = some y := by subst hn; go_simp


def inW (v : Int) (n : Nat) : Bool := decide (0 ≤ v) && decide (v < (n : Int))
set_option maxHeartbeats 400000 in
theorem within_any (v : Int) (n : Nat) (w : World) (hn : n ≤ maxLen) :
    Calls Try.prog 32 #[.int .i64 v, .int .i64 n] w fun e w' => e = .returned (.bool (inW v n)) ∧ w' = w := by
  unfold maxLen at hn
  by_cases h1 : 0 ≤ v
  · by_cases h2 : v < (n : Int)
    · go_enter Try.func32, Try.ntmps32
      go_wp2
      go_ret
      exact ⟨ret_bool (by simp [inW, h1, h2]), rfl⟩
    · go_enter Try.func32, Try.ntmps32
      go_wp2
      go_ret
      exact ⟨ret_bool (by simp [inW]; omega), rfl⟩
  · go_enter Try.func32, Try.ntmps32
    go_wp2
    go_ret
    exact ⟨ret_bool (by simp [inW]; omega), rfl⟩

def cmpV (a b c d : Int) : Int := orI (cmpI a c) (cmpI b d)
def ltV (a b c d : Int) : Bool := decide (a < c) || (a == c && decide (b < d))
theorem cmpV_nonneg (a b c d : Int) : decide (0 ≤ cmpV a b c d) = !ltV a b c d := by
  unfold cmpV ltV orI cmpI
  by_cases h1 : a < c
  · simp [h1]
  · by_cases h2 : c < a
    · have : (a == c) = false := by simp; omega
      simp [h1, h2, this]
    · have : (a == c) = true := by simp; omega
      by_cases h3 : b < d
      · simp [h1, h2, this, h3]
      · by_cases h4 : d < b <;> simp [h1, h2, this, h3, h4]

set_option maxHeartbeats 1000000 in
theorem cmpVs_any (a b c d : Int) (w : World) :
    Calls Try.prog 40 #[.agg #[.int .i64 a, .int .i64 b], .agg #[.int .i64 c, .int .i64 d]] w fun e w' => e = .returned (.int .i64 (cmpV a b c d)) ∧ Nx w w' := by
  go_enter Try.func40, Try.ntmps40
  go_wp2_with fail
  go_region_held3 (fun w' => w'.cell? ⟨w.heap.size, 0, none⟩ = some (.int .i64 a) ∧ w'.cell? ⟨w.heap.size, 1, none⟩ = some (.int .i64 b) ∧ w'.cell? ⟨w.heap.size + 1, 0, none⟩ = some (.int .i64 c) ∧ w'.cell? ⟨w.heap.size + 1, 1, none⟩ = some (.int .i64 d)) (go_keep) (first | (go_at_call 43; refine (cmp_any _ _ _).mono ?_; rintro e w' ⟨rfl, rfl⟩) | (go_at_call 50; refine (or_any _ _ _ (cmpI a c) (cmpI b d) _ (by exact fresh0 _ _ _ _ _ (by simp)) (by exact fresh1 _ _ _ _ _ (by simp))).mono ?_; rintro e w' ⟨rfl, rfl⟩))
  all_goals go_wp2
  all_goals
    go_ret
    exact ⟨rfl, ((box2 _ _ _).alloc _).drew⟩

/-- a row of vertices -/
def HVs (B : Nat) (w : World) (v : Value) (n : Nat) (X Y : Nat → Int) : Prop :=
  HSlice B w v n fun b off i => w.cell? ⟨b, off + i * 2, none⟩ = some (.int .i64 (X i)) ∧ w.cell? ⟨b, off + i * 2 + 1, none⟩ = some (.int .i64 (Y i))
def ltVs (X Y : Nat → Int) (i j : Nat) : Bool := ltV (X i) (Y i) (X j) (Y j)

set_option maxHeartbeats 1000000 in
theorem ascVs_any (B : Nat) (v : Value) (n : Nat) (X Y : Nat → Int) (w : World) (h0 : HVs B w v n X Y) :
    Calls Try.prog 39 #[v, .func (.func 40) #[] #[]] w fun e w' => e = .returned (.bool (ascN n (ltVs X Y))) ∧ Nx w w' := by
  obtain ⟨a, cap, rfl, hn, hk⟩ := h0
  unfold maxLen at hn
  go_enter Try.func39, Try.ntmps39
  go_wp2
  go_loopw [5] (fun i wr => ∃ j : Nat, (j + 1 ≤ n ∨ j = 0) ∧ i = .int .i64 ((j : Int) + 1) ∧ Hid (allTo (ascAt (ltVs X Y)) (j + 1)) ∧ Nx w wr) (fun i _ => n - (intOf i).toNat)
  case atStart => exact ⟨0, Or.inr rfl, rfl, ascAt_one _, Nx.refl _⟩
  case round =>
    obtain ⟨j, hj, rfl, hrel, hnx⟩ := hrel
    have HN : Hid (Nx w wr) := hnx
    clear hnx
    by_cases hlt : j + 1 < n
    · obtain ⟨b, off, rfl, hB, hb, hc⟩ := hk (by omega)
      obtain ⟨a0, a1⟩ := hc j (by omega)
      obtain ⟨b0, b1⟩ := hc (j + 1) hlt
      have a0 := cell_next HN.out hb a0
      have a1 := cell_next HN.out hb a1
      have b0 := cell_next HN.out hb b0
      have b1 := cell_next HN.out hb b1
      have hlt' : (j : Int) + 1 < n := by omega
      have hlj : (j : Int) < n := by omega
      have hwj := wrapJ j (by omega)
      clear hc hk
      by_cases hab : ltVs X Y j (j + 1) = true
      · have hd : decide (0 ≤ cmpV (X j) (Y j) (X (j + 1)) (Y (j + 1))) = false := by rw [cmpV_nonneg]; simpa [ltVs] using hab
        have HT : Hid (ascAt (ltVs X Y) (j + 1) = true) := by unfold Hid; rw [ascAt_succ]; exact hab
        clear hab
        go_wp2
        go_region_with (go_at_call 40; refine (cmpVs_any (X j) (Y j) (X (j + 1)) (Y (j + 1)) _).mono ?_; rintro e w' ⟨rfl, hx⟩)
        all_goals go_wp2
        all_goals
          go_roundw
          case rel => exact ⟨j + 1, by omega, by go_num, allTo_succ hrel HT.out, HN.out.drew.trans hx⟩
          case measure => simp [intOf]; omega
      · have hd : decide (0 ≤ cmpV (X j) (Y j) (X (j + 1)) (Y (j + 1))) = true := by rw [cmpV_nonneg]; simpa [ltVs] using hab
        have HT : Hid (ascAt (ltVs X Y) (j + 1) = false) := by unfold Hid; rw [ascAt_succ]; simpa using hab
        clear hab
        go_wp2
        go_region_with (go_at_call 40; refine (cmpVs_any (X j) (Y j) (X (j + 1)) (Y (j + 1)) _).mono ?_; rintro e w' ⟨rfl, hx⟩)
        all_goals go_wp2
        all_goals
          go_ret
          exact ⟨ret_bool (by unfold ascN; rw [allN_no hlt HT.out]), HN.out.drew.trans hx⟩
    · have hge : (n : Int) ≤ (j : Int) + 1 := by omega
      go_wp2
      go_ret
      exact ⟨ret_bool (by unfold ascN; rw [allN_yes (by omega) hrel]), HN.out⟩

/-- never descends -/
def leI (zs : List Int) (i : Nat) : Bool := decide (iat zs i ≤ iat zs (i + 1))
/-- from k on -/
def fromTo (p : Nat → Bool) (k n : Nat) : Prop := ∀ i, k ≤ i → i < n → p i = true

set_option maxHeartbeats 1000000 in
theorem isSorted_any (B : Nat) (v : Value) (zs : List Int) (m : Nat) (w : World) (h0 : HInts B w v zs) (hz0 : zs.length = m + 1) :
    Calls Try.prog 41 #[v] w fun e w' => e = .returned (.bool (allN m (leI zs))) ∧ Nx w w' := by
  obtain ⟨a, cap, rfl, hn, hk⟩ := h0
  unfold maxLen at hn
  rw [hz0] at *
  clear hz0
  have hmm : ((m + 1 : Nat) : Int) - 1 = m := by omega
  have hwm := wrapJ m (by omega)
  go_enter Try.func41, Try.ntmps41
  go_wp2
  go_loopw [3] (fun i wr => ∃ j : Nat, j ≤ m ∧ i = .int .i64 j ∧ Hid (fromTo (leI zs) j m) ∧ Hid (Nx w wr)) (fun i _ => (intOf i).toNat)
  case atStart => exact ⟨m, Nat.le_refl _, by go_num, fun i h1 h2 => absurd h2 (by omega), Nx.refl _⟩
  case round =>
    obtain ⟨j, hj, rfl, hrel, HN⟩ := hrel
    cases j with
    | zero =>
      go_wp2
      go_ret
      exact ⟨ret_bool (allN_yes (Nat.le_refl _) (fun i hi => hrel.out i (Nat.zero_le _) hi)).symm, HN.out⟩
    | succ j =>
      obtain ⟨b, off, rfl, hB, hb, hc⟩ := hk (by omega)
      have c1 := cell_next HN.out hb (hc (j + 1) (by omega))
      have c0 := cell_next HN.out hb (hc j (by omega))
      have hp : (0 : Int) < ((j + 1 : Nat) : Int) := by omega
      have hl1 : ((j + 1 : Nat) : Int) < ((m + 1 : Nat) : Int) := by omega
      have hl0 : (j : Int) < ((m + 1 : Nat) : Int) := by omega
      have hs : ((j + 1 : Nat) : Int) - 1 = j := by omega
      have hwj := wrapJ j (by omega)
      clear hc hk
      by_cases hab : iat zs (j + 1) < iat zs j
      · have hd : decide (iat zs (j + 1) < iat zs j) = true := by simp [hab]
        have HT : Hid (leI zs j = false) := by unfold Hid leI; simp; omega
        go_wp2
        go_region_with (go_at_call 51; refine (less_any _ _ _).mono ?_; rintro e w' ⟨rfl, rfl⟩)
        all_goals go_wp2
        all_goals
          go_ret
          exact ⟨ret_bool (allN_no (by omega) HT.out).symm, HN.out.drew⟩
      · have hd : decide (iat zs (j + 1) < iat zs j) = false := by simp; omega
        have HT : Hid (leI zs j = true) := by unfold Hid leI; simp; omega
        clear hab
        go_wp2
        go_region_with (go_at_call 51; refine (less_any _ _ _).mono ?_; rintro e w' ⟨rfl, rfl⟩)
        all_goals go_wp2
        all_goals
          go_roundw
          case rel => exact ⟨j, by omega, by go_num, fun i h1 h2 => by
                        by_cases e : i = j
                        · subst e; exact HT.out
                        · exact hrel.out i (by omega) h2, HN.out.drew⟩
          case measure => simp [intOf]
end Go.Proofs.Ytdjmlpgdaanipaa
