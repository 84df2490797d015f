import Derived.Test.YtifefpeefcjabaaAX
import Derived.Test.YtifefpeefcjabaaAJ
namespace Go.Proofs.Ytifefpeefcjabaa
open Go.RowKit
set_option linter.unusedVariables false
set_option maxRecDepth 100000

def cmpI (x y : Int) : Int := if x < y then -1 else if y < x then 1 else 0
theorem cmpI_lt {x y : Int} (h : x < y) : -1 = cmpI x y := by simp [cmpI, h]
theorem cmpI_gt {x y : Int} (h : y < x) : 1 = cmpI x y := by unfold cmpI; rw [if_neg (by omega), if_pos h]
theorem cmpI_eq {x y : Int} (h : ¬ x < y) (h' : ¬ y < x) : 0 = cmpI x y := by unfold cmpI; rw [if_neg h, if_neg h']

theorem cmpNaN_any (v : Int) (w : World) :
    Calls Try.prog 82 #[.int .i64 v] w fun e w' => e = .returned (.bool false) ∧ w' = w := by
  go_enter Try.func82, Try.ntmps82
  go_wp2
  go_ret
  exact ⟨rfl, rfl⟩

set_option maxHeartbeats 400000 in
theorem cmp_any (x y : Int) (w : World) :
    Calls Try.prog 77 #[.int .i64 x, .int .i64 y] w fun e w' => e = .returned (.int .i64 (cmpI x y)) ∧ w' = w := by
  by_cases h1 : x < y
  · go_enter Try.func77, Try.ntmps77
    go_wp2_with (go_at_call 82; refine (cmpNaN_any _ _).mono ?_; rintro e w' ⟨rfl, rfl⟩)
    go_ret
    exact ⟨ret_int (cmpI_lt h1), rfl⟩
  · by_cases h2 : y < x
    · go_enter Try.func77, Try.ntmps77
      go_wp2_with (go_at_call 82; refine (cmpNaN_any _ _).mono ?_; rintro e w' ⟨rfl, rfl⟩)
      go_ret
      exact ⟨ret_int (cmpI_gt h2), rfl⟩
    · go_enter Try.func77, Try.ntmps77
      go_wp2_with (go_at_call 82; refine (cmpNaN_any _ _).mono ?_; rintro e w' ⟨rfl, rfl⟩)
      go_ret
      exact ⟨ret_int (cmpI_eq (by omega) (by omega)), rfl⟩

theorem cmpI_nonneg (a b : Int) : decide (0 ≤ cmpI a b) = !decide (a < b) := by
  unfold cmpI; by_cases h : a < b
  · simp [h]
  · by_cases h' : b < a <;> simp [h, h']
def orI (a b : Int) : Int := if a = 0 then b else a

set_option maxHeartbeats 800000 in
theorem or_any (b off c : Nat) (x y : Int) (w : World) (h0 : w.cell? ⟨b, off, none⟩ = some (.int .i64 x)) (h1 : w.cell? ⟨b, off + 1, none⟩ = some (.int .i64 y)) :
    Calls Try.prog 76 #[.slice (some ⟨b, off, none⟩) 2 c] w fun e w' => e = .returned (.int .i64 (orI x y)) ∧ w' = w := by
  go_enter Try.func76, Try.ntmps76
  go_wp2
  go_loop [8] (fun i => (i = .int .i64 0) ∨ (i = .int .i64 1 ∧ Hid (x = 0)) ∨ (i = .int .i64 2 ∧ Hid (x = 0 ∧ y = 0))) (fun i => 2 - (intOf i).toNat)
  case atStart => exact Or.inl rfl
  case round =>
    rcases hrel with rfl | ⟨rfl, hx⟩ | ⟨rfl, hx⟩
    · by_cases hx : x = 0
      · have hd : (x != 0) = false := by simp [hx]
        have HX : Hid (x = 0) := hx
        clear hx
        go_wp2
        go_round
        case rel => exact Or.inr (Or.inl ⟨rfl, HX⟩)
        case measure => simp [intOf]
      · have hd : (x != 0) = true := by simp [hx]
        go_wp2
        go_ret
        exact ⟨ret_int (by simp [orI, hx]), rfl⟩
    · by_cases hy : y = 0
      · have hd : (y != 0) = false := by simp [hy]
        have HY : Hid (x = 0 ∧ y = 0) := ⟨hx.out, hy⟩
        clear hy
        go_wp2
        go_round
        case rel => exact Or.inr (Or.inr ⟨rfl, HY⟩)
        case measure => simp [intOf]
      · have hd : (y != 0) = true := by simp [hy]
        go_wp2
        go_ret
        exact ⟨ret_int (by simp [orI, hx.out]), rfl⟩
    · go_wp2
      go_ret
      exact ⟨ret_int (by simp [orI, hx.out.1, hx.out.2]), rfl⟩

def noE (e : Int) : Bool := decide (e < 0 ∨ 4000 ≤ e)
set_option maxHeartbeats 400000 in
theorem noEdge_any (e : Int) (w : World) : Calls Try.prog 66 #[.int .i64 e] w fun r w' => r = .returned (.bool (noE e)) ∧ w' = w := by
  by_cases h1 : e < 0
  · have f1 : decide (e < 0) = true := by simpa using h1
    have HF : Hid (true = noE e) := by unfold Hid noE; simp; omega
    go_enter Try.func66, Try.ntmps66
    go_wp2
    go_ret
    exact ⟨ret_bool HF.out, rfl⟩
  · have f1 : decide (e < 0) = false := by simpa using h1
    by_cases h2 : 4000 ≤ e
    · have f2 : decide (4000 ≤ e) = true := by simpa using h2
      have HF : Hid (true = noE e) := by unfold Hid noE; simp; omega
      go_enter Try.func66, Try.ntmps66
      go_wp2
      go_ret
      exact ⟨ret_bool HF.out, rfl⟩
    · have f2 : decide (4000 ≤ e) = false := by simpa using h2
      have HF : Hid (false = noE e) := by unfold Hid noE; simp; omega
      go_enter Try.func66, Try.ntmps66
      go_wp2
      go_ret
      exact ⟨ret_bool HF.out, rfl⟩
def muB (m : Int) : Bool := decide (-2 ≤ m) && decide (m < 4000)
set_option maxHeartbeats 400000 in
theorem validMust_any (m : Int) (w : World) : Calls Try.prog 75 #[.int .i64 m] w fun r w' => r = .returned (.bool (muB m)) ∧ w' = w := by
  by_cases h1 : m = -1
  · have f1 : (m == -1) = true := by simpa using h1
    have HF : Hid (true = muB m) := by unfold Hid muB; simp; omega
    clear h1
    go_enter Try.func75, Try.ntmps75
    go_wp2
    go_ret
    exact ⟨ret_bool HF.out, rfl⟩
  · have f1 : (m == -1) = false := by simpa using h1
    by_cases h2 : m = -2
    · have f2 : (m == -2) = true := by simpa using h2
      have HF : Hid (true = muB m) := by unfold Hid muB; simp; omega
      clear h1 h2
      go_enter Try.func75, Try.ntmps75
      go_wp2
      go_ret
      exact ⟨ret_bool HF.out, rfl⟩
    · have f2 : (m == -2) = false := by simpa using h2
      have HF : Hid ((!noE m) = muB m) := by unfold Hid muB noE; rw [Bool.eq_iff_iff]; simp; omega
      clear h1 h2
      go_enter Try.func75, Try.ntmps75
      go_wp2_with (go_at_call 66; refine (noEdge_any _ _).mono ?_; rintro e w' ⟨rfl, rfl⟩)
      go_ret
      exact ⟨ret_bool HF.out, rfl⟩
/-- what validLists asks -/
def vlAt (A : Au) (s : Nat) : Bool := if s = 0 then (iat A.pa 0 == -1) && ((iat A.la 0 == -1) && ((iat A.mu 0 == -1) && !bat A.bd 0)) else okR A s && (muB (iat A.mu s) && pairAsc A s)
def vlI (A : Au) : Bool := lensOk A && allN A.pa.length (vlAt A)
theorem vl_len {A : Au} (h : lensOk A = false) : false = vlI A := by simp [vlI, h]
theorem vl_at {A : Au} {k n : Nat} (hn : A.pa.length = n) (hk : k < n) (h : vlAt A k = false) : false = vlI A := by subst hn; simp [vlI, allN_no hk h]
theorem or_asc (p q a b : Int) : decide (0 ≤ orI (cmpI p q) (cmpI a b)) = !(decide (p < q) || (decide (p = q) && decide (a < b))) := by
  unfold orI cmpI
  rw [Bool.eq_iff_iff]
  by_cases h1 : p < q
  · simp [h1]
  · by_cases h2 : q < p
    · simp [h1, h2]; omega
    · have : p = q := by omega
      subst this
      by_cases h3 : a < b
      · simp [h3]
      · by_cases h4 : b < a <;> simp [h3, h4]
theorem vl_valid (A : Au) : validI A = (vlI A && (allN A.pa.length (fun s => decide ((Wd A s).length ≤ 402)) && allN A.pa.length (faI A A.pa.length))) := by
  unfold validI vlI
  cases hl : lensOk A with
  | false => rfl
  | true =>
    have hn : 1 ≤ A.pa.length := by
      unfold lensOk at hl
      simp only [Bool.and_eq_true, decide_eq_true_eq] at hl
      exact hl.1
    simp only [Bool.true_and]
    have e1 : (allN A.pa.length (okI A) && (allN A.pa.length (muI A) && allN A.pa.length (faI A A.pa.length))) = allN A.pa.length (fun s => okI A s && (muI A s && faI A A.pa.length s)) := by rw [allN_and, allN_and]
    have e2 : (allN A.pa.length (vlAt A) && (allN A.pa.length (fun s => decide ((Wd A s).length ≤ 402)) && allN A.pa.length (faI A A.pa.length))) = allN A.pa.length (fun s => vlAt A s && (decide ((Wd A s).length ≤ 402) && faI A A.pa.length s)) := by rw [allN_and, allN_and]
    rw [e1, e2]
    refine allN_congr fun s hs => ?_
    generalize faI A A.pa.length s = f
    unfold okI muI vlAt muB
    by_cases e : s = 0
    · subst e
      simp only [if_true, Wd_zero]
      cases (iat A.pa 0 == -1) <;> cases (iat A.la 0 == -1) <;> cases (iat A.mu 0 == -1) <;> cases bat A.bd 0 <;> cases f <;> rfl
    · simp only [if_neg e]
      cases okR A s <;> cases decide ((Wd A s).length ≤ 402) <;> cases pairAsc A s <;> cases decide (-2 ≤ iat A.mu s) <;> cases decide (iat A.mu s < 4000) <;> cases f <;> rfl
end Go.Proofs.Ytifefpeefcjabaa
