import Derived.Test.YtcdjmpbdaiafgaaGreatDoorImD
import Derived.Test.YtcdjmpbdaiafgaaGreatDoorImE
import Derived.Deep.RegionHeld3
import Derived.Test.YtcdjmpbdaiafgaaGreatDoorSpB
import Derived.Test.YtcdjmpbdaiafgaaGreatDoorToA
namespace Go.Proofs.YtcdjmpbdaiafgaaGreatDoor
open Go.RowKit
set_option linter.unusedVariables false

theorem box4_0 (w : World) (a b c d : Value) (t : TypeId) : (w.alloc (.cells #[a, b, c, d] t)).cell? ⟨w.heap.size, 0, none⟩ = some a := by go_simp
theorem box4_1 (w : World) (a b c d : Value) (t : TypeId) : (w.alloc (.cells #[a, b, c, d] t)).cell? ⟨w.heap.size, 1, none⟩ = some b := by go_simp
theorem box4_2 (w : World) (a b c d : Value) (t : TypeId) : (w.alloc (.cells #[a, b, c, d] t)).cell? ⟨w.heap.size, 2, none⟩ = some c := by go_simp
theorem box4_3 (w : World) (a b c d : Value) (t : TypeId) : (w.alloc (.cells #[a, b, c, d] t)).cell? ⟨w.heap.size, 3, none⟩ = some d := by go_simp
theorem size_box (w : World) (o : Obj) : w.heap.size < (w.alloc o).heap.size := by simp

set_option maxHeartbeats 2000000 in
theorem binSearchFunc_any (B : Nat) (v : Value) (zs : List Wy) (t : Int) (tb : Bool) (tn tw : Value) (w : World) (h0 : HWays B w v zs) (ha : ascW zs = true) :
    Calls Tryz.prog 118 #[v, .agg #[.int .i64 t, .bool tb, tn, tw], .func (.func 95) #[] #[]] w fun e w' => (∃ r : Int, e = .returned (.tuple #[.int .i64 r, .bool (hasW zs t)])) ∧ Nx w w' := by
  have hm : Hid (∀ i j, i < j → j < zs.length → (wat zs i).id < (wat zs j).id) := asc_mono (f := fun i => (wat zs i).id) (fun i j => rfl) ha
  clear ha
  obtain ⟨a, cap, rfl, hn, hk⟩ := h0
  unfold maxLen at hn
  generalize hz : zs.length = n at *
  have HZ : Hid (zs.length = n) := hz
  clear hz
  go_enter Tryz.func118, Tryz.ntmps118
  go_wp2
  go_loopw [9, 10, 11] (fun i j h wr => ∃ lo hi : Nat, lo ≤ hi ∧ hi ≤ n ∧ i = .int .i64 lo ∧ j = .int .i64 hi ∧ Hid (Mid (fun i => (wat zs i).id) n t lo hi) ∧ Hid (Nx (w.alloc (.cells #[.int .i64 t, .bool tb, tn, tw] 90)) wr)) (fun i j _ _ => (intOf j).toNat - (intOf i).toNat)
  case atStart => exact ⟨0, n, Nat.zero_le _, Nat.le_refl _, rfl, rfl, mid_start _ _ _, Nx.refl _⟩
  case round =>
    obtain ⟨lo, hi, h1, h2, rfl, rfl, hrel, HN⟩ := hrel
    have x0 := cell_next HN.out (size_box _ _) (box4_0 w (.int .i64 t) (.bool tb) tn tw 90)
    have x1 := cell_next HN.out (size_box _ _) (box4_1 w (.int .i64 t) (.bool tb) tn tw 90)
    have x2 := cell_next HN.out (size_box _ _) (box4_2 w (.int .i64 t) (.bool tb) tn tw 90)
    have x3 := cell_next HN.out (size_box _ _) (box4_3 w (.int .i64 t) (.bool tb) tn tw 90)
    have HNW : Hid (Nx w wr) := (box1 w _).trans HN.out
    have hwr : w.heap.size < wr.heap.size := Nat.lt_of_lt_of_le (size_box w _) HN.out.size
    by_cases hlt : lo < hi
    · obtain ⟨b, off, rfl, hB, hb, hc⟩ := hk (by omega)
      obtain ⟨h, hh, hh1, hh2⟩ := halve lo hi hlt (by omega)
      obtain ⟨p1, p2, a0, a1, a2, a3, _⟩ := hc h (by omega)
      have hbr : b < wr.heap.size := Nat.lt_of_lt_of_le hb HNW.out.size
      have a0 := cell_next HNW.out hb a0
      have a1 := cell_next HNW.out hb a1
      have a2 := cell_next HNW.out hb a2
      have a3 := cell_next HNW.out hb a3
      have hhn : (h : Int) < n := by omega
      clear hc hk
      by_cases hab : (wat zs h).id < t
      · have HM : Hid (Mid (fun i => (wat zs i).id) n t (h + 1) hi) := mid_up hm.out hrel.out hh2 hab hh1
        have hd : decide (cmpI (wat zs h).id t < 0) = true := by rw [cmpI_neg]; simp [hab]
        go_wp2
        go_region_held3 (fun w' => w'.cell? ⟨b, off + h * 4, none⟩ = some (.int .i64 (wat zs h).id) ∧ w'.cell? ⟨b, off + h * 4 + 1, none⟩ = some (.bool (wat zs h).both) ∧ w'.cell? ⟨b, off + h * 4 + 2, none⟩ = some p1 ∧ w'.cell? ⟨b, off + h * 4 + 3, none⟩ = some p2 ∧ w'.cell? ⟨w.heap.size, 0, none⟩ = some (.int .i64 t) ∧ w'.cell? ⟨w.heap.size, 1, none⟩ = some (.bool tb) ∧ w'.cell? ⟨w.heap.size, 2, none⟩ = some tn ∧ w'.cell? ⟨w.heap.size, 3, none⟩ = some tw) (first | go_keep | exact ⟨cell_next hx hbr a0, cell_next hx hbr a1, cell_next hx hbr a2, cell_next hx hbr a3, cell_next hx hwr x0, cell_next hx hwr x1, cell_next hx hwr x2, cell_next hx hwr x3⟩) (first | (go_at_call 95; refine (cmpWays_any _ _ _ _ _ _ _ _ _).mono ?_; rintro e w' ⟨rfl, hx⟩))
        all_goals go_wp2
        all_goals
          go_roundw
          case rel => exact ⟨h + 1, hi, by omega, by omega, by go_num, rfl, HM, HN.out.drew.trans hx⟩
          case measure => simp [intOf]; omega
      · have HM : Hid (Mid (fun i => (wat zs i).id) n t lo h) := mid_down hm.out hrel.out hh2 hab hh1
        have hd : decide (cmpI (wat zs h).id t < 0) = false := by rw [cmpI_neg]; simp [hab]
        go_wp2
        go_region_held3 (fun w' => w'.cell? ⟨b, off + h * 4, none⟩ = some (.int .i64 (wat zs h).id) ∧ w'.cell? ⟨b, off + h * 4 + 1, none⟩ = some (.bool (wat zs h).both) ∧ w'.cell? ⟨b, off + h * 4 + 2, none⟩ = some p1 ∧ w'.cell? ⟨b, off + h * 4 + 3, none⟩ = some p2 ∧ w'.cell? ⟨w.heap.size, 0, none⟩ = some (.int .i64 t) ∧ w'.cell? ⟨w.heap.size, 1, none⟩ = some (.bool tb) ∧ w'.cell? ⟨w.heap.size, 2, none⟩ = some tn ∧ w'.cell? ⟨w.heap.size, 3, none⟩ = some tw) (first | go_keep | exact ⟨cell_next hx hbr a0, cell_next hx hbr a1, cell_next hx hbr a2, cell_next hx hbr a3, cell_next hx hwr x0, cell_next hx hwr x1, cell_next hx hwr x2, cell_next hx hwr x3⟩) (first | (go_at_call 95; refine (cmpWays_any _ _ _ _ _ _ _ _ _).mono ?_; rintro e w' ⟨rfl, hx⟩))
        all_goals go_wp2
        all_goals
          go_roundw
          case rel => exact ⟨lo, h, by omega, by omega, rfl, rfl, HM, HN.out.drew.trans hx⟩
          case measure => simp [intOf]; omega
    · have e : hi = lo := by omega
      subst e
      have HF : Hid (hasW zs t = (decide (hi < n) && ((wat zs hi).id == t))) := by have z := HZ.out; subst z; exact hasW_mid hm.out hrel.out
      by_cases hl : hi < n
      · obtain ⟨b, off, rfl, hB, hb, hc⟩ := hk (by omega)
        obtain ⟨p1, p2, a0, a1, a2, a3, _⟩ := hc hi hl
        have hbr : b < wr.heap.size := Nat.lt_of_lt_of_le hb HNW.out.size
        have a0 := cell_next HNW.out hb a0
        have a1 := cell_next HNW.out hb a1
        have a2 := cell_next HNW.out hb a2
        have a3 := cell_next HNW.out hb a3
        have hln : (hi : Int) < n := by omega
        have hld : decide ((hi : Int) < n) = true := by simpa using hl
        clear hc hk
        by_cases he : (wat zs hi).id = t
        · have hd : (cmpI (wat zs hi).id t == 0) = true := by rw [cmpI_zero]; simpa using he
          have HF' : Hid (hasW zs t = true) := by unfold Hid; rw [HF.out]; simp [hl, he]
          have HE : Hid ((wat zs hi).id = t) := he
          clear he
          go_wp2
          go_region_held3 (fun w' => w'.cell? ⟨b, off + hi * 4, none⟩ = some (.int .i64 (wat zs hi).id) ∧ w'.cell? ⟨b, off + hi * 4 + 1, none⟩ = some (.bool (wat zs hi).both) ∧ w'.cell? ⟨b, off + hi * 4 + 2, none⟩ = some p1 ∧ w'.cell? ⟨b, off + hi * 4 + 3, none⟩ = some p2 ∧ w'.cell? ⟨w.heap.size, 0, none⟩ = some (.int .i64 t) ∧ w'.cell? ⟨w.heap.size, 1, none⟩ = some (.bool tb) ∧ w'.cell? ⟨w.heap.size, 2, none⟩ = some tn ∧ w'.cell? ⟨w.heap.size, 3, none⟩ = some tw) (first | go_keep | exact ⟨cell_next hx hbr a0, cell_next hx hbr a1, cell_next hx hbr a2, cell_next hx hbr a3, cell_next hx hwr x0, cell_next hx hwr x1, cell_next hx hwr x2, cell_next hx hwr x3⟩) (first | (go_at_call 95; refine (cmpWays_any _ _ _ _ _ _ _ _ _).mono ?_; rintro e w' ⟨rfl, hx⟩))
          all_goals go_wp2
          all_goals
            go_ret2
            exact ⟨⟨_, ret_ib HF'.out.symm⟩, HNW.out.drew.trans hx⟩
        · have hd : (cmpI (wat zs hi).id t == 0) = false := by rw [cmpI_zero]; simpa using he
          have HF' : Hid (hasW zs t = false) := by unfold Hid; rw [HF.out]; simp [he]
          clear he
          go_wp2
          go_region_held3 (fun w' => w'.cell? ⟨b, off + hi * 4, none⟩ = some (.int .i64 (wat zs hi).id) ∧ w'.cell? ⟨b, off + hi * 4 + 1, none⟩ = some (.bool (wat zs hi).both) ∧ w'.cell? ⟨b, off + hi * 4 + 2, none⟩ = some p1 ∧ w'.cell? ⟨b, off + hi * 4 + 3, none⟩ = some p2 ∧ w'.cell? ⟨w.heap.size, 0, none⟩ = some (.int .i64 t) ∧ w'.cell? ⟨w.heap.size, 1, none⟩ = some (.bool tb) ∧ w'.cell? ⟨w.heap.size, 2, none⟩ = some tn ∧ w'.cell? ⟨w.heap.size, 3, none⟩ = some tw) (first | go_keep | exact ⟨cell_next hx hbr a0, cell_next hx hbr a1, cell_next hx hbr a2, cell_next hx hbr a3, cell_next hx hwr x0, cell_next hx hwr x1, cell_next hx hwr x2, cell_next hx hwr x3⟩) (first | (go_at_call 95; refine (cmpWays_any _ _ _ _ _ _ _ _ _).mono ?_; rintro e w' ⟨rfl, hx⟩))
          all_goals go_wp2
          all_goals
            go_ret2
            exact ⟨⟨_, ret_ib HF'.out.symm⟩, HNW.out.drew.trans hx⟩
      · have HF' : Hid (hasW zs t = false) := by unfold Hid; rw [HF.out]; simp [hl]
        have hd : decide ((hi : Int) < n) = false := by simp; omega
        go_wp2
        go_quiet (fail)
        all_goals go_wp2
        all_goals
          go_ret2
          exact ⟨⟨_, ret_ib HF'.out.symm⟩, HNW.out.trans ⟨rfl, rfl, rfl, Nat.le_refl _, fun _ _ => rfl⟩⟩

set_option maxHeartbeats 400000 in
theorem hasWay_any (B : Nat) (v0 v1 v2 v3 : Value) (u id : Int) (zs : List Wy) (w : World) (h0 : HWays B w v1 zs) (ha : ascW zs = true) :
    Calls Tryz.prog 99 #[.agg #[v0, v1, v2, v3, .int .i64 u], .int .i64 id] w fun e w' => e = .returned (.bool (hasW zs id)) ∧ Nx w w' := by
  have HA : Hid (ascW zs = true) := ha
  clear ha
  go_enter Tryz.func99, Tryz.ntmps99
  go_wp2_with (go_at_call 118; refine (binSearchFunc_any B _ zs _ _ _ _ _ (by exact h0.keep ((box1 _ _).keeps B)) HA.out).mono ?_; rintro e w' ⟨⟨r, rfl⟩, hx⟩)
  go_ret
  exact ⟨rfl, (box1 _ _).trans hx⟩
end Go.Proofs.YtcdjmpbdaiafgaaGreatDoor

namespace Go.Proofs.YtcdjmpbdaiafgaaGreatDoor
open Go.RowKit
set_option linter.unusedVariables false

def edTo (xs : List Wy) : Nat → Nat
  | 0 => 0
  | k + 1 => edTo xs k + edgeN (wat xs k)
theorem edTo_le (xs : List Wy) (k : Nat) : edTo xs k ≤ 2 * wsum xs k := by
  induction k with
  | zero => simp [edTo]
  | succ k ih => simp only [edTo, wsum, edgeN]; split <;> omega
theorem wsum_mono (xs : List Wy) {j k : Nat} (h : j ≤ k) : wsum xs j ≤ wsum xs k := by
  induction k with
  | zero => simp at h; subst h; exact Nat.le_refl _
  | succ k ih =>
    rcases Nat.lt_succ_iff_lt_or_eq.1 (Nat.lt_succ_of_le h) with h1 | rfl
    · have := ih (by omega); simp only [wsum]; omega
    · exact Nat.le_refl _

set_option maxHeartbeats 1000000 in
theorem countEdges_any (B : Nat) (v0 v1 v2 v3 : Value) (u : Int) (zs : List Wy) (w : World) (h0 : HWays B w v1 zs) (hs : wsum zs zs.length ≤ 1048576) :
    Calls Tryz.prog 88 #[.agg #[v0, v1, v2, v3, .int .i64 u]] w fun e w' => e = .returned (.int .i64 (edTo zs zs.length : Nat)) ∧ Nx w w' := by
  obtain ⟨a, cap, rfl, hn, hk⟩ := h0
  unfold maxLen at hn
  have HS : Hid (∀ k, k ≤ zs.length → edTo zs k ≤ 2097152) := fun k hk => by have := edTo_le zs k; have := wsum_mono zs hk; omega
  clear hs
  generalize hz : zs.length = n at *
  have HZ : Hid (zs.length = n) := hz
  clear hz
  go_enter Tryz.func88, Tryz.ntmps88
  go_wp2
  go_loopw [3, 5, 9] (fun e p i wr => ∃ k : Nat, k ≤ n ∧ i = .int .i64 k ∧ e = .int .i64 (edTo zs k : Nat) ∧ Hid (Nx w wr)) (fun _ _ i _ => n - (intOf i).toNat)
  case atStart => exact ⟨0, Nat.zero_le _, rfl, rfl, box1 _ _⟩
  case round =>
    obtain ⟨k, hkn, rfl, rfl, HN⟩ := hrel
    by_cases hlt : k < n
    · obtain ⟨b, off, rfl, hB, hb, hc⟩ := hk (by omega)
      obtain ⟨p1, p2, a0, a1, a2, a3, n1, n2⟩ := hc k hlt
      obtain ⟨an, cn, rfl, _, _⟩ := n1
      obtain ⟨aw, cw, rfl, hnw, _⟩ := n2
      have a0 := cell_next HN.out hb a0
      have a1 := cell_next HN.out hb a1
      have a2 := cell_next HN.out hb a2
      have a3 := cell_next HN.out hb a3
      have hlt' : (k : Int) < n := by omega
      have e1 := HS.out k hkn
      have e2 := HS.out (k + 1) (by omega)
      simp only [edTo, edgeN] at e2
      have HE : Hid (edTo zs (k + 1) = edTo zs k + (if (wat zs k).both then 2 * (wat zs k).weights.length else (wat zs k).weights.length)) := rfl
      generalize edTo zs k = ek at *
      generalize (wat zs k).weights.length = lw at *
      clear hc hk
      cases hbo : (wat zs k).both
      · rw [hbo] at e2 HE a1
        simp only [Bool.false_eq_true, if_false] at e2
        clear hbo
        go_wp2
        go_roundw
        case rel => exact ⟨k + 1, by omega, by go_num, by rw [HE.out]; go_num, HN.out.alloc _⟩
        case measure => simp [intOf]; omega
      · rw [hbo] at e2 HE a1
        simp only [if_true] at e2
        clear hbo
        go_wp2
        go_roundw
        case rel => exact ⟨k + 1, by omega, by go_num, by rw [HE.out]; simp only [if_true]; congr 1; omega, HN.out.alloc _⟩
        case measure => simp [intOf]; omega
    · have e : k = n := by omega
      subst e
      go_wp2
      go_ret
      exact ⟨rfl, HN.out⟩
end Go.Proofs.YtcdjmpbdaiafgaaGreatDoor
