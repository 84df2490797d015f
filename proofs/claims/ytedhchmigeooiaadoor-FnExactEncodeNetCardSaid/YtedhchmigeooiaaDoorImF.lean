import Derived.Test.YtedhchmigeooiaaDoorImD
import Derived.Test.YtedhchmigeooiaaDoorImE
import Derived.Deep.RegionHeld3
namespace Go.Proofs.YtedhchmigeooiaaDoor
open Go.RowKit
set_option linter.unusedVariables false

theorem box4_0 (w : World) (a b c d : Value) (t : TypeId) : (w.alloc (.cells #[a, b, c, d] t)).cell? ⟨w.heap.size, 0, none⟩ = some a := by go_simp
theorem box4_1 (w : World) (a b c d : Value) (t : TypeId) : (w.alloc (.cells #[a, b, c, d] t)).cell? ⟨w.heap.size, 1, none⟩ = some b := by go_simp
theorem box4_2 (w : World) (a b c d : Value) (t : TypeId) : (w.alloc (.cells #[a, b, c, d] t)).cell? ⟨w.heap.size, 2, none⟩ = some c := by go_simp
theorem box4_3 (w : World) (a b c d : Value) (t : TypeId) : (w.alloc (.cells #[a, b, c, d] t)).cell? ⟨w.heap.size, 3, none⟩ = some d := by go_simp
theorem size_box (w : World) (o : Obj) : w.heap.size < (w.alloc o).heap.size := by simp

set_option maxHeartbeats 2000000 in
theorem binSearchFunc_any (B : Nat) (v : Value) (zs : List Wy) (t : Int) (tb : Bool) (tn tw : Value) (w : World) (h0 : HWays B w v zs) (ha : ascW zs = true) :
    Calls Tryd.prog 76 #[v, .agg #[.int .i64 t, .bool tb, tn, tw], .func (.func 65) #[] #[]] w fun e w' => (∃ r : Int, e = .returned (.tuple #[.int .i64 r, .bool (hasW zs t)])) ∧ Nx w w' := by
  have hm : Hid (∀ i j, i < j → j < zs.length → (wat zs i).id < (wat zs j).id) := asc_mono (f := fun i => (wat zs i).id) (fun i j => rfl) ha
  clear ha
  obtain ⟨a, cap, rfl, hn, hk⟩ := h0
  unfold maxLen at hn
  generalize hz : zs.length = n at *
  have HZ : Hid (zs.length = n) := hz
  clear hz
  go_enter Tryd.func76, Tryd.ntmps76
  go_wp2
  go_loopw [9, 10, 11] (fun i j h wr => ∃ lo hi : Nat, lo ≤ hi ∧ hi ≤ n ∧ i = .int .i64 lo ∧ j = .int .i64 hi ∧ Hid (Mid (fun i => (wat zs i).id) n t lo hi) ∧ Hid (Nx (w.alloc (.cells #[.int .i64 t, .bool tb, tn, tw] 50)) wr)) (fun i j _ _ => (intOf j).toNat - (intOf i).toNat)
  case atStart => exact ⟨0, n, Nat.zero_le _, Nat.le_refl _, rfl, rfl, mid_start _ _ _, Nx.refl _⟩
  case round =>
    obtain ⟨lo, hi, h1, h2, rfl, rfl, hrel, HN⟩ := hrel
    have x0 := cell_next HN.out (size_box _ _) (box4_0 w (.int .i64 t) (.bool tb) tn tw 50)
    have x1 := cell_next HN.out (size_box _ _) (box4_1 w (.int .i64 t) (.bool tb) tn tw 50)
    have x2 := cell_next HN.out (size_box _ _) (box4_2 w (.int .i64 t) (.bool tb) tn tw 50)
    have x3 := cell_next HN.out (size_box _ _) (box4_3 w (.int .i64 t) (.bool tb) tn tw 50)
    have HNW : Hid (Nx w wr) := (box1 w _).trans HN.out
    have hwr : w.heap.size < wr.heap.size := Nat.lt_of_lt_of_le (size_box w _) HN.out.size
    by_cases hlt : lo < hi
    · obtain ⟨b, off, rfl, hB, hb, hc⟩ := hk (by omega)
      obtain ⟨h, hh, hh1, hh2⟩ := halve lo hi hlt (by omega)
      obtain ⟨p1, p2, a0, a1, a2, a3, _⟩ := hc h (by omega)
      have hbr : b < wr.heap.size := Nat.lt_of_lt_of_le hb HNW.out.size
      have a0 := cell_next HNW.out hb a0
      have a1 := cell_next HNW.out hb a1
      have a2 := cell_next HNW.out hb a2
      have a3 := cell_next HNW.out hb a3
      have hhn : (h : Int) < n := by omega
      clear hc hk
      by_cases hab : (wat zs h).id < t
      · have HM : Hid (Mid (fun i => (wat zs i).id) n t (h + 1) hi) := mid_up hm.out hrel.out hh2 hab hh1
        have hd : decide (cmpI (wat zs h).id t < 0) = true := by rw [cmpI_neg]; simp [hab]
        go_wp2
        go_region_held3 (fun w' => w'.cell? ⟨b, off + h * 4, none⟩ = some (.int .i64 (wat zs h).id) ∧ w'.cell? ⟨b, off + h * 4 + 1, none⟩ = some (.bool (wat zs h).both) ∧ w'.cell? ⟨b, off + h * 4 + 2, none⟩ = some p1 ∧ w'.cell? ⟨b, off + h * 4 + 3, none⟩ = some p2 ∧ w'.cell? ⟨w.heap.size, 0, none⟩ = some (.int .i64 t) ∧ w'.cell? ⟨w.heap.size, 1, none⟩ = some (.bool tb) ∧ w'.cell? ⟨w.heap.size, 2, none⟩ = some tn ∧ w'.cell? ⟨w.heap.size, 3, none⟩ = some tw) (first | go_keep | exact ⟨cell_next hx hbr a0, cell_next hx hbr a1, cell_next hx hbr a2, cell_next hx hbr a3, cell_next hx hwr x0, cell_next hx hwr x1, cell_next hx hwr x2, cell_next hx hwr x3⟩) (first | (go_at_call 65; refine (cmpWays_any _ _ _ _ _ _ _ _ _).mono ?_; rintro e w' ⟨rfl, hx⟩))
        all_goals go_wp2
        all_goals
          go_roundw
          case rel => exact ⟨h + 1, hi, by omega, by omega, by go_num, rfl, HM, HN.out.drew.trans hx⟩
          case measure => simp [intOf]; omega
      · have HM : Hid (Mid (fun i => (wat zs i).id) n t lo h) := mid_down hm.out hrel.out hh2 hab hh1
        have hd : decide (cmpI (wat zs h).id t < 0) = false := by rw [cmpI_neg]; simp [hab]
        go_wp2
        go_region_held3 (fun w' => w'.cell? ⟨b, off + h * 4, none⟩ = some (.int .i64 (wat zs h).id) ∧ w'.cell? ⟨b, off + h * 4 + 1, none⟩ = some (.bool (wat zs h).both) ∧ w'.cell? ⟨b, off + h * 4 + 2, none⟩ = some p1 ∧ w'.cell? ⟨b, off + h * 4 + 3, none⟩ = some p2 ∧ w'.cell? ⟨w.heap.size, 0, none⟩ = some (.int .i64 t) ∧ w'.cell? ⟨w.heap.size, 1, none⟩ = some (.bool tb) ∧ w'.cell? ⟨w.heap.size, 2, none⟩ = some tn ∧ w'.cell? ⟨w.heap.size, 3, none⟩ = some tw) (first | go_keep | exact ⟨cell_next hx hbr a0, cell_next hx hbr a1, cell_next hx hbr a2, cell_next hx hbr a3, cell_next hx hwr x0, cell_next hx hwr x1, cell_next hx hwr x2, cell_next hx hwr x3⟩) (first | (go_at_call 65; refine (cmpWays_any _ _ _ _ _ _ _ _ _).mono ?_; rintro e w' ⟨rfl, hx⟩))
        all_goals go_wp2
        all_goals
          go_roundw
          case rel => exact ⟨lo, h, by omega, by omega, rfl, rfl, HM, HN.out.drew.trans hx⟩
          case measure => simp [intOf]; omega
    · have e : hi = lo := by omega
      subst e
      have HF : Hid (hasW zs t = (decide (hi < n) && ((wat zs hi).id == t))) := by have z := HZ.out; subst z; exact hasW_mid hm.out hrel.out
      by_cases hl : hi < n
      · obtain ⟨b, off, rfl, hB, hb, hc⟩ := hk (by omega)
        obtain ⟨p1, p2, a0, a1, a2, a3, _⟩ := hc hi hl
        have hbr : b < wr.heap.size := Nat.lt_of_lt_of_le hb HNW.out.size
        have a0 := cell_next HNW.out hb a0
        have a1 := cell_next HNW.out hb a1
        have a2 := cell_next HNW.out hb a2
        have a3 := cell_next HNW.out hb a3
        have hln : (hi : Int) < n := by omega
        have hld : decide ((hi : Int) < n) = true := by simpa using hl
        clear hc hk
        by_cases he : (wat zs hi).id = t
        · have hd : (cmpI (wat zs hi).id t == 0) = true := by rw [cmpI_zero]; simpa using he
          have HF' : Hid (hasW zs t = true) := by unfold Hid; rw [HF.out]; simp [hl, he]
          have HE : Hid ((wat zs hi).id = t) := he
          clear he
          go_wp2
          go_region_held3 (fun w' => w'.cell? ⟨b, off + hi * 4, none⟩ = some (.int .i64 (wat zs hi).id) ∧ w'.cell? ⟨b, off + hi * 4 + 1, none⟩ = some (.bool (wat zs hi).both) ∧ w'.cell? ⟨b, off + hi * 4 + 2, none⟩ = some p1 ∧ w'.cell? ⟨b, off + hi * 4 + 3, none⟩ = some p2 ∧ w'.cell? ⟨w.heap.size, 0, none⟩ = some (.int .i64 t) ∧ w'.cell? ⟨w.heap.size, 1, none⟩ = some (.bool tb) ∧ w'.cell? ⟨w.heap.size, 2, none⟩ = some tn ∧ w'.cell? ⟨w.heap.size, 3, none⟩ = some tw) (first | go_keep | exact ⟨cell_next hx hbr a0, cell_next hx hbr a1, cell_next hx hbr a2, cell_next hx hbr a3, cell_next hx hwr x0, cell_next hx hwr x1, cell_next hx hwr x2, cell_next hx hwr x3⟩) (first | (go_at_call 65; refine (cmpWays_any _ _ _ _ _ _ _ _ _).mono ?_; rintro e w' ⟨rfl, hx⟩))
          all_goals go_wp2
          all_goals
            go_ret2
            exact ⟨⟨_, ret_ib HF'.out.symm⟩, HNW.out.drew.trans hx⟩
        · have hd : (cmpI (wat zs hi).id t == 0) = false := by rw [cmpI_zero]; simpa using he
          have HF' : Hid (hasW zs t = false) := by unfold Hid; rw [HF.out]; simp [he]
          clear he
          go_wp2
          go_region_held3 (fun w' => w'.cell? ⟨b, off + hi * 4, none⟩ = some (.int .i64 (wat zs hi).id) ∧ w'.cell? ⟨b, off + hi * 4 + 1, none⟩ = some (.bool (wat zs hi).both) ∧ w'.cell? ⟨b, off + hi * 4 + 2, none⟩ = some p1 ∧ w'.cell? ⟨b, off + hi * 4 + 3, none⟩ = some p2 ∧ w'.cell? ⟨w.heap.size, 0, none⟩ = some (.int .i64 t) ∧ w'.cell? ⟨w.heap.size, 1, none⟩ = some (.bool tb) ∧ w'.cell? ⟨w.heap.size, 2, none⟩ = some tn ∧ w'.cell? ⟨w.heap.size, 3, none⟩ = some tw) (first | go_keep | exact ⟨cell_next hx hbr a0, cell_next hx hbr a1, cell_next hx hbr a2, cell_next hx hbr a3, cell_next hx hwr x0, cell_next hx hwr x1, cell_next hx hwr x2, cell_next hx hwr x3⟩) (first | (go_at_call 65; refine (cmpWays_any _ _ _ _ _ _ _ _ _).mono ?_; rintro e w' ⟨rfl, hx⟩))
          all_goals go_wp2
          all_goals
            go_ret2
            exact ⟨⟨_, ret_ib HF'.out.symm⟩, HNW.out.drew.trans hx⟩
      · have HF' : Hid (hasW zs t = false) := by unfold Hid; rw [HF.out]; simp [hl]
        have hd : decide ((hi : Int) < n) = false := by simp; omega
        go_wp2
        go_quiet (fail)
        all_goals go_wp2
        all_goals
          go_ret2
          exact ⟨⟨_, ret_ib HF'.out.symm⟩, HNW.out.trans ⟨rfl, rfl, rfl, Nat.le_refl _, fun _ _ => rfl⟩⟩

set_option maxHeartbeats 400000 in
theorem hasWay_any (B : Nat) (v0 v1 v2 v3 : Value) (u id : Int) (zs : List Wy) (w : World) (h0 : HWays B w v1 zs) (ha : ascW zs = true) :
    Calls Tryd.prog 69 #[.agg #[v0, v1, v2, v3, .int .i64 u], .int .i64 id] w fun e w' => e = .returned (.bool (hasW zs id)) ∧ Nx w w' := by
  have HA : Hid (ascW zs = true) := ha
  clear ha
  go_enter Tryd.func69, Tryd.ntmps69
  go_wp2_with (go_at_call 76; refine (binSearchFunc_any B _ zs _ _ _ _ _ (by exact h0.keep ((box1 _ _).keeps B)) HA.out).mono ?_; rintro e w' ⟨⟨r, rfl⟩, hx⟩)
  go_ret
  exact ⟨rfl, (box1 _ _).trans hx⟩
end Go.Proofs.YtedhchmigeooiaaDoor
