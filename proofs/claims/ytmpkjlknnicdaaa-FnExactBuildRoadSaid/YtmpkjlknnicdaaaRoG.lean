import Derived.Test.YtmpkjlknnicdaaaRoF
namespace Go.Proofs.Ytmpkjlknnicdaaa
open Go.RowKit
set_option linter.unusedVariables false
set_option maxRecDepth 100000

/-- the tails -/
def tlE (es : List Eg) (e : Nat) : Nat := (eat es e).tail.toNat
def F1 (tl : Nat → Nat) (k q : Nat) : Int := if q = 0 then 0 else (cE tl (q - 1) k : Nat)
def F2 (tl : Nat → Nat) (m p q : Nat) : Int := if q ≤ p then (cL tl q m : Nat) else F1 tl m q
def F3 (tl : Nat → Nat) (m k p : Nat) : Int := ((cL tl p m + cE tl p k : Nat) : Int)
theorem iat_map (f : Nat → Int) {k i : Nat} (h : i < k) : iat ((List.range k).map f) i = f i := by rw [iat_eq (by simpa using h)]; simp
theorem F1_zero (tl : Nat → Nat) (q : Nat) : F1 tl 0 q = 0 := by unfold F1; split <;> simp [cE]
theorem F1_at (tl : Nat → Nat) (k T : Nat) : F1 tl k (T + 1) = (cE tl T k : Nat) := by unfold F1; rw [if_neg (by omega)]; rfl
theorem F1_step (tl : Nat → Nat) (k q : Nat) : (if q = tl k + 1 then ((cE tl (tl k) k : Nat) : Int) + 1 else F1 tl k q) = F1 tl (k + 1) q := by
  by_cases h : q = tl k + 1
  · subst h
    rw [if_pos rfl, F1_at, cE, if_pos rfl]
    omega
  · rw [if_neg h]
    unfold F1
    by_cases h0 : q = 0
    · rw [if_pos h0, if_pos h0]
    · rw [if_neg h0, if_neg h0, cE, if_neg (by omega)]
      rfl
theorem F2_zero (tl : Nat → Nat) (m q : Nat) : F1 tl m q = F2 tl m 0 q := by
  unfold F2
  by_cases h : q ≤ 0
  · obtain rfl : q = 0 := by omega
    rw [if_pos h, cL_zero]
    rfl
  · rw [if_neg h]
theorem F2_here (tl : Nat → Nat) (m p : Nat) : F2 tl m p p = (cL tl p m : Nat) := by unfold F2; rw [if_pos (Nat.le_refl _)]
theorem F2_up (tl : Nat → Nat) (m p : Nat) : F2 tl m p (p + 1) = (cE tl p m : Nat) := by unfold F2; rw [if_neg (by omega), F1_at]
theorem F2_step (tl : Nat → Nat) (m p q : Nat) : (if q = p + 1 then ((cE tl p m : Nat) : Int) + (cL tl p m : Nat) else F2 tl m p q) = F2 tl m (p + 1) q := by
  by_cases h : q = p + 1
  · subst h
    rw [if_pos rfl, F2_here, cL_succ]
    omega
  · rw [if_neg h]
    unfold F2
    by_cases h0 : q ≤ p
    · rw [if_pos h0, if_pos (by omega)]
    · rw [if_neg h0, if_neg (by omega)]
theorem F2_end (tl : Nat → Nat) (m n q : Nat) (h : q < n + 1) : F2 tl m n q = (cL tl q m : Nat) := by unfold F2; rw [if_pos (by omega)]
theorem F3_zero (tl : Nat → Nat) (m p : Nat) : ((cL tl p m : Nat) : Int) = F3 tl m 0 p := by simp [F3, cE]
theorem F3_here (tl : Nat → Nat) (m k : Nat) : F3 tl m k (tl k) = (rank tl m k : Nat) := rfl
theorem F3_step (tl : Nat → Nat) (m k q : Nat) : (if q = tl k then ((rank tl m k : Nat) : Int) + 1 else F3 tl m k q) = F3 tl m (k + 1) q := by
  unfold F3
  by_cases h : q = tl k
  · subst h
    rw [if_pos rfl, cE, if_pos rfl]
    unfold rank
    omega
  · rw [if_neg h, cE, if_neg (fun e => h e.symm)]
    rfl

set_option maxHeartbeats 4000000 in
theorem group_any (B : Nat) (v : Value) (es : List Eg) (n : Nat) (w : World) (h0 : HEdges B w v es) (hn : n ≤ 2000) (hm : es.length ≤ 4000) (ht : ∀ e, e < es.length → 0 ≤ (eat es e).tail ∧ (eat es e).tail < n) :
    Calls Try.prog 41 #[.int .i64 n, v] w fun e w' => (∃ gF gO c F, e = .returned (.tuple #[.slice (some ⟨gF, 0, none⟩) (n + 1) (n + 1), .slice (some ⟨gO, 0, none⟩) es.length c]) ∧ w.heap.size ≤ gF ∧ gF < gO ∧
      RW w' gF (n + 1) (fun q => (cL (tlE es) q es.length : Nat)) ∧ RW w' gO es.length F ∧ ∀ e, e < es.length → F (rank (tlE es) es.length e) = e) ∧ Nx w w' := by
  obtain ⟨a, cap, rfl, hml, hk⟩ := h0
  have HTL : Hid (∀ e, e < es.length → tlE es e < n) := fun e he => by have := ht e he; unfold tlE; omega
  have HTI : Hid (∀ e, e < es.length → (eat es e).tail = (tlE es e : Nat)) := fun e he => by have := ht e he; unfold tlE; omega
  clear ht
  generalize htl : tlE es = tl at *
  generalize hz : es.length = m at *
  clear htl hz hml
  have hmk := run_make_row' (P := Try.prog) 22 2 (.int .i64 0) 8 Try.underlying22 infoInt rfl .i64 .i64 (n + 1) (by omega) (by omega)
  have hmk2 := run_make_row' (P := Try.prog) 22 2 (.int .i64 0) 8 Try.underlying22 infoInt rfl .i64 .i64 m (by omega) (by omega)
  have hcast : ((n + 1 : Nat) : Int) = (n : Int) + 1 := by omega
  rw [hcast] at hmk
  go_enter Try.func41, Try.ntmps41
  go_wp2
  go_loopw [7, 17] (fun p i wr => ∃ k : Nat, k ≤ m ∧ i = .int .i64 k ∧ Hid (RW wr w.heap.size (n + 1) (F1 tl k)) ∧ Hid (Nx w wr)) (fun _ i _ => m - (intOf i).toNat)
  case atStart => exact ⟨0, Nat.zero_le _, rfl, (RW.of_rowIs (World.rowIs_made _ _ _ _)).congr (fun i _ => (F1_zero tl i).symm), box1 _ _⟩
  obtain ⟨k, hkm, rfl, HR, HN⟩ := hrel
  by_cases hlt : k < m
  · obtain ⟨b, off, rfl, hB, hb, hc⟩ := hk (by omega)
    obtain ⟨d0, d1, d2, d3, d4, d5, d6⟩ := hc k hlt
    have d0 := cell_next HN.out hb d0
    have d1 := cell_next HN.out hb d1
    have d2 := cell_next HN.out hb d2
    have d3 := cell_next HN.out hb d3
    have d4 := cell_next HN.out hb d4
    have d5 := cell_next HN.out hb d5
    have d6 := cell_next HN.out hb d6
    rw [HTI.out k hlt] at d0
    have hT := HTL.out k hlt
    have HST : Hid (∀ q, (if q = tl k + 1 then ((cE tl (tl k) k : Nat) : Int) + 1 else F1 tl k q) = F1 tl (k + 1) q) := F1_step tl k
    have r0 := HR.out.cell (i := tl k + 1) (by omega)
    rw [F1_at] at r0
    have r1 := HR.out.frozen (tl k + 1)
    have hcE := cE_le tl (tl k) k
    have hlt' : (k : Int) < m := by omega
    have hsz := HR.out.lt
    generalize tl k = T at *
    generalize cE tl T k = c at *
    have hT' : (T : Int) + 1 < (n : Int) + 1 := by omega
    clear hc hk hmk hmk2
    go_wp2
    go_roundw
    case rel => exact ⟨k + 1, by omega, by go_num, ((HR.out.set (T + 1) _).congr (fun i _ => HST.out i)).alloc _, Nx.alloc (Below.setCell HN.out (Nat.le_refl _) _) _⟩
    case measure => simp [intOf]; omega
  have e : m = k := by omega
  subst e
  have HR2 : Hid (RW wr w.heap.size (n + 1) (F2 tl m 0)) := HR.out.congr (fun i _ => F2_zero tl m i)
  clear HR hkm hlt hmk
  go_wp2
  go_loopw [8, 31] (fun p i wr => ∃ k : Nat, k ≤ n ∧ i = .int .i64 k ∧ Hid (RW wr w.heap.size (n + 1) (F2 tl m k)) ∧ Hid (Nx w wr)) (fun _ i _ => n - (intOf i).toNat)
  case atStart => exact ⟨0, Nat.zero_le _, rfl, HR2, HN⟩
  clear HR2 HN
  obtain ⟨k, hkn, rfl, HR, HN⟩ := hrel
  by_cases hlt : k < n
  · have HST : Hid (∀ q, (if q = k + 1 then ((cE tl k m : Nat) : Int) + (cL tl k m : Nat) else F2 tl m k q) = F2 tl m (k + 1) q) := F2_step tl m k
    have r0 := HR.out.cell (i := k) (by omega)
    have r1 := HR.out.cell (i := k + 1) (by omega)
    rw [F2_here] at r0
    rw [F2_up] at r1
    have f1 := HR.out.frozen (k + 1)
    have hcE := cE_le tl k m
    have hcL := cL_le tl k m
    have hlt' : (k : Int) < n := by omega
    have hlt2 : (k : Int) + 1 < (n : Int) + 1 := by omega
    have hlt3 : (k : Int) < (n : Int) + 1 := by omega
    have hsz := HR.out.lt
    generalize cE tl k m = c at *
    generalize cL tl k m = d at *
    have hw1 : IntKind.i64.wrap ((k : Int) + 1) = (k : Int) + 1 := by rw [IntKind.wrap_i64]; omega
    have hw2 : IntKind.i64.wrap ((c : Int) + (d : Int)) = (c : Int) + (d : Int) := by rw [IntKind.wrap_i64]; omega
    have hw3 : ((k : Int) + 1).toNat = k + 1 := by omega
    have hw4 : (k : Int) + 1 < ((n + 1 : Nat) : Int) := by omega
    have hw5 : (k : Int) < ((n + 1 : Nat) : Int) := by omega
    have hw6 : ¬ (k : Int) + 1 < 0 := by omega
    clear hk hmk2
    go_wp2
    go_region_with (fail)
    all_goals go_wp2
    all_goals
      go_roundw
      case rel => exact ⟨k + 1, by omega, by go_num, (HR.out.set (k + 1) _).congr (fun i _ => HST.out i), Nx.drew (Below.setCell (p := ⟨w.heap.size, k + 1, none⟩) HN.out (Nat.le_refl _) _)⟩
      case measure => simp [intOf]; omega
  have e : n = k := by omega
  subst e
  have HRF : Hid (RW wr w.heap.size (n + 1) (fun q => (cL tl q m : Nat))) := HR.out.congr (fun i hi => F2_end tl m n i hi)
  have HIN : Hid (HInts 0 wr (.slice (some ⟨w.heap.size, 0, none⟩) (n + 1) (n + 1)) ((List.range (n + 1)).map fun q => ((cL tl q m : Nat) : Int))) :=
    HRF.out.held (by simp) (by unfold maxLen; omega) (fun i hi => (iat_map (fun q => ((cL tl q m : Nat) : Int)) hi).symm) (Nat.zero_le _)
  clear HR hkn hlt
  go_wp2_with fail
  refine (clone_any 0 _ ((List.range (n + 1)).map fun q => ((cL tl q m : Nat) : Int)) _ HIN.out (by simp; omega)).mono ?_
  rintro e w3 ⟨⟨v', rfl, ho⟩, hx⟩
  rcases ho.opened with ⟨_, h2⟩ | ⟨gN, cN, hv, hg, _, hr⟩
  · simp at h2
  simp only [List.length_map, List.length_range] at hv hr
  subst hv
  have HRN : Hid (RW w3 gN (n + 1) (F3 tl m 0)) := hr.congr (fun i hi => by rw [iat_map (fun q => ((cL tl q m : Nat) : Int)) hi]; exact F3_zero tl m i)
  have HRF3 : Hid (RW w3 w.heap.size (n + 1) (fun q => (cL tl q m : Nat))) := HRF.out.next hx
  have HN3 : Hid (Nx w w3) := HN.out.trans hx
  have hg1 : w.heap.size < gN := Nat.lt_of_lt_of_le HRF.out.lt hg
  have hg2 : gN < w3.heap.size := HRN.out.lt
  have HG : Hid (w.heap.size < gN ∧ gN < w3.heap.size) := ⟨hg1, hg2⟩
  clear ho hr hx HRF HIN HN hg
  go_wp2
  go_loopw [10, 11, 53] (fun p q i wr => ∃ k : Nat, k ≤ m ∧ i = .int .i64 k ∧ Hid (RW wr w.heap.size (n + 1) (fun q => (cL tl q m : Nat))) ∧ Hid (RW wr gN (n + 1) (F3 tl m k)) ∧ Hid (∃ F, RW wr w3.heap.size m F ∧ ∀ e, e < k → F (rank tl m e) = e) ∧ Hid (Nx w wr)) (fun _ _ i _ => m - (intOf i).toNat)
  case atStart => exact ⟨0, Nat.zero_le _, rfl, HRF3.out.alloc _, HRN.out.alloc _, ⟨fun _ => 0, RW.of_rowIs (World.rowIs_made _ _ _ _), fun e he => absurd he (Nat.not_lt_zero _)⟩, HN3.out.alloc _⟩
  clear HRF3 HRN HN3 hmk2
  obtain ⟨k, hkm, rfl, HRF, HRN, HRO, HN⟩ := hrel
  by_cases hlt : k < m
  · obtain ⟨b, off, rfl, hB, hb, hc⟩ := hk (by omega)
    obtain ⟨d0, d1, d2, d3, d4, d5, d6⟩ := hc k hlt
    have d0 := cell_next HN.out hb d0
    have d1 := cell_next HN.out hb d1
    have d2 := cell_next HN.out hb d2
    have d3 := cell_next HN.out hb d3
    have d4 := cell_next HN.out hb d4
    have d5 := cell_next HN.out hb d5
    have d6 := cell_next HN.out hb d6
    rw [HTI.out k hlt] at d0
    have hT := HTL.out k hlt
    have HST : Hid (∀ q, (if q = tl k then ((rank tl m k : Nat) : Int) + 1 else F3 tl m k q) = F3 tl m (k + 1) q) := F3_step tl m k
    have r0 := HRN.out.cell (i := tl k) (by omega)
    rw [F3_here] at r0
    have r1 := HRN.out.frozen (tl k)
    have hrk : rank tl m k < m := rank_lt hlt HTL.out
    obtain ⟨F, hF1, hF2⟩ := HRO.out
    have o0 := hF1.cell hrk
    have o1 := hF1.frozen (rank tl m k)
    have HO' : Hid (∃ F, RW (wr.setCell ⟨w3.heap.size, rank tl m k, none⟩ (.int .i64 k)) w3.heap.size m F ∧ ∀ e, e < k + 1 → F (rank tl m e) = e) := by
      refine ⟨_, hF1.set (rank tl m k) k, fun e he => ?_⟩
      by_cases ee : e = k
      · subst ee
        simp
      · have : rank tl m e ≠ rank tl m k := fun h => ee (rank_inj (by omega) hlt HTL.out h)
        simp only [if_neg this]
        exact hF2 e (by omega)
    have hlt' : (k : Int) < m := by omega
    have hg1 := HG.out.1
    have hg2 := HG.out.2
    have hne1 : gN ≠ w3.heap.size := by omega
    have hne2 : w3.heap.size ≠ gN := by omega
    have hne3 : w.heap.size ≠ gN := by omega
    have hne4 : w.heap.size ≠ w3.heap.size := by omega
    have hrk' : ((rank tl m k : Nat) : Int) < m := by omega
    have hsN := HRN.out.lt
    have hsO := hF1.lt
    clear hF1 hF2
    generalize rank tl m k = R at *
    generalize F R = fr at *
    generalize tl k = T at *
    have hT' : (T : Int) < (n : Int) + 1 := by omega
    clear hc hk
    go_wp2
    go_roundw
    case rel => exact ⟨k + 1, by omega, by go_num, ((HRF.out.setOther hne4 _).setOther hne3 _).alloc _, (((HRN.out.setOther hne1 _).set T _).congr (fun i _ => HST.out i)).alloc _, (by obtain ⟨F, h1, h2⟩ := HO'.out; exact ⟨F, (h1.setOther hne2 _).alloc _, h2⟩), Nx.alloc (Below.setCell (Below.setCell HN.out (by show w.heap.size ≤ w3.heap.size; omega) _) (by show w.heap.size ≤ gN; omega) _) _⟩
    case measure => simp [intOf]; omega
  have e : m = k := by omega
  subst e
  go_wp2
  go_ret2
  obtain ⟨F, h1, h2⟩ := HRO.out
  exact ⟨⟨_, _, _, F, rfl, Nat.le_refl _, Nat.lt_trans HG.out.1 HG.out.2, HRF.out, h1, h2⟩, HN.out⟩
end Go.Proofs.Ytmpkjlknnicdaaa
