import Derived.Test.YtifefpeefcjabaaAF
namespace Go.Proofs.Ytifefpeefcjabaa
open Go.RowKit
set_option linter.unusedVariables false
set_option maxRecDepth 100000

theorem spell_cnt {A : Au} {s : Nat} : ((spellK A s).2 = true → (spellK A s).1.length = s) ∧ ((spellK A s).2 = false → (spellK A s).1.length < s) := by
  induction s with
  | zero => exact ⟨fun _ => rfl, fun h => by simp [spellK] at h⟩
  | succ s ih =>
    rw [spellK]
    split
    · rename_i hc
      simp only [Bool.and_eq_true] at hc
      exact ⟨fun _ => by rw [List.length_append, ih.1 hc.1]; rfl, fun h => by simp at h⟩
    · refine ⟨fun h => by simp at h, fun _ => ?_⟩
      show (spellK A s).1.length < s + 1
      cases e : (spellK A s).2 with
      | true => rw [ih.1 e]; omega
      | false => have := ih.2 e; omega
theorem spell_asc {A : Au} {s : Nat} {ws : List (List Int)} (h : spellK A s = (ws, true)) : AscW ws := by
  induction s generalizing ws with
  | zero =>
    rw [spellK] at h
    obtain ⟨rfl, _⟩ := Prod.mk.inj h
    intro i j _ hj
    simp at hj
  | succ s ih =>
    rw [spellK] at h
    split at h
    · rename_i hc
      simp only [Bool.and_eq_true] at hc
      have h1 := ih (ws := (spellK A s).1) (by rw [← hc.1])
      have hl := spell_cnt.1 hc.1
      obtain ⟨rfl, _⟩ := Prod.mk.inj h
      intro i j hij hj
      rw [List.length_append, List.length_singleton, hl] at hj
      by_cases e : j < s
      · rw [wd_snoc (by omega), wd_snoc (by omega)]
        exact h1 i j hij (by omega)
      · have ej : j = s := by omega
        subst ej
        rw [wd_snoc (i := i) (by omega), wd_end (i := j) (by omega), if_neg (by omega)]
        have hb := hc.2
        unfold okS okW at hb
        rw [if_neg (by omega)] at hb
        simp only [Bool.and_eq_true] at hb
        rcases Nat.lt_or_eq_of_le (show i ≤ j - 1 by omega) with h2 | h2
        · exact bef_trans (h1 i (j - 1) h2 (by omega)) hb.2.2
        · rw [h2]; exact hb.2.2
    · obtain ⟨_, h2⟩ := Prod.mk.inj h
      simp at h2
def lensOk (A : Au) : Bool := decide (1 ≤ A.pa.length) && (decide (A.pa.length ≤ 2000) && ((A.la.length == A.pa.length) && ((A.fa.length == A.pa.length) && ((A.mu.length == A.pa.length) && (A.bd.length == A.pa.length)))))
def sOkS (A : Au) (ws : List (List Int)) (s : Nat) : Bool := s == 0 || (decide (-2 ≤ iat A.mu s) && (decide (iat A.mu s < 4000) && (iat A.fa s == lngW ws (wd ws s) 1 ((wd ws s).length + 1 - 1))))
def validS (A : Au) : Bool := lensOk A && ((spellK A A.pa.length).2 && ((iat A.fa 0 == -1) && ((iat A.mu 0 == -1) && ((!bat A.bd 0) && allN A.pa.length (sOkS A (spellK A A.pa.length).1)))))
theorem sOk_one (A : Au) (ws : List (List Int)) : allTo (sOkS A ws) 1 := fun i hi => by
  obtain rfl : i = 0 := by omega
  rfl
theorem vs_len {A : Au} (h : lensOk A = false) : false = validS A := by simp [validS, h]
theorem vs_at {A : Au} {k n : Nat} (hn : A.pa.length = n) (hk : k < n) (h : sOkS A (spellK A n).1 k = false) : false = validS A := by subst hn; simp [validS, allN_no hk h]

set_option maxHeartbeats 8000000 in
theorem specValidA_any (B : Nat) (v0 v1 v2 v3 v4 : Value) (A : Au) (w : World) (h0 : HA B w v0 v1 v2 v3 v4 A) :
    Calls Try.prog 17 #[.agg #[v0, v1, v2, v3, v4]] w fun e w' => e = .returned (.bool (validS A)) ∧ Nx w w' := by
  have HH : Hid (HA B w v0 v1 v2 v3 v4 A) := h0
  obtain ⟨⟨a0, c0, rfl, hn0, hk0⟩, ⟨a1, c1, rfl, hn1, hk1⟩, ⟨a2, c2, rfl, hn2, hk2⟩, ⟨a3, c3, rfl, hn3, hk3⟩, ⟨a4, c4, rfl, hn4, hk4⟩⟩ := h0
  unfold maxLen at hn0 hn1 hn2 hn3 hn4
  generalize hz0 : A.pa.length = n0 at *
  have Z0 : Hid (A.pa.length = n0) := hz0
  clear hz0
  generalize hz1 : A.la.length = n1 at *
  have Z1 : Hid (A.la.length = n1) := hz1
  clear hz1
  generalize hz2 : A.fa.length = n2 at *
  have Z2 : Hid (A.fa.length = n2) := hz2
  clear hz2
  generalize hz3 : A.mu.length = n3 at *
  have Z3 : Hid (A.mu.length = n3) := hz3
  clear hz3
  generalize hz4 : A.bd.length = n4 at *
  have Z4 : Hid (A.bd.length = n4) := hz4
  clear hz4
  by_cases e1 : 1 ≤ n0
  case neg =>
    have d1 : decide ((n0 : Int) < 1) = true := by simp; omega
    have HF : Hid (false = validS A) := vs_len (by unfold lensOk; rw [Z0.out, Z1.out, Z2.out, Z3.out, Z4.out]; simp; omega)
    go_enter Try.func17, Try.ntmps17
    go_wp2
    go_ret
    exact ⟨ret_bool HF.out, box1 _ _⟩
  have d1 : decide ((n0 : Int) < 1) = false := by simp; omega
  by_cases e2 : n0 ≤ 2000
  case neg =>
    have d2 : decide (2000 < (n0 : Int)) = true := by simp; omega
    have HF : Hid (false = validS A) := vs_len (by unfold lensOk; rw [Z0.out, Z1.out, Z2.out, Z3.out, Z4.out]; simp; omega)
    go_enter Try.func17, Try.ntmps17
    go_wp2
    go_ret
    exact ⟨ret_bool HF.out, box1 _ _⟩
  have d2 : decide (2000 < (n0 : Int)) = false := by simp; omega
  by_cases g1 : n0 = n1
  case neg =>
    have q1 : ((n1 : Int) != (n0 : Int)) = true := by simp; omega
    have HF : Hid (false = validS A) := vs_len (by unfold lensOk; rw [Z0.out, Z1.out, Z2.out, Z3.out, Z4.out]; simp; omega)
    go_enter Try.func17, Try.ntmps17
    go_wp2
    go_ret
    exact ⟨ret_bool HF.out, box1 _ _⟩
  subst g1
  have q1 : ((n0 : Int) != (n0 : Int)) = false := by simp
  by_cases g2 : n0 = n2
  case neg =>
    have q2 : ((n2 : Int) != (n0 : Int)) = true := by simp; omega
    have HF : Hid (false = validS A) := vs_len (by unfold lensOk; rw [Z0.out, Z1.out, Z2.out, Z3.out, Z4.out]; simp; omega)
    go_enter Try.func17, Try.ntmps17
    go_wp2
    go_ret
    exact ⟨ret_bool HF.out, box1 _ _⟩
  subst g2
  have q2 : ((n0 : Int) != (n0 : Int)) = false := by simp
  by_cases g3 : n0 = n3
  case neg =>
    have q3 : ((n3 : Int) != (n0 : Int)) = true := by simp; omega
    have HF : Hid (false = validS A) := vs_len (by unfold lensOk; rw [Z0.out, Z1.out, Z2.out, Z3.out, Z4.out]; simp; omega)
    go_enter Try.func17, Try.ntmps17
    go_wp2
    go_ret
    exact ⟨ret_bool HF.out, box1 _ _⟩
  subst g3
  have q3 : ((n0 : Int) != (n0 : Int)) = false := by simp
  by_cases g4 : n0 = n4
  case neg =>
    have q4 : ((n4 : Int) != (n0 : Int)) = true := by simp; omega
    have HF : Hid (false = validS A) := vs_len (by unfold lensOk; rw [Z0.out, Z1.out, Z2.out, Z3.out, Z4.out]; simp; omega)
    go_enter Try.func17, Try.ntmps17
    go_wp2
    go_ret
    exact ⟨ret_bool HF.out, box1 _ _⟩
  subst g4
  have q4 : ((n0 : Int) != (n0 : Int)) = false := by simp
  have HL : Hid (lensOk A = true) := by unfold Hid lensOk; rw [Z0.out, Z1.out, Z2.out, Z3.out, Z4.out]; simp; omega
  have HVD : Hid (validS A = ((spellK A n0).2 && ((iat A.fa 0 == -1) && ((iat A.mu 0 == -1) && ((!bat A.bd 0) && allN n0 (sOkS A (spellK A n0).1)))))) := by unfold Hid validS; rw [HL.out, Z0.out, Bool.true_and]
  go_enter Try.func17, Try.ntmps17
  go_wp2_with fail
  refine (l3Spell_any B _ _ _ _ _ A _ (by exact HH.out.next (box1 _ _)) (by rw [Z1.out, Z0.out]) (by rw [Z0.out]; exact e2)).mono ?_
  rintro e w1 ⟨⟨vw, rfl, ho⟩, hx⟩
  rw [Z0.out] at ho
  have BA := (Blk.new w #[.slice a0 n0 c0, .slice a1 n0 c1, .slice a2 n0 c2, .slice a3 n0 c3, .slice a4 n0 c4] 27 _ rfl).next hx
  have HX : Hid (Nx w w1) := (box1 _ _).trans hx
  obtain ⟨aw, cw, hvw⟩ := ho.slice
  subst hvw
  have HOW : Hid (OwnW (w.heap.size + 1) w1 (.slice aw (spellK A n0).1.length cw) (spellK A n0).1) := by unfold Hid; have := ho; simpa using this
  have HBA : Hid (Blk w1 w.heap.size #[.slice a0 n0 c0, .slice a1 n0 c1, .slice a2 n0 c2, .slice a3 n0 c3, .slice a4 n0 c4]) := BA
  clear ho hx d1 d2 q1 q2 q3 q4
  have hcnt := spell_cnt (A := A) (s := n0)
  have HSA : Hid (∀ ws, spellK A n0 = (ws, true) → AscW ws ∧ ∀ i, (wd ws i).length ≤ 402) := fun ws h => ⟨spell_asc h, spell_len h⟩
  generalize hsp : spellK A n0 = sp at *
  obtain ⟨ws, ok⟩ := sp
  have HSP : Hid (spellK A n0 = (ws, ok)) := hsp
  simp only at HOW HVD hcnt ⊢
  clear hsp
  cases ok
  · have hwl : ws.length < n0 := hcnt.2 rfl
    generalize ws.length = nw0 at *
    have hwl' : (nw0 : Int) < n0 := by omega
    have HF : Hid (false = validS A) := by unfold Hid; rw [HVD.out]; rfl
    go_wp2
    go_ret
    exact ⟨ret_bool HF.out, HX.out⟩
  have hwl : ws.length = n0 := hcnt.1 rfl
  have HWL : Hid (ws.length = n0) := hwl
  rw [hwl] at HOW ⊢
  have HAS : Hid (AscW ws ∧ ∀ i, (wd ws i).length ≤ 402) := HSA.out ws rfl
  clear hcnt HSA hwl
  obtain ⟨b2, o2, ha2, _, hb2, hc2⟩ := hk2 (by omega)
  obtain ⟨b3, o3, ha3, _, hb3, hc3⟩ := hk3 (by omega)
  obtain ⟨b4, o4, ha4, _, hb4, hc4⟩ := hk4 (by omega)
  subst ha2 ha3 ha4
  have HC2 : Hid (∀ i, i < n0 → w.cell? ⟨b2, o2 + i, none⟩ = some (.int .i64 (iat A.fa i))) := hc2
  have HC3 : Hid (∀ i, i < n0 → w.cell? ⟨b3, o3 + i, none⟩ = some (.int .i64 (iat A.mu i))) := hc3
  have x2 := cell_next HX.out hb2 (HC2.out 0 (by omega))
  have x3 := cell_next HX.out hb3 (HC3.out 0 (by omega))
  have x4 := cell_next HX.out hb4 (hc4 0 (by omega))
  rw [Nat.add_zero] at x2 x3 x4
  have k2 := BA.cell (i := 2) rfl
  have k3 := BA.cell (i := 3) rfl
  have k4 := BA.cell (i := 4) rfl
  have hn00 : (0 : Int) < n0 := by omega
  clear hc2 hc3 hc4 hk0 hk1 hk2 hk3 hk4
  by_cases g1 : iat A.fa 0 = -1
  case neg =>
    have f1 : (iat A.fa 0 != -1) = true := by simpa using g1
    have HF : Hid (false = validS A) := by unfold Hid; rw [HVD.out]; simp [g1]
    clear g1
    go_wp2
    go_ret
    exact ⟨ret_bool HF.out, HX.out⟩
  have f1 : (iat A.fa 0 != -1) = false := by simpa using g1
  by_cases g2 : iat A.mu 0 = -1
  case neg =>
    have f2 : (iat A.mu 0 != -1) = true := by simpa using g2
    have HF : Hid (false = validS A) := by unfold Hid; rw [HVD.out]; simp [g2]
    clear g1 g2
    go_wp2
    go_ret
    exact ⟨ret_bool HF.out, HX.out⟩
  have f2 : (iat A.mu 0 != -1) = false := by simpa using g2
  cases g3 : bat A.bd 0
  case true =>
    have HF : Hid (false = validS A) := by unfold Hid; rw [HVD.out]; simp [g3]
    rw [g3] at x4
    clear g1 g2 g3
    go_wp2
    go_ret
    exact ⟨ret_bool HF.out, HX.out⟩
  rw [g3] at x4
  have HVE : Hid (validS A = allN n0 (sOkS A ws)) := by unfold Hid; rw [HVD.out, g1, g2, g3]; simp
  clear g1 g2 g3 HVD
  go_wp2
  clear x2 x3 x4 k2 k3 k4 f1 f2
  go_loopw [5] (fun i wr => ∃ k : Nat, 1 ≤ k ∧ k ≤ n0 ∧ i = .int .i64 k ∧ Hid (allTo (sOkS A ws) k) ∧ Hid (Nx w1 wr)) (fun i _ => n0 - (intOf i).toNat)
  case atStart => exact ⟨1, Nat.le_refl _, e1, rfl, sOk_one A ws, Nx.refl _⟩
  obtain ⟨k, hk1, hkn, rfl, HA', HN⟩ := hrel
  have HW : Hid (Nx w wr) := HX.out.trans HN.out
  by_cases hlt : k < n0
  · have hlt' : (k : Int) < n0 := by omega
    have BW := HBA.out.next HN.out
    have x2 := cell_regrown (cell_next HW.out hb2 (HC2.out k hlt))
    have x3 := cell_regrown (cell_next HW.out hb3 (HC3.out k hlt))
    have k2 := cell_regrown (BW.cell (i := 2) rfl)
    have k3 := cell_regrown (BW.cell (i := 3) rfl)
    have HWO : Hid (OwnW (w.heap.size + 1) wr (.slice aw n0 cw) ws) := HOW.out.next HN.out
    obtain ⟨gw, ow, hav, hcw⟩ := HWO.out.held.at (by omega)
    subst hav
    obtain ⟨vi, hv1, hv2, hv3⟩ := hcw k hlt
    have y0 := cell_regrown hv1
    have HOD : Hid (sOkS A ws k = (decide (-2 ≤ iat A.mu k) && (decide (iat A.mu k < 4000) && (iat A.fa k == lngW ws (wd ws k) 1 ((wd ws k).length + 1 - 1))))) := by
      unfold Hid sOkS
      have : (k == 0) = false := by simp; omega
      rw [this, Bool.false_or]
    have CG : Hid (∀ d os, Calls Try.prog 31 #[.slice (some ⟨gw, ow, none⟩) n0 cw, vi, .int .i64 1] (Sort.grow (redrawn wr d) os) fun e w'' => e = .returned (.int .i64 (lngW ws (wd ws k) 1 ((wd ws k).length + 1 - 1))) ∧ ∃ p : Regrown, w'' = Sort.grow (redrawn wr p.d) p.os) :=
      fun d os => Calls.regrown_of (l3Longest_any (w.heap.size + 1) (w.heap.size + 1) _ _ ws (wd ws k) 1 _ (HWO.out.held.next (below_regrown wr d os)) (hv2.next (below_regrown wr d os)) HAS.out.1 (by rw [HWL.out]; omega) (by have := HAS.out.2 k; omega) (by omega) hv3)
    have HFB : Hid (sOkS A ws k = false → false = validS A) := fun h => by rw [HVE.out, allN_no hlt h]
    clear hcw hv1 hv2 hv3 BW
    generalize lngW ws (wd ws k) 1 ((wd ws k).length + 1 - 1) = lg at *
    by_cases g1 : iat A.mu k < -2
    · have f1 : decide (iat A.mu k < -2) = true := by simpa using g1
      have HF : Hid (false = validS A) := HFB.out (by rw [HOD.out]; simp; omega)
      clear g1
      go_wp2
      refine wp_region_quiet_below (by kernel_rfl) (by kernel_rfl) ?_
      repeat (go_big_quiet_step (exact CG.out _ _))
      refine wpQuiet_nil ?_
      intro _ hw'
      obtain ⟨⟨dq, osq⟩, hw''⟩ := hw'
      subst hw''
      have HB : Hid (Nx wr (Sort.grow (redrawn wr dq) osq)) := below_regrown wr dq osq
      go_wp2
      go_ret
      exact ⟨ret_bool HF.out, HW.out.trans HB.out⟩
    have f1 : decide (iat A.mu k < -2) = false := by simpa using g1
    by_cases g2 : 4000 ≤ iat A.mu k
    · have f2 : decide (4000 ≤ iat A.mu k) = true := by simpa using g2
      have HF : Hid (false = validS A) := HFB.out (by rw [HOD.out]; simp; omega)
      clear g1 g2
      go_wp2
      refine wp_region_quiet_below (by kernel_rfl) (by kernel_rfl) ?_
      repeat (go_big_quiet_step (exact CG.out _ _))
      refine wpQuiet_nil ?_
      intro _ hw'
      obtain ⟨⟨dq, osq⟩, hw''⟩ := hw'
      subst hw''
      have HB : Hid (Nx wr (Sort.grow (redrawn wr dq) osq)) := below_regrown wr dq osq
      go_wp2
      go_ret
      exact ⟨ret_bool HF.out, HW.out.trans HB.out⟩
    have f2 : decide (4000 ≤ iat A.mu k) = false := by simpa using g2
    by_cases g3 : iat A.fa k = lg
    · have f3 : (iat A.fa k != lg) = false := by simpa using g3
      have HF : Hid (sOkS A ws k = true) := by unfold Hid; rw [HOD.out]; simp; omega
      clear g1 g2 g3
      go_wp2
      refine wp_region_quiet_below (by kernel_rfl) (by kernel_rfl) ?_
      repeat (go_big_quiet_step (exact CG.out _ _))
      refine wpQuiet_nil ?_
      intro _ hw'
      obtain ⟨⟨dq, osq⟩, hw''⟩ := hw'
      subst hw''
      have HB : Hid (Nx wr (Sort.grow (redrawn wr dq) osq)) := below_regrown wr dq osq
      go_wp2
      go_roundw
      case rel => exact ⟨k + 1, by omega, by omega, by go_num, allTo_succ HA'.out HF.out, HN.out.trans HB.out⟩
      case measure => simp [intOf]; omega
    · have f3 : (iat A.fa k != lg) = true := by simpa using g3
      have HF : Hid (false = validS A) := HFB.out (by rw [HOD.out]; simp; omega)
      clear g1 g2 g3
      go_wp2
      refine wp_region_quiet_below (by kernel_rfl) (by kernel_rfl) ?_
      repeat (go_big_quiet_step (exact CG.out _ _))
      refine wpQuiet_nil ?_
      intro _ hw'
      obtain ⟨⟨dq, osq⟩, hw''⟩ := hw'
      subst hw''
      have HB : Hid (Nx wr (Sort.grow (redrawn wr dq) osq)) := below_regrown wr dq osq
      go_wp2
      go_ret
      exact ⟨ret_bool HF.out, HW.out.trans HB.out⟩
  have ek : n0 = k := by omega
  subst ek
  have HF : Hid (true = validS A) := by unfold Hid; rw [HVE.out, allN_yes (Nat.le_refl _) HA'.out]
  clear HA' hlt hkn
  go_wp2
  go_ret
  exact ⟨ret_bool HF.out, HW.out⟩
end Go.Proofs.Ytifefpeefcjabaa
