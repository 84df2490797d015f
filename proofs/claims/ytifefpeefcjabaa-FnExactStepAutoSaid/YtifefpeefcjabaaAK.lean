import Derived.Test.YtifefpeefcjabaaAJ
import Derived.Test.YtifefpeefcjabaaBK
namespace Go.Proofs.Ytifefpeefcjabaa
open Go.RowKit Go.Maps
set_option linter.unusedVariables false
set_option maxRecDepth 100000

theorem vi_len {A : Au} (h : validI A = true) : 1 ≤ A.pa.length ∧ A.pa.length ≤ 2000 := by
  unfold validI lensOk at h
  simp only [Bool.and_eq_true, decide_eq_true_eq] at h
  exact ⟨h.1.1, h.1.2.1⟩
theorem vi_root {A : Au} (h : validI A = true) : iat A.mu 0 = -1 ∧ bat A.bd 0 = false := by
  rw [vl_valid, Bool.and_eq_true] at h
  exact ⟨(vl_parts h.1).2.1.2.2.1, (vl_parts h.1).2.1.2.2.2⟩
set_option maxHeartbeats 2000000 in
theorem implValidA_any (B : Nat) (v0 v1 v2 v3 v4 : Value) (A : Au) (w : World) (h0 : HA B w v0 v1 v2 v3 v4 A) (hs : SmallA A) :
    Calls Try.prog 19 #[.agg #[v0, v1, v2, v3, v4]] w fun e w' => e = .returned (.bool (validS A)) ∧ Nx w w' := by
  have HX0 : Hid (Nx w (w.alloc (.cells #[v0, v1, v2, v3, v4] 27))) := box1 _ _
  have BA := Blk.new w #[v0, v1, v2, v3, v4] 27 _ rfl
  have k0 : _ = some v0 := BA.cell (i := 0) rfl
  have k1 : _ = some v1 := BA.cell (i := 1) rfl
  have k2 : _ = some v2 := BA.cell (i := 2) rfl
  have k3 : _ = some v3 := BA.cell (i := 3) rfl
  have k4 : _ = some v4 := BA.cell (i := 4) rfl
  clear BA
  go_enter Try.func19, Try.ntmps19
  go_wp2_with fail
  refine (readAuto_any B v0 v1 v2 v3 v4 A _ (by exact h0.next HX0.out)).mono ?_
  rintro r w' ⟨v, rfl, hx, hc⟩
  have HX1 : Hid (Nx w w') := HX0.out.trans hx
  clear hx k0 k1 k2 k3 k4
  rcases hc with ⟨hv, rfl⟩ | ⟨hv, bl, fl, mv, hso, htr⟩
  · have HF : Hid (false = validS A) := by unfold Hid; rw [valid_same, hv]
    go_wp2
    go_ret
    exact ⟨ret_bool HF.out, HX1.out⟩
  · have HF : Hid (true = validS A) := by unfold Hid; rw [valid_same, hv]
    obtain ⟨a, c, rfl⟩ := hso.slice
    rw [List.length_map, List.length_range]
    have hn := (vi_len hv).1
    generalize A.pa.length = n at *
    have hn' : (0 : Int) < n := by omega
    clear hso htr hv
    go_wp2
    go_ret
    exact ⟨ret_bool (by rw [← HF.out]; simp; omega), HX1.out⟩
theorem stepV_num {A : Au} (bl : Nat → Nat) (s : Nat) (e : Int) : (stepV A A.pa.length bl s e = .pointer none ∧ stepI A s e = -1) ∨ (stepV A A.pa.length bl s e = ptr (bl (goOf A A.pa.length s e)) ∧ stepI A s e = (goOf A A.pa.length s e : Int)) := by
  unfold stepV stepI
  split
  · exact Or.inl ⟨rfl, rfl⟩
  · split
    · exact Or.inl ⟨rfl, rfl⟩
    · split
      · exact Or.inl ⟨rfl, rfl⟩
      · exact Or.inr ⟨rfl, rfl⟩
theorem trie_valid {A : Au} (h : validI A = true) : Trie A A.pa.length := (ws_same (by rw [valid_same]; exact h)).2
set_option maxHeartbeats 2000000 in
theorem implStep_any (B : Nat) (v0 v1 v2 v3 v4 : Value) (A : Au) (s e : Int) (w : World) (h0 : HA B w v0 v1 v2 v3 v4 A) (hs : SmallA A) :
    Calls Try.prog 22 #[.agg #[v0, v1, v2, v3, v4], .int .i64 s, .int .i64 e] w fun r w' => r = .returned (.int .i64 (stepA A s e)) ∧ Nx w w' := by
  have HX0 : Hid (Nx w (w.alloc (.cells #[v0, v1, v2, v3, v4] 27))) := box1 _ _
  have BA := Blk.new w #[v0, v1, v2, v3, v4] 27 _ rfl
  have k0 : _ = some v0 := BA.cell (i := 0) rfl
  have k1 : _ = some v1 := BA.cell (i := 1) rfl
  have k2 : _ = some v2 := BA.cell (i := 2) rfl
  have k3 : _ = some v3 := BA.cell (i := 3) rfl
  have k4 : _ = some v4 := BA.cell (i := 4) rfl
  clear BA
  go_enter Try.func22, Try.ntmps22
  go_wp2_with fail
  refine (readAuto_any B v0 v1 v2 v3 v4 A _ (by exact h0.next HX0.out)).mono ?_
  rintro r w' ⟨v, rfl, hx, hc⟩
  have HX1 : Hid (Nx w w') := HX0.out.trans hx
  clear hx k0 k1 k2 k3 k4
  rcases hc with ⟨hv, rfl⟩ | ⟨hv, bl, fl, mv, hso, htr⟩
  · have HF : Hid (-1 = stepA A s e) := by unfold Hid stepA; rw [valid_same, hv]; rfl
    by_cases g : s < 0
    · have d : decide (s < 0) = true := by simpa using g
      go_wp2
      go_ret
      exact ⟨ret_int HF.out, HX1.out⟩
    · have d : decide (s < 0) = false := by simpa using g
      have d2 : decide ((0 : Int) ≤ s) = true := by simp; omega
      go_wp2
      go_ret
      exact ⟨ret_int HF.out, HX1.out⟩
  · have HV : Hid (validI A = true) := hv
    have HVS : Hid (validS A = true) := by unfold Hid; rw [valid_same]; exact hv
    have HL : Hid ((wsA A).length = A.pa.length) := (ws_of HVS.out).1.l
    have HSO : Hid (OwnP _ w' v ((List.range A.pa.length).map bl)) := hso
    have HTR : Hid (TR A A.pa.length A.pa.length w' bl fl mv (numTo A.pa.length)) := htr
    obtain ⟨a, c, rfl⟩ := hso.slice
    rw [List.length_map, List.length_range] at *
    clear hso htr
    by_cases g : s < 0
    · have d : decide (s < 0) = true := by simpa using g
      have HF : Hid (-1 = stepA A s e) := by unfold Hid stepA stepS; rw [if_pos HVS.out, if_pos (Or.inl g)]
      go_wp2
      go_ret
      exact ⟨ret_int HF.out, HX1.out⟩
    have d : decide (s < 0) = false := by simpa using g
    obtain ⟨t, rfl⟩ : ∃ t : Nat, s = t := ⟨s.toNat, by omega⟩
    by_cases g2 : t < A.pa.length
    · have HSM : Hid (stepA A t e = stepI A t e) := by unfold Hid stepA; rw [if_pos HVS.out, step_same HVS.out g2]
      obtain ⟨gb, hag, hcg⟩ := HSO.out.cell (i := t) (by simp; omega)
      subst hag
      rw [nat_range bl g2] at hcg
      unfold ptr at hcg
      have HST : Hid (t < A.pa.length) := g2
      have hgo := (go_lw (trie_valid hv) g2 e).2
      have HGO : Hid (goOf A A.pa.length t e < A.pa.length) := hgo
      have g2' : (t : Int) < (A.pa.length : Int) := by omega
      have d2 : decide (((A.pa.length : Nat) : Int) ≤ (t : Int)) = false := by simp; omega
      clear hv hgo g
      go_wp2_with fail
      refine (step_any A A.pa.length t e w' bl fl mv _ (trie_valid HV.out) HTR.out (vi_root HV.out).1 (vi_root HV.out).2 HST.out).mono ?_
      rintro r w5 ⟨rfl, rfl⟩
      rcases stepV_num (A := A) bl t e with ⟨h1, h2⟩ | ⟨h1, h2⟩
      · have HF : Hid (-1 = stepA A t e) := by unfold Hid; rw [HSM.out, h2]
        rw [h1]
        clear h1 h2
        go_wp2_with fail
        refine (numberOf_nil _).mono ?_
        rintro r w6 ⟨rfl, rfl⟩
        go_wp2
        go_ret
        exact ⟨ret_int HF.out, HX1.out⟩
      · have HF : Hid ((goOf A A.pa.length t e : Int) = stepA A t e) := by unfold Hid; rw [HSM.out, h2]
        rw [h1]
        clear h1 h2
        have hnd := HTR.out.nd _ HGO.out
        have hnum : numTo A.pa.length (goOf A A.pa.length t e) = (goOf A A.pa.length t e : Int) := by unfold numTo; rw [if_pos HGO.out]
        rw [hnum] at hnd
        go_wp2_with fail
        refine (numberOf_any _ _ _ _ _ _ _ _ _ _ hnd).mono ?_
        rintro r w6 ⟨rfl, rfl⟩
        go_wp2
        go_ret
        exact ⟨ret_int HF.out, HX1.out⟩
    · have d2 : decide (((A.pa.length : Nat) : Int) ≤ (t : Int)) = true := by simp; omega
      have HF : Hid (-1 = stepA A t e) := by unfold Hid stepA stepS; rw [if_pos HVS.out, if_pos (Or.inr (Or.inl (by rw [HL.out]; omega)))]
      go_wp2
      go_ret
      exact ⟨ret_int HF.out, HX1.out⟩
set_option maxHeartbeats 4000000 in
theorem implRun_any (B : Nat) (v0 v1 v2 v3 v4 vp : Value) (A : Au) (P : List Int) (w : World) (h0 : HA B w v0 v1 v2 v3 v4 A) (hp : HInts B w vp P) (hs : SmallA A) (hl : P.length ≤ 1048576) :
    Calls Try.prog 25 #[.agg #[v0, v1, v2, v3, v4], vp] w fun e w' => e = .returned (.int .i64 (runA A P)) ∧ Nx w w' := by
  have HX0 : Hid (Nx w (w.alloc (.cells #[v0, v1, v2, v3, v4] 27))) := box1 _ _
  have BA := Blk.new w #[v0, v1, v2, v3, v4] 27 _ rfl
  have k0 : _ = some v0 := BA.cell (i := 0) rfl
  have k1 : _ = some v1 := BA.cell (i := 1) rfl
  have k2 : _ = some v2 := BA.cell (i := 2) rfl
  have k3 : _ = some v3 := BA.cell (i := 3) rfl
  have k4 : _ = some v4 := BA.cell (i := 4) rfl
  obtain ⟨a7, c7, rfl, hn7, hk7⟩ := hp
  generalize hz7 : P.length = m at *
  have Z7 : Hid (P.length = m) := hz7
  clear BA hz7
  go_enter Try.func25, Try.ntmps25
  go_wp2_with fail
  refine (readAuto_any B v0 v1 v2 v3 v4 A _ (by exact h0.next HX0.out)).mono ?_
  rintro r w' ⟨v, rfl, hx, hc⟩
  have HX1 : Hid (Nx w w') := HX0.out.trans hx
  clear hx k0 k1 k2 k3 k4
  rcases hc with ⟨hv, rfl⟩ | ⟨hv, bl, fl, mv, hso, htr⟩
  · have HF : Hid (-1 = runA A P) := by unfold Hid runA; rw [valid_same, hv]; rfl
    go_wp2
    go_ret
    exact ⟨ret_int HF.out, HX1.out⟩
  · have HV : Hid (validI A = true) := hv
    have HVS : Hid (validS A = true) := by unfold Hid; rw [valid_same]; exact hv
    have HSO : Hid (OwnP _ w' v ((List.range A.pa.length).map bl)) := hso
    have HTR : Hid (TR A A.pa.length A.pa.length w' bl fl mv (numTo A.pa.length)) := htr
    obtain ⟨a, c, rfl⟩ := hso.slice
    rw [List.length_map, List.length_range] at *
    have hn := (vi_len hv).1
    have HN1 : Hid (1 ≤ A.pa.length) := hn
    have e1 : (((A.pa.length : Nat) : Int) == 0) = false := by rw [beq_eq_false_iff_ne]; omega
    have e2 : A.pa ≠ [] := fun e => by rw [e] at hn; simp at hn
    clear hso htr
    by_cases g : m ≤ 10000
    case neg =>
      have d : decide ((10000 : Int) < (m : Int)) = true := by simp; omega
      have HF : Hid (-1 = runA A P) := by unfold Hid runA; rw [if_neg (fun h => g (by have h2 := h.2; rw [Z7.out] at h2; exact h2))]
      go_wp2
      go_ret
      exact ⟨ret_int HF.out, HX1.out⟩
    have d : decide ((10000 : Int) < (m : Int)) = false := by simp; omega
    have HRA : Hid (runA A P = runK A (wsA A) P m) := by unfold Hid runA; rw [if_pos ⟨HVS.out, by rw [Z7.out]; exact g⟩, Z7.out]
    obtain ⟨gb, hag, hcg⟩ := HSO.out.cell (i := 0) (by simp; omega)
    subst hag
    rw [nat_range bl (by omega)] at hcg
    unfold ptr at hcg
    have hn' : (0 : Int) < ((A.pa.length : Nat) : Int) := by omega
    clear hv
    go_wp2
    go_loopw [6, 8, 24] (fun st ed jv wr => ∃ j : Nat, j ≤ m ∧ jv = .int .i64 j ∧ Hid (wr = w') ∧ ∃ t : Nat, t < A.pa.length ∧ st = .pointer (some ⟨bl t, 0, none⟩) ∧ Hid (runK A (wsA A) P j = (t : Int))) (fun _ _ jv _ => m - (intOf jv).toNat)
    case atStart => exact ⟨0, Nat.zero_le _, rfl, rfl, 0, by omega, rfl, rfl⟩
    obtain ⟨j, hjm, rfl, HWR, t, ht, rfl, HRK⟩ := hrel
    have hwr := HWR.out
    subst hwr
    by_cases hj : j < m
    · have hj' : (j : Int) < m := by omega
      obtain ⟨b7, o7, e7, _, hb7, hc7⟩ := hk7 (by omega)
      subst e7
      have x7 := cell_next HX1.out hb7 (hc7 j hj)
      have HST : Hid (t < A.pa.length) := ht
      have HRS : Hid (runK A (wsA A) P (j + 1) = stepI A t (iat P j)) := by unfold Hid; rw [runK, if_neg (by rw [HRK.out]; omega), HRK.out, step_same HVS.out ht]
      have HGO : Hid (goOf A A.pa.length t (iat P j) < A.pa.length) := (go_lw (trie_valid HV.out) ht _).2
      generalize iat P j = e at *
      clear hc7 hk7
      go_wp2_with fail
      refine (step_any A A.pa.length t e wr bl fl mv _ (trie_valid HV.out) HTR.out (vi_root HV.out).1 (vi_root HV.out).2 HST.out).mono ?_
      rintro r w5 ⟨rfl, rfl⟩
      rcases stepV_num (A := A) bl t e with ⟨h1, h2⟩ | ⟨h1, h2⟩
      · have HF : Hid (-1 = runA A P) := by
          unfold Hid
          have := runK_neg (A := A) (ws := wsA A) (P := P) (k := j) (d := m - (j + 1)) (by rw [HRS.out, h2]; omega)
          rw [show j + 1 + (m - (j + 1)) = m by omega] at this
          rw [HRA.out, this]
        rw [h1]
        clear h1 h2
        go_wp2
        go_ret
        exact ⟨ret_int HF.out, HX1.out⟩
      · have HR2 : Hid (runK A (wsA A) P (j + 1) = (goOf A A.pa.length t e : Int)) := by unfold Hid; rw [HRS.out, h2]
        rw [h1]
        unfold ptr
        clear h1 h2
        go_wp2
        go_roundw
        case rel => exact ⟨j + 1, by omega, by go_num, HWR, _, HGO.out, rfl, HR2⟩
        case measure => simp [intOf]; omega
    · obtain rfl : j = m := by omega
      have hnd := HTR.out.nd t ht
      have hnum : numTo A.pa.length t = (t : Int) := by unfold numTo; rw [if_pos ht]
      rw [hnum] at hnd
      have k0 : wr.cell? ⟨bl t, 0, none⟩ = some (.int .i64 (t : Int)) := hnd.cell (i := 0) rfl
      have HF : Hid ((t : Int) = runA A P) := by unfold Hid; rw [HRA.out, HRK.out]
      clear hnd hj
      go_wp2
      go_ret
      exact ⟨ret_int HF.out, HX1.out⟩
end Go.Proofs.Ytifefpeefcjabaa
