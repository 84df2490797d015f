import Derived.Test.YtifefpeefcjabaaAH
namespace Go.Proofs.Ytifefpeefcjabaa
open Go.RowKit
set_option linter.unusedVariables false
set_option maxRecDepth 100000

def wsA (A : Au) : List (List Int) := (spellK A A.pa.length).1
theorem spell_zero {A : Au} {s : Nat} {ws : List (List Int)} (h : spellK A (s + 1) = (ws, true)) : wd ws 0 = [] := by
  induction s generalizing ws with
  | zero =>
    rw [spellK] at h
    split at h
    · obtain ⟨rfl, _⟩ := Prod.mk.inj h
      rfl
    · obtain ⟨_, h2⟩ := Prod.mk.inj h
      simp at h2
  | succ s ih =>
    rw [spellK] at h
    split at h
    · rename_i hc
      simp only [Bool.and_eq_true] at hc
      have h1 := ih (ws := (spellK A (s + 1)).1) (by rw [← hc.1])
      have hl := spell_cnt.1 hc.1
      obtain ⟨rfl, _⟩ := Prod.mk.inj h
      rw [wd_snoc (by omega)]
      exact h1
    · obtain ⟨_, h2⟩ := Prod.mk.inj h
      simp at h2
theorem ws_of {A : Au} (h : validS A = true) : WsOk A (wsA A) A.pa.length ∧ A.la.length = A.pa.length ∧ A.fa.length = A.pa.length ∧ 1 ≤ A.pa.length := by
  unfold validS at h
  simp only [Bool.and_eq_true] at h
  obtain ⟨h1, h2, h3, h4, h5, h6⟩ := h
  unfold lensOk at h1
  simp only [Bool.and_eq_true, decide_eq_true_eq, beq_iff_eq] at h1
  obtain ⟨q1, q2, q3, q4, q5, q6⟩ := h1
  have hs : spellK A A.pa.length = (wsA A, true) := by rw [← h2]; rfl
  have hl : (wsA A).length = A.pa.length := spell_cnt.1 h2
  obtain ⟨m, hm⟩ : ∃ m, A.pa.length = m + 1 := ⟨A.pa.length - 1, by omega⟩
  have hz : wd (wsA A) 0 = [] := by rw [hm] at hs; exact spell_zero hs
  refine ⟨⟨hl, q5, q6, q2, spell_asc hs, spell_len hs, ?_⟩, q3, q4, q1⟩
  have : stW (wsA A) [] = ((0 : Nat) : Int) := findA_one (Nat.le_refl _) (by omega) (by rw [hz]; rfl) (fun b _ hb => absurd hb (Nat.not_lt_zero _))
  rw [this]
  omega
def stepA (A : Au) (s e : Int) : Int := if validS A = true then stepS A (wsA A) s e else -1
theorem lngW_ge (ws : List (List Int)) (x : List Int) (k f : Nat) : -1 ≤ lngW ws x k f := by
  induction f generalizing k with
  | zero => rw [lngW]; omega
  | succ f ih =>
    rw [lngW]
    split
    · omega
    · exact ih _
theorem stepS_ge (A : Au) (ws : List (List Int)) (s e : Int) : -1 ≤ stepS A ws s e := by
  unfold stepS
  split
  · omega
  · split
    · omega
    · split
      · omega
      · exact lngW_ge _ _ _ _
def runK (A : Au) (ws : List (List Int)) (P : List Int) : Nat → Int
  | 0 => 0
  | k + 1 => if runK A ws P k < 0 then -1 else stepS A ws (runK A ws P k) (iat P k)
theorem runK_neg {A : Au} {ws : List (List Int)} {P : List Int} {k d : Nat} (h : runK A ws P (k + 1) < 0) : runK A ws P (k + 1 + d) = -1 := by
  induction d with
  | zero =>
    have : -1 ≤ runK A ws P (k + 1) := by
      rw [runK]
      split
      · omega
      · exact stepS_ge _ _ _ _
    rw [Nat.add_zero]
    omega
  | succ d ih => rw [← Nat.add_assoc, runK, ih, if_pos (by omega)]
def runA (A : Au) (P : List Int) : Int := if validS A = true ∧ P.length ≤ 10000 then runK A (wsA A) P P.length else -1

set_option maxHeartbeats 8000000 in
theorem specStep_any (B : Nat) (v0 v1 v2 v3 v4 : Value) (A : Au) (s e : Int) (w : World) (h0 : HA B w v0 v1 v2 v3 v4 A) :
    Calls Try.prog 21 #[.agg #[v0, v1, v2, v3, v4], .int .i64 s, .int .i64 e] w fun r w' => r = .returned (.int .i64 (stepA A s e)) ∧ Nx w w' := by
  have HH : Hid (HA B w v0 v1 v2 v3 v4 A) := h0
  obtain ⟨⟨a0, c0, rfl, hn0, hk0⟩, ⟨a1, c1, rfl, hn1, hk1⟩, ⟨a2, c2, rfl, hn2, hk2⟩, ⟨a3, c3, rfl, hn3, hk3⟩, ⟨a4, c4, rfl, hn4, hk4⟩⟩ := h0
  clear hk0 hk1 hk2 hk3 hk4
  have HVF : Hid (validS A = true → A.pa.length = A.la.length ∧ A.pa.length = A.fa.length ∧ A.pa.length = A.mu.length ∧ A.pa.length = A.bd.length ∧ A.pa.length ≤ 2000) := fun h => ⟨(ws_of h).2.1.symm, (ws_of h).2.2.1.symm, (ws_of h).1.m.symm, (ws_of h).1.b.symm, (ws_of h).1.n⟩
  have HWS : Hid (validS A = true → WsOk A (wsA A) A.pa.length) := fun h => (ws_of h).1
  generalize hz0 : A.pa.length = n0 at *
  have Z0 : Hid (A.pa.length = n0) := hz0
  clear hz0
  generalize hz1 : A.la.length = n1 at *
  have Z1 : Hid (A.la.length = n1) := hz1
  clear hz1
  generalize hz2 : A.fa.length = n2 at *
  have Z2 : Hid (A.fa.length = n2) := hz2
  clear hz2
  generalize hz3 : A.mu.length = n3 at *
  have Z3 : Hid (A.mu.length = n3) := hz3
  clear hz3
  generalize hz4 : A.bd.length = n4 at *
  have Z4 : Hid (A.bd.length = n4) := hz4
  clear hz4
  go_enter Try.func21, Try.ntmps21
  go_wp2_with fail
  refine (specValidA_any B _ _ _ _ _ A _ (by exact HH.out.next (box1 _ _))).mono ?_
  rintro r w1 ⟨rfl, hx⟩
  have BA := (Blk.new w #[.slice a0 n0 c0, .slice a1 n1 c1, .slice a2 n2 c2, .slice a3 n3 c3, .slice a4 n4 c4] 27 _ rfl).next hx
  have HX : Hid (Nx w w1) := (box1 _ _).trans hx
  clear hx
  cases hvb : validS A
  case false =>
    have HF : Hid (-1 = stepA A s e) := by unfold Hid; simp [stepA, hvb]
    clear hvb
    go_wp2
    go_ret
    exact ⟨ret_int HF.out, HX.out⟩
  have HF : Hid (stepA A s e = stepS A (wsA A) s e) := by unfold Hid; simp [stepA, hvb]
  obtain ⟨e1, e2, e3, e4, e5⟩ := HVF.out hvb
  have HWK : Hid (WsOk A (wsA A) n0) := HWS.out hvb
  subst e1 e2 e3 e4
  clear hvb HVF HWS
  have BD := BA.drew
  have HWL : Hid ((spellK A A.pa.length).1.length = n0) := HWK.out.l
  have k0 := BA.cell (i := 0) rfl
  have k1 := BA.cell (i := 1) rfl
  have k2 := BA.cell (i := 2) rfl
  have k3 := BA.cell (i := 3) rfl
  have k4 := BA.cell (i := 4) rfl
  clear BA
  go_wp2
  go_region_with (first
    | (go_at_call 43; refine (l3Spell_any B _ _ _ _ _ A _ (by exact HH.out.next HX.out.drew) (by rw [Z1.out, Z0.out]) (by rw [Z0.out]; exact e5)).mono ?_; rintro r w2 ⟨⟨vw, rfl, ho⟩, hx2⟩; obtain ⟨aw, cw, hvw⟩ := ho.slice; rw [HWL.out] at hvw; subst hvw; have BE := BD.next hx2; have y0 := BE.cell (i := 0) rfl; have y1 := BE.cell (i := 1) rfl; have y2 := BE.cell (i := 2) rfl; have y3 := BE.cell (i := 3) rfl; have y4 := BE.cell (i := 4) rfl)
    | (go_at_call 47; refine (l3Step_any B _ _ _ _ _ _ _ _ _ _ _ A (wsA A) s e _ (by exact (HH.out.next HX.out.drew).next hx2) (by exact ho.held) HWK.out).mono ?_; rintro r w3 ⟨rfl, hx3⟩))
  all_goals go_wp2
  all_goals
    go_ret
    exact ⟨ret_int HF.out.symm, (HX.out.drew.trans hx2).trans hx3⟩

set_option maxHeartbeats 8000000 in
theorem specRun_any (B : Nat) (v0 v1 v2 v3 v4 vp : Value) (A : Au) (P : List Int) (w : World) (h0 : HA B w v0 v1 v2 v3 v4 A) (hp : HInts B w vp P) :
    Calls Try.prog 23 #[.agg #[v0, v1, v2, v3, v4], vp] w fun r w' => r = .returned (.int .i64 (runA A P)) ∧ Nx w w' := by
  obtain ⟨a7, c7, rfl, hn7, hk7⟩ := hp
  unfold maxLen at hn7
  have HH : Hid (HA B w v0 v1 v2 v3 v4 A) := h0
  obtain ⟨⟨a0, c0, rfl, hn0, hk0⟩, ⟨a1, c1, rfl, hn1, hk1⟩, ⟨a2, c2, rfl, hn2, hk2⟩, ⟨a3, c3, rfl, hn3, hk3⟩, ⟨a4, c4, rfl, hn4, hk4⟩⟩ := h0
  clear hk0 hk1 hk2 hk3 hk4
  have HVF : Hid (validS A = true → A.pa.length = A.la.length ∧ A.pa.length = A.fa.length ∧ A.pa.length = A.mu.length ∧ A.pa.length = A.bd.length ∧ A.pa.length ≤ 2000) := fun h => ⟨(ws_of h).2.1.symm, (ws_of h).2.2.1.symm, (ws_of h).1.m.symm, (ws_of h).1.b.symm, (ws_of h).1.n⟩
  have HWS : Hid (validS A = true → WsOk A (wsA A) A.pa.length) := fun h => (ws_of h).1
  generalize hz0 : A.pa.length = n0 at *
  have Z0 : Hid (A.pa.length = n0) := hz0
  clear hz0
  generalize hz1 : A.la.length = n1 at *
  have Z1 : Hid (A.la.length = n1) := hz1
  clear hz1
  generalize hz2 : A.fa.length = n2 at *
  have Z2 : Hid (A.fa.length = n2) := hz2
  clear hz2
  generalize hz3 : A.mu.length = n3 at *
  have Z3 : Hid (A.mu.length = n3) := hz3
  clear hz3
  generalize hz4 : A.bd.length = n4 at *
  have Z4 : Hid (A.bd.length = n4) := hz4
  clear hz4
  generalize hz7 : P.length = n7 at *
  have Z7 : Hid (P.length = n7) := hz7
  clear hz7
  go_enter Try.func23, Try.ntmps23
  go_wp2_with fail
  refine (specValidA_any B _ _ _ _ _ A _ (by exact HH.out.next (box1 _ _))).mono ?_
  rintro r w1 ⟨rfl, hx⟩
  have BA := (Blk.new w #[.slice a0 n0 c0, .slice a1 n1 c1, .slice a2 n2 c2, .slice a3 n3 c3, .slice a4 n4 c4] 27 _ rfl).next hx
  have HX : Hid (Nx w w1) := (box1 _ _).trans hx
  clear hx
  cases hvb : validS A
  case false =>
    have HF : Hid (-1 = runA A P) := by unfold Hid; simp [runA, hvb]
    clear hvb
    go_wp2
    go_ret
    exact ⟨ret_int HF.out, HX.out⟩
  by_cases g1 : n7 ≤ 10000
  case neg =>
    have f1 : decide (10000 < (n7 : Int)) = true := by simp; omega
    have HF : Hid (-1 = runA A P) := by unfold Hid runA; rw [if_neg (by rw [Z7.out]; omega)]
    clear hvb g1
    go_wp2
    go_ret
    exact ⟨ret_int HF.out, HX.out⟩
  have f1 : decide (10000 < (n7 : Int)) = false := by simp; omega
  have HF : Hid (runA A P = runK A (wsA A) P n7) := by unfold Hid runA; rw [if_pos ⟨hvb, by rw [Z7.out]; exact g1⟩, Z7.out]
  obtain ⟨e1, e2, e3, e4, e5⟩ := HVF.out hvb
  have HWK : Hid (WsOk A (wsA A) n0) := HWS.out hvb
  subst e1 e2 e3 e4
  clear hvb HVF HWS
  have HWL : Hid ((spellK A A.pa.length).1.length = n0) := HWK.out.l
  have k0 := BA.cell (i := 0) rfl
  have k1 := BA.cell (i := 1) rfl
  have k2 := BA.cell (i := 2) rfl
  have k3 := BA.cell (i := 3) rfl
  have k4 := BA.cell (i := 4) rfl
  go_wp2_with fail
  refine (l3Spell_any B _ _ _ _ _ A _ (by exact HH.out.next HX.out) (by rw [Z1.out, Z0.out]) (by rw [Z0.out]; exact e5)).mono ?_
  rintro r w2 ⟨⟨vw, rfl, ho⟩, hx2⟩
  obtain ⟨aw, cw, hvw⟩ := ho.slice
  rw [HWL.out] at hvw
  subst hvw
  have HOW : Hid (OwnW w1.heap.size w2 (.slice aw n0 cw) (wsA A)) := ho
  have HX2 : Hid (Nx w w2) := HX.out.trans hx2
  have BA2 := BA.next hx2
  have HBA : Hid (Blk w2 w.heap.size #[.slice a0 n0 c0, .slice a1 n0 c1, .slice a2 n0 c2, .slice a3 n0 c3, .slice a4 n0 c4]) := BA2
  clear ho hx2 BA BA2 k0 k1 k2 k3 k4 f1
  go_wp2
  go_loopw [6, 7] (fun s i wr => ∃ k : Nat, k ≤ n7 ∧ i = .int .i64 k ∧ s = .int .i64 (runK A (wsA A) P k) ∧ Hid (0 ≤ runK A (wsA A) P k) ∧ Hid (Nx w2 wr)) (fun _ i _ => n7 - (intOf i).toNat)
  case atStart => exact ⟨0, Nat.zero_le _, rfl, rfl, Int.le_refl _, Nx.refl _⟩
  obtain ⟨k, hkn, rfl, rfl, HR, HN⟩ := hrel
  have HW : Hid (Nx w wr) := HX2.out.trans HN.out
  by_cases hlt : k < n7
  · have hlt' : (k : Int) < n7 := by omega
    obtain ⟨b7, o7, ha7, _, hb7, hc7⟩ := hk7 (by omega)
    subst ha7
    have x0 := cell_regrown (cell_next HW.out hb7 (hc7 k hlt))
    have BW := HBA.out.next HN.out
    have k0 := cell_regrown (BW.cell (i := 0) rfl)
    have k1 := cell_regrown (BW.cell (i := 1) rfl)
    have k2 := cell_regrown (BW.cell (i := 2) rfl)
    have k3 := cell_regrown (BW.cell (i := 3) rfl)
    have k4 := cell_regrown (BW.cell (i := 4) rfl)
    have HRS : Hid (runK A (wsA A) P (k + 1) = stepS A (wsA A) (runK A (wsA A) P k) (iat P k)) := by unfold Hid; rw [runK, if_neg (by have := HR.out; omega)]
    have HNG : Hid (runK A (wsA A) P (k + 1) < 0 → -1 = runA A P) := fun h => by
      have := runK_neg (d := n7 - (k + 1)) h
      rw [show k + 1 + (n7 - (k + 1)) = n7 by omega] at this
      rw [HF.out, this]
    generalize hrk : runK A (wsA A) P k = rk at *
    generalize hpk : iat P k = pk at *
    have CG : Hid (∀ d os, Calls Try.prog 47 #[.agg #[.slice a0 n0 c0, .slice a1 n0 c1, .slice a2 n0 c2, .slice a3 n0 c3, .slice a4 n0 c4], .slice aw n0 cw, .int .i64 rk, .int .i64 pk] (Sort.grow (redrawn wr d) os) fun e w'' => e = .returned (.int .i64 (runK A (wsA A) P (k + 1))) ∧ ∃ p : Regrown, w'' = Sort.grow (redrawn wr p.d) p.os) := by
      intro d os
      rw [HRS.out]
      exact Calls.regrown_of (l3Step_any B w1.heap.size _ _ _ _ _ _ _ _ _ _ A (wsA A) rk pk _ ((HH.out.next HW.out).next (below_regrown wr d os)) (((HOW.out.next HN.out).held).next (below_regrown wr d os)) HWK.out)
    clear hc7 BW hrk hpk hk7
    generalize hr2 : runK A (wsA A) P (k + 1) = r2 at *
    have HR2 : Hid (runK A (wsA A) P (k + 1) = r2) := hr2
    clear hr2
    go_wp2
    refine wp_region_quiet_below (by kernel_rfl) (by kernel_rfl) ?_
    repeat (go_big_quiet_step (exact CG.out _ _))
    refine wpQuiet_nil ?_
    intro _ hw'
    obtain ⟨⟨dq, osq⟩, hw''⟩ := hw'
    subst hw''
    have HB : Hid (Nx wr (Sort.grow (redrawn wr dq) osq)) := below_regrown wr dq osq
    by_cases g2 : r2 < 0
    · have f2 : decide (r2 < 0) = true := by simpa using g2
      have HF2 : Hid (-1 = runA A P) := HNG.out g2
      clear g2
      go_wp2
      go_ret
      exact ⟨ret_int HF2.out, HW.out.trans HB.out⟩
    · have f2 : decide (r2 < 0) = false := by simpa using g2
      have HR3 : Hid (0 ≤ runK A (wsA A) P (k + 1)) := by unfold Hid; rw [HR2.out]; omega
      clear g2
      go_wp2
      go_roundw
      case rel => exact ⟨k + 1, by omega, by go_num, by rw [HR2.out], HR3, HN.out.trans HB.out⟩
      case measure => simp [intOf]; omega
  have ek : n7 = k := by omega
  subst ek
  clear hlt hkn hk7
  go_wp2
  go_ret
  exact ⟨ret_int HF.out.symm, HW.out⟩
end Go.Proofs.Ytifefpeefcjabaa
