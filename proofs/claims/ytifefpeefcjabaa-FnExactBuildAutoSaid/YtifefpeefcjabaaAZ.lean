import Derived.Test.YtifefpeefcjabaaAY
namespace Go.Proofs.Ytifefpeefcjabaa
open Go.RowKit
set_option linter.unusedVariables false
set_option maxRecDepth 100000

theorem new_two (W : World) (u v : Value) (t : TypeId) : (W.alloc (.cells #[u, v] t)).cell? ⟨W.heap.size, 0, none⟩ = some u ∧ (W.alloc (.cells #[u, v] t)).cell? ⟨W.heap.size, 0 + 1, none⟩ = some v := by
  exact ⟨(Blk.new W #[u, v] t _ rfl).cell (i := 0) rfl, (Blk.new W #[u, v] t _ rfl).cell (i := 0 + 1) rfl⟩

set_option maxHeartbeats 8000000 in
theorem validLists_any (B : Nat) (v0 v1 v2 v3 v4 : Value) (A : Au) (w : World) (h0 : HA B w v0 v1 v2 v3 v4 A) :
    Calls Try.prog 63 #[.agg #[v0, v1, v2, v3, v4]] w fun e w' => e = .returned (.bool (vlI A)) ∧ Nx w w' := by
  obtain ⟨⟨a0, c0, rfl, hn0, hk0⟩, ⟨a1, c1, rfl, hn1, hk1⟩, ⟨a2, c2, rfl, hn2, hk2⟩, ⟨a3, c3, rfl, hn3, hk3⟩, ⟨a4, c4, rfl, hn4, hk4⟩⟩ := h0
  unfold maxLen at hn0 hn1 hn2 hn3 hn4
  generalize hz0 : A.pa.length = n0 at *
  have Z0 : Hid (A.pa.length = n0) := hz0
  clear hz0
  generalize hz1 : A.la.length = n1 at *
  have Z1 : Hid (A.la.length = n1) := hz1
  clear hz1
  generalize hz2 : A.fa.length = n2 at *
  have Z2 : Hid (A.fa.length = n2) := hz2
  clear hz2
  generalize hz3 : A.mu.length = n3 at *
  have Z3 : Hid (A.mu.length = n3) := hz3
  clear hz3
  generalize hz4 : A.bd.length = n4 at *
  have Z4 : Hid (A.bd.length = n4) := hz4
  clear hz4
  by_cases e1 : 1 ≤ n0
  case neg =>
    have d1 : decide ((n0 : Int) < 1) = true := by simp; omega
    have HF : Hid (false = vlI A) := vl_len (by unfold lensOk; rw [Z0.out, Z1.out, Z2.out, Z3.out, Z4.out]; simp; omega)
    go_enter Try.func63, Try.ntmps63
    go_wp2
    go_ret
    exact ⟨ret_bool HF.out, box1 _ _⟩
  have d1 : decide ((n0 : Int) < 1) = false := by simp; omega
  by_cases e2 : n0 ≤ 2000
  case neg =>
    have d2 : decide (2000 < (n0 : Int)) = true := by simp; omega
    have HF : Hid (false = vlI A) := vl_len (by unfold lensOk; rw [Z0.out, Z1.out, Z2.out, Z3.out, Z4.out]; simp; omega)
    go_enter Try.func63, Try.ntmps63
    go_wp2
    go_ret
    exact ⟨ret_bool HF.out, box1 _ _⟩
  have d2 : decide (2000 < (n0 : Int)) = false := by simp; omega
  by_cases g1 : n0 = n1
  case neg =>
    have q1 : ((n1 : Int) != (n0 : Int)) = true := by simp; omega
    have HF : Hid (false = vlI A) := vl_len (by unfold lensOk; rw [Z0.out, Z1.out, Z2.out, Z3.out, Z4.out]; simp; omega)
    go_enter Try.func63, Try.ntmps63
    go_wp2
    go_ret
    exact ⟨ret_bool HF.out, box1 _ _⟩
  subst g1
  have q1 : ((n0 : Int) != (n0 : Int)) = false := by simp
  by_cases g2 : n0 = n2
  case neg =>
    have q2 : ((n2 : Int) != (n0 : Int)) = true := by simp; omega
    have HF : Hid (false = vlI A) := vl_len (by unfold lensOk; rw [Z0.out, Z1.out, Z2.out, Z3.out, Z4.out]; simp; omega)
    go_enter Try.func63, Try.ntmps63
    go_wp2
    go_ret
    exact ⟨ret_bool HF.out, box1 _ _⟩
  subst g2
  have q2 : ((n0 : Int) != (n0 : Int)) = false := by simp
  by_cases g3 : n0 = n3
  case neg =>
    have q3 : ((n3 : Int) != (n0 : Int)) = true := by simp; omega
    have HF : Hid (false = vlI A) := vl_len (by unfold lensOk; rw [Z0.out, Z1.out, Z2.out, Z3.out, Z4.out]; simp; omega)
    go_enter Try.func63, Try.ntmps63
    go_wp2
    go_ret
    exact ⟨ret_bool HF.out, box1 _ _⟩
  subst g3
  have q3 : ((n0 : Int) != (n0 : Int)) = false := by simp
  by_cases g4 : n0 = n4
  case neg =>
    have q4 : ((n4 : Int) != (n0 : Int)) = true := by simp; omega
    have HF : Hid (false = vlI A) := vl_len (by unfold lensOk; rw [Z0.out, Z1.out, Z2.out, Z3.out, Z4.out]; simp; omega)
    go_enter Try.func63, Try.ntmps63
    go_wp2
    go_ret
    exact ⟨ret_bool HF.out, box1 _ _⟩
  subst g4
  have q4 : ((n0 : Int) != (n0 : Int)) = false := by simp
  have HL : Hid (lensOk A = true) := by unfold Hid lensOk; rw [Z0.out, Z1.out, Z2.out, Z3.out, Z4.out]; simp; omega
  have HVD : Hid (vlI A = allN n0 (vlAt A)) := by unfold Hid vlI; rw [HL.out, Z0.out, Bool.true_and]
  have HFB : Hid (∀ k, k < n0 → vlAt A k = false → false = vlI A) := fun k hk h => by rw [HVD.out, allN_no hk h]
  obtain ⟨b0, o0, ha0, _, hb0, hc0⟩ := hk0 (by omega)
  obtain ⟨b1, o1, ha1, _, hb1, hc1⟩ := hk1 (by omega)
  obtain ⟨b3, o3, ha3, _, hb3, hc3⟩ := hk3 (by omega)
  obtain ⟨b4, o4, ha4, _, hb4, hc4⟩ := hk4 (by omega)
  subst ha0 ha1 ha3 ha4
  have HC0 : Hid (∀ i, i < n0 → w.cell? ⟨b0, o0 + i, none⟩ = some (.int .i64 (iat A.pa i))) := hc0
  have HC1 : Hid (∀ i, i < n0 → w.cell? ⟨b1, o1 + i, none⟩ = some (.int .i64 (iat A.la i))) := hc1
  have HC3 : Hid (∀ i, i < n0 → w.cell? ⟨b3, o3 + i, none⟩ = some (.int .i64 (iat A.mu i))) := hc3
  have hx0 : Nx w (w.alloc (.cells #[.slice (some ⟨b0, o0, none⟩) n0 c0, .slice (some ⟨b1, o1, none⟩) n0 c1, .slice a2 n0 c2, .slice (some ⟨b3, o3, none⟩) n0 c3, .slice (some ⟨b4, o4, none⟩) n0 c4] 27)) := box1 _ _
  have x0 := cell_next hx0 hb0 (HC0.out 0 (by omega))
  have x1 := cell_next hx0 hb1 (HC1.out 0 (by omega))
  have x3 := cell_next hx0 hb3 (HC3.out 0 (by omega))
  have x4 := cell_next hx0 hb4 (hc4 0 (by omega))
  rw [Nat.add_zero] at x0 x1 x3 x4
  have hn00 : (0 : Int) < n0 := by omega
  clear hc0 hc1 hc3 hc4 hk0 hk1 hk2 hk3 hk4 hx0
  by_cases r0 : iat A.pa 0 = -1
  case neg =>
    have fr0 : (iat A.pa 0 != -1) = true := by simpa using r0
    have HF : Hid (false = vlI A) := HFB.out 0 (by omega) (by unfold vlAt; simp; omega)
    go_enter Try.func63, Try.ntmps63
    go_wp2
    go_ret
    exact ⟨ret_bool HF.out, box1 _ _⟩
  have fr0 : (iat A.pa 0 != -1) = false := by simpa using r0
  by_cases r1 : iat A.la 0 = -1
  case neg =>
    have fr1 : (iat A.la 0 != -1) = true := by simpa using r1
    have HF : Hid (false = vlI A) := HFB.out 0 (by omega) (by unfold vlAt; simp; omega)
    go_enter Try.func63, Try.ntmps63
    go_wp2
    go_ret
    exact ⟨ret_bool HF.out, box1 _ _⟩
  have fr1 : (iat A.la 0 != -1) = false := by simpa using r1
  by_cases r3 : iat A.mu 0 = -1
  case neg =>
    have fr3 : (iat A.mu 0 != -1) = true := by simpa using r3
    have HF : Hid (false = vlI A) := HFB.out 0 (by omega) (by unfold vlAt; simp; omega)
    go_enter Try.func63, Try.ntmps63
    go_wp2
    go_ret
    exact ⟨ret_bool HF.out, box1 _ _⟩
  have fr3 : (iat A.mu 0 != -1) = false := by simpa using r3
  cases r4 : bat A.bd 0
  case true =>
    have HF : Hid (false = vlI A) := HFB.out 0 (by omega) (by unfold vlAt; simp [r4])
    rw [r4] at x4
    clear r0 r1 r3 r4
    go_enter Try.func63, Try.ntmps63
    go_wp2
    go_ret
    exact ⟨ret_bool HF.out, box1 _ _⟩
  rw [r4] at x4
  have HR : Hid (vlAt A 0 = true) := by unfold Hid vlAt; simp [r0, r1, r3, r4]
  clear r0 r1 r3 r4
  go_enter Try.func63, Try.ntmps63
  go_wp2
  clear x0 x1 x3 x4 fr0 fr1 fr3 d1 d2 q1 q2 q3 q4
  go_loopw [4] (fun i wr => ∃ k : Nat, 1 ≤ k ∧ k ≤ n0 ∧ i = .int .i64 k ∧ Hid (allTo (vlAt A) k) ∧ Hid (Nx (w.alloc (.cells #[.slice (some ⟨b0, o0, none⟩) n0 c0, .slice (some ⟨b1, o1, none⟩) n0 c1, .slice a2 n0 c2, .slice (some ⟨b3, o3, none⟩) n0 c3, .slice (some ⟨b4, o4, none⟩) n0 c4] 27)) wr)) (fun i _ => n0 - (intOf i).toNat)
  case atStart => exact ⟨1, Nat.le_refl _, e1, rfl, allTo_succ (allTo_zero _) HR.out, Nx.refl _⟩
  obtain ⟨k, hk1, hkn, rfl, HA', HN⟩ := hrel
  have HW : Hid (Nx w wr) := (box1 _ _).trans HN.out
  by_cases hlt : k < n0
  · have hlt' : (k : Int) < n0 := by omega
    obtain ⟨j, rfl⟩ : ∃ j, k = j + 1 := ⟨k - 1, by omega⟩
    have hjl : (j : Int) < n0 := by omega
    have hwj := wrapJ j (by omega)
    have BW := (Blk.new w #[.slice (some ⟨b0, o0, none⟩) n0 c0, .slice (some ⟨b1, o1, none⟩) n0 c1, .slice a2 n0 c2, .slice (some ⟨b3, o3, none⟩) n0 c3, .slice (some ⟨b4, o4, none⟩) n0 c4] 27 _ rfl).next HN.out
    have k0 := BW.cell (i := 0) rfl
    have k1 := BW.cell (i := 1) rfl
    have k3 := BW.cell (i := 3) rfl
    have x0 := cell_next HW.out hb0 (HC0.out (j + 1) hlt)
    have x1 := cell_next HW.out hb1 (HC1.out (j + 1) hlt)
    have x3 := cell_next HW.out hb3 (HC3.out (j + 1) hlt)
    have y0 := cell_next HW.out hb0 (HC0.out j (by omega))
    have y1 := cell_next HW.out hb1 (HC1.out j (by omega))
    have HAD : Hid (vlAt A (j + 1) = (okR A (j + 1) && (muB (iat A.mu (j + 1)) && pairAsc A (j + 1)))) := by unfold Hid vlAt; rw [if_neg (by omega)]
    have HPD : Hid (pairAsc A (j + 1) = (decide (iat A.pa j < iat A.pa (j + 1)) || (decide (iat A.pa j = iat A.pa (j + 1)) && decide (iat A.la j < iat A.la (j + 1))))) := rfl
    have HRD : Hid (okR A (j + 1) = (decide (0 ≤ iat A.pa (j + 1)) && (decide (iat A.pa (j + 1) < ((j + 1 : Nat) : Int)) && (decide (0 ≤ iat A.la (j + 1)) && decide (iat A.la (j + 1) < 4000))))) := rfl
    have HFK : Hid (vlAt A (j + 1) = false → false = vlI A) := HFB.out (j + 1) hlt
    clear BW
    generalize iat A.pa (j + 1) = p1 at *
    generalize iat A.la (j + 1) = l1 at *
    generalize iat A.mu (j + 1) = m1 at *
    generalize iat A.pa j = p0 at *
    generalize iat A.la j = l0 at *
    by_cases g1 : p1 < 0
    · have f1 : decide (p1 < 0) = true := by simpa using g1
      have HF : Hid (false = vlI A) := HFK.out (by rw [HAD.out, HRD.out]; simp; omega)
      clear g1
      go_wp2
      go_ret
      exact ⟨ret_bool HF.out, HW.out⟩
    have f1 : decide (p1 < 0) = false := by simpa using g1
    by_cases g2 : (j : Int) + 1 ≤ p1
    · have f2 : decide ((j : Int) + 1 ≤ p1) = true := by simpa using g2
      have HF : Hid (false = vlI A) := HFK.out (by rw [HAD.out, HRD.out]; simp; omega)
      clear g1 g2
      go_wp2
      go_ret
      exact ⟨ret_bool HF.out, HW.out⟩
    have f2 : decide ((j : Int) + 1 ≤ p1) = false := by simpa using g2
    cases g3 : noE l1
    case true =>
      have HF : Hid (false = vlI A) := HFK.out (by rw [HAD.out, HRD.out]; unfold noE at g3; simp at g3 ⊢; omega)
      clear g1 g2
      go_wp2_with (go_at_call 66; refine (noEdge_any _ _).mono ?_; rintro e w' ⟨rfl, rfl⟩; rw [g3])
      go_ret
      exact ⟨ret_bool HF.out, HW.out⟩
    have HOK : Hid (okR A (j + 1) = true) := by unfold Hid; rw [HRD.out]; unfold noE at g3; simp at g3 ⊢; omega
    cases g4 : muB m1
    case false =>
      have HF : Hid (false = vlI A) := HFK.out (by rw [HAD.out, g4]; simp)
      clear g1 g2
      go_wp2_with (first | (go_at_call 66; refine (noEdge_any _ _).mono ?_; rintro e w' ⟨rfl, rfl⟩; rw [g3]) | (go_at_call 75; refine (validMust_any _ _).mono ?_; rintro e w' ⟨rfl, rfl⟩; rw [g4]))
      go_ret
      exact ⟨ret_bool HF.out, HW.out⟩
    have HAE : Hid (vlAt A (j + 1) = pairAsc A (j + 1)) := by unfold Hid; rw [HAD.out, HOK.out, g4]; rfl
    have HOA : Hid (decide (0 ≤ orI (cmpI p0 p1) (cmpI l0 l1)) = !pairAsc A (j + 1)) := by unfold Hid; rw [or_asc, HPD.out]
    clear g1 g2 HAD HPD HRD
    have ne0 := World.new_ne wr _ k0
    have hb5 : (0 : Int) ≤ (j : Int) + 1 := by omega
    have hb6 : (j : Int) + 1 < n0 := by omega
    have hb7 : (0 : Int) ≤ (j : Int) := by omega
    have ne1 := World.new_ne wr _ x0
    have ne2 := World.new_ne wr _ x1
    go_upto_region 11 with (first | (go_at_call 66; refine (noEdge_any _ _).mono ?_; rintro e w' ⟨rfl, hw'⟩; have hw2 := hw'.symm; subst hw2; rw [g3]) | (go_at_call 75; refine (validMust_any _ _).mono ?_; rintro e w' ⟨rfl, hw'⟩; have hw2 := hw'.symm; subst hw2; rw [g4]))
    go_cut [130] from 67 to 130 (fun s130 wc => s130 = .bool (!pairAsc A (j + 1)) ∧ Hid (Nx wr wc))
    case first =>
      go_region_held3 (fun w' => w'.cell? ⟨w.heap.size, 0, none⟩ = some (.slice (some ⟨b0, o0, none⟩) n0 c0) ∧ w'.cell? ⟨w.heap.size, 1, none⟩ = some (.slice (some ⟨b1, o1, none⟩) n0 c1) ∧ w'.cell? ⟨b0, o0 + (j + 1), none⟩ = some (.int .i64 p1) ∧ w'.cell? ⟨b1, o1 + (j + 1), none⟩ = some (.int .i64 l1) ∧ w'.cell? ⟨b0, o0 + j, none⟩ = some (.int .i64 p0) ∧ w'.cell? ⟨b1, o1 + j, none⟩ = some (.int .i64 l0)) (go_keep) (first
        | (go_at_call 77; refine (cmp_any _ _ _).mono ?_; rintro e w' ⟨rfl, hw'⟩; have hw2 := hw'.symm; subst hw2)
        | (go_at_call 76; refine (or_any _ 0 _ (cmpI p0 p1) (cmpI l0 l1) _ (by first | exact (new_two wr _ _ _).1 | exact (new_two wr.drew _ _ _).1) (by first | exact (new_two wr _ _ _).2 | exact (new_two wr.drew _ _ _).2)).mono ?_; rintro e w' ⟨rfl, hw'⟩; have hw2 := hw'.symm; subst hw2))
      all_goals go_wp2
      all_goals go_meet
      all_goals exact ⟨congrArg Value.bool HOA.out, by first | exact ((Nx.refl wr).alloc _).drew | exact (Nx.refl wr).drew.alloc _⟩
    case rest =>
    obtain ⟨hs, HC⟩ := hcut
    subst hs
    have HN2 : Hid (Nx (w.alloc (.cells #[.slice (some ⟨b0, o0, none⟩) n0 c0, .slice (some ⟨b1, o1, none⟩) n0 c1, .slice a2 n0 c2, .slice (some ⟨b3, o3, none⟩) n0 c3, .slice (some ⟨b4, o4, none⟩) n0 c4] 27)) wc) := HN.out.trans HC.out
    have HW2 : Hid (Nx w wc) := HW.out.trans HC.out
    clear x0 x1 x3 y0 y1 k0 k1 k3 ne0 ne1 ne2 HN HW HC HOA
    cases g5 : pairAsc A (j + 1)
    · have HF : Hid (false = vlI A) := HFK.out (by rw [HAE.out]; exact g5)
      go_wp2
      go_ret
      exact ⟨ret_bool HF.out, HW2.out⟩
    · have HF : Hid (vlAt A (j + 1) = true) := by unfold Hid; rw [HAE.out]; exact g5
      go_wp2
      go_roundw
      case rel => exact ⟨j + 1 + 1, by omega, by omega, by go_num, allTo_succ HA'.out HF.out, HN2⟩
      case measure => simp [intOf]; omega
  have ek : n0 = k := by omega
  subst ek
  have HF : Hid (true = vlI A) := by unfold Hid; rw [HVD.out, allN_yes (Nat.le_refl _) HA'.out]
  clear HA' hlt hkn
  go_wp2
  go_ret
  exact ⟨ret_bool HF.out, HW.out⟩
end Go.Proofs.Ytifefpeefcjabaa
