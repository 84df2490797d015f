import Derived.Test.YtifefpeefcjabaaAE
namespace Go.Proofs.Ytifefpeefcjabaa
open Go.RowKit
set_option linter.unusedVariables false
set_option maxRecDepth 100000

theorem HWords.at {B : Nat} {w : World} {a : Option Addr} {n c : Nat} {ws : List (List Int)} (h : HWords B w (.slice a n c) ws) (h0 : 0 < n) : ∃ b off, a = some ⟨b, off, none⟩ ∧ ∀ i, i < n → ∃ vi, w.cell? ⟨b, off + i, none⟩ = some vi ∧ HInts B w vi (wd ws i) ∧ CapOk vi := by
  obtain ⟨a', c', e, _, hk⟩ := h
  simp only [Value.slice.injEq] at e
  obtain ⟨rfl, rfl, rfl⟩ := e
  obtain ⟨b, off, ha, _, _, hc⟩ := hk h0
  exact ⟨b, off, ha, hc⟩
theorem spell_len {A : Au} {s : Nat} {ws : List (List Int)} (h : spellK A s = (ws, true)) : ∀ i, (wd ws i).length ≤ 402 := by
  induction s generalizing ws with
  | zero =>
    rw [spellK] at h
    obtain ⟨rfl, _⟩ := Prod.mk.inj h
    intro i
    simp [wd]
  | succ s ih =>
    rw [spellK] at h
    split at h
    · rename_i hc
      simp only [Bool.and_eq_true] at hc
      have h1 := ih (ws := (spellK A s).1) (by rw [← hc.1])
      obtain ⟨rfl, _⟩ := Prod.mk.inj h
      intro i
      by_cases e : i < (spellK A s).1.length
      · rw [wd_snoc e]; exact h1 i
      · by_cases e' : i = (spellK A s).1.length
        · rw [wd_end e']
          split
          · simp
          · rename_i hs
            have := hc.2
            unfold okS okW at this
            rw [if_neg hs] at this
            simp only [Bool.and_eq_true, decide_eq_true_eq] at this
            exact this.2.1
        · have : wd ((spellK A s).1 ++ [if s = 0 then [] else nw A (spellK A s).1 s]) i = [] := by
            simp [wd, List.getD, List.getElem?_eq_none (show ((spellK A s).1 ++ [if s = 0 then [] else nw A (spellK A s).1 s]).length ≤ i by simp; omega)]
          rw [this]
          simp
    · obtain ⟨_, h2⟩ := Prod.mk.inj h
      simp at h2

set_option maxHeartbeats 4000000 in
theorem l3Spell_any (B : Nat) (v0 v1 v2 v3 v4 : Value) (A : Au) (w : World) (h0 : HA B w v0 v1 v2 v3 v4 A) (hl : A.la.length = A.pa.length) (hn : A.pa.length ≤ 2000) :
    Calls Try.prog 43 #[.agg #[v0, v1, v2, v3, v4]] w fun e w' => (∃ v, e = .returned v ∧ OwnW w.heap.size w' v (spellK A A.pa.length).1) ∧ Nx w w' := by
  obtain ⟨ii, hi, hz0, hz1, hz2⟩ := info_parts infoWord
  obtain ⟨⟨a0, c0, rfl, hm0, hk0⟩, ⟨a1, c1, rfl, hm1, hk1⟩, h2, h3, h4⟩ := h0
  clear h2 h3 h4 hm0 hm1
  rw [hl] at hk1 ⊢
  generalize hz : A.pa.length = n at *
  clear hl
  clear hz
  have HO1 : Hid (OwnW (w.heap.size + 1) ((w.alloc (.cells #[.slice a0 n c0, .slice a1 n c1, v2, v3, v4] 27)).alloc (.cells #[] 57)) (.slice (some ⟨w.heap.size + 1, 0, none⟩) 0 0) []) := by
    unfold Hid
    have := ownW_none (w.heap.size + 1) (w.alloc (.cells #[.slice a0 n c0, .slice a1 n c1, v2, v3, v4] 27)) (by simp)
    simpa using this
  go_enter Try.func43, Try.ntmps43
  go_wp2
  go_loopw [3, 4, 5] (fun v i s5 wr => ∃ k : Nat, k ≤ n ∧ i = .int .i64 k ∧ Hid (∃ ws, spellK A k = (ws, true) ∧ ws.length = k ∧ OwnW (w.heap.size + 1) wr v ws) ∧ Hid (Nx (w.alloc (.cells #[.slice a0 n c0, .slice a1 n c1, v2, v3, v4] 27)) wr)) (fun _ i _ _ => n - (intOf i).toNat)
  case atStart => exact ⟨0, Nat.zero_le _, rfl, ⟨[], rfl, rfl, HO1.out⟩, box1 _ _⟩
  clear HO1
  obtain ⟨k, hkn, rfl, HP, HN⟩ := hrel
  have HW : Hid (Nx w wr) := (box1 _ _).trans HN.out
  have BA := (Blk.new w #[.slice a0 n c0, .slice a1 n c1, v2, v3, v4] 27 _ rfl).next HN.out
  have HBA : Hid (Blk wr w.heap.size #[.slice a0 n c0, .slice a1 n c1, v2, v3, v4]) := BA
  have HZ3 : Hid (w.heap.size + 1 ≤ wr.heap.size) := by have := HN.out.size; unfold Hid; simpa using this
  by_cases hlt : k < n
  · have hlt' : (k : Int) < n := by omega
    obtain ⟨b0, o0, ha0, _, hb0, hc0⟩ := hk0 (by omega)
    obtain ⟨b1, o1, ha1, _, hb1, hc1⟩ := hk1 (by omega)
    subst ha0 ha1
    obtain ⟨ws, hsp, hwl, hwo⟩ := HP.out
    obtain ⟨av, cv, hvs⟩ := hwo.slice
    rw [hwl] at hvs
    subst hvs
    have HWO : Hid (OwnW (w.heap.size + 1) wr (.slice av k cv) ws) := hwo
    have HSP : Hid (spellK A k = (ws, true)) := hsp
    have HWL : Hid (ws.length = k) := hwl
    have HLW : Hid (∀ i, (wd ws i).length ≤ 402) := spell_len hsp
    have x0 := cell_next HW.out hb0 (hc0 k hlt)
    have y0 := cell_next HW.out hb1 (hc1 k hlt)
    have k0 := BA.cell (i := 0) rfl
    have k1 := BA.cell (i := 1) rfl
    have HRS : Hid (okS A ws k = false → OwnW w.heap.size wr (.slice av k cv) (spellK A n).1) := fun h => by
      have := spellK_stop HSP.out h (n - (k + 1))
      rw [show k + 1 + (n - (k + 1)) = n by omega] at this
      rw [this]
      obtain ⟨cs, q1, q2⟩ := HWO.out
      refine ⟨cs, ?_, fun i hi => (q2 i hi).base (Nat.le_succ _)⟩
      obtain ⟨r1, r2⟩ := q1
      refine ⟨r1, ?_⟩
      rcases r2 with r2 | ⟨g, cap, cur, hv, hg, r⟩
      · exact Or.inl r2
      · exact Or.inr ⟨g, cap, cur, hv, by omega, r⟩
    clear hc0 hc1 hk0 hk1 HP hsp hwl hwo BA
    by_cases hk : k = 0
    · subst hk
      rw [Nat.add_zero] at x0 y0
      have hn0 : (0 : Int) < n := by omega
      by_cases g1 : iat A.pa 0 = -1
      · have f1 : (iat A.pa 0 != -1) = false := by simpa using g1
        by_cases g2 : iat A.la 0 = -1
        · have f2 : (iat A.la 0 != -1) = false := by simpa using g2
          have HOK : Hid (okS A ws 0 = true) := by unfold Hid okS; simp [g1, g2]
          have HRO : Hid (OwnI (w.heap.size + 1) (wr.alloc (.cells #[] 2)) (.slice (some ⟨wr.heap.size, 0, none⟩) 0 0) []) := ownI_none _ wr HZ3.out
          have HWO' : Hid (OwnW (w.heap.size + 1) (wr.alloc (.cells #[] 2)) (.slice av 0 cv) ws) := HWO.out.next (box1 _ _)
          clear g1 g2
          obtain ⟨cs, q1, q2⟩ := HWO'.out
          have HQ1 : Hid ((wr.alloc (.cells #[] 2)).ownsRow (w.heap.size + 1) 57 1 (.slice av 0 cv) ws.length cs) := q1
          have HQ2 : Hid (∀ i, i < ws.length → OwnI (w.heap.size + 1) (wr.alloc (.cells #[] 2)) (vat cs i) (wd ws i)) := q2
          clear q1 q2
          go_wp2_with (at_builtin; refine wpList_append_own_at _ rfl _ _ 54 rfl (w.heap.size + 1) 57 ii (.agg #[.slice none 0 0]) 1 24 Try.underlying54 hi hz0 hz1 hz2 rfl (by decide) _ _ _ rfl (World.ownsRow.alloc HQ1.out _) ⟨wr.heap.size + 1, 0, none⟩ 1 1 [.slice (some ⟨wr.heap.size, 0, none⟩) 0 0] rfl rfl ?c1 ?c2 ?c3 ?c4 ?c5 ?_)
          case c1 =>
            intro j u hj
            have := new_cells (wr.alloc (.cells #[] 2)) _ 57 [.slice (some ⟨wr.heap.size, 0, none⟩) 0 0] rfl j u hj
            rwa [size_alloc'] at this
          case c2 => intro u hu; simp at hu; subst hu; rfl
          case c3 => rw [HWL.out]; unfold maxLen; omega
          case c4 => rw [HWL.out]; omega
          case c5 => have := HZ3.out; simp; omega
          intro v7 w7 hown hgrow _ _
          have HO7 : Hid (OwnW (w.heap.size + 1) w7 v7 (ws ++ [[]])) := OwnW.snoc (w0 := w) HQ1.out HQ2.out HRO.out _ hgrow hown
          have HS7 : Hid (spellK A 1 = (ws ++ [[]], true)) := spellK_go HSP.out HOK.out
          have HN7 : Hid (Nx (w.alloc (.cells #[.slice (some ⟨b0, o0, none⟩) n c0, .slice (some ⟨b1, o1, none⟩) n c1, v2, v3, v4] 27)) w7) := Below.grown ((HN.out.alloc _).alloc _) hgrow (by have := HZ3.out; simp; omega) (fun g hg => by have := (own_lt HQ1.out g hg).1; simpa using this)
          clear hown hgrow HQ1 HQ2 HRO HWO' x0 y0 k0 k1 HN
          go_wp2
          go_roundw
          case rel => exact ⟨1, by omega, by go_num, ⟨_, HS7.out, by rw [List.length_append, HWL.out]; rfl, HO7.out⟩, HN7⟩
          case measure => simp [intOf]; omega
        · have f2 : (iat A.la 0 != -1) = true := by simpa using g2
          have HF : Hid (OwnW w.heap.size wr (.slice av 0 cv) (spellK A n).1) := HRS.out (by unfold okS; simp; omega)
          clear g1 g2
          go_wp2
          go_ret
          exact ⟨⟨_, rfl, HF.out⟩, HW.out⟩
      · have f1 : (iat A.pa 0 != -1) = true := by simpa using g1
        have HF : Hid (OwnW w.heap.size wr (.slice av 0 cv) (spellK A n).1) := HRS.out (by unfold okS; simp; omega)
        clear g1
        go_wp2
        go_ret
        exact ⟨⟨_, rfl, HF.out⟩, HW.out⟩
    have hkz : ((k : Int) == 0) = false := by simp; omega
    have HOD : Hid (okS A ws k = okW A ws k) := by unfold Hid okS; rw [if_neg hk]
    have HK1 : Hid (1 ≤ k) := by unfold Hid; omega
    clear hk
    by_cases g1 : iat A.pa k < 0
    · have f1 : decide (iat A.pa k < 0) = true := by simpa using g1
      have HF : Hid (OwnW w.heap.size wr (.slice av k cv) (spellK A n).1) := HRS.out (by rw [HOD.out]; unfold okW okR; simp; omega)
      clear g1
      go_wp2
      go_ret
      exact ⟨⟨_, rfl, HF.out⟩, HW.out⟩
    have f1 : decide (iat A.pa k < 0) = false := by simpa using g1
    by_cases g2 : (k : Int) ≤ iat A.pa k
    · have f2 : decide ((k : Int) ≤ iat A.pa k) = true := by simpa using g2
      have HF : Hid (OwnW w.heap.size wr (.slice av k cv) (spellK A n).1) := HRS.out (by rw [HOD.out]; unfold okW okR; simp; omega)
      clear g1 g2
      go_wp2
      go_ret
      exact ⟨⟨_, rfl, HF.out⟩, HW.out⟩
    have f2 : decide ((k : Int) ≤ iat A.pa k) = false := by simpa using g2
    by_cases g3 : iat A.la k < 0
    · have f3 : decide (iat A.la k < 0) = true := by simpa using g3
      have HF : Hid (OwnW w.heap.size wr (.slice av k cv) (spellK A n).1) := HRS.out (by rw [HOD.out]; unfold okW okR; simp; omega)
      clear g1 g2 g3
      go_wp2
      go_ret
      exact ⟨⟨_, rfl, HF.out⟩, HW.out⟩
    have f3 : decide (iat A.la k < 0) = false := by simpa using g3
    by_cases g4 : 4000 ≤ iat A.la k
    · have f4 : decide (4000 ≤ iat A.la k) = true := by simpa using g4
      have HF : Hid (OwnW w.heap.size wr (.slice av k cv) (spellK A n).1) := HRS.out (by rw [HOD.out]; unfold okW okR; simp; omega)
      clear g1 g2 g3 g4
      go_wp2
      go_ret
      exact ⟨⟨_, rfl, HF.out⟩, HW.out⟩
    have f4 : decide (4000 ≤ iat A.la k) = false := by simpa using g4
    have HOR : Hid (okR A k = true) := by unfold Hid okR; simp; omega
    obtain ⟨p, hp⟩ : ∃ p : Nat, iat A.pa k = (p : Int) := ⟨(iat A.pa k).toNat, by omega⟩
    have hpk : p < k := by omega
    have hpk' : (p : Int) < k := by omega
    have HNW : Hid (nw A ws k = wd ws p ++ [iat A.la k]) := by unfold Hid nw; rw [hp, Int.toNat_natCast]
    rw [hp] at x0 f1 f2
    clear g1 g2 g3 g4 hp
    obtain ⟨gw, ow, hav, hcw⟩ := HWO.out.held.at (by omega)
    subst hav
    obtain ⟨vp, hvp1, hvp2, _⟩ := hcw p hpk
    obtain ⟨vq, hvq1, hvq2, _⟩ := hcw (k - 1) (by omega)
    have HVP : Hid (HInts (w.heap.size + 1) wr vp (wd ws p)) := hvp2
    have HVQ : Hid (HInts (w.heap.size + 1) wr vq (wd ws (k - 1))) := hvq2
    have HLP : Hid ((wd ws p).length ≤ 402) := HLW.out p
    have HVQ1 : Hid (wr.cell? ⟨gw, ow + (k - 1), none⟩ = some vq) := hvq1
    clear hcw hvp2 hvq2 hvq1
    generalize hla : iat A.la k = lk at *
    have HLA : Hid (iat A.la k = lk) := hla
    clear hla
    have ne1 := World.new_ne wr _ hvp1
    have ne2 := World.new_ne wr _ x0
    have ne3 := World.new_ne wr _ y0
    have ne4 := World.new_ne wr _ k0
    go_upto_region 11 with fail
    go_cut [5] from 7 to 101 (fun s5 wc => Hid (OwnI wr.heap.size wc s5 (wd ws p ++ [lk])) ∧ Hid (Nx wr wc))
    case first =>
      go_region_held3 (fun w' => w'.cell? ⟨w.heap.size, 0, none⟩ = some (.slice (some ⟨b0, o0, none⟩) n c0) ∧ w'.cell? ⟨w.heap.size, 1, none⟩ = some (.slice (some ⟨b1, o1, none⟩) n c1) ∧ w'.cell? ⟨b0, o0 + k, none⟩ = some (.int .i64 (p : Int)) ∧ w'.cell? ⟨b1, o1 + k, none⟩ = some (.int .i64 lk) ∧ w'.cell? ⟨gw, ow + p, none⟩ = some vp) (go_keep) (first | (go_at_call 61; refine (l2Plus_any (w.heap.size + 1) wr.heap.size _ _ (wd ws p) [lk] _ (by first | exact HVP.out.next ((Nx.refl wr).drew.alloc _) | exact HVP.out.next ((Nx.refl wr).alloc _).drew) (by first | exact (ownI_one wr.heap.size wr.drew lk (Nat.le_refl _)).held | exact (ownI_one wr.heap.size wr lk (Nat.le_refl _)).drew.held) (by have := HLP.out; omega) (by simp)).mono ?_; rintro e w1 ⟨⟨u, rfl, hu⟩, hx⟩; have hxw : Nx wr w1 := (by first | exact (((Nx.refl wr).alloc _).drew).trans hx | exact ((Nx.refl wr).drew.alloc _).trans hx); have t0 := cellq hxw k0; have t1 := cellq hxw k1; have t2 := cellq hxw x0; have t3 := cellq hxw y0; have t4 := cellq hxw hvp1))
      all_goals go_wp2
      all_goals go_meet
      all_goals exact ⟨hu.base (Nat.le_of_lt (by simp)), hxw⟩
    case rest =>
    obtain ⟨HU, HC⟩ := hcut
    rw [← HNW.out] at HU
    have HWc : Hid (Nx w wc) := HW.out.trans HC.out
    have HNc : Hid (Nx (w.alloc (.cells #[.slice (some ⟨b0, o0, none⟩) n c0, .slice (some ⟨b1, o1, none⟩) n c1, v2, v3, v4] 27)) wc) := HN.out.trans HC.out
    have HWOc : Hid (OwnW (w.heap.size + 1) wc (.slice (some ⟨gw, ow, none⟩) k cv) ws) := HWO.out.next HC.out
    have HUc : Hid (OwnI (w.heap.size + 1) wc u5 (nw A ws k)) := HU.out.base HZ3.out
    have HZc : Hid (w.heap.size + 1 ≤ wc.heap.size) := Nat.le_trans HZ3.out HC.out.size
    have HVQc : Hid (HInts (w.heap.size + 1) wc vq (wd ws (k - 1))) := HVQ.out.next HC.out
    have HRSc : Hid (okS A ws k = false → OwnW w.heap.size wc (.slice (some ⟨gw, ow, none⟩) k cv) (spellK A n).1) := fun h => (HRS.out h).next HC.out
    have hvq := cellq HC.out HVQ1.out
    have HOKW : Hid (okW A ws k = (decide ((nw A ws k).length ≤ 402) && befB (wd ws (k - 1)) (nw A ws k))) := by unfold Hid okW; rw [HOR.out, Bool.true_and]
    obtain ⟨au, cu, hus⟩ := HUc.out.slice
    subst hus
    generalize hnl : (nw A ws k).length = nl at *
    have HNL : Hid ((nw A ws k).length = nl) := hnl
    clear hnl x0 y0 k0 k1 hvp1 ne1 ne2 ne3 ne4 HVP HVQ HU HWO HRS HN HW HC f1 f2 f3 f4 hpk'
    obtain ⟨j, rfl⟩ : ∃ j, k = j + 1 := ⟨k - 1, by have := HK1.out; omega⟩
    have hwj := wrapJ j (by omega)
    have hjl : (j : Int) < (j : Int) + 1 := by omega
    rw [Nat.add_sub_cancel] at hvq HVQc HOKW
    by_cases g5 : nl ≤ 402
    case neg =>
      have f5 : decide (402 < (nl : Int)) = true := by simp; omega
      have HF : Hid (OwnW w.heap.size wc (.slice (some ⟨gw, ow, none⟩) (j + 1) cv) (spellK A n).1) := HRSc.out (by rw [HOD.out, HOKW.out]; simp; omega)
      clear g5
      go_wp2
      go_ret
      exact ⟨⟨_, rfl, HF.out⟩, HWc.out⟩
    have f5 : decide (402 < (nl : Int)) = false := by simp; omega
    go_wp2_with fail
    refine (l3Before_any (w.heap.size + 1) (w.heap.size + 1) _ _ (wd ws j) (nw A ws (j + 1)) _ HVQc.out HUc.out.held).mono ?_
    rintro e w2 ⟨rfl, hx⟩
    have HC2 : Hid (Nx wc w2) := hx
    have HW2 : Hid (Nx w w2) := HWc.out.trans hx
    clear hx hvq
    cases hbf : befB (wd ws j) (nw A ws (j + 1))
    · have HF : Hid (OwnW w.heap.size w2 (.slice (some ⟨gw, ow, none⟩) (j + 1) cv) (spellK A n).1) := (HRSc.out (by rw [HOD.out, HOKW.out, hbf]; simp)).next HC2.out
      clear hbf g5
      go_wp2
      go_ret
      exact ⟨⟨_, rfl, HF.out⟩, HW2.out⟩
    have HOK : Hid (okS A ws (j + 1) = true) := by unfold Hid; rw [HOD.out, HOKW.out, hbf]; simp; omega
    have HWO2 : Hid (OwnW (w.heap.size + 1) w2 (.slice (some ⟨gw, ow, none⟩) (j + 1) cv) ws) := HWOc.out.next HC2.out
    have HU2 : Hid (OwnI (w.heap.size + 1) w2 (.slice au nl cu) (nw A ws (j + 1))) := HUc.out.next HC2.out
    have HN2 : Hid (Nx (w.alloc (.cells #[.slice (some ⟨b0, o0, none⟩) n c0, .slice (some ⟨b1, o1, none⟩) n c1, v2, v3, v4] 27)) w2) := HNc.out.trans HC2.out
    have HZ2 : Hid (w.heap.size + 1 ≤ w2.heap.size) := Nat.le_trans HZc.out HC2.out.size
    obtain ⟨cs, q1, q2⟩ := HWO2.out
    have HQ1 : Hid (w2.ownsRow (w.heap.size + 1) 57 1 (.slice (some ⟨gw, ow, none⟩) (j + 1) cv) ws.length cs) := q1
    have HQ2 : Hid (∀ i, i < ws.length → OwnI (w.heap.size + 1) w2 (vat cs i) (wd ws i)) := q2
    clear q1 q2 hbf g5 HRSc HWOc HUc HNc HVQc
    go_wp2_with (at_builtin; refine wpList_append_own_at _ rfl _ _ 54 rfl (w.heap.size + 1) 57 ii (.agg #[.slice none 0 0]) 1 24 Try.underlying54 hi hz0 hz1 hz2 rfl (by decide) _ _ _ rfl (World.ownsRow.alloc HQ1.out _) ⟨w2.heap.size, 0, none⟩ 1 1 [.slice au nl cu] rfl rfl (fun j u hj => new_cells w2 _ _ _ rfl j u hj) ?c2 ?c3 ?c4 ?c5 ?_)
    case c2 => intro u hu; simp at hu; subst hu; rfl
    case c3 => rw [HWL.out]; unfold maxLen; omega
    case c4 => rw [HWL.out]; omega
    case c5 => have := HZ2.out; simp; omega
    intro v7 w7 hown hgrow _ _
    have HO7 : Hid (OwnW (w.heap.size + 1) w7 v7 (ws ++ [nw A ws (j + 1)])) := OwnW.snoc (w0 := w) HQ1.out HQ2.out HU2.out _ hgrow hown
    have HS7 : Hid (spellK A (j + 1 + 1) = (ws ++ [nw A ws (j + 1)], true)) := spellK_go HSP.out HOK.out
    have HN7 : Hid (Nx (w.alloc (.cells #[.slice (some ⟨b0, o0, none⟩) n c0, .slice (some ⟨b1, o1, none⟩) n c1, v2, v3, v4] 27)) w7) := Below.grown (HN2.out.alloc _) hgrow (by have := HZ2.out; simp; omega) (fun g hg => by have := (own_lt HQ1.out g hg).1; simpa using this)
    clear hown hgrow HQ1 HQ2 HU2 HWO2 HN2
    go_wp2
    go_roundw
    case rel => exact ⟨j + 1 + 1, by omega, by go_num, ⟨_, HS7.out, by rw [List.length_append, HWL.out]; rfl, HO7.out⟩, HN7⟩
    case measure => simp [intOf]; omega
  have ek : n = k := by omega
  subst ek
  have k0 := BA.cell (i := 0) rfl
  have HF : Hid (OwnW w.heap.size wr u3 (spellK A n).1) := by
    obtain ⟨ws, hsp, hwl, hwo⟩ := HP.out
    unfold Hid
    rw [hsp]
    obtain ⟨cs, q1, q2⟩ := hwo
    refine ⟨cs, ?_, fun i hi => (q2 i hi).base (Nat.le_succ _)⟩
    obtain ⟨r1, r2⟩ := q1
    refine ⟨r1, ?_⟩
    rcases r2 with r2 | ⟨g, cap, cur, hv, hg, r⟩
    · exact Or.inl r2
    · exact Or.inr ⟨g, cap, cur, hv, by omega, r⟩
  clear HP BA hlt hkn
  go_wp2
  go_ret
  exact ⟨⟨_, rfl, HF.out⟩, HW.out⟩
end Go.Proofs.Ytifefpeefcjabaa
