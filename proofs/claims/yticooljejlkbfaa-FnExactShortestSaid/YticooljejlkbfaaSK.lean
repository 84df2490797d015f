import Derived.Test.YticooljejlkbfaaSH
namespace Go.Proofs.Yticooljejlkbfaa
open Go.RowKit Go.Sort
set_option linter.unusedVariables false
set_option maxRecDepth 100000

theorem keep_no {ws : List Wk} {x : Wk} (h : hasK ws x.key = false) : keepW ws x = ws ++ [x] := by
  unfold keepW
  rw [h]; rfl
theorem keep_yes {ws : List Wk} (h : KP ws) {i : Nat} (hi : i < ws.length) {x : Wk} (e : (wkat ws i).key = x.key) : keepW ws x = if betB x (wkat ws i) = true then ws.set i x else ws := by
  unfold keepW
  rw [if_pos (hasK_iff.2 ⟨_, wkat_mem hi, e⟩)]
  by_cases hb : betB x (wkat ws i) = true
  · rw [if_pos hb, ← set_map h hi e]
    apply List.map_congr_left
    intro y hy
    by_cases c : y.key = x.key
    · have : y = wkat ws i := h.ku y hy _ (wkat_mem hi) (c.trans e.symm)
      subst this
      rw [if_pos ⟨c, hb⟩, if_pos c]
    · rw [if_neg (fun g => c g.1), if_neg c]
  · rw [if_neg hb]
    conv => rhs; rw [← List.map_id ws]
    apply List.map_congr_left
    intro y hy
    rw [if_neg]
    · rfl
    · rintro ⟨c, g⟩
      have : y = wkat ws i := h.ku y hy _ (wkat_mem hi) (c.trans e.symm)
      subst this
      exact hb g
def KE (C : Nat) (w w' : World) (v u : Value) (ws : List Wk) : Prop := OwnK C w' u ws ∧ (∀ g, u.ownBlock = some g → v.ownBlock = some g ∨ w.heap.size ≤ g) ∧ Onl v.ownBlock w w'

set_option maxHeartbeats 4000000 in
theorem l5Keep_any (C : Nat) (v : Value) (ws : List Wk) (x : Wk) (ea : Option Addr) (en ec : Nat) (ka : Option Addr) (kn kc : Nat) (w : World) (h0 : OwnK C w v ws) (he : OwnI C w (.slice ea en ec) x.E) (hk : OwnI C w (.slice ka kn kc) x.key) (hp : KP ws) (hl : ws.length ≤ 1000000) (hC : C ≤ w.heap.size) :
    Calls Try.prog 18 #[v, .agg #[.slice ea en ec, .int .i64 x.c, .slice ka kn kc]] w fun e w' => ∃ u, e = .returned u ∧ KE C w w' v u (keepW ws x) := by
  obtain ⟨ii, hi, hz0, hz1, hz2⟩ := info_parts infoWk
  have H0 : Hid (OwnK C w v ws) := h0
  have HE : Hid (OwnI C w (.slice ea en ec) x.E) := he
  have HKK : Hid (OwnI C w (.slice ka kn kc) x.key) := hk
  have HP : Hid (KP ws) := hp
  have HC : Hid (C ≤ w.heap.size) := hC
  have HX0 : Hid (Nx w (w.alloc (.cells #[.slice ea en ec, .int .i64 x.c, .slice ka kn kc] 39))) := box1 _ _
  have BX0 := Blk.new w #[.slice ea en ec, .int .i64 x.c, .slice ka kn kc] 39 _ rfl
  obtain ⟨a, c, rfl⟩ := h0.slice
  generalize hz : ws.length = n at *
  have HZ : Hid (ws.length = n) := hz
  clear hz h0 he hk hp hC
  go_enter Try.func18, Try.ntmps18
  go_wp2_with fail
  refine (l5Find_any C C _ _ ws x.key _ (by exact H0.out.next HX0.out) (by exact (HKK.out.next HX0.out).held)).mono ?_
  rintro e w2 ⟨rfl, hx⟩
  have HX2 : Hid (Nx w w2) := HX0.out.trans hx
  have BX := BX0.next hx
  have H2 : Hid (OwnK C w2 (.slice a n c) ws) := H0.out.next HX2.out
  have b0 : w2.cell? ⟨w.heap.size, 0, none⟩ = some (.slice ea en ec) := BX.cell (i := 0) rfl
  have b1 : w2.cell? ⟨w.heap.size, 1, none⟩ = some (.int .i64 x.c) := BX.cell (i := 1) rfl
  have b2 : w2.cell? ⟨w.heap.size, 2, none⟩ = some (.slice ka kn kc) := BX.cell (i := 2) rfl
  have HZW : Hid (w.heap.size ≤ w2.heap.size) := HX2.out.size
  clear hx BX0 BX HX0
  by_cases hneg : fnd ws x.key < 0
  · have d1 : decide (fnd ws x.key < 0) = true := by simpa using hneg
    have HNO : Hid (keepW ws x = ws ++ [x]) := keep_no (fnd_no hneg)
    obtain ⟨F, hrow0, hF0⟩ := H2.out
    have HAPP : Hid (∀ w7 v7 ob, (w2.alloc ob).grownBy w7 (Value.slice a n c).ownBlock → w7.ownsRow C 39 3 v7 (n + 1) ((List.range (n * 3)).map F ++ [.slice ea en ec, .int .i64 x.c, .slice ka kn kc]) → OwnK C w7 v7 (keepW ws x)) := by
      intro w7 v7 ob hgr hrow
      rw [HNO.out]
      exact OwnK.app (F := F) (u := .slice a n c) hrow0 hF0 (HE.out.next HX2.out) (HKK.out.next HX2.out) ob hgr (by rw [HZ.out]; exact hrow)
    rw [HZ.out] at hrow0
    have HROW : Hid (w2.ownsRow C 39 3 (.slice a n c) n ((List.range (n * 3)).map F)) := hrow0
    generalize fnd ws x.key = fi at *
    generalize x.c = cx at *
    clear hneg hrow0 hF0 HE HKK HNO
    go_wp2_with (at_builtin; refine wpList_append_own_at _ rfl _ _ 40 rfl C 39 ii (.agg #[.slice none 0 0, .int .i64 0, .slice none 0 0]) 3 56 Try.underlying40 hi hz0 hz1 hz2 rfl (by decide) _ _ _ rfl (World.ownsRow.alloc HROW.out _) ⟨w2.heap.size, 0, none⟩ 1 1 [.slice ea en ec, .int .i64 cx, .slice ka kn kc] rfl rfl (fun j u hj => new_cells w2 _ _ _ rfl j u hj) (by intro u hu; simp at hu; rcases hu with rfl | rfl | rfl <;> rfl) (by unfold maxLen; omega) (by omega) (by rw [size_alloc']; have := HZW.out; have := HC.out; omega) ?_)
    intro v7 w7 hown hgrow _ hat
    have HR : Hid (KE C w w7 (.slice a n c) v7 (keepW ws x)) := by
      refine ⟨HAPP.out w7 v7 _ hgrow hown, fun q e => ?_, ((Onl.nx (o := (Value.slice a n c).ownBlock) HX2.out).trans (Onl.nx (o := none) (box1 w2 _)) (by simp)).trans (grown_onl hgrow) (fun q e => Or.inl e)⟩
      rcases hat with h | h
      · exact Or.inl (h ▸ e)
      · rw [h] at e
        have := Option.some.inj e
        have := HZW.out
        right
        omega
    obtain ⟨ra, rn, rc, hrs⟩ : ∃ a m c, v7 = .slice a m c := by
      obtain ⟨q1, q2, q3⟩ := HR.out.1.slice
      exact ⟨_, _, _, q3⟩
    subst hrs
    clear hown hgrow hat b0 b1 b2
    go_wp2
    go_ret
    exact ⟨_, rfl, HR.out⟩
  obtain ⟨q, hq, hfe, hqk⟩ := fnd_yes (show 0 ≤ fnd ws x.key by omega)
  have HYES : Hid (keepW ws x = if betB x (wkat ws q) = true then ws.set q x else ws) := keep_yes HP.out hq hqk
  have HBET : Hid (betB x (wkat ws q) = (decide (x.c < (wkat ws q).c) || (decide (x.c = (wkat ws q).c) && befB x.E (wkat ws q).E))) := rfl
  obtain ⟨gu, eu, ku, hgu, _, _, x0, x1, x2, heu, _, hfz⟩ := H2.out.at hq
  subst hgu
  have HEU : Hid (OwnI C w2 eu (wkat ws q).E) := heu
  obtain ⟨ua, uc, hus⟩ := heu.slice
  generalize (wkat ws q).E.length = un at hus
  subst hus
  have hqu : q < n := by rw [← HZ.out]; exact hq
  have hqu' : (q : Int) < n := by omega
  have hq0 : (0 : Int) ≤ q := by omega
  have d1 : decide ((q : Int) < 0) = false := decide_eq_false (by omega)
  have HOLD : Hid (∀ wq, Nx w2 wq → betB x (wkat ws q) = false → KE C w wq (.slice (some ⟨gu, 0, none⟩) n c) (.slice (some ⟨gu, 0, none⟩) n c) (keepW ws x)) := by
    intro wq hwq hb
    rw [HYES.out, if_neg (by rw [hb]; simp)]
    exact ⟨H2.out.next hwq, fun g e => Or.inl e, Onl.nx (HX2.out.trans hwq)⟩
  have HNEW : Hid (∀ wq, Nx w2 wq → betB x (wkat ws q) = true → KE C w (((wq.setCell ⟨gu, q * 3, none⟩ (.slice ea en ec)).setCell ⟨gu, q * 3 + 1, none⟩ (.int .i64 x.c)).setCell ⟨gu, q * 3 + 2, none⟩ (.slice ka kn kc)) (.slice (some ⟨gu, 0, none⟩) n c) (.slice (some ⟨gu, 0, none⟩) n c) (keepW ws x)) := by
    intro wq hwq hb
    rw [HYES.out, if_pos hb]
    exact ⟨(H2.out.next hwq).put hq ((HE.out.next HX2.out).next hwq) ((HKK.out.next HX2.out).next hwq), fun g e => Or.inl e, (((Onl.nx (HX2.out.trans hwq)).set (Or.inl rfl) _ _).set (Or.inl rfl) _ _).set (Or.inl rfl) _ _⟩
  have HFZ : Hid (∀ wq, Nx w2 wq → ∀ o, wq.frozen? ⟨gu, o, none⟩ = false) := fun wq hwq o => by
    obtain ⟨g', _, _, e1, _, _, _, _, _, _, _, h⟩ := (H2.out.next hwq).at hq
    simp only [Option.some.injEq, Addr.mk.injEq, and_true] at e1
    subst e1
    exact h o
  have CG : Hid (∀ d os, Calls Try.prog 28 #[.slice ea en ec, .slice ua un uc] (Sort.grow (redrawn w2 d) os) fun e w'' => e = .returned (.bool (befB x.E (wkat ws q).E)) ∧ ∃ p : Regrown, w'' = Sort.grow (redrawn w2 p.d) p.os) :=
    fun d os => Calls.regrown_of (l3Before_any C C _ _ x.E (wkat ws q).E _ ((HE.out.next HX2.out).next (below_regrown w2 d os)).held (HEU.out.next (below_regrown w2 d os)).held)
  have X0 : Hid (w2.cell? ⟨gu, q * 3, none⟩ = some (.slice ua un uc)) := x0
  have X1 : Hid (w2.cell? ⟨gu, q * 3 + 1, none⟩ = some (.int .i64 (wkat ws q).c)) := x1
  have X2 : Hid (w2.cell? ⟨gu, q * 3 + 2, none⟩ = some ku) := x2
  have B0 : Hid (w2.cell? ⟨w.heap.size, 0, none⟩ = some (.slice ea en ec)) := b0
  have B1 : Hid (w2.cell? ⟨w.heap.size, 1, none⟩ = some (.int .i64 x.c)) := b1
  have B2 : Hid (w2.cell? ⟨w.heap.size, 2, none⟩ = some (.slice ka kn kc)) := b2
  rw [hfe]
  clear hneg heu hfz hfe hqk hq HYES HE HKK H2 H0 x0 x1 x2 b0 b1 b2
  generalize befB x.E (wkat ws q).E = bb at *
  generalize (wkat ws q).c = cq at *
  generalize x.c = cx at *
  have x0 := cell_regrown X0.out
  have x1 := cell_regrown X1.out
  have b0 := cell_regrown B0.out
  have b1 := cell_regrown B1.out
  by_cases g1 : cx < cq
  · have f1 : decide (cx < cq) = true := by simpa using g1
    have HB : Hid (betB x (wkat ws q) = true) := by unfold Hid; rw [HBET.out, f1]; rfl
    clear g1
    clear HBET
    go_wp2
    refine wp_region_quiet_below (by kernel_rfl) (by kernel_rfl) ?_
    repeat (go_big_quiet_step (exact CG.out _ _))
    refine wpQuiet_nil ?_
    intro _ hw'
    obtain ⟨⟨dq, osq⟩, hw''⟩ := hw'
    subst hw''
    have HQ : Hid (Nx w2 (Sort.grow (redrawn w2 dq) osq)) := below_regrown w2 dq osq
    clear x0 x1 b0 b1 CG
    generalize hwq : Sort.grow (redrawn w2 dq) osq = wq at *
    clear hwq
    have x0 := cellq HQ.out X0.out
    have x1 := cellq HQ.out X1.out
    have x2 := cellq HQ.out X2.out
    have b0 := cellq HQ.out B0.out
    have b1 := cellq HQ.out B1.out
    have b2 := cellq HQ.out B2.out
    have z0 := HFZ.out wq HQ.out (q * 3)
    have z1 := HFZ.out wq HQ.out (q * 3 + 1)
    have z2 := HFZ.out wq HQ.out (q * 3 + 2)
    have HR := HNEW.out wq HQ.out HB.out
    have HR2 : Hid _ := HR
    clear HR HNEW HOLD HFZ HB
    go_wp2
    go_ret
    exact ⟨_, rfl, HR2.out⟩
  have f1 : decide (cx < cq) = false := by simpa using g1
  by_cases g2 : cx = cq
  · cases bb
    · have f2 : (cx == cq) = true := by simpa using g2
      have f3 : decide (cx = cq) = true := by simpa using g2
      have HB : Hid (betB x (wkat ws q) = false) := by unfold Hid; rw [HBET.out, f1, f3]; rfl
      clear g1 g2 f3
      clear HBET
      go_wp2
      refine wp_region_quiet_below (by kernel_rfl) (by kernel_rfl) ?_
      repeat (go_big_quiet_step (exact CG.out _ _))
      refine wpQuiet_nil ?_
      intro _ hw'
      obtain ⟨⟨dq, osq⟩, hw''⟩ := hw'
      subst hw''
      have HQ : Hid (Nx w2 (Sort.grow (redrawn w2 dq) osq)) := below_regrown w2 dq osq
      clear x0 x1 b0 b1 CG
      generalize hwq : Sort.grow (redrawn w2 dq) osq = wq at *
      clear hwq
      have HR : Hid _ := HOLD.out wq HQ.out HB.out
      clear HNEW HOLD HFZ HB
      go_wp2
      go_ret
      exact ⟨_, rfl, HR.out⟩
    · have f2 : (cx == cq) = true := by simpa using g2
      have f3 : decide (cx = cq) = true := by simpa using g2
      have HB : Hid (betB x (wkat ws q) = true) := by unfold Hid; rw [HBET.out, f1, f3]; rfl
      clear g1 g2 f3
      clear HBET
      go_wp2
      refine wp_region_quiet_below (by kernel_rfl) (by kernel_rfl) ?_
      repeat (go_big_quiet_step (exact CG.out _ _))
      refine wpQuiet_nil ?_
      intro _ hw'
      obtain ⟨⟨dq, osq⟩, hw''⟩ := hw'
      subst hw''
      have HQ : Hid (Nx w2 (Sort.grow (redrawn w2 dq) osq)) := below_regrown w2 dq osq
      clear x0 x1 b0 b1 CG
      generalize hwq : Sort.grow (redrawn w2 dq) osq = wq at *
      clear hwq
      have x0 := cellq HQ.out X0.out
      have x1 := cellq HQ.out X1.out
      have x2 := cellq HQ.out X2.out
      have b0 := cellq HQ.out B0.out
      have b1 := cellq HQ.out B1.out
      have b2 := cellq HQ.out B2.out
      have z0 := HFZ.out wq HQ.out (q * 3)
      have z1 := HFZ.out wq HQ.out (q * 3 + 1)
      have z2 := HFZ.out wq HQ.out (q * 3 + 2)
      have HR := HNEW.out wq HQ.out HB.out
      have HR2 : Hid _ := HR
      clear HR HNEW HOLD HFZ HB
      go_wp2
      go_ret
      exact ⟨_, rfl, HR2.out⟩
  · have f2 : (cx == cq) = false := by simpa using g2
    have f3 : decide (cx = cq) = false := by simpa using g2
    have HB : Hid (betB x (wkat ws q) = false) := by unfold Hid; rw [HBET.out, f1, f3]; rfl
    clear g1 g2 f3
    clear HBET
    go_wp2
    refine wp_region_quiet_below (by kernel_rfl) (by kernel_rfl) ?_
    repeat (go_big_quiet_step (exact CG.out _ _))
    refine wpQuiet_nil ?_
    intro _ hw'
    obtain ⟨⟨dq, osq⟩, hw''⟩ := hw'
    subst hw''
    have HQ : Hid (Nx w2 (Sort.grow (redrawn w2 dq) osq)) := below_regrown w2 dq osq
    clear x0 x1 b0 b1 CG
    generalize hwq : Sort.grow (redrawn w2 dq) osq = wq at *
    clear hwq
    have HR : Hid _ := HOLD.out wq HQ.out HB.out
    clear HNEW HOLD HFZ HB
    go_wp2
    go_ret
    exact ⟨_, rfl, HR.out⟩
end Go.Proofs.Yticooljejlkbfaa
