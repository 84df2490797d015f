import Derived.Test.YticooljejlkbfaaPG
namespace Go.Proofs.Yticooljejlkbfaa
open Go.RowKit Go.Sort Go.Maps
set_option linter.unusedVariables false
set_option maxRecDepth 100000

theorem it_cell {C : Nat} {w : World} {g n c : Nat} {L : List Nat} (h : OwnI C w (.slice (some ⟨g, 0, none⟩) n c) (ints L)) {b : Nat} (hb : b < L.length) : w.cell? ⟨g, b, none⟩ = some (.int .i64 (lat L b : Int)) := by
  obtain ⟨g', e, hc⟩ := h.cell (i := b) (by rw [ints_len]; exact hb)
  simp only [Option.some.injEq, Addr.mk.injEq, and_true] at e
  subst e
  rw [ints_at hb] at hc
  exact hc

set_option maxHeartbeats 16000000 in
theorem sink_any (C q sb mb g c pp rb nv : Nat) (K : Nat → Rk) (L : List Nat) (D : DM) (X : Nat → Prop) (a0 x : Nat) (w : World) (h : HM C w q sb (.slice (some ⟨g, 0, none⟩) L.length c) mb L D) (hcm : CM w sb pp rb nv K) (hs : sb ∉ [g, mb] ∧ pp ∉ [g, mb] ∧ rb ∉ [g, mb]) (ha : a0 < L.length) (hup : DN K (L.set a0 x) a0) (hj : Inj (L.set a0 x)) (hpl : PL D (L.set a0 x) a0 X) (hv : ∀ y ∈ L.set a0 x, y < nv) (hnv : nv ≤ 6000) (hL : L.length ≤ 10000) (hD : size D ≤ 9000) :
    Calls Try.prog 64 #[.pointer (some ⟨q, 0, none⟩), .int .i64 (a0 : Int), .int .i64 (x : Int)] w fun e w' => ∃ v L' D', e = .returned v ∧ HE C w w' q sb g c mb K (L.set a0 x) x D X L' D' := by
  have HS : Hid (sb ∉ [g, mb] ∧ pp ∉ [g, mb] ∧ rb ∉ [g, mb]) := hs
  have H0 : Hid (RI C w w q sb g c mb pp rb nv K (L.set a0 x) x D X a0 L D) := ⟨h, ha, by simp, hj, fun y => Iff.rfl, hpl, rfl, rfl, fun v hv => hv, OnS.refl _ _, hcm⟩
  have HU0 : Hid (DN K (L.set a0 x) a0) := hup
  have HX : Hid (x < nv) := hv x (mem_lat.2 ⟨a0, by simpa using ha, by rw [lat_set ha, if_pos rfl]⟩)
  have hxv : x ≤ 6000 := by have := HX.out; omega
  have HD : Hid (size D ≤ 9000) := hD
  have HL : Hid (L.length ≤ 10000) := hL
  have hal : a0 ≤ 10000 := by omega
  obtain ⟨M, hM⟩ : ∃ M, L.set a0 x = M := ⟨_, rfl⟩
  have HV : Hid (∀ y ∈ M, y < nv) := by rw [← hM]; exact hv
  have HLM : Hid (M.length = L.length) := by unfold Hid; rw [← hM]; simp
  have H1 : Hid (RI C w w q sb g c mb pp rb nv K M x D X a0 L D) := by unfold Hid; rw [← hM]; exact H0.out
  rw [hM]
  clear h hcm hs hup hj hpl hv hD hM H0
  go_enter Try.func64, Try.ntmps64
  go_wp2
  go_loopw [1, 6, 7] (fun a1 _ _ wr => ∃ (a : Nat) (L' : List Nat) (D' : DM), a ≤ 10000 ∧ a1 = .int .i64 (a : Int) ∧ Hid (RI C w wr q sb g c mb pp rb nv K M x D X a L' D') ∧ Hid (DN K (L'.set a x) a)) (fun a1 _ _ _ => 20000 - (intOf a1).toNat)
  case atStart => exact ⟨a0, L, D, hal, rfl, H1, HU0⟩
  clear H1 HU0 hal ha
  obtain ⟨a, L', D', hal, rfl, HR, HDN⟩ := hrel
  have HLL : Hid (L'.length ≤ 10000) := by have := HR.out.l; have := HLM.out; have := HL.out; unfold Hid; omega
  have HDD : Hid (size D' ≤ 9000) := by have := HR.out.s; have := HD.out; unfold Hid; omega
  have k1 : wr.cell? ⟨q, 1, none⟩ = some (.slice (some ⟨g, 0, none⟩) L'.length c) := HR.out.h.q.blk.cell (i := 1) rfl
  obtain ⟨bl, hbl⟩ : ∃ bl : Nat, 2 * (a : Int) + 1 = (bl : Int) := ⟨2 * a + 1, by omega⟩
  have hble : bl = 2 * a + 1 := by omega
  have hblb : bl ≤ 30000 := by omega
  have HBLE : Hid (bl = 2 * a + 1) := hble
  have HBI : Hid (2 * (a : Int) + 1 = (bl : Int)) := hbl
  clear hbl
  have hl1 : L'.length ≤ 10000 := HLL.out
  by_cases hend : L'.length ≤ bl
  · have d1 : decide ((L'.length : Int) ≤ (bl : Int)) = true := decide_eq_true (by omega)
    have d1' : decide (L'.length ≤ bl) = true := decide_eq_true hend
    have HOK : Hid (HeapOK K (L'.set a x)) := HDN.out.done (fun i h0 hl hp => by rw [List.length_set] at hl; omega)
    clear hble
    go_upto_region 1 with fail
    rw [HBI.out]
    go_wp2_with fail
    refine (set_any C q sb mb g c L' D' a x _ HR.out.h HR.out.lt HLL.out (by omega) (by have := HDD.out; omega)).mono ?_
    rintro e w2 ⟨v, rfl, hm, hon⟩
    have HF := HR.out.close HOK.out hm hon
    clear hm hon
    go_wp2
    refine bodyPost_end (v := .tuple #[]) (by simp [results, Try.results64, go_sem]) rfl ⟨_, _, _, rfl, HF⟩
  have d1 : decide ((L'.length : Int) ≤ (bl : Int)) = false := decide_eq_false (by omega)
  have d1' : decide (L'.length ≤ bl) = false := decide_eq_false hend
  obtain ⟨br, hbr⟩ : ∃ br : Nat, (bl : Int) + 1 = (br : Int) := ⟨bl + 1, by omega⟩
  have hbre : br = bl + 1 := by omega
  have HBR : Hid ((bl : Int) + 1 = (br : Int)) := hbr
  have HBRE : Hid (br = bl + 1) := hbre
  have HBLL : Hid (bl < L'.length) := by unfold Hid; omega
  by_cases hr : br < L'.length
  case neg =>
    have d3 : decide ((br : Int) < (L'.length : Int)) = false := decide_eq_false (by omega)
    have d3' : decide (br < L'.length) = false := decide_eq_false hr
    have HMIN : Hid (∀ i, 0 < i → i < L'.length → (i - 1) / 2 = a → ¬ rlt (K (lat L' i)) (K (lat L' bl))) := fun i h0 hl hp => by
      have : i = bl := by omega
      subst this
      exact rlt_irr _
    clear hbr hbre hble hend
    go_upto_region 1 with fail
    rw [HBI.out]
    go_upto_region 3 with fail
    rw [HBR.out]
    go_quiet (fail)
    have HR5 : Hid (RI C w (wr.drewN nq) q sb g c mb pp rb nv K M x D X a L' D') := HR.out.next (nx_drewN _ _)
    generalize wr.drewN nq = w5 at *
    clear k1 d1 d1' d3 d3' hr
    obtain ⟨b, hb⟩ : ∃ b : Nat, b = bl := ⟨_, rfl⟩
    subst hb
    have HBL : Hid (b < L'.length) := HBLL.out
    have HBP : Hid ((b - 1) / 2 = a) := by have := HBLE.out; unfold Hid; omega
    have hba : a < b := by have := HBLE.out; omega
    have K0 : Hid (w5.cell? ⟨q, 0, none⟩ = some (.func (.func 50) #[] #[.pointer (some ⟨sb, 0, none⟩)])) := HR5.out.h.q.blk.cell (i := 0) rfl
    have K1 : Hid (w5.cell? ⟨q, 1, none⟩ = some (.slice (some ⟨g, 0, none⟩) L'.length c)) := HR5.out.h.q.blk.cell (i := 1) rfl
    have KC : Hid (w5.cell? ⟨g, b, none⟩ = some (.int .i64 (lat L' b : Int))) := it_cell HR5.out.h.i HBL.out
    have HYV : Hid (lat L' b < nv) := HV.out _ ((HR5.out.e _).1 (mem_lat.2 ⟨b, by simpa using HBL.out, by rw [lat_set HR5.out.lt, if_neg (by omega)]⟩))
    have HCB := cmpR_bd (K x) (K (lat L' b))
    have HCL : Hid (cmpR (K x) (K (lat L' b)) ≤ 0 ↔ ¬ rlt (K (lat L' b)) (K x)) := cmpR_le _ _
    have CG : Hid (∀ d os, Calls Try.prog 50 #[.int .i64 (x : Int), .int .i64 (lat L' b : Int), .pointer (some ⟨sb, 0, none⟩)] (Sort.grow (redrawn w5 d) os) fun e w'' => e = .returned (.int .i64 (cmpR (K x) (K (lat L' b)))) ∧ ∃ p : Regrown, w'' = Sort.grow (redrawn w5 p.d) p.os) :=
      fun d os => Calls.regrown_of (less_vertex sb pp rb nv x (lat L' b) K _ (HR5.out.cm.next (below_regrown w5 d os)) HX.out HYV.out hnv)
    have hyl : lat L' b ≤ 10000 := by have := HYV.out; omega
    have hbl : (b : Int) < (L'.length : Int) := by have := HBL.out; omega
    generalize hy : lat L' b = y at *
    have HY : Hid (lat L' b = y) := hy
    clear hy
    have k0 := cell_regrown K0.out
    have k1 := cell_regrown K1.out
    have kc := cell_regrown KC.out
    go_upto_region 5 with fail
    by_cases hlt : cmpR (K x) (K y) ≤ 0
    · have d2 : decide (cmpR (K x) (K y) ≤ 0) = true := decide_eq_true hlt
      have HOK : Hid (HeapOK K (L'.set a x)) := HDN.out.done (fun i h0 hl hp => by
        rw [List.length_set] at hl
        rw [lat_set HR5.out.lt, lat_set HR5.out.lt, if_pos rfl, if_neg (by omega)]
        have h1 := HMIN.out i h0 hl hp
        exact rle_tr (HCL.out.1 hlt) h1)
      generalize cmpR (K x) (K y) = cc at *
      refine wp_region_quiet_below (by kernel_rfl) (by kernel_rfl) ?_
      repeat (go_big_quiet_step (exact CG.out _ _))
      refine wpQuiet_nil ?_
      intro _ hw'
      obtain ⟨⟨dq, osq⟩, hw''⟩ := hw'
      subst hw''
      have HQ : Hid (Nx w5 (Sort.grow (redrawn w5 dq) osq)) := below_regrown w5 dq osq
      clear k0 k1 kc CG
      generalize Sort.grow (redrawn w5 dq) osq = w6 at *
      have HR6 : Hid (RI C w w6 q sb g c mb pp rb nv K M x D X a L' D') := HR5.out.next HQ.out
      go_wp2_with fail
      refine (set_any C q sb mb g c L' D' a x _ HR6.out.h HR6.out.lt HLL.out (by omega) (by have := HDD.out; omega)).mono ?_
      rintro e w2 ⟨v, rfl, hm, hon⟩
      have HF := HR6.out.close HOK.out hm hon
      clear hm hon
      go_wp2
      refine bodyPost_end (v := .tuple #[]) (by simp [results, Try.results64, go_sem]) rfl ⟨_, _, _, rfl, HF⟩
    · have d2 : decide (cmpR (K x) (K y) ≤ 0) = false := decide_eq_false hlt
      have HRL : Hid (rlt (K (lat L' b)) (K x)) := by
        unfold Hid
        rw [HY.out]
        exact Classical.byContradiction fun e => hlt (HCL.out.2 e)
      have HD2 : Hid (DN K ((L'.set a (lat L' b)).set b x) b) := HDN.out.step HR5.out.lt HBL.out (by omega) HBP.out HRL.out (fun i h0 hl hp => by rw [HY.out]; exact HMIN.out i h0 hl hp)
      generalize cmpR (K x) (K y) = cc at *
      refine wp_region_quiet_below (by kernel_rfl) (by kernel_rfl) ?_
      repeat (go_big_quiet_step (exact CG.out _ _))
      refine wpQuiet_nil ?_
      intro _ hw'
      obtain ⟨⟨dq, osq⟩, hw''⟩ := hw'
      subst hw''
      have HQ : Hid (Nx w5 (Sort.grow (redrawn w5 dq) osq)) := below_regrown w5 dq osq
      clear k0 k1 kc CG
      generalize Sort.grow (redrawn w5 dq) osq = w6 at *
      have HR6 : Hid (RI C w w6 q sb g c mb pp rb nv K M x D X a L' D') := HR5.out.next HQ.out
      have k1 := cellq HQ.out K1.out
      have kc := cellq HQ.out KC.out
      go_wp2_with fail
      refine (set_any C q sb mb g c L' D' a y _ HR6.out.h HR6.out.lt HLL.out (by omega) (by have := HDD.out; omega)).mono ?_
      rintro e w2 ⟨v, rfl, hm, hon⟩
      have HF : Hid (RI C w w2 q sb g c mb pp rb nv K M x D X b (L'.set a (lat L' b)) (D'.put (kv (lat L' b)) (pv a))) := HR6.out.step HBL.out (by omega) HS.out (by rw [HY.out]; exact hm) hon
      clear hm hon k1 kc
      go_wp2
      go_roundw
      case rel => exact ⟨b, _, _, by have := HBL.out; have := HLL.out; omega, rfl, HF, HD2⟩
      case measure => simp [intOf]; omega

  have d3 : decide ((br : Int) < (L'.length : Int)) = true := decide_eq_true (by omega)
  have d3' : decide (br < L'.length) = true := decide_eq_true hr
  have HBRL : Hid (br < L'.length) := hr
  have hbr2 : (br : Int) < (L'.length : Int) := by omega
  have hbl2 : (bl : Int) < (L'.length : Int) := by have := HBLL.out; omega
  have HYL : Hid (lat L' bl < nv) := HV.out _ ((HR.out.e _).1 (mem_lat.2 ⟨bl, by simpa using HBLL.out, by rw [lat_set HR.out.lt, if_neg (by omega)]⟩))
  have HYR : Hid (lat L' br < nv) := HV.out _ ((HR.out.e _).1 (mem_lat.2 ⟨br, by simpa using hr, by rw [lat_set HR.out.lt, if_neg (by omega)]⟩))
  have P0 : Hid (wr.cell? ⟨q, 0, none⟩ = some (.func (.func 50) #[] #[.pointer (some ⟨sb, 0, none⟩)])) := HR.out.h.q.blk.cell (i := 0) rfl
  have P1 : Hid (wr.cell? ⟨q, 1, none⟩ = some (.slice (some ⟨g, 0, none⟩) L'.length c)) := HR.out.h.q.blk.cell (i := 1) rfl
  have PL0 : Hid (wr.cell? ⟨g, bl, none⟩ = some (.int .i64 (lat L' bl : Int))) := it_cell HR.out.h.i HBLL.out
  have PR0 : Hid (wr.cell? ⟨g, br, none⟩ = some (.int .i64 (lat L' br : Int))) := it_cell HR.out.h.i HBRL.out
  have CG1 : Hid (∀ d os, Calls Try.prog 50 #[.int .i64 (lat L' br : Int), .int .i64 (lat L' bl : Int), .pointer (some ⟨sb, 0, none⟩)] (Sort.grow (redrawn wr d) os) fun e w'' => e = .returned (.int .i64 (cmpR (K (lat L' br)) (K (lat L' bl)))) ∧ ∃ p : Regrown, w'' = Sort.grow (redrawn wr p.d) p.os) :=
    fun d os => Calls.regrown_of (less_vertex sb pp rb nv (lat L' br) (lat L' bl) K _ (HR.out.cm.next (below_regrown wr d os)) HYR.out HYL.out hnv)
  have HCB1 := cmpR_bd (K (lat L' br)) (K (lat L' bl))
  have HCL1 : Hid (cmpR (K (lat L' br)) (K (lat L' bl)) < 0 ↔ rlt (K (lat L' br)) (K (lat L' bl))) := cmpR_lt _ _
  clear hbr hbre hble hend hr
  go_upto_region 1 with fail
  rw [HBI.out]
  go_upto_region 3 with fail
  rw [HBR.out]
  clear k1
  have p0 := cell_regrown P0.out
  have p1 := cell_regrown P1.out
  have pl := cell_regrown PL0.out
  have pr := cell_regrown PR0.out
  by_cases hc1 : cmpR (K (lat L' br)) (K (lat L' bl)) < 0
  · have d4 : decide (cmpR (K (lat L' br)) (K (lat L' bl)) < 0) = true := decide_eq_true hc1
    have HMIN : Hid (∀ i, 0 < i → i < L'.length → (i - 1) / 2 = a → ¬ rlt (K (lat L' i)) (K (lat L' br))) := fun i h0 hl hp => by
      have h1 := HBLE.out
      have h2 := HBRE.out
      have : i = bl ∨ i = br := by omega
      rcases this with e | e
      · subst e; exact rlt_not (HCL1.out.1 hc1)
      · subst e; exact rlt_irr _
    generalize cmpR (K (lat L' br)) (K (lat L' bl)) = c1 at *
    refine wp_region_quiet_below (by kernel_rfl) (by kernel_rfl) ?_
    repeat (go_big_quiet_step (exact CG1.out _ _))
    refine wpQuiet_nil ?_
    intro _ hw'
    obtain ⟨⟨dq, osq⟩, hw''⟩ := hw'
    subst hw''
    have HQ : Hid (Nx wr (Sort.grow (redrawn wr dq) osq)) := below_regrown wr dq osq
    clear p0 p1 pl pr CG1
    generalize Sort.grow (redrawn wr dq) osq = w5 at *

    have HR5 : Hid (RI C w w5 q sb g c mb pp rb nv K M x D X a L' D') := HR.out.next HQ.out
    clear d1 d1' d3 d3' hc1 HQ HCL1 HCB1
    obtain ⟨b, hb⟩ : ∃ b : Nat, b = br := ⟨_, rfl⟩
    subst hb
    have HBL : Hid (b < L'.length) := HBRL.out
    have HBP : Hid ((b - 1) / 2 = a) := by have := HBLE.out; have := HBRE.out; unfold Hid; omega
    have hba : a < b := by have := HBLE.out; have := HBRE.out; omega
    have K0 : Hid (w5.cell? ⟨q, 0, none⟩ = some (.func (.func 50) #[] #[.pointer (some ⟨sb, 0, none⟩)])) := HR5.out.h.q.blk.cell (i := 0) rfl
    have K1 : Hid (w5.cell? ⟨q, 1, none⟩ = some (.slice (some ⟨g, 0, none⟩) L'.length c)) := HR5.out.h.q.blk.cell (i := 1) rfl
    have KC : Hid (w5.cell? ⟨g, b, none⟩ = some (.int .i64 (lat L' b : Int))) := it_cell HR5.out.h.i HBL.out
    have HYV : Hid (lat L' b < nv) := HV.out _ ((HR5.out.e _).1 (mem_lat.2 ⟨b, by simpa using HBL.out, by rw [lat_set HR5.out.lt, if_neg (by omega)]⟩))
    have HCB := cmpR_bd (K x) (K (lat L' b))
    have HCL : Hid (cmpR (K x) (K (lat L' b)) ≤ 0 ↔ ¬ rlt (K (lat L' b)) (K x)) := cmpR_le _ _
    have CG : Hid (∀ d os, Calls Try.prog 50 #[.int .i64 (x : Int), .int .i64 (lat L' b : Int), .pointer (some ⟨sb, 0, none⟩)] (Sort.grow (redrawn w5 d) os) fun e w'' => e = .returned (.int .i64 (cmpR (K x) (K (lat L' b)))) ∧ ∃ p : Regrown, w'' = Sort.grow (redrawn w5 p.d) p.os) :=
      fun d os => Calls.regrown_of (less_vertex sb pp rb nv x (lat L' b) K _ (HR5.out.cm.next (below_regrown w5 d os)) HX.out HYV.out hnv)
    have hyl : lat L' b ≤ 10000 := by have := HYV.out; omega
    have hbl : (b : Int) < (L'.length : Int) := by have := HBL.out; omega
    generalize hy : lat L' b = y at *
    have HY : Hid (lat L' b = y) := hy
    clear hy
    have k0 := cell_regrown K0.out
    have k1 := cell_regrown K1.out
    have kc := cell_regrown KC.out
    go_upto_region 5 with fail
    by_cases hlt : cmpR (K x) (K y) ≤ 0
    · have d2 : decide (cmpR (K x) (K y) ≤ 0) = true := decide_eq_true hlt
      have HOK : Hid (HeapOK K (L'.set a x)) := HDN.out.done (fun i h0 hl hp => by
        rw [List.length_set] at hl
        rw [lat_set HR5.out.lt, lat_set HR5.out.lt, if_pos rfl, if_neg (by omega)]
        have h1 := HMIN.out i h0 hl hp
        exact rle_tr (HCL.out.1 hlt) h1)
      generalize cmpR (K x) (K y) = cc at *
      refine wp_region_quiet_below (by kernel_rfl) (by kernel_rfl) ?_
      repeat (go_big_quiet_step (exact CG.out _ _))
      refine wpQuiet_nil ?_
      intro _ hw'
      obtain ⟨⟨dq, osq⟩, hw''⟩ := hw'
      subst hw''
      have HQ : Hid (Nx w5 (Sort.grow (redrawn w5 dq) osq)) := below_regrown w5 dq osq
      clear k0 k1 kc CG
      generalize Sort.grow (redrawn w5 dq) osq = w6 at *
      have HR6 : Hid (RI C w w6 q sb g c mb pp rb nv K M x D X a L' D') := HR5.out.next HQ.out
      go_wp2_with fail
      refine (set_any C q sb mb g c L' D' a x _ HR6.out.h HR6.out.lt HLL.out (by omega) (by have := HDD.out; omega)).mono ?_
      rintro e w2 ⟨v, rfl, hm, hon⟩
      have HF := HR6.out.close HOK.out hm hon
      clear hm hon
      go_wp2
      refine bodyPost_end (v := .tuple #[]) (by simp [results, Try.results64, go_sem]) rfl ⟨_, _, _, rfl, HF⟩
    · have d2 : decide (cmpR (K x) (K y) ≤ 0) = false := decide_eq_false hlt
      have HRL : Hid (rlt (K (lat L' b)) (K x)) := by
        unfold Hid
        rw [HY.out]
        exact Classical.byContradiction fun e => hlt (HCL.out.2 e)
      have HD2 : Hid (DN K ((L'.set a (lat L' b)).set b x) b) := HDN.out.step HR5.out.lt HBL.out (by omega) HBP.out HRL.out (fun i h0 hl hp => by rw [HY.out]; exact HMIN.out i h0 hl hp)
      generalize cmpR (K x) (K y) = cc at *
      refine wp_region_quiet_below (by kernel_rfl) (by kernel_rfl) ?_
      repeat (go_big_quiet_step (exact CG.out _ _))
      refine wpQuiet_nil ?_
      intro _ hw'
      obtain ⟨⟨dq, osq⟩, hw''⟩ := hw'
      subst hw''
      have HQ : Hid (Nx w5 (Sort.grow (redrawn w5 dq) osq)) := below_regrown w5 dq osq
      clear k0 k1 kc CG
      generalize Sort.grow (redrawn w5 dq) osq = w6 at *
      have HR6 : Hid (RI C w w6 q sb g c mb pp rb nv K M x D X a L' D') := HR5.out.next HQ.out
      have k1 := cellq HQ.out K1.out
      have kc := cellq HQ.out KC.out
      go_wp2_with fail
      refine (set_any C q sb mb g c L' D' a y _ HR6.out.h HR6.out.lt HLL.out (by omega) (by have := HDD.out; omega)).mono ?_
      rintro e w2 ⟨v, rfl, hm, hon⟩
      have HF : Hid (RI C w w2 q sb g c mb pp rb nv K M x D X b (L'.set a (lat L' b)) (D'.put (kv (lat L' b)) (pv a))) := HR6.out.step HBL.out (by omega) HS.out (by rw [HY.out]; exact hm) hon
      clear hm hon k1 kc
      go_wp2
      go_roundw
      case rel => exact ⟨b, _, _, by have := HBL.out; have := HLL.out; omega, rfl, HF, HD2⟩
      case measure => simp [intOf]; omega

  · have d4 : decide (cmpR (K (lat L' br)) (K (lat L' bl)) < 0) = false := decide_eq_false hc1
    have HMIN : Hid (∀ i, 0 < i → i < L'.length → (i - 1) / 2 = a → ¬ rlt (K (lat L' i)) (K (lat L' bl))) := fun i h0 hl hp => by
      have h1 := HBLE.out
      have h2 := HBRE.out
      have : i = bl ∨ i = br := by omega
      rcases this with e | e
      · subst e; exact rlt_irr _
      · subst e; exact fun e => hc1 (HCL1.out.2 e)
    generalize cmpR (K (lat L' br)) (K (lat L' bl)) = c1 at *
    refine wp_region_quiet_below (by kernel_rfl) (by kernel_rfl) ?_
    repeat (go_big_quiet_step (exact CG1.out _ _))
    refine wpQuiet_nil ?_
    intro _ hw'
    obtain ⟨⟨dq, osq⟩, hw''⟩ := hw'
    subst hw''
    have HQ : Hid (Nx wr (Sort.grow (redrawn wr dq) osq)) := below_regrown wr dq osq
    clear p0 p1 pl pr CG1
    generalize Sort.grow (redrawn wr dq) osq = w5 at *

    have HR5 : Hid (RI C w w5 q sb g c mb pp rb nv K M x D X a L' D') := HR.out.next HQ.out
    clear d1 d1' d3 d3' hc1 HQ HCL1 HCB1
    obtain ⟨b, hb⟩ : ∃ b : Nat, b = bl := ⟨_, rfl⟩
    subst hb
    have HBL : Hid (b < L'.length) := HBLL.out
    have HBP : Hid ((b - 1) / 2 = a) := by have := HBLE.out; unfold Hid; omega
    have hba : a < b := by have := HBLE.out; omega
    have K0 : Hid (w5.cell? ⟨q, 0, none⟩ = some (.func (.func 50) #[] #[.pointer (some ⟨sb, 0, none⟩)])) := HR5.out.h.q.blk.cell (i := 0) rfl
    have K1 : Hid (w5.cell? ⟨q, 1, none⟩ = some (.slice (some ⟨g, 0, none⟩) L'.length c)) := HR5.out.h.q.blk.cell (i := 1) rfl
    have KC : Hid (w5.cell? ⟨g, b, none⟩ = some (.int .i64 (lat L' b : Int))) := it_cell HR5.out.h.i HBL.out
    have HYV : Hid (lat L' b < nv) := HV.out _ ((HR5.out.e _).1 (mem_lat.2 ⟨b, by simpa using HBL.out, by rw [lat_set HR5.out.lt, if_neg (by omega)]⟩))
    have HCB := cmpR_bd (K x) (K (lat L' b))
    have HCL : Hid (cmpR (K x) (K (lat L' b)) ≤ 0 ↔ ¬ rlt (K (lat L' b)) (K x)) := cmpR_le _ _
    have CG : Hid (∀ d os, Calls Try.prog 50 #[.int .i64 (x : Int), .int .i64 (lat L' b : Int), .pointer (some ⟨sb, 0, none⟩)] (Sort.grow (redrawn w5 d) os) fun e w'' => e = .returned (.int .i64 (cmpR (K x) (K (lat L' b)))) ∧ ∃ p : Regrown, w'' = Sort.grow (redrawn w5 p.d) p.os) :=
      fun d os => Calls.regrown_of (less_vertex sb pp rb nv x (lat L' b) K _ (HR5.out.cm.next (below_regrown w5 d os)) HX.out HYV.out hnv)
    have hyl : lat L' b ≤ 10000 := by have := HYV.out; omega
    have hbl : (b : Int) < (L'.length : Int) := by have := HBL.out; omega
    generalize hy : lat L' b = y at *
    have HY : Hid (lat L' b = y) := hy
    clear hy
    have k0 := cell_regrown K0.out
    have k1 := cell_regrown K1.out
    have kc := cell_regrown KC.out
    go_upto_region 5 with fail
    by_cases hlt : cmpR (K x) (K y) ≤ 0
    · have d2 : decide (cmpR (K x) (K y) ≤ 0) = true := decide_eq_true hlt
      have HOK : Hid (HeapOK K (L'.set a x)) := HDN.out.done (fun i h0 hl hp => by
        rw [List.length_set] at hl
        rw [lat_set HR5.out.lt, lat_set HR5.out.lt, if_pos rfl, if_neg (by omega)]
        have h1 := HMIN.out i h0 hl hp
        exact rle_tr (HCL.out.1 hlt) h1)
      generalize cmpR (K x) (K y) = cc at *
      refine wp_region_quiet_below (by kernel_rfl) (by kernel_rfl) ?_
      repeat (go_big_quiet_step (exact CG.out _ _))
      refine wpQuiet_nil ?_
      intro _ hw'
      obtain ⟨⟨dq, osq⟩, hw''⟩ := hw'
      subst hw''
      have HQ : Hid (Nx w5 (Sort.grow (redrawn w5 dq) osq)) := below_regrown w5 dq osq
      clear k0 k1 kc CG
      generalize Sort.grow (redrawn w5 dq) osq = w6 at *
      have HR6 : Hid (RI C w w6 q sb g c mb pp rb nv K M x D X a L' D') := HR5.out.next HQ.out
      go_wp2_with fail
      refine (set_any C q sb mb g c L' D' a x _ HR6.out.h HR6.out.lt HLL.out (by omega) (by have := HDD.out; omega)).mono ?_
      rintro e w2 ⟨v, rfl, hm, hon⟩
      have HF := HR6.out.close HOK.out hm hon
      clear hm hon
      go_wp2
      refine bodyPost_end (v := .tuple #[]) (by simp [results, Try.results64, go_sem]) rfl ⟨_, _, _, rfl, HF⟩
    · have d2 : decide (cmpR (K x) (K y) ≤ 0) = false := decide_eq_false hlt
      have HRL : Hid (rlt (K (lat L' b)) (K x)) := by
        unfold Hid
        rw [HY.out]
        exact Classical.byContradiction fun e => hlt (HCL.out.2 e)
      have HD2 : Hid (DN K ((L'.set a (lat L' b)).set b x) b) := HDN.out.step HR5.out.lt HBL.out (by omega) HBP.out HRL.out (fun i h0 hl hp => by rw [HY.out]; exact HMIN.out i h0 hl hp)
      generalize cmpR (K x) (K y) = cc at *
      refine wp_region_quiet_below (by kernel_rfl) (by kernel_rfl) ?_
      repeat (go_big_quiet_step (exact CG.out _ _))
      refine wpQuiet_nil ?_
      intro _ hw'
      obtain ⟨⟨dq, osq⟩, hw''⟩ := hw'
      subst hw''
      have HQ : Hid (Nx w5 (Sort.grow (redrawn w5 dq) osq)) := below_regrown w5 dq osq
      clear k0 k1 kc CG
      generalize Sort.grow (redrawn w5 dq) osq = w6 at *
      have HR6 : Hid (RI C w w6 q sb g c mb pp rb nv K M x D X a L' D') := HR5.out.next HQ.out
      have k1 := cellq HQ.out K1.out
      have kc := cellq HQ.out KC.out
      go_wp2_with fail
      refine (set_any C q sb mb g c L' D' a y _ HR6.out.h HR6.out.lt HLL.out (by omega) (by have := HDD.out; omega)).mono ?_
      rintro e w2 ⟨v, rfl, hm, hon⟩
      have HF : Hid (RI C w w2 q sb g c mb pp rb nv K M x D X b (L'.set a (lat L' b)) (D'.put (kv (lat L' b)) (pv a))) := HR6.out.step HBL.out (by omega) HS.out (by rw [HY.out]; exact hm) hon
      clear hm hon k1 kc
      go_wp2
      go_roundw
      case rel => exact ⟨b, _, _, by have := HBL.out; have := HLL.out; omega, rfl, HF, HD2⟩
      case measure => simp [intOf]; omega

end Go.Proofs.Yticooljejlkbfaa
