import Derived.Test.YticooljejlkbfaaPD
namespace Go.Proofs.Yticooljejlkbfaa
open Go.RowKit Go.Sort Go.Maps
set_option linter.unusedVariables false
set_option maxRecDepth 100000

theorem OnS.cell {S : List Nat} {w w' : World} (h : OnS S w w') {b o : Nat} {v : Value} (hb : b ∉ S) (hc : w.cell? ⟨b, o, none⟩ = some v) : w'.cell? ⟨b, o, none⟩ = some v := by
  have := h.block b (cell_lt hc) hb
  rw [← hc]
  simp only [World.cell?, this]
theorem CM.on {S : List Nat} {w w' : World} {sb p rb n : Nat} {K : Nat → Rk} (h : CM w sb p rb n K) (k : OnS S w w') (h1 : sb ∉ S) (h2 : p ∉ S) (h3 : rb ∉ S) : CM w' sb p rb n K := by
  obtain ⟨q1, ⟨c, q2⟩, q3⟩ := h
  exact ⟨k.cell h1 q1, ⟨c, k.cell h2 q2⟩, q3.kept (k.block rb q3.lt h3)⟩
theorem has_keep {D : DM} (hm : IsMap D) (u : Nat) (d : DM) {v : Nat} (h : has D (kv v) = true) : has (D.put (kv u) d) (kv v) = true := by
  by_cases e : v = u
  · subst e; exact has_put_same hm (kv_key _) _
  · rw [has_put_other (kv_inj e)]; exact h
/-- the heap behind a rise or a sink -/
structure HE (C : Nat) (w w' : World) (q sb g c mb : Nat) (K : Nat → Rk) (M : List Nat) (x : Nat) (D : DM) (X : Nat → Prop) (L' : List Nat) (D' : DM) : Prop where
  h : HM C w' q sb (.slice (some ⟨g, 0, none⟩) L'.length c) mb L' D'
  l : L'.length = M.length
  o : HeapOK K L'
  j : Inj L'
  e : ∀ y, y ∈ L' ↔ y ∈ M
  p : PL D' L' L'.length X
  s : size D' ≤ size D + 1
  t : has D (kv x) = true → size D' = size D
  k : ∀ v, has D (kv v) = true → has D' (kv v) = true
  on : OnS [g, mb] w w'
/-- the item is under way, at a -/
structure RI (C : Nat) (w w' : World) (q sb g c mb pp rb nv : Nat) (K : Nat → Rk) (M : List Nat) (x : Nat) (D : DM) (X : Nat → Prop) (a : Nat) (L' : List Nat) (D' : DM) : Prop where
  h : HM C w' q sb (.slice (some ⟨g, 0, none⟩) L'.length c) mb L' D'
  lt : a < L'.length
  l : L'.length = M.length
  j : Inj (L'.set a x)
  e : ∀ y, y ∈ L'.set a x ↔ y ∈ M
  p : PL D' (L'.set a x) a X
  s : size D' = size D
  t : has D' (kv x) = has D (kv x)
  k : ∀ v, has D (kv v) = true → has D' (kv v) = true
  on : OnS [g, mb] w w'
  cm : CM w' sb pp rb nv K
theorem RI.next {C : Nat} {w w' w2 : World} {q sb g c mb pp rb nv : Nat} {K : Nat → Rk} {M : List Nat} {x : Nat} {D : DM} {X : Nat → Prop} {a : Nat} {L' : List Nat} {D' : DM} (h : RI C w w' q sb g c mb pp rb nv K M x D X a L' D') (k : Nx w' w2) : RI C w w2 q sb g c mb pp rb nv K M x D X a L' D' :=
  ⟨h.h.kept k, h.lt, h.l, h.j, h.e, h.p, h.s, h.t, h.k, h.on.tr (OnS.nx k), h.cm.next k⟩
theorem RI.step {C : Nat} {w w' w2 : World} {q sb g c mb pp rb nv : Nat} {K : Nat → Rk} {M : List Nat} {x : Nat} {D : DM} {X : Nat → Prop} {a b : Nat} {L' : List Nat} {D' : DM} (h : RI C w w' q sb g c mb pp rb nv K M x D X a L' D') (hb : b < L'.length) (hab : a ≠ b) (hs : sb ∉ [g, mb] ∧ pp ∉ [g, mb] ∧ rb ∉ [g, mb]) (k : HM C w2 q sb (.slice (some ⟨g, 0, none⟩) L'.length c) mb (L'.set a (lat L' b)) (D'.put (kv (lat L' b)) (pv a))) (k2 : OnS [g, mb] w' w2) : RI C w w2 q sb g c mb pp rb nv K M x D X b (L'.set a (lat L' b)) (D'.put (kv (lat L' b)) (pv a)) := by
  obtain ⟨h1, h2⟩ := h.p.step h.lt hb hab h.j
  have hne : x ≠ lat L' b := fun e => hab (h.j a b (by simpa using h.lt) (by simpa using hb) (by rw [lat_set h.lt, lat_set h.lt, if_pos rfl, if_neg (fun e => hab e.symm)]; exact e))
  exact ⟨by rw [List.length_set]; exact k, by simpa using hb, by simpa using h.l, swap_inj h.lt hb hab h.j, fun y => (swap_mem h.lt hb hab y).trans (h.e y), h1, h2.trans h.s, by rw [has_put_other (kv_inj hne)]; exact h.t, fun v hv => has_keep h.p.m _ _ (h.k v hv), h.on.tr k2, h.cm.on k2 hs.1 hs.2.1 hs.2.2⟩
theorem RI.close {C : Nat} {w w' w2 : World} {q sb g c mb pp rb nv : Nat} {K : Nat → Rk} {M : List Nat} {x : Nat} {D : DM} {X : Nat → Prop} {a : Nat} {L' : List Nat} {D' : DM} (h : RI C w w' q sb g c mb pp rb nv K M x D X a L' D') (ho : HeapOK K (L'.set a x)) (k : HM C w2 q sb (.slice (some ⟨g, 0, none⟩) L'.length c) mb (L'.set a x) (D'.put (kv x) (pv a))) (k2 : OnS [g, mb] w' w2) : HE C w w2 q sb g c mb K M x D X (L'.set a x) (D'.put (kv x) (pv a)) := by
  obtain ⟨h1, h2, h3⟩ := h.p.close h.lt h.j
  exact ⟨by rw [List.length_set]; exact k, by simpa using h.l, ho, h.j, h.e, h1, by rw [← h.s]; exact h2, fun e => by rw [← h.s]; exact h3 (by rw [h.t]; exact e), fun v hv => has_keep h.p.m _ _ (h.k v hv), h.on.tr k2⟩

set_option maxHeartbeats 8000000 in
theorem rise_any (C q sb mb g c pp rb nv : Nat) (K : Nat → Rk) (L : List Nat) (D : DM) (X : Nat → Prop) (a0 x : Nat) (w : World) (h : HM C w q sb (.slice (some ⟨g, 0, none⟩) L.length c) mb L D) (hcm : CM w sb pp rb nv K) (hs : sb ∉ [g, mb] ∧ pp ∉ [g, mb] ∧ rb ∉ [g, mb]) (ha : a0 < L.length) (hup : UP K (L.set a0 x) a0) (hj : Inj (L.set a0 x)) (hpl : PL D (L.set a0 x) a0 X) (hv : ∀ y ∈ L.set a0 x, y < nv) (hnv : nv ≤ 6000) (hL : L.length ≤ 10000) (hD : size D ≤ 9000) :
    Calls Try.prog 69 #[.pointer (some ⟨q, 0, none⟩), .int .i64 (a0 : Int), .int .i64 (x : Int)] w fun e w' => ∃ v L' D', e = .returned v ∧ HE C w w' q sb g c mb K (L.set a0 x) x D X L' D' := by
  have HS : Hid (sb ∉ [g, mb] ∧ pp ∉ [g, mb] ∧ rb ∉ [g, mb]) := hs
  have H0 : Hid (RI C w w q sb g c mb pp rb nv K (L.set a0 x) x D X a0 L D) := ⟨h, ha, by simp, hj, fun y => Iff.rfl, hpl, rfl, rfl, fun v hv => hv, OnS.refl _ _, hcm⟩
  have HU0 : Hid (UP K (L.set a0 x) a0) := hup
  have HV : Hid (∀ y ∈ L.set a0 x, y < nv) := hv
  have HX : Hid (x < nv) := hv x (mem_lat.2 ⟨a0, by simpa using ha, by rw [lat_set ha, if_pos rfl]⟩)
  have hxv : x ≤ 6000 := by have := HX.out; omega
  have HD : Hid (size D ≤ 9000) := hD
  have HL : Hid (L.length ≤ 10000) := hL
  have hal : a0 ≤ 10000 := by omega
  have HLM : Hid ((L.set a0 x).length = L.length) := by unfold Hid; simp
  clear h hcm hs hup hj hpl hv hD
  go_enter Try.func69, Try.ntmps69
  go_wp2
  go_loopw [1, 6] (fun a1 _ wr => ∃ (a : Nat) (L' : List Nat) (D' : DM), a ≤ 10000 ∧ a1 = .int .i64 (a : Int) ∧ Hid (RI C w wr q sb g c mb pp rb nv K (L.set a0 x) x D X a L' D') ∧ Hid (UP K (L'.set a x) a)) (fun a1 _ _ => (intOf a1).toNat)
  case atStart => exact ⟨a0, L, D, hal, rfl, H0, HU0⟩
  clear H0 HU0 hal ha
  obtain ⟨a, L', D', hal, rfl, HR, HU⟩ := hrel
  have HLL : Hid (L'.length ≤ 10000) := by have := HR.out.l; have := HLM.out; have := HL.out; unfold Hid; omega
  have HDD : Hid (size D' ≤ 9000) := by have := HR.out.s; have := HD.out; unfold Hid; omega
  by_cases ha0 : a = 0
  · subst ha0
    have d1 : decide ((0 : Int) < ((0 : Nat) : Int)) = false := rfl
    go_wp2_with fail
    refine (set_any C q sb mb g c L' D' 0 x _ HR.out.h HR.out.lt HLL.out (by omega) (by have := HDD.out; omega)).mono ?_
    rintro e w2 ⟨v, rfl, hm, hon⟩
    have HF := HR.out.close (HU.out.done (Or.inl rfl)) hm hon
    clear hm hon
    go_wp2
    refine bodyPost_end (v := .tuple #[]) (by simp [results, Try.results69, go_sem]) rfl ⟨_, _, _, rfl, HF⟩
  have d1 : decide ((0 : Int) < (a : Int)) = true := decide_eq_true (by omega)
  have d1' : decide (0 < a) = true := decide_eq_true (by omega)
  obtain ⟨b, hb⟩ : ∃ b : Nat, ((a : Int) - 1) / 2 = (b : Int) := ⟨(a - 1) / 2, by omega⟩
  have hba : b < a := by omega
  have HBE : Hid ((a - 1) / 2 = b) := by unfold Hid; omega
  have HBL : Hid (b < L'.length) := by have := HR.out.lt; unfold Hid; omega
  have hbl : (b : Int) < (L'.length : Int) := by have := HBL.out; omega
  have HYV : Hid (lat L' b < nv) := HV.out _ ((HR.out.e _).1 (mem_lat.2 ⟨b, by simpa using HBL.out, by rw [lat_set HR.out.lt, if_neg (by omega)]⟩))
  have HB : Hid (((a : Int) - 1) / 2 = (b : Int)) := hb
  clear hb
  have K0 : Hid (wr.cell? ⟨q, 0, none⟩ = some (.func (.func 50) #[] #[.pointer (some ⟨sb, 0, none⟩)])) := HR.out.h.q.blk.cell (i := 0) rfl
  have K1 : Hid (wr.cell? ⟨q, 1, none⟩ = some (.slice (some ⟨g, 0, none⟩) L'.length c)) := HR.out.h.q.blk.cell (i := 1) rfl
  have KC : Hid (wr.cell? ⟨g, b, none⟩ = some (.int .i64 (lat L' b : Int))) := by
    obtain ⟨g', e, hc⟩ := HR.out.h.i.cell (i := b) (by rw [ints_len]; exact HBL.out)
    simp only [Option.some.injEq, Addr.mk.injEq, and_true] at e
    subst e
    rw [ints_at HBL.out] at hc
    exact hc
  have HCB := cmpR_bd (K x) (K (lat L' b))
  have HCL : Hid (cmpR (K x) (K (lat L' b)) < 0 ↔ rlt (K x) (K (lat L' b))) := cmpR_lt _ _
  have CG : Hid (∀ d os, Calls Try.prog 50 #[.int .i64 (x : Int), .int .i64 (lat L' b : Int), .pointer (some ⟨sb, 0, none⟩)] (Sort.grow (redrawn wr d) os) fun e w'' => e = .returned (.int .i64 (cmpR (K x) (K (lat L' b)))) ∧ ∃ p : Regrown, w'' = Sort.grow (redrawn wr p.d) p.os) :=
    fun d os => Calls.regrown_of (less_vertex sb pp rb nv x (lat L' b) K _ (HR.out.cm.next (below_regrown wr d os)) HX.out HYV.out hnv)
  have hyl : lat L' b ≤ 10000 := by have := HYV.out; omega
  generalize hy : lat L' b = y at *
  have HY : Hid (lat L' b = y) := hy
  clear hy
  have k0 := cell_regrown K0.out
  have k1 := cell_regrown K1.out
  have kc := cell_regrown KC.out
  go_upto_region 2 with fail
  rw [HB.out]
  by_cases hlt : cmpR (K x) (K y) < 0
  · have d2 : decide (0 ≤ cmpR (K x) (K y)) = false := decide_eq_false (by omega)
    have HRL : Hid (rlt (K x) (K (lat L' b))) := by unfold Hid; rw [HY.out]; exact HCL.out.1 hlt
    have HU2 : Hid (UP K ((L'.set a (lat L' b)).set b x) b) := by
      have := HU.out.step HR.out.lt (by omega) (by rw [HBE.out]; exact HRL.out)
      rw [HBE.out] at this
      exact this
    generalize cmpR (K x) (K y) = cc at *
    refine wp_region_quiet_below (by kernel_rfl) (by kernel_rfl) ?_
    repeat (go_big_quiet_step (exact CG.out _ _))
    refine wpQuiet_nil ?_
    intro _ hw'
    obtain ⟨⟨dq, osq⟩, hw''⟩ := hw'
    subst hw''
    have HQ : Hid (Nx wr (Sort.grow (redrawn wr dq) osq)) := below_regrown wr dq osq
    clear k0 k1 kc CG
    generalize Sort.grow (redrawn wr dq) osq = wq at *
    have HRq : Hid (RI C w wq q sb g c mb pp rb nv K (L.set a0 x) x D X a L' D') := HR.out.next HQ.out
    have k1 := cellq HQ.out K1.out
    have kc := cellq HQ.out KC.out
    go_wp2_with fail
    refine (set_any C q sb mb g c L' D' a y _ HRq.out.h HRq.out.lt HLL.out (by omega) (by have := HDD.out; omega)).mono ?_
    rintro e w2 ⟨v, rfl, hm, hon⟩
    have HF : Hid (RI C w w2 q sb g c mb pp rb nv K (L.set a0 x) x D X b (L'.set a (lat L' b)) (D'.put (kv (lat L' b)) (pv a))) := HRq.out.step HBL.out (by omega) HS.out (by rw [HY.out]; exact hm) hon
    clear hm hon k1 kc
    go_wp2
    go_roundw
    case rel => exact ⟨b, _, _, by omega, rfl, HF, HU2⟩
    case measure => simp [intOf]; omega
  · have d2 : decide (0 ≤ cmpR (K x) (K y)) = true := decide_eq_true (by omega)
    have HRL : Hid (¬ rlt (K x) (K (lat L' b))) := by unfold Hid; rw [HY.out]; exact fun e => hlt (HCL.out.2 e)
    have HOK : Hid (HeapOK K (L'.set a x)) := HU.out.done (Or.inr (by rw [HBE.out, lat_set HR.out.lt, lat_set HR.out.lt, if_pos rfl, if_neg (by omega)]; exact HRL.out))
    generalize cmpR (K x) (K y) = cc at *
    refine wp_region_quiet_below (by kernel_rfl) (by kernel_rfl) ?_
    repeat (go_big_quiet_step (exact CG.out _ _))
    refine wpQuiet_nil ?_
    intro _ hw'
    obtain ⟨⟨dq, osq⟩, hw''⟩ := hw'
    subst hw''
    have HQ : Hid (Nx wr (Sort.grow (redrawn wr dq) osq)) := below_regrown wr dq osq
    clear k0 k1 kc CG
    generalize Sort.grow (redrawn wr dq) osq = wq at *
    have HRq : Hid (RI C w wq q sb g c mb pp rb nv K (L.set a0 x) x D X a L' D') := HR.out.next HQ.out
    go_wp2_with fail
    refine (set_any C q sb mb g c L' D' a x _ HRq.out.h HRq.out.lt HLL.out (by omega) (by have := HDD.out; omega)).mono ?_
    rintro e w2 ⟨v, rfl, hm, hon⟩
    have HF := HRq.out.close HOK.out hm hon
    clear hm hon
    go_wp2
    refine bodyPost_end (v := .tuple #[]) (by simp [results, Try.results69, go_sem]) rfl ⟨_, _, _, rfl, HF⟩
end Go.Proofs.Yticooljejlkbfaa
