import Derived.Test.YtdjmlpgdaanipaaHK
namespace Go.Proofs.Ytdjmlpgdaanipaa
open Go.RowKit Go.Sort
set_option linter.unusedVariables false
set_option maxRecDepth 100000

theorem arcsTo_at {G : Gr} {P : List Int} {k i : Nat} (h : i < k) : iat (arcsTo G P k) i = arcOf G (iat P i).toNat (iat P (i + 1)) := by
  rw [iat_eq (by rw [arcsTo_len]; exact h)]
  simp [arcsTo]

set_option maxHeartbeats 8000000 in
theorem implCost_any (B : Nat) (v0 v1 v2 v3 v4 v5 v6 vp : Value) (G : Gr) (P : List Int) (w : World) (h0 : HG B w v0 v1 v2 v3 v4 v5 v6 G) (hp : HInts B w vp P) (hpc : CapOk vp) (hs : SmallG G) (hl : P.length ≤ 1048576) :
    Calls Try.prog 22 #[.agg #[v0, v1, v2, v3, v4, v5, v6], vp] w fun e w' => e = .returned (.int .i64 (pathCost G P)) ∧ Nx w w' := by
  have HS : Hid (SmallG G) := hs
  have HPC : Hid (CapOk vp) := hpc
  clear hs
  have HH : Hid (HG B w v0 v1 v2 v3 v4 v5 v6 G) := h0
  have HP : Hid (HInts B w vp P) := hp
  obtain ⟨⟨a0, c0, rfl, hn0, hk0⟩, ⟨a1, c1, rfl, hn1, hk1⟩, ⟨a2, c2, rfl, hn2, hk2⟩, ⟨a3, c3, rfl, hn3, hk3⟩, ⟨a4, c4, rfl, hn4, hk4⟩, ⟨a5, c5, rfl, hn5, hk5⟩, ⟨a6, c6, rfl, hn6, hk6⟩⟩ := h0
  obtain ⟨a7, c7, rfl, hn7, hk7⟩ := hp
  unfold maxLen at hn0 hn1 hn2 hn3 hn4 hn5 hn6 hn7
  obtain ⟨a', n', c', e, hcp⟩ := hpc
  simp only [Value.slice.injEq] at e
  obtain ⟨rfl, rfl, rfl⟩ := e
  generalize hz0 : G.eo.length = n0 at *
  have Z0 : Hid (G.eo.length = n0) := hz0
  clear hz0
  generalize hz1 : G.so.length = n1 at *
  have Z1 : Hid (G.so.length = n1) := hz1
  clear hz1
  generalize hz2 : G.fi.length = n2 at *
  have Z2 : Hid (G.fi.length = n2) := hz2
  clear hz2
  generalize hz3 : G.tt.length = n3 at *
  have Z3 : Hid (G.tt.length = n3) := hz3
  clear hz3
  generalize hz4 : G.co.length = n4 at *
  have Z4 : Hid (G.co.length = n4) := hz4
  clear hz4
  generalize hz5 : G.sr.length = n5 at *
  have Z5 : Hid (G.sr.length = n5) := hz5
  clear hz5
  generalize hz6 : G.we.length = n6 at *
  have Z6 : Hid (G.we.length = n6) := hz6
  clear hz6
  generalize hz7 : P.length = n7 at *
  have Z7 : Hid (P.length = n7) := hz7
  clear hz7
  have HPD : Hid (pathCost G P = if (validG G && isPath G P) = true then costTo G P (n7 - 1) else -1) := by unfold Hid; rw [← Z7.out]; rfl
  go_enter Try.func22, Try.ntmps22
  go_wp2_with fail
  refine (arcsAlong_any B _ _ _ _ _ _ _ _ G P _ (by exact HH.out.next (box1 _ _)) (by exact HP.out.next (box1 _ _)) HPC.out HS.out).mono ?_
  rintro e w1 ⟨⟨ta, tn, tc, rfl, hown⟩, hx⟩
  have BA : Blk w1 w.heap.size #[.slice a0 n0 c0, .slice a1 n1 c1, .slice a2 n2 c2, .slice a3 n3 c3, .slice a4 n4 c4, .slice a5 n5 c5, .slice a6 n6 c6] := (Blk.new w #[.slice a0 n0 c0, .slice a1 n1 c1, .slice a2 n2 c2, .slice a3 n3 c3, .slice a4 n4 c4, .slice a5 n5 c5, .slice a6 n6 c6] 27 _ rfl).next hx
  have HX : Hid (Nx w w1) := (box1 _ _).trans hx
  clear hx
  cases hb : (validG G && isPath G P)
  case false =>
    have HF : Hid (pathCost G P = -1) := by unfold Hid; rw [HPD.out, hb]; rfl
    clear hb hown
    go_wp2
    go_ret
    exact ⟨ret_int HF.out.symm, HX.out⟩
  have hb' := hb
  rw [Bool.and_eq_true] at hb'
  have HV : Hid (VG G) := vg_of hb'.1
  have HI : Hid (IP G P) := ip_of hb'.2
  have HO := hown hb
  have HF0 : Hid (pathCost G P = costTo G P (n7 - 1)) := by unfold Hid; rw [HPD.out, hb]; rfl
  rw [Z7.out] at HO
  clear hown hb hb' HPD
  have hl0 : 0 < n7 := by have := HI.out.l0; rw [Z7.out] at this; exact this
  have hl1 : n7 ≤ 10000 := by have := HI.out.l1; rw [Z7.out] at this; exact this
  obtain ⟨m, rfl⟩ : ∃ m, n7 = m + 1 := ⟨n7 - 1, by omega⟩
  rw [Nat.add_sub_cancel] at HO HF0
  have HOH : Hid (HInts (w.alloc (.cells #[.slice a0 n0 c0, .slice a1 n1 c1, .slice a2 n2 c2, .slice a3 n3 c3, .slice a4 n4 c4, .slice a5 n5 c5, .slice a6 n6 c6] 27)).heap.size w1 (.slice ta tn tc) (arcsTo G P m)) := HO.held
  obtain ⟨va, vc, hve⟩ := HO.slice
  rw [arcsTo_len] at hve
  simp only [Value.slice.injEq] at hve
  obtain ⟨hv1, hv2, hv3⟩ := hve
  have hv2 := hv2.symm
  subst hv1 hv2 hv3
  clear HO
  -- the first vertex and its edge
  obtain ⟨s, hs⟩ : ∃ s : Nat, iat P 0 = (s : Int) := ⟨(iat P 0).toNat, by have := (HI.out.b 0 (by rw [Z7.out]; omega)).1; omega⟩
  have hsn : s < n0 := by have := (HI.out.b 0 (by rw [Z7.out]; omega)).2; rw [Z0.out] at this; omega
  have hsn' : (s : Int) < n0 := by omega
  obtain ⟨t, ht⟩ : ∃ t : Nat, iat G.eo s = (t : Int) := ⟨(iat G.eo s).toNat, by have := (HV.out.eo s (by rw [Z0.out]; exact hsn)).1; omega⟩
  have htn : t < n6 := by have := (HV.out.eo s (by rw [Z0.out]; exact hsn)).2; have := HV.out.lw; rw [Z6.out] at this; omega
  have htn' : (t : Int) < n6 := by omega
  have HC0 : Hid (costTo G P 0 = iat G.we t) := by unfold Hid costTo; rw [hs, Int.toNat_natCast, ht, Int.toNat_natCast]
  obtain ⟨b7, o7, ha7, _, hb7, hc7⟩ := hk7 (by omega)
  obtain ⟨b0, o0, ha0, _, hb0, hc0⟩ := hk0 (by omega)
  obtain ⟨b6, o6, ha6, _, hb6, hc6⟩ := hk6 (by omega)
  have x0' : w.cell? ⟨b7, o7, none⟩ = some (.int .i64 (iat P 0)) := hc7 0 (by omega)
  have y0' : w.cell? ⟨b0, o0 + s, none⟩ = some (.int .i64 (iat G.eo s)) := hc0 s hsn
  rw [hs] at x0'
  rw [ht] at y0'
  have x0 := cell_next HX.out hb7 x0'
  have y0 := cell_next HX.out hb0 y0'
  have z0 := cell_next HX.out hb6 (hc6 t htn)
  have hm0 : (0 : Int) < (m : Int) + 1 := by omega
  have k0 := BA.cell (i := 0) rfl
  have k6 := BA.cell (i := 6) rfl
  have k4 := BA.cell (i := 4) rfl
  subst ha7 ha0 ha6
  have HBA : Hid (w1.cell? ⟨w.heap.size, 4, none⟩ = some (.slice a4 n4 c4)) := k4
  clear hs ht x0' y0' hc7 hc0 hc6 hk0 hk1 hk2 hk3 hk5 hk6 hk7 BA k4
  generalize iat G.we t = wt at *
  go_wp2
  go_quiet (fail)
  go_wp2
  go_loopw [7, 31] (fun c i wr => ∃ k : Nat, k ≤ m ∧ i = .int .i64 k ∧ c = .int .i64 (costTo G P k) ∧ Hid (Nx w1 wr)) (fun _ i _ => m - (intOf i).toNat)
  case atStart => exact ⟨0, Nat.zero_le _, rfl, by rw [HC0.out], ⟨rfl, rfl, rfl, Nat.le_refl _, fun _ _ => rfl⟩⟩
  obtain ⟨k, hkn, rfl, rfl, HN⟩ := hrel
  have HW : Hid (Nx w wr) := HX.out.trans HN.out
  by_cases hlt : k < m
  · have hlt' : (k : Int) < m := by omega
    obtain ⟨u, s', a, hu, hs', hun, hsn2, ea, han⟩ := HI.out.arc HV.out (i := k) (by rw [Z7.out]; omega)
    have hco := HV.out.co a han
    have hbd := costTo_bd HI.out HV.out (k := k) (by rw [Z7.out]; omega)
    have HCS : Hid (costTo G P (k + 1) = costTo G P k + iat G.co a) := by unfold Hid; rw [costTo, hu, Int.toNat_natCast, hs', ea, Int.toNat_natCast]
    have HAT : Hid (iat (arcsTo G P m) k = (a : Int)) := by unfold Hid; rw [arcsTo_at hlt, hu, Int.toNat_natCast, hs', ea]
    have hlc := HV.out.lc
    rw [Z4.out, Z3.out] at hlc
    rw [Z3.out] at han
    have han4 : a < n4 := by omega
    have han' : (a : Int) < n4 := by omega
    obtain ⟨ga, gc, ge, _, hrow⟩ := HOH.out
    simp only [Value.slice.injEq] at ge
    obtain ⟨rfl, ge2, rfl⟩ := ge
    clear ge2
    obtain ⟨bg, og, hga, _, hbg, hcg⟩ := hrow (by rw [arcsTo_len]; omega)
    have r0' : w1.cell? ⟨bg, og + k, none⟩ = some (.int .i64 (iat (arcsTo G P m) k)) := hcg k (by rw [arcsTo_len]; omega)
    rw [HAT.out] at r0'
    obtain ⟨b4, o4, ha4, _, hb4, hc4⟩ := hk4 (by omega)
    have r0 := cell_next HN.out hbg r0'
    have y4 := cell_next HW.out hb4 (hc4 a han4)
    have k4 := cellq HN.out HBA.out
    subst hga ha4
    generalize costTo G P k = ck at *
    generalize iat G.co a = ca at *
    clear r0' hcg hrow hc4 hk4 hu hs' ea hlc
    have hwc : IntKind.i64.wrap (ck + ca) = ck + ca := by rw [IntKind.wrap_i64]; omega
    go_wp2
    go_roundw
    case rel => exact ⟨k + 1, by omega, by go_num, by rw [HCS.out], HN⟩
    case measure => simp [intOf]; omega
  have ek : m = k := by omega
  subst ek
  clear hlt
  go_wp2
  go_ret
  exact ⟨ret_int HF0.out.symm, HW.out⟩
end Go.Proofs.Ytdjmlpgdaanipaa
