import Derived.Test.YtdjmlpgdaanipaaGS
import Derived.Deep.CutRange
namespace Go.Proofs.Ytdjmlpgdaanipaa
open Go.RowKit
set_option linter.unusedVariables false
set_option maxRecDepth 100000

/-- the last of the first v vertices that has edge e and to which an arc goes from u; -1 where there is none -/
def stepL (G : Gr) (u : Nat) (e : Int) : Nat → Int
  | 0 => -1
  | v + 1 => if (iat G.eo v == e && decide (0 ≤ arcOf G u (v : Int))) = true then (v : Int) else stepL G u e v
theorem stepL_bd (G : Gr) (u : Nat) (e : Int) (v : Nat) : -1 ≤ stepL G u e v ∧ stepL G u e v < v := by
  induction v with
  | zero => simp [stepL]
  | succ v ih => unfold stepL; split <;> omega
/-- the path of the first k + 1 edges of a walk -/
def liftK (G : Gr) (P : List Int) : Nat → Option (List Int)
  | 0 => some [iat G.sr (iat P 0).toNat]
  | k + 1 => (liftK G P k).bind fun p => if stepL G (iat p k).toNat (iat P (k + 1)) G.eo.length < 0 then none else some (p ++ [stepL G (iat p k).toNat (iat P (k + 1)) G.eo.length])
theorem liftK_none {G : Gr} {P : List Int} {k d : Nat} (h : liftK G P k = none) : liftK G P (k + d) = none := by
  induction d with
  | zero => exact h
  | succ d ih => rw [← Nat.add_assoc, liftK, ih]; rfl
theorem liftK_stop {G : Gr} {P p : List Int} {k : Nat} (h : liftK G P k = some p) (hs : stepL G (iat p k).toNat (iat P (k + 1)) G.eo.length < 0) : liftK G P (k + 1) = none := by
  rw [liftK, h, Option.bind_some, if_pos hs]
theorem liftK_go {G : Gr} {P p : List Int} {k : Nat} (h : liftK G P k = some p) (hs : ¬ stepL G (iat p k).toNat (iat P (k + 1)) G.eo.length < 0) : liftK G P (k + 1) = some (p ++ [stepL G (iat p k).toNat (iat P (k + 1)) G.eo.length]) := by
  rw [liftK, h, Option.bind_some, if_neg hs]
def liftOk (G : Gr) (P : List Int) : Bool := validG G && (decide (0 < P.length) && (decide (P.length ≤ 10000) && (decide (0 ≤ iat P 0) && decide (iat P 0 < (G.sr.length : Int)))))
def liftWalk (G : Gr) (P : List Int) : List Int := if liftOk G P then (liftK G P (P.length - 1)).getD [] else []
theorem iat_snoc {p : List Int} {z : Int} {i : Nat} (h : i < p.length) : iat (p ++ [z]) i = iat p i := by
  simp [iat, List.getD, List.getElem?_append_left h]
theorem iat_end {p : List Int} {z : Int} {i : Nat} (h : i = p.length) : iat (p ++ [z]) i = z := by
  subst h
  simp [iat, List.getD]
theorem ownI_one (B : Nat) (w : World) (z : Int) (h : B ≤ w.heap.size) : OwnI B (w.alloc (.cells #[.int .i64 z] 2)) (.slice (some ⟨w.heap.size, 0, none⟩) 1 1) [z] :=
  ⟨rfl, .inr ⟨w.heap.size, 1, #[.int .i64 z], rfl, h, by show (w.heap.push _)[w.heap.size]? = _; simp, Nat.le_refl _, by simp [maxLen], by simp, by simp [icells]⟩⟩
theorem ownI_two (w : World) (o : Obj) (z : Int) : OwnI (w.heap.size + 1) ((w.alloc o).alloc (.cells #[.int .i64 z] 2)) (.slice (some ⟨w.heap.size + 1, 0, none⟩) 1 1) [z] := by
  have := ownI_one (w.heap.size + 1) (w.alloc o) z (Nat.le_of_eq (size_alloc' w o).symm)
  rw [size_alloc'] at this
  exact this
theorem OwnI.drew {B : Nat} {w : World} {v : Value} {zs : List Int} (h : OwnI B w v zs) : OwnI B w.drew v zs := h
theorem OwnI.cell {B : Nat} {w : World} {a : Option Addr} {n c : Nat} {zs : List Int} (h : OwnI B w (.slice a n c) zs) {i : Nat} (hi : i < zs.length) : ∃ g, a = some ⟨g, 0, none⟩ ∧ w.cell? ⟨g, i, none⟩ = some (.int .i64 (iat zs i)) := by
  rcases h.opened with ⟨e, h2⟩ | ⟨g, cap, e, _, _, hr⟩
  · omega
  · simp only [Value.slice.injEq] at e
    exact ⟨g, e.1, hr.cell hi⟩

set_option maxHeartbeats 8000000 in
theorem l4Lift_any (B : Nat) (v0 v1 v2 v3 v4 v5 v6 vp : Value) (G : Gr) (P : List Int) (w : World) (h0 : HG B w v0 v1 v2 v3 v4 v5 v6 G) (hp : HInts B w vp P) (hG : VG G) (hl0 : 0 < P.length) (hl1 : P.length ≤ 10000) (hw0 : 0 ≤ iat P 0) (hw1 : iat P 0 < (G.sr.length : Int)) :
    Calls Try.prog 31 #[.agg #[v0, v1, v2, v3, v4, v5, v6], vp] w fun e w' => (∃ v, e = .returned v ∧ OwnI w.heap.size w' v ((liftK G P (P.length - 1)).getD [])) ∧ Nx w w' := by
  obtain ⟨ii, hi, hz0, hz1, hz2⟩ := info_parts infoInt
  have HH : Hid (HG B w v0 v1 v2 v3 v4 v5 v6 G) := h0
  have HV : Hid (VG G) := hG
  obtain ⟨⟨a0, c0, rfl, hn0, hk0⟩, ⟨a1, c1, rfl, hn1, hk1⟩, ⟨a2, c2, rfl, hn2, hk2⟩, ⟨a3, c3, rfl, hn3, hk3⟩, ⟨a4, c4, rfl, hn4, hk4⟩, ⟨a5, c5, rfl, hn5, hk5⟩, ⟨a6, c6, rfl, hn6, hk6⟩⟩ := h0
  obtain ⟨a7, c7, rfl, hn7, hk7⟩ := hp
  unfold maxLen at hn0 hn1 hn2 hn3 hn4 hn5 hn6 hn7
  have hvv := hG.v
  clear hG
  generalize hz0 : G.eo.length = n0 at *
  have Z0 : Hid (G.eo.length = n0) := hz0
  clear hz0
  generalize hz1 : G.so.length = n1 at *
  have Z1 : Hid (G.so.length = n1) := hz1
  clear hz1
  generalize hz2 : G.fi.length = n2 at *
  have Z2 : Hid (G.fi.length = n2) := hz2
  clear hz2
  generalize hz3 : G.tt.length = n3 at *
  have Z3 : Hid (G.tt.length = n3) := hz3
  clear hz3
  generalize hz4 : G.co.length = n4 at *
  have Z4 : Hid (G.co.length = n4) := hz4
  clear hz4
  generalize hz5 : G.sr.length = n5 at *
  have Z5 : Hid (G.sr.length = n5) := hz5
  clear hz5
  generalize hz6 : G.we.length = n6 at *
  have Z6 : Hid (G.we.length = n6) := hz6
  clear hz6
  generalize hz7 : P.length = n7 at *
  have Z7 : Hid (P.length = n7) := hz7
  clear hz7
  obtain ⟨e, he⟩ : ∃ e : Nat, iat P 0 = (e : Int) := ⟨(iat P 0).toNat, by omega⟩
  have hen : e < n5 := by omega
  have hen' : (e : Int) < n5 := by omega
  have hl0' : (0 : Int) < n7 := by omega
  obtain ⟨b7, o7, ha7, _, hb7, hc7⟩ := hk7 hl0
  obtain ⟨b5, o5, ha5, _, hb5, hc5⟩ := hk5 (by omega)
  subst ha7 ha5
  have HC7 : Hid (∀ i, i < n7 → w.cell? ⟨b7, o7 + i, none⟩ = some (.int .i64 (iat P i))) := hc7
  have x0 : w.cell? ⟨b7, o7 + 0, none⟩ = some (.int .i64 (iat P 0)) := hc7 0 hl0
  rw [he, Nat.add_zero] at x0
  have y0 : w.cell? ⟨b5, o5 + e, none⟩ = some (.int .i64 (iat G.sr e)) := hc5 e hen
  have x1 := Lib.cell?_alloc_some (.cells #[.slice a0 n0 c0, .slice a1 n1 c1, .slice a2 n2 c2, .slice a3 n3 c3, .slice a4 n4 c4, .slice (some ⟨b5, o5, none⟩) n5 c5, .slice a6 n6 c6] 27) x0
  have y1 := Lib.cell?_alloc_some (.cells #[.slice a0 n0 c0, .slice a1 n1 c1, .slice a2 n2 c2, .slice a3 n3 c3, .slice a4 n4 c4, .slice (some ⟨b5, o5, none⟩) n5 c5, .slice a6 n6 c6] 27) y0
  have HL0 : Hid (liftK G P 0 = some [iat G.sr e]) := by unfold Hid; rw [liftK, he, Int.toNat_natCast]
  have hsb := HV.out.sr e (by rw [Z5.out]; exact hen)
  rw [Z0.out] at hsb
  have HSB : Hid (0 ≤ iat G.sr e ∧ iat G.sr e < n0) := ⟨hsb.1, hsb.2.1⟩
  generalize iat G.sr e = s0 at *
  clear hc7 hc5 he hk1 hk2 hk3 hk4 hk5 hk6 hk7 hsb x0 y0
  go_enter Try.func31, Try.ntmps31
  go_upto_region 1 with fail
  go_cut [5] from 9 (fun s5 wc => Hid (OwnI (w.heap.size + 1) wc s5 [s0]) ∧ Hid (Nx (w.alloc (.cells #[.slice a0 n0 c0, .slice a1 n1 c1, .slice a2 n2 c2, .slice a3 n3 c3, .slice a4 n4 c4, .slice (some ⟨b5, o5, none⟩) n5 c5, .slice a6 n6 c6] 27)) wc))
  case first =>
    go_region
    all_goals go_wp2
    all_goals go_meet
    all_goals exact ⟨OwnI.drew (ownI_two w _ s0), by first | exact (Nx.drew (Nx.refl _)).alloc _ | exact Nx.drew ((Nx.refl _).alloc _)⟩
  case rest =>
  obtain ⟨HOW, HNW⟩ := hcut
  clear x1 y1 hen hen' hw0 hw1
  go_wp2
  go_loopw [5, 6, 7, 8] (fun v i s7 s8 wr => ∃ k : Nat, k < n7 ∧ i = .int .i64 ((k : Int) + 1) ∧ Hid (∃ p, liftK G P k = some p ∧ p.length = k + 1 ∧ (∀ i, i < k + 1 → 0 ≤ iat p i ∧ iat p i < n0) ∧ OwnI (w.heap.size + 1) wr v p) ∧ Hid (Nx (w.alloc (.cells #[.slice a0 n0 c0, .slice a1 n1 c1, .slice a2 n2 c2, .slice a3 n3 c3, .slice a4 n4 c4, .slice (some ⟨b5, o5, none⟩) n5 c5, .slice a6 n6 c6] 27)) wr)) (fun _ i _ _ _ => n7 - (intOf i).toNat)
  case atStart => exact ⟨0, hl0, rfl, ⟨[s0], HL0.out, rfl, fun i hi => by obtain rfl : i = 0 := by omega
                                                                          exact HSB.out, HOW.out⟩, HNW⟩
  clear HOW HNW HL0 HSB
  obtain ⟨k, hkn, rfl, HP, HN⟩ := hrel
  have HW : Hid (Nx w wr) := (box1 _ _).trans HN.out
  by_cases hlt : k + 1 < n7
  · have hlt' : (k : Int) + 1 < n7 := by omega
    obtain ⟨p, hlk, hpl, hpb, hpo⟩ := HP.out
    obtain ⟨av, cv, hvs⟩ := hpo.slice
    rw [hpl] at hvs
    subst hvs
    obtain ⟨gp, hag, hcp⟩ := hpo.cell (i := k) (by omega)
    subst hag
    obtain ⟨u, hu⟩ : ∃ u : Nat, iat p k = (u : Int) := ⟨(iat p k).toNat, by have := (hpb k (by omega)).1; omega⟩
    have hun : u < n0 := by have := (hpb k (by omega)).2; omega
    rw [hu] at hcp
    have x0 := cell_next HW.out hb7 (HC7.out (k + 1) hlt)
    have HLK : Hid (liftK G P k = some p ∧ p.length = k + 1 ∧ (∀ i, i < k + 1 → 0 ≤ iat p i ∧ iat p i < n0)) := ⟨hlk, hpl, hpb⟩
    have HPO : Hid (OwnI (w.heap.size + 1) wr (.slice (some ⟨gp, 0, none⟩) (k + 1) cv) p) := hpo
    have HST : Hid (stepL G (iat p k).toNat (iat P (k + 1)) G.eo.length = stepL G u (iat P (k + 1)) n0) := by unfold Hid; rw [hu, Int.toNat_natCast, Z0.out]
    have BA := (Blk.new w #[.slice a0 n0 c0, .slice a1 n1 c1, .slice a2 n2 c2, .slice a3 n3 c3, .slice a4 n4 c4, .slice (some ⟨b5, o5, none⟩) n5 c5, .slice a6 n6 c6] 27 _ rfl).next HN.out
    clear hlk hpl hpb hpo hu HP
    generalize hEW : iat P (k + 1) = ew at *
    have HEW : Hid (iat P (k + 1) = ew) := hEW
    clear hEW
    go_wp2
    generalize hWR : wr = WR at *
    clear hWR
    go_loopw [7, 8] (fun s7 s8 wq => ∃ v : Nat, v ≤ n0 ∧ s8 = .int .i64 v ∧ s7 = .int .i64 (stepL G u ew v) ∧ Hid (Nx WR wq)) (fun _ s8 _ => n0 - (intOf s8).toNat)
    case atStart => exact ⟨0, Nat.zero_le _, rfl, rfl, Nx.refl _⟩
    obtain ⟨v, hvn, rfl, rfl, HQ⟩ := hrel
    have BQ := BA.next HQ.out
    have k0 := BQ.cell (i := 0) rfl
    by_cases hvl : v < n0
    · have hvl' : (v : Int) < n0 := by omega
      obtain ⟨b0, o0, ha0, _, hb0, hc0⟩ := hk0 (by omega)
      subst ha0
      have HWq : Hid (Nx w wr) := HW.out.trans HQ.out
      have y0 := cell_next HWq.out hb0 (hc0 v hvl)
      have x1 := cellq HQ.out x0
      have z1 := cellq HQ.out hcp
      have hwk := wrapJ k (by omega)
      have hkk : (k : Int) < (k : Int) + 1 := by omega
      have HSS : Hid (stepL G u ew (v + 1) = if (iat G.eo v == ew && decide (0 ≤ arcOf G u (v : Int))) = true then (v : Int) else stepL G u ew v) := rfl
      clear hc0 x0 hcp hk0
      by_cases g1 : iat G.eo v = ew
      · have f1 : (iat G.eo v == ew) = true := by simpa using g1
        have CG : Hid (∀ d os, Calls Try.prog 36 #[.agg #[.slice (some ⟨b0, o0, none⟩) n0 c0, .slice a1 n1 c1, .slice a2 n2 c2, .slice a3 n3 c3, .slice a4 n4 c4, .slice (some ⟨b5, o5, none⟩) n5 c5, .slice a6 n6 c6], .int .i64 u, .int .i64 (v : Int)] (Sort.grow (redrawn wr d) os) fun e w'' => e = .returned (.int .i64 (arcOf G u (v : Int))) ∧ ∃ p : Regrown, w'' = Sort.grow (redrawn wr p.d) p.os) :=
          fun d os => Calls.regrown_of (l4Arc_any B _ _ _ _ _ _ _ G u (v : Int) _ ((HH.out.next HWq.out).next (below_regrown wr d os)) HV.out (by rw [Z0.out]; exact hun))
        have Y0 := cell_regrown y0
        have X1 := cell_regrown x1
        have Z1 := cell_regrown z1
        have K0 := cell_regrown (BQ.cell (i := 0) rfl)
        have K1 := cell_regrown (BQ.cell (i := 1) rfl)
        have K2 := cell_regrown (BQ.cell (i := 2) rfl)
        have K3 := cell_regrown (BQ.cell (i := 3) rfl)
        have K4 := cell_regrown (BQ.cell (i := 4) rfl)
        have K5 := cell_regrown (BQ.cell (i := 5) rfl)
        have K6 := cell_regrown (BQ.cell (i := 6) rfl)
        clear g1 BQ
        generalize hAR : arcOf G u (v : Int) = ar at *
        clear hAR
        rw [f1, Bool.true_and] at HSS
        by_cases g2 : 0 ≤ ar
        · have f2 : decide (0 ≤ ar) = true := by simpa using g2
          have HF : Hid (stepL G u ew (v + 1) = (v : Int)) := by unfold Hid; rw [HSS.out, if_pos f2]
          clear g2 HSS
          generalize stepL G u ew v = sv at *
          go_wp2
          refine wp_region_quiet_below (by kernel_rfl) (by kernel_rfl) ?_
          repeat (go_big_quiet_step (exact CG.out _ _))
          refine wpQuiet_nil ?_
          intro _ hw'
          obtain ⟨⟨dq, osq⟩, hw''⟩ := hw'
          subst hw''
          have HB : Hid (Nx wr (Sort.grow (redrawn wr dq) osq)) := below_regrown wr dq osq
          go_wp2
          go_roundw
          case rel => exact ⟨v + 1, by omega, by go_num, by rw [HF.out], HQ.out.trans HB.out⟩
          case measure => simp [intOf]; omega
        · have f2 : decide (0 ≤ ar) = false := by simpa using g2
          have HF : Hid (stepL G u ew (v + 1) = stepL G u ew v) := by unfold Hid; rw [HSS.out, if_neg (by rw [f2]; simp)]
          clear g2 HSS
          generalize stepL G u ew v = sv at *
          go_wp2
          refine wp_region_quiet_below (by kernel_rfl) (by kernel_rfl) ?_
          repeat (go_big_quiet_step (exact CG.out _ _))
          refine wpQuiet_nil ?_
          intro _ hw'
          obtain ⟨⟨dq, osq⟩, hw''⟩ := hw'
          subst hw''
          have HB : Hid (Nx wr (Sort.grow (redrawn wr dq) osq)) := below_regrown wr dq osq
          go_wp2
          go_roundw
          case rel => exact ⟨v + 1, by omega, by go_num, by rw [HF.out], HQ.out.trans HB.out⟩
          case measure => simp [intOf]; omega
      · have f1 : (iat G.eo v == ew) = false := by simpa using g1
        have HF : Hid (stepL G u ew (v + 1) = stepL G u ew v) := by unfold Hid; rw [HSS.out, f1, Bool.false_and]; simp
        clear g1 HSS BQ
        generalize stepL G u ew v = sv at *
        go_wp2
        go_quiet (fail)
        go_wp2
        go_roundw
        case rel => exact ⟨v + 1, by omega, by go_num, by rw [HF.out], HQ.out.trans ⟨rfl, rfl, rfl, Nat.le_refl _, fun _ _ => rfl⟩⟩
        case measure => simp [intOf]; omega
    have ev : n0 = v := by omega
    subst ev
    have HPQ : Hid (OwnI (w.heap.size + 1) wr (.slice (some ⟨gp, 0, none⟩) (k + 1) cv) p) := HPO.out.next HQ.out
    have HNQ : Hid (Nx (w.alloc (.cells #[.slice a0 n0 c0, .slice a1 n1 c1, .slice a2 n2 c2, .slice a3 n3 c3, .slice a4 n4 c4, .slice (some ⟨b5, o5, none⟩) n5 c5, .slice a6 n6 c6] 27)) wr) := HN.out.trans HQ.out
    have HWQ : Hid (Nx w wr) := HW.out.trans HQ.out
    have hsb := stepL_bd G u ew n0
    generalize hsv : stepL G u ew n0 = sv at *
    have HSV : Hid (stepL G u ew n0 = sv) := hsv
    clear hsv hvn hvl BQ BA x0 hcp hk0 HPO HN HW HQ
    by_cases g3 : sv < 0
    · have f3 : decide (sv < 0) = true := by simpa using g3
      have HF : Hid ((liftK G P (n7 - 1)).getD [] = []) := by
        unfold Hid
        have h1 := liftK_stop HLK.out.1 (by rw [HEW.out, HST.out]; exact g3)
        have h2 := liftK_none (d := n7 - 1 - (k + 1)) h1
        rw [show k + 1 + (n7 - 1 - (k + 1)) = n7 - 1 by omega] at h2
        rw [h2]
        rfl
      clear g3 hsb
      go_wp2
      go_ret
      exact ⟨⟨_, rfl, by rw [HF.out]; exact ownI_none w.heap.size wr HWQ.out.size⟩, HWQ.out.alloc _⟩
    · have f3 : decide (sv < 0) = false := by simpa using g3
      have HF : Hid (liftK G P (k + 1) = some (p ++ [sv])) := by
        unfold Hid
        rw [liftK_go HLK.out.1 (by rw [HEW.out, HST.out]; exact g3), HEW.out, HST.out]
      have HPL : Hid (p.length = k + 1) := HLK.out.2.1
      have HBB : Hid (∀ i, i < k + 1 + 1 → 0 ≤ iat (p ++ [sv]) i ∧ iat (p ++ [sv]) i < n0) := fun i hi => by
        by_cases e : i < k + 1
        · rw [iat_snoc (by rw [HPL.out]; exact e)]; exact HLK.out.2.2 i e
        · rw [iat_end (by rw [HPL.out]; omega)]; omega
      have HZ3 : Hid (w.heap.size + 1 ≤ wr.heap.size) := by have := HNQ.out.size; unfold Hid; simpa using this
      clear g3 hsb HLK HST HSV
      go_wp2_with (at_builtin; refine wpList_append_own_at _ rfl _ _ 22 rfl (w.heap.size + 1) 2 ii (.int .i64 0) 1 8 Try.underlying22 hi hz0 hz1 hz2 rfl (by decide) _ _ _ rfl (World.ownsRow.alloc HPQ.out _) ⟨wr.heap.size, 0, none⟩ 1 1 [.int .i64 sv] rfl rfl (fun j u hj => new_cells wr _ _ _ rfl j u hj) ?c2 ?c3 ?c4 ?c5 ?_)
      case c2 => intro u hu; simp at hu; subst hu; rfl
      case c3 => rw [HPL.out]; unfold maxLen; omega
      case c4 => rw [HPL.out]; omega
      case c5 => have := HZ3.out; simp; omega
      intro v7 w7 hown hgrow _ _
      have HO7 : Hid (OwnI (w.heap.size + 1) w7 v7 (p ++ [sv])) := OwnI.snoc hown
      have HN7 : Hid (Nx (w.alloc (.cells #[.slice a0 n0 c0, .slice a1 n1 c1, .slice a2 n2 c2, .slice a3 n3 c3, .slice a4 n4 c4, .slice (some ⟨b5, o5, none⟩) n5 c5, .slice a6 n6 c6] 27)) w7) := Below.grown (HNQ.out.alloc _) hgrow (by have := HZ3.out; simp; omega) (fun g hg => by have := (own_lt HPQ.out g hg).1; simpa using this)
      clear hown hgrow HPQ HNQ
      go_wp2
      go_roundw
      case rel => exact ⟨k + 1, hlt, by go_num, ⟨p ++ [sv], HF.out, by rw [List.length_append, HPL.out]; rfl, HBB.out, HO7.out⟩, HN7⟩
      case measure => simp [intOf]; omega
  have ek : n7 = k + 1 := by omega
  have hlt' : ¬ (k : Int) + 1 < n7 := by omega
  have HF : Hid (OwnI (w.heap.size + 1) wr u5 ((liftK G P (n7 - 1)).getD [])) := by
    obtain ⟨p, hlk, hpl, hpb, hpo⟩ := HP.out
    unfold Hid
    rw [ek, Nat.add_sub_cancel, hlk]
    exact hpo
  clear HP hlt ek hkn
  go_wp2
  go_ret
  exact ⟨⟨_, rfl, HF.out.base (Nat.le_succ _)⟩, HW.out⟩
end Go.Proofs.Ytdjmlpgdaanipaa
