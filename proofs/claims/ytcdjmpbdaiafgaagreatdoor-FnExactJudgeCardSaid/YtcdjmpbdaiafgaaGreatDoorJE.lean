import Derived.Test.YtcdjmpbdaiafgaaGreatDoorJA
namespace Go.Proofs.YtcdjmpbdaiafgaaGreatDoor
open Go.RowKit Go.Sort
set_option linter.unusedVariables false
set_option maxRecDepth 100000

def banB (walk : List Int) (i : Nat) (x : Ru) : Bool := !x.only && sfx walk (i + 1) x.seq
def mustB (walk : List Int) (i : Nat) (x : Ru) : Bool := x.only && (sfx walk i (x.seq.take (x.seq.length - 1)) && (iat walk i != iat x.seq (x.seq.length - 1)))
/-- why edge i of a walk may not stand there, or 0 -/
def reasonJ (es : List Eg) (rules : List Ru) (walk : List Int) (i : Nat) : Int :=
  if iat walk i < 0 ∨ (es.length : Int) ≤ iat walk i then 3
  else if 0 < i ∧ (eat es (iat walk (i - 1)).toNat).head ≠ (eat es (iat walk i).toNat).tail then 4
  else if rules.any (banB walk i) then 5
  else if rules.any (mustB walk i) then 6 else 0
/-- rules in memory, their lists with room for what they hold -/
def HRuC (w : World) (v : Value) (xs : List Ru) : Prop :=
  HSlice 0 w v xs.length fun b off i => ∃ u, w.cell? ⟨b, off + i * 3, none⟩ = some (.int .i64 (ruat xs i).rel) ∧ w.cell? ⟨b, off + i * 3 + 1, none⟩ = some (.bool (ruat xs i).only) ∧ w.cell? ⟨b, off + i * 3 + 2, none⟩ = some u ∧ HInts 0 w u (ruat xs i).seq ∧ CapOk u
theorem HRuC.next {w w' : World} {v : Value} {xs : List Ru} (h : HRuC w v xs) (k : Nx w w') : HRuC w' v xs :=
  HSlice.mono h (Nat.le_refl _) k.size fun b off hb hs i hi hc => by
    obtain ⟨u, h0, h1, h2, h3, h4⟩ := hc
    exact ⟨u, cellq k h0, cellq k h1, cellq k h2, h3.next k, h4⟩
theorem any_none {α : Type} {l : List α} {p : α → Bool} {d : α} {at_ : List α → Nat → α} (hat : ∀ i (h : i < l.length), at_ l i = l[i]) (h : ∀ i, i < l.length → p (at_ l i) = false) : l.any p = false := by
  rw [List.any_eq_false]
  intro x hx
  obtain ⟨i, hi, rfl⟩ := List.getElem_of_mem hx
  have := h i hi
  rw [hat i hi] at this
  simp [this]
theorem any_some {α : Type} {l : List α} {p : α → Bool} {at_ : List α → Nat → α} (hat : ∀ i (h : i < l.length), at_ l i = l[i]) {i : Nat} (hi : i < l.length) (h : p (at_ l i) = true) : l.any p = true := by
  rw [List.any_eq_true]
  exact ⟨l[i], List.getElem_mem hi, by rw [← hat i hi]; exact h⟩

theorem upto_succ {P : Nat → Prop} {n : Nat} (h : ∀ m, m < n → P m) (h1 : P n) : ∀ m, m < n + 1 → P m := fun m hm => by
  rcases Nat.lt_or_eq_of_le (Nat.lt_succ_iff.1 hm) with h2 | rfl
  · exact h m h2
  · exact h1
theorem HInts.take {B : Nat} {w : World} {b off n cap : Nat} {xs : List Int} (h : HInts B w (.slice (some ⟨b, off, none⟩) n cap) xs) (s : Nat) (hs : s ≤ n) : HInts B w (.slice (some ⟨b, off, none⟩) s cap) (xs.take s) := by
  obtain ⟨a, cp, e, hm, hk⟩ := h
  simp only [Value.slice.injEq] at e
  obtain ⟨rfl, rfl, rfl⟩ := e
  have hl : (xs.take s).length = s := by simp; omega
  refine ⟨_, _, by rw [hl], by rw [hl]; omega, fun hp => ?_⟩
  rw [hl] at hp
  obtain ⟨b', o', e', hB, hb, hc⟩ := hk (by omega)
  simp only [Option.some.injEq, Addr.mk.injEq] at e'
  obtain ⟨rfl, rfl, _⟩ := e'
  refine ⟨b, off, rfl, hB, hb, fun i hi => ?_⟩
  rw [hl] at hi
  have := hc i (by omega)
  have e1 : iat (xs.take s) i = iat xs i := by
    rw [iat_eq (by rw [hl]; exact hi), iat_eq (by omega)]
    simp
  show w.cell? ⟨b, off + i, none⟩ = _
  rw [e1]
  exact this

/-- a guarded operation that is wanted, and what is listed then -/
theorem anyS_do2 {F : Fence} {n : Nat} {P : Program} {ops : Array Oper} {Q : Exit → Act → World → Prop} {md : Region.Mode} {S : World → Prop} {c i fuel : Nat} {listed : Array Bool} {a : Act} {w : World} {o : Oper} (hr : Region.ready md ops listed = [i]) (hi : ops[i]? = some o) (hw : Region.wanted o (yielded ops a.tmps) = true) (hcl : Cl md ops listed) (h : Cl md ops (listed.setIfInBounds i true) → ∀ K : Act → World → Prop, (∀ a' w', (c ≤ i ∨ S w') ∧ wpAnyS F n P md ops Q S c fuel (listed.setIfInBounds i true) a' w' → K a' w') → Oper.wpIn F n P o a w K Q) : wpAnyS F n P md ops Q S c (fuel + 1) listed a w :=
  anyS_do hr hi hw (h (hcl.step (by rw [hr]; simp)))

set_option maxHeartbeats 8000000 in
theorem l2Reason_any (B B1 : Nat) (v0 v1 v2 v3 : Value) (R : Rd) (vr : Value) (rules : List Ru) (vw : Value) (walk : List Int) (i : Nat) (w : World) (hR : HRoad B w v0 v1 v2 v3 R) (hr : HRuC w vr rules) (hW : HInts B1 w vw walk) (hi : i < walk.length) (hp : 0 < i → 0 ≤ iat walk (i - 1) ∧ iat walk (i - 1) < R.edges.length) (hs : ∀ j, j < rules.length → 2 ≤ (ruat rules j).seq.length) :
    Calls Tryz.prog 45 #[.agg #[v0, v1, v2, v3], vr, vw, .int .i64 (i : Int)] w fun r w' => r = .returned (.int .i64 (reasonJ R.edges rules walk i)) ∧ Nx w w' := by
  have HRU : Hid (HRuC w vr rules) := hr
  have HW : Hid (HInts B1 w vw walk) := hW
  have HSQ : Hid (∀ j, j < rules.length → 2 ≤ (ruat rules j).seq.length) := hs
  obtain ⟨r1, z1, f1, mr, kr⟩ := hR.2.1
  obtain ⟨ru, zu, fu, mu, ku⟩ := hr
  obtain ⟨wa, cw, e4, mw, kw⟩ := hW
  obtain ⟨bw, ow, e5, _, _, cwk⟩ := kw (by omega)
  unfold maxLen at mr mw mu
  have HIL : Hid (i < walk.length) := hi
  generalize hy1 : R.edges.length = y1 at *
  generalize hnw : walk.length = nw at *
  generalize hnu : rules.length = nu at *
  subst f1 fu e4 e5
  have HY1 : Hid (R.edges.length = y1) := hy1
  have HNU : Hid (rules.length = nu) := hnu
  have cx0 := cwk i hi
  have HIW : Hid (i < walk.length) := by unfold Hid; rw [hnw]; exact hi
  have HCP : Hid (0 < i → w.cell? ⟨bw, ow + (i - 1), none⟩ = some (.int .i64 (iat walk (i - 1)))) := fun h => cwk (i - 1) (by omega)
  have HRE : Hid (reasonJ R.edges rules walk i = if iat walk i < 0 ∨ (y1 : Int) ≤ iat walk i then 3 else if 0 < i ∧ (eat R.edges (iat walk (i - 1)).toNat).head ≠ (eat R.edges (iat walk i).toNat).tail then 4 else if rules.any (banB walk i) then 5 else if rules.any (mustB walk i) then 6 else 0) := by unfold Hid reasonJ; rw [HY1.out]
  clear hR hs hy1 hnu kw cwk
  generalize hWA : w.alloc (.cells #[v0, .slice r1 y1 z1, v2, v3] 60) = wA
  have HXA : Hid (Nx w wA) := by unfold Hid; rw [← hWA]; exact box1 _ _
  have HBR : Hid (BT wA w.heap.size #[v0, .slice r1 y1 z1, v2, v3] 60) := by unfold Hid; rw [← hWA]; exact BT.new _ _ _ _ rfl
  go_enter Tryz.func45, Tryz.ntmps45
  go_upto_region 1 with fail
  try rw [hWA]
  clear hWA
  have cx := cellq HXA.out cx0
  have b1c := HBR.out.blk.cell (i := 1) rfl
  have hin : (i : Int) < nw := by omega
  generalize hx : iat walk i = x at *
  by_cases hneg : x < 0
  · have HF : Hid (reasonJ R.edges rules walk i = 3) := by unfold Hid; rw [HRE.out, if_pos (Or.inl hneg)]
    have d1 : decide (x < 0) = true := by simpa using hneg
    go_quiet (fail)
    go_wp2
    go_ret
    exact ⟨by rw [HF.out]; rfl, HXA.out.trans (nx_drewN _ _)⟩
  have d1 : decide (x < 0) = false := by simpa using hneg
  by_cases hbig : (y1 : Int) ≤ x
  · have HF : Hid (reasonJ R.edges rules walk i = 3) := by unfold Hid; rw [HRE.out, if_pos (Or.inr hbig)]
    have d2 : decide ((y1 : Int) ≤ x) = true := by simpa using hbig
    go_quiet (fail)
    go_wp2
    go_ret
    exact ⟨by rw [HF.out]; rfl, HXA.out.trans (nx_drewN _ _)⟩
  have d2 : decide ((y1 : Int) ≤ x) = false := by simpa using hbig
  obtain ⟨y, rfl⟩ : ∃ y : Nat, x = (y : Int) := ⟨x.toNat, by omega⟩
  have hyl : y < y1 := by omega
  have hyl' : (y : Int) < y1 := by omega
  have d3 : decide (y1 ≤ y) = false := by simp; omega
  have HYT : Hid ((iat walk i).toNat = y) := by unfold Hid; rw [hx]; omega
  have HYI : Hid (iat walk i = (y : Int)) := hx
  have HCY : Hid (w.cell? ⟨bw, ow + i, none⟩ = some (.int .i64 (y : Int))) := by unfold Hid; rw [← hx]; exact cx0
  have HNB : Hid (¬ ((y : Int) < 0 ∨ (y1 : Int) ≤ (y : Int))) := by unfold Hid; omega
  go_quiet (fail)
  have HDQ : Hid (Nx wA (wA.drewN nq)) := nx_drewN _ _
  generalize wA.drewN nq = wq at *
  have HXQ : Hid (Nx w wq) := HXA.out.trans HDQ.out
  have dx := cellq HDQ.out cx
  have b1q := cellq HDQ.out b1c
  clear cx b1c hneg hbig cx0 hx
  go_upto_region 3 with fail
  clear d1 d2 d3
  by_cases hi0 : i = 0
  · have HR5 : Hid (reasonJ R.edges rules walk i = if rules.any (banB walk i) then 5 else if rules.any (mustB walk i) then 6 else 0) := by unfold Hid; rw [HRE.out, if_neg HNB.out, if_neg (by omega)]
    have g1 : decide (0 < i) = false := by simp; omega
    have g2 : decide ((0 : Int) < (i : Int)) = false := by simp; omega
    go_quiet (fail)
    have HXR : Hid (Nx w (wq.drewN nq)) := HXQ.out.trans (nx_drewN _ _)
    generalize wq.drewN nq = wz at *
    clear HRE hp b1q dx hi0 kr HCP
    have HAT : Hid (∀ j (h : j < rules.length), ruat rules j = rules[j]) := fun j h => ruat_eq h
    go_wp2
    go_loopw [9] (fun j wr => ∃ n : Nat, n ≤ nu ∧ j = .int .i64 n ∧ Hid (∀ m, m < n → banB walk i (ruat rules m) = false) ∧ Hid (Nx w wr)) (fun j _ => nu - (intOf j).toNat)
    case atStart => exact ⟨0, Nat.zero_le _, rfl, fun m h => absurd h (Nat.not_lt_zero _), HXR⟩
    obtain ⟨n, hn, rfl, HB, HX⟩ := hrel
    by_cases hlt : n < nu
    · obtain ⟨rb, ro, rfl, _, _, cr⟩ := ku (by omega)
      obtain ⟨u, _, c1, c2, hu, hcu⟩ := cr n hlt
      have d1 := cellq HX.out c1
      have d2 := cellq HX.out c2
      have HU : Hid (HInts 0 wr u (ruat rules n).seq) := hu.next HX.out
      obtain ⟨ua, uc, eu, _⟩ := hu.slice
      generalize hO : (ruat rules n).only = o at *
      have HO : Hid ((ruat rules n).only = o) := hO
      have hlt' : (n : Int) < nu := by omega
      clear cr c1 c2 hu hcu hO ku
      subst eu
      cases o with
      | true =>
        have HBN : Hid (banB walk i (ruat rules n) = false) := by unfold Hid banB; rw [HO.out]; rfl
        go_wp2
        go_roundw
        case rel => exact ⟨n + 1, by omega, by go_num, upto_succ HB.out HBN.out, HX⟩
        case measure => simp [intOf]; omega
      | false =>
        have HBN : Hid (banB walk i (ruat rules n) = sfx walk (i + 1) (ruat rules n).seq) := by unfold Hid banB; rw [HO.out]; rfl
        generalize hS : sfx walk (i + 1) (ruat rules n).seq = sb at HBN
        have HSB : Hid (sfx walk (i + 1) (ruat rules n).seq = sb) := hS
        clear hS
        cases sb with
        | true =>
          have HF : Hid (reasonJ R.edges rules walk i = 5) := by unfold Hid; rw [HR5.out, if_pos (any_some HAT.out (i := n) (by rw [HNU.out]; exact hlt) HBN.out)]
          go_wp2_with (go_at_call 79; refine (l2Suffix_any B1 0 _ _ walk (ruat rules n).seq (i + 1) _ (HW.out.next HX.out) HU.out HIW.out).mono ?_; rintro e w1 ⟨rfl, hx1⟩; rw [HSB.out])
          go_ret
          exact ⟨by rw [HF.out]; rfl, HX.out.trans hx1⟩
        | false =>
          go_wp2_with (go_at_call 79; refine (l2Suffix_any B1 0 _ _ walk (ruat rules n).seq (i + 1) _ (HW.out.next HX.out) HU.out HIW.out).mono ?_; rintro e w1 ⟨rfl, hx1⟩; rw [HSB.out])
          go_roundw
          case rel => exact ⟨n + 1, by omega, by go_num, upto_succ HB.out HBN.out, HX.out.trans hx1⟩
          case measure => simp [intOf]; omega
    have HNO : Hid (rules.any (banB walk i) = false) := any_none (d := ⟨0, false, []⟩) HAT.out (fun m h => HB.out m (by rw [HNU.out] at h; omega))
    have HR6 : Hid (reasonJ R.edges rules walk i = if rules.any (mustB walk i) then 6 else 0) := by unfold Hid; rw [HR5.out, HNO.out]; rfl
    have hnn : nu = n := by omega
    subst hnn
    clear HB HNO HR5 hlt hn
    go_wp2
    go_loopw [10, 11] (fun j mm wr => ∃ n : Nat, n ≤ nu ∧ j = .int .i64 n ∧ Hid (∀ m, m < n → mustB walk i (ruat rules m) = false) ∧ Hid (Nx w wr)) (fun j _ _ => nu - (intOf j).toNat)
    case atStart => exact ⟨0, Nat.zero_le _, rfl, fun m h => absurd h (Nat.not_lt_zero _), HX⟩
    clear HX
    obtain ⟨n, hn, rfl, HB, HX⟩ := hrel
    by_cases hlt : n < nu
    · obtain ⟨rb, ro, rfl, _, _, cr⟩ := ku (by omega)
      obtain ⟨u, _, c1, c2, hu, hcu⟩ := cr n hlt
      have h2 := HSQ.out n hlt
      have hu' := hu
      obtain ⟨ua, qc, rfl, hmm, hk⟩ := hu
      obtain ⟨qb, qo, rfl, _, _, cq⟩ := hk (by omega)
      have hqc : (ruat rules n).seq.length ≤ qc := by
        obtain ⟨_, _, _, e, hc⟩ := hcu
        simp only [Value.slice.injEq] at e
        obtain ⟨_, rfl, rfl⟩ := e
        exact hc
      have d1 := cellq HX.out c1
      have d2 := cellq HX.out c2
      have d3 := cellq HX.out (cq ((ruat rules n).seq.length - 1) (by omega))
      have HU : Hid (HInts 0 wr (.slice (some ⟨qb, qo, none⟩) ((ruat rules n).seq.length - 1) qc) ((ruat rules n).seq.take ((ruat rules n).seq.length - 1))) := (hu'.next HX.out).take _ (by omega)
      have d4 : wr.cell? ⟨bw, ow + i, none⟩ = some (.int .i64 (y : Int)) := cellq HX.out HCY.out
      have HMB : Hid (mustB walk i (ruat rules n) = ((ruat rules n).only && (sfx walk i ((ruat rules n).seq.take ((ruat rules n).seq.length - 1)) && ((y : Int) != iat (ruat rules n).seq ((ruat rules n).seq.length - 1))))) := by unfold Hid mustB; rw [HYI.out]
      generalize hm : (ruat rules n).seq.length = m at *
      generalize hz : iat (ruat rules n).seq (m - 1) = z at *
      generalize hO : (ruat rules n).only = o at *
      unfold maxLen at hmm
      have hmx : Tryz.prog.follows .mixedOrders = true := by kernel_rfl
      have HSS : Hid ((fun q => q.cell? ⟨rb, ro + n * 3 + 1, none⟩ = some (.bool o) ∧ q.cell? ⟨rb, ro + n * 3 + 2, none⟩ = some (.slice (some ⟨qb, qo, none⟩) m qc) ∧ q.cell? ⟨bw, ow + i, none⟩ = some (.int .i64 (y : Int)) ∧ q.cell? ⟨qb, qo + (m - 1), none⟩ = some (.int .i64 z)) wr.drew) := ⟨d1, d2, d4, d3⟩
      have HDR : Hid (Nx wr wr.drew) := (Below.refl _ _).drew
      have k1 : (n : Int) < nu := by omega
      have k2 : (i : Int) < nw := by omega
      have k3 : (m : Int) - 1 = ((m - 1 : Nat) : Int) := by omega
      have k4 : ((m - 1 : Nat) : Int) < m := by omega
      have k5 : ((m - 1 : Nat) : Int) ≤ qc := by omega
      have k6 : m - 1 ≤ qc := by omega
      clear cr c1 c2 hu' hcu hk cq hm hz hO ku d3 d4
      cases o with
      | false =>
        have HMF : Hid (mustB walk i (ruat rules n) = false) := by unfold Hid; rw [HMB.out]; rfl
        have HXD : Hid (Nx w wr.drew) := HX.out.trans HDR.out
        go_upto_region 14 with fail
        refine (wpIn_wide (n := 9)).1 ?_
        refine wpIn_region_S (c := 34) (S := fun q => q.cell? ⟨rb, ro + n * 3 + 1, none⟩ = some (.bool false) ∧ q.cell? ⟨rb, ro + n * 3 + 2, none⟩ = some (.slice (some ⟨qb, qo, none⟩) m qc) ∧ q.cell? ⟨bw, ow + i, none⟩ = some (.int .i64 (y : Int)) ∧ q.cell? ⟨qb, qo + (m - 1), none⟩ = some (.int .i64 z)) hmx (by kernel_rfl) (fun hw hcl => ?_)
        refine anyS_take (i := 0) (v := .slice (some ⟨rb, ro, none⟩) nu zu) hw (by decide) hcl (noDefer_none rfl) rfl (by kernel_rfl) (by kernel_rfl) (by kernel_rfl) (fun _ _ _ h => h) ⟨Or.inl ⟨by kernel_rfl, ?y0⟩, fun _ => rfl⟩ HSS.out (fun hcl => ?_)
        case y0 =>
          rintro q ⟨c1, c2, c3, c4⟩
          go_simp
        refine anyS_take (i := 1) (v := .int .i64 (n : Int)) hw (by decide) hcl (noDefer_none rfl) rfl (by kernel_rfl) (by kernel_rfl) (by kernel_rfl) (fun _ _ _ h => h) ⟨Or.inl ⟨by kernel_rfl, ?y1⟩, fun _ => rfl⟩ HSS.out (fun hcl => ?_)
        case y1 =>
          rintro q ⟨c1, c2, c3, c4⟩
          go_simp
        refine anyS_take (i := 2) (v := .pointer (some ⟨rb, ro + n * 3, none⟩)) hw (by decide) hcl (noDefer_none rfl) rfl (by kernel_rfl) (by kernel_rfl) (by kernel_rfl) (fun _ _ _ h => h) ⟨Or.inl ⟨by kernel_rfl, ?y2⟩, fun _ => rfl⟩ HSS.out (fun hcl => ?_)
        case y2 =>
          rintro q ⟨c1, c2, c3, c4⟩
          go_simp
        refine anyS_take (i := 3) (v := .pointer (some ⟨rb, ro + n * 3 + 1, none⟩)) hw (by decide) hcl (noDefer_none rfl) rfl (by kernel_rfl) (by kernel_rfl) (by kernel_rfl) (fun _ _ _ h => h) ⟨Or.inl ⟨by kernel_rfl, ?y3⟩, fun _ => rfl⟩ HSS.out (fun hcl => ?_)
        case y3 =>
          rintro q ⟨c1, c2, c3, c4⟩
          go_simp
        refine anyS_take (i := 4) (v := .bool false) hw (by decide) hcl (noDefer_none rfl) rfl (by kernel_rfl) (by kernel_rfl) (by kernel_rfl) (fun _ _ _ h => h) ⟨Or.inl ⟨by kernel_rfl, ?y4⟩, fun _ => rfl⟩ HSS.out (fun hcl => ?_)
        case y4 =>
          rintro q ⟨c1, c2, c3, c4⟩
          go_simp
        refine anyS_take (i := 5) (v := .bool false) hw (by decide) hcl (noDefer_none rfl) rfl (by kernel_rfl) (by kernel_rfl) (by kernel_rfl) (fun _ _ _ h => h) ⟨Or.inl ⟨by kernel_rfl, ?y5⟩, fun _ => rfl⟩ HSS.out (fun hcl => ?_)
        case y5 =>
          rintro q ⟨c1, c2, c3, c4⟩
          go_simp
        refine anyS_take (i := 6) (v := undef) hw (by decide) hcl (noDefer_none rfl) rfl (by kernel_rfl) (by kernel_rfl) (by kernel_rfl) (fun _ _ _ h => h) ⟨Or.inr ⟨by kernel_rfl, rfl⟩, fun _ => rfl⟩ HSS.out (fun hcl => ?_)
        refine anyS_take (i := 7) (v := undef) hw (by decide) hcl (noDefer_none rfl) rfl (by kernel_rfl) (by kernel_rfl) (by kernel_rfl) (fun _ _ _ h => h) ⟨Or.inr ⟨by kernel_rfl, rfl⟩, fun _ => rfl⟩ HSS.out (fun hcl => ?_)
        refine anyS_take (i := 8) (v := undef) hw (by decide) hcl (noDefer_none rfl) rfl (by kernel_rfl) (by kernel_rfl) (by kernel_rfl) (fun _ _ _ h => h) ⟨Or.inr ⟨by kernel_rfl, rfl⟩, fun _ => rfl⟩ HSS.out (fun hcl => ?_)
        refine anyS_take (i := 9) (v := undef) hw (by decide) hcl (noDefer_none rfl) rfl (by kernel_rfl) (by kernel_rfl) (by kernel_rfl) (fun _ _ _ h => h) ⟨Or.inr ⟨by kernel_rfl, rfl⟩, fun _ => rfl⟩ HSS.out (fun hcl => ?_)
        refine anyS_take (i := 10) (v := undef) hw (by decide) hcl (noDefer_none rfl) rfl (by kernel_rfl) (by kernel_rfl) (by kernel_rfl) (fun _ _ _ h => h) ⟨Or.inr ⟨by kernel_rfl, rfl⟩, fun _ => rfl⟩ HSS.out (fun hcl => ?_)
        refine anyS_take (i := 11) (v := undef) hw (by decide) hcl (noDefer_none rfl) rfl (by kernel_rfl) (by kernel_rfl) (by kernel_rfl) (fun _ _ _ h => h) ⟨Or.inr ⟨by kernel_rfl, rfl⟩, fun _ => rfl⟩ HSS.out (fun hcl => ?_)
        refine anyS_take (i := 12) (v := undef) hw (by decide) hcl (noDefer_none rfl) rfl (by kernel_rfl) (by kernel_rfl) (by kernel_rfl) (fun _ _ _ h => h) ⟨Or.inr ⟨by kernel_rfl, rfl⟩, fun _ => rfl⟩ HSS.out (fun hcl => ?_)
        refine anyS_take (i := 13) (v := undef) hw (by decide) hcl (noDefer_none rfl) rfl (by kernel_rfl) (by kernel_rfl) (by kernel_rfl) (fun _ _ _ h => h) ⟨Or.inr ⟨by kernel_rfl, rfl⟩, fun _ => rfl⟩ HSS.out (fun hcl => ?_)
        refine anyS_take (i := 14) (v := undef) hw (by decide) hcl (noDefer_none rfl) rfl (by kernel_rfl) (by kernel_rfl) (by kernel_rfl) (fun _ _ _ h => h) ⟨Or.inr ⟨by kernel_rfl, rfl⟩, fun _ => rfl⟩ HSS.out (fun hcl => ?_)
        refine anyS_take (i := 15) (v := undef) hw (by decide) hcl (noDefer_none rfl) rfl (by kernel_rfl) (by kernel_rfl) (by kernel_rfl) (fun _ _ _ h => h) ⟨Or.inr ⟨by kernel_rfl, rfl⟩, fun _ => rfl⟩ HSS.out (fun hcl => ?_)
        refine anyS_skip (i := 16) (by kernel_rfl) rfl (by kernel_rfl) (fun _ _ => trivial) (Or.inr HSS.out) hcl (fun hcl => ?_)
        refine anyS_take (i := 17) (v := .bool false) hw (by decide) hcl (noDefer_none rfl) rfl (by kernel_rfl) (by kernel_rfl) (by kernel_rfl) (fun _ _ _ h => h) ⟨Or.inl ⟨by kernel_rfl, ?y17⟩, fun _ => rfl⟩ HSS.out (fun hcl => ?_)
        case y17 =>
          rintro q ⟨c1, c2, c3, c4⟩
          kernel_rfl
        refine anyS_take (i := 18) (v := .bool false) hw (by decide) hcl (noDefer_none rfl) rfl (by kernel_rfl) (by kernel_rfl) (by kernel_rfl) (fun _ _ _ h => h) ⟨Or.inl ⟨by kernel_rfl, ?y18⟩, fun _ => rfl⟩ HSS.out (fun hcl => ?_)
        case y18 =>
          rintro q ⟨c1, c2, c3, c4⟩
          go_simp
        refine anyS_take (i := 19) (v := undef) hw (by decide) hcl (noDefer_none rfl) rfl (by kernel_rfl) (by kernel_rfl) (by kernel_rfl) (fun _ _ _ h => h) ⟨Or.inr ⟨by kernel_rfl, rfl⟩, fun _ => rfl⟩ HSS.out (fun hcl => ?_)
        refine anyS_take (i := 20) (v := undef) hw (by decide) hcl (noDefer_none rfl) rfl (by kernel_rfl) (by kernel_rfl) (by kernel_rfl) (fun _ _ _ h => h) ⟨Or.inr ⟨by kernel_rfl, rfl⟩, fun _ => rfl⟩ HSS.out (fun hcl => ?_)
        refine anyS_take (i := 21) (v := undef) hw (by decide) hcl (noDefer_none rfl) rfl (by kernel_rfl) (by kernel_rfl) (by kernel_rfl) (fun _ _ _ h => h) ⟨Or.inr ⟨by kernel_rfl, rfl⟩, fun _ => rfl⟩ HSS.out (fun hcl => ?_)
        refine anyS_take (i := 22) (v := undef) hw (by decide) hcl (noDefer_none rfl) rfl (by kernel_rfl) (by kernel_rfl) (by kernel_rfl) (fun _ _ _ h => h) ⟨Or.inr ⟨by kernel_rfl, rfl⟩, fun _ => rfl⟩ HSS.out (fun hcl => ?_)
        refine anyS_take (i := 23) (v := undef) hw (by decide) hcl (noDefer_none rfl) rfl (by kernel_rfl) (by kernel_rfl) (by kernel_rfl) (fun _ _ _ h => h) ⟨Or.inr ⟨by kernel_rfl, rfl⟩, fun _ => rfl⟩ HSS.out (fun hcl => ?_)
        refine anyS_take (i := 24) (v := undef) hw (by decide) hcl (noDefer_none rfl) rfl (by kernel_rfl) (by kernel_rfl) (by kernel_rfl) (fun _ _ _ h => h) ⟨Or.inr ⟨by kernel_rfl, rfl⟩, fun _ => rfl⟩ HSS.out (fun hcl => ?_)
        refine anyS_take (i := 25) (v := undef) hw (by decide) hcl (noDefer_none rfl) rfl (by kernel_rfl) (by kernel_rfl) (by kernel_rfl) (fun _ _ _ h => h) ⟨Or.inr ⟨by kernel_rfl, rfl⟩, fun _ => rfl⟩ HSS.out (fun hcl => ?_)
        refine anyS_take (i := 26) (v := undef) hw (by decide) hcl (noDefer_none rfl) rfl (by kernel_rfl) (by kernel_rfl) (by kernel_rfl) (fun _ _ _ h => h) ⟨Or.inr ⟨by kernel_rfl, rfl⟩, fun _ => rfl⟩ HSS.out (fun hcl => ?_)
        refine anyS_take (i := 27) (v := undef) hw (by decide) hcl (noDefer_none rfl) rfl (by kernel_rfl) (by kernel_rfl) (by kernel_rfl) (fun _ _ _ h => h) ⟨Or.inr ⟨by kernel_rfl, rfl⟩, fun _ => rfl⟩ HSS.out (fun hcl => ?_)
        refine anyS_take (i := 28) (v := undef) hw (by decide) hcl (noDefer_none rfl) rfl (by kernel_rfl) (by kernel_rfl) (by kernel_rfl) (fun _ _ _ h => h) ⟨Or.inr ⟨by kernel_rfl, rfl⟩, fun _ => rfl⟩ HSS.out (fun hcl => ?_)
        refine anyS_take (i := 29) (v := undef) hw (by decide) hcl (noDefer_none rfl) rfl (by kernel_rfl) (by kernel_rfl) (by kernel_rfl) (fun _ _ _ h => h) ⟨Or.inr ⟨by kernel_rfl, rfl⟩, fun _ => rfl⟩ HSS.out (fun hcl => ?_)
        refine anyS_take (i := 30) (v := undef) hw (by decide) hcl (noDefer_none rfl) rfl (by kernel_rfl) (by kernel_rfl) (by kernel_rfl) (fun _ _ _ h => h) ⟨Or.inr ⟨by kernel_rfl, rfl⟩, fun _ => rfl⟩ HSS.out (fun hcl => ?_)
        refine anyS_take (i := 31) (v := undef) hw (by decide) hcl (noDefer_none rfl) rfl (by kernel_rfl) (by kernel_rfl) (by kernel_rfl) (fun _ _ _ h => h) ⟨Or.inr ⟨by kernel_rfl, rfl⟩, fun _ => rfl⟩ HSS.out (fun hcl => ?_)
        refine anyS_take (i := 32) (v := undef) hw (by decide) hcl (noDefer_none rfl) rfl (by kernel_rfl) (by kernel_rfl) (by kernel_rfl) (fun _ _ _ h => h) ⟨Or.inr ⟨by kernel_rfl, rfl⟩, fun _ => rfl⟩ HSS.out (fun hcl => ?_)
        refine anyS_take (i := 33) (v := .bool false) hw (by decide) hcl (noDefer_none rfl) rfl (by kernel_rfl) (by kernel_rfl) (by kernel_rfl) (fun _ _ _ h => h) ⟨Or.inl ⟨by kernel_rfl, ?y33⟩, fun _ => rfl⟩ HSS.out (fun hcl => ?_)
        case y33 =>
          rintro q ⟨c1, c2, c3, c4⟩
          kernel_rfl
        refine anyS_act (a' := ⟨#[Value.agg #[v0, Value.slice r1 y1 z1, v2, v3], Value.slice (some { block := rb, off := ro }) nu zu, Value.slice (some { block := bw, off := ow }) nw cw, Value.int IntKind.i64 ↑i, Value.pointer (some { block := Array.size (World.heap w), off := 0 }), undef, undef, undef, u8, Value.int IntKind.i64 ↑nu, Value.int IntKind.i64 ↑n, Value.int IntKind.i64 ↑m, Value.slice (some { block := bw, off := ow }) nw cw, Value.int IntKind.i64 ↑i, Value.pointer (some { block := bw, off := ow + i }), Value.int IntKind.i64 ↑y, Value.bool false, Value.bool false, Value.slice (some { block := bw, off := ow }) nw cw, Value.int IntKind.i64 ↑i, Value.pointer (some { block := bw, off := ow + i }), Value.int IntKind.i64 ↑y, Value.pointer (some { block := Array.size (World.heap w), off := 1 }), Value.slice r1 y1 z1, Value.int IntKind.i64 ↑y1, Value.bool false, Value.bool false, Value.int IntKind.i64 ↑i, Value.bool false, Value.bool false, undef, undef, undef, undef, undef, undef, undef, undef, undef, undef, undef, undef, undef, undef, undef, undef, undef, undef, undef, undef, Value.bool false, Value.int IntKind.i64 ↑nu, Value.slice (some { block := rb, off := ro }) nu zu, Value.int IntKind.i64 ↑nu, Value.bool false, u55, u56, u57, u58, u59, u60, u61, u62, u63, u64, u65, u66, u67, u68, u69, u70, u71, u72, u73, Value.int IntKind.i64 ↑n, Value.slice (some { block := rb, off := ro }) nu zu, Value.int IntKind.i64 ↑nu, Value.bool true, u78, u79, Value.slice (some { block := rb, off := ro }) nu zu, Value.int IntKind.i64 ↑n, Value.pointer (some { block := rb, off := ro + n * 3 }), Value.pointer (some { block := rb, off := ro + n * 3 + 2 }), Value.slice (some { block := qb, off := qo }) m qc, Value.int IntKind.i64 ↑m, .slice (some ⟨rb, ro, none⟩) nu zu, .int .i64 (n : Int), .pointer (some ⟨rb, ro + n * 3, none⟩), .pointer (some ⟨rb, ro + n * 3 + 1, none⟩), .bool false, .bool false, undef, undef, undef, undef, undef, undef, undef, undef, undef, undef, undef, .bool false, .bool false, undef, undef, undef, undef, undef, undef, undef, undef, undef, undef, undef, undef, undef, undef, .bool false], []⟩) (by kernel_rfl) ?_
        refine anyS_done (by kernel_rfl) ?_ _
        clear hw hcl
        go_wp2
        go_roundw
        case rel => exact ⟨n + 1, by omega, by go_num, upto_succ HB.out HMF.out, HXD⟩
        case measure => simp [intOf]; omega
      | true =>
        generalize hsb : sfx walk i ((ruat rules n).seq.take (m - 1)) = sb at *
        have HSB : Hid (sfx walk i ((ruat rules n).seq.take (m - 1)) = sb) := hsb
        clear hsb
        cases sb with
        | false =>
          have HMF : Hid (mustB walk i (ruat rules n) = false) := by unfold Hid; rw [HMB.out]; rfl
          go_upto_region 14 with fail
          refine (wpIn_wide (n := 9)).1 ?_
          refine wpIn_region_S (c := 34) (S := fun q => q.cell? ⟨rb, ro + n * 3 + 1, none⟩ = some (.bool true) ∧ q.cell? ⟨rb, ro + n * 3 + 2, none⟩ = some (.slice (some ⟨qb, qo, none⟩) m qc) ∧ q.cell? ⟨bw, ow + i, none⟩ = some (.int .i64 (y : Int)) ∧ q.cell? ⟨qb, qo + (m - 1), none⟩ = some (.int .i64 z)) hmx (by kernel_rfl) (fun hw hcl => ?_)
          refine anyS_take (i := 0) (v := .slice (some ⟨rb, ro, none⟩) nu zu) hw (by decide) hcl (noDefer_none rfl) rfl (by kernel_rfl) (by kernel_rfl) (by kernel_rfl) (fun _ _ _ h => h) ⟨Or.inl ⟨by kernel_rfl, ?y0⟩, fun _ => rfl⟩ HSS.out (fun hcl => ?_)
          case y0 =>
            rintro q ⟨c1, c2, c3, c4⟩
            go_simp
          refine anyS_take (i := 1) (v := .int .i64 (n : Int)) hw (by decide) hcl (noDefer_none rfl) rfl (by kernel_rfl) (by kernel_rfl) (by kernel_rfl) (fun _ _ _ h => h) ⟨Or.inl ⟨by kernel_rfl, ?y1⟩, fun _ => rfl⟩ HSS.out (fun hcl => ?_)
          case y1 =>
            rintro q ⟨c1, c2, c3, c4⟩
            go_simp
          refine anyS_take (i := 2) (v := .pointer (some ⟨rb, ro + n * 3, none⟩)) hw (by decide) hcl (noDefer_none rfl) rfl (by kernel_rfl) (by kernel_rfl) (by kernel_rfl) (fun _ _ _ h => h) ⟨Or.inl ⟨by kernel_rfl, ?y2⟩, fun _ => rfl⟩ HSS.out (fun hcl => ?_)
          case y2 =>
            rintro q ⟨c1, c2, c3, c4⟩
            go_simp
          refine anyS_take (i := 3) (v := .pointer (some ⟨rb, ro + n * 3 + 1, none⟩)) hw (by decide) hcl (noDefer_none rfl) rfl (by kernel_rfl) (by kernel_rfl) (by kernel_rfl) (fun _ _ _ h => h) ⟨Or.inl ⟨by kernel_rfl, ?y3⟩, fun _ => rfl⟩ HSS.out (fun hcl => ?_)
          case y3 =>
            rintro q ⟨c1, c2, c3, c4⟩
            go_simp
          refine anyS_take (i := 4) (v := .bool true) hw (by decide) hcl (noDefer_none rfl) rfl (by kernel_rfl) (by kernel_rfl) (by kernel_rfl) (fun _ _ _ h => h) ⟨Or.inl ⟨by kernel_rfl, ?y4⟩, fun _ => rfl⟩ HSS.out (fun hcl => ?_)
          case y4 =>
            rintro q ⟨c1, c2, c3, c4⟩
            go_simp
          refine anyS_take (i := 5) (v := .bool true) hw (by decide) hcl (noDefer_none rfl) rfl (by kernel_rfl) (by kernel_rfl) (by kernel_rfl) (fun _ _ _ h => h) ⟨Or.inl ⟨by kernel_rfl, ?y5⟩, fun _ => rfl⟩ HSS.out (fun hcl => ?_)
          case y5 =>
            rintro q ⟨c1, c2, c3, c4⟩
            go_simp
          refine anyS_take (i := 6) (v := .slice (some ⟨bw, ow, none⟩) nw cw) hw (by decide) hcl (noDefer_none rfl) rfl (by kernel_rfl) (by kernel_rfl) (by kernel_rfl) (fun _ _ _ h => h) ⟨Or.inl ⟨by kernel_rfl, ?y6⟩, fun _ => rfl⟩ HSS.out (fun hcl => ?_)
          case y6 =>
            rintro q ⟨c1, c2, c3, c4⟩
            go_simp
          refine anyS_take (i := 7) (v := .int .i64 (i : Int)) hw (by decide) hcl (noDefer_none rfl) rfl (by kernel_rfl) (by kernel_rfl) (by kernel_rfl) (fun _ _ _ h => h) ⟨Or.inl ⟨by kernel_rfl, ?y7⟩, fun _ => rfl⟩ HSS.out (fun hcl => ?_)
          case y7 =>
            rintro q ⟨c1, c2, c3, c4⟩
            go_simp
          refine anyS_take (i := 8) (v := .slice (some ⟨rb, ro, none⟩) nu zu) hw (by decide) hcl (noDefer_none rfl) rfl (by kernel_rfl) (by kernel_rfl) (by kernel_rfl) (fun _ _ _ h => h) ⟨Or.inl ⟨by kernel_rfl, ?y8⟩, fun _ => rfl⟩ HSS.out (fun hcl => ?_)
          case y8 =>
            rintro q ⟨c1, c2, c3, c4⟩
            go_simp
          refine anyS_take (i := 9) (v := .int .i64 (n : Int)) hw (by decide) hcl (noDefer_none rfl) rfl (by kernel_rfl) (by kernel_rfl) (by kernel_rfl) (fun _ _ _ h => h) ⟨Or.inl ⟨by kernel_rfl, ?y9⟩, fun _ => rfl⟩ HSS.out (fun hcl => ?_)
          case y9 =>
            rintro q ⟨c1, c2, c3, c4⟩
            go_simp
          refine anyS_take (i := 10) (v := .pointer (some ⟨rb, ro + n * 3, none⟩)) hw (by decide) hcl (noDefer_none rfl) rfl (by kernel_rfl) (by kernel_rfl) (by kernel_rfl) (fun _ _ _ h => h) ⟨Or.inl ⟨by kernel_rfl, ?y10⟩, fun _ => rfl⟩ HSS.out (fun hcl => ?_)
          case y10 =>
            rintro q ⟨c1, c2, c3, c4⟩
            go_simp
          refine anyS_take (i := 11) (v := .pointer (some ⟨rb, ro + n * 3 + 2, none⟩)) hw (by decide) hcl (noDefer_none rfl) rfl (by kernel_rfl) (by kernel_rfl) (by kernel_rfl) (fun _ _ _ h => h) ⟨Or.inl ⟨by kernel_rfl, ?y11⟩, fun _ => rfl⟩ HSS.out (fun hcl => ?_)
          case y11 =>
            rintro q ⟨c1, c2, c3, c4⟩
            go_simp
          refine anyS_take (i := 12) (v := .slice (some ⟨qb, qo, none⟩) m qc) hw (by decide) hcl (noDefer_none rfl) rfl (by kernel_rfl) (by kernel_rfl) (by kernel_rfl) (fun _ _ _ h => h) ⟨Or.inl ⟨by kernel_rfl, ?y12⟩, fun _ => rfl⟩ HSS.out (fun hcl => ?_)
          case y12 =>
            rintro q ⟨c1, c2, c3, c4⟩
            go_simp
          refine anyS_take (i := 13) (v := .int .i64 (m : Int)) hw (by decide) hcl (noDefer_none rfl) rfl (by kernel_rfl) (by kernel_rfl) (by kernel_rfl) (fun _ _ _ h => h) ⟨Or.inl ⟨by kernel_rfl, ?y13⟩, fun _ => rfl⟩ HSS.out (fun hcl => ?_)
          case y13 =>
            rintro q ⟨c1, c2, c3, c4⟩
            go_simp
          refine anyS_take (i := 14) (v := .int .i64 ((m - 1 : Nat) : Int)) hw (by decide) hcl (noDefer_none rfl) rfl (by kernel_rfl) (by kernel_rfl) (by kernel_rfl) (fun _ _ _ h => h) ⟨Or.inl ⟨by kernel_rfl, ?y14⟩, fun _ => rfl⟩ HSS.out (fun hcl => ?_)
          case y14 =>
            rintro q ⟨c1, c2, c3, c4⟩
            go_simp
            exact Go.IntWalk.i64_in _ ⟨by omega, by omega⟩
          refine anyS_take (i := 15) (v := .slice (some ⟨qb, qo, none⟩) (m - 1) qc) hw (by decide) hcl (noDefer_none rfl) rfl (by kernel_rfl) (by kernel_rfl) (by kernel_rfl) (fun _ _ _ h => h) ⟨Or.inl ⟨by kernel_rfl, ?y15⟩, fun _ => rfl⟩ HSS.out (fun hcl => ?_)
          case y15 =>
            rintro q ⟨c1, c2, c3, c4⟩
            go_simp
          refine anyS_act (a' := ⟨#[Value.agg #[v0, Value.slice r1 y1 z1, v2, v3], Value.slice (some { block := rb, off := ro }) nu zu, Value.slice (some { block := bw, off := ow }) nw cw, Value.int IntKind.i64 ↑i, Value.pointer (some { block := Array.size (World.heap w), off := 0 }), undef, undef, undef, u8, Value.int IntKind.i64 ↑nu, Value.int IntKind.i64 ↑n, Value.int IntKind.i64 ↑m, Value.slice (some { block := bw, off := ow }) nw cw, Value.int IntKind.i64 ↑i, Value.pointer (some { block := bw, off := ow + i }), Value.int IntKind.i64 ↑y, Value.bool false, Value.bool false, Value.slice (some { block := bw, off := ow }) nw cw, Value.int IntKind.i64 ↑i, Value.pointer (some { block := bw, off := ow + i }), Value.int IntKind.i64 ↑y, Value.pointer (some { block := Array.size (World.heap w), off := 1 }), Value.slice r1 y1 z1, Value.int IntKind.i64 ↑y1, Value.bool false, Value.bool false, Value.int IntKind.i64 ↑i, Value.bool false, Value.bool false, undef, undef, undef, undef, undef, undef, undef, undef, undef, undef, undef, undef, undef, undef, undef, undef, undef, undef, undef, undef, Value.bool false, Value.int IntKind.i64 ↑nu, Value.slice (some { block := rb, off := ro }) nu zu, Value.int IntKind.i64 ↑nu, Value.bool false, u55, u56, u57, u58, u59, u60, u61, u62, u63, u64, u65, u66, u67, u68, u69, u70, u71, u72, u73, Value.int IntKind.i64 ↑n, Value.slice (some { block := rb, off := ro }) nu zu, Value.int IntKind.i64 ↑nu, Value.bool true, u78, u79, Value.slice (some { block := rb, off := ro }) nu zu, Value.int IntKind.i64 ↑n, Value.pointer (some { block := rb, off := ro + n * 3 }), Value.pointer (some { block := rb, off := ro + n * 3 + 2 }), Value.slice (some { block := qb, off := qo }) m qc, Value.int IntKind.i64 ↑m, .slice (some ⟨rb, ro, none⟩) nu zu, .int .i64 (n : Int), .pointer (some ⟨rb, ro + n * 3, none⟩), .pointer (some ⟨rb, ro + n * 3 + 1, none⟩), .bool true, .bool true, .slice (some ⟨bw, ow, none⟩) nw cw, .int .i64 (i : Int), .slice (some ⟨rb, ro, none⟩) nu zu, .int .i64 (n : Int), .pointer (some ⟨rb, ro + n * 3, none⟩), .pointer (some ⟨rb, ro + n * 3 + 2, none⟩), .slice (some ⟨qb, qo, none⟩) m qc, .int .i64 (m : Int), .int .i64 ((m - 1 : Nat) : Int), .slice (some ⟨qb, qo, none⟩) (m - 1) qc, u102, u103, u104, u105, u106, u107, u108, u109, u110, u111, u112, u113, u114, u115, u116, u117, u118, u119], []⟩) (by kernel_rfl) ?_
          refine anyS_do2 (i := 16) (by kernel_rfl) rfl (by kernel_rfl) hcl (fun hcl K hK => ?_)
          go_simp
          refine ⟨trivial, (callsIn_wide.2 (l2Suffix_any B1 0 _ _ walk ((ruat rules n).seq.take (m - 1)) i _ (HW.out.next (HX.out.trans HDR.out)) (HU.out.next HDR.out) (Nat.le_of_lt HIW.out))).mono ?_⟩
          rintro e w7 ⟨rfl, hx7⟩
          rw [HSB.out]
          have HX7 : Hid (Nx w w7) := HX.out.trans (HDR.out.trans hx7)
          have HS2 : Hid ((fun q => q.cell? ⟨rb, ro + n * 3 + 1, none⟩ = some (.bool true) ∧ q.cell? ⟨rb, ro + n * 3 + 2, none⟩ = some (.slice (some ⟨qb, qo, none⟩) m qc) ∧ q.cell? ⟨bw, ow + i, none⟩ = some (.int .i64 (y : Int)) ∧ q.cell? ⟨qb, qo + (m - 1), none⟩ = some (.int .i64 z)) w7) := by
            obtain ⟨c1, c2, c3, c4⟩ := HSS.out
            exact ⟨cellq hx7 c1, cellq hx7 c2, cellq hx7 c3, cellq hx7 c4⟩
          refine hK _ _ ⟨Or.inr HS2.out, ?_⟩
          clear hK K hx7
          refine anyS_take (i := 17) (v := .bool false) hw (by decide) hcl (noDefer_none rfl) rfl (by kernel_rfl) (by kernel_rfl) (by kernel_rfl) (fun _ _ _ h => h) ⟨Or.inl ⟨by kernel_rfl, ?y17⟩, fun _ => rfl⟩ HS2.out (fun hcl => ?_)
          case y17 =>
            rintro q ⟨c1, c2, c3, c4⟩
            kernel_rfl
          refine anyS_take (i := 18) (v := .bool false) hw (by decide) hcl (noDefer_none rfl) rfl (by kernel_rfl) (by kernel_rfl) (by kernel_rfl) (fun _ _ _ h => h) ⟨Or.inl ⟨by kernel_rfl, ?y18⟩, fun _ => rfl⟩ HS2.out (fun hcl => ?_)
          case y18 =>
            rintro q ⟨c1, c2, c3, c4⟩
            go_simp
          refine anyS_take (i := 19) (v := undef) hw (by decide) hcl (noDefer_none rfl) rfl (by kernel_rfl) (by kernel_rfl) (by kernel_rfl) (fun _ _ _ h => h) ⟨Or.inr ⟨by kernel_rfl, rfl⟩, fun _ => rfl⟩ HS2.out (fun hcl => ?_)
          refine anyS_take (i := 20) (v := undef) hw (by decide) hcl (noDefer_none rfl) rfl (by kernel_rfl) (by kernel_rfl) (by kernel_rfl) (fun _ _ _ h => h) ⟨Or.inr ⟨by kernel_rfl, rfl⟩, fun _ => rfl⟩ HS2.out (fun hcl => ?_)
          refine anyS_take (i := 21) (v := undef) hw (by decide) hcl (noDefer_none rfl) rfl (by kernel_rfl) (by kernel_rfl) (by kernel_rfl) (fun _ _ _ h => h) ⟨Or.inr ⟨by kernel_rfl, rfl⟩, fun _ => rfl⟩ HS2.out (fun hcl => ?_)
          refine anyS_take (i := 22) (v := undef) hw (by decide) hcl (noDefer_none rfl) rfl (by kernel_rfl) (by kernel_rfl) (by kernel_rfl) (fun _ _ _ h => h) ⟨Or.inr ⟨by kernel_rfl, rfl⟩, fun _ => rfl⟩ HS2.out (fun hcl => ?_)
          refine anyS_take (i := 23) (v := undef) hw (by decide) hcl (noDefer_none rfl) rfl (by kernel_rfl) (by kernel_rfl) (by kernel_rfl) (fun _ _ _ h => h) ⟨Or.inr ⟨by kernel_rfl, rfl⟩, fun _ => rfl⟩ HS2.out (fun hcl => ?_)
          refine anyS_take (i := 24) (v := undef) hw (by decide) hcl (noDefer_none rfl) rfl (by kernel_rfl) (by kernel_rfl) (by kernel_rfl) (fun _ _ _ h => h) ⟨Or.inr ⟨by kernel_rfl, rfl⟩, fun _ => rfl⟩ HS2.out (fun hcl => ?_)
          refine anyS_take (i := 25) (v := undef) hw (by decide) hcl (noDefer_none rfl) rfl (by kernel_rfl) (by kernel_rfl) (by kernel_rfl) (fun _ _ _ h => h) ⟨Or.inr ⟨by kernel_rfl, rfl⟩, fun _ => rfl⟩ HS2.out (fun hcl => ?_)
          refine anyS_take (i := 26) (v := undef) hw (by decide) hcl (noDefer_none rfl) rfl (by kernel_rfl) (by kernel_rfl) (by kernel_rfl) (fun _ _ _ h => h) ⟨Or.inr ⟨by kernel_rfl, rfl⟩, fun _ => rfl⟩ HS2.out (fun hcl => ?_)
          refine anyS_take (i := 27) (v := undef) hw (by decide) hcl (noDefer_none rfl) rfl (by kernel_rfl) (by kernel_rfl) (by kernel_rfl) (fun _ _ _ h => h) ⟨Or.inr ⟨by kernel_rfl, rfl⟩, fun _ => rfl⟩ HS2.out (fun hcl => ?_)
          refine anyS_take (i := 28) (v := undef) hw (by decide) hcl (noDefer_none rfl) rfl (by kernel_rfl) (by kernel_rfl) (by kernel_rfl) (fun _ _ _ h => h) ⟨Or.inr ⟨by kernel_rfl, rfl⟩, fun _ => rfl⟩ HS2.out (fun hcl => ?_)
          refine anyS_take (i := 29) (v := undef) hw (by decide) hcl (noDefer_none rfl) rfl (by kernel_rfl) (by kernel_rfl) (by kernel_rfl) (fun _ _ _ h => h) ⟨Or.inr ⟨by kernel_rfl, rfl⟩, fun _ => rfl⟩ HS2.out (fun hcl => ?_)
          refine anyS_take (i := 30) (v := undef) hw (by decide) hcl (noDefer_none rfl) rfl (by kernel_rfl) (by kernel_rfl) (by kernel_rfl) (fun _ _ _ h => h) ⟨Or.inr ⟨by kernel_rfl, rfl⟩, fun _ => rfl⟩ HS2.out (fun hcl => ?_)
          refine anyS_take (i := 31) (v := undef) hw (by decide) hcl (noDefer_none rfl) rfl (by kernel_rfl) (by kernel_rfl) (by kernel_rfl) (fun _ _ _ h => h) ⟨Or.inr ⟨by kernel_rfl, rfl⟩, fun _ => rfl⟩ HS2.out (fun hcl => ?_)
          refine anyS_take (i := 32) (v := undef) hw (by decide) hcl (noDefer_none rfl) rfl (by kernel_rfl) (by kernel_rfl) (by kernel_rfl) (fun _ _ _ h => h) ⟨Or.inr ⟨by kernel_rfl, rfl⟩, fun _ => rfl⟩ HS2.out (fun hcl => ?_)
          refine anyS_take (i := 33) (v := .bool false) hw (by decide) hcl (noDefer_none rfl) rfl (by kernel_rfl) (by kernel_rfl) (by kernel_rfl) (fun _ _ _ h => h) ⟨Or.inl ⟨by kernel_rfl, ?y33⟩, fun _ => rfl⟩ HS2.out (fun hcl => ?_)
          case y33 =>
            rintro q ⟨c1, c2, c3, c4⟩
            kernel_rfl
          refine anyS_act (a' := ⟨#[Value.agg #[v0, Value.slice r1 y1 z1, v2, v3], Value.slice (some { block := rb, off := ro }) nu zu, Value.slice (some { block := bw, off := ow }) nw cw, Value.int IntKind.i64 ↑i, Value.pointer (some { block := Array.size (World.heap w), off := 0 }), undef, undef, undef, u8, Value.int IntKind.i64 ↑nu, Value.int IntKind.i64 ↑n, Value.int IntKind.i64 ↑m, Value.slice (some { block := bw, off := ow }) nw cw, Value.int IntKind.i64 ↑i, Value.pointer (some { block := bw, off := ow + i }), Value.int IntKind.i64 ↑y, Value.bool false, Value.bool false, Value.slice (some { block := bw, off := ow }) nw cw, Value.int IntKind.i64 ↑i, Value.pointer (some { block := bw, off := ow + i }), Value.int IntKind.i64 ↑y, Value.pointer (some { block := Array.size (World.heap w), off := 1 }), Value.slice r1 y1 z1, Value.int IntKind.i64 ↑y1, Value.bool false, Value.bool false, Value.int IntKind.i64 ↑i, Value.bool false, Value.bool false, undef, undef, undef, undef, undef, undef, undef, undef, undef, undef, undef, undef, undef, undef, undef, undef, undef, undef, undef, undef, Value.bool false, Value.int IntKind.i64 ↑nu, Value.slice (some { block := rb, off := ro }) nu zu, Value.int IntKind.i64 ↑nu, Value.bool false, u55, u56, u57, u58, u59, u60, u61, u62, u63, u64, u65, u66, u67, u68, u69, u70, u71, u72, u73, Value.int IntKind.i64 ↑n, Value.slice (some { block := rb, off := ro }) nu zu, Value.int IntKind.i64 ↑nu, Value.bool true, u78, u79, Value.slice (some { block := rb, off := ro }) nu zu, Value.int IntKind.i64 ↑n, Value.pointer (some { block := rb, off := ro + n * 3 }), Value.pointer (some { block := rb, off := ro + n * 3 + 2 }), Value.slice (some { block := qb, off := qo }) m qc, Value.int IntKind.i64 ↑m, .slice (some ⟨rb, ro, none⟩) nu zu, .int .i64 (n : Int), .pointer (some ⟨rb, ro + n * 3, none⟩), .pointer (some ⟨rb, ro + n * 3 + 1, none⟩), .bool true, .bool true, .slice (some ⟨bw, ow, none⟩) nw cw, .int .i64 (i : Int), .slice (some ⟨rb, ro, none⟩) nu zu, .int .i64 (n : Int), .pointer (some ⟨rb, ro + n * 3, none⟩), .pointer (some ⟨rb, ro + n * 3 + 2, none⟩), .slice (some ⟨qb, qo, none⟩) m qc, .int .i64 (m : Int), .int .i64 ((m - 1 : Nat) : Int), .slice (some ⟨qb, qo, none⟩) (m - 1) qc, .bool false, .bool false, .bool false, undef, undef, undef, undef, undef, undef, undef, undef, undef, undef, undef, undef, undef, undef, .bool false], []⟩) (by kernel_rfl) ?_
          refine anyS_done (by kernel_rfl) ?_ _
          clear hw hcl
          go_wp2
          go_roundw
          case rel => exact ⟨n + 1, by omega, by go_num, upto_succ HB.out HMF.out, HX7⟩
          case measure => simp [intOf]; omega
        | true =>
          by_cases hyz : (y : Int) = z
          · have HMF : Hid (mustB walk i (ruat rules n) = false) := by unfold Hid; rw [HMB.out, hyz]; simp
            have HNZ : Hid (((y : Int) != z) = false) := by unfold Hid; simpa using hyz
            clear hyz
            go_upto_region 14 with fail
            refine (wpIn_wide (n := 9)).1 ?_
            refine wpIn_region_S (c := 34) (S := fun q => q.cell? ⟨rb, ro + n * 3 + 1, none⟩ = some (.bool true) ∧ q.cell? ⟨rb, ro + n * 3 + 2, none⟩ = some (.slice (some ⟨qb, qo, none⟩) m qc) ∧ q.cell? ⟨bw, ow + i, none⟩ = some (.int .i64 (y : Int)) ∧ q.cell? ⟨qb, qo + (m - 1), none⟩ = some (.int .i64 z)) hmx (by kernel_rfl) (fun hw hcl => ?_)
            refine anyS_take (i := 0) (v := .slice (some ⟨rb, ro, none⟩) nu zu) hw (by decide) hcl (noDefer_none rfl) rfl (by kernel_rfl) (by kernel_rfl) (by kernel_rfl) (fun _ _ _ h => h) ⟨Or.inl ⟨by kernel_rfl, ?y0⟩, fun _ => rfl⟩ HSS.out (fun hcl => ?_)
            case y0 =>
              rintro q ⟨c1, c2, c3, c4⟩
              go_simp
            refine anyS_take (i := 1) (v := .int .i64 (n : Int)) hw (by decide) hcl (noDefer_none rfl) rfl (by kernel_rfl) (by kernel_rfl) (by kernel_rfl) (fun _ _ _ h => h) ⟨Or.inl ⟨by kernel_rfl, ?y1⟩, fun _ => rfl⟩ HSS.out (fun hcl => ?_)
            case y1 =>
              rintro q ⟨c1, c2, c3, c4⟩
              go_simp
            refine anyS_take (i := 2) (v := .pointer (some ⟨rb, ro + n * 3, none⟩)) hw (by decide) hcl (noDefer_none rfl) rfl (by kernel_rfl) (by kernel_rfl) (by kernel_rfl) (fun _ _ _ h => h) ⟨Or.inl ⟨by kernel_rfl, ?y2⟩, fun _ => rfl⟩ HSS.out (fun hcl => ?_)
            case y2 =>
              rintro q ⟨c1, c2, c3, c4⟩
              go_simp
            refine anyS_take (i := 3) (v := .pointer (some ⟨rb, ro + n * 3 + 1, none⟩)) hw (by decide) hcl (noDefer_none rfl) rfl (by kernel_rfl) (by kernel_rfl) (by kernel_rfl) (fun _ _ _ h => h) ⟨Or.inl ⟨by kernel_rfl, ?y3⟩, fun _ => rfl⟩ HSS.out (fun hcl => ?_)
            case y3 =>
              rintro q ⟨c1, c2, c3, c4⟩
              go_simp
            refine anyS_take (i := 4) (v := .bool true) hw (by decide) hcl (noDefer_none rfl) rfl (by kernel_rfl) (by kernel_rfl) (by kernel_rfl) (fun _ _ _ h => h) ⟨Or.inl ⟨by kernel_rfl, ?y4⟩, fun _ => rfl⟩ HSS.out (fun hcl => ?_)
            case y4 =>
              rintro q ⟨c1, c2, c3, c4⟩
              go_simp
            refine anyS_take (i := 5) (v := .bool true) hw (by decide) hcl (noDefer_none rfl) rfl (by kernel_rfl) (by kernel_rfl) (by kernel_rfl) (fun _ _ _ h => h) ⟨Or.inl ⟨by kernel_rfl, ?y5⟩, fun _ => rfl⟩ HSS.out (fun hcl => ?_)
            case y5 =>
              rintro q ⟨c1, c2, c3, c4⟩
              go_simp
            refine anyS_take (i := 6) (v := .slice (some ⟨bw, ow, none⟩) nw cw) hw (by decide) hcl (noDefer_none rfl) rfl (by kernel_rfl) (by kernel_rfl) (by kernel_rfl) (fun _ _ _ h => h) ⟨Or.inl ⟨by kernel_rfl, ?y6⟩, fun _ => rfl⟩ HSS.out (fun hcl => ?_)
            case y6 =>
              rintro q ⟨c1, c2, c3, c4⟩
              go_simp
            refine anyS_take (i := 7) (v := .int .i64 (i : Int)) hw (by decide) hcl (noDefer_none rfl) rfl (by kernel_rfl) (by kernel_rfl) (by kernel_rfl) (fun _ _ _ h => h) ⟨Or.inl ⟨by kernel_rfl, ?y7⟩, fun _ => rfl⟩ HSS.out (fun hcl => ?_)
            case y7 =>
              rintro q ⟨c1, c2, c3, c4⟩
              go_simp
            refine anyS_take (i := 8) (v := .slice (some ⟨rb, ro, none⟩) nu zu) hw (by decide) hcl (noDefer_none rfl) rfl (by kernel_rfl) (by kernel_rfl) (by kernel_rfl) (fun _ _ _ h => h) ⟨Or.inl ⟨by kernel_rfl, ?y8⟩, fun _ => rfl⟩ HSS.out (fun hcl => ?_)
            case y8 =>
              rintro q ⟨c1, c2, c3, c4⟩
              go_simp
            refine anyS_take (i := 9) (v := .int .i64 (n : Int)) hw (by decide) hcl (noDefer_none rfl) rfl (by kernel_rfl) (by kernel_rfl) (by kernel_rfl) (fun _ _ _ h => h) ⟨Or.inl ⟨by kernel_rfl, ?y9⟩, fun _ => rfl⟩ HSS.out (fun hcl => ?_)
            case y9 =>
              rintro q ⟨c1, c2, c3, c4⟩
              go_simp
            refine anyS_take (i := 10) (v := .pointer (some ⟨rb, ro + n * 3, none⟩)) hw (by decide) hcl (noDefer_none rfl) rfl (by kernel_rfl) (by kernel_rfl) (by kernel_rfl) (fun _ _ _ h => h) ⟨Or.inl ⟨by kernel_rfl, ?y10⟩, fun _ => rfl⟩ HSS.out (fun hcl => ?_)
            case y10 =>
              rintro q ⟨c1, c2, c3, c4⟩
              go_simp
            refine anyS_take (i := 11) (v := .pointer (some ⟨rb, ro + n * 3 + 2, none⟩)) hw (by decide) hcl (noDefer_none rfl) rfl (by kernel_rfl) (by kernel_rfl) (by kernel_rfl) (fun _ _ _ h => h) ⟨Or.inl ⟨by kernel_rfl, ?y11⟩, fun _ => rfl⟩ HSS.out (fun hcl => ?_)
            case y11 =>
              rintro q ⟨c1, c2, c3, c4⟩
              go_simp
            refine anyS_take (i := 12) (v := .slice (some ⟨qb, qo, none⟩) m qc) hw (by decide) hcl (noDefer_none rfl) rfl (by kernel_rfl) (by kernel_rfl) (by kernel_rfl) (fun _ _ _ h => h) ⟨Or.inl ⟨by kernel_rfl, ?y12⟩, fun _ => rfl⟩ HSS.out (fun hcl => ?_)
            case y12 =>
              rintro q ⟨c1, c2, c3, c4⟩
              go_simp
            refine anyS_take (i := 13) (v := .int .i64 (m : Int)) hw (by decide) hcl (noDefer_none rfl) rfl (by kernel_rfl) (by kernel_rfl) (by kernel_rfl) (fun _ _ _ h => h) ⟨Or.inl ⟨by kernel_rfl, ?y13⟩, fun _ => rfl⟩ HSS.out (fun hcl => ?_)
            case y13 =>
              rintro q ⟨c1, c2, c3, c4⟩
              go_simp
            refine anyS_take (i := 14) (v := .int .i64 ((m - 1 : Nat) : Int)) hw (by decide) hcl (noDefer_none rfl) rfl (by kernel_rfl) (by kernel_rfl) (by kernel_rfl) (fun _ _ _ h => h) ⟨Or.inl ⟨by kernel_rfl, ?y14⟩, fun _ => rfl⟩ HSS.out (fun hcl => ?_)
            case y14 =>
              rintro q ⟨c1, c2, c3, c4⟩
              go_simp
              exact Go.IntWalk.i64_in _ ⟨by omega, by omega⟩
            refine anyS_take (i := 15) (v := .slice (some ⟨qb, qo, none⟩) (m - 1) qc) hw (by decide) hcl (noDefer_none rfl) rfl (by kernel_rfl) (by kernel_rfl) (by kernel_rfl) (fun _ _ _ h => h) ⟨Or.inl ⟨by kernel_rfl, ?y15⟩, fun _ => rfl⟩ HSS.out (fun hcl => ?_)
            case y15 =>
              rintro q ⟨c1, c2, c3, c4⟩
              go_simp
            refine anyS_act (a' := ⟨#[Value.agg #[v0, Value.slice r1 y1 z1, v2, v3], Value.slice (some { block := rb, off := ro }) nu zu, Value.slice (some { block := bw, off := ow }) nw cw, Value.int IntKind.i64 ↑i, Value.pointer (some { block := Array.size (World.heap w), off := 0 }), undef, undef, undef, u8, Value.int IntKind.i64 ↑nu, Value.int IntKind.i64 ↑n, Value.int IntKind.i64 ↑m, Value.slice (some { block := bw, off := ow }) nw cw, Value.int IntKind.i64 ↑i, Value.pointer (some { block := bw, off := ow + i }), Value.int IntKind.i64 ↑y, Value.bool false, Value.bool false, Value.slice (some { block := bw, off := ow }) nw cw, Value.int IntKind.i64 ↑i, Value.pointer (some { block := bw, off := ow + i }), Value.int IntKind.i64 ↑y, Value.pointer (some { block := Array.size (World.heap w), off := 1 }), Value.slice r1 y1 z1, Value.int IntKind.i64 ↑y1, Value.bool false, Value.bool false, Value.int IntKind.i64 ↑i, Value.bool false, Value.bool false, undef, undef, undef, undef, undef, undef, undef, undef, undef, undef, undef, undef, undef, undef, undef, undef, undef, undef, undef, undef, Value.bool false, Value.int IntKind.i64 ↑nu, Value.slice (some { block := rb, off := ro }) nu zu, Value.int IntKind.i64 ↑nu, Value.bool false, u55, u56, u57, u58, u59, u60, u61, u62, u63, u64, u65, u66, u67, u68, u69, u70, u71, u72, u73, Value.int IntKind.i64 ↑n, Value.slice (some { block := rb, off := ro }) nu zu, Value.int IntKind.i64 ↑nu, Value.bool true, u78, u79, Value.slice (some { block := rb, off := ro }) nu zu, Value.int IntKind.i64 ↑n, Value.pointer (some { block := rb, off := ro + n * 3 }), Value.pointer (some { block := rb, off := ro + n * 3 + 2 }), Value.slice (some { block := qb, off := qo }) m qc, Value.int IntKind.i64 ↑m, .slice (some ⟨rb, ro, none⟩) nu zu, .int .i64 (n : Int), .pointer (some ⟨rb, ro + n * 3, none⟩), .pointer (some ⟨rb, ro + n * 3 + 1, none⟩), .bool true, .bool true, .slice (some ⟨bw, ow, none⟩) nw cw, .int .i64 (i : Int), .slice (some ⟨rb, ro, none⟩) nu zu, .int .i64 (n : Int), .pointer (some ⟨rb, ro + n * 3, none⟩), .pointer (some ⟨rb, ro + n * 3 + 2, none⟩), .slice (some ⟨qb, qo, none⟩) m qc, .int .i64 (m : Int), .int .i64 ((m - 1 : Nat) : Int), .slice (some ⟨qb, qo, none⟩) (m - 1) qc, u102, u103, u104, u105, u106, u107, u108, u109, u110, u111, u112, u113, u114, u115, u116, u117, u118, u119], []⟩) (by kernel_rfl) ?_
            refine anyS_do2 (i := 16) (by kernel_rfl) rfl (by kernel_rfl) hcl (fun hcl K hK => ?_)
            go_simp
            refine ⟨trivial, (callsIn_wide.2 (l2Suffix_any B1 0 _ _ walk ((ruat rules n).seq.take (m - 1)) i _ (HW.out.next (HX.out.trans HDR.out)) (HU.out.next HDR.out) (Nat.le_of_lt HIW.out))).mono ?_⟩
            rintro e w7 ⟨rfl, hx7⟩
            rw [HSB.out]
            have HX7 : Hid (Nx w w7) := HX.out.trans (HDR.out.trans hx7)
            have HS2 : Hid ((fun q => q.cell? ⟨rb, ro + n * 3 + 1, none⟩ = some (.bool true) ∧ q.cell? ⟨rb, ro + n * 3 + 2, none⟩ = some (.slice (some ⟨qb, qo, none⟩) m qc) ∧ q.cell? ⟨bw, ow + i, none⟩ = some (.int .i64 (y : Int)) ∧ q.cell? ⟨qb, qo + (m - 1), none⟩ = some (.int .i64 z)) w7) := by
              obtain ⟨c1, c2, c3, c4⟩ := HSS.out
              exact ⟨cellq hx7 c1, cellq hx7 c2, cellq hx7 c3, cellq hx7 c4⟩
            refine hK _ _ ⟨Or.inr HS2.out, ?_⟩
            clear hK K hx7
            refine anyS_take (i := 17) (v := .bool true) hw (by decide) hcl (noDefer_none rfl) rfl (by kernel_rfl) (by kernel_rfl) (by kernel_rfl) (fun _ _ _ h => h) ⟨Or.inl ⟨by kernel_rfl, ?y17⟩, fun _ => rfl⟩ HS2.out (fun hcl => ?_)
            case y17 =>
              rintro q ⟨c1, c2, c3, c4⟩
              kernel_rfl
            refine anyS_take (i := 18) (v := .bool true) hw (by decide) hcl (noDefer_none rfl) rfl (by kernel_rfl) (by kernel_rfl) (by kernel_rfl) (fun _ _ _ h => h) ⟨Or.inl ⟨by kernel_rfl, ?y18⟩, fun _ => rfl⟩ HS2.out (fun hcl => ?_)
            case y18 =>
              rintro q ⟨c1, c2, c3, c4⟩
              go_simp
            refine anyS_take (i := 19) (v := .slice (some ⟨bw, ow, none⟩) nw cw) hw (by decide) hcl (noDefer_none rfl) rfl (by kernel_rfl) (by kernel_rfl) (by kernel_rfl) (fun _ _ _ h => h) ⟨Or.inl ⟨by kernel_rfl, ?y19⟩, fun _ => rfl⟩ HS2.out (fun hcl => ?_)
            case y19 =>
              rintro q ⟨c1, c2, c3, c4⟩
              go_simp
            refine anyS_take (i := 20) (v := .int .i64 (i : Int)) hw (by decide) hcl (noDefer_none rfl) rfl (by kernel_rfl) (by kernel_rfl) (by kernel_rfl) (fun _ _ _ h => h) ⟨Or.inl ⟨by kernel_rfl, ?y20⟩, fun _ => rfl⟩ HS2.out (fun hcl => ?_)
            case y20 =>
              rintro q ⟨c1, c2, c3, c4⟩
              go_simp
            refine anyS_take (i := 21) (v := .pointer (some ⟨bw, ow + i, none⟩)) hw (by decide) hcl (noDefer_none rfl) rfl (by kernel_rfl) (by kernel_rfl) (by kernel_rfl) (fun _ _ _ h => h) ⟨Or.inl ⟨by kernel_rfl, ?y21⟩, fun _ => rfl⟩ HS2.out (fun hcl => ?_)
            case y21 =>
              rintro q ⟨c1, c2, c3, c4⟩
              go_simp
            refine anyS_take (i := 22) (v := .int .i64 (y : Int)) hw (by decide) hcl (noDefer_none rfl) rfl (by kernel_rfl) (by kernel_rfl) (by kernel_rfl) (fun _ _ _ h => h) ⟨Or.inl ⟨by kernel_rfl, ?y22⟩, fun _ => rfl⟩ HS2.out (fun hcl => ?_)
            case y22 =>
              rintro q ⟨c1, c2, c3, c4⟩
              go_simp
            refine anyS_take (i := 23) (v := .slice (some ⟨rb, ro, none⟩) nu zu) hw (by decide) hcl (noDefer_none rfl) rfl (by kernel_rfl) (by kernel_rfl) (by kernel_rfl) (fun _ _ _ h => h) ⟨Or.inl ⟨by kernel_rfl, ?y23⟩, fun _ => rfl⟩ HS2.out (fun hcl => ?_)
            case y23 =>
              rintro q ⟨c1, c2, c3, c4⟩
              go_simp
            refine anyS_take (i := 24) (v := .int .i64 (n : Int)) hw (by decide) hcl (noDefer_none rfl) rfl (by kernel_rfl) (by kernel_rfl) (by kernel_rfl) (fun _ _ _ h => h) ⟨Or.inl ⟨by kernel_rfl, ?y24⟩, fun _ => rfl⟩ HS2.out (fun hcl => ?_)
            case y24 =>
              rintro q ⟨c1, c2, c3, c4⟩
              go_simp
            refine anyS_take (i := 25) (v := .pointer (some ⟨rb, ro + n * 3, none⟩)) hw (by decide) hcl (noDefer_none rfl) rfl (by kernel_rfl) (by kernel_rfl) (by kernel_rfl) (fun _ _ _ h => h) ⟨Or.inl ⟨by kernel_rfl, ?y25⟩, fun _ => rfl⟩ HS2.out (fun hcl => ?_)
            case y25 =>
              rintro q ⟨c1, c2, c3, c4⟩
              go_simp
            refine anyS_take (i := 26) (v := .pointer (some ⟨rb, ro + n * 3 + 2, none⟩)) hw (by decide) hcl (noDefer_none rfl) rfl (by kernel_rfl) (by kernel_rfl) (by kernel_rfl) (fun _ _ _ h => h) ⟨Or.inl ⟨by kernel_rfl, ?y26⟩, fun _ => rfl⟩ HS2.out (fun hcl => ?_)
            case y26 =>
              rintro q ⟨c1, c2, c3, c4⟩
              go_simp
            refine anyS_take (i := 27) (v := .slice (some ⟨qb, qo, none⟩) m qc) hw (by decide) hcl (noDefer_none rfl) rfl (by kernel_rfl) (by kernel_rfl) (by kernel_rfl) (fun _ _ _ h => h) ⟨Or.inl ⟨by kernel_rfl, ?y27⟩, fun _ => rfl⟩ HS2.out (fun hcl => ?_)
            case y27 =>
              rintro q ⟨c1, c2, c3, c4⟩
              go_simp
            refine anyS_take (i := 28) (v := .int .i64 (m : Int)) hw (by decide) hcl (noDefer_none rfl) rfl (by kernel_rfl) (by kernel_rfl) (by kernel_rfl) (fun _ _ _ h => h) ⟨Or.inl ⟨by kernel_rfl, ?y28⟩, fun _ => rfl⟩ HS2.out (fun hcl => ?_)
            case y28 =>
              rintro q ⟨c1, c2, c3, c4⟩
              go_simp
            refine anyS_take (i := 29) (v := .int .i64 ((m - 1 : Nat) : Int)) hw (by decide) hcl (noDefer_none rfl) rfl (by kernel_rfl) (by kernel_rfl) (by kernel_rfl) (fun _ _ _ h => h) ⟨Or.inl ⟨by kernel_rfl, ?y29⟩, fun _ => rfl⟩ HS2.out (fun hcl => ?_)
            case y29 =>
              rintro q ⟨c1, c2, c3, c4⟩
              go_simp
              exact Go.IntWalk.i64_in _ ⟨by omega, by omega⟩
            refine anyS_take (i := 30) (v := .pointer (some ⟨qb, qo + (m - 1), none⟩)) hw (by decide) hcl (noDefer_none rfl) rfl (by kernel_rfl) (by kernel_rfl) (by kernel_rfl) (fun _ _ _ h => h) ⟨Or.inl ⟨by kernel_rfl, ?y30⟩, fun _ => rfl⟩ HS2.out (fun hcl => ?_)
            case y30 =>
              rintro q ⟨c1, c2, c3, c4⟩
              go_simp
            refine anyS_take (i := 31) (v := .int .i64 z) hw (by decide) hcl (noDefer_none rfl) rfl (by kernel_rfl) (by kernel_rfl) (by kernel_rfl) (fun _ _ _ h => h) ⟨Or.inl ⟨by kernel_rfl, ?y31⟩, fun _ => rfl⟩ HS2.out (fun hcl => ?_)
            case y31 =>
              rintro q ⟨c1, c2, c3, c4⟩
              go_simp
            refine anyS_take (i := 32) (v := .bool false) hw (by decide) hcl (noDefer_none rfl) rfl (by kernel_rfl) (by kernel_rfl) (by kernel_rfl) (fun _ _ _ h => h) ⟨Or.inl ⟨by kernel_rfl, ?y32⟩, fun _ => rfl⟩ HS2.out (fun hcl => ?_)
            case y32 =>
              rintro q ⟨c1, c2, c3, c4⟩
              go_simp
              all_goals (first | exact HNZ.out | simpa using HNZ.out)
            refine anyS_take (i := 33) (v := .bool false) hw (by decide) hcl (noDefer_none rfl) rfl (by kernel_rfl) (by kernel_rfl) (by kernel_rfl) (fun _ _ _ h => h) ⟨Or.inl ⟨by kernel_rfl, ?y33⟩, fun _ => rfl⟩ HS2.out (fun hcl => ?_)
            case y33 =>
              rintro q ⟨c1, c2, c3, c4⟩
              kernel_rfl
            refine anyS_act (a' := ⟨#[Value.agg #[v0, Value.slice r1 y1 z1, v2, v3], Value.slice (some { block := rb, off := ro }) nu zu, Value.slice (some { block := bw, off := ow }) nw cw, Value.int IntKind.i64 ↑i, Value.pointer (some { block := Array.size (World.heap w), off := 0 }), undef, undef, undef, u8, Value.int IntKind.i64 ↑nu, Value.int IntKind.i64 ↑n, Value.int IntKind.i64 ↑m, Value.slice (some { block := bw, off := ow }) nw cw, Value.int IntKind.i64 ↑i, Value.pointer (some { block := bw, off := ow + i }), Value.int IntKind.i64 ↑y, Value.bool false, Value.bool false, Value.slice (some { block := bw, off := ow }) nw cw, Value.int IntKind.i64 ↑i, Value.pointer (some { block := bw, off := ow + i }), Value.int IntKind.i64 ↑y, Value.pointer (some { block := Array.size (World.heap w), off := 1 }), Value.slice r1 y1 z1, Value.int IntKind.i64 ↑y1, Value.bool false, Value.bool false, Value.int IntKind.i64 ↑i, Value.bool false, Value.bool false, undef, undef, undef, undef, undef, undef, undef, undef, undef, undef, undef, undef, undef, undef, undef, undef, undef, undef, undef, undef, Value.bool false, Value.int IntKind.i64 ↑nu, Value.slice (some { block := rb, off := ro }) nu zu, Value.int IntKind.i64 ↑nu, Value.bool false, u55, u56, u57, u58, u59, u60, u61, u62, u63, u64, u65, u66, u67, u68, u69, u70, u71, u72, u73, Value.int IntKind.i64 ↑n, Value.slice (some { block := rb, off := ro }) nu zu, Value.int IntKind.i64 ↑nu, Value.bool true, u78, u79, Value.slice (some { block := rb, off := ro }) nu zu, Value.int IntKind.i64 ↑n, Value.pointer (some { block := rb, off := ro + n * 3 }), Value.pointer (some { block := rb, off := ro + n * 3 + 2 }), Value.slice (some { block := qb, off := qo }) m qc, Value.int IntKind.i64 ↑m, .slice (some ⟨rb, ro, none⟩) nu zu, .int .i64 (n : Int), .pointer (some ⟨rb, ro + n * 3, none⟩), .pointer (some ⟨rb, ro + n * 3 + 1, none⟩), .bool true, .bool true, .slice (some ⟨bw, ow, none⟩) nw cw, .int .i64 (i : Int), .slice (some ⟨rb, ro, none⟩) nu zu, .int .i64 (n : Int), .pointer (some ⟨rb, ro + n * 3, none⟩), .pointer (some ⟨rb, ro + n * 3 + 2, none⟩), .slice (some ⟨qb, qo, none⟩) m qc, .int .i64 (m : Int), .int .i64 ((m - 1 : Nat) : Int), .slice (some ⟨qb, qo, none⟩) (m - 1) qc, .bool true, .bool true, .bool true, .slice (some ⟨bw, ow, none⟩) nw cw, .int .i64 (i : Int), .pointer (some ⟨bw, ow + i, none⟩), .int .i64 (y : Int), .slice (some ⟨rb, ro, none⟩) nu zu, .int .i64 (n : Int), .pointer (some ⟨rb, ro + n * 3, none⟩), .pointer (some ⟨rb, ro + n * 3 + 2, none⟩), .slice (some ⟨qb, qo, none⟩) m qc, .int .i64 (m : Int), .int .i64 ((m - 1 : Nat) : Int), .pointer (some ⟨qb, qo + (m - 1), none⟩), .int .i64 z, .bool false, .bool false], []⟩) (by kernel_rfl) ?_
            refine anyS_done (by kernel_rfl) ?_ _
            clear hw hcl
            go_wp2
            go_roundw
            case rel => exact ⟨n + 1, by omega, by go_num, upto_succ HB.out HMF.out, HX7⟩
            case measure => simp [intOf]; omega
          · have HNZ : Hid (((y : Int) != z) = true) := by unfold Hid; simpa using hyz
            clear hyz
            have HF : Hid (reasonJ R.edges rules walk i = 6) := by unfold Hid; rw [HR6.out, if_pos (any_some HAT.out (i := n) (by rw [HNU.out]; exact hlt) (by rw [HMB.out, HNZ.out]; rfl))]
            go_upto_region 14 with fail
            refine (wpIn_wide (n := 9)).1 ?_
            refine wpIn_region_S (c := 34) (S := fun q => q.cell? ⟨rb, ro + n * 3 + 1, none⟩ = some (.bool true) ∧ q.cell? ⟨rb, ro + n * 3 + 2, none⟩ = some (.slice (some ⟨qb, qo, none⟩) m qc) ∧ q.cell? ⟨bw, ow + i, none⟩ = some (.int .i64 (y : Int)) ∧ q.cell? ⟨qb, qo + (m - 1), none⟩ = some (.int .i64 z)) hmx (by kernel_rfl) (fun hw hcl => ?_)
            refine anyS_take (i := 0) (v := .slice (some ⟨rb, ro, none⟩) nu zu) hw (by decide) hcl (noDefer_none rfl) rfl (by kernel_rfl) (by kernel_rfl) (by kernel_rfl) (fun _ _ _ h => h) ⟨Or.inl ⟨by kernel_rfl, ?y0⟩, fun _ => rfl⟩ HSS.out (fun hcl => ?_)
            case y0 =>
              rintro q ⟨c1, c2, c3, c4⟩
              go_simp
            refine anyS_take (i := 1) (v := .int .i64 (n : Int)) hw (by decide) hcl (noDefer_none rfl) rfl (by kernel_rfl) (by kernel_rfl) (by kernel_rfl) (fun _ _ _ h => h) ⟨Or.inl ⟨by kernel_rfl, ?y1⟩, fun _ => rfl⟩ HSS.out (fun hcl => ?_)
            case y1 =>
              rintro q ⟨c1, c2, c3, c4⟩
              go_simp
            refine anyS_take (i := 2) (v := .pointer (some ⟨rb, ro + n * 3, none⟩)) hw (by decide) hcl (noDefer_none rfl) rfl (by kernel_rfl) (by kernel_rfl) (by kernel_rfl) (fun _ _ _ h => h) ⟨Or.inl ⟨by kernel_rfl, ?y2⟩, fun _ => rfl⟩ HSS.out (fun hcl => ?_)
            case y2 =>
              rintro q ⟨c1, c2, c3, c4⟩
              go_simp
            refine anyS_take (i := 3) (v := .pointer (some ⟨rb, ro + n * 3 + 1, none⟩)) hw (by decide) hcl (noDefer_none rfl) rfl (by kernel_rfl) (by kernel_rfl) (by kernel_rfl) (fun _ _ _ h => h) ⟨Or.inl ⟨by kernel_rfl, ?y3⟩, fun _ => rfl⟩ HSS.out (fun hcl => ?_)
            case y3 =>
              rintro q ⟨c1, c2, c3, c4⟩
              go_simp
            refine anyS_take (i := 4) (v := .bool true) hw (by decide) hcl (noDefer_none rfl) rfl (by kernel_rfl) (by kernel_rfl) (by kernel_rfl) (fun _ _ _ h => h) ⟨Or.inl ⟨by kernel_rfl, ?y4⟩, fun _ => rfl⟩ HSS.out (fun hcl => ?_)
            case y4 =>
              rintro q ⟨c1, c2, c3, c4⟩
              go_simp
            refine anyS_take (i := 5) (v := .bool true) hw (by decide) hcl (noDefer_none rfl) rfl (by kernel_rfl) (by kernel_rfl) (by kernel_rfl) (fun _ _ _ h => h) ⟨Or.inl ⟨by kernel_rfl, ?y5⟩, fun _ => rfl⟩ HSS.out (fun hcl => ?_)
            case y5 =>
              rintro q ⟨c1, c2, c3, c4⟩
              go_simp
            refine anyS_take (i := 6) (v := .slice (some ⟨bw, ow, none⟩) nw cw) hw (by decide) hcl (noDefer_none rfl) rfl (by kernel_rfl) (by kernel_rfl) (by kernel_rfl) (fun _ _ _ h => h) ⟨Or.inl ⟨by kernel_rfl, ?y6⟩, fun _ => rfl⟩ HSS.out (fun hcl => ?_)
            case y6 =>
              rintro q ⟨c1, c2, c3, c4⟩
              go_simp
            refine anyS_take (i := 7) (v := .int .i64 (i : Int)) hw (by decide) hcl (noDefer_none rfl) rfl (by kernel_rfl) (by kernel_rfl) (by kernel_rfl) (fun _ _ _ h => h) ⟨Or.inl ⟨by kernel_rfl, ?y7⟩, fun _ => rfl⟩ HSS.out (fun hcl => ?_)
            case y7 =>
              rintro q ⟨c1, c2, c3, c4⟩
              go_simp
            refine anyS_take (i := 8) (v := .slice (some ⟨rb, ro, none⟩) nu zu) hw (by decide) hcl (noDefer_none rfl) rfl (by kernel_rfl) (by kernel_rfl) (by kernel_rfl) (fun _ _ _ h => h) ⟨Or.inl ⟨by kernel_rfl, ?y8⟩, fun _ => rfl⟩ HSS.out (fun hcl => ?_)
            case y8 =>
              rintro q ⟨c1, c2, c3, c4⟩
              go_simp
            refine anyS_take (i := 9) (v := .int .i64 (n : Int)) hw (by decide) hcl (noDefer_none rfl) rfl (by kernel_rfl) (by kernel_rfl) (by kernel_rfl) (fun _ _ _ h => h) ⟨Or.inl ⟨by kernel_rfl, ?y9⟩, fun _ => rfl⟩ HSS.out (fun hcl => ?_)
            case y9 =>
              rintro q ⟨c1, c2, c3, c4⟩
              go_simp
            refine anyS_take (i := 10) (v := .pointer (some ⟨rb, ro + n * 3, none⟩)) hw (by decide) hcl (noDefer_none rfl) rfl (by kernel_rfl) (by kernel_rfl) (by kernel_rfl) (fun _ _ _ h => h) ⟨Or.inl ⟨by kernel_rfl, ?y10⟩, fun _ => rfl⟩ HSS.out (fun hcl => ?_)
            case y10 =>
              rintro q ⟨c1, c2, c3, c4⟩
              go_simp
            refine anyS_take (i := 11) (v := .pointer (some ⟨rb, ro + n * 3 + 2, none⟩)) hw (by decide) hcl (noDefer_none rfl) rfl (by kernel_rfl) (by kernel_rfl) (by kernel_rfl) (fun _ _ _ h => h) ⟨Or.inl ⟨by kernel_rfl, ?y11⟩, fun _ => rfl⟩ HSS.out (fun hcl => ?_)
            case y11 =>
              rintro q ⟨c1, c2, c3, c4⟩
              go_simp
            refine anyS_take (i := 12) (v := .slice (some ⟨qb, qo, none⟩) m qc) hw (by decide) hcl (noDefer_none rfl) rfl (by kernel_rfl) (by kernel_rfl) (by kernel_rfl) (fun _ _ _ h => h) ⟨Or.inl ⟨by kernel_rfl, ?y12⟩, fun _ => rfl⟩ HSS.out (fun hcl => ?_)
            case y12 =>
              rintro q ⟨c1, c2, c3, c4⟩
              go_simp
            refine anyS_take (i := 13) (v := .int .i64 (m : Int)) hw (by decide) hcl (noDefer_none rfl) rfl (by kernel_rfl) (by kernel_rfl) (by kernel_rfl) (fun _ _ _ h => h) ⟨Or.inl ⟨by kernel_rfl, ?y13⟩, fun _ => rfl⟩ HSS.out (fun hcl => ?_)
            case y13 =>
              rintro q ⟨c1, c2, c3, c4⟩
              go_simp
            refine anyS_take (i := 14) (v := .int .i64 ((m - 1 : Nat) : Int)) hw (by decide) hcl (noDefer_none rfl) rfl (by kernel_rfl) (by kernel_rfl) (by kernel_rfl) (fun _ _ _ h => h) ⟨Or.inl ⟨by kernel_rfl, ?y14⟩, fun _ => rfl⟩ HSS.out (fun hcl => ?_)
            case y14 =>
              rintro q ⟨c1, c2, c3, c4⟩
              go_simp
              exact Go.IntWalk.i64_in _ ⟨by omega, by omega⟩
            refine anyS_take (i := 15) (v := .slice (some ⟨qb, qo, none⟩) (m - 1) qc) hw (by decide) hcl (noDefer_none rfl) rfl (by kernel_rfl) (by kernel_rfl) (by kernel_rfl) (fun _ _ _ h => h) ⟨Or.inl ⟨by kernel_rfl, ?y15⟩, fun _ => rfl⟩ HSS.out (fun hcl => ?_)
            case y15 =>
              rintro q ⟨c1, c2, c3, c4⟩
              go_simp
            refine anyS_act (a' := ⟨#[Value.agg #[v0, Value.slice r1 y1 z1, v2, v3], Value.slice (some { block := rb, off := ro }) nu zu, Value.slice (some { block := bw, off := ow }) nw cw, Value.int IntKind.i64 ↑i, Value.pointer (some { block := Array.size (World.heap w), off := 0 }), undef, undef, undef, u8, Value.int IntKind.i64 ↑nu, Value.int IntKind.i64 ↑n, Value.int IntKind.i64 ↑m, Value.slice (some { block := bw, off := ow }) nw cw, Value.int IntKind.i64 ↑i, Value.pointer (some { block := bw, off := ow + i }), Value.int IntKind.i64 ↑y, Value.bool false, Value.bool false, Value.slice (some { block := bw, off := ow }) nw cw, Value.int IntKind.i64 ↑i, Value.pointer (some { block := bw, off := ow + i }), Value.int IntKind.i64 ↑y, Value.pointer (some { block := Array.size (World.heap w), off := 1 }), Value.slice r1 y1 z1, Value.int IntKind.i64 ↑y1, Value.bool false, Value.bool false, Value.int IntKind.i64 ↑i, Value.bool false, Value.bool false, undef, undef, undef, undef, undef, undef, undef, undef, undef, undef, undef, undef, undef, undef, undef, undef, undef, undef, undef, undef, Value.bool false, Value.int IntKind.i64 ↑nu, Value.slice (some { block := rb, off := ro }) nu zu, Value.int IntKind.i64 ↑nu, Value.bool false, u55, u56, u57, u58, u59, u60, u61, u62, u63, u64, u65, u66, u67, u68, u69, u70, u71, u72, u73, Value.int IntKind.i64 ↑n, Value.slice (some { block := rb, off := ro }) nu zu, Value.int IntKind.i64 ↑nu, Value.bool true, u78, u79, Value.slice (some { block := rb, off := ro }) nu zu, Value.int IntKind.i64 ↑n, Value.pointer (some { block := rb, off := ro + n * 3 }), Value.pointer (some { block := rb, off := ro + n * 3 + 2 }), Value.slice (some { block := qb, off := qo }) m qc, Value.int IntKind.i64 ↑m, .slice (some ⟨rb, ro, none⟩) nu zu, .int .i64 (n : Int), .pointer (some ⟨rb, ro + n * 3, none⟩), .pointer (some ⟨rb, ro + n * 3 + 1, none⟩), .bool true, .bool true, .slice (some ⟨bw, ow, none⟩) nw cw, .int .i64 (i : Int), .slice (some ⟨rb, ro, none⟩) nu zu, .int .i64 (n : Int), .pointer (some ⟨rb, ro + n * 3, none⟩), .pointer (some ⟨rb, ro + n * 3 + 2, none⟩), .slice (some ⟨qb, qo, none⟩) m qc, .int .i64 (m : Int), .int .i64 ((m - 1 : Nat) : Int), .slice (some ⟨qb, qo, none⟩) (m - 1) qc, u102, u103, u104, u105, u106, u107, u108, u109, u110, u111, u112, u113, u114, u115, u116, u117, u118, u119], []⟩) (by kernel_rfl) ?_
            refine anyS_do2 (i := 16) (by kernel_rfl) rfl (by kernel_rfl) hcl (fun hcl K hK => ?_)
            go_simp
            refine ⟨trivial, (callsIn_wide.2 (l2Suffix_any B1 0 _ _ walk ((ruat rules n).seq.take (m - 1)) i _ (HW.out.next (HX.out.trans HDR.out)) (HU.out.next HDR.out) (Nat.le_of_lt HIW.out))).mono ?_⟩
            rintro e w7 ⟨rfl, hx7⟩
            rw [HSB.out]
            have HX7 : Hid (Nx w w7) := HX.out.trans (HDR.out.trans hx7)
            have HS2 : Hid ((fun q => q.cell? ⟨rb, ro + n * 3 + 1, none⟩ = some (.bool true) ∧ q.cell? ⟨rb, ro + n * 3 + 2, none⟩ = some (.slice (some ⟨qb, qo, none⟩) m qc) ∧ q.cell? ⟨bw, ow + i, none⟩ = some (.int .i64 (y : Int)) ∧ q.cell? ⟨qb, qo + (m - 1), none⟩ = some (.int .i64 z)) w7) := by
              obtain ⟨c1, c2, c3, c4⟩ := HSS.out
              exact ⟨cellq hx7 c1, cellq hx7 c2, cellq hx7 c3, cellq hx7 c4⟩
            refine hK _ _ ⟨Or.inr HS2.out, ?_⟩
            clear hK K hx7
            refine anyS_take (i := 17) (v := .bool true) hw (by decide) hcl (noDefer_none rfl) rfl (by kernel_rfl) (by kernel_rfl) (by kernel_rfl) (fun _ _ _ h => h) ⟨Or.inl ⟨by kernel_rfl, ?y17⟩, fun _ => rfl⟩ HS2.out (fun hcl => ?_)
            case y17 =>
              rintro q ⟨c1, c2, c3, c4⟩
              kernel_rfl
            refine anyS_take (i := 18) (v := .bool true) hw (by decide) hcl (noDefer_none rfl) rfl (by kernel_rfl) (by kernel_rfl) (by kernel_rfl) (fun _ _ _ h => h) ⟨Or.inl ⟨by kernel_rfl, ?y18⟩, fun _ => rfl⟩ HS2.out (fun hcl => ?_)
            case y18 =>
              rintro q ⟨c1, c2, c3, c4⟩
              go_simp
            refine anyS_take (i := 19) (v := .slice (some ⟨bw, ow, none⟩) nw cw) hw (by decide) hcl (noDefer_none rfl) rfl (by kernel_rfl) (by kernel_rfl) (by kernel_rfl) (fun _ _ _ h => h) ⟨Or.inl ⟨by kernel_rfl, ?y19⟩, fun _ => rfl⟩ HS2.out (fun hcl => ?_)
            case y19 =>
              rintro q ⟨c1, c2, c3, c4⟩
              go_simp
            refine anyS_take (i := 20) (v := .int .i64 (i : Int)) hw (by decide) hcl (noDefer_none rfl) rfl (by kernel_rfl) (by kernel_rfl) (by kernel_rfl) (fun _ _ _ h => h) ⟨Or.inl ⟨by kernel_rfl, ?y20⟩, fun _ => rfl⟩ HS2.out (fun hcl => ?_)
            case y20 =>
              rintro q ⟨c1, c2, c3, c4⟩
              go_simp
            refine anyS_take (i := 21) (v := .pointer (some ⟨bw, ow + i, none⟩)) hw (by decide) hcl (noDefer_none rfl) rfl (by kernel_rfl) (by kernel_rfl) (by kernel_rfl) (fun _ _ _ h => h) ⟨Or.inl ⟨by kernel_rfl, ?y21⟩, fun _ => rfl⟩ HS2.out (fun hcl => ?_)
            case y21 =>
              rintro q ⟨c1, c2, c3, c4⟩
              go_simp
            refine anyS_take (i := 22) (v := .int .i64 (y : Int)) hw (by decide) hcl (noDefer_none rfl) rfl (by kernel_rfl) (by kernel_rfl) (by kernel_rfl) (fun _ _ _ h => h) ⟨Or.inl ⟨by kernel_rfl, ?y22⟩, fun _ => rfl⟩ HS2.out (fun hcl => ?_)
            case y22 =>
              rintro q ⟨c1, c2, c3, c4⟩
              go_simp
            refine anyS_take (i := 23) (v := .slice (some ⟨rb, ro, none⟩) nu zu) hw (by decide) hcl (noDefer_none rfl) rfl (by kernel_rfl) (by kernel_rfl) (by kernel_rfl) (fun _ _ _ h => h) ⟨Or.inl ⟨by kernel_rfl, ?y23⟩, fun _ => rfl⟩ HS2.out (fun hcl => ?_)
            case y23 =>
              rintro q ⟨c1, c2, c3, c4⟩
              go_simp
            refine anyS_take (i := 24) (v := .int .i64 (n : Int)) hw (by decide) hcl (noDefer_none rfl) rfl (by kernel_rfl) (by kernel_rfl) (by kernel_rfl) (fun _ _ _ h => h) ⟨Or.inl ⟨by kernel_rfl, ?y24⟩, fun _ => rfl⟩ HS2.out (fun hcl => ?_)
            case y24 =>
              rintro q ⟨c1, c2, c3, c4⟩
              go_simp
            refine anyS_take (i := 25) (v := .pointer (some ⟨rb, ro + n * 3, none⟩)) hw (by decide) hcl (noDefer_none rfl) rfl (by kernel_rfl) (by kernel_rfl) (by kernel_rfl) (fun _ _ _ h => h) ⟨Or.inl ⟨by kernel_rfl, ?y25⟩, fun _ => rfl⟩ HS2.out (fun hcl => ?_)
            case y25 =>
              rintro q ⟨c1, c2, c3, c4⟩
              go_simp
            refine anyS_take (i := 26) (v := .pointer (some ⟨rb, ro + n * 3 + 2, none⟩)) hw (by decide) hcl (noDefer_none rfl) rfl (by kernel_rfl) (by kernel_rfl) (by kernel_rfl) (fun _ _ _ h => h) ⟨Or.inl ⟨by kernel_rfl, ?y26⟩, fun _ => rfl⟩ HS2.out (fun hcl => ?_)
            case y26 =>
              rintro q ⟨c1, c2, c3, c4⟩
              go_simp
            refine anyS_take (i := 27) (v := .slice (some ⟨qb, qo, none⟩) m qc) hw (by decide) hcl (noDefer_none rfl) rfl (by kernel_rfl) (by kernel_rfl) (by kernel_rfl) (fun _ _ _ h => h) ⟨Or.inl ⟨by kernel_rfl, ?y27⟩, fun _ => rfl⟩ HS2.out (fun hcl => ?_)
            case y27 =>
              rintro q ⟨c1, c2, c3, c4⟩
              go_simp
            refine anyS_take (i := 28) (v := .int .i64 (m : Int)) hw (by decide) hcl (noDefer_none rfl) rfl (by kernel_rfl) (by kernel_rfl) (by kernel_rfl) (fun _ _ _ h => h) ⟨Or.inl ⟨by kernel_rfl, ?y28⟩, fun _ => rfl⟩ HS2.out (fun hcl => ?_)
            case y28 =>
              rintro q ⟨c1, c2, c3, c4⟩
              go_simp
            refine anyS_take (i := 29) (v := .int .i64 ((m - 1 : Nat) : Int)) hw (by decide) hcl (noDefer_none rfl) rfl (by kernel_rfl) (by kernel_rfl) (by kernel_rfl) (fun _ _ _ h => h) ⟨Or.inl ⟨by kernel_rfl, ?y29⟩, fun _ => rfl⟩ HS2.out (fun hcl => ?_)
            case y29 =>
              rintro q ⟨c1, c2, c3, c4⟩
              go_simp
              exact Go.IntWalk.i64_in _ ⟨by omega, by omega⟩
            refine anyS_take (i := 30) (v := .pointer (some ⟨qb, qo + (m - 1), none⟩)) hw (by decide) hcl (noDefer_none rfl) rfl (by kernel_rfl) (by kernel_rfl) (by kernel_rfl) (fun _ _ _ h => h) ⟨Or.inl ⟨by kernel_rfl, ?y30⟩, fun _ => rfl⟩ HS2.out (fun hcl => ?_)
            case y30 =>
              rintro q ⟨c1, c2, c3, c4⟩
              go_simp
            refine anyS_take (i := 31) (v := .int .i64 z) hw (by decide) hcl (noDefer_none rfl) rfl (by kernel_rfl) (by kernel_rfl) (by kernel_rfl) (fun _ _ _ h => h) ⟨Or.inl ⟨by kernel_rfl, ?y31⟩, fun _ => rfl⟩ HS2.out (fun hcl => ?_)
            case y31 =>
              rintro q ⟨c1, c2, c3, c4⟩
              go_simp
            refine anyS_take (i := 32) (v := .bool true) hw (by decide) hcl (noDefer_none rfl) rfl (by kernel_rfl) (by kernel_rfl) (by kernel_rfl) (fun _ _ _ h => h) ⟨Or.inl ⟨by kernel_rfl, ?y32⟩, fun _ => rfl⟩ HS2.out (fun hcl => ?_)
            case y32 =>
              rintro q ⟨c1, c2, c3, c4⟩
              go_simp
              all_goals (first | exact HNZ.out | simpa using HNZ.out)
            refine anyS_take (i := 33) (v := .bool true) hw (by decide) hcl (noDefer_none rfl) rfl (by kernel_rfl) (by kernel_rfl) (by kernel_rfl) (fun _ _ _ h => h) ⟨Or.inl ⟨by kernel_rfl, ?y33⟩, fun _ => rfl⟩ HS2.out (fun hcl => ?_)
            case y33 =>
              rintro q ⟨c1, c2, c3, c4⟩
              kernel_rfl
            refine anyS_act (a' := ⟨#[Value.agg #[v0, Value.slice r1 y1 z1, v2, v3], Value.slice (some { block := rb, off := ro }) nu zu, Value.slice (some { block := bw, off := ow }) nw cw, Value.int IntKind.i64 ↑i, Value.pointer (some { block := Array.size (World.heap w), off := 0 }), undef, undef, undef, u8, Value.int IntKind.i64 ↑nu, Value.int IntKind.i64 ↑n, Value.int IntKind.i64 ↑m, Value.slice (some { block := bw, off := ow }) nw cw, Value.int IntKind.i64 ↑i, Value.pointer (some { block := bw, off := ow + i }), Value.int IntKind.i64 ↑y, Value.bool false, Value.bool false, Value.slice (some { block := bw, off := ow }) nw cw, Value.int IntKind.i64 ↑i, Value.pointer (some { block := bw, off := ow + i }), Value.int IntKind.i64 ↑y, Value.pointer (some { block := Array.size (World.heap w), off := 1 }), Value.slice r1 y1 z1, Value.int IntKind.i64 ↑y1, Value.bool false, Value.bool false, Value.int IntKind.i64 ↑i, Value.bool false, Value.bool false, undef, undef, undef, undef, undef, undef, undef, undef, undef, undef, undef, undef, undef, undef, undef, undef, undef, undef, undef, undef, Value.bool false, Value.int IntKind.i64 ↑nu, Value.slice (some { block := rb, off := ro }) nu zu, Value.int IntKind.i64 ↑nu, Value.bool false, u55, u56, u57, u58, u59, u60, u61, u62, u63, u64, u65, u66, u67, u68, u69, u70, u71, u72, u73, Value.int IntKind.i64 ↑n, Value.slice (some { block := rb, off := ro }) nu zu, Value.int IntKind.i64 ↑nu, Value.bool true, u78, u79, Value.slice (some { block := rb, off := ro }) nu zu, Value.int IntKind.i64 ↑n, Value.pointer (some { block := rb, off := ro + n * 3 }), Value.pointer (some { block := rb, off := ro + n * 3 + 2 }), Value.slice (some { block := qb, off := qo }) m qc, Value.int IntKind.i64 ↑m, .slice (some ⟨rb, ro, none⟩) nu zu, .int .i64 (n : Int), .pointer (some ⟨rb, ro + n * 3, none⟩), .pointer (some ⟨rb, ro + n * 3 + 1, none⟩), .bool true, .bool true, .slice (some ⟨bw, ow, none⟩) nw cw, .int .i64 (i : Int), .slice (some ⟨rb, ro, none⟩) nu zu, .int .i64 (n : Int), .pointer (some ⟨rb, ro + n * 3, none⟩), .pointer (some ⟨rb, ro + n * 3 + 2, none⟩), .slice (some ⟨qb, qo, none⟩) m qc, .int .i64 (m : Int), .int .i64 ((m - 1 : Nat) : Int), .slice (some ⟨qb, qo, none⟩) (m - 1) qc, .bool true, .bool true, .bool true, .slice (some ⟨bw, ow, none⟩) nw cw, .int .i64 (i : Int), .pointer (some ⟨bw, ow + i, none⟩), .int .i64 (y : Int), .slice (some ⟨rb, ro, none⟩) nu zu, .int .i64 (n : Int), .pointer (some ⟨rb, ro + n * 3, none⟩), .pointer (some ⟨rb, ro + n * 3 + 2, none⟩), .slice (some ⟨qb, qo, none⟩) m qc, .int .i64 (m : Int), .int .i64 ((m - 1 : Nat) : Int), .pointer (some ⟨qb, qo + (m - 1), none⟩), .int .i64 z, .bool true, .bool true], []⟩) (by kernel_rfl) ?_
            refine anyS_done (by kernel_rfl) ?_ _
            clear hw hcl
            go_wp2
            go_ret
            exact ⟨by rw [HF.out]; rfl, HX7.out⟩
    have HNM : Hid (rules.any (mustB walk i) = false) := any_none (d := ⟨0, false, []⟩) HAT.out (fun m h => HB.out m (by rw [HNU.out] at h; omega))
    have HF : Hid (reasonJ R.edges rules walk i = 0) := by unfold Hid; rw [HR6.out, HNM.out]; rfl
    go_wp2
    go_ret
    exact ⟨by rw [HF.out]; rfl, HX.out⟩
  · obtain ⟨hx0, hx1⟩ := hp (by omega)
    obtain ⟨x, hx⟩ : ∃ x : Nat, iat walk (i - 1) = (x : Int) := ⟨(iat walk (i - 1)).toNat, by omega⟩
    have HXT : Hid ((iat walk (i - 1)).toNat = x) := by unfold Hid; omega
    have hxl : x < y1 := by omega
    have hxl' : (x : Int) < y1 := by omega
    have dw : wq.cell? ⟨bw, ow + (i - 1), none⟩ = some (.int .i64 (x : Int)) := by rw [← hx]; exact cellq HXQ.out (HCP.out (by omega))
    obtain ⟨eb, eo, rfl, _, _, ce⟩ := kr (by omega)
    obtain ⟨_, ehx, _⟩ := ce x hxl
    obtain ⟨ety, _⟩ := ce y hyl
    have fh := cellq HXQ.out ehx
    have ft := cellq HXQ.out ety
    have g1 : decide (0 < i) = true := by simp; omega
    have g2 : decide ((0 : Int) < (i : Int)) = true := by simp; omega
    have g3 : (i : Int) - 1 = ((i - 1 : Nat) : Int) := by omega
    have g4 : ((i - 1 : Nat) : Int) < nw := by omega
    have HR4 : Hid (reasonJ R.edges rules walk i = if (eat R.edges x).head ≠ (eat R.edges y).tail then 4 else if rules.any (banB walk i) then 5 else if rules.any (mustB walk i) then 6 else 0) := by
      unfold Hid
      rw [HRE.out, if_neg HNB.out, HXT.out, Int.toNat_natCast]
      by_cases h : (eat R.edges x).head ≠ (eat R.edges y).tail
      · rw [if_pos ⟨by omega, h⟩, if_pos h]
      · rw [if_neg (fun q => h q.2), if_neg h]
    generalize hh : (eat R.edges x).head = hd at *
    generalize ht : (eat R.edges y).tail = tl at *
    clear HRE hp hi0 kr HCP ce ehx ety hx0 hx1 hx hh ht
    by_cases hne : hd = tl
    · subst hne
      have HR5 : Hid (reasonJ R.edges rules walk i = if rules.any (banB walk i) then 5 else if rules.any (mustB walk i) then 6 else 0) := by unfold Hid; rw [HR4.out, if_neg (fun h => h rfl)]
      go_quiet (fail)
      have HXR : Hid (Nx w (wq.drewN nq)) := HXQ.out.trans (nx_drewN _ _)
      generalize wq.drewN nq = wz at *
      clear HR4 b1q dx dw fh ft
      have HAT : Hid (∀ j (h : j < rules.length), ruat rules j = rules[j]) := fun j h => ruat_eq h
      go_wp2
      go_loopw [9] (fun j wr => ∃ n : Nat, n ≤ nu ∧ j = .int .i64 n ∧ Hid (∀ m, m < n → banB walk i (ruat rules m) = false) ∧ Hid (Nx w wr)) (fun j _ => nu - (intOf j).toNat)
      case atStart => exact ⟨0, Nat.zero_le _, rfl, fun m h => absurd h (Nat.not_lt_zero _), HXR⟩
      obtain ⟨n, hn, rfl, HB, HX⟩ := hrel
      by_cases hlt : n < nu
      · obtain ⟨rb, ro, rfl, _, _, cr⟩ := ku (by omega)
        obtain ⟨u, _, c1, c2, hu, hcu⟩ := cr n hlt
        have d1 := cellq HX.out c1
        have d2 := cellq HX.out c2
        have HU : Hid (HInts 0 wr u (ruat rules n).seq) := hu.next HX.out
        obtain ⟨ua, uc, eu, _⟩ := hu.slice
        generalize hO : (ruat rules n).only = o at *
        have HO : Hid ((ruat rules n).only = o) := hO
        have hlt' : (n : Int) < nu := by omega
        clear cr c1 c2 hu hcu hO ku
        subst eu
        cases o with
        | true =>
          have HBN : Hid (banB walk i (ruat rules n) = false) := by unfold Hid banB; rw [HO.out]; rfl
          go_wp2
          go_roundw
          case rel => exact ⟨n + 1, by omega, by go_num, upto_succ HB.out HBN.out, HX⟩
          case measure => simp [intOf]; omega
        | false =>
          have HBN : Hid (banB walk i (ruat rules n) = sfx walk (i + 1) (ruat rules n).seq) := by unfold Hid banB; rw [HO.out]; rfl
          generalize hS : sfx walk (i + 1) (ruat rules n).seq = sb at HBN
          have HSB : Hid (sfx walk (i + 1) (ruat rules n).seq = sb) := hS
          clear hS
          cases sb with
          | true =>
            have HF : Hid (reasonJ R.edges rules walk i = 5) := by unfold Hid; rw [HR5.out, if_pos (any_some HAT.out (i := n) (by rw [HNU.out]; exact hlt) HBN.out)]
            go_wp2_with (go_at_call 79; refine (l2Suffix_any B1 0 _ _ walk (ruat rules n).seq (i + 1) _ (HW.out.next HX.out) HU.out HIW.out).mono ?_; rintro e w1 ⟨rfl, hx1⟩; rw [HSB.out])
            go_ret
            exact ⟨by rw [HF.out]; rfl, HX.out.trans hx1⟩
          | false =>
            go_wp2_with (go_at_call 79; refine (l2Suffix_any B1 0 _ _ walk (ruat rules n).seq (i + 1) _ (HW.out.next HX.out) HU.out HIW.out).mono ?_; rintro e w1 ⟨rfl, hx1⟩; rw [HSB.out])
            go_roundw
            case rel => exact ⟨n + 1, by omega, by go_num, upto_succ HB.out HBN.out, HX.out.trans hx1⟩
            case measure => simp [intOf]; omega
      have HNO : Hid (rules.any (banB walk i) = false) := any_none (d := ⟨0, false, []⟩) HAT.out (fun m h => HB.out m (by rw [HNU.out] at h; omega))
      have HR6 : Hid (reasonJ R.edges rules walk i = if rules.any (mustB walk i) then 6 else 0) := by unfold Hid; rw [HR5.out, HNO.out]; rfl
      have hnn : nu = n := by omega
      subst hnn
      clear HB HNO HR5 hlt hn
      go_wp2
      go_loopw [10, 11] (fun j mm wr => ∃ n : Nat, n ≤ nu ∧ j = .int .i64 n ∧ Hid (∀ m, m < n → mustB walk i (ruat rules m) = false) ∧ Hid (Nx w wr)) (fun j _ _ => nu - (intOf j).toNat)
      case atStart => exact ⟨0, Nat.zero_le _, rfl, fun m h => absurd h (Nat.not_lt_zero _), HX⟩
      clear HX
      obtain ⟨n, hn, rfl, HB, HX⟩ := hrel
      by_cases hlt : n < nu
      · obtain ⟨rb, ro, rfl, _, _, cr⟩ := ku (by omega)
        obtain ⟨u, _, c1, c2, hu, hcu⟩ := cr n hlt
        have h2 := HSQ.out n hlt
        have hu' := hu
        obtain ⟨ua, qc, rfl, hmm, hk⟩ := hu
        obtain ⟨qb, qo, rfl, _, _, cq⟩ := hk (by omega)
        have hqc : (ruat rules n).seq.length ≤ qc := by
          obtain ⟨_, _, _, e, hc⟩ := hcu
          simp only [Value.slice.injEq] at e
          obtain ⟨_, rfl, rfl⟩ := e
          exact hc
        have d1 := cellq HX.out c1
        have d2 := cellq HX.out c2
        have d3 := cellq HX.out (cq ((ruat rules n).seq.length - 1) (by omega))
        have HU : Hid (HInts 0 wr (.slice (some ⟨qb, qo, none⟩) ((ruat rules n).seq.length - 1) qc) ((ruat rules n).seq.take ((ruat rules n).seq.length - 1))) := (hu'.next HX.out).take _ (by omega)
        have d4 : wr.cell? ⟨bw, ow + i, none⟩ = some (.int .i64 (y : Int)) := cellq HX.out HCY.out
        have HMB : Hid (mustB walk i (ruat rules n) = ((ruat rules n).only && (sfx walk i ((ruat rules n).seq.take ((ruat rules n).seq.length - 1)) && ((y : Int) != iat (ruat rules n).seq ((ruat rules n).seq.length - 1))))) := by unfold Hid mustB; rw [HYI.out]
        generalize hm : (ruat rules n).seq.length = m at *
        generalize hz : iat (ruat rules n).seq (m - 1) = z at *
        generalize hO : (ruat rules n).only = o at *
        unfold maxLen at hmm
        have hmx : Tryz.prog.follows .mixedOrders = true := by kernel_rfl
        have HSS : Hid ((fun q => q.cell? ⟨rb, ro + n * 3 + 1, none⟩ = some (.bool o) ∧ q.cell? ⟨rb, ro + n * 3 + 2, none⟩ = some (.slice (some ⟨qb, qo, none⟩) m qc) ∧ q.cell? ⟨bw, ow + i, none⟩ = some (.int .i64 (y : Int)) ∧ q.cell? ⟨qb, qo + (m - 1), none⟩ = some (.int .i64 z)) wr.drew) := ⟨d1, d2, d4, d3⟩
        have HDR : Hid (Nx wr wr.drew) := (Below.refl _ _).drew
        have k1 : (n : Int) < nu := by omega
        have k2 : (i : Int) < nw := by omega
        have k3 : (m : Int) - 1 = ((m - 1 : Nat) : Int) := by omega
        have k4 : ((m - 1 : Nat) : Int) < m := by omega
        have k5 : ((m - 1 : Nat) : Int) ≤ qc := by omega
        have k6 : m - 1 ≤ qc := by omega
        clear cr c1 c2 hu' hcu hk cq hm hz hO ku d3 d4
        cases o with
        | false =>
          have HMF : Hid (mustB walk i (ruat rules n) = false) := by unfold Hid; rw [HMB.out]; rfl
          have HXD : Hid (Nx w wr.drew) := HX.out.trans HDR.out
          go_upto_region 14 with fail
          refine (wpIn_wide (n := 9)).1 ?_
          refine wpIn_region_S (c := 34) (S := fun q => q.cell? ⟨rb, ro + n * 3 + 1, none⟩ = some (.bool false) ∧ q.cell? ⟨rb, ro + n * 3 + 2, none⟩ = some (.slice (some ⟨qb, qo, none⟩) m qc) ∧ q.cell? ⟨bw, ow + i, none⟩ = some (.int .i64 (y : Int)) ∧ q.cell? ⟨qb, qo + (m - 1), none⟩ = some (.int .i64 z)) hmx (by kernel_rfl) (fun hw hcl => ?_)
          refine anyS_take (i := 0) (v := .slice (some ⟨rb, ro, none⟩) nu zu) hw (by decide) hcl (noDefer_none rfl) rfl (by kernel_rfl) (by kernel_rfl) (by kernel_rfl) (fun _ _ _ h => h) ⟨Or.inl ⟨by kernel_rfl, ?y0⟩, fun _ => rfl⟩ HSS.out (fun hcl => ?_)
          case y0 =>
            rintro q ⟨c1, c2, c3, c4⟩
            go_simp
          refine anyS_take (i := 1) (v := .int .i64 (n : Int)) hw (by decide) hcl (noDefer_none rfl) rfl (by kernel_rfl) (by kernel_rfl) (by kernel_rfl) (fun _ _ _ h => h) ⟨Or.inl ⟨by kernel_rfl, ?y1⟩, fun _ => rfl⟩ HSS.out (fun hcl => ?_)
          case y1 =>
            rintro q ⟨c1, c2, c3, c4⟩
            go_simp
          refine anyS_take (i := 2) (v := .pointer (some ⟨rb, ro + n * 3, none⟩)) hw (by decide) hcl (noDefer_none rfl) rfl (by kernel_rfl) (by kernel_rfl) (by kernel_rfl) (fun _ _ _ h => h) ⟨Or.inl ⟨by kernel_rfl, ?y2⟩, fun _ => rfl⟩ HSS.out (fun hcl => ?_)
          case y2 =>
            rintro q ⟨c1, c2, c3, c4⟩
            go_simp
          refine anyS_take (i := 3) (v := .pointer (some ⟨rb, ro + n * 3 + 1, none⟩)) hw (by decide) hcl (noDefer_none rfl) rfl (by kernel_rfl) (by kernel_rfl) (by kernel_rfl) (fun _ _ _ h => h) ⟨Or.inl ⟨by kernel_rfl, ?y3⟩, fun _ => rfl⟩ HSS.out (fun hcl => ?_)
          case y3 =>
            rintro q ⟨c1, c2, c3, c4⟩
            go_simp
          refine anyS_take (i := 4) (v := .bool false) hw (by decide) hcl (noDefer_none rfl) rfl (by kernel_rfl) (by kernel_rfl) (by kernel_rfl) (fun _ _ _ h => h) ⟨Or.inl ⟨by kernel_rfl, ?y4⟩, fun _ => rfl⟩ HSS.out (fun hcl => ?_)
          case y4 =>
            rintro q ⟨c1, c2, c3, c4⟩
            go_simp
          refine anyS_take (i := 5) (v := .bool false) hw (by decide) hcl (noDefer_none rfl) rfl (by kernel_rfl) (by kernel_rfl) (by kernel_rfl) (fun _ _ _ h => h) ⟨Or.inl ⟨by kernel_rfl, ?y5⟩, fun _ => rfl⟩ HSS.out (fun hcl => ?_)
          case y5 =>
            rintro q ⟨c1, c2, c3, c4⟩
            go_simp
          refine anyS_take (i := 6) (v := undef) hw (by decide) hcl (noDefer_none rfl) rfl (by kernel_rfl) (by kernel_rfl) (by kernel_rfl) (fun _ _ _ h => h) ⟨Or.inr ⟨by kernel_rfl, rfl⟩, fun _ => rfl⟩ HSS.out (fun hcl => ?_)
          refine anyS_take (i := 7) (v := undef) hw (by decide) hcl (noDefer_none rfl) rfl (by kernel_rfl) (by kernel_rfl) (by kernel_rfl) (fun _ _ _ h => h) ⟨Or.inr ⟨by kernel_rfl, rfl⟩, fun _ => rfl⟩ HSS.out (fun hcl => ?_)
          refine anyS_take (i := 8) (v := undef) hw (by decide) hcl (noDefer_none rfl) rfl (by kernel_rfl) (by kernel_rfl) (by kernel_rfl) (fun _ _ _ h => h) ⟨Or.inr ⟨by kernel_rfl, rfl⟩, fun _ => rfl⟩ HSS.out (fun hcl => ?_)
          refine anyS_take (i := 9) (v := undef) hw (by decide) hcl (noDefer_none rfl) rfl (by kernel_rfl) (by kernel_rfl) (by kernel_rfl) (fun _ _ _ h => h) ⟨Or.inr ⟨by kernel_rfl, rfl⟩, fun _ => rfl⟩ HSS.out (fun hcl => ?_)
          refine anyS_take (i := 10) (v := undef) hw (by decide) hcl (noDefer_none rfl) rfl (by kernel_rfl) (by kernel_rfl) (by kernel_rfl) (fun _ _ _ h => h) ⟨Or.inr ⟨by kernel_rfl, rfl⟩, fun _ => rfl⟩ HSS.out (fun hcl => ?_)
          refine anyS_take (i := 11) (v := undef) hw (by decide) hcl (noDefer_none rfl) rfl (by kernel_rfl) (by kernel_rfl) (by kernel_rfl) (fun _ _ _ h => h) ⟨Or.inr ⟨by kernel_rfl, rfl⟩, fun _ => rfl⟩ HSS.out (fun hcl => ?_)
          refine anyS_take (i := 12) (v := undef) hw (by decide) hcl (noDefer_none rfl) rfl (by kernel_rfl) (by kernel_rfl) (by kernel_rfl) (fun _ _ _ h => h) ⟨Or.inr ⟨by kernel_rfl, rfl⟩, fun _ => rfl⟩ HSS.out (fun hcl => ?_)
          refine anyS_take (i := 13) (v := undef) hw (by decide) hcl (noDefer_none rfl) rfl (by kernel_rfl) (by kernel_rfl) (by kernel_rfl) (fun _ _ _ h => h) ⟨Or.inr ⟨by kernel_rfl, rfl⟩, fun _ => rfl⟩ HSS.out (fun hcl => ?_)
          refine anyS_take (i := 14) (v := undef) hw (by decide) hcl (noDefer_none rfl) rfl (by kernel_rfl) (by kernel_rfl) (by kernel_rfl) (fun _ _ _ h => h) ⟨Or.inr ⟨by kernel_rfl, rfl⟩, fun _ => rfl⟩ HSS.out (fun hcl => ?_)
          refine anyS_take (i := 15) (v := undef) hw (by decide) hcl (noDefer_none rfl) rfl (by kernel_rfl) (by kernel_rfl) (by kernel_rfl) (fun _ _ _ h => h) ⟨Or.inr ⟨by kernel_rfl, rfl⟩, fun _ => rfl⟩ HSS.out (fun hcl => ?_)
          refine anyS_skip (i := 16) (by kernel_rfl) rfl (by kernel_rfl) (fun _ _ => trivial) (Or.inr HSS.out) hcl (fun hcl => ?_)
          refine anyS_take (i := 17) (v := .bool false) hw (by decide) hcl (noDefer_none rfl) rfl (by kernel_rfl) (by kernel_rfl) (by kernel_rfl) (fun _ _ _ h => h) ⟨Or.inl ⟨by kernel_rfl, ?y17⟩, fun _ => rfl⟩ HSS.out (fun hcl => ?_)
          case y17 =>
            rintro q ⟨c1, c2, c3, c4⟩
            kernel_rfl
          refine anyS_take (i := 18) (v := .bool false) hw (by decide) hcl (noDefer_none rfl) rfl (by kernel_rfl) (by kernel_rfl) (by kernel_rfl) (fun _ _ _ h => h) ⟨Or.inl ⟨by kernel_rfl, ?y18⟩, fun _ => rfl⟩ HSS.out (fun hcl => ?_)
          case y18 =>
            rintro q ⟨c1, c2, c3, c4⟩
            go_simp
          refine anyS_take (i := 19) (v := undef) hw (by decide) hcl (noDefer_none rfl) rfl (by kernel_rfl) (by kernel_rfl) (by kernel_rfl) (fun _ _ _ h => h) ⟨Or.inr ⟨by kernel_rfl, rfl⟩, fun _ => rfl⟩ HSS.out (fun hcl => ?_)
          refine anyS_take (i := 20) (v := undef) hw (by decide) hcl (noDefer_none rfl) rfl (by kernel_rfl) (by kernel_rfl) (by kernel_rfl) (fun _ _ _ h => h) ⟨Or.inr ⟨by kernel_rfl, rfl⟩, fun _ => rfl⟩ HSS.out (fun hcl => ?_)
          refine anyS_take (i := 21) (v := undef) hw (by decide) hcl (noDefer_none rfl) rfl (by kernel_rfl) (by kernel_rfl) (by kernel_rfl) (fun _ _ _ h => h) ⟨Or.inr ⟨by kernel_rfl, rfl⟩, fun _ => rfl⟩ HSS.out (fun hcl => ?_)
          refine anyS_take (i := 22) (v := undef) hw (by decide) hcl (noDefer_none rfl) rfl (by kernel_rfl) (by kernel_rfl) (by kernel_rfl) (fun _ _ _ h => h) ⟨Or.inr ⟨by kernel_rfl, rfl⟩, fun _ => rfl⟩ HSS.out (fun hcl => ?_)
          refine anyS_take (i := 23) (v := undef) hw (by decide) hcl (noDefer_none rfl) rfl (by kernel_rfl) (by kernel_rfl) (by kernel_rfl) (fun _ _ _ h => h) ⟨Or.inr ⟨by kernel_rfl, rfl⟩, fun _ => rfl⟩ HSS.out (fun hcl => ?_)
          refine anyS_take (i := 24) (v := undef) hw (by decide) hcl (noDefer_none rfl) rfl (by kernel_rfl) (by kernel_rfl) (by kernel_rfl) (fun _ _ _ h => h) ⟨Or.inr ⟨by kernel_rfl, rfl⟩, fun _ => rfl⟩ HSS.out (fun hcl => ?_)
          refine anyS_take (i := 25) (v := undef) hw (by decide) hcl (noDefer_none rfl) rfl (by kernel_rfl) (by kernel_rfl) (by kernel_rfl) (fun _ _ _ h => h) ⟨Or.inr ⟨by kernel_rfl, rfl⟩, fun _ => rfl⟩ HSS.out (fun hcl => ?_)
          refine anyS_take (i := 26) (v := undef) hw (by decide) hcl (noDefer_none rfl) rfl (by kernel_rfl) (by kernel_rfl) (by kernel_rfl) (fun _ _ _ h => h) ⟨Or.inr ⟨by kernel_rfl, rfl⟩, fun _ => rfl⟩ HSS.out (fun hcl => ?_)
          refine anyS_take (i := 27) (v := undef) hw (by decide) hcl (noDefer_none rfl) rfl (by kernel_rfl) (by kernel_rfl) (by kernel_rfl) (fun _ _ _ h => h) ⟨Or.inr ⟨by kernel_rfl, rfl⟩, fun _ => rfl⟩ HSS.out (fun hcl => ?_)
          refine anyS_take (i := 28) (v := undef) hw (by decide) hcl (noDefer_none rfl) rfl (by kernel_rfl) (by kernel_rfl) (by kernel_rfl) (fun _ _ _ h => h) ⟨Or.inr ⟨by kernel_rfl, rfl⟩, fun _ => rfl⟩ HSS.out (fun hcl => ?_)
          refine anyS_take (i := 29) (v := undef) hw (by decide) hcl (noDefer_none rfl) rfl (by kernel_rfl) (by kernel_rfl) (by kernel_rfl) (fun _ _ _ h => h) ⟨Or.inr ⟨by kernel_rfl, rfl⟩, fun _ => rfl⟩ HSS.out (fun hcl => ?_)
          refine anyS_take (i := 30) (v := undef) hw (by decide) hcl (noDefer_none rfl) rfl (by kernel_rfl) (by kernel_rfl) (by kernel_rfl) (fun _ _ _ h => h) ⟨Or.inr ⟨by kernel_rfl, rfl⟩, fun _ => rfl⟩ HSS.out (fun hcl => ?_)
          refine anyS_take (i := 31) (v := undef) hw (by decide) hcl (noDefer_none rfl) rfl (by kernel_rfl) (by kernel_rfl) (by kernel_rfl) (fun _ _ _ h => h) ⟨Or.inr ⟨by kernel_rfl, rfl⟩, fun _ => rfl⟩ HSS.out (fun hcl => ?_)
          refine anyS_take (i := 32) (v := undef) hw (by decide) hcl (noDefer_none rfl) rfl (by kernel_rfl) (by kernel_rfl) (by kernel_rfl) (fun _ _ _ h => h) ⟨Or.inr ⟨by kernel_rfl, rfl⟩, fun _ => rfl⟩ HSS.out (fun hcl => ?_)
          refine anyS_take (i := 33) (v := .bool false) hw (by decide) hcl (noDefer_none rfl) rfl (by kernel_rfl) (by kernel_rfl) (by kernel_rfl) (fun _ _ _ h => h) ⟨Or.inl ⟨by kernel_rfl, ?y33⟩, fun _ => rfl⟩ HSS.out (fun hcl => ?_)
          case y33 =>
            rintro q ⟨c1, c2, c3, c4⟩
            kernel_rfl
          refine anyS_act (a' := ⟨#[Value.agg #[v0, Value.slice (some { block := eb, off := eo }) y1 z1, v2, v3], Value.slice (some { block := rb, off := ro }) nu zu, Value.slice (some { block := bw, off := ow }) nw cw, Value.int IntKind.i64 ↑i, Value.pointer (some { block := Array.size (World.heap w), off := 0 }), undef, undef, undef, u8, Value.int IntKind.i64 ↑nu, Value.int IntKind.i64 ↑n, Value.int IntKind.i64 ↑m, Value.slice (some { block := bw, off := ow }) nw cw, Value.int IntKind.i64 ↑i, Value.pointer (some { block := bw, off := ow + i }), Value.int IntKind.i64 ↑y, Value.bool false, Value.bool false, Value.slice (some { block := bw, off := ow }) nw cw, Value.int IntKind.i64 ↑i, Value.pointer (some { block := bw, off := ow + i }), Value.int IntKind.i64 ↑y, Value.pointer (some { block := Array.size (World.heap w), off := 1 }), Value.slice (some { block := eb, off := eo }) y1 z1, Value.int IntKind.i64 ↑y1, Value.bool false, Value.bool false, Value.int IntKind.i64 ↑i, Value.bool true, Value.bool true, Value.pointer (some { block := Array.size (World.heap w), off := 1 }), Value.slice (some { block := eb, off := eo }) y1 z1, Value.slice (some { block := bw, off := ow }) nw cw, Value.int IntKind.i64 ↑i, Value.int IntKind.i64 ↑(i - 1), Value.pointer (some { block := bw, off := ow + (i - 1) }), Value.int IntKind.i64 ↑x, Value.pointer (some { block := eb, off := eo + x * 7 }), Value.pointer (some { block := eb, off := eo + x * 7 + 1 }), Value.int IntKind.i64 hd, Value.pointer (some { block := Array.size (World.heap w), off := 1 }), Value.slice (some { block := eb, off := eo }) y1 z1, Value.slice (some { block := bw, off := ow }) nw cw, Value.int IntKind.i64 ↑i, Value.pointer (some { block := bw, off := ow + i }), Value.int IntKind.i64 ↑y, Value.pointer (some { block := eb, off := eo + y * 7 }), Value.pointer (some { block := eb, off := eo + y * 7 }), Value.int IntKind.i64 hd, Value.bool false, Value.bool false, Value.int IntKind.i64 ↑nu, Value.slice (some { block := rb, off := ro }) nu zu, Value.int IntKind.i64 ↑nu, Value.bool false, u55, u56, u57, u58, u59, u60, u61, u62, u63, u64, u65, u66, u67, u68, u69, u70, u71, u72, u73, Value.int IntKind.i64 ↑n, Value.slice (some { block := rb, off := ro }) nu zu, Value.int IntKind.i64 ↑nu, Value.bool true, u78, u79, Value.slice (some { block := rb, off := ro }) nu zu, Value.int IntKind.i64 ↑n, Value.pointer (some { block := rb, off := ro + n * 3 }), Value.pointer (some { block := rb, off := ro + n * 3 + 2 }), Value.slice (some { block := qb, off := qo }) m qc, Value.int IntKind.i64 ↑m, .slice (some ⟨rb, ro, none⟩) nu zu, .int .i64 (n : Int), .pointer (some ⟨rb, ro + n * 3, none⟩), .pointer (some ⟨rb, ro + n * 3 + 1, none⟩), .bool false, .bool false, undef, undef, undef, undef, undef, undef, undef, undef, undef, undef, undef, .bool false, .bool false, undef, undef, undef, undef, undef, undef, undef, undef, undef, undef, undef, undef, undef, undef, .bool false], []⟩) (by kernel_rfl) ?_
          refine anyS_done (by kernel_rfl) ?_ _
          clear hw hcl
          go_wp2
          go_roundw
          case rel => exact ⟨n + 1, by omega, by go_num, upto_succ HB.out HMF.out, HXD⟩
          case measure => simp [intOf]; omega
        | true =>
          generalize hsb : sfx walk i ((ruat rules n).seq.take (m - 1)) = sb at *
          have HSB : Hid (sfx walk i ((ruat rules n).seq.take (m - 1)) = sb) := hsb
          clear hsb
          cases sb with
          | false =>
            have HMF : Hid (mustB walk i (ruat rules n) = false) := by unfold Hid; rw [HMB.out]; rfl
            go_upto_region 14 with fail
            refine (wpIn_wide (n := 9)).1 ?_
            refine wpIn_region_S (c := 34) (S := fun q => q.cell? ⟨rb, ro + n * 3 + 1, none⟩ = some (.bool true) ∧ q.cell? ⟨rb, ro + n * 3 + 2, none⟩ = some (.slice (some ⟨qb, qo, none⟩) m qc) ∧ q.cell? ⟨bw, ow + i, none⟩ = some (.int .i64 (y : Int)) ∧ q.cell? ⟨qb, qo + (m - 1), none⟩ = some (.int .i64 z)) hmx (by kernel_rfl) (fun hw hcl => ?_)
            refine anyS_take (i := 0) (v := .slice (some ⟨rb, ro, none⟩) nu zu) hw (by decide) hcl (noDefer_none rfl) rfl (by kernel_rfl) (by kernel_rfl) (by kernel_rfl) (fun _ _ _ h => h) ⟨Or.inl ⟨by kernel_rfl, ?y0⟩, fun _ => rfl⟩ HSS.out (fun hcl => ?_)
            case y0 =>
              rintro q ⟨c1, c2, c3, c4⟩
              go_simp
            refine anyS_take (i := 1) (v := .int .i64 (n : Int)) hw (by decide) hcl (noDefer_none rfl) rfl (by kernel_rfl) (by kernel_rfl) (by kernel_rfl) (fun _ _ _ h => h) ⟨Or.inl ⟨by kernel_rfl, ?y1⟩, fun _ => rfl⟩ HSS.out (fun hcl => ?_)
            case y1 =>
              rintro q ⟨c1, c2, c3, c4⟩
              go_simp
            refine anyS_take (i := 2) (v := .pointer (some ⟨rb, ro + n * 3, none⟩)) hw (by decide) hcl (noDefer_none rfl) rfl (by kernel_rfl) (by kernel_rfl) (by kernel_rfl) (fun _ _ _ h => h) ⟨Or.inl ⟨by kernel_rfl, ?y2⟩, fun _ => rfl⟩ HSS.out (fun hcl => ?_)
            case y2 =>
              rintro q ⟨c1, c2, c3, c4⟩
              go_simp
            refine anyS_take (i := 3) (v := .pointer (some ⟨rb, ro + n * 3 + 1, none⟩)) hw (by decide) hcl (noDefer_none rfl) rfl (by kernel_rfl) (by kernel_rfl) (by kernel_rfl) (fun _ _ _ h => h) ⟨Or.inl ⟨by kernel_rfl, ?y3⟩, fun _ => rfl⟩ HSS.out (fun hcl => ?_)
            case y3 =>
              rintro q ⟨c1, c2, c3, c4⟩
              go_simp
            refine anyS_take (i := 4) (v := .bool true) hw (by decide) hcl (noDefer_none rfl) rfl (by kernel_rfl) (by kernel_rfl) (by kernel_rfl) (fun _ _ _ h => h) ⟨Or.inl ⟨by kernel_rfl, ?y4⟩, fun _ => rfl⟩ HSS.out (fun hcl => ?_)
            case y4 =>
              rintro q ⟨c1, c2, c3, c4⟩
              go_simp
            refine anyS_take (i := 5) (v := .bool true) hw (by decide) hcl (noDefer_none rfl) rfl (by kernel_rfl) (by kernel_rfl) (by kernel_rfl) (fun _ _ _ h => h) ⟨Or.inl ⟨by kernel_rfl, ?y5⟩, fun _ => rfl⟩ HSS.out (fun hcl => ?_)
            case y5 =>
              rintro q ⟨c1, c2, c3, c4⟩
              go_simp
            refine anyS_take (i := 6) (v := .slice (some ⟨bw, ow, none⟩) nw cw) hw (by decide) hcl (noDefer_none rfl) rfl (by kernel_rfl) (by kernel_rfl) (by kernel_rfl) (fun _ _ _ h => h) ⟨Or.inl ⟨by kernel_rfl, ?y6⟩, fun _ => rfl⟩ HSS.out (fun hcl => ?_)
            case y6 =>
              rintro q ⟨c1, c2, c3, c4⟩
              go_simp
            refine anyS_take (i := 7) (v := .int .i64 (i : Int)) hw (by decide) hcl (noDefer_none rfl) rfl (by kernel_rfl) (by kernel_rfl) (by kernel_rfl) (fun _ _ _ h => h) ⟨Or.inl ⟨by kernel_rfl, ?y7⟩, fun _ => rfl⟩ HSS.out (fun hcl => ?_)
            case y7 =>
              rintro q ⟨c1, c2, c3, c4⟩
              go_simp
            refine anyS_take (i := 8) (v := .slice (some ⟨rb, ro, none⟩) nu zu) hw (by decide) hcl (noDefer_none rfl) rfl (by kernel_rfl) (by kernel_rfl) (by kernel_rfl) (fun _ _ _ h => h) ⟨Or.inl ⟨by kernel_rfl, ?y8⟩, fun _ => rfl⟩ HSS.out (fun hcl => ?_)
            case y8 =>
              rintro q ⟨c1, c2, c3, c4⟩
              go_simp
            refine anyS_take (i := 9) (v := .int .i64 (n : Int)) hw (by decide) hcl (noDefer_none rfl) rfl (by kernel_rfl) (by kernel_rfl) (by kernel_rfl) (fun _ _ _ h => h) ⟨Or.inl ⟨by kernel_rfl, ?y9⟩, fun _ => rfl⟩ HSS.out (fun hcl => ?_)
            case y9 =>
              rintro q ⟨c1, c2, c3, c4⟩
              go_simp
            refine anyS_take (i := 10) (v := .pointer (some ⟨rb, ro + n * 3, none⟩)) hw (by decide) hcl (noDefer_none rfl) rfl (by kernel_rfl) (by kernel_rfl) (by kernel_rfl) (fun _ _ _ h => h) ⟨Or.inl ⟨by kernel_rfl, ?y10⟩, fun _ => rfl⟩ HSS.out (fun hcl => ?_)
            case y10 =>
              rintro q ⟨c1, c2, c3, c4⟩
              go_simp
            refine anyS_take (i := 11) (v := .pointer (some ⟨rb, ro + n * 3 + 2, none⟩)) hw (by decide) hcl (noDefer_none rfl) rfl (by kernel_rfl) (by kernel_rfl) (by kernel_rfl) (fun _ _ _ h => h) ⟨Or.inl ⟨by kernel_rfl, ?y11⟩, fun _ => rfl⟩ HSS.out (fun hcl => ?_)
            case y11 =>
              rintro q ⟨c1, c2, c3, c4⟩
              go_simp
            refine anyS_take (i := 12) (v := .slice (some ⟨qb, qo, none⟩) m qc) hw (by decide) hcl (noDefer_none rfl) rfl (by kernel_rfl) (by kernel_rfl) (by kernel_rfl) (fun _ _ _ h => h) ⟨Or.inl ⟨by kernel_rfl, ?y12⟩, fun _ => rfl⟩ HSS.out (fun hcl => ?_)
            case y12 =>
              rintro q ⟨c1, c2, c3, c4⟩
              go_simp
            refine anyS_take (i := 13) (v := .int .i64 (m : Int)) hw (by decide) hcl (noDefer_none rfl) rfl (by kernel_rfl) (by kernel_rfl) (by kernel_rfl) (fun _ _ _ h => h) ⟨Or.inl ⟨by kernel_rfl, ?y13⟩, fun _ => rfl⟩ HSS.out (fun hcl => ?_)
            case y13 =>
              rintro q ⟨c1, c2, c3, c4⟩
              go_simp
            refine anyS_take (i := 14) (v := .int .i64 ((m - 1 : Nat) : Int)) hw (by decide) hcl (noDefer_none rfl) rfl (by kernel_rfl) (by kernel_rfl) (by kernel_rfl) (fun _ _ _ h => h) ⟨Or.inl ⟨by kernel_rfl, ?y14⟩, fun _ => rfl⟩ HSS.out (fun hcl => ?_)
            case y14 =>
              rintro q ⟨c1, c2, c3, c4⟩
              go_simp
              exact Go.IntWalk.i64_in _ ⟨by omega, by omega⟩
            refine anyS_take (i := 15) (v := .slice (some ⟨qb, qo, none⟩) (m - 1) qc) hw (by decide) hcl (noDefer_none rfl) rfl (by kernel_rfl) (by kernel_rfl) (by kernel_rfl) (fun _ _ _ h => h) ⟨Or.inl ⟨by kernel_rfl, ?y15⟩, fun _ => rfl⟩ HSS.out (fun hcl => ?_)
            case y15 =>
              rintro q ⟨c1, c2, c3, c4⟩
              go_simp
            refine anyS_act (a' := ⟨#[Value.agg #[v0, Value.slice (some { block := eb, off := eo }) y1 z1, v2, v3], Value.slice (some { block := rb, off := ro }) nu zu, Value.slice (some { block := bw, off := ow }) nw cw, Value.int IntKind.i64 ↑i, Value.pointer (some { block := Array.size (World.heap w), off := 0 }), undef, undef, undef, u8, Value.int IntKind.i64 ↑nu, Value.int IntKind.i64 ↑n, Value.int IntKind.i64 ↑m, Value.slice (some { block := bw, off := ow }) nw cw, Value.int IntKind.i64 ↑i, Value.pointer (some { block := bw, off := ow + i }), Value.int IntKind.i64 ↑y, Value.bool false, Value.bool false, Value.slice (some { block := bw, off := ow }) nw cw, Value.int IntKind.i64 ↑i, Value.pointer (some { block := bw, off := ow + i }), Value.int IntKind.i64 ↑y, Value.pointer (some { block := Array.size (World.heap w), off := 1 }), Value.slice (some { block := eb, off := eo }) y1 z1, Value.int IntKind.i64 ↑y1, Value.bool false, Value.bool false, Value.int IntKind.i64 ↑i, Value.bool true, Value.bool true, Value.pointer (some { block := Array.size (World.heap w), off := 1 }), Value.slice (some { block := eb, off := eo }) y1 z1, Value.slice (some { block := bw, off := ow }) nw cw, Value.int IntKind.i64 ↑i, Value.int IntKind.i64 ↑(i - 1), Value.pointer (some { block := bw, off := ow + (i - 1) }), Value.int IntKind.i64 ↑x, Value.pointer (some { block := eb, off := eo + x * 7 }), Value.pointer (some { block := eb, off := eo + x * 7 + 1 }), Value.int IntKind.i64 hd, Value.pointer (some { block := Array.size (World.heap w), off := 1 }), Value.slice (some { block := eb, off := eo }) y1 z1, Value.slice (some { block := bw, off := ow }) nw cw, Value.int IntKind.i64 ↑i, Value.pointer (some { block := bw, off := ow + i }), Value.int IntKind.i64 ↑y, Value.pointer (some { block := eb, off := eo + y * 7 }), Value.pointer (some { block := eb, off := eo + y * 7 }), Value.int IntKind.i64 hd, Value.bool false, Value.bool false, Value.int IntKind.i64 ↑nu, Value.slice (some { block := rb, off := ro }) nu zu, Value.int IntKind.i64 ↑nu, Value.bool false, u55, u56, u57, u58, u59, u60, u61, u62, u63, u64, u65, u66, u67, u68, u69, u70, u71, u72, u73, Value.int IntKind.i64 ↑n, Value.slice (some { block := rb, off := ro }) nu zu, Value.int IntKind.i64 ↑nu, Value.bool true, u78, u79, Value.slice (some { block := rb, off := ro }) nu zu, Value.int IntKind.i64 ↑n, Value.pointer (some { block := rb, off := ro + n * 3 }), Value.pointer (some { block := rb, off := ro + n * 3 + 2 }), Value.slice (some { block := qb, off := qo }) m qc, Value.int IntKind.i64 ↑m, .slice (some ⟨rb, ro, none⟩) nu zu, .int .i64 (n : Int), .pointer (some ⟨rb, ro + n * 3, none⟩), .pointer (some ⟨rb, ro + n * 3 + 1, none⟩), .bool true, .bool true, .slice (some ⟨bw, ow, none⟩) nw cw, .int .i64 (i : Int), .slice (some ⟨rb, ro, none⟩) nu zu, .int .i64 (n : Int), .pointer (some ⟨rb, ro + n * 3, none⟩), .pointer (some ⟨rb, ro + n * 3 + 2, none⟩), .slice (some ⟨qb, qo, none⟩) m qc, .int .i64 (m : Int), .int .i64 ((m - 1 : Nat) : Int), .slice (some ⟨qb, qo, none⟩) (m - 1) qc, u102, u103, u104, u105, u106, u107, u108, u109, u110, u111, u112, u113, u114, u115, u116, u117, u118, u119], []⟩) (by kernel_rfl) ?_
            refine anyS_do2 (i := 16) (by kernel_rfl) rfl (by kernel_rfl) hcl (fun hcl K hK => ?_)
            go_simp
            refine ⟨trivial, (callsIn_wide.2 (l2Suffix_any B1 0 _ _ walk ((ruat rules n).seq.take (m - 1)) i _ (HW.out.next (HX.out.trans HDR.out)) (HU.out.next HDR.out) (Nat.le_of_lt HIW.out))).mono ?_⟩
            rintro e w7 ⟨rfl, hx7⟩
            rw [HSB.out]
            have HX7 : Hid (Nx w w7) := HX.out.trans (HDR.out.trans hx7)
            have HS2 : Hid ((fun q => q.cell? ⟨rb, ro + n * 3 + 1, none⟩ = some (.bool true) ∧ q.cell? ⟨rb, ro + n * 3 + 2, none⟩ = some (.slice (some ⟨qb, qo, none⟩) m qc) ∧ q.cell? ⟨bw, ow + i, none⟩ = some (.int .i64 (y : Int)) ∧ q.cell? ⟨qb, qo + (m - 1), none⟩ = some (.int .i64 z)) w7) := by
              obtain ⟨c1, c2, c3, c4⟩ := HSS.out
              exact ⟨cellq hx7 c1, cellq hx7 c2, cellq hx7 c3, cellq hx7 c4⟩
            refine hK _ _ ⟨Or.inr HS2.out, ?_⟩
            clear hK K hx7
            refine anyS_take (i := 17) (v := .bool false) hw (by decide) hcl (noDefer_none rfl) rfl (by kernel_rfl) (by kernel_rfl) (by kernel_rfl) (fun _ _ _ h => h) ⟨Or.inl ⟨by kernel_rfl, ?y17⟩, fun _ => rfl⟩ HS2.out (fun hcl => ?_)
            case y17 =>
              rintro q ⟨c1, c2, c3, c4⟩
              kernel_rfl
            refine anyS_take (i := 18) (v := .bool false) hw (by decide) hcl (noDefer_none rfl) rfl (by kernel_rfl) (by kernel_rfl) (by kernel_rfl) (fun _ _ _ h => h) ⟨Or.inl ⟨by kernel_rfl, ?y18⟩, fun _ => rfl⟩ HS2.out (fun hcl => ?_)
            case y18 =>
              rintro q ⟨c1, c2, c3, c4⟩
              go_simp
            refine anyS_take (i := 19) (v := undef) hw (by decide) hcl (noDefer_none rfl) rfl (by kernel_rfl) (by kernel_rfl) (by kernel_rfl) (fun _ _ _ h => h) ⟨Or.inr ⟨by kernel_rfl, rfl⟩, fun _ => rfl⟩ HS2.out (fun hcl => ?_)
            refine anyS_take (i := 20) (v := undef) hw (by decide) hcl (noDefer_none rfl) rfl (by kernel_rfl) (by kernel_rfl) (by kernel_rfl) (fun _ _ _ h => h) ⟨Or.inr ⟨by kernel_rfl, rfl⟩, fun _ => rfl⟩ HS2.out (fun hcl => ?_)
            refine anyS_take (i := 21) (v := undef) hw (by decide) hcl (noDefer_none rfl) rfl (by kernel_rfl) (by kernel_rfl) (by kernel_rfl) (fun _ _ _ h => h) ⟨Or.inr ⟨by kernel_rfl, rfl⟩, fun _ => rfl⟩ HS2.out (fun hcl => ?_)
            refine anyS_take (i := 22) (v := undef) hw (by decide) hcl (noDefer_none rfl) rfl (by kernel_rfl) (by kernel_rfl) (by kernel_rfl) (fun _ _ _ h => h) ⟨Or.inr ⟨by kernel_rfl, rfl⟩, fun _ => rfl⟩ HS2.out (fun hcl => ?_)
            refine anyS_take (i := 23) (v := undef) hw (by decide) hcl (noDefer_none rfl) rfl (by kernel_rfl) (by kernel_rfl) (by kernel_rfl) (fun _ _ _ h => h) ⟨Or.inr ⟨by kernel_rfl, rfl⟩, fun _ => rfl⟩ HS2.out (fun hcl => ?_)
            refine anyS_take (i := 24) (v := undef) hw (by decide) hcl (noDefer_none rfl) rfl (by kernel_rfl) (by kernel_rfl) (by kernel_rfl) (fun _ _ _ h => h) ⟨Or.inr ⟨by kernel_rfl, rfl⟩, fun _ => rfl⟩ HS2.out (fun hcl => ?_)
            refine anyS_take (i := 25) (v := undef) hw (by decide) hcl (noDefer_none rfl) rfl (by kernel_rfl) (by kernel_rfl) (by kernel_rfl) (fun _ _ _ h => h) ⟨Or.inr ⟨by kernel_rfl, rfl⟩, fun _ => rfl⟩ HS2.out (fun hcl => ?_)
            refine anyS_take (i := 26) (v := undef) hw (by decide) hcl (noDefer_none rfl) rfl (by kernel_rfl) (by kernel_rfl) (by kernel_rfl) (fun _ _ _ h => h) ⟨Or.inr ⟨by kernel_rfl, rfl⟩, fun _ => rfl⟩ HS2.out (fun hcl => ?_)
            refine anyS_take (i := 27) (v := undef) hw (by decide) hcl (noDefer_none rfl) rfl (by kernel_rfl) (by kernel_rfl) (by kernel_rfl) (fun _ _ _ h => h) ⟨Or.inr ⟨by kernel_rfl, rfl⟩, fun _ => rfl⟩ HS2.out (fun hcl => ?_)
            refine anyS_take (i := 28) (v := undef) hw (by decide) hcl (noDefer_none rfl) rfl (by kernel_rfl) (by kernel_rfl) (by kernel_rfl) (fun _ _ _ h => h) ⟨Or.inr ⟨by kernel_rfl, rfl⟩, fun _ => rfl⟩ HS2.out (fun hcl => ?_)
            refine anyS_take (i := 29) (v := undef) hw (by decide) hcl (noDefer_none rfl) rfl (by kernel_rfl) (by kernel_rfl) (by kernel_rfl) (fun _ _ _ h => h) ⟨Or.inr ⟨by kernel_rfl, rfl⟩, fun _ => rfl⟩ HS2.out (fun hcl => ?_)
            refine anyS_take (i := 30) (v := undef) hw (by decide) hcl (noDefer_none rfl) rfl (by kernel_rfl) (by kernel_rfl) (by kernel_rfl) (fun _ _ _ h => h) ⟨Or.inr ⟨by kernel_rfl, rfl⟩, fun _ => rfl⟩ HS2.out (fun hcl => ?_)
            refine anyS_take (i := 31) (v := undef) hw (by decide) hcl (noDefer_none rfl) rfl (by kernel_rfl) (by kernel_rfl) (by kernel_rfl) (fun _ _ _ h => h) ⟨Or.inr ⟨by kernel_rfl, rfl⟩, fun _ => rfl⟩ HS2.out (fun hcl => ?_)
            refine anyS_take (i := 32) (v := undef) hw (by decide) hcl (noDefer_none rfl) rfl (by kernel_rfl) (by kernel_rfl) (by kernel_rfl) (fun _ _ _ h => h) ⟨Or.inr ⟨by kernel_rfl, rfl⟩, fun _ => rfl⟩ HS2.out (fun hcl => ?_)
            refine anyS_take (i := 33) (v := .bool false) hw (by decide) hcl (noDefer_none rfl) rfl (by kernel_rfl) (by kernel_rfl) (by kernel_rfl) (fun _ _ _ h => h) ⟨Or.inl ⟨by kernel_rfl, ?y33⟩, fun _ => rfl⟩ HS2.out (fun hcl => ?_)
            case y33 =>
              rintro q ⟨c1, c2, c3, c4⟩
              kernel_rfl
            refine anyS_act (a' := ⟨#[Value.agg #[v0, Value.slice (some { block := eb, off := eo }) y1 z1, v2, v3], Value.slice (some { block := rb, off := ro }) nu zu, Value.slice (some { block := bw, off := ow }) nw cw, Value.int IntKind.i64 ↑i, Value.pointer (some { block := Array.size (World.heap w), off := 0 }), undef, undef, undef, u8, Value.int IntKind.i64 ↑nu, Value.int IntKind.i64 ↑n, Value.int IntKind.i64 ↑m, Value.slice (some { block := bw, off := ow }) nw cw, Value.int IntKind.i64 ↑i, Value.pointer (some { block := bw, off := ow + i }), Value.int IntKind.i64 ↑y, Value.bool false, Value.bool false, Value.slice (some { block := bw, off := ow }) nw cw, Value.int IntKind.i64 ↑i, Value.pointer (some { block := bw, off := ow + i }), Value.int IntKind.i64 ↑y, Value.pointer (some { block := Array.size (World.heap w), off := 1 }), Value.slice (some { block := eb, off := eo }) y1 z1, Value.int IntKind.i64 ↑y1, Value.bool false, Value.bool false, Value.int IntKind.i64 ↑i, Value.bool true, Value.bool true, Value.pointer (some { block := Array.size (World.heap w), off := 1 }), Value.slice (some { block := eb, off := eo }) y1 z1, Value.slice (some { block := bw, off := ow }) nw cw, Value.int IntKind.i64 ↑i, Value.int IntKind.i64 ↑(i - 1), Value.pointer (some { block := bw, off := ow + (i - 1) }), Value.int IntKind.i64 ↑x, Value.pointer (some { block := eb, off := eo + x * 7 }), Value.pointer (some { block := eb, off := eo + x * 7 + 1 }), Value.int IntKind.i64 hd, Value.pointer (some { block := Array.size (World.heap w), off := 1 }), Value.slice (some { block := eb, off := eo }) y1 z1, Value.slice (some { block := bw, off := ow }) nw cw, Value.int IntKind.i64 ↑i, Value.pointer (some { block := bw, off := ow + i }), Value.int IntKind.i64 ↑y, Value.pointer (some { block := eb, off := eo + y * 7 }), Value.pointer (some { block := eb, off := eo + y * 7 }), Value.int IntKind.i64 hd, Value.bool false, Value.bool false, Value.int IntKind.i64 ↑nu, Value.slice (some { block := rb, off := ro }) nu zu, Value.int IntKind.i64 ↑nu, Value.bool false, u55, u56, u57, u58, u59, u60, u61, u62, u63, u64, u65, u66, u67, u68, u69, u70, u71, u72, u73, Value.int IntKind.i64 ↑n, Value.slice (some { block := rb, off := ro }) nu zu, Value.int IntKind.i64 ↑nu, Value.bool true, u78, u79, Value.slice (some { block := rb, off := ro }) nu zu, Value.int IntKind.i64 ↑n, Value.pointer (some { block := rb, off := ro + n * 3 }), Value.pointer (some { block := rb, off := ro + n * 3 + 2 }), Value.slice (some { block := qb, off := qo }) m qc, Value.int IntKind.i64 ↑m, .slice (some ⟨rb, ro, none⟩) nu zu, .int .i64 (n : Int), .pointer (some ⟨rb, ro + n * 3, none⟩), .pointer (some ⟨rb, ro + n * 3 + 1, none⟩), .bool true, .bool true, .slice (some ⟨bw, ow, none⟩) nw cw, .int .i64 (i : Int), .slice (some ⟨rb, ro, none⟩) nu zu, .int .i64 (n : Int), .pointer (some ⟨rb, ro + n * 3, none⟩), .pointer (some ⟨rb, ro + n * 3 + 2, none⟩), .slice (some ⟨qb, qo, none⟩) m qc, .int .i64 (m : Int), .int .i64 ((m - 1 : Nat) : Int), .slice (some ⟨qb, qo, none⟩) (m - 1) qc, .bool false, .bool false, .bool false, undef, undef, undef, undef, undef, undef, undef, undef, undef, undef, undef, undef, undef, undef, .bool false], []⟩) (by kernel_rfl) ?_
            refine anyS_done (by kernel_rfl) ?_ _
            clear hw hcl
            go_wp2
            go_roundw
            case rel => exact ⟨n + 1, by omega, by go_num, upto_succ HB.out HMF.out, HX7⟩
            case measure => simp [intOf]; omega
          | true =>
            by_cases hyz : (y : Int) = z
            · have HMF : Hid (mustB walk i (ruat rules n) = false) := by unfold Hid; rw [HMB.out, hyz]; simp
              have HNZ : Hid (((y : Int) != z) = false) := by unfold Hid; simpa using hyz
              clear hyz
              go_upto_region 14 with fail
              refine (wpIn_wide (n := 9)).1 ?_
              refine wpIn_region_S (c := 34) (S := fun q => q.cell? ⟨rb, ro + n * 3 + 1, none⟩ = some (.bool true) ∧ q.cell? ⟨rb, ro + n * 3 + 2, none⟩ = some (.slice (some ⟨qb, qo, none⟩) m qc) ∧ q.cell? ⟨bw, ow + i, none⟩ = some (.int .i64 (y : Int)) ∧ q.cell? ⟨qb, qo + (m - 1), none⟩ = some (.int .i64 z)) hmx (by kernel_rfl) (fun hw hcl => ?_)
              refine anyS_take (i := 0) (v := .slice (some ⟨rb, ro, none⟩) nu zu) hw (by decide) hcl (noDefer_none rfl) rfl (by kernel_rfl) (by kernel_rfl) (by kernel_rfl) (fun _ _ _ h => h) ⟨Or.inl ⟨by kernel_rfl, ?y0⟩, fun _ => rfl⟩ HSS.out (fun hcl => ?_)
              case y0 =>
                rintro q ⟨c1, c2, c3, c4⟩
                go_simp
              refine anyS_take (i := 1) (v := .int .i64 (n : Int)) hw (by decide) hcl (noDefer_none rfl) rfl (by kernel_rfl) (by kernel_rfl) (by kernel_rfl) (fun _ _ _ h => h) ⟨Or.inl ⟨by kernel_rfl, ?y1⟩, fun _ => rfl⟩ HSS.out (fun hcl => ?_)
              case y1 =>
                rintro q ⟨c1, c2, c3, c4⟩
                go_simp
              refine anyS_take (i := 2) (v := .pointer (some ⟨rb, ro + n * 3, none⟩)) hw (by decide) hcl (noDefer_none rfl) rfl (by kernel_rfl) (by kernel_rfl) (by kernel_rfl) (fun _ _ _ h => h) ⟨Or.inl ⟨by kernel_rfl, ?y2⟩, fun _ => rfl⟩ HSS.out (fun hcl => ?_)
              case y2 =>
                rintro q ⟨c1, c2, c3, c4⟩
                go_simp
              refine anyS_take (i := 3) (v := .pointer (some ⟨rb, ro + n * 3 + 1, none⟩)) hw (by decide) hcl (noDefer_none rfl) rfl (by kernel_rfl) (by kernel_rfl) (by kernel_rfl) (fun _ _ _ h => h) ⟨Or.inl ⟨by kernel_rfl, ?y3⟩, fun _ => rfl⟩ HSS.out (fun hcl => ?_)
              case y3 =>
                rintro q ⟨c1, c2, c3, c4⟩
                go_simp
              refine anyS_take (i := 4) (v := .bool true) hw (by decide) hcl (noDefer_none rfl) rfl (by kernel_rfl) (by kernel_rfl) (by kernel_rfl) (fun _ _ _ h => h) ⟨Or.inl ⟨by kernel_rfl, ?y4⟩, fun _ => rfl⟩ HSS.out (fun hcl => ?_)
              case y4 =>
                rintro q ⟨c1, c2, c3, c4⟩
                go_simp
              refine anyS_take (i := 5) (v := .bool true) hw (by decide) hcl (noDefer_none rfl) rfl (by kernel_rfl) (by kernel_rfl) (by kernel_rfl) (fun _ _ _ h => h) ⟨Or.inl ⟨by kernel_rfl, ?y5⟩, fun _ => rfl⟩ HSS.out (fun hcl => ?_)
              case y5 =>
                rintro q ⟨c1, c2, c3, c4⟩
                go_simp
              refine anyS_take (i := 6) (v := .slice (some ⟨bw, ow, none⟩) nw cw) hw (by decide) hcl (noDefer_none rfl) rfl (by kernel_rfl) (by kernel_rfl) (by kernel_rfl) (fun _ _ _ h => h) ⟨Or.inl ⟨by kernel_rfl, ?y6⟩, fun _ => rfl⟩ HSS.out (fun hcl => ?_)
              case y6 =>
                rintro q ⟨c1, c2, c3, c4⟩
                go_simp
              refine anyS_take (i := 7) (v := .int .i64 (i : Int)) hw (by decide) hcl (noDefer_none rfl) rfl (by kernel_rfl) (by kernel_rfl) (by kernel_rfl) (fun _ _ _ h => h) ⟨Or.inl ⟨by kernel_rfl, ?y7⟩, fun _ => rfl⟩ HSS.out (fun hcl => ?_)
              case y7 =>
                rintro q ⟨c1, c2, c3, c4⟩
                go_simp
              refine anyS_take (i := 8) (v := .slice (some ⟨rb, ro, none⟩) nu zu) hw (by decide) hcl (noDefer_none rfl) rfl (by kernel_rfl) (by kernel_rfl) (by kernel_rfl) (fun _ _ _ h => h) ⟨Or.inl ⟨by kernel_rfl, ?y8⟩, fun _ => rfl⟩ HSS.out (fun hcl => ?_)
              case y8 =>
                rintro q ⟨c1, c2, c3, c4⟩
                go_simp
              refine anyS_take (i := 9) (v := .int .i64 (n : Int)) hw (by decide) hcl (noDefer_none rfl) rfl (by kernel_rfl) (by kernel_rfl) (by kernel_rfl) (fun _ _ _ h => h) ⟨Or.inl ⟨by kernel_rfl, ?y9⟩, fun _ => rfl⟩ HSS.out (fun hcl => ?_)
              case y9 =>
                rintro q ⟨c1, c2, c3, c4⟩
                go_simp
              refine anyS_take (i := 10) (v := .pointer (some ⟨rb, ro + n * 3, none⟩)) hw (by decide) hcl (noDefer_none rfl) rfl (by kernel_rfl) (by kernel_rfl) (by kernel_rfl) (fun _ _ _ h => h) ⟨Or.inl ⟨by kernel_rfl, ?y10⟩, fun _ => rfl⟩ HSS.out (fun hcl => ?_)
              case y10 =>
                rintro q ⟨c1, c2, c3, c4⟩
                go_simp
              refine anyS_take (i := 11) (v := .pointer (some ⟨rb, ro + n * 3 + 2, none⟩)) hw (by decide) hcl (noDefer_none rfl) rfl (by kernel_rfl) (by kernel_rfl) (by kernel_rfl) (fun _ _ _ h => h) ⟨Or.inl ⟨by kernel_rfl, ?y11⟩, fun _ => rfl⟩ HSS.out (fun hcl => ?_)
              case y11 =>
                rintro q ⟨c1, c2, c3, c4⟩
                go_simp
              refine anyS_take (i := 12) (v := .slice (some ⟨qb, qo, none⟩) m qc) hw (by decide) hcl (noDefer_none rfl) rfl (by kernel_rfl) (by kernel_rfl) (by kernel_rfl) (fun _ _ _ h => h) ⟨Or.inl ⟨by kernel_rfl, ?y12⟩, fun _ => rfl⟩ HSS.out (fun hcl => ?_)
              case y12 =>
                rintro q ⟨c1, c2, c3, c4⟩
                go_simp
              refine anyS_take (i := 13) (v := .int .i64 (m : Int)) hw (by decide) hcl (noDefer_none rfl) rfl (by kernel_rfl) (by kernel_rfl) (by kernel_rfl) (fun _ _ _ h => h) ⟨Or.inl ⟨by kernel_rfl, ?y13⟩, fun _ => rfl⟩ HSS.out (fun hcl => ?_)
              case y13 =>
                rintro q ⟨c1, c2, c3, c4⟩
                go_simp
              refine anyS_take (i := 14) (v := .int .i64 ((m - 1 : Nat) : Int)) hw (by decide) hcl (noDefer_none rfl) rfl (by kernel_rfl) (by kernel_rfl) (by kernel_rfl) (fun _ _ _ h => h) ⟨Or.inl ⟨by kernel_rfl, ?y14⟩, fun _ => rfl⟩ HSS.out (fun hcl => ?_)
              case y14 =>
                rintro q ⟨c1, c2, c3, c4⟩
                go_simp
                exact Go.IntWalk.i64_in _ ⟨by omega, by omega⟩
              refine anyS_take (i := 15) (v := .slice (some ⟨qb, qo, none⟩) (m - 1) qc) hw (by decide) hcl (noDefer_none rfl) rfl (by kernel_rfl) (by kernel_rfl) (by kernel_rfl) (fun _ _ _ h => h) ⟨Or.inl ⟨by kernel_rfl, ?y15⟩, fun _ => rfl⟩ HSS.out (fun hcl => ?_)
              case y15 =>
                rintro q ⟨c1, c2, c3, c4⟩
                go_simp
              refine anyS_act (a' := ⟨#[Value.agg #[v0, Value.slice (some { block := eb, off := eo }) y1 z1, v2, v3], Value.slice (some { block := rb, off := ro }) nu zu, Value.slice (some { block := bw, off := ow }) nw cw, Value.int IntKind.i64 ↑i, Value.pointer (some { block := Array.size (World.heap w), off := 0 }), undef, undef, undef, u8, Value.int IntKind.i64 ↑nu, Value.int IntKind.i64 ↑n, Value.int IntKind.i64 ↑m, Value.slice (some { block := bw, off := ow }) nw cw, Value.int IntKind.i64 ↑i, Value.pointer (some { block := bw, off := ow + i }), Value.int IntKind.i64 ↑y, Value.bool false, Value.bool false, Value.slice (some { block := bw, off := ow }) nw cw, Value.int IntKind.i64 ↑i, Value.pointer (some { block := bw, off := ow + i }), Value.int IntKind.i64 ↑y, Value.pointer (some { block := Array.size (World.heap w), off := 1 }), Value.slice (some { block := eb, off := eo }) y1 z1, Value.int IntKind.i64 ↑y1, Value.bool false, Value.bool false, Value.int IntKind.i64 ↑i, Value.bool true, Value.bool true, Value.pointer (some { block := Array.size (World.heap w), off := 1 }), Value.slice (some { block := eb, off := eo }) y1 z1, Value.slice (some { block := bw, off := ow }) nw cw, Value.int IntKind.i64 ↑i, Value.int IntKind.i64 ↑(i - 1), Value.pointer (some { block := bw, off := ow + (i - 1) }), Value.int IntKind.i64 ↑x, Value.pointer (some { block := eb, off := eo + x * 7 }), Value.pointer (some { block := eb, off := eo + x * 7 + 1 }), Value.int IntKind.i64 hd, Value.pointer (some { block := Array.size (World.heap w), off := 1 }), Value.slice (some { block := eb, off := eo }) y1 z1, Value.slice (some { block := bw, off := ow }) nw cw, Value.int IntKind.i64 ↑i, Value.pointer (some { block := bw, off := ow + i }), Value.int IntKind.i64 ↑y, Value.pointer (some { block := eb, off := eo + y * 7 }), Value.pointer (some { block := eb, off := eo + y * 7 }), Value.int IntKind.i64 hd, Value.bool false, Value.bool false, Value.int IntKind.i64 ↑nu, Value.slice (some { block := rb, off := ro }) nu zu, Value.int IntKind.i64 ↑nu, Value.bool false, u55, u56, u57, u58, u59, u60, u61, u62, u63, u64, u65, u66, u67, u68, u69, u70, u71, u72, u73, Value.int IntKind.i64 ↑n, Value.slice (some { block := rb, off := ro }) nu zu, Value.int IntKind.i64 ↑nu, Value.bool true, u78, u79, Value.slice (some { block := rb, off := ro }) nu zu, Value.int IntKind.i64 ↑n, Value.pointer (some { block := rb, off := ro + n * 3 }), Value.pointer (some { block := rb, off := ro + n * 3 + 2 }), Value.slice (some { block := qb, off := qo }) m qc, Value.int IntKind.i64 ↑m, .slice (some ⟨rb, ro, none⟩) nu zu, .int .i64 (n : Int), .pointer (some ⟨rb, ro + n * 3, none⟩), .pointer (some ⟨rb, ro + n * 3 + 1, none⟩), .bool true, .bool true, .slice (some ⟨bw, ow, none⟩) nw cw, .int .i64 (i : Int), .slice (some ⟨rb, ro, none⟩) nu zu, .int .i64 (n : Int), .pointer (some ⟨rb, ro + n * 3, none⟩), .pointer (some ⟨rb, ro + n * 3 + 2, none⟩), .slice (some ⟨qb, qo, none⟩) m qc, .int .i64 (m : Int), .int .i64 ((m - 1 : Nat) : Int), .slice (some ⟨qb, qo, none⟩) (m - 1) qc, u102, u103, u104, u105, u106, u107, u108, u109, u110, u111, u112, u113, u114, u115, u116, u117, u118, u119], []⟩) (by kernel_rfl) ?_
              refine anyS_do2 (i := 16) (by kernel_rfl) rfl (by kernel_rfl) hcl (fun hcl K hK => ?_)
              go_simp
              refine ⟨trivial, (callsIn_wide.2 (l2Suffix_any B1 0 _ _ walk ((ruat rules n).seq.take (m - 1)) i _ (HW.out.next (HX.out.trans HDR.out)) (HU.out.next HDR.out) (Nat.le_of_lt HIW.out))).mono ?_⟩
              rintro e w7 ⟨rfl, hx7⟩
              rw [HSB.out]
              have HX7 : Hid (Nx w w7) := HX.out.trans (HDR.out.trans hx7)
              have HS2 : Hid ((fun q => q.cell? ⟨rb, ro + n * 3 + 1, none⟩ = some (.bool true) ∧ q.cell? ⟨rb, ro + n * 3 + 2, none⟩ = some (.slice (some ⟨qb, qo, none⟩) m qc) ∧ q.cell? ⟨bw, ow + i, none⟩ = some (.int .i64 (y : Int)) ∧ q.cell? ⟨qb, qo + (m - 1), none⟩ = some (.int .i64 z)) w7) := by
                obtain ⟨c1, c2, c3, c4⟩ := HSS.out
                exact ⟨cellq hx7 c1, cellq hx7 c2, cellq hx7 c3, cellq hx7 c4⟩
              refine hK _ _ ⟨Or.inr HS2.out, ?_⟩
              clear hK K hx7
              refine anyS_take (i := 17) (v := .bool true) hw (by decide) hcl (noDefer_none rfl) rfl (by kernel_rfl) (by kernel_rfl) (by kernel_rfl) (fun _ _ _ h => h) ⟨Or.inl ⟨by kernel_rfl, ?y17⟩, fun _ => rfl⟩ HS2.out (fun hcl => ?_)
              case y17 =>
                rintro q ⟨c1, c2, c3, c4⟩
                kernel_rfl
              refine anyS_take (i := 18) (v := .bool true) hw (by decide) hcl (noDefer_none rfl) rfl (by kernel_rfl) (by kernel_rfl) (by kernel_rfl) (fun _ _ _ h => h) ⟨Or.inl ⟨by kernel_rfl, ?y18⟩, fun _ => rfl⟩ HS2.out (fun hcl => ?_)
              case y18 =>
                rintro q ⟨c1, c2, c3, c4⟩
                go_simp
              refine anyS_take (i := 19) (v := .slice (some ⟨bw, ow, none⟩) nw cw) hw (by decide) hcl (noDefer_none rfl) rfl (by kernel_rfl) (by kernel_rfl) (by kernel_rfl) (fun _ _ _ h => h) ⟨Or.inl ⟨by kernel_rfl, ?y19⟩, fun _ => rfl⟩ HS2.out (fun hcl => ?_)
              case y19 =>
                rintro q ⟨c1, c2, c3, c4⟩
                go_simp
              refine anyS_take (i := 20) (v := .int .i64 (i : Int)) hw (by decide) hcl (noDefer_none rfl) rfl (by kernel_rfl) (by kernel_rfl) (by kernel_rfl) (fun _ _ _ h => h) ⟨Or.inl ⟨by kernel_rfl, ?y20⟩, fun _ => rfl⟩ HS2.out (fun hcl => ?_)
              case y20 =>
                rintro q ⟨c1, c2, c3, c4⟩
                go_simp
              refine anyS_take (i := 21) (v := .pointer (some ⟨bw, ow + i, none⟩)) hw (by decide) hcl (noDefer_none rfl) rfl (by kernel_rfl) (by kernel_rfl) (by kernel_rfl) (fun _ _ _ h => h) ⟨Or.inl ⟨by kernel_rfl, ?y21⟩, fun _ => rfl⟩ HS2.out (fun hcl => ?_)
              case y21 =>
                rintro q ⟨c1, c2, c3, c4⟩
                go_simp
              refine anyS_take (i := 22) (v := .int .i64 (y : Int)) hw (by decide) hcl (noDefer_none rfl) rfl (by kernel_rfl) (by kernel_rfl) (by kernel_rfl) (fun _ _ _ h => h) ⟨Or.inl ⟨by kernel_rfl, ?y22⟩, fun _ => rfl⟩ HS2.out (fun hcl => ?_)
              case y22 =>
                rintro q ⟨c1, c2, c3, c4⟩
                go_simp
              refine anyS_take (i := 23) (v := .slice (some ⟨rb, ro, none⟩) nu zu) hw (by decide) hcl (noDefer_none rfl) rfl (by kernel_rfl) (by kernel_rfl) (by kernel_rfl) (fun _ _ _ h => h) ⟨Or.inl ⟨by kernel_rfl, ?y23⟩, fun _ => rfl⟩ HS2.out (fun hcl => ?_)
              case y23 =>
                rintro q ⟨c1, c2, c3, c4⟩
                go_simp
              refine anyS_take (i := 24) (v := .int .i64 (n : Int)) hw (by decide) hcl (noDefer_none rfl) rfl (by kernel_rfl) (by kernel_rfl) (by kernel_rfl) (fun _ _ _ h => h) ⟨Or.inl ⟨by kernel_rfl, ?y24⟩, fun _ => rfl⟩ HS2.out (fun hcl => ?_)
              case y24 =>
                rintro q ⟨c1, c2, c3, c4⟩
                go_simp
              refine anyS_take (i := 25) (v := .pointer (some ⟨rb, ro + n * 3, none⟩)) hw (by decide) hcl (noDefer_none rfl) rfl (by kernel_rfl) (by kernel_rfl) (by kernel_rfl) (fun _ _ _ h => h) ⟨Or.inl ⟨by kernel_rfl, ?y25⟩, fun _ => rfl⟩ HS2.out (fun hcl => ?_)
              case y25 =>
                rintro q ⟨c1, c2, c3, c4⟩
                go_simp
              refine anyS_take (i := 26) (v := .pointer (some ⟨rb, ro + n * 3 + 2, none⟩)) hw (by decide) hcl (noDefer_none rfl) rfl (by kernel_rfl) (by kernel_rfl) (by kernel_rfl) (fun _ _ _ h => h) ⟨Or.inl ⟨by kernel_rfl, ?y26⟩, fun _ => rfl⟩ HS2.out (fun hcl => ?_)
              case y26 =>
                rintro q ⟨c1, c2, c3, c4⟩
                go_simp
              refine anyS_take (i := 27) (v := .slice (some ⟨qb, qo, none⟩) m qc) hw (by decide) hcl (noDefer_none rfl) rfl (by kernel_rfl) (by kernel_rfl) (by kernel_rfl) (fun _ _ _ h => h) ⟨Or.inl ⟨by kernel_rfl, ?y27⟩, fun _ => rfl⟩ HS2.out (fun hcl => ?_)
              case y27 =>
                rintro q ⟨c1, c2, c3, c4⟩
                go_simp
              refine anyS_take (i := 28) (v := .int .i64 (m : Int)) hw (by decide) hcl (noDefer_none rfl) rfl (by kernel_rfl) (by kernel_rfl) (by kernel_rfl) (fun _ _ _ h => h) ⟨Or.inl ⟨by kernel_rfl, ?y28⟩, fun _ => rfl⟩ HS2.out (fun hcl => ?_)
              case y28 =>
                rintro q ⟨c1, c2, c3, c4⟩
                go_simp
              refine anyS_take (i := 29) (v := .int .i64 ((m - 1 : Nat) : Int)) hw (by decide) hcl (noDefer_none rfl) rfl (by kernel_rfl) (by kernel_rfl) (by kernel_rfl) (fun _ _ _ h => h) ⟨Or.inl ⟨by kernel_rfl, ?y29⟩, fun _ => rfl⟩ HS2.out (fun hcl => ?_)
              case y29 =>
                rintro q ⟨c1, c2, c3, c4⟩
                go_simp
                exact Go.IntWalk.i64_in _ ⟨by omega, by omega⟩
              refine anyS_take (i := 30) (v := .pointer (some ⟨qb, qo + (m - 1), none⟩)) hw (by decide) hcl (noDefer_none rfl) rfl (by kernel_rfl) (by kernel_rfl) (by kernel_rfl) (fun _ _ _ h => h) ⟨Or.inl ⟨by kernel_rfl, ?y30⟩, fun _ => rfl⟩ HS2.out (fun hcl => ?_)
              case y30 =>
                rintro q ⟨c1, c2, c3, c4⟩
                go_simp
              refine anyS_take (i := 31) (v := .int .i64 z) hw (by decide) hcl (noDefer_none rfl) rfl (by kernel_rfl) (by kernel_rfl) (by kernel_rfl) (fun _ _ _ h => h) ⟨Or.inl ⟨by kernel_rfl, ?y31⟩, fun _ => rfl⟩ HS2.out (fun hcl => ?_)
              case y31 =>
                rintro q ⟨c1, c2, c3, c4⟩
                go_simp
              refine anyS_take (i := 32) (v := .bool false) hw (by decide) hcl (noDefer_none rfl) rfl (by kernel_rfl) (by kernel_rfl) (by kernel_rfl) (fun _ _ _ h => h) ⟨Or.inl ⟨by kernel_rfl, ?y32⟩, fun _ => rfl⟩ HS2.out (fun hcl => ?_)
              case y32 =>
                rintro q ⟨c1, c2, c3, c4⟩
                go_simp
                all_goals (first | exact HNZ.out | simpa using HNZ.out)
              refine anyS_take (i := 33) (v := .bool false) hw (by decide) hcl (noDefer_none rfl) rfl (by kernel_rfl) (by kernel_rfl) (by kernel_rfl) (fun _ _ _ h => h) ⟨Or.inl ⟨by kernel_rfl, ?y33⟩, fun _ => rfl⟩ HS2.out (fun hcl => ?_)
              case y33 =>
                rintro q ⟨c1, c2, c3, c4⟩
                kernel_rfl
              refine anyS_act (a' := ⟨#[Value.agg #[v0, Value.slice (some { block := eb, off := eo }) y1 z1, v2, v3], Value.slice (some { block := rb, off := ro }) nu zu, Value.slice (some { block := bw, off := ow }) nw cw, Value.int IntKind.i64 ↑i, Value.pointer (some { block := Array.size (World.heap w), off := 0 }), undef, undef, undef, u8, Value.int IntKind.i64 ↑nu, Value.int IntKind.i64 ↑n, Value.int IntKind.i64 ↑m, Value.slice (some { block := bw, off := ow }) nw cw, Value.int IntKind.i64 ↑i, Value.pointer (some { block := bw, off := ow + i }), Value.int IntKind.i64 ↑y, Value.bool false, Value.bool false, Value.slice (some { block := bw, off := ow }) nw cw, Value.int IntKind.i64 ↑i, Value.pointer (some { block := bw, off := ow + i }), Value.int IntKind.i64 ↑y, Value.pointer (some { block := Array.size (World.heap w), off := 1 }), Value.slice (some { block := eb, off := eo }) y1 z1, Value.int IntKind.i64 ↑y1, Value.bool false, Value.bool false, Value.int IntKind.i64 ↑i, Value.bool true, Value.bool true, Value.pointer (some { block := Array.size (World.heap w), off := 1 }), Value.slice (some { block := eb, off := eo }) y1 z1, Value.slice (some { block := bw, off := ow }) nw cw, Value.int IntKind.i64 ↑i, Value.int IntKind.i64 ↑(i - 1), Value.pointer (some { block := bw, off := ow + (i - 1) }), Value.int IntKind.i64 ↑x, Value.pointer (some { block := eb, off := eo + x * 7 }), Value.pointer (some { block := eb, off := eo + x * 7 + 1 }), Value.int IntKind.i64 hd, Value.pointer (some { block := Array.size (World.heap w), off := 1 }), Value.slice (some { block := eb, off := eo }) y1 z1, Value.slice (some { block := bw, off := ow }) nw cw, Value.int IntKind.i64 ↑i, Value.pointer (some { block := bw, off := ow + i }), Value.int IntKind.i64 ↑y, Value.pointer (some { block := eb, off := eo + y * 7 }), Value.pointer (some { block := eb, off := eo + y * 7 }), Value.int IntKind.i64 hd, Value.bool false, Value.bool false, Value.int IntKind.i64 ↑nu, Value.slice (some { block := rb, off := ro }) nu zu, Value.int IntKind.i64 ↑nu, Value.bool false, u55, u56, u57, u58, u59, u60, u61, u62, u63, u64, u65, u66, u67, u68, u69, u70, u71, u72, u73, Value.int IntKind.i64 ↑n, Value.slice (some { block := rb, off := ro }) nu zu, Value.int IntKind.i64 ↑nu, Value.bool true, u78, u79, Value.slice (some { block := rb, off := ro }) nu zu, Value.int IntKind.i64 ↑n, Value.pointer (some { block := rb, off := ro + n * 3 }), Value.pointer (some { block := rb, off := ro + n * 3 + 2 }), Value.slice (some { block := qb, off := qo }) m qc, Value.int IntKind.i64 ↑m, .slice (some ⟨rb, ro, none⟩) nu zu, .int .i64 (n : Int), .pointer (some ⟨rb, ro + n * 3, none⟩), .pointer (some ⟨rb, ro + n * 3 + 1, none⟩), .bool true, .bool true, .slice (some ⟨bw, ow, none⟩) nw cw, .int .i64 (i : Int), .slice (some ⟨rb, ro, none⟩) nu zu, .int .i64 (n : Int), .pointer (some ⟨rb, ro + n * 3, none⟩), .pointer (some ⟨rb, ro + n * 3 + 2, none⟩), .slice (some ⟨qb, qo, none⟩) m qc, .int .i64 (m : Int), .int .i64 ((m - 1 : Nat) : Int), .slice (some ⟨qb, qo, none⟩) (m - 1) qc, .bool true, .bool true, .bool true, .slice (some ⟨bw, ow, none⟩) nw cw, .int .i64 (i : Int), .pointer (some ⟨bw, ow + i, none⟩), .int .i64 (y : Int), .slice (some ⟨rb, ro, none⟩) nu zu, .int .i64 (n : Int), .pointer (some ⟨rb, ro + n * 3, none⟩), .pointer (some ⟨rb, ro + n * 3 + 2, none⟩), .slice (some ⟨qb, qo, none⟩) m qc, .int .i64 (m : Int), .int .i64 ((m - 1 : Nat) : Int), .pointer (some ⟨qb, qo + (m - 1), none⟩), .int .i64 z, .bool false, .bool false], []⟩) (by kernel_rfl) ?_
              refine anyS_done (by kernel_rfl) ?_ _
              clear hw hcl
              go_wp2
              go_roundw
              case rel => exact ⟨n + 1, by omega, by go_num, upto_succ HB.out HMF.out, HX7⟩
              case measure => simp [intOf]; omega
            · have HNZ : Hid (((y : Int) != z) = true) := by unfold Hid; simpa using hyz
              clear hyz
              have HF : Hid (reasonJ R.edges rules walk i = 6) := by unfold Hid; rw [HR6.out, if_pos (any_some HAT.out (i := n) (by rw [HNU.out]; exact hlt) (by rw [HMB.out, HNZ.out]; rfl))]
              go_upto_region 14 with fail
              refine (wpIn_wide (n := 9)).1 ?_
              refine wpIn_region_S (c := 34) (S := fun q => q.cell? ⟨rb, ro + n * 3 + 1, none⟩ = some (.bool true) ∧ q.cell? ⟨rb, ro + n * 3 + 2, none⟩ = some (.slice (some ⟨qb, qo, none⟩) m qc) ∧ q.cell? ⟨bw, ow + i, none⟩ = some (.int .i64 (y : Int)) ∧ q.cell? ⟨qb, qo + (m - 1), none⟩ = some (.int .i64 z)) hmx (by kernel_rfl) (fun hw hcl => ?_)
              refine anyS_take (i := 0) (v := .slice (some ⟨rb, ro, none⟩) nu zu) hw (by decide) hcl (noDefer_none rfl) rfl (by kernel_rfl) (by kernel_rfl) (by kernel_rfl) (fun _ _ _ h => h) ⟨Or.inl ⟨by kernel_rfl, ?y0⟩, fun _ => rfl⟩ HSS.out (fun hcl => ?_)
              case y0 =>
                rintro q ⟨c1, c2, c3, c4⟩
                go_simp
              refine anyS_take (i := 1) (v := .int .i64 (n : Int)) hw (by decide) hcl (noDefer_none rfl) rfl (by kernel_rfl) (by kernel_rfl) (by kernel_rfl) (fun _ _ _ h => h) ⟨Or.inl ⟨by kernel_rfl, ?y1⟩, fun _ => rfl⟩ HSS.out (fun hcl => ?_)
              case y1 =>
                rintro q ⟨c1, c2, c3, c4⟩
                go_simp
              refine anyS_take (i := 2) (v := .pointer (some ⟨rb, ro + n * 3, none⟩)) hw (by decide) hcl (noDefer_none rfl) rfl (by kernel_rfl) (by kernel_rfl) (by kernel_rfl) (fun _ _ _ h => h) ⟨Or.inl ⟨by kernel_rfl, ?y2⟩, fun _ => rfl⟩ HSS.out (fun hcl => ?_)
              case y2 =>
                rintro q ⟨c1, c2, c3, c4⟩
                go_simp
              refine anyS_take (i := 3) (v := .pointer (some ⟨rb, ro + n * 3 + 1, none⟩)) hw (by decide) hcl (noDefer_none rfl) rfl (by kernel_rfl) (by kernel_rfl) (by kernel_rfl) (fun _ _ _ h => h) ⟨Or.inl ⟨by kernel_rfl, ?y3⟩, fun _ => rfl⟩ HSS.out (fun hcl => ?_)
              case y3 =>
                rintro q ⟨c1, c2, c3, c4⟩
                go_simp
              refine anyS_take (i := 4) (v := .bool true) hw (by decide) hcl (noDefer_none rfl) rfl (by kernel_rfl) (by kernel_rfl) (by kernel_rfl) (fun _ _ _ h => h) ⟨Or.inl ⟨by kernel_rfl, ?y4⟩, fun _ => rfl⟩ HSS.out (fun hcl => ?_)
              case y4 =>
                rintro q ⟨c1, c2, c3, c4⟩
                go_simp
              refine anyS_take (i := 5) (v := .bool true) hw (by decide) hcl (noDefer_none rfl) rfl (by kernel_rfl) (by kernel_rfl) (by kernel_rfl) (fun _ _ _ h => h) ⟨Or.inl ⟨by kernel_rfl, ?y5⟩, fun _ => rfl⟩ HSS.out (fun hcl => ?_)
              case y5 =>
                rintro q ⟨c1, c2, c3, c4⟩
                go_simp
              refine anyS_take (i := 6) (v := .slice (some ⟨bw, ow, none⟩) nw cw) hw (by decide) hcl (noDefer_none rfl) rfl (by kernel_rfl) (by kernel_rfl) (by kernel_rfl) (fun _ _ _ h => h) ⟨Or.inl ⟨by kernel_rfl, ?y6⟩, fun _ => rfl⟩ HSS.out (fun hcl => ?_)
              case y6 =>
                rintro q ⟨c1, c2, c3, c4⟩
                go_simp
              refine anyS_take (i := 7) (v := .int .i64 (i : Int)) hw (by decide) hcl (noDefer_none rfl) rfl (by kernel_rfl) (by kernel_rfl) (by kernel_rfl) (fun _ _ _ h => h) ⟨Or.inl ⟨by kernel_rfl, ?y7⟩, fun _ => rfl⟩ HSS.out (fun hcl => ?_)
              case y7 =>
                rintro q ⟨c1, c2, c3, c4⟩
                go_simp
              refine anyS_take (i := 8) (v := .slice (some ⟨rb, ro, none⟩) nu zu) hw (by decide) hcl (noDefer_none rfl) rfl (by kernel_rfl) (by kernel_rfl) (by kernel_rfl) (fun _ _ _ h => h) ⟨Or.inl ⟨by kernel_rfl, ?y8⟩, fun _ => rfl⟩ HSS.out (fun hcl => ?_)
              case y8 =>
                rintro q ⟨c1, c2, c3, c4⟩
                go_simp
              refine anyS_take (i := 9) (v := .int .i64 (n : Int)) hw (by decide) hcl (noDefer_none rfl) rfl (by kernel_rfl) (by kernel_rfl) (by kernel_rfl) (fun _ _ _ h => h) ⟨Or.inl ⟨by kernel_rfl, ?y9⟩, fun _ => rfl⟩ HSS.out (fun hcl => ?_)
              case y9 =>
                rintro q ⟨c1, c2, c3, c4⟩
                go_simp
              refine anyS_take (i := 10) (v := .pointer (some ⟨rb, ro + n * 3, none⟩)) hw (by decide) hcl (noDefer_none rfl) rfl (by kernel_rfl) (by kernel_rfl) (by kernel_rfl) (fun _ _ _ h => h) ⟨Or.inl ⟨by kernel_rfl, ?y10⟩, fun _ => rfl⟩ HSS.out (fun hcl => ?_)
              case y10 =>
                rintro q ⟨c1, c2, c3, c4⟩
                go_simp
              refine anyS_take (i := 11) (v := .pointer (some ⟨rb, ro + n * 3 + 2, none⟩)) hw (by decide) hcl (noDefer_none rfl) rfl (by kernel_rfl) (by kernel_rfl) (by kernel_rfl) (fun _ _ _ h => h) ⟨Or.inl ⟨by kernel_rfl, ?y11⟩, fun _ => rfl⟩ HSS.out (fun hcl => ?_)
              case y11 =>
                rintro q ⟨c1, c2, c3, c4⟩
                go_simp
              refine anyS_take (i := 12) (v := .slice (some ⟨qb, qo, none⟩) m qc) hw (by decide) hcl (noDefer_none rfl) rfl (by kernel_rfl) (by kernel_rfl) (by kernel_rfl) (fun _ _ _ h => h) ⟨Or.inl ⟨by kernel_rfl, ?y12⟩, fun _ => rfl⟩ HSS.out (fun hcl => ?_)
              case y12 =>
                rintro q ⟨c1, c2, c3, c4⟩
                go_simp
              refine anyS_take (i := 13) (v := .int .i64 (m : Int)) hw (by decide) hcl (noDefer_none rfl) rfl (by kernel_rfl) (by kernel_rfl) (by kernel_rfl) (fun _ _ _ h => h) ⟨Or.inl ⟨by kernel_rfl, ?y13⟩, fun _ => rfl⟩ HSS.out (fun hcl => ?_)
              case y13 =>
                rintro q ⟨c1, c2, c3, c4⟩
                go_simp
              refine anyS_take (i := 14) (v := .int .i64 ((m - 1 : Nat) : Int)) hw (by decide) hcl (noDefer_none rfl) rfl (by kernel_rfl) (by kernel_rfl) (by kernel_rfl) (fun _ _ _ h => h) ⟨Or.inl ⟨by kernel_rfl, ?y14⟩, fun _ => rfl⟩ HSS.out (fun hcl => ?_)
              case y14 =>
                rintro q ⟨c1, c2, c3, c4⟩
                go_simp
                exact Go.IntWalk.i64_in _ ⟨by omega, by omega⟩
              refine anyS_take (i := 15) (v := .slice (some ⟨qb, qo, none⟩) (m - 1) qc) hw (by decide) hcl (noDefer_none rfl) rfl (by kernel_rfl) (by kernel_rfl) (by kernel_rfl) (fun _ _ _ h => h) ⟨Or.inl ⟨by kernel_rfl, ?y15⟩, fun _ => rfl⟩ HSS.out (fun hcl => ?_)
              case y15 =>
                rintro q ⟨c1, c2, c3, c4⟩
                go_simp
              refine anyS_act (a' := ⟨#[Value.agg #[v0, Value.slice (some { block := eb, off := eo }) y1 z1, v2, v3], Value.slice (some { block := rb, off := ro }) nu zu, Value.slice (some { block := bw, off := ow }) nw cw, Value.int IntKind.i64 ↑i, Value.pointer (some { block := Array.size (World.heap w), off := 0 }), undef, undef, undef, u8, Value.int IntKind.i64 ↑nu, Value.int IntKind.i64 ↑n, Value.int IntKind.i64 ↑m, Value.slice (some { block := bw, off := ow }) nw cw, Value.int IntKind.i64 ↑i, Value.pointer (some { block := bw, off := ow + i }), Value.int IntKind.i64 ↑y, Value.bool false, Value.bool false, Value.slice (some { block := bw, off := ow }) nw cw, Value.int IntKind.i64 ↑i, Value.pointer (some { block := bw, off := ow + i }), Value.int IntKind.i64 ↑y, Value.pointer (some { block := Array.size (World.heap w), off := 1 }), Value.slice (some { block := eb, off := eo }) y1 z1, Value.int IntKind.i64 ↑y1, Value.bool false, Value.bool false, Value.int IntKind.i64 ↑i, Value.bool true, Value.bool true, Value.pointer (some { block := Array.size (World.heap w), off := 1 }), Value.slice (some { block := eb, off := eo }) y1 z1, Value.slice (some { block := bw, off := ow }) nw cw, Value.int IntKind.i64 ↑i, Value.int IntKind.i64 ↑(i - 1), Value.pointer (some { block := bw, off := ow + (i - 1) }), Value.int IntKind.i64 ↑x, Value.pointer (some { block := eb, off := eo + x * 7 }), Value.pointer (some { block := eb, off := eo + x * 7 + 1 }), Value.int IntKind.i64 hd, Value.pointer (some { block := Array.size (World.heap w), off := 1 }), Value.slice (some { block := eb, off := eo }) y1 z1, Value.slice (some { block := bw, off := ow }) nw cw, Value.int IntKind.i64 ↑i, Value.pointer (some { block := bw, off := ow + i }), Value.int IntKind.i64 ↑y, Value.pointer (some { block := eb, off := eo + y * 7 }), Value.pointer (some { block := eb, off := eo + y * 7 }), Value.int IntKind.i64 hd, Value.bool false, Value.bool false, Value.int IntKind.i64 ↑nu, Value.slice (some { block := rb, off := ro }) nu zu, Value.int IntKind.i64 ↑nu, Value.bool false, u55, u56, u57, u58, u59, u60, u61, u62, u63, u64, u65, u66, u67, u68, u69, u70, u71, u72, u73, Value.int IntKind.i64 ↑n, Value.slice (some { block := rb, off := ro }) nu zu, Value.int IntKind.i64 ↑nu, Value.bool true, u78, u79, Value.slice (some { block := rb, off := ro }) nu zu, Value.int IntKind.i64 ↑n, Value.pointer (some { block := rb, off := ro + n * 3 }), Value.pointer (some { block := rb, off := ro + n * 3 + 2 }), Value.slice (some { block := qb, off := qo }) m qc, Value.int IntKind.i64 ↑m, .slice (some ⟨rb, ro, none⟩) nu zu, .int .i64 (n : Int), .pointer (some ⟨rb, ro + n * 3, none⟩), .pointer (some ⟨rb, ro + n * 3 + 1, none⟩), .bool true, .bool true, .slice (some ⟨bw, ow, none⟩) nw cw, .int .i64 (i : Int), .slice (some ⟨rb, ro, none⟩) nu zu, .int .i64 (n : Int), .pointer (some ⟨rb, ro + n * 3, none⟩), .pointer (some ⟨rb, ro + n * 3 + 2, none⟩), .slice (some ⟨qb, qo, none⟩) m qc, .int .i64 (m : Int), .int .i64 ((m - 1 : Nat) : Int), .slice (some ⟨qb, qo, none⟩) (m - 1) qc, u102, u103, u104, u105, u106, u107, u108, u109, u110, u111, u112, u113, u114, u115, u116, u117, u118, u119], []⟩) (by kernel_rfl) ?_
              refine anyS_do2 (i := 16) (by kernel_rfl) rfl (by kernel_rfl) hcl (fun hcl K hK => ?_)
              go_simp
              refine ⟨trivial, (callsIn_wide.2 (l2Suffix_any B1 0 _ _ walk ((ruat rules n).seq.take (m - 1)) i _ (HW.out.next (HX.out.trans HDR.out)) (HU.out.next HDR.out) (Nat.le_of_lt HIW.out))).mono ?_⟩
              rintro e w7 ⟨rfl, hx7⟩
              rw [HSB.out]
              have HX7 : Hid (Nx w w7) := HX.out.trans (HDR.out.trans hx7)
              have HS2 : Hid ((fun q => q.cell? ⟨rb, ro + n * 3 + 1, none⟩ = some (.bool true) ∧ q.cell? ⟨rb, ro + n * 3 + 2, none⟩ = some (.slice (some ⟨qb, qo, none⟩) m qc) ∧ q.cell? ⟨bw, ow + i, none⟩ = some (.int .i64 (y : Int)) ∧ q.cell? ⟨qb, qo + (m - 1), none⟩ = some (.int .i64 z)) w7) := by
                obtain ⟨c1, c2, c3, c4⟩ := HSS.out
                exact ⟨cellq hx7 c1, cellq hx7 c2, cellq hx7 c3, cellq hx7 c4⟩
              refine hK _ _ ⟨Or.inr HS2.out, ?_⟩
              clear hK K hx7
              refine anyS_take (i := 17) (v := .bool true) hw (by decide) hcl (noDefer_none rfl) rfl (by kernel_rfl) (by kernel_rfl) (by kernel_rfl) (fun _ _ _ h => h) ⟨Or.inl ⟨by kernel_rfl, ?y17⟩, fun _ => rfl⟩ HS2.out (fun hcl => ?_)
              case y17 =>
                rintro q ⟨c1, c2, c3, c4⟩
                kernel_rfl
              refine anyS_take (i := 18) (v := .bool true) hw (by decide) hcl (noDefer_none rfl) rfl (by kernel_rfl) (by kernel_rfl) (by kernel_rfl) (fun _ _ _ h => h) ⟨Or.inl ⟨by kernel_rfl, ?y18⟩, fun _ => rfl⟩ HS2.out (fun hcl => ?_)
              case y18 =>
                rintro q ⟨c1, c2, c3, c4⟩
                go_simp
              refine anyS_take (i := 19) (v := .slice (some ⟨bw, ow, none⟩) nw cw) hw (by decide) hcl (noDefer_none rfl) rfl (by kernel_rfl) (by kernel_rfl) (by kernel_rfl) (fun _ _ _ h => h) ⟨Or.inl ⟨by kernel_rfl, ?y19⟩, fun _ => rfl⟩ HS2.out (fun hcl => ?_)
              case y19 =>
                rintro q ⟨c1, c2, c3, c4⟩
                go_simp
              refine anyS_take (i := 20) (v := .int .i64 (i : Int)) hw (by decide) hcl (noDefer_none rfl) rfl (by kernel_rfl) (by kernel_rfl) (by kernel_rfl) (fun _ _ _ h => h) ⟨Or.inl ⟨by kernel_rfl, ?y20⟩, fun _ => rfl⟩ HS2.out (fun hcl => ?_)
              case y20 =>
                rintro q ⟨c1, c2, c3, c4⟩
                go_simp
              refine anyS_take (i := 21) (v := .pointer (some ⟨bw, ow + i, none⟩)) hw (by decide) hcl (noDefer_none rfl) rfl (by kernel_rfl) (by kernel_rfl) (by kernel_rfl) (fun _ _ _ h => h) ⟨Or.inl ⟨by kernel_rfl, ?y21⟩, fun _ => rfl⟩ HS2.out (fun hcl => ?_)
              case y21 =>
                rintro q ⟨c1, c2, c3, c4⟩
                go_simp
              refine anyS_take (i := 22) (v := .int .i64 (y : Int)) hw (by decide) hcl (noDefer_none rfl) rfl (by kernel_rfl) (by kernel_rfl) (by kernel_rfl) (fun _ _ _ h => h) ⟨Or.inl ⟨by kernel_rfl, ?y22⟩, fun _ => rfl⟩ HS2.out (fun hcl => ?_)
              case y22 =>
                rintro q ⟨c1, c2, c3, c4⟩
                go_simp
              refine anyS_take (i := 23) (v := .slice (some ⟨rb, ro, none⟩) nu zu) hw (by decide) hcl (noDefer_none rfl) rfl (by kernel_rfl) (by kernel_rfl) (by kernel_rfl) (fun _ _ _ h => h) ⟨Or.inl ⟨by kernel_rfl, ?y23⟩, fun _ => rfl⟩ HS2.out (fun hcl => ?_)
              case y23 =>
                rintro q ⟨c1, c2, c3, c4⟩
                go_simp
              refine anyS_take (i := 24) (v := .int .i64 (n : Int)) hw (by decide) hcl (noDefer_none rfl) rfl (by kernel_rfl) (by kernel_rfl) (by kernel_rfl) (fun _ _ _ h => h) ⟨Or.inl ⟨by kernel_rfl, ?y24⟩, fun _ => rfl⟩ HS2.out (fun hcl => ?_)
              case y24 =>
                rintro q ⟨c1, c2, c3, c4⟩
                go_simp
              refine anyS_take (i := 25) (v := .pointer (some ⟨rb, ro + n * 3, none⟩)) hw (by decide) hcl (noDefer_none rfl) rfl (by kernel_rfl) (by kernel_rfl) (by kernel_rfl) (fun _ _ _ h => h) ⟨Or.inl ⟨by kernel_rfl, ?y25⟩, fun _ => rfl⟩ HS2.out (fun hcl => ?_)
              case y25 =>
                rintro q ⟨c1, c2, c3, c4⟩
                go_simp
              refine anyS_take (i := 26) (v := .pointer (some ⟨rb, ro + n * 3 + 2, none⟩)) hw (by decide) hcl (noDefer_none rfl) rfl (by kernel_rfl) (by kernel_rfl) (by kernel_rfl) (fun _ _ _ h => h) ⟨Or.inl ⟨by kernel_rfl, ?y26⟩, fun _ => rfl⟩ HS2.out (fun hcl => ?_)
              case y26 =>
                rintro q ⟨c1, c2, c3, c4⟩
                go_simp
              refine anyS_take (i := 27) (v := .slice (some ⟨qb, qo, none⟩) m qc) hw (by decide) hcl (noDefer_none rfl) rfl (by kernel_rfl) (by kernel_rfl) (by kernel_rfl) (fun _ _ _ h => h) ⟨Or.inl ⟨by kernel_rfl, ?y27⟩, fun _ => rfl⟩ HS2.out (fun hcl => ?_)
              case y27 =>
                rintro q ⟨c1, c2, c3, c4⟩
                go_simp
              refine anyS_take (i := 28) (v := .int .i64 (m : Int)) hw (by decide) hcl (noDefer_none rfl) rfl (by kernel_rfl) (by kernel_rfl) (by kernel_rfl) (fun _ _ _ h => h) ⟨Or.inl ⟨by kernel_rfl, ?y28⟩, fun _ => rfl⟩ HS2.out (fun hcl => ?_)
              case y28 =>
                rintro q ⟨c1, c2, c3, c4⟩
                go_simp
              refine anyS_take (i := 29) (v := .int .i64 ((m - 1 : Nat) : Int)) hw (by decide) hcl (noDefer_none rfl) rfl (by kernel_rfl) (by kernel_rfl) (by kernel_rfl) (fun _ _ _ h => h) ⟨Or.inl ⟨by kernel_rfl, ?y29⟩, fun _ => rfl⟩ HS2.out (fun hcl => ?_)
              case y29 =>
                rintro q ⟨c1, c2, c3, c4⟩
                go_simp
                exact Go.IntWalk.i64_in _ ⟨by omega, by omega⟩
              refine anyS_take (i := 30) (v := .pointer (some ⟨qb, qo + (m - 1), none⟩)) hw (by decide) hcl (noDefer_none rfl) rfl (by kernel_rfl) (by kernel_rfl) (by kernel_rfl) (fun _ _ _ h => h) ⟨Or.inl ⟨by kernel_rfl, ?y30⟩, fun _ => rfl⟩ HS2.out (fun hcl => ?_)
              case y30 =>
                rintro q ⟨c1, c2, c3, c4⟩
                go_simp
              refine anyS_take (i := 31) (v := .int .i64 z) hw (by decide) hcl (noDefer_none rfl) rfl (by kernel_rfl) (by kernel_rfl) (by kernel_rfl) (fun _ _ _ h => h) ⟨Or.inl ⟨by kernel_rfl, ?y31⟩, fun _ => rfl⟩ HS2.out (fun hcl => ?_)
              case y31 =>
                rintro q ⟨c1, c2, c3, c4⟩
                go_simp
              refine anyS_take (i := 32) (v := .bool true) hw (by decide) hcl (noDefer_none rfl) rfl (by kernel_rfl) (by kernel_rfl) (by kernel_rfl) (fun _ _ _ h => h) ⟨Or.inl ⟨by kernel_rfl, ?y32⟩, fun _ => rfl⟩ HS2.out (fun hcl => ?_)
              case y32 =>
                rintro q ⟨c1, c2, c3, c4⟩
                go_simp
                all_goals (first | exact HNZ.out | simpa using HNZ.out)
              refine anyS_take (i := 33) (v := .bool true) hw (by decide) hcl (noDefer_none rfl) rfl (by kernel_rfl) (by kernel_rfl) (by kernel_rfl) (fun _ _ _ h => h) ⟨Or.inl ⟨by kernel_rfl, ?y33⟩, fun _ => rfl⟩ HS2.out (fun hcl => ?_)
              case y33 =>
                rintro q ⟨c1, c2, c3, c4⟩
                kernel_rfl
              refine anyS_act (a' := ⟨#[Value.agg #[v0, Value.slice (some { block := eb, off := eo }) y1 z1, v2, v3], Value.slice (some { block := rb, off := ro }) nu zu, Value.slice (some { block := bw, off := ow }) nw cw, Value.int IntKind.i64 ↑i, Value.pointer (some { block := Array.size (World.heap w), off := 0 }), undef, undef, undef, u8, Value.int IntKind.i64 ↑nu, Value.int IntKind.i64 ↑n, Value.int IntKind.i64 ↑m, Value.slice (some { block := bw, off := ow }) nw cw, Value.int IntKind.i64 ↑i, Value.pointer (some { block := bw, off := ow + i }), Value.int IntKind.i64 ↑y, Value.bool false, Value.bool false, Value.slice (some { block := bw, off := ow }) nw cw, Value.int IntKind.i64 ↑i, Value.pointer (some { block := bw, off := ow + i }), Value.int IntKind.i64 ↑y, Value.pointer (some { block := Array.size (World.heap w), off := 1 }), Value.slice (some { block := eb, off := eo }) y1 z1, Value.int IntKind.i64 ↑y1, Value.bool false, Value.bool false, Value.int IntKind.i64 ↑i, Value.bool true, Value.bool true, Value.pointer (some { block := Array.size (World.heap w), off := 1 }), Value.slice (some { block := eb, off := eo }) y1 z1, Value.slice (some { block := bw, off := ow }) nw cw, Value.int IntKind.i64 ↑i, Value.int IntKind.i64 ↑(i - 1), Value.pointer (some { block := bw, off := ow + (i - 1) }), Value.int IntKind.i64 ↑x, Value.pointer (some { block := eb, off := eo + x * 7 }), Value.pointer (some { block := eb, off := eo + x * 7 + 1 }), Value.int IntKind.i64 hd, Value.pointer (some { block := Array.size (World.heap w), off := 1 }), Value.slice (some { block := eb, off := eo }) y1 z1, Value.slice (some { block := bw, off := ow }) nw cw, Value.int IntKind.i64 ↑i, Value.pointer (some { block := bw, off := ow + i }), Value.int IntKind.i64 ↑y, Value.pointer (some { block := eb, off := eo + y * 7 }), Value.pointer (some { block := eb, off := eo + y * 7 }), Value.int IntKind.i64 hd, Value.bool false, Value.bool false, Value.int IntKind.i64 ↑nu, Value.slice (some { block := rb, off := ro }) nu zu, Value.int IntKind.i64 ↑nu, Value.bool false, u55, u56, u57, u58, u59, u60, u61, u62, u63, u64, u65, u66, u67, u68, u69, u70, u71, u72, u73, Value.int IntKind.i64 ↑n, Value.slice (some { block := rb, off := ro }) nu zu, Value.int IntKind.i64 ↑nu, Value.bool true, u78, u79, Value.slice (some { block := rb, off := ro }) nu zu, Value.int IntKind.i64 ↑n, Value.pointer (some { block := rb, off := ro + n * 3 }), Value.pointer (some { block := rb, off := ro + n * 3 + 2 }), Value.slice (some { block := qb, off := qo }) m qc, Value.int IntKind.i64 ↑m, .slice (some ⟨rb, ro, none⟩) nu zu, .int .i64 (n : Int), .pointer (some ⟨rb, ro + n * 3, none⟩), .pointer (some ⟨rb, ro + n * 3 + 1, none⟩), .bool true, .bool true, .slice (some ⟨bw, ow, none⟩) nw cw, .int .i64 (i : Int), .slice (some ⟨rb, ro, none⟩) nu zu, .int .i64 (n : Int), .pointer (some ⟨rb, ro + n * 3, none⟩), .pointer (some ⟨rb, ro + n * 3 + 2, none⟩), .slice (some ⟨qb, qo, none⟩) m qc, .int .i64 (m : Int), .int .i64 ((m - 1 : Nat) : Int), .slice (some ⟨qb, qo, none⟩) (m - 1) qc, .bool true, .bool true, .bool true, .slice (some ⟨bw, ow, none⟩) nw cw, .int .i64 (i : Int), .pointer (some ⟨bw, ow + i, none⟩), .int .i64 (y : Int), .slice (some ⟨rb, ro, none⟩) nu zu, .int .i64 (n : Int), .pointer (some ⟨rb, ro + n * 3, none⟩), .pointer (some ⟨rb, ro + n * 3 + 2, none⟩), .slice (some ⟨qb, qo, none⟩) m qc, .int .i64 (m : Int), .int .i64 ((m - 1 : Nat) : Int), .pointer (some ⟨qb, qo + (m - 1), none⟩), .int .i64 z, .bool true, .bool true], []⟩) (by kernel_rfl) ?_
              refine anyS_done (by kernel_rfl) ?_ _
              clear hw hcl
              go_wp2
              go_ret
              exact ⟨by rw [HF.out]; rfl, HX7.out⟩
      have HNM : Hid (rules.any (mustB walk i) = false) := any_none (d := ⟨0, false, []⟩) HAT.out (fun m h => HB.out m (by rw [HNU.out] at h; omega))
      have HF : Hid (reasonJ R.edges rules walk i = 0) := by unfold Hid; rw [HR6.out, HNM.out]; rfl
      go_wp2
      go_ret
      exact ⟨by rw [HF.out]; rfl, HX.out⟩
    · have HF : Hid (reasonJ R.edges rules walk i = 4) := by unfold Hid; rw [HR4.out, if_pos hne]
      have g5 : (hd != tl) = true := by simpa using hne
      go_quiet (fail)
      go_wp2
      go_ret
      exact ⟨by rw [HF.out]; rfl, HXQ.out.trans (nx_drewN _ _)⟩
end Go.Proofs.YtcdjmpbdaiafgaaGreatDoor
