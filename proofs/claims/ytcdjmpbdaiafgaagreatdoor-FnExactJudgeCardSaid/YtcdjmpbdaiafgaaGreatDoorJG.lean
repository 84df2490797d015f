import Derived.Test.YtcdjmpbdaiafgaaGreatDoorJE
namespace Go.Proofs.YtcdjmpbdaiafgaaGreatDoor
open Go.RowKit Go.Sort
set_option linter.unusedVariables false
set_option maxRecDepth 100000

theorem cost_in {N : Nt} (hv : implValid N = true) : CostIn N (E1 N) := by
  have h := hv
  simp only [implValid, counts, Bool.and_eq_true, decide_eq_true_eq] at h
  obtain ⟨⟨c0, c1, ed, c2, c3⟩, hu, ⟨ha, hn⟩, ⟨hw, _⟩, ⟨hr, _⟩, ht, _⟩ := h
  have hin : ∀ {v : Int}, inB v = true → 0 ≤ v ∧ v ≤ 1048576 := fun h => by simpa [inB] using h
  have hwt : ∀ i j, i < N.ways.length → j < (wat N.ways i).weights.length → 0 ≤ iat (wat N.ways i).weights j ∧ iat (wat N.ways i).weights j ≤ 1048576 := fun i j hi hj => by
    have := allN_at hw hi
    simp only [wayGood, Bool.and_eq_true] at this
    exact hin (allN_at this.1.2 hj)
  have hpl : ∀ e, e < (E1 N).length → ∃ i j : Nat, i < N.ways.length ∧ j < (wat N.ways i).weights.length ∧ (eat (E1 N) e).way = i ∧ (eat (E1 N) e).weight = iat (wat N.ways i).weights j := fun e he => by
    rw [E1_len] at he
    obtain ⟨i, j, q, hi, hj, hq, he1⟩ := lay_of N.ways.length he
    obtain ⟨_, a1⟩ := at_place hi hj hq
    rw [← he1] at a1
    refine ⟨i, j, hi, hj, ?_, ?_⟩
    · rw [a1]; split
      · rfl
      · split <;> rfl
    · rw [a1]; split
      · rfl
      · split <;> rfl
  refine ⟨fun e he => ?_, fun i hi => ?_, c3, hin hu, fun e he => ?_⟩
  · obtain ⟨i, j, hi, _, h1, _⟩ := hpl e he
    exact ⟨i, hi, h1⟩
  · have := allN_at ht hi
    simp only [turnGood, Bool.and_eq_true] at this
    exact hin this.2.2
  · obtain ⟨i, j, hi, hj, _, h2⟩ := hpl e he
    rw [h2]
    exact hwt i j hi hj
theorem growL_mem {es : List Eg} {ls ps : List (List Nat)} {x : List Nat} (h : x ∈ growL es ls ps) : ∃ l ∈ ls, ∃ p ∈ ps, x = l ++ p := by
  unfold growL at h
  obtain ⟨l, hl, h⟩ := List.mem_flatMap.1 h
  obtain ⟨p, hp, rfl⟩ := List.mem_map.1 h
  exact ⟨l, hl, p, (List.mem_filter.1 hp).1, rfl⟩
theorem sing_one {l : List Nat} {x : List Nat} (h : x ∈ sing l) : x.length = 1 := by
  obtain ⟨e, _, rfl⟩ := List.mem_map.1 h
  rfl
theorem growAll_len {es : List Eg} : ∀ (ts : List (List (List Nat))) {ls : List (List Nat)}, (∀ x ∈ ls, 1 ≤ x.length) → ∀ x ∈ growAll es ls ts, 1 ≤ x.length
  | [], _, h => h
  | t :: ts, ls, h => growAll_len ts (ls := growL es ls t) fun x hx => by
    obtain ⟨l, hl, p, _, rfl⟩ := growL_mem hx
    have := h l hl
    simp; omega
theorem chains_two {N : Nt} {nodes : List Int} {es : List Eg} {r : Rl} : ∀ x ∈ chainsR N nodes es r, 2 ≤ x.length := by
  intro x hx
  unfold chainsR at hx
  split at hx
  · obtain ⟨l, hl, p, hp, rfl⟩ := growL_mem hx
    have := sing_one hl
    have := sing_one hp
    simp; omega
  · obtain ⟨l, hl, p, hp, rfl⟩ := growL_mem hx
    have := growAll_len _ (fun x hx => by rw [sing_one hx]; exact Nat.le_refl _) l hl
    have := sing_one hp
    simp; omega
theorem res_two {N : Nt} {nodes : List Int} {es : List Eg} {rels : List Rl} : ∀ k, ∀ x ∈ (resTo (fun r => chainsR N nodes es r) rels k).rules, 2 ≤ x.seq.length
  | 0, x, hx => by simp [resTo] at hx
  | k + 1, x, hx => by
    have hx' : x ∈ (resStep (resTo (fun r => chainsR N nodes es r) rels k) (rat rels k) (chainsR N nodes es (rat rels k))).rules := hx
    unfold resStep at hx'
    split at hx'
    · rename_i hr
      rcases List.mem_append.1 hx' with g | g
      · exact res_two k x g
      · have hone : (chainsR N nodes es (rat rels k)).length = 1 := by
          unfold reason at hr
          split at hr
          · omega
          · split at hr
            · omega
            · omega
        have := List.mem_singleton.1 g
        rw [this]
        show 2 ≤ (nums _).length
        rw [nums_len]
        exact chains_two _ (lsat_one hone)
    · exact res_two k x hx'
theorem resOf_two (N : Nt) : ∀ i, i < (resOf N).rules.length → 2 ≤ (ruat (resOf N).rules i).seq.length := fun i hi => by
  rw [ruat_eq hi]
  have hm : (resOf N).rules[i] ∈ (resOf N).rules := List.getElem_mem hi
  revert hm
  generalize (resOf N).rules[i] = x
  unfold resOf
  split
  · exact fun h => res_two _ x h
  · exact fun h => absurd h (by simp)

/-- a verdict -/
structure Vd where
  code : Int
  at_ : Int
  cost : Int
/-- the verdict on a walk of a good network: from edge i on, k edges left -/
def jdg (N : Nt) (es : List Eg) (rules : List Ru) (walk : List Int) : Nat → Nat → Vd
  | 0, i => ⟨0, i, costTo N es walk i⟩
  | k + 1, i => if reasonJ es rules walk i = 0 then jdg N es rules walk k (i + 1) else ⟨reasonJ es rules walk i, i, costTo N es walk i⟩
def judgeY (N : Nt) (walk : List Int) : Vd :=
  if implValid N then (if walk.length = 0 ∨ 10000 < walk.length then ⟨2, 0, 0⟩ else jdg N (E1 N) (resOf N).rules walk walk.length 0) else ⟨1, 0, 0⟩
/-- a reason 0 tells that the edge is one of the road's -/
theorem reason_in {es : List Eg} {rules : List Ru} {walk : List Int} {i : Nat} (h : reasonJ es rules walk i = 0) : 0 ≤ iat walk i ∧ iat walk i < es.length := by
  unfold reasonJ at h
  split at h
  · omega
  · omega
theorem jdg_step {N : Nt} {es : List Eg} {rules : List Ru} {walk : List Int} {i : Nat} (hi : i < walk.length) (h : reasonJ es rules walk i = 0) : jdg N es rules walk (walk.length - i) i = jdg N es rules walk (walk.length - (i + 1)) (i + 1) := by
  rw [show walk.length - i = (walk.length - (i + 1)) + 1 by omega]
  show (if _ then _ else _) = _
  rw [if_pos h]
theorem jdg_stop {N : Nt} {es : List Eg} {rules : List Ru} {walk : List Int} {i : Nat} (hi : i < walk.length) (h : reasonJ es rules walk i ≠ 0) : jdg N es rules walk (walk.length - i) i = ⟨reasonJ es rules walk i, i, costTo N es walk i⟩ := by
  rw [show walk.length - i = (walk.length - (i + 1)) + 1 by omega]
  show (if _ then _ else _) = _
  rw [if_neg h]
theorem jdg_end {N : Nt} {es : List Eg} {rules : List Ru} {walk : List Int} : jdg N es rules walk (walk.length - walk.length) walk.length = ⟨0, walk.length, costTo N es walk walk.length⟩ := by
  rw [Nat.sub_self]
  rfl
/-- owned rules are held, with room -/
theorem OwnR.held {C D : Nat} {w : World} {v : Value} {xs : List Ru} (h : OwnR C D w v xs) (hm : xs.length ≤ maxLen) : HRuC w v xs := by
  have h' := h
  obtain ⟨vs, h0, h1, h2⟩ := h
  rcases h1.2 with ⟨rfl, e⟩ | ⟨g, cap, cur, rfl, hg, hh, _⟩
  · exact ⟨none, 0, by rw [e], hm, fun hp => by omega⟩
  · refine ⟨_, _, rfl, hm, fun hp => ⟨g, 0, rfl, Nat.zero_le _, (Array.getElem?_eq_some_iff.1 hh).1, fun i hi => ?_⟩⟩
    obtain ⟨g', u, e, c0, c1, c2, hu⟩ := h'.at hi
    simp only [Option.some.injEq, Addr.mk.injEq] at e
    obtain ⟨rfl, _⟩ := e
    rw [Nat.zero_add]
    exact ⟨u, c0, c1, c2, (OwnI.base hu (Nat.zero_le _)).held, hu.capOk⟩
end Go.Proofs.YtcdjmpbdaiafgaaGreatDoor
namespace Go.Proofs.YtcdjmpbdaiafgaaGreatDoor
open Go.RowKit Go.Sort
set_option linter.unusedVariables false
set_option maxRecDepth 100000

theorem field_res (a d : Option Addr) (b c e f : Nat) (w : World) : (Instr.field 32 (.agg #[.slice a b c, .slice d e f]) 0).run Tryz.prog w = .ok (.slice a b c) w := by kernel_rfl
attribute [local go_sem] field_res
set_option maxHeartbeats 8000000 in
theorem specJudge_any (B0 B1 : Nat) (v0 v1 v2 v3 : Value) (N : Nt) (vw : Value) (walk : List Int) (w : World) (h0 : HNet B0 w v0 v1 v2 v3 N) (hs : wsum N.ways N.ways.length ≤ 1048576) (hW : HInts B1 w vw walk) :
    Calls Tryz.prog 14 #[.agg #[v0, v1, v2, v3, .int .i64 N.uturn], vw] w fun e w' => e = .returned (.agg #[.int .i64 (judgeY N walk).code, .int .i64 (judgeY N walk).at_, .int .i64 (judgeY N walk).cost]) ∧ Nx w w' := by
  have HS : Hid (wsum N.ways N.ways.length ≤ 1048576) := hs
  have HI : Hid (HNet B0 w v0 v1 v2 v3 N) := h0
  have HW : Hid (HInts B1 w vw walk) := hW
  obtain ⟨a0, q0, e0, jm, jk⟩ := h0.1
  clear jm jk
  obtain ⟨a1, q1, e1, jm, jk⟩ := h0.2.1
  clear jm jk
  obtain ⟨a2, q2, e2, jm, jk⟩ := h0.2.2.1
  clear jm jk
  obtain ⟨a3, q3, e3, jm, jk⟩ := h0.2.2.2
  clear jm jk
  obtain ⟨wa, cw, e4, mw, kw⟩ := hW
  unfold maxLen at mw
  generalize N.nodes.length = l0 at e0
  generalize N.ways.length = l1 at e1
  generalize N.rels.length = l2 at e2
  generalize N.turns.length = l3 at e3
  generalize hnw : walk.length = nw at e4 mw
  have HNW : Hid (walk.length = nw) := hnw
  subst e0 e1 e2 e3 e4
  clear hs h0 hnw kw
  generalize hWA : (w.alloc (.cells #[.slice a0 l0 q0, .slice a1 l1 q1, .slice a2 l2 q2, .slice a3 l3 q3, .int .i64 N.uturn] 38)).alloc (.cells #[.int .i64 0, .int .i64 0, .int .i64 0] 46) = wA
  have HXA : Hid (Nx w wA) := by unfold Hid; rw [← hWA]; exact box2 _ _ _
  have BG : Hid (Blk wA w.heap.size #[.slice a0 l0 q0, .slice a1 l1 q1, .slice a2 l2 q2, .slice a3 l3 q3, .int .i64 N.uturn]) := by unfold Hid; rw [← hWA]; exact (Blk.new w _ _ _ rfl).alloc _
  have BZ : Hid (Blk wA (w.heap.size + 1) #[.int .i64 0, .int .i64 0, .int .i64 0]) := by unfold Hid; rw [← hWA]; exact Blk.new _ _ _ _ (by rw [size_alloc'])
  have HSA : Hid (wA.heap.size = w.heap.size + 2) := by unfold Hid; rw [← hWA, size_alloc', size_alloc']
  go_enter Tryz.func14, Tryz.ntmps14
  go_upto_region 1 with fail
  try rw [hWA]
  clear hWA
  have k0 := BG.out.cell (i := 0) rfl
  have k1 := BG.out.cell (i := 1) rfl
  have k2 := BG.out.cell (i := 2) rfl
  have k3 := BG.out.cell (i := 3) rfl
  have k4 := BG.out.cell (i := 4) rfl
  go_wp2_with fail
  refine (specValid_any B0 _ _ _ _ N _ (by exact HI.out.next HXA.out) HS.out).mono ?_
  rintro e w1 ⟨rfl, hx⟩
  rw [specValid_same]
  have HXA1 : Hid (Nx wA w1) := hx
  have HX1 : Hid (Nx w w1) := HXA.out.trans hx
  have BG1 : Hid (Blk w1 w.heap.size #[.slice a0 l0 q0, .slice a1 l1 q1, .slice a2 l2 q2, .slice a3 l3 q3, .int .i64 N.uturn]) := BG.out.next hx
  have BZ1 : Hid (Blk w1 (w.heap.size + 1) #[.int .i64 0, .int .i64 0, .int .i64 0]) := BZ.out.next hx
  clear hx k0 k1 k2 k3 k4
  cases hv : implValid N
  case false =>
    have HF : Hid (judgeY N walk = ⟨1, 0, 0⟩) := by unfold Hid judgeY; rw [hv]; rfl
    clear hv
    have y0 := BZ1.out.cell (i := 0) rfl
    have y1 := BZ1.out.cell (i := 1) rfl
    have y2 := BZ1.out.cell (i := 2) rfl
    have z0 := BZ1.out.frozen 0
    have z1 := BZ1.out.frozen 1
    have z2 := BZ1.out.frozen 2
    go_wp2
    have BR' := ((BZ1.out.set 0 (.int .i64 1)).set 1 (.int .i64 0)).set 2 (.int .i64 0)
    have p0 : _ = some (Value.int .i64 1) := BR'.cell (i := 0) rfl
    have p1 : _ = some (Value.int .i64 0) := BR'.cell (i := 1) rfl
    have p2 : _ = some (Value.int .i64 0) := BR'.cell (i := 2) rfl
    clear y0 y1 y2 BR'
    refine bodyPost_ret (v := .agg #[.int .i64 1, .int .i64 0, .int .i64 0]) (by simp [results, Tryz.results14, go_sem, p0, p1, p2]) rfl ?_
    rw [HF.out]
    exact ⟨rfl, Below.setCell (Below.setCell (Below.setCell HX1.out (Nat.le_succ _) _) (Nat.le_succ _) _) (Nat.le_succ _) _⟩
  by_cases hz : nw = 0 ∨ 10000 < nw
  · have HF : Hid (judgeY N walk = ⟨2, 0, 0⟩) := by unfold Hid judgeY; rw [hv, HNW.out, if_pos rfl, if_pos hz]
    clear hv
    have y0 := BZ1.out.cell (i := 0) rfl
    have y1 := BZ1.out.cell (i := 1) rfl
    have y2 := BZ1.out.cell (i := 2) rfl
    have z0 := BZ1.out.frozen 0
    have z1 := BZ1.out.frozen 1
    have z2 := BZ1.out.frozen 2
    have BR' := ((BZ1.out.set 0 (.int .i64 2)).set 1 (.int .i64 0)).set 2 (.int .i64 0)
    have P0 : Hid (_ = some (Value.int .i64 2)) := BR'.cell (i := 0) rfl
    have P1 : Hid (_ = some (Value.int .i64 0)) := BR'.cell (i := 1) rfl
    have P2 : Hid (_ = some (Value.int .i64 0)) := BR'.cell (i := 2) rfl
    clear BR'
    by_cases hz0 : nw = 0
    · have g1 : ((nw : Int) == 0) = true := by simp; omega
      have g2 : (nw : Int) = 0 := by omega
      clear hz hz0
      go_wp2
      have p0 := P0.out
      have p1 := P1.out
      have p2 := P2.out
      refine bodyPost_ret (v := .agg #[.int .i64 2, .int .i64 0, .int .i64 0]) (by simp [results, Tryz.results14, go_sem, p0, p1, p2]) rfl ?_
      rw [HF.out]
      exact ⟨rfl, Below.setCell (Below.setCell (Below.setCell HX1.out (Nat.le_succ _) _) (Nat.le_succ _) _) (Nat.le_succ _) _⟩
    · have g1 : ((nw : Int) == 0) = false := by simp; omega
      have g2 : (10000 : Int) < nw := by omega
      have g3 : 10000 < nw := by omega
      clear hz
      go_wp2
      have p0 := P0.out
      have p1 := P1.out
      have p2 := P2.out
      refine bodyPost_ret (v := .agg #[.int .i64 2, .int .i64 0, .int .i64 0]) (by simp [results, Tryz.results14, go_sem, p0, p1, p2]) rfl ?_
      rw [HF.out]
      exact ⟨rfl, Below.setCell (Below.setCell (Below.setCell HX1.out (Nat.le_succ _) _) (Nat.le_succ _) _) (Nat.le_succ _) _⟩
  have HF : Hid (judgeY N walk = jdg N (E1 N) (resOf N).rules walk (walk.length - 0) 0) := by unfold Hid judgeY; rw [hv, HNW.out, if_pos rfl, if_neg hz]; rfl
  have HRF : Hid (resOf N = resTo (chOf N (roadY N)) N.rels N.rels.length) := by unfold Hid resOf; rw [hv]; rfl
  have HRO : Hid (roadOf N = roadY N) := by unfold Hid roadOf; rw [hv]; rfl
  have HAL : Hid (AllIn N (roadY N)) := all_in hv
  have HLE : Hid ((roadY N).edges.length ≤ 4000) := E1_le (road_in hv)
  have HCN : Hid (N.rels.length ≤ 1000) := (rels_in hv).cnt
  have HCO : Hid (CostIn N (E1 N)) := cost_in hv
  have g1 : ((nw : Int) == 0) = false := by simp; omega
  have g2 : ¬ (10000 : Int) < nw := by omega
  have g3 : ¬ 10000 < nw := by omega
  have g4 : nw ≠ 0 := by omega
  have k0 := BG1.out.cell (i := 0) rfl
  have k1 := BG1.out.cell (i := 1) rfl
  have k2 := BG1.out.cell (i := 2) rfl
  have k3 := BG1.out.cell (i := 3) rfl
  have k4 := BG1.out.cell (i := 4) rfl
  clear hv hz
  go_wp2_with fail
  refine (specRoad_any B0 _ _ _ _ N _ (by exact HI.out.next HX1.out) HS.out).mono ?_
  rintro e w2 ⟨⟨r0, r1, r2, r3, rfl, hRD⟩, hx2⟩
  rw [HRO.out] at hRD
  have HRD : Hid (HRoad w1.heap.size w2 r0 r1 r2 r3 (roadY N)) := hRD
  have HX2 : Hid (Nx w1 w2) := hx2
  clear k0 k1 k2 k3 k4 hx2
  obtain ⟨s0, t0, e0, _, _⟩ := hRD.1
  obtain ⟨s1, t1, e1, _, _⟩ := hRD.2.1
  obtain ⟨s2, t2, e2, _, _⟩ := hRD.2.2.1
  obtain ⟨s3, t3, e3, _, _⟩ := hRD.2.2.2
  clear hRD
  generalize (roadY N).nodes.length = m0 at e0
  generalize (roadY N).edges.length = m1 at e1
  generalize (roadY N).first.length = m2 at e2
  generalize (roadY N).out.length = m3 at e3
  subst e0 e1 e2 e3
  go_upto_region 6 with fail
  generalize hWB : w2.alloc (.cells #[.slice s0 m0 t0, .slice s1 m1 t1, .slice s2 m2 t2, .slice s3 m3 t3] 60) = wB
  have HX2B : Hid (Nx w2 wB) := by unfold Hid; rw [← hWB]; exact box1 _ _
  have HXB : Hid (Nx w wB) := HX1.out.trans (HX2.out.trans HX2B.out)
  have BRB : Hid (Blk wB w2.heap.size #[.slice s0 m0 t0, .slice s1 m1 t1, .slice s2 m2 t2, .slice s3 m3 t3]) := by unfold Hid; rw [← hWB]; exact Blk.new _ _ _ _ rfl
  have BGB : Hid (Blk wB w.heap.size #[.slice a0 l0 q0, .slice a1 l1 q1, .slice a2 l2 q2, .slice a3 l3 q3, .int .i64 N.uturn]) := BG1.out.next (HX2.out.trans HX2B.out)
  have BZB : Hid (Blk wB (w.heap.size + 1) #[.int .i64 0, .int .i64 0, .int .i64 0]) := BZ1.out.next (HX2.out.trans HX2B.out)
  have HRB : Hid (HRoad w1.heap.size wB (.slice s0 m0 t0) (.slice s1 m1 t1) (.slice s2 m2 t2) (.slice s3 m3 t3) (roadY N)) := HRD.out.next HX2B.out
  clear hWB
  generalize w2.heap.size = bR at *
  have k0 := (BGB.out.next (Nx.refl _)).cell (i := 0) rfl
  have k1 := (BGB.out.next (Nx.refl _)).cell (i := 1) rfl
  have k2 := (BGB.out.next (Nx.refl _)).cell (i := 2) rfl
  have k3 := (BGB.out.next (Nx.refl _)).cell (i := 3) rfl
  have k4 := (BGB.out.next (Nx.refl _)).cell (i := 4) rfl
  have j0 := (BRB.out.next (Nx.refl _)).cell (i := 0) rfl
  have j1 := (BRB.out.next (Nx.refl _)).cell (i := 1) rfl
  have j2 := (BRB.out.next (Nx.refl _)).cell (i := 2) rfl
  have j3 := (BRB.out.next (Nx.refl _)).cell (i := 3) rfl
  go_wp2_with fail
  refine (l2Resolve_any B0 w1.heap.size _ _ _ _ N _ _ _ _ (roadY N) _ (by exact HI.out.next HXB.out) (by exact HRB.out) HLE.out HAL.out HCN.out).mono ?_
  rintro e w3 ⟨⟨vr, vd, rfl, hR3, hD3⟩, hx3⟩
  have HXB3 : Hid (Nx wB w3) := hx3
  have HR3 : Hid (HRuC w3 vr (resOf N).rules) := by
    unfold Hid
    have h := (res_len N).1
    rw [HRF.out] at h ⊢
    exact hR3.held (by unfold maxLen; omega)
  obtain ⟨vs3, jv, jr, jw⟩ := hR3
  obtain ⟨ar, cr, hvr⟩ := row_slice jr
  obtain ⟨ad, cd, hvd⟩ := row_slice hD3
  generalize (resTo (chOf N (roadY N)) N.rels N.rels.length).rules.length = nr at hvr
  generalize (resTo (chOf N (roadY N)) N.rels N.rels.length).drops.length = nd at hvd
  subst hvr hvd
  clear jv jr jw hD3 hx3 vs3
  clear k0 k1 k2 k3 k4 j0 j1 j2 j3
  generalize hRS : (resOf N).rules = rules at *
  have HTW : Hid (∀ j, j < rules.length → 2 ≤ (ruat rules j).seq.length) := by rw [← hRS]; exact resOf_two N
  have HJ0 : Hid (judgeY N walk = jdg N (roadY N).edges rules walk (walk.length - 0) 0) := HF
  clear HF hRS
  go_wp2
  go_loopw [7, 8] (fun i c wr => ∃ n : Nat, n ≤ nw ∧ i = .int .i64 n ∧ Hid (∀ m, m < n → reasonJ (roadY N).edges rules walk m = 0) ∧ Hid (judgeY N walk = jdg N (roadY N).edges rules walk (walk.length - n) n) ∧ Hid (Nx wB wr) ∧ Hid (Nx w3 wr)) (fun i _ _ => nw - (intOf i).toNat)
  case atStart => exact ⟨0, Nat.zero_le _, rfl, fun m h => absurd h (Nat.not_lt_zero _), HJ0, HXB3, Nx.refl _⟩
  obtain ⟨n, hn, rfl, HZ, HJ, HX, HX3R⟩ := hrel
  have HIN : Hid (∀ j, j < n → 0 ≤ iat walk j ∧ iat walk j < (roadY N).edges.length) := fun j hj => reason_in (HZ.out j hj)
  by_cases hlt : n < nw
  · have hlt' : (n : Int) < nw := by omega
    generalize hrc : reasonJ (roadY N).edges rules walk n = rc
    have HRC : Hid (reasonJ (roadY N).edges rules walk n = rc) := hrc
    clear hrc
    have k0 := (BGB.out.next HX.out).cell (i := 0) rfl
    have k1 := (BGB.out.next HX.out).cell (i := 1) rfl
    have k2 := (BGB.out.next HX.out).cell (i := 2) rfl
    have k3 := (BGB.out.next HX.out).cell (i := 3) rfl
    have k4 := (BGB.out.next HX.out).cell (i := 4) rfl
    have j0 := (BRB.out.next HX.out).cell (i := 0) rfl
    have j1 := (BRB.out.next HX.out).cell (i := 1) rfl
    have j2 := (BRB.out.next HX.out).cell (i := 2) rfl
    have j3 := (BRB.out.next HX.out).cell (i := 3) rfl
    go_wp2_with fail
    refine (l2Reason_any w1.heap.size B1 _ _ _ _ (roadY N) _ rules _ walk n _ (by exact HRB.out.next HX.out) (by exact HR3.out.next HX3R.out) (by exact HW.out.next (HXB.out.trans HX.out)) (by rw [HNW.out]; exact hlt) (fun h => HIN.out (n - 1) (by omega)) HTW.out).mono ?_
    rintro e w4 ⟨rfl, hx4⟩
    rw [HRC.out]
    have HX4 : Hid (Nx wB w4) := HX.out.trans hx4
    have HX34 : Hid (Nx w3 w4) := HX3R.out.trans hx4
    clear k0 k1 k2 k3 k4 j0 j1 j2 j3
    clear hx4
    by_cases hr0 : rc = 0
    · subst hr0
      have HJ1 : Hid (judgeY N walk = jdg N (roadY N).edges rules walk (walk.length - (n + 1)) (n + 1)) := by unfold Hid; rw [HJ.out, jdg_step (by rw [HNW.out]; exact hlt) HRC.out]
      go_wp2
      go_roundw
      case rel => exact ⟨n + 1, by omega, by go_num, upto_succ HZ.out HRC.out, HJ1, HX4, HX34⟩
      case measure => simp [intOf]; omega
    · have HST : Hid (judgeY N walk = ⟨rc, n, costTo N (roadY N).edges walk n⟩) := by unfold Hid; rw [HJ.out, jdg_stop (by rw [HNW.out]; exact hlt) (by rw [HRC.out]; exact hr0), HRC.out]
      have d1 : (rc != 0) = true := by simpa using hr0
      have k0 := (BGB.out.next HX4.out).cell (i := 0) rfl
      have k1 := (BGB.out.next HX4.out).cell (i := 1) rfl
      have k2 := (BGB.out.next HX4.out).cell (i := 2) rfl
      have k3 := (BGB.out.next HX4.out).cell (i := 3) rfl
      have k4 := (BGB.out.next HX4.out).cell (i := 4) rfl
      have j0 := (BRB.out.next HX4.out).cell (i := 0) rfl
      have j1 := (BRB.out.next HX4.out).cell (i := 1) rfl
      have j2 := (BRB.out.next HX4.out).cell (i := 2) rfl
      have j3 := (BRB.out.next HX4.out).cell (i := 3) rfl
      go_wp2_with fail
      refine (l2WalkCost_any B0 w1.heap.size B1 _ _ _ _ N _ _ _ _ (roadY N) _ walk n _ (by exact HI.out.next (HXB.out.trans HX4.out)) (by exact HRB.out.next HX4.out) (by exact HW.out.next (HXB.out.trans HX4.out)) HCO.out (by rw [HNW.out]; exact hn) HIN.out (by omega)).mono ?_
      rintro e w5 ⟨rfl, hx5⟩
      have HX45 : Hid (Nx wB w5) := HX4.out.trans hx5
      have HX5 : Hid (Nx w w5) := HXB.out.trans HX45.out
      clear k0 k1 k2 k3 k4 j0 j1 j2 j3
      clear hx5
      generalize costTo N (roadY N).edges walk n = ct at *
      have BZ5 : Hid (Blk w5 (w.heap.size + 1) #[.int .i64 0, .int .i64 0, .int .i64 0]) := BZB.out.next HX45.out
      have y0 := BZ5.out.cell (i := 0) rfl
      have y1 := BZ5.out.cell (i := 1) rfl
      have y2 := BZ5.out.cell (i := 2) rfl
      have z0 := BZ5.out.frozen 0
      have z1 := BZ5.out.frozen 1
      have z2 := BZ5.out.frozen 2
      have BR' := ((BZ5.out.set 0 (.int .i64 rc)).set 1 (.int .i64 n)).set 2 (.int .i64 ct)
      have P0 : Hid (_ = some (Value.int .i64 rc)) := BR'.cell (i := 0) rfl
      have P1 : Hid (_ = some (Value.int .i64 n)) := BR'.cell (i := 1) rfl
      have P2 : Hid (_ = some (Value.int .i64 ct)) := BR'.cell (i := 2) rfl
      clear BR'
      go_wp2
      have p0 := P0.out
      have p1 := P1.out
      have p2 := P2.out
      refine bodyPost_ret (v := .agg #[.int .i64 rc, .int .i64 n, .int .i64 ct]) (by simp [results, Tryz.results14, go_sem, p0, p1, p2]) rfl ?_
      rw [HST.out]
      exact ⟨rfl, Below.setCell (Below.setCell (Below.setCell HX5.out (Nat.le_succ _) _) (Nat.le_succ _) _) (Nat.le_succ _) _⟩
  have hnn : nw = n := by omega
  subst hnn
  have HST : Hid (judgeY N walk = ⟨0, nw, costTo N (roadY N).edges walk nw⟩) := by
    unfold Hid
    rw [HJ.out]
    have h := @jdg_end N (roadY N).edges rules walk
    rw [HNW.out] at h ⊢
    exact h
  have k0 := (BGB.out.next HX.out).cell (i := 0) rfl
  have k1 := (BGB.out.next HX.out).cell (i := 1) rfl
  have k2 := (BGB.out.next HX.out).cell (i := 2) rfl
  have k3 := (BGB.out.next HX.out).cell (i := 3) rfl
  have k4 := (BGB.out.next HX.out).cell (i := 4) rfl
  have j0 := (BRB.out.next HX.out).cell (i := 0) rfl
  have j1 := (BRB.out.next HX.out).cell (i := 1) rfl
  have j2 := (BRB.out.next HX.out).cell (i := 2) rfl
  have j3 := (BRB.out.next HX.out).cell (i := 3) rfl
  go_wp2_with fail
  refine (l2WalkCost_any B0 w1.heap.size B1 _ _ _ _ N _ _ _ _ (roadY N) _ walk nw _ (by exact HI.out.next (HXB.out.trans HX.out)) (by exact HRB.out.next HX.out) (by exact HW.out.next (HXB.out.trans HX.out)) HCO.out (by rw [HNW.out]; exact Nat.le_refl _) HIN.out (by omega)).mono ?_
  rintro e w5 ⟨rfl, hx5⟩
  have HX45 : Hid (Nx wB w5) := HX.out.trans hx5
  have HX5 : Hid (Nx w w5) := HXB.out.trans HX45.out
  clear k0 k1 k2 k3 k4 j0 j1 j2 j3
  clear hx5
  generalize costTo N (roadY N).edges walk nw = ct at *
  have BZ5 : Hid (Blk w5 (w.heap.size + 1) #[.int .i64 0, .int .i64 0, .int .i64 0]) := BZB.out.next HX45.out
  have y0 := BZ5.out.cell (i := 0) rfl
  have y1 := BZ5.out.cell (i := 1) rfl
  have y2 := BZ5.out.cell (i := 2) rfl
  have z0 := BZ5.out.frozen 0
  have z1 := BZ5.out.frozen 1
  have z2 := BZ5.out.frozen 2
  have BR' := ((BZ5.out.set 0 (.int .i64 0)).set 1 (.int .i64 nw)).set 2 (.int .i64 ct)
  have P0 : Hid (_ = some (Value.int .i64 0)) := BR'.cell (i := 0) rfl
  have P1 : Hid (_ = some (Value.int .i64 nw)) := BR'.cell (i := 1) rfl
  have P2 : Hid (_ = some (Value.int .i64 ct)) := BR'.cell (i := 2) rfl
  clear BR'
  go_wp2
  have p0 := P0.out
  have p1 := P1.out
  have p2 := P2.out
  refine bodyPost_ret (v := .agg #[.int .i64 0, .int .i64 nw, .int .i64 ct]) (by simp [results, Tryz.results14, go_sem, p0, p1, p2]) rfl ?_
  rw [HST.out]
  exact ⟨rfl, Below.setCell (Below.setCell (Below.setCell HX5.out (Nat.le_succ _) _) (Nat.le_succ _) _) (Nat.le_succ _) _⟩
end Go.Proofs.YtcdjmpbdaiafgaaGreatDoor
