import Derived.Test.YtcdjmpbdaiafgaaGreatDoorJO
import Derived.Test.YtcdjmpbdaiafgaaGreatDoorJG
namespace Go.Proofs.YtcdjmpbdaiafgaaGreatDoor
open Go.RowKit Go.Sort
set_option linter.unusedVariables false
set_option maxRecDepth 100000

-- LR.ce is a field of LR (LB)
theorem chP_lt {N : Nt} {r : Rl} (hv : implValid N = true) (hg : RelG N r) : ∀ l ∈ chP N r, ∀ e ∈ l, e < (E1 N).length := by
  intro l hl
  unfold chP chainS at hl
  obtain ⟨m, hm, hl⟩ := List.mem_flatMap.1 hl
  obtain ⟨a, ha, hl⟩ := List.mem_flatMap.1 hl
  obtain ⟨b, hb, rfl⟩ := List.mem_map.1 hl
  have ha' : a < (E1 N).length := ofTo_lt (List.mem_filter.1 ha).1
  have hb' : b < (E1 N).length := ofTo_lt (List.mem_filter.1 hb).1
  have hm' : ∀ e ∈ m.l, e < (E1 N).length := by
    unfold midS at hm
    cases hvia : r.via
    · rw [hvia] at hm
      simp only [Bool.false_eq_true, if_false] at hm
      obtain ⟨x, hx, rfl⟩ := List.mem_map.1 hm
      have h4 := hg.one hvia
      have h1 := midL_good hv hg hvia (r.ways.length - 1) (by omega) x hx
      exact fun e he => h1.1.2.2 e he
    · rw [hvia] at hm
      simp only [if_true] at hm
      have := List.mem_singleton.1 hm
      subst this
      simp
  intro e he
  simp only [List.cons_append, List.nil_append, List.mem_cons, List.mem_append, List.not_mem_nil, or_false] at he
  rcases he with rfl | he | rfl
  · exact ha'
  · exact hm' e he
  · exact hb'
/-- the rules speak of edges of the road -/
theorem seq_edges {N : Nt} (hv : implValid N = true) : ∀ k, k ≤ N.rels.length → ∀ x ∈ (resTo (chP N) N.rels k).rules, ∀ i, i < x.seq.length → ∃ e : Nat, e < (E1 N).length ∧ iat x.seq i = e
  | 0, _, x, hx => by simp [resTo] at hx
  | k + 1, hk, x, hx => by
    have hx' : x ∈ (resStep (resTo (chP N) N.rels k) (rat N.rels k) (chP N (rat N.rels k))).rules := hx
    unfold resStep at hx'
    split at hx'
    · rename_i hr
      rcases List.mem_append.1 hx' with g | g
      · exact seq_edges hv k (by omega) x g
      · have hone : (chP N (rat N.rels k)).length = 1 := by
          unfold reason at hr
          split at hr
          · omega
          · split at hr
            · omega
            · omega
        have := List.mem_singleton.1 g
        rw [this]
        intro i hi
        have hi' : i < (lsat (chP N (rat N.rels k)) 0).length := by simpa [nums] using hi
        refine ⟨natat (lsat (chP N (rat N.rels k)) 0) i, ?_, iat_nums hi'⟩
        refine chP_lt hv (rel_g ((rels_in hv).rel k (by omega))) _ (lsat_one hone) _ ?_
        simp [natat, List.getD_eq_getElem?_getD, hi']
    · exact seq_edges hv k (by omega) x hx'
theorem rules_in {N : Nt} (hv : implValid N = true) : ∀ j, j < (resOf N).rules.length → 2 ≤ (ruat (resOf N).rules j).seq.length ∧ ∀ i, i < (ruat (resOf N).rules j).seq.length → ∃ e : Nat, e < (E1 N).length ∧ iat (ruat (resOf N).rules j).seq i = e := fun j hj => by
  refine ⟨resOf_two N j hj, ?_⟩
  rw [res_same hv] at hj ⊢
  rw [ruat_eq hj]
  exact seq_edges hv N.rels.length (Nat.le_refl _) _ (List.getElem_mem hj)
theorem turns_in {N : Nt} (hv : implValid N = true) : ascT N.turns = true ∧ (∀ i, i < N.turns.length → tIn (tat N.turns i)) ∧ ∀ e f, e < (E1 N).length → f < (E1 N).length → tIn ⟨wayId N (E1 N) e, wayId N (E1 N) f, 0⟩ := by
  have hw := cost_in hv
  have h := hv
  simp only [implValid, counts, Bool.and_eq_true, decide_eq_true_eq] at h
  obtain ⟨_, _, _, ⟨hwy, _⟩, _, ht, ha⟩ := h
  have hid : ∀ i, i < N.ways.length → 0 ≤ (wat N.ways i).id ∧ (wat N.ways i).id ≤ 1048576 := fun i hi => by
    have := allN_at hwy hi
    simp only [wayGood, wayHead, Bool.and_eq_true] at this
    simpa [inB] using this.1.1.1.1.1
  refine ⟨ha, fun i hi => ?_, fun e f _ hf => ?_⟩
  · have := allN_at ht hi
    simp only [turnGood, Bool.and_eq_true] at this
    have h1 := hid _ (wpos_lt this.2.1)
    rw [wpos_id this.2.1] at h1
    exact ⟨h1.1, by omega⟩
  · obtain ⟨i, hi, he⟩ := hw.way f hf
    have h1 := hid i hi
    show 0 ≤ wayId N (E1 N) f ∧ wayId N (E1 N) f < 4194304
    unfold wayId
    rw [he, Int.toNat_natCast]
    exact ⟨h1.1, by omega⟩
theorem OwnX.ownR {C : Nat} {w : World} {v : Value} {xs : List Ru} (h : OwnX C w v xs) : OwnR C C w v xs := by
  obtain ⟨vs, h1, h2, h3, _⟩ := h
  exact ⟨vs, h1, h2, h3⟩
/-- what judge reads, behind post -/
theorem jp_of {C C3 D g c n : Nat} {N : Nt} {L : Lk} {rules : List Ru} {walk : List Int} {vw : Value} {w3 w4 : World} {bv mv : Nat → Value} (hv : implValid N = true)
    (hR : LR C N (E1 N) N.ways.length (E1 N).length (E1 N).length (E1 N).length N.ways.length w3 L) (hX : rules.length = 0 ∨ OwnR C D w3 (.slice (some ⟨g, 0, none⟩) n c) rules)
    (hH : Hung C3 (E1 N) L.wb L.eb g rules rules.length w4 bv mv) (hc : Chg (Sed (E1 N) L.eb) w3 w4) (hT : HTurns 0 w4 L.v3 N.turns) (hW : HInts 0 w4 vw walk) :
    JP N (E1 N) rules walk L.wb L.eb bv mv g L.br L.v3 L.ve vw w4 := by
  have hroad := hR.road.chg hc (by
    rintro ⟨e, he, hq⟩
    exact hR.road.ne (hR.edge e he) (by decide) hq)
  have hall : OwnPt C w4 L.ve ((List.range (E1 N).length).map L.eb) := row_chg hR.all hc (fun b hb hS => by
    obtain ⟨e, he, rfl⟩ := hS
    exact (hR.edge e he).neRow hR.all (by decide) hb.symm)
  exact {
    r3 := hroad.blk.cell (i := 3) rfl
    r4 := hroad.blk.cell (i := 4) rfl
    r5 := hroad.blk.cell (i := 5) rfl
    turns := hT
    edges := by
      have h := hall.held
      unfold HPtrs at h
      rw [List.length_map, List.length_range] at h
      refine HSlice.mono h (Nat.zero_le _) (Nat.le_refl _) fun b off _ _ i hi hc => ?_
      have h2 : ((List.range (E1 N).length).map L.eb).getD i 0 = L.eb i := by simp [List.getD, hi]
      rw [← h2]
      exact hc
    edge := fun e he i v h => (hH.edge e he).blk.cell h
    way := fun e he => by
      obtain ⟨i, hi, hw⟩ := (cost_in hv).way e he
      have h1 := (hR.way i hi).chg hc (by
        rintro ⟨f, hf, hq⟩
        exact (hR.way i hi).ne (hR.edge f hf) (by decide) hq)
      unfold wayId
      rw [hw, Int.toNat_natCast]
      exact h1.blk.cell (i := 0) rfl
    bans := fun e he => HSlice.mono (hH.bans e he).held (Nat.zero_le _) (Nat.le_refl _) fun b off _ _ i hi hc => hc
    musts := fun e he => HSlice.mono (hH.musts e he).held (Nat.zero_le _) (Nat.le_refl _) fun b off _ _ i hi hc => hc
    rule := fun j hj => by
      rcases hX with hX | hX
      · omega
      have hX4 := hX.chgT hc (by
        rintro b ⟨e, he, rfl⟩
        exact ⟨_, _, hR.edge e he, by decide, by decide⟩)
      obtain ⟨g', u, eg, _, _, c2, hu⟩ := hX4.at hj
      simp only [Option.some.injEq, Addr.mk.injEq] at eg
      obtain ⟨rfl, _⟩ := eg
      exact ⟨u, c2, (hu.base (Nat.zero_le _)).held, hu.capOk⟩
    wlk := hW }
set_option maxHeartbeats 1000000 in
theorem post_none (br : Nat) (w : World) : Calls Tryz.prog 47 #[.pointer (some ⟨br, 0, none⟩), .slice none 0 0] w fun r w' => (∃ v, r = .returned v) ∧ Nx w w' := by
  go_enter Tryz.func47, Tryz.ntmps47
  go_wp2
  go_loopw [4, 5, 6, 7, 8, 11] (fun p4 p5 p6 p7 p8 i wr => i = .int .i64 0 ∧ Hid (Nx w wr)) (fun _ _ _ _ _ i _ => 0)
  case atStart => exact ⟨rfl, Nx.refl _⟩
  obtain ⟨rfl, HX⟩ := hrel
  go_wp2
  exact bodyPost_end (results_none rfl _ _ _) rfl ⟨⟨_, rfl⟩, HX.out⟩
end Go.Proofs.YtcdjmpbdaiafgaaGreatDoor
namespace Go.Proofs.YtcdjmpbdaiafgaaGreatDoor
open Go.RowKit Go.Sort
set_option linter.unusedVariables false
set_option maxRecDepth 100000
attribute [local go_sem] field_res

set_option maxHeartbeats 4000000 in
theorem implJudge_any (B0 B1 : Nat) (v0 v1 v2 v3 vw : Value) (N : Nt) (walk : List Int) (w : World) (h0 : HNet B0 w v0 v1 v2 v3 N) (hc : HRelsC w v2 N.rels) (hs : wsum N.ways N.ways.length ≤ 1048576) (ht : TabW w) (hW : HInts B1 w vw walk) (hcap : CapOk vw) :
    Calls Tryz.prog 16 #[.agg #[v0, v1, v2, v3, .int .i64 N.uturn], vw] w fun e w' => e = .returned (.agg #[.int .i64 (judgeY N walk).code, .int .i64 (judgeY N walk).at_, .int .i64 (judgeY N walk).cost]) ∧ Nx w w' := by
  have HS : Hid (wsum N.ways N.ways.length ≤ 1048576) := hs
  have HI : Hid (HNet B0 w v0 v1 v2 v3 N) := h0
  have HC : Hid (HRelsC w v2 N.rels) := hc
  have HT : Hid (TabW w) := ht
  have HW : Hid (HInts 0 w vw walk) := hW.base (Nat.zero_le _)
  have HCAP : Hid (CapOk vw) := hcap
  obtain ⟨a0, q0, rfl, jm, jk⟩ := h0.1
  clear jm jk
  obtain ⟨a1, q1, rfl, jm, jk⟩ := h0.2.1
  clear jm jk
  obtain ⟨a2, q2, rfl, jm, jk⟩ := h0.2.2.1
  clear jm jk
  obtain ⟨a3, q3, rfl, jm, jk⟩ := h0.2.2.2
  clear jm jk hs h0 hc ht
  obtain ⟨wa, wn, wc, rfl, _⟩ := hcap
  clear hW
  generalize N.nodes.length = l0 at *
  generalize N.rels.length = l2 at *
  generalize N.turns.length = l3 at *
  go_enter Tryz.func16, Tryz.ntmps16
  go_wp2_with fail
  generalize hWA : (w.alloc (.cells #[.slice a0 l0 q0, .slice a1 N.ways.length q1, .slice a2 l2 q2, .slice a3 l3 q3, .int .i64 N.uturn] 38)).alloc (.cells #[.int .i64 0, .int .i64 0, .int .i64 0] 46) = wA
  have HXA : Hid (Nx w wA) := by unfold Hid; rw [← hWA]; exact (box1 _ _).trans (box1 _ _)
  have BG : Hid (BT wA w.heap.size #[.slice a0 l0 q0, .slice a1 N.ways.length q1, .slice a2 l2 q2, .slice a3 l3 q3, .int .i64 N.uturn] 38) := by unfold Hid; rw [← hWA]; exact (BT.new w _ _ _ rfl).alloc _
  have BZ : Hid (BT wA (w.heap.size + 1) #[.int .i64 0, .int .i64 0, .int .i64 0] 46) := by unfold Hid; rw [← hWA]; exact BT.new _ _ _ _ (by rw [size_alloc'])
  have HSA : Hid (wA.heap.size = w.heap.size + 2) := by unfold Hid; rw [← hWA, size_alloc', size_alloc']
  clear hWA
  refine (implValid_any B0 _ _ _ _ N _ (by exact HI.out.next HXA.out) HS.out).mono ?_
  rintro e w1 ⟨rfl, hx⟩
  have HXA1 : Hid (Nx wA w1) := hx
  have HX1 : Hid (Nx w w1) := HXA.out.trans hx
  have BG1 : Hid (BT w1 w.heap.size #[.slice a0 l0 q0, .slice a1 N.ways.length q1, .slice a2 l2 q2, .slice a3 l3 q3, .int .i64 N.uturn] 38) := BG.out.next hx
  have BZ1 : Hid (BT w1 (w.heap.size + 1) #[.int .i64 0, .int .i64 0, .int .i64 0] 46) := BZ.out.next hx
  clear hx
  cases hv : implValid N
  case false =>
    have HF : Hid (judgeY N walk = ⟨1, 0, 0⟩) := by unfold Hid judgeY; rw [hv]; rfl
    clear hv
    have y0 := BZ1.out.blk.cell (i := 0) rfl
    have y1 := BZ1.out.blk.cell (i := 1) rfl
    have y2 := BZ1.out.blk.cell (i := 2) rfl
    have z0 := BZ1.out.blk.frozen 0
    have z1 := BZ1.out.blk.frozen 1
    have z2 := BZ1.out.blk.frozen 2
    have BR' := ((BZ1.out.blk.set 0 (.int .i64 1)).set 1 (.int .i64 0)).set 2 (.int .i64 0)
    have P0 : Hid (_ = some (Value.int .i64 1)) := BR'.cell (i := 0) rfl
    have P1 : Hid (_ = some (Value.int .i64 0)) := BR'.cell (i := 1) rfl
    have P2 : Hid (_ = some (Value.int .i64 0)) := BR'.cell (i := 2) rfl
    clear BR'
    go_wp2
    have p0 := P0.out
    have p1 := P1.out
    have p2 := P2.out
    refine bodyPost_ret (v := .agg #[.int .i64 1, .int .i64 0, .int .i64 0]) (by simp [results, Tryz.results16, go_sem, p0, p1, p2]) rfl ?_
    rw [HF.out]
    exact ⟨rfl, Below.setCell (Below.setCell (Below.setCell HX1.out (Nat.le_succ _) _) (Nat.le_succ _) _) (Nat.le_succ _) _⟩
  have HF : Hid (judgeY N walk = judgeP N (E1 N) (resOf N).rules walk) := by unfold Hid judgeY judgeP; rw [hv, if_pos rfl]
  have HRF : Hid (resOf N = resTo (chP N) N.rels N.rels.length) := res_same hv
  have HV : Hid (implValid N = true) := hv
  clear hv
  have k0 := BG1.out.blk.cell (i := 0) rfl
  have k1 := BG1.out.blk.cell (i := 1) rfl
  have k2 := BG1.out.blk.cell (i := 2) rfl
  have k3 := BG1.out.blk.cell (i := 3) rfl
  have k4 := BG1.out.blk.cell (i := 4) rfl
  go_wp2_with fail
  refine (linkRoad_any B0 _ _ _ _ N _ (by exact HI.out.next HX1.out) HS.out HV.out).mono ?_
  rintro e w2 ⟨⟨L, rfl, e0, e1, e2, e3, hLR⟩, hx2⟩
  have HLR : Hid (LR w1.heap.size N (E1 N) N.ways.length (E1 N).length (E1 N).length (E1 N).length N.ways.length w2 L) := hLR
  have HX2 : Hid (Nx w w2) := HX1.out.trans hx2
  have HX12 : Hid (Nx w1 w2) := hx2
  have HE : Hid (L.v0 = .slice a0 l0 q0 ∧ L.v2 = .slice a2 l2 q2 ∧ L.v3 = .slice a3 l3 q3) := ⟨e0, e2, e3⟩
  clear hLR hx2 e0 e1 e2 e3 k0 k1 k2 k3 k4
  go_wp2_with fail
  refine (resolve_any w1.heap.size N L w2 HV.out HLR.out (by rw [HE.out.1]; exact (HI.out.1.next HX2.out).base (Nat.zero_le _)) (by rw [HE.out.2.1]; exact HC.out.next HX2.out) (HT.out.next HX2.out)).mono ?_
  rintro e w3 ⟨⟨vr, vd, rfl, hr, hd⟩, hx3⟩
  rw [← HRF.out] at hr
  have HX13 : Hid (Nx w1 w3) := HX12.out.trans hx3
  have HX3 : Hid (Nx w w3) := HX2.out.trans hx3
  have HL3 : Hid (LR w1.heap.size N (E1 N) N.ways.length (E1 N).length (E1 N).length (E1 N).length N.ways.length w3 L) := HLR.out.next hx3
  have HR3 : Hid (OwnR w1.heap.size w1.heap.size w3 vr (resOf N).rules) := (hr.base HX12.out.size).ownR
  have HRI : Hid (∀ j, j < (resOf N).rules.length → 2 ≤ (ruat (resOf N).rules j).seq.length ∧ ∀ i, i < (ruat (resOf N).rules j).seq.length → ∃ e : Nat, e < (E1 N).length ∧ iat (ruat (resOf N).rules j).seq i = e) := rules_in HV.out
  have HRL : Hid ((resOf N).rules.length ≤ 1000) := (res_len N).1
  obtain ⟨ad, cd, rfl⟩ := row_slice hd
  generalize (resTo (chP N) N.rels N.rels.length).drops.length = nd at *
  generalize hrr : (resOf N).rules = rules at *
  -- behind post
  have HPO : Hid (Calls Tryz.prog 47 #[.pointer (some ⟨L.br, 0, none⟩), vr] w3 fun r w' => (∃ v, r = .returned v) ∧ (∃ g bv mv, JP N (E1 N) rules walk L.wb L.eb bv mv g L.br L.v3 L.ve (.slice wa wn wc) w') ∧ Nx w1 w') := by
    have key : ∀ w4, Nx w1 w4 → HTurns 0 w4 L.v3 N.turns ∧ HInts 0 w4 (.slice wa wn wc) walk := fun w4 hx => by
      rw [HE.out.2.2]
      exact ⟨(HTurns.keep HI.out.2.2.2 ((HX1.out.trans hx).keeps B0)).base (Nat.zero_le _), HW.out.next (HX1.out.trans hx)⟩
    have hR3 := HR3.out
    obtain ⟨vs, j1, j2, j3⟩ := HR3.out
    rcases j2.2 with ⟨rfl, h0⟩ | ⟨g, cap, cur, rfl, _⟩
    · refine (post_none L.br w3).mono ?_
      rintro r w4 ⟨hv, hx4⟩
      have hx14 := HX13.out.trans hx4
      obtain ⟨k1, k2⟩ := key w4 hx14
      refine ⟨hv, ⟨0, _, _, jp_of (C := w1.heap.size) (C3 := 0) (D := 0) (g := 0) (c := 0) (n := 0) (w3 := w4) HV.out (HL3.out.next hx4) (Or.inl h0) (by rw [h0]; exact Hung.start (HL3.out.next hx4).edge) (Chg.nx (Nx.refl _)) k1 k2⟩, hx14⟩
    · refine (post_any w1.heap.size w1.heap.size w1.heap.size (E1 N) L.wb L.eb L.br g _ _ rules L.ve w3 ⟨_, HL3.out.road, rfl⟩ HL3.out.all hR3 HL3.out.edge (E1_le (road_in HV.out)) HRL.out HRI.out).mono ?_
      rintro r w4 ⟨hv, ⟨bv, mv, hH⟩, hc⟩
      have hx14 : Nx w1 w4 := Below.trans HX13.out (hc.below HX13.out.size (by rintro x ⟨e, he, rfl⟩; exact HL3.out.ce e he))
      obtain ⟨k1, k2⟩ := key w4 hx14
      exact ⟨hv, ⟨g, bv, mv, jp_of HV.out HL3.out (Or.inr hR3) hH hc k1 k2⟩, hx14⟩
  obtain ⟨ar, cr, hvr⟩ := hr.slice
  have HHI : Hid (∀ j, j < rules.length → 2 ≤ (ruat rules j).seq.length) := fun j hj => (HRI.out j hj).1
  clear hr hd hx3 hrr HR3 HRI
  generalize rules.length = nr at hvr
  subst hvr
  go_wp2_with (refine HPO.out.mono ?_; rintro r w4 ⟨⟨v4, rfl⟩, hJ4, hx4⟩)
  obtain ⟨g, bv, mv, hJ⟩ := hJ4
  have HX4 : Hid (Nx w w4) := HX1.out.trans hx4
  have BZ4 : Hid (BT w4 (w.heap.size + 1) #[.int .i64 0, .int .i64 0, .int .i64 0] 46) := BZ1.out.next hx4
  refine (judge_any N (E1 N) rules walk L.wb L.eb bv mv g L.br _ _ _ w4 hJ HCAP.out HHI.out (E1_le (road_in HV.out)) HRL.out (cost_in HV.out) (turns_in HV.out).1 (turns_in HV.out).2.1 (turns_in HV.out).2.2).mono ?_
  rintro r w5 ⟨rfl, hx5⟩
  rw [← HF.out]
  have HX5 : Hid (Nx w w5) := HX4.out.trans hx5
  have BZ5 : Hid (BT w5 (w.heap.size + 1) #[.int .i64 0, .int .i64 0, .int .i64 0] 46) := BZ4.out.next hx5
  clear hJ hx5 hx4
  generalize hVV : judgeY N walk = V at *
  have HVV : Hid (judgeY N walk = V) := hVV
  clear hVV
  obtain ⟨vc, va, vt⟩ := V
  have y0 := BZ5.out.blk.cell (i := 0) rfl
  have y1 := BZ5.out.blk.cell (i := 1) rfl
  have y2 := BZ5.out.blk.cell (i := 2) rfl
  have z0 := BZ5.out.blk.frozen 0
  have z1 := BZ5.out.blk.frozen 1
  have z2 := BZ5.out.blk.frozen 2
  have BR' := ((BZ5.out.blk.set 0 (.int .i64 vc)).set 1 (.int .i64 va)).set 2 (.int .i64 vt)
  have P0 : Hid (_ = some (Value.int .i64 vc)) := BR'.cell (i := 0) rfl
  have P1 : Hid (_ = some (Value.int .i64 va)) := BR'.cell (i := 1) rfl
  have P2 : Hid (_ = some (Value.int .i64 vt)) := BR'.cell (i := 2) rfl
  clear BR'
  go_wp2
  have p0 := P0.out
  have p1 := P1.out
  have p2 := P2.out
  refine bodyPost_ret (v := .agg #[.int .i64 vc, .int .i64 va, .int .i64 vt]) (by simp [results, Tryz.results16, go_sem, p0, p1, p2]) rfl ?_
  rw [HVV.out]
  exact ⟨rfl, Below.setCell (Below.setCell (Below.setCell HX5.out (Nat.le_succ _) _) (Nat.le_succ _) _) (Nat.le_succ _) _⟩
set_option maxHeartbeats 1000000 in
theorem eqVerdict_same (a b c : Int) (w : World) : Calls Tryz.prog 17 #[.agg #[.int .i64 a, .int .i64 b, .int .i64 c], .agg #[.int .i64 a, .int .i64 b, .int .i64 c]] w fun e w' => e = .returned (.bool true) ∧ Nx w w' := by
  go_enter Tryz.func17, Tryz.ntmps17
  generalize hWA : (w.alloc (.cells #[.int .i64 a, .int .i64 b, .int .i64 c] 46)).alloc (.cells #[.int .i64 a, .int .i64 b, .int .i64 c] 46) = wA
  have HXA : Hid (Nx w wA) := by unfold Hid; rw [← hWA]; exact (box1 _ _).trans (box1 _ _)
  have BG : Hid (BT wA w.heap.size #[.int .i64 a, .int .i64 b, .int .i64 c] 46) := by unfold Hid; rw [← hWA]; exact (BT.new w _ _ _ rfl).alloc _
  have BZ : Hid (BT wA (w.heap.size + 1) #[.int .i64 a, .int .i64 b, .int .i64 c] 46) := by unfold Hid; rw [← hWA]; exact BT.new _ _ _ _ (by rw [size_alloc'])
  go_upto_region 1 with fail
  try rw [hWA]
  clear hWA
  have k0 := BG.out.blk.cell (i := 0) rfl
  have k1 := BG.out.blk.cell (i := 1) rfl
  have k2 := BG.out.blk.cell (i := 2) rfl
  have y0 := BZ.out.blk.cell (i := 0) rfl
  have y1 := BZ.out.blk.cell (i := 1) rfl
  have y2 := BZ.out.blk.cell (i := 2) rfl
  go_wp2
  go_ret
  exact ⟨rfl, HXA.out⟩
end Go.Proofs.YtcdjmpbdaiafgaaGreatDoor
namespace Go.Proofs.YtcdjmpbdaiafgaaGreatDoor
open Go.RowKit Go.Sort
set_option linter.unusedVariables false
set_option maxRecDepth 100000

set_option maxHeartbeats 8000000 in
theorem judgelaw_any (B B1 : Nat) (v0 v1 v2 v3 vw : Value) (N : Nt) (walk : List Int) (w : World) (h0 : HNet B w v0 v1 v2 v3 N) (hW : HInts B1 w vw walk) (ht : TabW w) :
    Calls Tryz.prog 4 #[.agg #[v0, v1, v2, v3, .int .i64 N.uturn], vw] w fun e w' => e = .returned (.bool true) ∧ Nx w w' := by
  have HT : Hid (TabW w) := ht
  have HW : Hid (HInts B1 w vw walk) := hW
  obtain ⟨wa, wc, rfl, hwm, hwk⟩ := hW
  unfold maxLen at hwm
  generalize hwn : walk.length = wn at *
  have HWN : Hid (walk.length = wn) := hwn
  have BA := Blk.new w #[v0, v1, v2, v3, .int .i64 N.uturn] 27 _ rfl
  clear ht hwn hwk
  go_enter Tryz.func4, Tryz.ntmps4
  by_cases hbig : 1048576 < wn
  · have hbig' : (1048576 : Int) < wn := by omega
    go_wp2
    go_ret
    exact ⟨rfl, box1 _ _⟩
  have hbig' : ¬ (1048576 : Int) < wn := by omega
  go_wp2_with fail
  refine (szNet_any B _ _ _ _ N _ (by exact h0.next (box1 _ _))).mono ?_
  rintro e w1 ⟨⟨r, rfl, hr⟩, hx⟩
  have BA1 := BA.next hx
  have HX : Hid (Nx w w1) := (box1 _ _).trans hx
  clear hx BA
  rcases hr with hr | ⟨hr, hsm, hws⟩
  · go_wp2
    go_ret
    exact ⟨rfl, HX.out⟩
  have HSM : Hid (Small N ∧ wsum N.ways N.ways.length ≤ 1048576) := ⟨hsm, hws⟩
  have HWS : Hid (walk.length ≤ 1048576) := by unfold Hid; rw [HWN.out]; omega
  clear hsm hws
  have k0 := BA1.cell (i := 0) rfl
  have k1 := BA1.cell (i := 1) rfl
  have k2 := BA1.cell (i := 2) rfl
  have k3 := BA1.cell (i := 3) rfl
  have k4 := BA1.cell (i := 4) rfl
  go_wp2_with fail
  refine (toNet_any B _ _ _ _ N _ (by exact h0.next HX.out) HSM.out.1).mono ?_
  rintro e w2 ⟨⟨a0, n0, c0, a1, n1, c1, a2, n2, c2, a3, n3, c3, rfl, hN⟩, hu⟩
  have hx := hu.nx
  have HX2 : Hid (Nx w w2) := HX.out.trans hx
  have BA2 := BA1.next hx
  clear hx hu BA1 k0 k1 k2 k3 k4 HX
  go_wp2_with fail
  refine (toInts_c B1 _ walk _ (HW.out.next HX2.out) HWS.out).mono ?_
  rintro e w3 ⟨⟨d0, m0, f0, rfl, hI⟩, hu⟩
  have hx := hu.nx
  have HX3 : Hid (Nx w w3) := HX2.out.trans hx
  have BA3 := BA2.next hx
  clear BA2 HX2
  go_wp2_with fail
  refine (specJudge_any _ _ _ _ _ _ N _ walk _ (hN.next hx) HSM.out.2 hI.1).mono ?_
  rintro e w4 ⟨rfl, hx4⟩
  have HX4 : Hid (Nx w w4) := HX3.out.trans hx4
  have BA4 := BA3.next hx4
  clear hx hu hx4 BA3 HX3 hN hI
  generalize hV : judgeY N walk = V at *
  have HV : Hid (judgeY N walk = V) := hV
  clear hV
  obtain ⟨vc, va, vt⟩ := V
  have BW4 := Blk.new w4 #[.int .i64 vc, .int .i64 va, .int .i64 vt] 46 _ rfl
  have BA4' := BA4.alloc (.cells #[.int .i64 vc, .int .i64 va, .int .i64 vt] 46)
  have k0 := BA4.cell (i := 0) rfl
  have k1 := BA4.cell (i := 1) rfl
  have k2 := BA4.cell (i := 2) rfl
  have k3 := BA4.cell (i := 3) rfl
  have k4 := BA4.cell (i := 4) rfl
  have hz4 := BA4.lt
  go_wp2_with fail
  refine (toNet_c B _ _ _ _ N _ (by exact h0.next (HX4.out.trans (box1 _ _))) HSM.out.1).mono ?_
  rintro e w5 ⟨⟨p0, s0, t0, p1, s1, t1, p2, s2, t2, p3, s3, t3, rfl, hN⟩, hu⟩
  have hx := hu.nx
  have HX5 : Hid (Nx w w5) := (HX4.out.trans (box1 _ _)).trans hx
  have HN5 : Hid (HNet (w4.heap.size + 1) w5 (.slice p0 s0 t0) (.slice p1 s1 t1) (.slice p2 s2 t2) (.slice p3 s3 t3) N) := by
    unfold Hid
    simpa using hN.net
  have HRC : Hid (HRelsC w5 (.slice p2 s2 t2) N.rels) := hN.caps
  have BW5 := BW4.next hx
  have BA5 := BA4'.next hx
  clear hx hu hN k0 k1 k2 k3 k4 BA4 BA4' BW4
  have BX := Blk.new w5 #[.slice p0 s0 t0, .slice p1 s1 t1, .slice p2 s2 t2, .slice p3 s3 t3, .int .i64 N.uturn] 38 _ rfl
  go_wp2_with fail
  refine (toInts_c B1 _ walk _ (HW.out.next (HX5.out.trans (box1 _ _))) HWS.out).mono ?_
  rintro e w6 ⟨⟨d1, m1, f1, rfl, hI⟩, hu⟩
  have hx := hu.nx
  have HY6 : Hid (Nx w5 w6) := (box1 _ _).trans hx
  have HX6 : Hid (Nx w w6) := HX5.out.trans HY6.out
  have HI6 : Hid (HInts 0 w6 (.slice d1 m1 f1) walk ∧ CapOk (.slice d1 m1 f1)) := ⟨hI.1.base (Nat.zero_le _), hI.2⟩
  have BX6 := BX.next hx
  have BA6 := BA5.next HY6.out
  have BW6 := BW5.next HY6.out
  clear hx hu hI BX BA5 BW5
  have l0 := BX6.cell (i := 0) rfl
  have l1 := BX6.cell (i := 1) rfl
  have l2 := BX6.cell (i := 2) rfl
  have l3 := BX6.cell (i := 3) rfl
  have l4 := BX6.cell (i := 4) rfl
  go_wp2_with fail
  refine (implJudge_any _ 0 _ _ _ _ _ N walk _ (HN5.out.next HY6.out) (HRC.out.next HY6.out) HSM.out.2 (HT.out.next HX6.out) HI6.out.1 HI6.out.2).mono ?_
  rintro e w7 ⟨rfl, hx⟩
  rw [HV.out]
  have HY7 : Hid (Nx w6 w7) := hx
  have BX7 := BX6.next hx
  have BA7 := BA6.next hx
  have BW7 := BW6.next hx
  clear hx BX6 BA6 BW6 l0 l1 l2 l3 l4
  have hzx := BX7.lt
  have hzw := BW7.lt
  have q0 := BW7.cell (i := 0) rfl
  have q1 := BW7.cell (i := 1) rfl
  have q2 := BW7.cell (i := 2) rfl
  have BX7' := BX7.alloc (.cells #[.int .i64 vc, .int .i64 va, .int .i64 vt] 46)
  have BA7' := BA7.alloc (.cells #[.int .i64 vc, .int .i64 va, .int .i64 vt] 46)
  go_wp2_with fail
  refine (eqVerdict_same vc va vt _).mono ?_
  rintro e w8 ⟨rfl, hx⟩
  have HY8 : Hid (Nx w6 w8) := (HY7.out.trans (box1 _ _)).trans hx
  have BX8 := BX7'.next hx
  have BA8 := BA7'.next hx
  clear hx BX7' BA7' BX7 BA7 BW7 q0 q1 q2
  have k0 := BA8.cell (i := 0) rfl
  have k1 := BA8.cell (i := 1) rfl
  have k2 := BA8.cell (i := 2) rfl
  have k3 := BA8.cell (i := 3) rfl
  have k4 := BA8.cell (i := 4) rfl
  have l0 := BX8.cell (i := 0) rfl
  have l1 := BX8.cell (i := 1) rfl
  have l2 := BX8.cell (i := 2) rfl
  have l3 := BX8.cell (i := 3) rfl
  have l4 := BX8.cell (i := 4) rfl
  have BD := BX8.drew
  clear BX8 BA8
  go_wp2
  have HXD : Hid (Nx w w8.drew) := (HX6.out.trans HY8.out).drew
  have HND : Hid (HNet (w4.heap.size + 1) w8.drew (.slice p0 s0 t0) (.slice p1 s1 t1) (.slice p2 s2 t2) (.slice p3 s3 t3) N) := HN5.out.next (HY6.out.trans HY8.out.drew)
  go_region_with (first
    | (go_at_call 7; refine (toNet_any B _ _ _ _ N _ (by exact h0.next HXD.out) HSM.out.1).mono ?_; rintro e w9 ⟨⟨y0', i0, z0', y1', i1, z1', y2', i2, z2', y3', i3, z3', rfl, hN6⟩, hu7⟩; have BE := BD.next hu7.nx; have q0 := BE.cell (i := 0) rfl; have q1 := BE.cell (i := 1) rfl; have q2 := BE.cell (i := 2) rfl; have q3 := BE.cell (i := 3) rfl; have q4 := BE.cell (i := 4) rfl)
    | (go_at_call 10; refine (eqNet_same _ _ _ _ _ _ _ _ _ _ N _ (by exact HND.out.next hu7.nx) (by exact hN6)).mono ?_; rintro e w10 ⟨rfl, hx8⟩))
  all_goals
    have HD10 : Hid (Nx w8.drew w10) := hu7.nx.trans hx8
    have HX10 : Hid (Nx w w10) := HXD.out.trans HD10.out
    have HY10 : Hid (Nx w6 w10) := HY8.out.drew.trans HD10.out
    clear hx8 hu7 hN6 BE BD q0 q1 q2 q3 q4 k0 k1 k2 k3 k4 l0 l1 l2 l3 l4 HND HXD HD10
    go_wp2_with fail
    refine (toInts_c B1 _ walk _ (HW.out.next HX10.out) HWS.out).mono ?_
    rintro e w11 ⟨⟨d2, m2, f2, rfl, hI⟩, hu⟩
    have hx := hu.nx
    have HX11 : Hid (Nx w w11) := HX10.out.trans hx
    have HY11 : Hid (Nx w6 w11) := HY10.out.trans hx
    have HI11 : Hid (HInts 0 w11 (.slice d2 m2 f2) walk) := hI.1.base (Nat.zero_le _)
    clear hx hu hI
    go_wp2_with fail
    refine (eqInts_same 0 0 _ _ walk _ (HI6.out.1.next HY11.out) HI11.out).mono ?_
    rintro e w12 ⟨rfl, hx⟩
    go_wp2
    go_ret
    exact ⟨rfl, HX11.out.trans hx⟩
end Go.Proofs.YtcdjmpbdaiafgaaGreatDoor
