import Derived.Test.YtcdjmpbdaiafgaaGreatDoorJI
import Derived.Deep.LoopGhost
namespace Go.Proofs.YtcdjmpbdaiafgaaGreatDoor
open Go.RowKit Go.Sort
set_option linter.unusedVariables false
set_option maxRecDepth 100000

set_option maxHeartbeats 8000000 in
theorem judge_any (N : Nt) (es : List Eg) (rules : List Ru) (walk : List Int) (wb eb : Nat → Nat) (bv mv : Nat → Value) (g br : Nat) (v3 ve vw : Value) (w : World) (hJ : JP N es rules walk wb eb bv mv g br v3 ve vw w) (hcap : CapOk vw)
    (hs : ∀ j, j < rules.length → 2 ≤ (ruat rules j).seq.length) (hne : es.length ≤ 4000) (hnr : rules.length ≤ 1000) (hC : CostIn N es) (ha : ascT N.turns = true) (hb : ∀ i, i < N.turns.length → tIn (tat N.turns i)) (ht : ∀ e f, e < es.length → f < es.length → tIn ⟨wayId N es e, wayId N es f, 0⟩) :
    Calls Tryz.prog 48 #[.pointer (some ⟨br, 0, none⟩), vw] w fun r w' => r = .returned (.agg #[.int .i64 (judgeP N es rules walk).code, .int .i64 (judgeP N es rules walk).at_, .int .i64 (judgeP N es rules walk).cost]) ∧ Nx w w' := by
  have HJ : Hid (JP N es rules walk wb eb bv mv g br v3 ve vw w) := hJ
  have HSQ : Hid (∀ j, j < rules.length → 2 ≤ (ruat rules j).seq.length) := hs
  have HCI : Hid (CostIn N es) := hC
  have HAT : Hid (ascT N.turns = true) := ha
  have HTI : Hid (∀ i, i < N.turns.length → tIn (tat N.turns i)) := hb
  have HTW : Hid (∀ e f, e < es.length → f < es.length → tIn ⟨wayId N es e, wayId N es f, 0⟩) := ht
  clear hs hC ha hb ht
  obtain ⟨wa, cw, e0, hwm, hwk⟩ := hJ.wlk
  have hcw : walk.length ≤ cw := by
    obtain ⟨_, _, _, e, hc⟩ := hcap
    rw [e0] at e
    simp only [Value.slice.injEq] at e
    obtain ⟨_, rfl, rfl⟩ := e
    exact hc
  clear hcap
  unfold maxLen at hwm
  generalize hnw : walk.length = nw at *
  have HNW : Hid (walk.length = nw) := hnw
  clear hnw
  subst e0
  by_cases hz : nw = 0 ∨ 10000 < nw
  · have HF : Hid (judgeP N es rules walk = ⟨2, 0, 0⟩) := by unfold Hid judgeP; rw [HNW.out, if_pos hz]
    clear hwk
    generalize hWA : w.alloc (.cells #[.int .i64 0, .int .i64 0, .int .i64 0] 46) = wA
    have HXA : Hid (Nx w wA) := by unfold Hid; rw [← hWA]; exact box1 _ _
    have BZ : Hid (Blk wA w.heap.size #[.int .i64 0, .int .i64 0, .int .i64 0]) := by unfold Hid; rw [← hWA]; exact Blk.new _ _ _ _ rfl
    go_enter Tryz.func48, Tryz.ntmps48
    go_wp2
    go_step3
    try rw [hWA]
    clear hWA
    have y0 := BZ.out.cell (i := 0) rfl
    have y1 := BZ.out.cell (i := 1) rfl
    have y2 := BZ.out.cell (i := 2) rfl
    have z0 := BZ.out.frozen 0
    have z1 := BZ.out.frozen 1
    have z2 := BZ.out.frozen 2
    have BR' := ((BZ.out.set 0 (.int .i64 2)).set 1 (.int .i64 0)).set 2 (.int .i64 0)
    have P0 : Hid (_ = some (Value.int .i64 2)) := BR'.cell (i := 0) rfl
    have P1 : Hid (_ = some (Value.int .i64 0)) := BR'.cell (i := 1) rfl
    have P2 : Hid (_ = some (Value.int .i64 0)) := BR'.cell (i := 2) rfl
    clear BR'
    by_cases hz0 : nw = 0
    · have g1 : ((nw : Int) == 0) = true := by simp; omega
      have g2 : (nw : Int) = 0 := by omega
      clear hz hz0
      go_wp2
      rw [Exit.noGoto_ret]
      have p0 := P0.out
      have p1 := P1.out
      have p2 := P2.out
      refine bodyPost_ret (v := .agg #[.int .i64 2, .int .i64 0, .int .i64 0]) (by simp [results, Tryz.results48, go_sem, p0, p1, p2]) rfl ?_
      rw [HF.out]
      exact ⟨rfl, Below.setCell (Below.setCell (Below.setCell HXA.out (Nat.le_refl _) _) (Nat.le_refl _) _) (Nat.le_refl _) _⟩
    · have g1 : ((nw : Int) == 0) = false := by simp; omega
      have g2 : (10000 : Int) < nw := by omega
      have g3 : 10000 < nw := by omega
      clear hz
      go_wp2
      rw [Exit.noGoto_ret]
      have p0 := P0.out
      have p1 := P1.out
      have p2 := P2.out
      refine bodyPost_ret (v := .agg #[.int .i64 2, .int .i64 0, .int .i64 0]) (by simp [results, Tryz.results48, go_sem, p0, p1, p2]) rfl ?_
      rw [HF.out]
      exact ⟨rfl, Below.setCell (Below.setCell (Below.setCell HXA.out (Nat.le_refl _) _) (Nat.le_refl _) _) (Nat.le_refl _) _⟩
  have HF : Hid (judgeP N es rules walk = jdg N es rules walk (walk.length - 0) 0) := by unfold Hid judgeP; rw [HNW.out, if_neg hz]; rfl
  obtain ⟨bw, ow, rfl, _, _, hwc⟩ := hwk (by omega)
  have g1 : ((nw : Int) == 0) = false := by simp; omega
  have g2 : ¬ (10000 : Int) < nw := by omega
  have g3 : ¬ 10000 < nw := by omega
  have g4 : nw ≠ 0 := by omega
  clear hz hwk
  obtain ⟨ea, ec, eve, _, hek⟩ := hJ.edges
  generalize hml : es.length = ml at *
  have HML : Hid (es.length = ml) := hml
  clear hml
  subst eve
  have HWC : Hid (∀ i, i < nw → w.cell? ⟨bw, ow + i, none⟩ = some (.int .i64 (iat walk i))) := hwc
  have HEK : Hid (0 < ml → ∃ b off, ea = some ⟨b, off, none⟩ ∧ 0 ≤ b ∧ b < w.heap.size ∧ ∀ i, i < ml → w.cell? ⟨b, off + i, none⟩ = some (.pointer (some ⟨eb i, 0, none⟩))) := hek
  clear hwc hek hJ
  go_enter Tryz.func48, Tryz.ntmps48
  go_wp2
  go_step3
  go_wp2
  go_step3
  go_wp2
  generalize hWB : ((w.alloc (.cells #[.int .i64 0, .int .i64 0, .int .i64 0] 46)).alloc (.cells #[.int .i64 0, .int .i64 0, .int .i64 0] 46)).alloc (.cells #[.int .i64 0, .int .i64 0, .int .i64 0, .int .i64 0, .int .i64 0, .bool false, .int .i64 0, .int .i64 0, .pointer none, .slice none 0 0, .slice none 0 0] 123) = wB
  have HXB : Hid (Nx w wB) := by unfold Hid; rw [← hWB]; exact (box1 _ _).trans ((box1 _ _).trans (box1 _ _))
  have BR0 : Hid (Blk wB w.heap.size #[.int .i64 0, .int .i64 0, .int .i64 0]) := by unfold Hid; rw [← hWB]; exact ((Blk.new w _ _ _ rfl).next (box1 _ _)).next (box1 _ _)
  have BV0 : Hid (Blk wB (w.heap.size + 1) #[.int .i64 0, .int .i64 0, .int .i64 0]) := by unfold Hid; rw [← hWB]; exact (Blk.new _ _ _ _ (by rw [size_alloc'])).next (box1 _ _)
  have BB0 : Hid (Blk wB (w.heap.size + 1 + 1) #[.int .i64 0, .int .i64 0, .int .i64 0, .int .i64 0, .int .i64 0, .bool false, .int .i64 0, .int .i64 0, .pointer none, .slice none 0 0, .slice none 0 0]) := by unfold Hid; rw [← hWB]; exact Blk.new _ _ _ _ (by rw [size_alloc', size_alloc'])
  have HB0 : Hid (∃ vm, wB.cell? ⟨w.heap.size + 1 + 1, 10, none⟩ = some vm ∧ HPr wB vm g (mustsAt rules walk 0)) := ⟨_, BB0.out.cell (i := 10) rfl, _, _, rfl, Nat.zero_le _, fun h => absurd h (Nat.lt_irrefl _)⟩
  clear hWB BB0
  go_loopg [6, 7, 8, 9, 11, 13, 14, 29] nw (fun g6 s6 s7 s8 s9 s11 s13 s14 s29 wr => ∃ n bb : Nat, n + g6 = nw ∧ s29 = .int .i64 n ∧ s6 = .pointer (some ⟨bb, 0, none⟩) ∧ Hid (∃ vm, wr.cell? ⟨bb, 10, none⟩ = some vm ∧ HPr wr vm g (mustsAt rules walk n)) ∧ Hid (0 < n → bb = eb (iat walk (n - 1)).toNat) ∧ Hid (Nx w wr) ∧ Hid (Blk wr (w.heap.size + 1) #[.int .i64 0, .int .i64 n, .int .i64 (costTo N es walk n)]) ∧ Hid (Blk wr w.heap.size #[.int .i64 0, .int .i64 0, .int .i64 0]) ∧ Hid (∀ m, m < n → reasonJ es rules walk m = 0) ∧ Hid (judgeP N es rules walk = jdg N es rules walk (walk.length - n) n))
  case atStart => exact ⟨0, _, by omega, rfl, rfl, HB0, fun h => absurd h (Nat.lt_irrefl _), HXB, BV0, BR0, fun m h => absurd h (Nat.not_lt_zero _), HF⟩
  case round =>
    obtain ⟨n, bb, hng, rfl, rfl, HBM, HBE, HX, BV, BR, HZ, HJG⟩ := hrel
    cases gk with
    | zero =>
      have hnn : n = nw := by omega
      subst hnn
      clear hng
      generalize hct : costTo N es walk n = ct at *
      have HST : Hid (judgeP N es rules walk = ⟨0, n, ct⟩) := by
        unfold Hid
        rw [HJG.out, ← hct]
        have h := @jdg_end N es rules walk
        rw [HNW.out] at h ⊢
        exact h
      clear hct
      have y0 := BV.out.cell (i := 0) rfl
      have y1 := BV.out.cell (i := 1) rfl
      have y2 := BV.out.cell (i := 2) rfl
      have x0 := BR.out.cell (i := 0) rfl
      have x1 := BR.out.cell (i := 1) rfl
      have x2 := BR.out.cell (i := 2) rfl
      have z0 := BR.out.frozen 0
      have z1 := BR.out.frozen 1
      have z2 := BR.out.frozen 2
      have BR' := ((BR.out.set 0 (.int .i64 0)).set 1 (.int .i64 (n : Int))).set 2 (.int .i64 ct)
      have P0 : Hid (_ = some (Value.int .i64 0)) := BR'.cell (i := 0) rfl
      have P1 : Hid (_ = some (Value.int .i64 (n : Int))) := BR'.cell (i := 1) rfl
      have P2 : Hid (_ = some (Value.int .i64 ct)) := BR'.cell (i := 2) rfl
      clear BR'
      go_wp2
      try rw [Exit.noGoto_ret]
      have p0 := P0.out
      have p1 := P1.out
      have p2 := P2.out
      refine bodyPost_ret (v := .agg #[.int .i64 0, .int .i64 (n : Int), .int .i64 ct]) (by simp [results, Tryz.results48, go_sem, p0, p1, p2]) rfl ?_
      rw [HST.out]
      exact ⟨rfl, Below.setCell (Below.setCell (Below.setCell HX.out (Nat.le_refl _) _) (Nat.le_refl _) _) (Nat.le_refl _) _⟩
    | succ go =>
      have hlt : n < nw := by omega
      have hlt' : (n : Int) < nw := by omega
      generalize hct : costTo N es walk n = ct at *
      have HCT : Hid (costTo N es walk n = ct) := hct
      have d1 := cellq HX.out (HWC.out n hlt)
      have d5 := cellq HX.out HJ.out.r5
      generalize hyi : iat walk n = yi at *
      have HYI : Hid (iat walk n = yi) := hyi
      clear hct hyi
      by_cases hin : yi < 0 ∨ (ml : Int) ≤ yi
      · have HRC : Hid (reasonJ es rules walk n = 3) := by unfold Hid reasonJ; rw [HYI.out, HML.out, if_pos hin]
        have hi1 : decide (yi < 0) = true ∨ decide (yi < 0) = false := by cases decide (yi < 0) <;> simp
        by_cases hneg : yi < 0
        · clear hin hi1
          have HST : Hid (judgeP N es rules walk = ⟨3, n, ct⟩) := by unfold Hid; rw [HJG.out, jdg_stop (by rw [HNW.out]; exact hlt) (by rw [HRC.out]; decide), HRC.out, HCT.out]; all_goals rfl
          have x0 := BV.out.cell (i := 0) rfl
          have z0 := BV.out.frozen 0
          go_upto_region 32 with fail
          generalize hWV : wr.setCell ⟨w.heap.size + 1, 0, none⟩ (.int .i64 3) = wV
          have BVV : Hid (Blk wV (w.heap.size + 1) #[.int .i64 3, .int .i64 (n : Int), .int .i64 ct]) := by unfold Hid; rw [← hWV]; exact BV.out.set 0 (.int .i64 3)
          have BRV : Hid (Blk wV w.heap.size #[.int .i64 0, .int .i64 0, .int .i64 0]) := by unfold Hid; rw [← hWV]; exact BR.out.setOther (by omega) _ _
          have HXV : Hid (Nx w wV) := by unfold Hid; rw [← hWV]; exact Below.setCell HX.out (Nat.le_succ _) _
          clear hWV x0 z0
          have y0 := BVV.out.cell (i := 0) rfl
          have y1 := BVV.out.cell (i := 1) rfl
          have y2 := BVV.out.cell (i := 2) rfl
          have x0 := BRV.out.cell (i := 0) rfl
          have x1 := BRV.out.cell (i := 1) rfl
          have x2 := BRV.out.cell (i := 2) rfl
          have z0 := BRV.out.frozen 0
          have z1 := BRV.out.frozen 1
          have z2 := BRV.out.frozen 2
          have BR' := ((BRV.out.set 0 (.int .i64 3)).set 1 (.int .i64 (n : Int))).set 2 (.int .i64 ct)
          have P0 : Hid (_ = some (Value.int .i64 3)) := BR'.cell (i := 0) rfl
          have P1 : Hid (_ = some (Value.int .i64 (n : Int))) := BR'.cell (i := 1) rfl
          have P2 : Hid (_ = some (Value.int .i64 ct)) := BR'.cell (i := 2) rfl
          clear BR'
          go_wp2
          try rw [Exit.noGoto_ret]
          have p0 := P0.out
          have p1 := P1.out
          have p2 := P2.out
          refine bodyPost_ret (v := .agg #[.int .i64 3, .int .i64 (n : Int), .int .i64 ct]) (by simp [results, Tryz.results48, go_sem, p0, p1, p2]) rfl ?_
          rw [HST.out]
          exact ⟨rfl, Below.setCell (Below.setCell (Below.setCell HXV.out (Nat.le_refl _) _) (Nat.le_refl _) _) (Nat.le_refl _) _⟩
        · have hge : (ml : Int) ≤ yi := by omega
          clear hin hi1
          have HST : Hid (judgeP N es rules walk = ⟨3, n, ct⟩) := by unfold Hid; rw [HJG.out, jdg_stop (by rw [HNW.out]; exact hlt) (by rw [HRC.out]; decide), HRC.out, HCT.out]; all_goals rfl
          have x0 := BV.out.cell (i := 0) rfl
          have z0 := BV.out.frozen 0
          go_upto_region 32 with fail
          generalize hWV : wr.setCell ⟨w.heap.size + 1, 0, none⟩ (.int .i64 3) = wV
          have BVV : Hid (Blk wV (w.heap.size + 1) #[.int .i64 3, .int .i64 (n : Int), .int .i64 ct]) := by unfold Hid; rw [← hWV]; exact BV.out.set 0 (.int .i64 3)
          have BRV : Hid (Blk wV w.heap.size #[.int .i64 0, .int .i64 0, .int .i64 0]) := by unfold Hid; rw [← hWV]; exact BR.out.setOther (by omega) _ _
          have HXV : Hid (Nx w wV) := by unfold Hid; rw [← hWV]; exact Below.setCell HX.out (Nat.le_succ _) _
          clear hWV x0 z0
          have y0 := BVV.out.cell (i := 0) rfl
          have y1 := BVV.out.cell (i := 1) rfl
          have y2 := BVV.out.cell (i := 2) rfl
          have x0 := BRV.out.cell (i := 0) rfl
          have x1 := BRV.out.cell (i := 1) rfl
          have x2 := BRV.out.cell (i := 2) rfl
          have z0 := BRV.out.frozen 0
          have z1 := BRV.out.frozen 1
          have z2 := BRV.out.frozen 2
          have BR' := ((BRV.out.set 0 (.int .i64 3)).set 1 (.int .i64 (n : Int))).set 2 (.int .i64 ct)
          have P0 : Hid (_ = some (Value.int .i64 3)) := BR'.cell (i := 0) rfl
          have P1 : Hid (_ = some (Value.int .i64 (n : Int))) := BR'.cell (i := 1) rfl
          have P2 : Hid (_ = some (Value.int .i64 ct)) := BR'.cell (i := 2) rfl
          clear BR'
          go_wp2
          try rw [Exit.noGoto_ret]
          have p0 := P0.out
          have p1 := P1.out
          have p2 := P2.out
          refine bodyPost_ret (v := .agg #[.int .i64 3, .int .i64 (n : Int), .int .i64 ct]) (by simp [results, Tryz.results48, go_sem, p0, p1, p2]) rfl ?_
          rw [HST.out]
          exact ⟨rfl, Below.setCell (Below.setCell (Below.setCell HXV.out (Nat.le_refl _) _) (Nat.le_refl _) _) (Nat.le_refl _) _⟩
      obtain ⟨y, rfl⟩ : ∃ y : Nat, yi = y := ⟨yi.toNat, by omega⟩
      have hy : y < ml := by omega
      have hy' : (y : Int) < ml := by omega
      have hy2 : ¬ (ml : Int) ≤ y := by omega
      have hy3 : ¬ (y : Int) < 0 := by omega
      have HYE : Hid (y < es.length) := by unfold Hid; rw [HML.out]; exact hy
      have HIN : Hid (∀ j, j < n → 0 ≤ iat walk j ∧ iat walk j < es.length) := fun j hj => reason_in (HZ.out j hj)
      clear hin
      obtain ⟨pb, po, rfl, _, _, cp⟩ := HEK.out (by omega)
      have d6 := cellq HX.out (cp y hy)
      have HJR : Hid (JP N es rules walk wb eb bv mv g br v3 (.slice (some ⟨pb, po, none⟩) ml ec) (.slice (some ⟨bw, ow, none⟩) nw cw) wr) := HJ.out.next HX.out
      clear cp
      have t0 : wr.cell? ⟨eb y, 0, none⟩ = some (.int .i64 (eat es y).tail) := HJR.out.edge y HYE.out 0 _ rfl
      have HR0 : Hid (reasonJ es rules walk n = if 0 < n ∧ (eat es (iat walk (n - 1)).toNat).head ≠ (eat es y).tail then 4 else if rules.any (banB walk n) then 5 else if rules.any (mustB walk n) then 6 else 0) := by
        unfold Hid reasonJ
        rw [HYI.out, HML.out, if_neg (by omega)]
        rfl
      have HTL : Hid (∀ q, Nx wr q → q.cell? ⟨eb y, 0, none⟩ = some (.int .i64 (eat es y).tail)) := fun q hq => cellq hq t0
      generalize htl : (eat es y).tail = tl at *
      clear htl
      by_cases hn0 : n = 0
      · subst hn0
        have HR5 : Hid (reasonJ es rules walk 0 = if rules.any (banB walk 0) then 5 else if rules.any (mustB walk 0) then 6 else 0) := by unfold Hid; rw [HR0.out, if_neg (by omega)]
        clear HR0
        rw [Nat.add_zero] at d1
        go_upto_region 11 with fail
        go_quiet (fail)
        clear d1 d5 d6 t0
        have HXR0 : Hid (Nx wr (wr.drewN nq)) := nx_drewN _ _
        generalize wr.drewN nq = wp at *
        have HXp : Hid (Nx w wp) := HX.out.trans HXR0.out
        have BVp : Hid (Blk wp (w.heap.size + 1) #[.int .i64 0, .int .i64 (0 : Int), .int .i64 ct]) := BV.out.next HXR0.out
        have BRp : Hid (Blk wp w.heap.size #[.int .i64 0, .int .i64 0, .int .i64 0]) := BR.out.next HXR0.out
        have HJp : Hid (JP N es rules walk wb eb bv mv g br v3 (.slice (some ⟨pb, po, none⟩) ml ec) (.slice (some ⟨bw, ow, none⟩) nw cw) wp) := HJR.out.next HXR0.out
        have hbl := HJp.out.bans y HYE.out
        obtain ⟨ba, bc, ebv, _, hbk⟩ := hbl
        have d9 : wp.cell? ⟨eb y, 9, none⟩ = some (bv y) := HJp.out.edge y HYE.out 9 _ rfl
        rw [ebv] at d9
        generalize hbll : bansTo rules (y : Int) rules.length = bl at *
        have HBL : Hid (bansTo rules (y : Int) rules.length = bl) := hbll
        generalize hnb : bl.length = nb at *
        have HNB : Hid (bl.length = nb) := hnb
        have HBK : Hid (0 < nb → ∃ b off, ba = some ⟨b, off, none⟩ ∧ 0 ≤ b ∧ b < wp.heap.size ∧ ∀ i, i < nb → wp.cell? ⟨b, off + i, none⟩ = some (.pointer (some ⟨g, bl.getD i 0 * 3, none⟩))) := hbk
        have HBA : Hid (rules.any (banB walk 0) = bl.any fun j => ewB (walk.take (0 + 1)) (ruat rules j).seq) := by unfold Hid; rw [bans_asked HSQ.out (by rw [HNW.out]; omega), HYI.out, HBL.out]
        have HNB4 : Hid (nb ≤ 1000) := by
          unfold Hid
          have h := List.length_filter_le (fun j => !(ruat rules j).only && decide (iat (ruat rules j).seq ((ruat rules j).seq.length - 1) = (y : Int))) (List.range rules.length)
          have h2 : bl.length ≤ (List.range rules.length).length := by rw [← HBL.out]; exact h
          rw [HNB.out, List.length_range] at h2
          omega
        clear hbk hbll hnb ebv
        have hnb4 : nb ≤ 1000 := HNB4.out
        go_wp2
        go_loopg [11, 74] nb (fun g7 s11 s74 wq => ∃ j : Nat, j + g7 = nb ∧ s74 = .int .i64 j ∧ Hid (∀ m, m < j → ewB (walk.take (0 + 1)) (ruat rules (bl.getD m 0)).seq = false) ∧ Hid (Nx wp wq))
        case atStart => exact ⟨0, by omega, rfl, fun m h => absurd h (Nat.not_lt_zero _), Nx.refl _⟩
        case round =>
          obtain ⟨j, hjg, rfl, HBF, HXj⟩ := hrel
          cases gk with
          | zero =>
            have hjn : j = nb := by omega
            subst hjn
            clear hjg
            have HNO : Hid (rules.any (banB walk 0) = false) := by unfold Hid; rw [HBA.out]; exact getD_none (fun i hi => HBF.out i (by rw [HNB.out] at hi; exact hi))
            have HR6 : Hid (reasonJ es rules walk 0 = if rules.any (mustB walk 0) then 6 else 0) := by unfold Hid; rw [HR5.out, HNO.out]; rfl
            clear HBF HNO HR5 HBA d9
            have HXwr : Hid (Nx w wr) := HXp.out.trans HXj.out
            have HJw : Hid (JP N es rules walk wb eb bv mv g br v3 (.slice (some ⟨pb, po, none⟩) ml ec) (.slice (some ⟨bw, ow, none⟩) nw cw) wr) := HJp.out.next HXj.out
            have BVw : Hid (Blk wr (w.heap.size + 1) #[.int .i64 0, .int .i64 (0 : Int), .int .i64 ct]) := BVp.out.next HXj.out
            have BRw : Hid (Blk wr w.heap.size #[.int .i64 0, .int .i64 0, .int .i64 0]) := BRp.out.next HXj.out
            obtain ⟨vm, hvm, hmk0⟩ := HBM.out
            have d10 := cellq HXj.out (cellq HXR0.out hvm)
            obtain ⟨ma, mc, evm, _, hmk⟩ := (hmk0.next HXR0.out).next HXj.out
            subst evm
            generalize hmll : mustsAt rules walk 0 = ml2 at *
            have HMLL : Hid (mustsAt rules walk 0 = ml2) := hmll
            generalize hnm : ml2.length = nm at *
            have HNM : Hid (ml2.length = nm) := hnm
            have HMK : Hid (0 < nm → ∃ b off, ma = some ⟨b, off, none⟩ ∧ 0 ≤ b ∧ b < wr.heap.size ∧ ∀ i, i < nm → wr.cell? ⟨b, off + i, none⟩ = some (.pointer (some ⟨g, ml2.getD i 0 * 3, none⟩))) := hmk
            have HMA : Hid (rules.any (mustB walk 0) = ml2.any (mustQ rules walk 0)) := by unfold Hid; rw [← HMLL.out]; exact musts_at HSQ.out (by rw [HNW.out]; omega)
            have HNM4 : Hid (nm ≤ 1000) := by
              unfold Hid
              rw [← HNM.out, ← HMLL.out]
              unfold mustsAt
              split
              · exact Nat.zero_le _
              · have h := List.length_filter_le (fun j => (ruat rules j).only && decide (iat (ruat rules j).seq ((ruat rules j).seq.length - 2) = iat walk (0 - 1))) (List.range rules.length)
                rw [List.length_range] at h
                exact Nat.le_trans h hnr
            have hnm4 : nm ≤ 1000 := HNM4.out
            clear hmk hmll hnm hvm hmk0
            generalize hwx : wr = wx at *
            clear hwx
            go_wp2
            go_loopg [13, 14, 94] nm (fun g8 s13 s14 s94 wq => ∃ j : Nat, j + g8 = nm ∧ s94 = .int .i64 j ∧ Hid (∀ m, m < j → mustQ rules walk 0 (ml2.getD m 0) = false) ∧ Hid (Nx wx wq))
            case atStart => exact ⟨0, by omega, rfl, fun m h => absurd h (Nat.not_lt_zero _), Nx.refl _⟩
            case round =>
              obtain ⟨j, hjg, rfl, HBF, HXk⟩ := hrel
              cases gk with
              | zero =>
                have hjn : j = nm := by omega
                subst hjn
                clear hjg
                have HNMF : Hid (rules.any (mustB walk 0) = false) := by unfold Hid; rw [HMA.out]; exact getD_none (fun i hi => HBF.out i (by rw [HNM.out] at hi; exact hi))
                have HRC : Hid (reasonJ es rules walk 0 = 0) := by unfold Hid; rw [HR6.out, HNMF.out]; rfl
                have HX3 : Hid (Nx w wr) := HXwr.out.trans HXk.out
                have BV3 : Hid (Blk wr (w.heap.size + 1) #[.int .i64 0, .int .i64 (0 : Int), .int .i64 ct]) := BVw.out.next HXk.out
                have BR3 : Hid (Blk wr w.heap.size #[.int .i64 0, .int .i64 0, .int .i64 0]) := BRw.out.next HXk.out
                have HZ1 : Hid (∀ m, m < 0 + 1 → reasonJ es rules walk m = 0) := upto_succ HZ.out HRC.out
                have HJ1 : Hid (judgeP N es rules walk = jdg N es rules walk (walk.length - (0 + 1)) (0 + 1)) := by unfold Hid; rw [HJG.out, jdg_step (by rw [HNW.out]; omega) HRC.out]
                have HMS : Hid (mustsAt rules walk (0 + 1) = mustsTo rules (y : Int) rules.length) := by unfold Hid mustsAt; rw [if_neg (by omega), Nat.add_sub_cancel, HYI.out]
                have HBE1 : Hid (0 < 0 + 1 → eb y = eb (iat walk (0 + 1 - 1)).toNat) := fun _ => by rw [Nat.add_sub_cancel, HYI.out, Int.toNat_natCast]
                have hcb := costTo_le HCI.out walk 0 HIN.out 0 (Nat.le_refl _)
                have hwe := HCI.out.weight y HYE.out
                rw [HCT.out] at hcb
                have HCN : Hid (costTo N es walk (0 + 1) = ct + (eat es y).weight + if 0 = 0 then 0 else turnC N es (iat walk (0 - 1)).toNat y) := by
                  unfold Hid
                  show costTo N es walk 0 + _ + _ = _
                  rw [HCT.out, HYI.out]
                  rfl
                have v1 : wr.cell? ⟨w.heap.size + 1, 1, none⟩ = some (.int .i64 (0 : Int)) := BV3.out.cell (i := 1) rfl
                have f1 := BV3.out.frozen 1
                clear d10 HNMF HR6 HMA
                go_upto_region 27 with fail
                generalize hW26 : wr.setCell ⟨w.heap.size + 1, 1, none⟩ (.int .i64 (1)) = wt
                have HXt : Hid (Nx w wt) := by unfold Hid; rw [← hW26]; exact Below.setCell HX3.out (Nat.le_succ _) _
                have BVt : Hid (Blk wt (w.heap.size + 1) #[.int .i64 0, .int .i64 (1), .int .i64 ct]) := by unfold Hid; rw [← hW26]; exact BV3.out.set 1 _
                have BRt : Hid (Blk wt w.heap.size #[.int .i64 0, .int .i64 0, .int .i64 0]) := by unfold Hid; rw [← hW26]; exact BR3.out.setOther (by omega) _ _
                have HJt : Hid (JP N es rules walk wb eb bv mv g br v3 (.slice (some ⟨pb, po, none⟩) ml ec) (.slice (some ⟨bw, ow, none⟩) nw cw) wt) := HJ.out.next HXt.out
                clear v1 f1 hW26
                have s1 : wt.cell? ⟨w.heap.size + 1, 2, none⟩ = some (.int .i64 ct) := BVt.out.cell (i := 2) rfl
                have s2 : wt.cell? ⟨eb y, 2, none⟩ = some (.int .i64 (eat es y).weight) := HJt.out.edge y HYE.out 2 _ rfl
                have f2 : wt.drew.frozen? ⟨w.heap.size + 1, 2, none⟩ = false := BVt.out.drew.frozen 2
                have s1' : wt.drew.cell? ⟨w.heap.size + 1, 2, none⟩ = some (.int .i64 ct) := s1
                have hcm : (4000000000 : Int) * (0 : Nat) ≤ 40000000000000 := by omega
                generalize (eat es y).weight = we at *
                have HSS : Hid ((fun q => q.cell? ⟨w.heap.size + 1, 2, none⟩ = some (.int .i64 ct) ∧ q.cell? ⟨eb y, 2, none⟩ = some (.int .i64 we)) wt.drew) := ⟨s1, s2⟩
                clear s1 s2
                have hmx : Tryz.prog.follows .mixedOrders = true := by kernel_rfl
                refine (wpIn_wide (n := 9)).1 ?_
                refine wpIn_region_S (c := 9) (S := fun q => q.cell? ⟨w.heap.size + 1, 2, none⟩ = some (.int .i64 ct) ∧ q.cell? ⟨eb y, 2, none⟩ = some (.int .i64 we)) hmx (by kernel_rfl) (fun hw hcl => ?_)
                refine anyS_take (i := 0) (v := .pointer (some ⟨w.heap.size + 1, 2, none⟩)) hw (by decide) hcl (noDefer_none rfl) rfl (by kernel_rfl) (by kernel_rfl) (by kernel_rfl) (fun _ _ _ h => h) ⟨Or.inl ⟨by kernel_rfl, ?y0⟩, fun _ => rfl⟩ HSS.out (fun hcl => ?_)
                case y0 =>
                  rintro q ⟨c1, c2⟩
                  go_simp
                refine anyS_take (i := 1) (v := .int .i64 (ct)) hw (by decide) hcl (noDefer_none rfl) rfl (by kernel_rfl) (by kernel_rfl) (by kernel_rfl) (fun _ _ _ h => h) ⟨Or.inl ⟨by kernel_rfl, ?y1⟩, fun _ => rfl⟩ HSS.out (fun hcl => ?_)
                case y1 =>
                  rintro q ⟨c1, c2⟩
                  go_simp
                refine anyS_take (i := 2) (v := .pointer (some ⟨eb y, 0, none⟩)) hw (by decide) hcl (noDefer_none rfl) rfl (by kernel_rfl) (by kernel_rfl) (by kernel_rfl) (fun _ _ _ h => h) ⟨Or.inl ⟨by kernel_rfl, ?y2⟩, fun _ => rfl⟩ HSS.out (fun hcl => ?_)
                case y2 =>
                  rintro q ⟨c1, c2⟩
                  go_simp
                refine anyS_take (i := 3) (v := .pointer (some ⟨eb y, 0, none⟩)) hw (by decide) hcl (noDefer_none rfl) rfl (by kernel_rfl) (by kernel_rfl) (by kernel_rfl) (fun _ _ _ h => h) ⟨Or.inl ⟨by kernel_rfl, ?y3⟩, fun _ => rfl⟩ HSS.out (fun hcl => ?_)
                case y3 =>
                  rintro q ⟨c1, c2⟩
                  go_simp
                refine anyS_take (i := 4) (v := .pointer (some ⟨eb y, 0, none⟩)) hw (by decide) hcl (noDefer_none rfl) rfl (by kernel_rfl) (by kernel_rfl) (by kernel_rfl) (fun _ _ _ h => h) ⟨Or.inl ⟨by kernel_rfl, ?y4⟩, fun _ => rfl⟩ HSS.out (fun hcl => ?_)
                case y4 =>
                  rintro q ⟨c1, c2⟩
                  go_simp
                refine anyS_take (i := 5) (v := .pointer (some ⟨eb y, 2, none⟩)) hw (by decide) hcl (noDefer_none rfl) rfl (by kernel_rfl) (by kernel_rfl) (by kernel_rfl) (fun _ _ _ h => h) ⟨Or.inl ⟨by kernel_rfl, ?y5⟩, fun _ => rfl⟩ HSS.out (fun hcl => ?_)
                case y5 =>
                  rintro q ⟨c1, c2⟩
                  go_simp
                refine anyS_take (i := 6) (v := .int .i64 (we)) hw (by decide) hcl (noDefer_none rfl) rfl (by kernel_rfl) (by kernel_rfl) (by kernel_rfl) (fun _ _ _ h => h) ⟨Or.inl ⟨by kernel_rfl, ?y6⟩, fun _ => rfl⟩ HSS.out (fun hcl => ?_)
                case y6 =>
                  rintro q ⟨c1, c2⟩
                  go_simp
                refine anyS_take (i := 7) (v := .int .i64 (ct + we)) hw (by decide) hcl (noDefer_none rfl) rfl (by kernel_rfl) (by kernel_rfl) (by kernel_rfl) (fun _ _ _ h => h) ⟨Or.inl ⟨by kernel_rfl, ?y7⟩, fun _ => rfl⟩ HSS.out (fun hcl => ?_)
                case y7 =>
                  rintro q ⟨c1, c2⟩
                  go_simp
                  exact Go.IntWalk.i64_in _ ⟨by omega, by omega⟩
                refine anyS_take (i := 8) (v := .pointer (some ⟨w.heap.size + 1, 2, none⟩)) hw (by decide) hcl (noDefer_none rfl) rfl (by kernel_rfl) (by kernel_rfl) (by kernel_rfl) (fun _ _ _ h => h) ⟨Or.inl ⟨by kernel_rfl, ?y8⟩, fun _ => rfl⟩ HSS.out (fun hcl => ?_)
                case y8 =>
                  rintro q ⟨c1, c2⟩
                  go_simp

                refine anyS_one (i := 9) (by kernel_rfl) (wpOpIn_step rfl (fun K hK => ?_))
                go_simp
                refine hK _ _ ⟨Or.inl (by decide), ?_⟩
                clear hK K
                refine anyS_done (by kernel_rfl) ?_ _
                clear hw hcl HSS f2 s1'
                generalize hWU : (wt.setCell ⟨w.heap.size + 1, 2, none⟩ (.int .i64 (ct + we))).drew = wu
                have HXu : Hid (Nx w wu) := by unfold Hid; rw [← hWU]; exact (Below.setCell HXt.out (Nat.le_succ _) _).drew
                have BVu : Hid (Blk wu (w.heap.size + 1) #[.int .i64 0, .int .i64 (1), .int .i64 (ct + we)]) := by unfold Hid; rw [← hWU]; exact (BVt.out.set 2 _).drew
                have BRu : Hid (Blk wu w.heap.size #[.int .i64 0, .int .i64 0, .int .i64 0]) := by unfold Hid; rw [← hWU]; exact (BRt.out.setOther (by omega) _ _).drew
                clear hWU
                have BVe : Hid (Blk wu (w.heap.size + 1) #[.int .i64 0, .int .i64 ((0 + 1 : Nat) : Int), .int .i64 (costTo N es walk (0 + 1))]) := by
                  unfold Hid
                  rw [HCN.out, if_pos rfl, Int.add_zero]
                  exact BVu.out
                have HJe : Hid (JP N es rules walk wb eb bv mv g br v3 (.slice (some ⟨pb, po, none⟩) ml ec) (.slice (some ⟨bw, ow, none⟩) nw cw) wu) := HJ.out.next HXu.out
                have HBM1 : Hid (∃ vm, wu.cell? ⟨eb y, 10, none⟩ = some vm ∧ HPr wu vm g (mustsAt rules walk (0 + 1))) := ⟨_, HJe.out.edge y HYE.out 10 _ rfl, by rw [HMS.out]; exact HJe.out.musts y HYE.out⟩
                go_wp2
                go_roundg go
                case measure => omega
                case rel => exact ⟨0 + 1, eb y, by omega, by first | rfl | go_num, rfl, HBM1, HBE1, HXu, BVe, BRu, HZ1, HJ1⟩
              | succ gk =>
                have h0 : nm = 0 := by rw [← HNM.out, ← HMLL.out]; rfl
                omega
          | succ gk =>
            have hj : j < nb := by omega
            have hj' : (j : Int) < nb := by omega
            obtain ⟨lb, lo, rfl, _, _, cb⟩ := HBK.out (by omega)
            have e1 := cellq HXj.out (cb j hj)
            have HQL : Hid (bl.getD j 0 < rules.length) := by unfold Hid; rw [← HBL.out]; exact bansTo_lt (by rw [HBL.out, HNB.out]; exact hj)
            generalize hq : bl.getD j 0 = q at *
            have HQ : Hid (bl.getD j 0 = q) := hq
            obtain ⟨u, hu1, hu2, hu3⟩ := (HJp.out.next HXj.out).rule q HQL.out
            have hs2 := HSQ.out q HQL.out
            have HU : Hid (HInts 0 wr u (ruat rules q).seq) := hu2
            obtain ⟨ua, uc, eu, _, huk⟩ := hu2
            obtain ⟨qb, qo, rfl, _, _, cq⟩ := huk (by omega)
            have HWr : Hid (HInts 0 wr (.slice (some ⟨bw, ow, none⟩) nw cw) walk) := (HJp.out.next HXj.out).wlk
            have hnc : (0 : Int) + 1 ≤ cw := by omega
            generalize hm : (ruat rules q).seq.length = m at *
            have HM : Hid ((ruat rules q).seq.length = m) := hm
            subst eu
            have CG : Hid (∀ d os, Calls Tryz.prog 81 #[.slice (some ⟨bw, ow, none⟩) (0 + 1) cw, .slice (some ⟨qb, qo, none⟩) m uc] (Sort.grow (redrawn wr d) os) fun e w'' => e = .returned (.bool (ewB (walk.take (0 + 1)) (ruat rules q).seq)) ∧ ∃ p : Regrown, w'' = Sort.grow (redrawn wr p.d) p.os) :=
              fun d os => Calls.regrown_of (endsWith_any 0 0 bw ow (0 + 1) cw _ (walk.take (0 + 1)) (ruat rules q).seq _ ((HWr.out.next (below_regrown wr d os)).take (0 + 1) (by omega)) (by omega) (HU.out.next (below_regrown wr d os)) (by rw [HM.out]; omega))
            have c2 := cell_regrown hu1
            generalize hE : ewB (walk.take (0 + 1)) (ruat rules q).seq = eB at CG
            have HE : Hid (ewB (walk.take (0 + 1)) (ruat rules q).seq = eB) := hE
            clear cb hq hu1 hu3 huk cq hm hE
            go_upto_region 16 with fail
            cases eB with
            | true =>
              refine wp_region_quiet_below (by kernel_rfl) (by kernel_rfl) ?_
              repeat (go_big_quiet_step (exact CG.out _ _))
              refine wpQuiet_nil ?_
              intro _ hw'
              obtain ⟨⟨dq, osq⟩, hw''⟩ := hw'
              subst hw''
              have HQ1 : Hid (Nx wr (Sort.grow (redrawn wr dq) osq)) := below_regrown wr dq osq
              clear c2 CG
              generalize Sort.grow (redrawn wr dq) osq = wq at *
              have HXq : Hid (Nx wp wq) := HXj.out.trans HQ1.out
              have HXwq : Hid (Nx w wq) := HXp.out.trans HXq.out
              have BVq : Hid (Blk wq (w.heap.size + 1) #[.int .i64 0, .int .i64 (0 : Int), .int .i64 ct]) := BVp.out.next HXq.out
              have BRq : Hid (Blk wq w.heap.size #[.int .i64 0, .int .i64 0, .int .i64 0]) := BRp.out.next HXq.out
              have HRC : Hid (reasonJ es rules walk 0 = 5) := by unfold Hid; rw [HR5.out, if_pos (by rw [HBA.out]; exact getD_any (i := j) (by rw [HNB.out]; exact hj) (by rw [HQ.out]; exact HE.out))]
              have HST : Hid (judgeP N es rules walk = ⟨5, 0, ct⟩) := by unfold Hid; rw [HJG.out, jdg_stop (by rw [HNW.out]; exact hlt) (by rw [HRC.out]; decide), HRC.out, HCT.out]; all_goals rfl
              have x0 := BVq.out.cell (i := 0) rfl
              have z0 := BVq.out.frozen 0
              go_upto_region 32 with fail
              generalize hWV : wq.setCell ⟨w.heap.size + 1, 0, none⟩ (.int .i64 5) = wV
              have BVV : Hid (Blk wV (w.heap.size + 1) #[.int .i64 5, .int .i64 (0 : Int), .int .i64 ct]) := by unfold Hid; rw [← hWV]; exact BVq.out.set 0 (.int .i64 5)
              have BRV : Hid (Blk wV w.heap.size #[.int .i64 0, .int .i64 0, .int .i64 0]) := by unfold Hid; rw [← hWV]; exact BRq.out.setOther (by omega) _ _
              have HXV : Hid (Nx w wV) := by unfold Hid; rw [← hWV]; exact Below.setCell HXwq.out (Nat.le_succ _) _
              clear hWV x0 z0
              have y0 := BVV.out.cell (i := 0) rfl
              have y1 := BVV.out.cell (i := 1) rfl
              have y2 := BVV.out.cell (i := 2) rfl
              have x0 := BRV.out.cell (i := 0) rfl
              have x1 := BRV.out.cell (i := 1) rfl
              have x2 := BRV.out.cell (i := 2) rfl
              have z0 := BRV.out.frozen 0
              have z1 := BRV.out.frozen 1
              have z2 := BRV.out.frozen 2
              have BR' := ((BRV.out.set 0 (.int .i64 5)).set 1 (.int .i64 (0 : Int))).set 2 (.int .i64 ct)
              have P0 : Hid (_ = some (Value.int .i64 5)) := BR'.cell (i := 0) rfl
              have P1 : Hid (_ = some (Value.int .i64 (0 : Int))) := BR'.cell (i := 1) rfl
              have P2 : Hid (_ = some (Value.int .i64 ct)) := BR'.cell (i := 2) rfl
              clear BR'
              go_wp2
              try rw [Exit.noGoto_ret]
              have p0 := P0.out
              have p1 := P1.out
              have p2 := P2.out
              refine bodyPost_ret (v := .agg #[.int .i64 5, .int .i64 (0 : Int), .int .i64 ct]) (by simp [results, Tryz.results48, go_sem, p0, p1, p2]) rfl ?_
              rw [HST.out]
              exact ⟨rfl, Below.setCell (Below.setCell (Below.setCell HXV.out (Nat.le_refl _) _) (Nat.le_refl _) _) (Nat.le_refl _) _⟩
            | false =>
              refine wp_region_quiet_below (by kernel_rfl) (by kernel_rfl) ?_
              repeat (go_big_quiet_step (exact CG.out _ _))
              refine wpQuiet_nil ?_
              intro _ hw'
              obtain ⟨⟨dq, osq⟩, hw''⟩ := hw'
              subst hw''
              have HQ1 : Hid (Nx wr (Sort.grow (redrawn wr dq) osq)) := below_regrown wr dq osq
              clear c2 CG
              generalize Sort.grow (redrawn wr dq) osq = wq at *
              have HXq : Hid (Nx wp wq) := HXj.out.trans HQ1.out
              have HXwq : Hid (Nx w wq) := HXp.out.trans HXq.out
              have HBF1 : Hid (ewB (walk.take (0 + 1)) (ruat rules (bl.getD j 0)).seq = false) := by unfold Hid; rw [HQ.out]; exact HE.out
              go_wp2
              go_roundg gk
              case measure => omega
              case rel => exact ⟨j + 1, by omega, by first | rfl | go_num, upto_succ HBF.out HBF1.out, HXq⟩
      · have hn1 : 0 < n := by omega
        have hn2 : (0 : Int) < n := by omega
        have hbe := HBE.out hn1
        obtain ⟨hx1, hx2⟩ := HIN.out (n - 1) (by omega)
        obtain ⟨x, hxx⟩ : ∃ x : Nat, iat walk (n - 1) = x := ⟨(iat walk (n - 1)).toNat, by omega⟩
        have HXE : Hid (x < es.length) := by unfold Hid; omega
        have HXX : Hid (iat walk (n - 1) = x) := hxx
        rw [hxx, Int.toNat_natCast] at hbe
        subst hbe
        have t1 : wr.cell? ⟨eb x, 1, none⟩ = some (.int .i64 (eat es x).head) := HJR.out.edge x HXE.out 1 _ rfl
        have HR1 : Hid (reasonJ es rules walk n = if 0 < n ∧ (eat es x).head ≠ tl then 4 else if rules.any (banB walk n) then 5 else if rules.any (mustB walk n) then 6 else 0) := by
          unfold Hid
          rw [HR0.out, HXX.out]
          rfl
        generalize hhd : (eat es x).head = hd at *
        clear HR0 hx1 hx2 hxx hhd
        by_cases heq : hd = tl
        · have dd : (hd != tl) = false := by simpa using heq
          have HR5 : Hid (reasonJ es rules walk n = if rules.any (banB walk n) then 5 else if rules.any (mustB walk n) then 6 else 0) := by unfold Hid; rw [HR1.out, if_neg (by omega)]
          clear HR1 heq
          go_upto_region 11 with fail
          go_quiet (fail)
          clear d1 d5 d6 t0 t1 dd
          have HXR0 : Hid (Nx wr (wr.drewN nq)) := nx_drewN _ _
          generalize wr.drewN nq = wp at *
          have HXp : Hid (Nx w wp) := HX.out.trans HXR0.out
          have BVp : Hid (Blk wp (w.heap.size + 1) #[.int .i64 0, .int .i64 (n : Int), .int .i64 ct]) := BV.out.next HXR0.out
          have BRp : Hid (Blk wp w.heap.size #[.int .i64 0, .int .i64 0, .int .i64 0]) := BR.out.next HXR0.out
          have HJp : Hid (JP N es rules walk wb eb bv mv g br v3 (.slice (some ⟨pb, po, none⟩) ml ec) (.slice (some ⟨bw, ow, none⟩) nw cw) wp) := HJR.out.next HXR0.out
          have hbl := HJp.out.bans y HYE.out
          obtain ⟨ba, bc, ebv, _, hbk⟩ := hbl
          have d9 : wp.cell? ⟨eb y, 9, none⟩ = some (bv y) := HJp.out.edge y HYE.out 9 _ rfl
          rw [ebv] at d9
          generalize hbll : bansTo rules (y : Int) rules.length = bl at *
          have HBL : Hid (bansTo rules (y : Int) rules.length = bl) := hbll
          generalize hnb : bl.length = nb at *
          have HNB : Hid (bl.length = nb) := hnb
          have HBK : Hid (0 < nb → ∃ b off, ba = some ⟨b, off, none⟩ ∧ 0 ≤ b ∧ b < wp.heap.size ∧ ∀ i, i < nb → wp.cell? ⟨b, off + i, none⟩ = some (.pointer (some ⟨g, bl.getD i 0 * 3, none⟩))) := hbk
          have HBA : Hid (rules.any (banB walk n) = bl.any fun j => ewB (walk.take (n + 1)) (ruat rules j).seq) := by unfold Hid; rw [bans_asked HSQ.out (by rw [HNW.out]; omega), HYI.out, HBL.out]
          have HNB4 : Hid (nb ≤ 1000) := by
            unfold Hid
            have h := List.length_filter_le (fun j => !(ruat rules j).only && decide (iat (ruat rules j).seq ((ruat rules j).seq.length - 1) = (y : Int))) (List.range rules.length)
            have h2 : bl.length ≤ (List.range rules.length).length := by rw [← HBL.out]; exact h
            rw [HNB.out, List.length_range] at h2
            omega
          clear hbk hbll hnb ebv
          have hnb4 : nb ≤ 1000 := HNB4.out
          go_wp2
          go_loopg [11, 74] nb (fun g7 s11 s74 wq => ∃ j : Nat, j + g7 = nb ∧ s74 = .int .i64 j ∧ Hid (∀ m, m < j → ewB (walk.take (n + 1)) (ruat rules (bl.getD m 0)).seq = false) ∧ Hid (Nx wp wq))
          case atStart => exact ⟨0, by omega, rfl, fun m h => absurd h (Nat.not_lt_zero _), Nx.refl _⟩
          case round =>
            obtain ⟨j, hjg, rfl, HBF, HXj⟩ := hrel
            cases gk with
            | zero =>
              have hjn : j = nb := by omega
              subst hjn
              clear hjg
              have HNO : Hid (rules.any (banB walk n) = false) := by unfold Hid; rw [HBA.out]; exact getD_none (fun i hi => HBF.out i (by rw [HNB.out] at hi; exact hi))
              have HR6 : Hid (reasonJ es rules walk n = if rules.any (mustB walk n) then 6 else 0) := by unfold Hid; rw [HR5.out, HNO.out]; rfl
              clear HBF HNO HR5 HBA d9
              have HXwr : Hid (Nx w wr) := HXp.out.trans HXj.out
              have HJw : Hid (JP N es rules walk wb eb bv mv g br v3 (.slice (some ⟨pb, po, none⟩) ml ec) (.slice (some ⟨bw, ow, none⟩) nw cw) wr) := HJp.out.next HXj.out
              have BVw : Hid (Blk wr (w.heap.size + 1) #[.int .i64 0, .int .i64 (n : Int), .int .i64 ct]) := BVp.out.next HXj.out
              have BRw : Hid (Blk wr w.heap.size #[.int .i64 0, .int .i64 0, .int .i64 0]) := BRp.out.next HXj.out
              obtain ⟨vm, hvm, hmk0⟩ := HBM.out
              have d10 := cellq HXj.out (cellq HXR0.out hvm)
              obtain ⟨ma, mc, evm, _, hmk⟩ := (hmk0.next HXR0.out).next HXj.out
              subst evm
              generalize hmll : mustsAt rules walk n = ml2 at *
              have HMLL : Hid (mustsAt rules walk n = ml2) := hmll
              generalize hnm : ml2.length = nm at *
              have HNM : Hid (ml2.length = nm) := hnm
              have HMK : Hid (0 < nm → ∃ b off, ma = some ⟨b, off, none⟩ ∧ 0 ≤ b ∧ b < wr.heap.size ∧ ∀ i, i < nm → wr.cell? ⟨b, off + i, none⟩ = some (.pointer (some ⟨g, ml2.getD i 0 * 3, none⟩))) := hmk
              have HMA : Hid (rules.any (mustB walk n) = ml2.any (mustQ rules walk n)) := by unfold Hid; rw [← HMLL.out]; exact musts_at HSQ.out (by rw [HNW.out]; omega)
              have HNM4 : Hid (nm ≤ 1000) := by
                unfold Hid
                rw [← HNM.out, ← HMLL.out]
                unfold mustsAt
                split
                · exact Nat.zero_le _
                · have h := List.length_filter_le (fun j => (ruat rules j).only && decide (iat (ruat rules j).seq ((ruat rules j).seq.length - 2) = iat walk (n - 1))) (List.range rules.length)
                  rw [List.length_range] at h
                  exact Nat.le_trans h hnr
              have hnm4 : nm ≤ 1000 := HNM4.out
              clear hmk hmll hnm hvm hmk0
              generalize hwx : wr = wx at *
              clear hwx
              go_wp2
              go_loopg [13, 14, 94] nm (fun g8 s13 s14 s94 wq => ∃ j : Nat, j + g8 = nm ∧ s94 = .int .i64 j ∧ Hid (∀ m, m < j → mustQ rules walk n (ml2.getD m 0) = false) ∧ Hid (Nx wx wq))
              case atStart => exact ⟨0, by omega, rfl, fun m h => absurd h (Nat.not_lt_zero _), Nx.refl _⟩
              case round =>
                obtain ⟨j, hjg, rfl, HBF, HXk⟩ := hrel
                cases gk with
                | zero =>
                  have hjn : j = nm := by omega
                  subst hjn
                  clear hjg
                  have HNMF : Hid (rules.any (mustB walk n) = false) := by unfold Hid; rw [HMA.out]; exact getD_none (fun i hi => HBF.out i (by rw [HNM.out] at hi; exact hi))
                  have HRC : Hid (reasonJ es rules walk n = 0) := by unfold Hid; rw [HR6.out, HNMF.out]; rfl
                  have HX3 : Hid (Nx w wr) := HXwr.out.trans HXk.out
                  have BV3 : Hid (Blk wr (w.heap.size + 1) #[.int .i64 0, .int .i64 (n : Int), .int .i64 ct]) := BVw.out.next HXk.out
                  have BR3 : Hid (Blk wr w.heap.size #[.int .i64 0, .int .i64 0, .int .i64 0]) := BRw.out.next HXk.out
                  have HZ1 : Hid (∀ m, m < n + 1 → reasonJ es rules walk m = 0) := upto_succ HZ.out HRC.out
                  have HJ1 : Hid (judgeP N es rules walk = jdg N es rules walk (walk.length - (n + 1)) (n + 1)) := by unfold Hid; rw [HJG.out, jdg_step (by rw [HNW.out]; omega) HRC.out]
                  have HMS : Hid (mustsAt rules walk (n + 1) = mustsTo rules (y : Int) rules.length) := by unfold Hid mustsAt; rw [if_neg (by omega), Nat.add_sub_cancel, HYI.out]
                  have HBE1 : Hid (0 < n + 1 → eb y = eb (iat walk (n + 1 - 1)).toNat) := fun _ => by rw [Nat.add_sub_cancel, HYI.out, Int.toNat_natCast]
                  have hcb := costTo_le HCI.out walk n HIN.out n (Nat.le_refl _)
                  have hwe := HCI.out.weight y HYE.out
                  rw [HCT.out] at hcb
                  have HCN : Hid (costTo N es walk (n + 1) = ct + (eat es y).weight + if n = 0 then 0 else turnC N es (iat walk (n - 1)).toNat y) := by
                    unfold Hid
                    show costTo N es walk n + _ + _ = _
                    rw [HCT.out, HYI.out]
                    rfl
                  have v1 : wr.cell? ⟨w.heap.size + 1, 1, none⟩ = some (.int .i64 (n : Int)) := BV3.out.cell (i := 1) rfl
                  have f1 := BV3.out.frozen 1
                  clear d10 HNMF HR6 HMA
                  go_upto_region 27 with fail
                  generalize hW26 : wr.setCell ⟨w.heap.size + 1, 1, none⟩ (.int .i64 ((n : Int) + 1)) = wt
                  have HXt : Hid (Nx w wt) := by unfold Hid; rw [← hW26]; exact Below.setCell HX3.out (Nat.le_succ _) _
                  have BVt : Hid (Blk wt (w.heap.size + 1) #[.int .i64 0, .int .i64 ((n : Int) + 1), .int .i64 ct]) := by unfold Hid; rw [← hW26]; exact BV3.out.set 1 _
                  have BRt : Hid (Blk wt w.heap.size #[.int .i64 0, .int .i64 0, .int .i64 0]) := by unfold Hid; rw [← hW26]; exact BR3.out.setOther (by omega) _ _
                  have HJt : Hid (JP N es rules walk wb eb bv mv g br v3 (.slice (some ⟨pb, po, none⟩) ml ec) (.slice (some ⟨bw, ow, none⟩) nw cw) wt) := HJ.out.next HXt.out
                  clear v1 f1 hW26
                  have s1 : wt.cell? ⟨w.heap.size + 1, 2, none⟩ = some (.int .i64 ct) := BVt.out.cell (i := 2) rfl
                  have s2 : wt.cell? ⟨eb y, 2, none⟩ = some (.int .i64 (eat es y).weight) := HJt.out.edge y HYE.out 2 _ rfl
                  have f2 : wt.drew.frozen? ⟨w.heap.size + 1, 2, none⟩ = false := BVt.out.drew.frozen 2
                  have s1' : wt.drew.cell? ⟨w.heap.size + 1, 2, none⟩ = some (.int .i64 ct) := s1
                  have hcm : (4000000000 : Int) * (n : Nat) ≤ 40000000000000 := by omega
                  generalize (eat es y).weight = we at *
                  have HSS : Hid ((fun q => q.cell? ⟨w.heap.size + 1, 2, none⟩ = some (.int .i64 ct) ∧ q.cell? ⟨eb y, 2, none⟩ = some (.int .i64 we)) wt.drew) := ⟨s1, s2⟩
                  clear s1 s2
                  have hmx : Tryz.prog.follows .mixedOrders = true := by kernel_rfl
                  refine (wpIn_wide (n := 9)).1 ?_
                  refine wpIn_region_S (c := 9) (S := fun q => q.cell? ⟨w.heap.size + 1, 2, none⟩ = some (.int .i64 ct) ∧ q.cell? ⟨eb y, 2, none⟩ = some (.int .i64 we)) hmx (by kernel_rfl) (fun hw hcl => ?_)
                  refine anyS_take (i := 0) (v := .pointer (some ⟨w.heap.size + 1, 2, none⟩)) hw (by decide) hcl (noDefer_none rfl) rfl (by kernel_rfl) (by kernel_rfl) (by kernel_rfl) (fun _ _ _ h => h) ⟨Or.inl ⟨by kernel_rfl, ?y0⟩, fun _ => rfl⟩ HSS.out (fun hcl => ?_)
                  case y0 =>
                    rintro q ⟨c1, c2⟩
                    go_simp
                  refine anyS_take (i := 1) (v := .int .i64 (ct)) hw (by decide) hcl (noDefer_none rfl) rfl (by kernel_rfl) (by kernel_rfl) (by kernel_rfl) (fun _ _ _ h => h) ⟨Or.inl ⟨by kernel_rfl, ?y1⟩, fun _ => rfl⟩ HSS.out (fun hcl => ?_)
                  case y1 =>
                    rintro q ⟨c1, c2⟩
                    go_simp
                  refine anyS_take (i := 2) (v := .pointer (some ⟨eb y, 0, none⟩)) hw (by decide) hcl (noDefer_none rfl) rfl (by kernel_rfl) (by kernel_rfl) (by kernel_rfl) (fun _ _ _ h => h) ⟨Or.inl ⟨by kernel_rfl, ?y2⟩, fun _ => rfl⟩ HSS.out (fun hcl => ?_)
                  case y2 =>
                    rintro q ⟨c1, c2⟩
                    go_simp
                  refine anyS_take (i := 3) (v := .pointer (some ⟨eb y, 0, none⟩)) hw (by decide) hcl (noDefer_none rfl) rfl (by kernel_rfl) (by kernel_rfl) (by kernel_rfl) (fun _ _ _ h => h) ⟨Or.inl ⟨by kernel_rfl, ?y3⟩, fun _ => rfl⟩ HSS.out (fun hcl => ?_)
                  case y3 =>
                    rintro q ⟨c1, c2⟩
                    go_simp
                  refine anyS_take (i := 4) (v := .pointer (some ⟨eb y, 0, none⟩)) hw (by decide) hcl (noDefer_none rfl) rfl (by kernel_rfl) (by kernel_rfl) (by kernel_rfl) (fun _ _ _ h => h) ⟨Or.inl ⟨by kernel_rfl, ?y4⟩, fun _ => rfl⟩ HSS.out (fun hcl => ?_)
                  case y4 =>
                    rintro q ⟨c1, c2⟩
                    go_simp
                  refine anyS_take (i := 5) (v := .pointer (some ⟨eb y, 2, none⟩)) hw (by decide) hcl (noDefer_none rfl) rfl (by kernel_rfl) (by kernel_rfl) (by kernel_rfl) (fun _ _ _ h => h) ⟨Or.inl ⟨by kernel_rfl, ?y5⟩, fun _ => rfl⟩ HSS.out (fun hcl => ?_)
                  case y5 =>
                    rintro q ⟨c1, c2⟩
                    go_simp
                  refine anyS_take (i := 6) (v := .int .i64 (we)) hw (by decide) hcl (noDefer_none rfl) rfl (by kernel_rfl) (by kernel_rfl) (by kernel_rfl) (fun _ _ _ h => h) ⟨Or.inl ⟨by kernel_rfl, ?y6⟩, fun _ => rfl⟩ HSS.out (fun hcl => ?_)
                  case y6 =>
                    rintro q ⟨c1, c2⟩
                    go_simp
                  refine anyS_take (i := 7) (v := .int .i64 (ct + we)) hw (by decide) hcl (noDefer_none rfl) rfl (by kernel_rfl) (by kernel_rfl) (by kernel_rfl) (fun _ _ _ h => h) ⟨Or.inl ⟨by kernel_rfl, ?y7⟩, fun _ => rfl⟩ HSS.out (fun hcl => ?_)
                  case y7 =>
                    rintro q ⟨c1, c2⟩
                    go_simp
                    exact Go.IntWalk.i64_in _ ⟨by omega, by omega⟩
                  refine anyS_take (i := 8) (v := .pointer (some ⟨w.heap.size + 1, 2, none⟩)) hw (by decide) hcl (noDefer_none rfl) rfl (by kernel_rfl) (by kernel_rfl) (by kernel_rfl) (fun _ _ _ h => h) ⟨Or.inl ⟨by kernel_rfl, ?y8⟩, fun _ => rfl⟩ HSS.out (fun hcl => ?_)
                  case y8 =>
                    rintro q ⟨c1, c2⟩
                    go_simp

                  refine anyS_one (i := 9) (by kernel_rfl) (wpOpIn_step rfl (fun K hK => ?_))
                  go_simp
                  refine hK _ _ ⟨Or.inl (by decide), ?_⟩
                  clear hK K
                  refine anyS_done (by kernel_rfl) ?_ _
                  clear hw hcl HSS f2 s1'
                  generalize hWU : (wt.setCell ⟨w.heap.size + 1, 2, none⟩ (.int .i64 (ct + we))).drew = wu
                  have HXu : Hid (Nx w wu) := by unfold Hid; rw [← hWU]; exact (Below.setCell HXt.out (Nat.le_succ _) _).drew
                  have BVu : Hid (Blk wu (w.heap.size + 1) #[.int .i64 0, .int .i64 ((n : Int) + 1), .int .i64 (ct + we)]) := by unfold Hid; rw [← hWU]; exact (BVt.out.set 2 _).drew
                  have BRu : Hid (Blk wu w.heap.size #[.int .i64 0, .int .i64 0, .int .i64 0]) := by unfold Hid; rw [← hWU]; exact (BRt.out.setOther (by omega) _ _).drew
                  clear hWU
                  have HJu : Hid (JP N es rules walk wb eb bv mv g br v3 (.slice (some ⟨pb, po, none⟩) ml ec) (.slice (some ⟨bw, ow, none⟩) nw cw) wu.drew) := HJ.out.next HXu.out.drew
                  have hxl : x < ml := by have := HXE.out; have := HML.out; omega
                  have htc := turnC_le HCI.out x y
                  have HCN2 : Hid (costTo N es walk (n + 1) = ct + we + turnC N es x y) := by unfold Hid; rw [HCN.out, if_neg (by omega), HXX.out, Int.toNat_natCast]
                  have CT := turnCost_any 0 N es br (eb x) (eb y) _ _ x y v3 _ HJu.out.r3 HJu.out.r4 HJu.out.turns (HJu.out.edge x HXE.out 6 _ rfl) (HJu.out.edge x HXE.out 8 _ rfl) (HJu.out.way x HXE.out) (HJu.out.edge y HYE.out 7 _ rfl) (HJu.out.edge y HYE.out 8 _ rfl) (HJu.out.way y HYE.out) HAT.out HTI.out (HTW.out x y hxl hy) HCI.out
                  generalize turnC N es x y = tc at *
                  generalize hc2 : ct + we = c2 at *
                  have hc2b : 0 ≤ c2 ∧ c2 ≤ 41000000000000 := by omega
                  clear hc2 HCN
                  have HCTC : Hid (Calls Tryz.prog 82 #[.pointer (some ⟨br, 0, none⟩), .pointer (some ⟨eb x, 0, none⟩), .pointer (some ⟨eb y, 0, none⟩)] wu.drew fun r w' => r = .returned (.int .i64 tc) ∧ Nx wu.drew w') := CT
                  clear CT
                  have HSS : Hid ((fun q => q.cell? ⟨w.heap.size + 1, 2, none⟩ = some (.int .i64 c2)) wu.drew) := BVu.out.cell (i := 2) rfl
                  go_upto_region 29 with fail
                  refine (wpIn_wide (n := 9)).1 ?_
                  refine wpIn_region_S (c := 8) (S := fun q => q.cell? ⟨w.heap.size + 1, 2, none⟩ = some (.int .i64 c2)) hmx (by kernel_rfl) (fun hw hcl => ?_)
                  refine anyS_take (i := 0) (v := .pointer (some ⟨w.heap.size + 1, 2, none⟩)) hw (by decide) hcl (noDefer_none rfl) rfl (by kernel_rfl) (by kernel_rfl) (by kernel_rfl) (fun _ _ _ h => h) ⟨Or.inl ⟨by kernel_rfl, ?y0⟩, fun _ => rfl⟩ HSS.out (fun hcl => ?_)
                  case y0 =>
                    rintro q c1
                    go_simp
                  refine anyS_take (i := 1) (v := .int .i64 (c2)) hw (by decide) hcl (noDefer_none rfl) rfl (by kernel_rfl) (by kernel_rfl) (by kernel_rfl) (fun _ _ _ h => h) ⟨Or.inl ⟨by kernel_rfl, ?y1⟩, fun _ => rfl⟩ HSS.out (fun hcl => ?_)
                  case y1 =>
                    rintro q c1
                    go_simp
                  refine anyS_take (i := 2) (v := .pointer (some ⟨br, 0, none⟩)) hw (by decide) hcl (noDefer_none rfl) rfl (by kernel_rfl) (by kernel_rfl) (by kernel_rfl) (fun _ _ _ h => h) ⟨Or.inl ⟨by kernel_rfl, ?y2⟩, fun _ => rfl⟩ HSS.out (fun hcl => ?_)
                  case y2 =>
                    rintro q c1
                    go_simp
                  refine anyS_take (i := 3) (v := .pointer (some ⟨eb x, 0, none⟩)) hw (by decide) hcl (noDefer_none rfl) rfl (by kernel_rfl) (by kernel_rfl) (by kernel_rfl) (fun _ _ _ h => h) ⟨Or.inl ⟨by kernel_rfl, ?y3⟩, fun _ => rfl⟩ HSS.out (fun hcl => ?_)
                  case y3 =>
                    rintro q c1
                    go_simp
                  refine anyS_take (i := 4) (v := .pointer (some ⟨eb y, 0, none⟩)) hw (by decide) hcl (noDefer_none rfl) rfl (by kernel_rfl) (by kernel_rfl) (by kernel_rfl) (fun _ _ _ h => h) ⟨Or.inl ⟨by kernel_rfl, ?y4⟩, fun _ => rfl⟩ HSS.out (fun hcl => ?_)
                  case y4 =>
                    rintro q c1
                    go_simp

                  refine anyS_one2 (i := 5) (by kernel_rfl) hcl (fun hcl => wpOpIn_step rfl (fun K hK => ?_))
                  go_simp
                  refine ⟨trivial, (callsIn_wide.2 HCTC.out).mono ?_⟩
                  rintro e7 w7 ⟨rfl, hx7⟩
                  have HX7 : Hid (Nx wu.drew w7) := hx7
                  have HS7 : Hid ((fun q => q.cell? ⟨w.heap.size + 1, 2, none⟩ = some (.int .i64 c2)) w7) := cellq hx7 HSS.out
                  have BV7 : Hid (Blk w7 (w.heap.size + 1) #[.int .i64 0, .int .i64 ((n : Int) + 1), .int .i64 c2]) := BVu.out.drew.next hx7
                  have BR7 : Hid (Blk w7 w.heap.size #[.int .i64 0, .int .i64 0, .int .i64 0]) := BRu.out.drew.next hx7
                  have HX7w : Hid (Nx w w7) := HXu.out.drew.trans hx7
                  refine hK _ _ ⟨Or.inr HS7.out, ?_⟩
                  clear hK K hx7 HCTC
                  refine anyS_take (i := 6) (v := .int .i64 (c2 + tc)) hw (by decide) hcl (noDefer_none rfl) rfl (by kernel_rfl) (by kernel_rfl) (by kernel_rfl) (fun _ _ _ h => h) ⟨Or.inl ⟨by kernel_rfl, ?y6⟩, fun _ => rfl⟩ HS7.out (fun hcl => ?_)
                  case y6 =>
                    rintro q c1
                    go_simp
                    exact Go.IntWalk.i64_in _ ⟨by omega, by omega⟩
                  refine anyS_take (i := 7) (v := .pointer (some ⟨w.heap.size + 1, 2, none⟩)) hw (by decide) hcl (noDefer_none rfl) rfl (by kernel_rfl) (by kernel_rfl) (by kernel_rfl) (fun _ _ _ h => h) ⟨Or.inl ⟨by kernel_rfl, ?y7⟩, fun _ => rfl⟩ HS7.out (fun hcl => ?_)
                  case y7 =>
                    rintro q c1
                    go_simp

                  have f2 := BV7.out.frozen 2
                  have s1' : w7.cell? ⟨w.heap.size + 1, 2, none⟩ = some (.int .i64 c2) := HS7.out
                  refine anyS_one (i := 8) (by kernel_rfl) (wpOpIn_step rfl (fun K hK => ?_))
                  go_simp
                  refine hK _ _ ⟨Or.inl (by decide), ?_⟩
                  clear hK K
                  refine anyS_done (by kernel_rfl) ?_ _
                  clear hw hcl HSS HS7 f2 s1'
                  generalize hWE : w7.setCell ⟨w.heap.size + 1, 2, none⟩ (.int .i64 (c2 + tc)) = we7
                  have HXe : Hid (Nx w we7) := by unfold Hid; rw [← hWE]; exact Below.setCell HX7w.out (Nat.le_succ _) _
                  have BVe : Hid (Blk we7 (w.heap.size + 1) #[.int .i64 0, .int .i64 ((n + 1 : Nat) : Int), .int .i64 (costTo N es walk (n + 1))]) := by unfold Hid; rw [← hWE, HCN2.out]; exact BV7.out.set 2 _
                  have BRe : Hid (Blk we7 w.heap.size #[.int .i64 0, .int .i64 0, .int .i64 0]) := by unfold Hid; rw [← hWE]; exact BR7.out.setOther (by omega) _ _
                  clear hWE
                  have HJe : Hid (JP N es rules walk wb eb bv mv g br v3 (.slice (some ⟨pb, po, none⟩) ml ec) (.slice (some ⟨bw, ow, none⟩) nw cw) we7) := HJ.out.next HXe.out
                  have HBM1 : Hid (∃ vm, we7.cell? ⟨eb y, 10, none⟩ = some vm ∧ HPr we7 vm g (mustsAt rules walk (n + 1))) := ⟨_, HJe.out.edge y HYE.out 10 _ rfl, by rw [HMS.out]; exact HJe.out.musts y HYE.out⟩
                  go_wp2
                  go_roundg go
                  case measure => omega
                  case rel => exact ⟨n + 1, eb y, by omega, by first | rfl | go_num, rfl, HBM1, HBE1, HXe, BVe, BRe, HZ1, HJ1⟩
                | succ gk =>
                  have hj : j < nm := by omega
                  have hj' : (j : Int) < nm := by omega
                  obtain ⟨lb, lo, rfl, _, _, cb⟩ := HMK.out (by omega)
                  have e1 := cellq HXk.out (cb j hj)
                  have HQL : Hid (ml2.getD j 0 < rules.length) := by unfold Hid; rw [← HMLL.out]; exact mustsAt_lt (by rw [HMLL.out, HNM.out]; exact hj)
                  generalize hq : ml2.getD j 0 = q at *
                  have HQ : Hid (ml2.getD j 0 = q) := hq
                  obtain ⟨u, hu1, hu2, hu3⟩ := (HJw.out.next HXk.out).rule q HQL.out
                  have hs2 := HSQ.out q HQL.out
                  have hu2' := hu2
                  obtain ⟨ua, uc, eu, hmm, huk⟩ := hu2
                  unfold maxLen at hmm
                  obtain ⟨qb, qo, rfl, _, _, cq⟩ := huk (by omega)
                  have HWr : Hid (HInts 0 wr (.slice (some ⟨bw, ow, none⟩) nw cw) walk) := (HJw.out.next HXk.out).wlk
                  have huc : (ruat rules q).seq.length ≤ uc := by
                    obtain ⟨_, _, _, e, hc⟩ := hu3
                    rw [eu] at e
                    simp only [Value.slice.injEq] at e
                    obtain ⟨_, rfl, rfl⟩ := e
                    exact hc
                  have e3 := cq ((ruat rules q).seq.length - 1) (by omega)
                  have HMQ : Hid (mustQ rules walk n q = (ewB (walk.take n) ((ruat rules q).seq.take ((ruat rules q).seq.length - 1)) && (iat (ruat rules q).seq ((ruat rules q).seq.length - 1) != (y : Int)))) := by unfold Hid mustQ; rw [HYI.out]
                  subst eu
                  have HU : Hid (HInts 0 wr (.slice (some ⟨qb, qo, none⟩) ((ruat rules q).seq.length - 1) uc) ((ruat rules q).seq.take ((ruat rules q).seq.length - 1))) := hu2'.take _ (by omega)
                  generalize hm : (ruat rules q).seq.length = m at *
                  have HM : Hid ((ruat rules q).seq.length = m) := hm
                  generalize hzz : iat (ruat rules q).seq (m - 1) = zz at *
                  have hnc : (n : Int) ≤ cw := by omega
                  have hnc2 : n ≤ cw := by omega
                  have k3 : (m : Int) - 1 = ((m - 1 : Nat) : Int) := by omega
                  have k4 : ((m - 1 : Nat) : Int) < m := by omega
                  have k5 : ((m - 1 : Nat) : Int) ≤ uc := by omega
                  have k6 : m - 1 ≤ uc := by omega
                  have CG : Hid (∀ d os, Calls Tryz.prog 81 #[.slice (some ⟨bw, ow, none⟩) n cw, .slice (some ⟨qb, qo, none⟩) (m - 1) uc] (Sort.grow (redrawn wr d) os) fun e w'' => e = .returned (.bool (ewB (walk.take n) ((ruat rules q).seq.take (m - 1)))) ∧ ∃ p : Regrown, w'' = Sort.grow (redrawn wr p.d) p.os) :=
                    fun d os => Calls.regrown_of (endsWith_any 0 0 bw ow n cw _ (walk.take n) ((ruat rules q).seq.take (m - 1)) _ ((HWr.out.next (below_regrown wr d os)).take n (by omega)) (by omega) (HU.out.next (below_regrown wr d os)) (by rw [List.length_take, HM.out]; omega))
                  have c2 := cell_regrown hu1
                  have c3 := cell_regrown e3
                  generalize hE : ewB (walk.take n) ((ruat rules q).seq.take (m - 1)) = eB at CG HMQ
                  clear cb hq hu2' hu3 huk cq hm hE hzz e3
                  go_upto_region 23 with fail
                  clear hu1
                  cases eB with
                  | true =>
                    by_cases hzy : zz = (y : Int)
                    · have dz : (zz != (y : Int)) = false := by simpa using hzy
                      have HBF1 : Hid (mustQ rules walk n (ml2.getD j 0) = false) := by unfold Hid; rw [HQ.out, HMQ.out, dz]; rfl
                      clear hzy
                      refine wp_region_quiet_below (by kernel_rfl) (by kernel_rfl) ?_
                      repeat (go_big_quiet_step (exact CG.out _ _))
                      refine wpQuiet_nil ?_
                      intro _ hw'
                      obtain ⟨⟨dq, osq⟩, hw''⟩ := hw'
                      subst hw''
                      have HQ1 : Hid (Nx wr (Sort.grow (redrawn wr dq) osq)) := below_regrown wr dq osq
                      clear c2 c3 CG
                      generalize Sort.grow (redrawn wr dq) osq = wq at *
                      have HXq : Hid (Nx wx wq) := HXk.out.trans HQ1.out
                      have HXwq : Hid (Nx w wq) := HXwr.out.trans HXq.out
                      go_wp2
                      go_roundg gk
                      case measure => omega
                      case rel => exact ⟨j + 1, by omega, by first | rfl | go_num, upto_succ HBF.out HBF1.out, HXq⟩
                    · have dz : (zz != (y : Int)) = true := by simpa using hzy
                      have HBF1 : Hid (mustQ rules walk n (ml2.getD j 0) = true) := by unfold Hid; rw [HQ.out, HMQ.out, dz]; rfl
                      clear hzy
                      refine wp_region_quiet_below (by kernel_rfl) (by kernel_rfl) ?_
                      repeat (go_big_quiet_step (exact CG.out _ _))
                      refine wpQuiet_nil ?_
                      intro _ hw'
                      obtain ⟨⟨dq, osq⟩, hw''⟩ := hw'
                      subst hw''
                      have HQ1 : Hid (Nx wr (Sort.grow (redrawn wr dq) osq)) := below_regrown wr dq osq
                      clear c2 c3 CG
                      generalize Sort.grow (redrawn wr dq) osq = wq at *
                      have HXq : Hid (Nx wx wq) := HXk.out.trans HQ1.out
                      have HXwq : Hid (Nx w wq) := HXwr.out.trans HXq.out
                      have BVq : Hid (Blk wq (w.heap.size + 1) #[.int .i64 0, .int .i64 (n : Int), .int .i64 ct]) := BVw.out.next HXq.out
                      have BRq : Hid (Blk wq w.heap.size #[.int .i64 0, .int .i64 0, .int .i64 0]) := BRw.out.next HXq.out
                      have HRC : Hid (reasonJ es rules walk n = 6) := by unfold Hid; rw [HR6.out, if_pos (by rw [HMA.out]; exact getD_any (i := j) (by rw [HNM.out]; exact hj) HBF1.out)]
                      have HST : Hid (judgeP N es rules walk = ⟨6, n, ct⟩) := by unfold Hid; rw [HJG.out, jdg_stop (by rw [HNW.out]; exact hlt) (by rw [HRC.out]; decide), HRC.out, HCT.out]; all_goals rfl
                      have x0 := BVq.out.cell (i := 0) rfl
                      have z0 := BVq.out.frozen 0
                      go_upto_region 32 with fail
                      generalize hWV : wq.setCell ⟨w.heap.size + 1, 0, none⟩ (.int .i64 6) = wV
                      have BVV : Hid (Blk wV (w.heap.size + 1) #[.int .i64 6, .int .i64 (n : Int), .int .i64 ct]) := by unfold Hid; rw [← hWV]; exact BVq.out.set 0 (.int .i64 6)
                      have BRV : Hid (Blk wV w.heap.size #[.int .i64 0, .int .i64 0, .int .i64 0]) := by unfold Hid; rw [← hWV]; exact BRq.out.setOther (by omega) _ _
                      have HXV : Hid (Nx w wV) := by unfold Hid; rw [← hWV]; exact Below.setCell HXwq.out (Nat.le_succ _) _
                      clear hWV x0 z0
                      have y0 := BVV.out.cell (i := 0) rfl
                      have y1 := BVV.out.cell (i := 1) rfl
                      have y2 := BVV.out.cell (i := 2) rfl
                      have x0 := BRV.out.cell (i := 0) rfl
                      have x1 := BRV.out.cell (i := 1) rfl
                      have x2 := BRV.out.cell (i := 2) rfl
                      have z0 := BRV.out.frozen 0
                      have z1 := BRV.out.frozen 1
                      have z2 := BRV.out.frozen 2
                      have BR' := ((BRV.out.set 0 (.int .i64 6)).set 1 (.int .i64 (n : Int))).set 2 (.int .i64 ct)
                      have P0 : Hid (_ = some (Value.int .i64 6)) := BR'.cell (i := 0) rfl
                      have P1 : Hid (_ = some (Value.int .i64 (n : Int))) := BR'.cell (i := 1) rfl
                      have P2 : Hid (_ = some (Value.int .i64 ct)) := BR'.cell (i := 2) rfl
                      clear BR'
                      go_wp2
                      try rw [Exit.noGoto_ret]
                      have p0 := P0.out
                      have p1 := P1.out
                      have p2 := P2.out
                      refine bodyPost_ret (v := .agg #[.int .i64 6, .int .i64 (n : Int), .int .i64 ct]) (by simp [results, Tryz.results48, go_sem, p0, p1, p2]) rfl ?_
                      rw [HST.out]
                      exact ⟨rfl, Below.setCell (Below.setCell (Below.setCell HXV.out (Nat.le_refl _) _) (Nat.le_refl _) _) (Nat.le_refl _) _⟩
                  | false =>
                    have HBF1 : Hid (mustQ rules walk n (ml2.getD j 0) = false) := by unfold Hid; rw [HQ.out, HMQ.out]; rfl
                    refine wp_region_quiet_below (by kernel_rfl) (by kernel_rfl) ?_
                    repeat (go_big_quiet_step (exact CG.out _ _))
                    refine wpQuiet_nil ?_
                    intro _ hw'
                    obtain ⟨⟨dq, osq⟩, hw''⟩ := hw'
                    subst hw''
                    have HQ1 : Hid (Nx wr (Sort.grow (redrawn wr dq) osq)) := below_regrown wr dq osq
                    clear c2 c3 CG
                    generalize Sort.grow (redrawn wr dq) osq = wq at *
                    have HXq : Hid (Nx wx wq) := HXk.out.trans HQ1.out
                    have HXwq : Hid (Nx w wq) := HXwr.out.trans HXq.out
                    go_wp2
                    go_roundg gk
                    case measure => omega
                    case rel => exact ⟨j + 1, by omega, by first | rfl | go_num, upto_succ HBF.out HBF1.out, HXq⟩
            | succ gk =>
              have hj : j < nb := by omega
              have hj' : (j : Int) < nb := by omega
              obtain ⟨lb, lo, rfl, _, _, cb⟩ := HBK.out (by omega)
              have e1 := cellq HXj.out (cb j hj)
              have HQL : Hid (bl.getD j 0 < rules.length) := by unfold Hid; rw [← HBL.out]; exact bansTo_lt (by rw [HBL.out, HNB.out]; exact hj)
              generalize hq : bl.getD j 0 = q at *
              have HQ : Hid (bl.getD j 0 = q) := hq
              obtain ⟨u, hu1, hu2, hu3⟩ := (HJp.out.next HXj.out).rule q HQL.out
              have hs2 := HSQ.out q HQL.out
              have HU : Hid (HInts 0 wr u (ruat rules q).seq) := hu2
              obtain ⟨ua, uc, eu, _, huk⟩ := hu2
              obtain ⟨qb, qo, rfl, _, _, cq⟩ := huk (by omega)
              have HWr : Hid (HInts 0 wr (.slice (some ⟨bw, ow, none⟩) nw cw) walk) := (HJp.out.next HXj.out).wlk
              have hnc : (n : Int) + 1 ≤ cw := by omega
              generalize hm : (ruat rules q).seq.length = m at *
              have HM : Hid ((ruat rules q).seq.length = m) := hm
              subst eu
              have CG : Hid (∀ d os, Calls Tryz.prog 81 #[.slice (some ⟨bw, ow, none⟩) (n + 1) cw, .slice (some ⟨qb, qo, none⟩) m uc] (Sort.grow (redrawn wr d) os) fun e w'' => e = .returned (.bool (ewB (walk.take (n + 1)) (ruat rules q).seq)) ∧ ∃ p : Regrown, w'' = Sort.grow (redrawn wr p.d) p.os) :=
                fun d os => Calls.regrown_of (endsWith_any 0 0 bw ow (n + 1) cw _ (walk.take (n + 1)) (ruat rules q).seq _ ((HWr.out.next (below_regrown wr d os)).take (n + 1) (by omega)) (by omega) (HU.out.next (below_regrown wr d os)) (by rw [HM.out]; omega))
              have c2 := cell_regrown hu1
              generalize hE : ewB (walk.take (n + 1)) (ruat rules q).seq = eB at CG
              have HE : Hid (ewB (walk.take (n + 1)) (ruat rules q).seq = eB) := hE
              clear cb hq hu1 hu3 huk cq hm hE
              go_upto_region 16 with fail
              cases eB with
              | true =>
                refine wp_region_quiet_below (by kernel_rfl) (by kernel_rfl) ?_
                repeat (go_big_quiet_step (exact CG.out _ _))
                refine wpQuiet_nil ?_
                intro _ hw'
                obtain ⟨⟨dq, osq⟩, hw''⟩ := hw'
                subst hw''
                have HQ1 : Hid (Nx wr (Sort.grow (redrawn wr dq) osq)) := below_regrown wr dq osq
                clear c2 CG
                generalize Sort.grow (redrawn wr dq) osq = wq at *
                have HXq : Hid (Nx wp wq) := HXj.out.trans HQ1.out
                have HXwq : Hid (Nx w wq) := HXp.out.trans HXq.out
                have BVq : Hid (Blk wq (w.heap.size + 1) #[.int .i64 0, .int .i64 (n : Int), .int .i64 ct]) := BVp.out.next HXq.out
                have BRq : Hid (Blk wq w.heap.size #[.int .i64 0, .int .i64 0, .int .i64 0]) := BRp.out.next HXq.out
                have HRC : Hid (reasonJ es rules walk n = 5) := by unfold Hid; rw [HR5.out, if_pos (by rw [HBA.out]; exact getD_any (i := j) (by rw [HNB.out]; exact hj) (by rw [HQ.out]; exact HE.out))]
                have HST : Hid (judgeP N es rules walk = ⟨5, n, ct⟩) := by unfold Hid; rw [HJG.out, jdg_stop (by rw [HNW.out]; exact hlt) (by rw [HRC.out]; decide), HRC.out, HCT.out]; all_goals rfl
                have x0 := BVq.out.cell (i := 0) rfl
                have z0 := BVq.out.frozen 0
                go_upto_region 32 with fail
                generalize hWV : wq.setCell ⟨w.heap.size + 1, 0, none⟩ (.int .i64 5) = wV
                have BVV : Hid (Blk wV (w.heap.size + 1) #[.int .i64 5, .int .i64 (n : Int), .int .i64 ct]) := by unfold Hid; rw [← hWV]; exact BVq.out.set 0 (.int .i64 5)
                have BRV : Hid (Blk wV w.heap.size #[.int .i64 0, .int .i64 0, .int .i64 0]) := by unfold Hid; rw [← hWV]; exact BRq.out.setOther (by omega) _ _
                have HXV : Hid (Nx w wV) := by unfold Hid; rw [← hWV]; exact Below.setCell HXwq.out (Nat.le_succ _) _
                clear hWV x0 z0
                have y0 := BVV.out.cell (i := 0) rfl
                have y1 := BVV.out.cell (i := 1) rfl
                have y2 := BVV.out.cell (i := 2) rfl
                have x0 := BRV.out.cell (i := 0) rfl
                have x1 := BRV.out.cell (i := 1) rfl
                have x2 := BRV.out.cell (i := 2) rfl
                have z0 := BRV.out.frozen 0
                have z1 := BRV.out.frozen 1
                have z2 := BRV.out.frozen 2
                have BR' := ((BRV.out.set 0 (.int .i64 5)).set 1 (.int .i64 (n : Int))).set 2 (.int .i64 ct)
                have P0 : Hid (_ = some (Value.int .i64 5)) := BR'.cell (i := 0) rfl
                have P1 : Hid (_ = some (Value.int .i64 (n : Int))) := BR'.cell (i := 1) rfl
                have P2 : Hid (_ = some (Value.int .i64 ct)) := BR'.cell (i := 2) rfl
                clear BR'
                go_wp2
                try rw [Exit.noGoto_ret]
                have p0 := P0.out
                have p1 := P1.out
                have p2 := P2.out
                refine bodyPost_ret (v := .agg #[.int .i64 5, .int .i64 (n : Int), .int .i64 ct]) (by simp [results, Tryz.results48, go_sem, p0, p1, p2]) rfl ?_
                rw [HST.out]
                exact ⟨rfl, Below.setCell (Below.setCell (Below.setCell HXV.out (Nat.le_refl _) _) (Nat.le_refl _) _) (Nat.le_refl _) _⟩
              | false =>
                refine wp_region_quiet_below (by kernel_rfl) (by kernel_rfl) ?_
                repeat (go_big_quiet_step (exact CG.out _ _))
                refine wpQuiet_nil ?_
                intro _ hw'
                obtain ⟨⟨dq, osq⟩, hw''⟩ := hw'
                subst hw''
                have HQ1 : Hid (Nx wr (Sort.grow (redrawn wr dq) osq)) := below_regrown wr dq osq
                clear c2 CG
                generalize Sort.grow (redrawn wr dq) osq = wq at *
                have HXq : Hid (Nx wp wq) := HXj.out.trans HQ1.out
                have HXwq : Hid (Nx w wq) := HXp.out.trans HXq.out
                have HBF1 : Hid (ewB (walk.take (n + 1)) (ruat rules (bl.getD j 0)).seq = false) := by unfold Hid; rw [HQ.out]; exact HE.out
                go_wp2
                go_roundg gk
                case measure => omega
                case rel => exact ⟨j + 1, by omega, by first | rfl | go_num, upto_succ HBF.out HBF1.out, HXq⟩
        · have dd : (hd != tl) = true := by simpa using heq
          have HRC : Hid (reasonJ es rules walk n = 4) := by unfold Hid; rw [HR1.out, if_pos ⟨hn1, heq⟩]
          clear HR1 heq
          go_upto_region 11 with fail
          go_quiet (fail)
          have BVq : Hid (Blk (wr.drewN nq) (w.heap.size + 1) #[.int .i64 0, .int .i64 (n : Int), .int .i64 ct]) := BV.out.next (nx_drewN _ _)
          have BRq : Hid (Blk (wr.drewN nq) w.heap.size #[.int .i64 0, .int .i64 0, .int .i64 0]) := BR.out.next (nx_drewN _ _)
          have HXq : Hid (Nx w (wr.drewN nq)) := HX.out.trans (nx_drewN _ _)
          generalize wr.drewN nq = wq at *
          clear d1 d5 d6 t0 t1 dd
          have HST : Hid (judgeP N es rules walk = ⟨4, n, ct⟩) := by unfold Hid; rw [HJG.out, jdg_stop (by rw [HNW.out]; exact hlt) (by rw [HRC.out]; decide), HRC.out, HCT.out]; all_goals rfl
          have x0 := BVq.out.cell (i := 0) rfl
          have z0 := BVq.out.frozen 0
          go_upto_region 32 with fail
          generalize hWV : wq.setCell ⟨w.heap.size + 1, 0, none⟩ (.int .i64 4) = wV
          have BVV : Hid (Blk wV (w.heap.size + 1) #[.int .i64 4, .int .i64 (n : Int), .int .i64 ct]) := by unfold Hid; rw [← hWV]; exact BVq.out.set 0 (.int .i64 4)
          have BRV : Hid (Blk wV w.heap.size #[.int .i64 0, .int .i64 0, .int .i64 0]) := by unfold Hid; rw [← hWV]; exact BRq.out.setOther (by omega) _ _
          have HXV : Hid (Nx w wV) := by unfold Hid; rw [← hWV]; exact Below.setCell HXq.out (Nat.le_succ _) _
          clear hWV x0 z0
          have y0 := BVV.out.cell (i := 0) rfl
          have y1 := BVV.out.cell (i := 1) rfl
          have y2 := BVV.out.cell (i := 2) rfl
          have x0 := BRV.out.cell (i := 0) rfl
          have x1 := BRV.out.cell (i := 1) rfl
          have x2 := BRV.out.cell (i := 2) rfl
          have z0 := BRV.out.frozen 0
          have z1 := BRV.out.frozen 1
          have z2 := BRV.out.frozen 2
          have BR' := ((BRV.out.set 0 (.int .i64 4)).set 1 (.int .i64 (n : Int))).set 2 (.int .i64 ct)
          have P0 : Hid (_ = some (Value.int .i64 4)) := BR'.cell (i := 0) rfl
          have P1 : Hid (_ = some (Value.int .i64 (n : Int))) := BR'.cell (i := 1) rfl
          have P2 : Hid (_ = some (Value.int .i64 ct)) := BR'.cell (i := 2) rfl
          clear BR'
          go_wp2
          try rw [Exit.noGoto_ret]
          have p0 := P0.out
          have p1 := P1.out
          have p2 := P2.out
          refine bodyPost_ret (v := .agg #[.int .i64 4, .int .i64 (n : Int), .int .i64 ct]) (by simp [results, Tryz.results48, go_sem, p0, p1, p2]) rfl ?_
          rw [HST.out]
          exact ⟨rfl, Below.setCell (Below.setCell (Below.setCell HXV.out (Nat.le_refl _) _) (Nat.le_refl _) _) (Nat.le_refl _) _⟩
  skip
end Go.Proofs.YtcdjmpbdaiafgaaGreatDoor
