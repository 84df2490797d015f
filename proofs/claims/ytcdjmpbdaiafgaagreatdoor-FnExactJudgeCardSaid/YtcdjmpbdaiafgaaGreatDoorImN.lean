import Derived.Test.YtcdjmpbdaiafgaaGreatDoorImM
namespace Go.Proofs.YtcdjmpbdaiafgaaGreatDoor
open Go.RowKit
set_option linter.unusedVariables false

def relsOk (N : Nt) : Bool := allN N.rels.length (fun i => relGood N (rat N.rels i))

set_option maxHeartbeats 1000000 in
theorem validRels_any (B : Nat) (v0 v1 v2 v3 : Value) (u : Int) (N : Nt) (w : World) (h0 : HInts B w v0 N.nodes) (h1 : HWays B w v1 N.ways) (h2 : HRels B w v2 N.rels) (hasc : ascI N.nodes = true) (hascw : ascW N.ways = true) :
    Calls Tryz.prog 66 #[.agg #[v0, v1, v2, v3, .int .i64 u]] w fun e w' => e = .returned (.bool (relsOk N && ascR N.rels)) ∧ Nx w w' := by
  have HASC : Hid (ascI N.nodes = true) := hasc
  have HASW : Hid (ascW N.ways = true) := hascw
  clear hasc hascw
  have H2 := h2
  obtain ⟨a, cap, rfl, hn, hk⟩ := h2
  unfold maxLen at hn
  generalize hz : N.rels.length = n at *
  have HZ : Hid (N.rels.length = n) := hz
  clear hz
  go_enter Tryz.func66, Tryz.ntmps66
  go_wp2
  go_loopw [4, 8] (fun p i wr => ∃ k : Nat, k ≤ n ∧ i = .int .i64 k ∧ Hid (allTo (fun i => relGood N (rat N.rels i)) k) ∧ Hid (Nx (w.alloc (.cells #[v0, v1, .slice a n cap, v3, .int .i64 u] 38)) wr)) (fun _ i _ => n - (intOf i).toNat)
  case atStart => exact ⟨0, Nat.zero_le _, rfl, allTo_zero _, Nx.refl _⟩
  case round =>
    obtain ⟨k, hkn, rfl, hrel, HN⟩ := hrel
    have BA := (Blk.new w #[v0, v1, .slice a n cap, v3, .int .i64 u] 38 _ rfl).next HN.out
    have k0 := BA.cell (i := 0) rfl
    have k1 := BA.cell (i := 1) rfl
    have k2 := BA.cell (i := 2) rfl
    have k3 := BA.cell (i := 3) rfl
    have k4 := BA.cell (i := 4) rfl
    have hsz := BA.lt
    have HW : Hid (Nx w wr) := (box1 _ _).trans HN.out
    clear BA
    by_cases hlt : k < n
    · obtain ⟨b, off, rfl, hB, hb, hc⟩ := hk (by omega)
      obtain ⟨p1, a0, a1, a2, a3, a4, a5, a6, n1⟩ := hc k hlt
      have m1 := n1.next HW.out
      obtain ⟨an, cn, rfl, _⟩ := n1.slice
      have a0 := cell_next HW.out hb a0
      have a1 := cell_next HW.out hb a1
      have a2 := cell_next HW.out hb a2
      have a3 := cell_next HW.out hb a3
      have a4 := cell_next HW.out hb a4
      have a5 := cell_next HW.out hb a5
      have a6 := cell_next HW.out hb a6
      have hlt' : (k : Int) < n := by omega
      have hbr : b < wr.heap.size := Nat.lt_of_lt_of_le hb HW.out.size
      clear hc hk n1
      by_cases hin : relGood N (rat N.rels k) = true
      · go_wp2_with (go_at_call 96; refine (validRel_any B _ _ _ _ _ N (rat N.rels k) _ _ (by exact (h0.next HW.out).next (box1 _ _)) (by exact (h1.keep (HW.out.keeps B)).keep ((box1 _ _).keeps B)) (by exact m1.next (box1 _ _)) HASC.out HASW.out).mono ?_; rintro e w' ⟨rfl, hx⟩)
        go_roundw
        case rel => exact ⟨k + 1, by omega, by go_num, allTo_succ hrel hin, HN.out.trans ((box1 _ _).trans hx)⟩
        case measure => simp [intOf]; omega
      · have hin' : relGood N (rat N.rels k) = false := by simpa using hin
        go_wp2_with (go_at_call 96; refine (validRel_any B _ _ _ _ _ N (rat N.rels k) _ _ (by exact (h0.next HW.out).next (box1 _ _)) (by exact (h1.keep (HW.out.keeps B)).keep ((box1 _ _).keeps B)) (by exact m1.next (box1 _ _)) HASC.out HASW.out).mono ?_; rintro e w' ⟨rfl, hx⟩)
        go_ret
        exact ⟨ret_bool (by unfold relsOk; rw [allN_no (by rw [HZ.out]; exact hlt) hin']; rfl), HW.out.trans ((box1 _ _).trans hx)⟩
    · have HA : Hid (relsOk N = true) := allN_yes (by rw [HZ.out]; omega) hrel
      have hge : (n : Int) ≤ k := by omega
      go_wp2_with (go_at_call 97; refine (ascR_any B _ N.rels _ (by exact H2.keep (HW.out.keeps B))).mono ?_; rintro e w2 ⟨rfl, hx⟩)
      go_ret
      exact ⟨ret_bool (by rw [HA.out]; rfl), HW.out.trans hx⟩

def turnGood (N : Nt) (t : Tn) : Bool := hasW N.ways t.frm && (hasW N.ways t.to && inB t.cost)
def turnsOk (N : Nt) : Bool := allN N.turns.length (fun i => turnGood N (tat N.turns i))

set_option maxHeartbeats 1000000 in
theorem validTurns_any (B : Nat) (v0 v1 v2 v3 : Value) (u : Int) (N : Nt) (w : World) (h1 : HWays B w v1 N.ways) (h3 : HTurns B w v3 N.turns) (hascw : ascW N.ways = true) :
    Calls Tryz.prog 67 #[.agg #[v0, v1, v2, v3, .int .i64 u]] w fun e w' => e = .returned (.bool (turnsOk N && ascT N.turns)) ∧ Nx w w' := by
  have HASW : Hid (ascW N.ways = true) := hascw
  clear hascw
  have H3 := h3
  obtain ⟨a, cap, rfl, hn, hk⟩ := h3
  unfold maxLen at hn
  generalize hz : N.turns.length = n at *
  have HZ : Hid (N.turns.length = n) := hz
  clear hz
  go_enter Tryz.func67, Tryz.ntmps67
  go_wp2
  go_loopw [4, 8] (fun p i wr => ∃ k : Nat, k ≤ n ∧ i = .int .i64 k ∧ Hid (allTo (fun i => turnGood N (tat N.turns i)) k) ∧ Hid (Nx (w.alloc (.cells #[v0, v1, v2, .slice a n cap, .int .i64 u] 38)) wr)) (fun _ i _ => n - (intOf i).toNat)
  case atStart => exact ⟨0, Nat.zero_le _, rfl, allTo_zero _, Nx.refl _⟩
  case round =>
    obtain ⟨k, hkn, rfl, hrel, HN⟩ := hrel
    have BA := (Blk.new w #[v0, v1, v2, .slice a n cap, .int .i64 u] 38 _ rfl).next HN.out
    have k0 := BA.cell (i := 0) rfl
    have k1 := BA.cell (i := 1) rfl
    have k2 := BA.cell (i := 2) rfl
    have k3 := BA.cell (i := 3) rfl
    have k4 := BA.cell (i := 4) rfl
    have hsz := BA.lt
    have HW : Hid (Nx w wr) := (box1 _ _).trans HN.out
    by_cases hlt : k < n
    · obtain ⟨b, off, rfl, hB, hb, hc⟩ := hk (by omega)
      obtain ⟨a0, a1, a2⟩ := hc k hlt
      have a0 := cell_next HW.out hb a0
      have a1 := cell_next HW.out hb a1
      have a2 := cell_next HW.out hb a2
      have hlt' : (k : Int) < n := by omega
      have hbr : b < wr.heap.size := Nat.lt_of_lt_of_le hb HW.out.size
      have HTG : Hid (turnGood N (tat N.turns k) = (hasW N.ways (tat N.turns k).frm && (hasW N.ways (tat N.turns k).to && inB (tat N.turns k).cost))) := rfl
      generalize htt : tat N.turns k = tk at *
      have HTT : Hid (tat N.turns k = tk) := htt
      clear hc hk htt
      have BB := Blk.new wr #[.int .i64 tk.frm, .int .i64 tk.to, .int .i64 tk.cost] 95 _ rfl
      have BAX := BA.alloc (.cells #[.int .i64 tk.frm, .int .i64 tk.to, .int .i64 tk.cost] 95)
      go_wp2_with fail
      refine (hasWay_any B _ _ _ _ _ _ N.ways _ (by exact (h1.keep (HW.out.keeps B)).keep ((box1 _ _).keeps B)) HASW.out).mono ?_
      rintro e w1 ⟨rfl, hx⟩
      have BA1 := BAX.next hx
      have BB1 := BB.next hx
      have HX1 : Hid (Nx wr w1) := (box1 _ _).trans hx
      clear hx BA BB BAX k0 k1 k2 k3 k4 a0 a1 a2
      have k0 := BA1.cell (i := 0) rfl
      have k1 := BA1.cell (i := 1) rfl
      have k2 := BA1.cell (i := 2) rfl
      have k3 := BA1.cell (i := 3) rfl
      have k4 := BA1.cell (i := 4) rfl
      have l1 := BB1.cell (i := 1) rfl
      by_cases e1 : hasW N.ways tk.frm = true
      case neg =>
        have e1' : hasW N.ways tk.frm = false := by simpa using e1
        clear e1
        have HF : Hid (turnGood N (tat N.turns k) = false) := by unfold Hid; rw [HTT.out, HTG.out, e1']; rfl
        go_wp2
        go_ret
        exact ⟨ret_bool (by unfold turnsOk; rw [allN_no (by rw [HZ.out]; exact hlt) HF.out]; rfl), HW.out.trans HX1.out⟩
      go_wp2_with fail
      refine (hasWay_any B _ _ _ _ _ _ N.ways _ (by exact (h1.keep (HW.out.keeps B)).keep (HX1.out.keeps B)) HASW.out).mono ?_
      rintro e w2 ⟨rfl, hx⟩
      have BB2 := BB1.next hx
      have HX2 : Hid (Nx wr w2) := HX1.out.trans hx
      clear hx BA1 BB1 HX1 k0 k1 k2 k3 k4 l1
      have l2 := BB2.cell (i := 2) rfl
      by_cases e2 : hasW N.ways tk.to = true
      case neg =>
        have e2' : hasW N.ways tk.to = false := by simpa using e2
        clear e2
        have HF : Hid (turnGood N (tat N.turns k) = false) := by unfold Hid; rw [HTT.out, HTG.out, e2']; simp
        go_wp2
        go_ret
        exact ⟨ret_bool (by unfold turnsOk; rw [allN_no (by rw [HZ.out]; exact hlt) HF.out]; rfl), HW.out.trans HX2.out⟩
      by_cases e3 : inB tk.cost = true
      · have HF : Hid (turnGood N (tat N.turns k) = true) := by unfold Hid; rw [HTT.out, HTG.out, e1, e2, e3]; rfl
        go_wp2_with (go_at_call 63; refine (inRange_any _ _).mono ?_; rintro e w' ⟨rfl, rfl⟩)
        go_roundw
        case rel => exact ⟨k + 1, by omega, by go_num, allTo_succ hrel HF.out, HN.out.trans HX2.out⟩
        case measure => simp [intOf]; omega
      · have e3' : inB tk.cost = false := by simpa using e3
        clear e3
        have HF : Hid (turnGood N (tat N.turns k) = false) := by unfold Hid; rw [HTT.out, HTG.out, e3']; simp
        go_wp2_with (go_at_call 63; refine (inRange_any _ _).mono ?_; rintro e w' ⟨rfl, rfl⟩)
        go_ret
        exact ⟨ret_bool (by unfold turnsOk; rw [allN_no (by rw [HZ.out]; exact hlt) HF.out]; rfl), HW.out.trans HX2.out⟩
    · have HA : Hid (turnsOk N = true) := allN_yes (by rw [HZ.out]; omega) hrel
      have hge : (n : Int) ≤ k := by omega
      clear BA
      go_wp2_with (go_at_call 100; refine (ascT_any B _ N.turns _ (by exact H3.keep (HW.out.keeps B))).mono ?_; rintro e w2 ⟨rfl, hx⟩)
      go_ret
      exact ⟨ret_bool (by rw [HA.out]; rfl), HW.out.trans hx⟩
end Go.Proofs.YtcdjmpbdaiafgaaGreatDoor

namespace Go.Proofs.YtcdjmpbdaiafgaaGreatDoor
open Go.RowKit
set_option linter.unusedVariables false

def implValid (N : Nt) : Bool := counts N && (inB N.uturn && ((ascI N.nodes && allIn N.nodes) && ((waysOk N && ascW N.ways) && ((relsOk N && ascR N.rels) && (turnsOk N && ascT N.turns)))))

set_option maxHeartbeats 2000000 in
theorem implValid_any (B : Nat) (v0 v1 v2 v3 : Value) (N : Nt) (w : World) (h0 : HNet B w v0 v1 v2 v3 N) (hs : wsum N.ways N.ways.length ≤ 1048576) :
    Calls Tryz.prog 29 #[.agg #[v0, v1, v2, v3, .int .i64 N.uturn]] w fun e w' => e = .returned (.bool (implValid N)) ∧ Nx w w' := by
  have HV : Hid (implValid N = (counts N && (inB N.uturn && ((ascI N.nodes && allIn N.nodes) && ((waysOk N && ascW N.ways) && ((relsOk N && ascR N.rels) && (turnsOk N && ascT N.turns))))))) := rfl
  have HS : Hid (wsum N.ways N.ways.length ≤ 1048576) := hs
  clear hs
  go_enter Tryz.func29, Tryz.ntmps29
  go_wp2_with fail
  refine (withinCounts_any B _ _ _ _ _ N _ (by exact h0.next (box1 _ _)) HS.out).mono ?_
  rintro e w1 ⟨rfl, hx⟩
  have BA := (Blk.new w #[v0, v1, v2, v3, .int .i64 N.uturn] 38 _ rfl).next hx
  have HX : Hid (Nx w w1) := (box1 _ _).trans hx
  clear hx
  cases g1 : counts N
  case false =>
    have HF : Hid (false = implValid N) := by unfold Hid; rw [HV.out, g1]; rfl
    clear g1
    go_wp2
    go_ret
    exact ⟨ret_bool HF.out, HX.out⟩
  have HV : Hid (implValid N = (inB N.uturn && ((ascI N.nodes && allIn N.nodes) && ((waysOk N && ascW N.ways) && ((relsOk N && ascR N.rels) && (turnsOk N && ascT N.turns)))))) := by unfold Hid; rw [HV.out, g1]; rfl
  clear g1
  have k0 := BA.cell (i := 0) rfl
  have k1 := BA.cell (i := 1) rfl
  have k2 := BA.cell (i := 2) rfl
  have k3 := BA.cell (i := 3) rfl
  have k4 := BA.cell (i := 4) rfl
  go_wp2_with fail
  refine (inRange_any _ _).mono ?_
  rintro e w1' ⟨rfl, rfl⟩
  cases g2 : inB N.uturn
  case false =>
    have HF : Hid (false = implValid N) := by unfold Hid; rw [HV.out, g2]; rfl
    clear g2
    go_wp2
    go_ret
    exact ⟨ret_bool HF.out, HX.out⟩
  have HV : Hid (implValid N = ((ascI N.nodes && allIn N.nodes) && ((waysOk N && ascW N.ways) && ((relsOk N && ascR N.rels) && (turnsOk N && ascT N.turns))))) := by unfold Hid; rw [HV.out, g2]; rfl
  clear g2
  go_wp2_with fail
  refine (validNodes_any B _ _ _ _ _ N.nodes _ (by exact (h0.next HX.out).1)).mono ?_
  rintro e w2 ⟨rfl, hx⟩
  have BA := BA.next hx
  have HX : Hid (Nx w w2) := HX.out.trans hx
  clear hx k0 k1 k2 k3 k4
  cases g3 : (ascI N.nodes && allIn N.nodes)
  case false =>
    have HF : Hid (false = implValid N) := by unfold Hid; rw [HV.out, g3]; rfl
    clear g3
    go_wp2
    go_ret
    exact ⟨ret_bool HF.out, HX.out⟩
  have HV : Hid (implValid N = ((waysOk N && ascW N.ways) && ((relsOk N && ascR N.rels) && (turnsOk N && ascT N.turns)))) := by unfold Hid; rw [HV.out, g3]; rfl
  have HASC : Hid (ascI N.nodes = true) := ((Bool.and_eq_true _ _).mp g3).1
  clear g3
  have k0 := BA.cell (i := 0) rfl
  have k1 := BA.cell (i := 1) rfl
  have k2 := BA.cell (i := 2) rfl
  have k3 := BA.cell (i := 3) rfl
  have k4 := BA.cell (i := 4) rfl
  go_wp2_with fail
  refine (validWays_any B _ _ _ _ _ N _ (by exact (h0.next HX.out).1) (by exact (h0.next HX.out).2.1) HASC.out).mono ?_
  rintro e w3 ⟨rfl, hx⟩
  have BA := BA.next hx
  have HX : Hid (Nx w w3) := HX.out.trans hx
  clear hx k0 k1 k2 k3 k4
  cases g4 : (waysOk N && ascW N.ways)
  case false =>
    have HF : Hid (false = implValid N) := by unfold Hid; rw [HV.out, g4]; rfl
    clear g4
    go_wp2
    go_ret
    exact ⟨ret_bool HF.out, HX.out⟩
  have HV : Hid (implValid N = ((relsOk N && ascR N.rels) && (turnsOk N && ascT N.turns))) := by unfold Hid; rw [HV.out, g4]; rfl
  have HASW : Hid (ascW N.ways = true) := ((Bool.and_eq_true _ _).mp g4).2
  clear g4
  have k0 := BA.cell (i := 0) rfl
  have k1 := BA.cell (i := 1) rfl
  have k2 := BA.cell (i := 2) rfl
  have k3 := BA.cell (i := 3) rfl
  have k4 := BA.cell (i := 4) rfl
  go_wp2_with fail
  refine (validRels_any B _ _ _ _ _ N _ (by exact (h0.next HX.out).1) (by exact (h0.next HX.out).2.1) (by exact (h0.next HX.out).2.2.1) HASC.out HASW.out).mono ?_
  rintro e w4 ⟨rfl, hx⟩
  have BA := BA.next hx
  have HX : Hid (Nx w w4) := HX.out.trans hx
  clear hx k0 k1 k2 k3 k4
  cases g5 : (relsOk N && ascR N.rels)
  case false =>
    have HF : Hid (false = implValid N) := by unfold Hid; rw [HV.out, g5]; rfl
    clear g5
    go_wp2
    go_ret
    exact ⟨ret_bool HF.out, HX.out⟩
  have HV : Hid (implValid N = (turnsOk N && ascT N.turns)) := by unfold Hid; rw [HV.out, g5]; rfl
  clear g5
  have k0 := BA.cell (i := 0) rfl
  have k1 := BA.cell (i := 1) rfl
  have k2 := BA.cell (i := 2) rfl
  have k3 := BA.cell (i := 3) rfl
  have k4 := BA.cell (i := 4) rfl
  go_wp2_with fail
  refine (validTurns_any B _ _ _ _ _ N _ (by exact (h0.next HX.out).2.1) (by exact (h0.next HX.out).2.2.2) HASW.out).mono ?_
  rintro e w5 ⟨rfl, hx⟩
  have BA := BA.next hx
  have HX : Hid (Nx w w5) := HX.out.trans hx
  clear hx k0 k1 k2 k3 k4
  have HF : Hid ((turnsOk N && ascT N.turns) = implValid N) := HV.out.symm
  generalize (turnsOk N && ascT N.turns) = fin at *
  go_wp2
  go_ret
  exact ⟨ret_bool HF.out, HX.out⟩
end Go.Proofs.YtcdjmpbdaiafgaaGreatDoor
