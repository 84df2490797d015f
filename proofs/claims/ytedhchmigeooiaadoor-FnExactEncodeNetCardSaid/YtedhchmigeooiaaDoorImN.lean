import Derived.Test.YtedhchmigeooiaaDoorImM
namespace Go.Proofs.YtedhchmigeooiaaDoor
open Go.RowKit
set_option linter.unusedVariables false

def relsOk (N : Nt) : Bool := allN N.rels.length (fun i => relGood N (rat N.rels i))

set_option maxHeartbeats 1000000 in
theorem validRels_any (B : Nat) (v0 v1 v2 v3 : Value) (u : Int) (N : Nt) (w : World) (h0 : HInts B w v0 N.nodes) (h1 : HWays B w v1 N.ways) (h2 : HRels B w v2 N.rels) (hasc : ascI N.nodes = true) (hascw : ascW N.ways = true) :
    Calls Tryd.prog 51 #[.agg #[v0, v1, v2, v3, .int .i64 u]] w fun e w' => e = .returned (.bool (relsOk N && ascR N.rels)) ∧ Nx w w' := by
  have HASC : Hid (ascI N.nodes = true) := hasc
  have HASW : Hid (ascW N.ways = true) := hascw
  clear hasc hascw
  have H2 := h2
  obtain ⟨a, cap, rfl, hn, hk⟩ := h2
  unfold maxLen at hn
  generalize hz : N.rels.length = n at *
  have HZ : Hid (N.rels.length = n) := hz
  clear hz
  go_enter Tryd.func51, Tryd.ntmps51
  go_wp2
  go_loopw [4, 8] (fun p i wr => ∃ k : Nat, k ≤ n ∧ i = .int .i64 k ∧ Hid (allTo (fun i => relGood N (rat N.rels i)) k) ∧ Hid (Nx (w.alloc (.cells #[v0, v1, .slice a n cap, v3, .int .i64 u] 35)) wr)) (fun _ i _ => n - (intOf i).toNat)
  case atStart => exact ⟨0, Nat.zero_le _, rfl, allTo_zero _, Nx.refl _⟩
  case round =>
    obtain ⟨k, hkn, rfl, hrel, HN⟩ := hrel
    have BA := (Blk.new w #[v0, v1, .slice a n cap, v3, .int .i64 u] 35 _ rfl).next HN.out
    have k0 := BA.cell (i := 0) rfl
    have k1 := BA.cell (i := 1) rfl
    have k2 := BA.cell (i := 2) rfl
    have k3 := BA.cell (i := 3) rfl
    have k4 := BA.cell (i := 4) rfl
    have hsz := BA.lt
    have HW : Hid (Nx w wr) := (box1 _ _).trans HN.out
    clear BA
    by_cases hlt : k < n
    · obtain ⟨b, off, rfl, hB, hb, hc⟩ := hk (by omega)
      obtain ⟨p1, a0, a1, a2, a3, a4, a5, a6, n1⟩ := hc k hlt
      have m1 := n1.next HW.out
      obtain ⟨an, cn, rfl, _⟩ := n1.slice
      have a0 := cell_next HW.out hb a0
      have a1 := cell_next HW.out hb a1
      have a2 := cell_next HW.out hb a2
      have a3 := cell_next HW.out hb a3
      have a4 := cell_next HW.out hb a4
      have a5 := cell_next HW.out hb a5
      have a6 := cell_next HW.out hb a6
      have hlt' : (k : Int) < n := by omega
      have hbr : b < wr.heap.size := Nat.lt_of_lt_of_le hb HW.out.size
      clear hc hk n1
      by_cases hin : relGood N (rat N.rels k) = true
      · go_wp2_with (go_at_call 66; refine (validRel_any B _ _ _ _ _ N (rat N.rels k) _ _ (by exact (h0.next HW.out).next (box1 _ _)) (by exact (h1.keep (HW.out.keeps B)).keep ((box1 _ _).keeps B)) (by exact m1.next (box1 _ _)) HASC.out HASW.out).mono ?_; rintro e w' ⟨rfl, hx⟩)
        go_roundw
        case rel => exact ⟨k + 1, by omega, by go_num, allTo_succ hrel hin, HN.out.trans ((box1 _ _).trans hx)⟩
        case measure => simp [intOf]; omega
      · have hin' : relGood N (rat N.rels k) = false := by simpa using hin
        go_wp2_with (go_at_call 66; refine (validRel_any B _ _ _ _ _ N (rat N.rels k) _ _ (by exact (h0.next HW.out).next (box1 _ _)) (by exact (h1.keep (HW.out.keeps B)).keep ((box1 _ _).keeps B)) (by exact m1.next (box1 _ _)) HASC.out HASW.out).mono ?_; rintro e w' ⟨rfl, hx⟩)
        go_ret
        exact ⟨ret_bool (by unfold relsOk; rw [allN_no (by rw [HZ.out]; exact hlt) hin']; rfl), HW.out.trans ((box1 _ _).trans hx)⟩
    · have HA : Hid (relsOk N = true) := allN_yes (by rw [HZ.out]; omega) hrel
      have hge : (n : Int) ≤ k := by omega
      go_wp2_with (go_at_call 67; refine (ascR_any B _ N.rels _ (by exact H2.keep (HW.out.keeps B))).mono ?_; rintro e w2 ⟨rfl, hx⟩)
      go_ret
      exact ⟨ret_bool (by rw [HA.out]; rfl), HW.out.trans hx⟩

def turnGood (N : Nt) (t : Tn) : Bool := hasW N.ways t.frm && (hasW N.ways t.to && inB t.cost)
def turnsOk (N : Nt) : Bool := allN N.turns.length (fun i => turnGood N (tat N.turns i))

set_option maxHeartbeats 1000000 in
theorem validTurns_any (B : Nat) (v0 v1 v2 v3 : Value) (u : Int) (N : Nt) (w : World) (h1 : HWays B w v1 N.ways) (h3 : HTurns B w v3 N.turns) (hascw : ascW N.ways = true) :
    Calls Tryd.prog 52 #[.agg #[v0, v1, v2, v3, .int .i64 u]] w fun e w' => e = .returned (.bool (turnsOk N && ascT N.turns)) ∧ Nx w w' := by
  have HASW : Hid (ascW N.ways = true) := hascw
  clear hascw
  have H3 := h3
  obtain ⟨a, cap, rfl, hn, hk⟩ := h3
  unfold maxLen at hn
  generalize hz : N.turns.length = n at *
  have HZ : Hid (N.turns.length = n) := hz
  clear hz
  go_enter Tryd.func52, Tryd.ntmps52
  go_wp2
  go_loopw [4, 8] (fun p i wr => ∃ k : Nat, k ≤ n ∧ i = .int .i64 k ∧ Hid (allTo (fun i => turnGood N (tat N.turns i)) k) ∧ Hid (Nx (w.alloc (.cells #[v0, v1, v2, .slice a n cap, .int .i64 u] 35)) wr)) (fun _ i _ => n - (intOf i).toNat)
  case atStart => exact ⟨0, Nat.zero_le _, rfl, allTo_zero _, Nx.refl _⟩
  case round =>
    obtain ⟨k, hkn, rfl, hrel, HN⟩ := hrel
    have BA := (Blk.new w #[v0, v1, v2, .slice a n cap, .int .i64 u] 35 _ rfl).next HN.out
    have k0 := BA.cell (i := 0) rfl
    have k1 := BA.cell (i := 1) rfl
    have k2 := BA.cell (i := 2) rfl
    have k3 := BA.cell (i := 3) rfl
    have k4 := BA.cell (i := 4) rfl
    have hsz := BA.lt
    have HW : Hid (Nx w wr) := (box1 _ _).trans HN.out
    by_cases hlt : k < n
    · obtain ⟨b, off, rfl, hB, hb, hc⟩ := hk (by omega)
      obtain ⟨a0, a1, a2⟩ := hc k hlt
      have a0 := cell_next HW.out hb a0
      have a1 := cell_next HW.out hb a1
      have a2 := cell_next HW.out hb a2
      have hlt' : (k : Int) < n := by omega
      have hbr : b < wr.heap.size := Nat.lt_of_lt_of_le hb HW.out.size
      have HTG : Hid (turnGood N (tat N.turns k) = (hasW N.ways (tat N.turns k).frm && (hasW N.ways (tat N.turns k).to && inB (tat N.turns k).cost))) := rfl
      generalize htt : tat N.turns k = tk at *
      have HTT : Hid (tat N.turns k = tk) := htt
      clear hc hk htt
      have BB := Blk.new wr #[.int .i64 tk.frm, .int .i64 tk.to, .int .i64 tk.cost] 55 _ rfl
      have BAX := BA.alloc (.cells #[.int .i64 tk.frm, .int .i64 tk.to, .int .i64 tk.cost] 55)
      go_wp2_with fail
      refine (hasWay_any B _ _ _ _ _ _ N.ways _ (by exact (h1.keep (HW.out.keeps B)).keep ((box1 _ _).keeps B)) HASW.out).mono ?_
      rintro e w1 ⟨rfl, hx⟩
      have BA1 := BAX.next hx
      have BB1 := BB.next hx
      have HX1 : Hid (Nx wr w1) := (box1 _ _).trans hx
      clear hx BA BB BAX k0 k1 k2 k3 k4 a0 a1 a2
      have k0 := BA1.cell (i := 0) rfl
      have k1 := BA1.cell (i := 1) rfl
      have k2 := BA1.cell (i := 2) rfl
      have k3 := BA1.cell (i := 3) rfl
      have k4 := BA1.cell (i := 4) rfl
      have l1 := BB1.cell (i := 1) rfl
      by_cases e1 : hasW N.ways tk.frm = true
      case neg =>
        have e1' : hasW N.ways tk.frm = false := by simpa using e1
        clear e1
        have HF : Hid (turnGood N (tat N.turns k) = false) := by unfold Hid; rw [HTT.out, HTG.out, e1']; rfl
        go_wp2
        go_ret
        exact ⟨ret_bool (by unfold turnsOk; rw [allN_no (by rw [HZ.out]; exact hlt) HF.out]; rfl), HW.out.trans HX1.out⟩
      go_wp2_with fail
      refine (hasWay_any B _ _ _ _ _ _ N.ways _ (by exact (h1.keep (HW.out.keeps B)).keep (HX1.out.keeps B)) HASW.out).mono ?_
      rintro e w2 ⟨rfl, hx⟩
      have BB2 := BB1.next hx
      have HX2 : Hid (Nx wr w2) := HX1.out.trans hx
      clear hx BA1 BB1 HX1 k0 k1 k2 k3 k4 l1
      have l2 := BB2.cell (i := 2) rfl
      by_cases e2 : hasW N.ways tk.to = true
      case neg =>
        have e2' : hasW N.ways tk.to = false := by simpa using e2
        clear e2
        have HF : Hid (turnGood N (tat N.turns k) = false) := by unfold Hid; rw [HTT.out, HTG.out, e2']; simp
        go_wp2
        go_ret
        exact ⟨ret_bool (by unfold turnsOk; rw [allN_no (by rw [HZ.out]; exact hlt) HF.out]; rfl), HW.out.trans HX2.out⟩
      by_cases e3 : inB tk.cost = true
      · have HF : Hid (turnGood N (tat N.turns k) = true) := by unfold Hid; rw [HTT.out, HTG.out, e1, e2, e3]; rfl
        go_wp2_with (go_at_call 48; refine (inRange_any _ _).mono ?_; rintro e w' ⟨rfl, rfl⟩)
        go_roundw
        case rel => exact ⟨k + 1, by omega, by go_num, allTo_succ hrel HF.out, HN.out.trans HX2.out⟩
        case measure => simp [intOf]; omega
      · have e3' : inB tk.cost = false := by simpa using e3
        clear e3
        have HF : Hid (turnGood N (tat N.turns k) = false) := by unfold Hid; rw [HTT.out, HTG.out, e3']; simp
        go_wp2_with (go_at_call 48; refine (inRange_any _ _).mono ?_; rintro e w' ⟨rfl, rfl⟩)
        go_ret
        exact ⟨ret_bool (by unfold turnsOk; rw [allN_no (by rw [HZ.out]; exact hlt) HF.out]; rfl), HW.out.trans HX2.out⟩
    · have HA : Hid (turnsOk N = true) := allN_yes (by rw [HZ.out]; omega) hrel
      have hge : (n : Int) ≤ k := by omega
      clear BA
      go_wp2_with (go_at_call 70; refine (ascT_any B _ N.turns _ (by exact H3.keep (HW.out.keeps B))).mono ?_; rintro e w2 ⟨rfl, hx⟩)
      go_ret
      exact ⟨ret_bool (by rw [HA.out]; rfl), HW.out.trans hx⟩
end Go.Proofs.YtedhchmigeooiaaDoor
