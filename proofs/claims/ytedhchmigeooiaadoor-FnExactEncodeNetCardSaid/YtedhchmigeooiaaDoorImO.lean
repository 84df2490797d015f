import Derived.Test.YtedhchmigeooiaaDoorImN
namespace Go.Proofs.YtedhchmigeooiaaDoor
open Go.RowKit
set_option linter.unusedVariables false

def implValid (N : Nt) : Bool := counts N && (inB N.uturn && ((ascI N.nodes && allIn N.nodes) && ((waysOk N && ascW N.ways) && ((relsOk N && ascR N.rels) && (turnsOk N && ascT N.turns)))))

set_option maxHeartbeats 2000000 in
theorem implValid_any (B : Nat) (v0 v1 v2 v3 : Value) (N : Nt) (w : World) (h0 : HNet B w v0 v1 v2 v3 N) (hs : wsum N.ways N.ways.length ≤ 1048576) :
    Calls Tryd.prog 25 #[.agg #[v0, v1, v2, v3, .int .i64 N.uturn]] w fun e w' => e = .returned (.bool (implValid N)) ∧ Nx w w' := by
  have HV : Hid (implValid N = (counts N && (inB N.uturn && ((ascI N.nodes && allIn N.nodes) && ((waysOk N && ascW N.ways) && ((relsOk N && ascR N.rels) && (turnsOk N && ascT N.turns))))))) := rfl
  have HS : Hid (wsum N.ways N.ways.length ≤ 1048576) := hs
  clear hs
  go_enter Tryd.func25, Tryd.ntmps25
  go_wp2_with fail
  refine (withinCounts_any B _ _ _ _ _ N _ (by exact h0.next (box1 _ _)) HS.out).mono ?_
  rintro e w1 ⟨rfl, hx⟩
  have BA := (Blk.new w #[v0, v1, v2, v3, .int .i64 N.uturn] 35 _ rfl).next hx
  have HX : Hid (Nx w w1) := (box1 _ _).trans hx
  clear hx
  cases g1 : counts N
  case false =>
    have HF : Hid (false = implValid N) := by unfold Hid; rw [HV.out, g1]; rfl
    clear g1
    go_wp2
    go_ret
    exact ⟨ret_bool HF.out, HX.out⟩
  have HV : Hid (implValid N = (inB N.uturn && ((ascI N.nodes && allIn N.nodes) && ((waysOk N && ascW N.ways) && ((relsOk N && ascR N.rels) && (turnsOk N && ascT N.turns)))))) := by unfold Hid; rw [HV.out, g1]; rfl
  clear g1
  have k0 := BA.cell (i := 0) rfl
  have k1 := BA.cell (i := 1) rfl
  have k2 := BA.cell (i := 2) rfl
  have k3 := BA.cell (i := 3) rfl
  have k4 := BA.cell (i := 4) rfl
  go_wp2_with fail
  refine (inRange_any _ _).mono ?_
  rintro e w1' ⟨rfl, rfl⟩
  cases g2 : inB N.uturn
  case false =>
    have HF : Hid (false = implValid N) := by unfold Hid; rw [HV.out, g2]; rfl
    clear g2
    go_wp2
    go_ret
    exact ⟨ret_bool HF.out, HX.out⟩
  have HV : Hid (implValid N = ((ascI N.nodes && allIn N.nodes) && ((waysOk N && ascW N.ways) && ((relsOk N && ascR N.rels) && (turnsOk N && ascT N.turns))))) := by unfold Hid; rw [HV.out, g2]; rfl
  clear g2
  go_wp2_with fail
  refine (validNodes_any B _ _ _ _ _ N.nodes _ (by exact (h0.next HX.out).1)).mono ?_
  rintro e w2 ⟨rfl, hx⟩
  have BA := BA.next hx
  have HX : Hid (Nx w w2) := HX.out.trans hx
  clear hx k0 k1 k2 k3 k4
  cases g3 : (ascI N.nodes && allIn N.nodes)
  case false =>
    have HF : Hid (false = implValid N) := by unfold Hid; rw [HV.out, g3]; rfl
    clear g3
    go_wp2
    go_ret
    exact ⟨ret_bool HF.out, HX.out⟩
  have HV : Hid (implValid N = ((waysOk N && ascW N.ways) && ((relsOk N && ascR N.rels) && (turnsOk N && ascT N.turns)))) := by unfold Hid; rw [HV.out, g3]; rfl
  have HASC : Hid (ascI N.nodes = true) := ((Bool.and_eq_true _ _).mp g3).1
  clear g3
  have k0 := BA.cell (i := 0) rfl
  have k1 := BA.cell (i := 1) rfl
  have k2 := BA.cell (i := 2) rfl
  have k3 := BA.cell (i := 3) rfl
  have k4 := BA.cell (i := 4) rfl
  go_wp2_with fail
  refine (validWays_any B _ _ _ _ _ N _ (by exact (h0.next HX.out).1) (by exact (h0.next HX.out).2.1) HASC.out).mono ?_
  rintro e w3 ⟨rfl, hx⟩
  have BA := BA.next hx
  have HX : Hid (Nx w w3) := HX.out.trans hx
  clear hx k0 k1 k2 k3 k4
  cases g4 : (waysOk N && ascW N.ways)
  case false =>
    have HF : Hid (false = implValid N) := by unfold Hid; rw [HV.out, g4]; rfl
    clear g4
    go_wp2
    go_ret
    exact ⟨ret_bool HF.out, HX.out⟩
  have HV : Hid (implValid N = ((relsOk N && ascR N.rels) && (turnsOk N && ascT N.turns))) := by unfold Hid; rw [HV.out, g4]; rfl
  have HASW : Hid (ascW N.ways = true) := ((Bool.and_eq_true _ _).mp g4).2
  clear g4
  have k0 := BA.cell (i := 0) rfl
  have k1 := BA.cell (i := 1) rfl
  have k2 := BA.cell (i := 2) rfl
  have k3 := BA.cell (i := 3) rfl
  have k4 := BA.cell (i := 4) rfl
  go_wp2_with fail
  refine (validRels_any B _ _ _ _ _ N _ (by exact (h0.next HX.out).1) (by exact (h0.next HX.out).2.1) (by exact (h0.next HX.out).2.2.1) HASC.out HASW.out).mono ?_
  rintro e w4 ⟨rfl, hx⟩
  have BA := BA.next hx
  have HX : Hid (Nx w w4) := HX.out.trans hx
  clear hx k0 k1 k2 k3 k4
  cases g5 : (relsOk N && ascR N.rels)
  case false =>
    have HF : Hid (false = implValid N) := by unfold Hid; rw [HV.out, g5]; rfl
    clear g5
    go_wp2
    go_ret
    exact ⟨ret_bool HF.out, HX.out⟩
  have HV : Hid (implValid N = (turnsOk N && ascT N.turns)) := by unfold Hid; rw [HV.out, g5]; rfl
  clear g5
  have k0 := BA.cell (i := 0) rfl
  have k1 := BA.cell (i := 1) rfl
  have k2 := BA.cell (i := 2) rfl
  have k3 := BA.cell (i := 3) rfl
  have k4 := BA.cell (i := 4) rfl
  go_wp2_with fail
  refine (validTurns_any B _ _ _ _ _ N _ (by exact (h0.next HX.out).2.1) (by exact (h0.next HX.out).2.2.2) HASW.out).mono ?_
  rintro e w5 ⟨rfl, hx⟩
  have BA := BA.next hx
  have HX : Hid (Nx w w5) := HX.out.trans hx
  clear hx k0 k1 k2 k3 k4
  have HF : Hid ((turnsOk N && ascT N.turns) = implValid N) := HV.out.symm
  generalize (turnsOk N && ascT N.turns) = fin at *
  go_wp2
  go_ret
  exact ⟨ret_bool HF.out, HX.out⟩
end Go.Proofs.YtedhchmigeooiaaDoor
