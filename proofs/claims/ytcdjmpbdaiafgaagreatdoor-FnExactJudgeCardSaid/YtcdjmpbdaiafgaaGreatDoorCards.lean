/-
  DERIVED. GIVEN WITH THE SEED: THE CARDS: each row of YtcdjmpbdaiafgaaGreatDoorRows.lean that lists a variable, with what it lists TIED to the program's text (the seventh form; the later family's looks); each row that meets fmt, with fmt's text TOLD by the authors' own Lean function (tested against real Go, not proved from fmt's source: count such statements apart). THE CARD IS WHAT COUNTS. Prove the row's statement (the work); the ties are given (YtcdjmpbdaiafgaaGreatDoorTie.lean); close each card by the builder's one call (the guide's Derived/Test/ToyasCard.lean, 'card_holds'). Laid BY PROGRAM, IN A SANDBOX (cutbox-door.mjs). By AI agents, Wed Nov 11 2026. No macro, syntax, notation, axiom, sorry.
-/
import Derived.Test.YtcdjmpbdaiafgaaGreatDoorRows
import GoSem.ClaimSeven
namespace Go.Proofs.YtcdjmpbdaiafgaaGreatDoor
namespace Rows

/-- THE TIED CARD OF 'laws.FnExactResolve'. -/
def fnExactResolveCard : Claim7 := { stood := { row := fnExactResolveRow, standIns := [], harness := (true, "420910185102611cfeebfae59d7f81492b720a82f59f3ce4da182c6e2108c288"), looks := false }, kinds := [], alts := [], laidByText := true, laidKinds := [.data, .data, .data], laidTests := true, laidLooks := .later }
def FnExactResolveCardSaid : Prop := Claim7.holds Tryz.pinned (.plain (OpenSpec.ofChange fnExactResolveSpec)) fnExactResolveCard

/-- THE TIED CARD OF 'laws.FnExactJudge'. -/
def fnExactJudgeCard : Claim7 := { stood := { row := fnExactJudgeRow, standIns := [], harness := (true, "420910185102611cfeebfae59d7f81492b720a82f59f3ce4da182c6e2108c288"), looks := false }, kinds := [], alts := [], laidByText := true, laidKinds := [.data, .data, .data], laidTests := true, laidLooks := .later }
def FnExactJudgeCardSaid : Prop := Claim7.holds Tryz.pinned (.plain (OpenSpec.ofChange fnExactJudgeSpec)) fnExactJudgeCard

/-- THE SECOND FORM's CARD OF 'laws.FnExactResolve'. -/
def fnExactResolveUptoCard : Claim7 := { stood := { row := fnExactResolveUptoRow, standIns := [], harness := (true, "420910185102611cfeebfae59d7f81492b720a82f59f3ce4da182c6e2108c288"), looks := false }, kinds := [], alts := [], laidByText := true, laidKinds := [.data, .data, .data], laidTests := true, laidLooks := .later }
def FnExactResolveUptoCardSaid : Prop := Claim7.holds Tryz.pinned (.plain (OpenSpec.upto fnExactResolveSpec)) fnExactResolveUptoCard

/-- THE SECOND FORM's CARD OF 'laws.FnExactJudge'. -/
def fnExactJudgeUptoCard : Claim7 := { stood := { row := fnExactJudgeUptoRow, standIns := [], harness := (true, "420910185102611cfeebfae59d7f81492b720a82f59f3ce4da182c6e2108c288"), looks := false }, kinds := [], alts := [], laidByText := true, laidKinds := [.data, .data, .data], laidTests := true, laidLooks := .later }
def FnExactJudgeUptoCardSaid : Prop := Claim7.holds Tryz.pinned (.plain (OpenSpec.upto fnExactJudgeSpec)) fnExactJudgeUptoCard
end Rows
end Go.Proofs.YtcdjmpbdaiafgaaGreatDoor
