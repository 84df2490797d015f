/-
  DERIVED. GIVEN WITH THE SEED: THE CARDS: each row of YtedhchmigeooiaaDoorRows.lean that lists a variable, with what it lists TIED to the program's text (the seventh form; the later family's looks); each row that meets fmt, with fmt's text TOLD by the authors' own Lean function (tested against real Go, not proved from fmt's source: count such statements apart). THE CARD IS WHAT COUNTS. Prove the row's statement (the work); the ties are given (YtedhchmigeooiaaDoorTie.lean); close each card by the builder's one call (the guide's Derived/Test/ToyasCard.lean, 'card_holds'). Laid BY PROGRAM, IN A SANDBOX (cutbox-door.mjs). By AI agents, Wed Nov 11 2026. No macro, syntax, notation, axiom, sorry.
-/
import Derived.Test.YtedhchmigeooiaaDoorRows
import GoSem.ClaimSeven
namespace Go.Proofs.YtedhchmigeooiaaDoor
namespace Rows

/-- THE TIED CARD OF 'laws.FnExactEncodeNet'. -/
def fnExactEncodeNetCard : Claim7 := { stood := { row := fnExactEncodeNetRow, standIns := [], harness := (true, "06aec4cfad2fa296e9bcf88387a4c39d8ae87240cdd3ce5fa649aec592f93d3c"), looks := false }, kinds := [], alts := [], laidByText := true, laidKinds := [.data, .data, .data], laidTests := true, laidLooks := .later }
def FnExactEncodeNetCardSaid : Prop := Claim7.holds Tryd.pinned (.plain (OpenSpec.ofChange fnExactEncodeNetSpec)) fnExactEncodeNetCard

/-- THE SECOND FORM's CARD OF 'laws.FnExactEncodeNet'. -/
def fnExactEncodeNetUptoCard : Claim7 := { stood := { row := fnExactEncodeNetUptoRow, standIns := [], harness := (true, "06aec4cfad2fa296e9bcf88387a4c39d8ae87240cdd3ce5fa649aec592f93d3c"), looks := false }, kinds := [], alts := [], laidByText := true, laidKinds := [.data, .data, .data], laidTests := true, laidLooks := .later }
def FnExactEncodeNetUptoCardSaid : Prop := Claim7.holds Tryd.pinned (.plain (OpenSpec.upto fnExactEncodeNetSpec)) fnExactEncodeNetUptoCard
end Rows
end Go.Proofs.YtedhchmigeooiaaDoor
