/-
  DERIVED. GIVEN WITH THE SEED: THE CARDS: each row of YthhbdfiopjclcaaGreatDoorRows.lean that lists a variable, with what it lists TIED to the program's text (the seventh form; the later family's looks); each row that meets fmt, with fmt's text TOLD by the authors' own Lean function (tested against real Go, not proved from fmt's source: count such statements apart). THE CARD IS WHAT COUNTS. Prove the row's statement (the work); the ties are given (YthhbdfiopjclcaaGreatDoorTie.lean); close each card by the builder's one call (the guide's Derived/Test/ToyasCard.lean, 'card_holds'). Laid BY PROGRAM, IN A SANDBOX (cutbox-door.mjs). By AI agents, Wed Nov 11 2026. No macro, syntax, notation, axiom, sorry.
-/
import Derived.Test.YthhbdfiopjclcaaGreatDoorRows
import GoSem.ClaimSeven
namespace Go.Proofs.YthhbdfiopjclcaaGreatDoor
namespace Rows

/-- THE TIED CARD OF 'laws.FnResolveAccounts'. -/
def fnResolveAccountsCard : Claim7 := { stood := { row := fnResolveAccountsRow, standIns := [], harness := (true, "8576b6cf9664f09d4ab5a5b9f206f8e9dd4e1263afcc99d174b7515a4ee32ee5"), looks := false }, kinds := [], alts := [], laidByText := true, laidKinds := [.data, .data, .data], laidTests := true, laidLooks := .later }
def FnResolveAccountsCardSaid : Prop := Claim7.holds Tryz.pinned (.plain (OpenSpec.ofChange fnResolveAccountsSpec)) fnResolveAccountsCard

/-- THE SECOND FORM's CARD OF 'laws.FnResolveAccounts'. -/
def fnResolveAccountsUptoCard : Claim7 := { stood := { row := fnResolveAccountsUptoRow, standIns := [], harness := (true, "8576b6cf9664f09d4ab5a5b9f206f8e9dd4e1263afcc99d174b7515a4ee32ee5"), looks := false }, kinds := [], alts := [], laidByText := true, laidKinds := [.data, .data, .data], laidTests := true, laidLooks := .later }
def FnResolveAccountsUptoCardSaid : Prop := Claim7.holds Tryz.pinned (.plain (OpenSpec.upto fnResolveAccountsSpec)) fnResolveAccountsUptoCard
end Rows
end Go.Proofs.YthhbdfiopjclcaaGreatDoor
