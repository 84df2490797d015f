/-
  No cell of these rows narrows 'for every input' (looked for: loops, veiled, ifaces, maps, wideKeys, modest, calm, conditions, laid).
  DERIVED. THE GIVEN ROWS OF THIS SEAT. 4 by the template 'for every input the law returns true; each argument reads behind the call as it read before'; 0 by the template 'total and deterministic' (their statements: YtifefpeefcjabaaTotals.lean).
  GIVEN WITH THE SEED: the statements are not yours to turn. If you find one false, say at which input.
  Laid BY PROGRAM, IN A SANDBOX (cutbox-rows.mjs): the forced cells as the released guide's own fill.sh prints them over the translation c6b6dd06747dd4d1… (all of the seat's roots in one cut). By AI agents, Wed Nov 11 2026. No macro, syntax, notation, axiom, sorry.
-/
import Derived.Test.YtifefpeefcjabaaChecked
import GoSem.Claim
import GoSem.ClaimJoined
import GoSem.ClaimMapViews
import Derived.JoinedTies
import Derived.KernelRfl
namespace Go.Proofs.Ytifefpeefcjabaa
/- THE CELL 'sum', in the pinned program and in every row, IS THE sha256 OF THE DUMP (.gsa) THAT YtifefpeefcjabaaProg.lean LOADS. Nothing in Lean hashes anything: it is a label: what it is worth is what the hold of that sum in a sandbox is worth. -/
noncomputable def Try.pinned : Pinned := { name := "ytifefpeefcjabaa", sum := "c6b6dd06747dd4d10d5483ecbf732314d07e0f7b6ecfc0a101a86b1726100e48", checked := Try.checked }
namespace Rows
def none {H : Type} : Left H := { results := [], args := [] }

/-- 'laws.FnExactBuildAuto': WHATEVER THE INPUT: true; the input reads as it did. -/
def fnExactBuildAutoSpec : ChangeSpec := { name := "fnExactBuildAuto", fn := fun _ => fun
  | [d] => { results := [.lit (.bool true)], args := [d] }
  | _ => none }
def fnExactBuildAutoRow : OpenClaim := { program := "ytifefpeefcjabaa", sum := "c6b6dd06747dd4d10d5483ecbf732314d07e0f7b6ecfc0a101a86b1726100e48", func := "loop.example/s0019/laws.FnExactBuildAuto", spec := "fnExactBuildAuto", unfollowed := true, recurses := true, apart := false }
def FnExactBuildAutoSaid : Prop := fnExactBuildAutoRow.holds Try.pinned (OpenSpec.ofChange fnExactBuildAutoSpec)

/-- ITS FALSE NEIGHBOUR: 'it returns false'. Refute it at one input. -/
def fnExactBuildAutoWrong : ChangeSpec := { name := "fnExactBuildAuto", fn := fun _ => fun
  | [d] => { results := [.lit (.bool false)], args := [d] }
  | _ => none }
def FnExactBuildAutoWrongFalsely : Prop := fnExactBuildAutoRow.holds Try.pinned (OpenSpec.ofChange fnExactBuildAutoWrong)

/-- 'laws.FnExactValidAuto': WHATEVER THE INPUT: true; the input reads as it did. -/
def fnExactValidAutoSpec : ChangeSpec := { name := "fnExactValidAuto", fn := fun _ => fun
  | [d] => { results := [.lit (.bool true)], args := [d] }
  | _ => none }
def fnExactValidAutoRow : OpenClaim := { program := "ytifefpeefcjabaa", sum := "c6b6dd06747dd4d10d5483ecbf732314d07e0f7b6ecfc0a101a86b1726100e48", func := "loop.example/s0019/laws.FnExactValidAuto", spec := "fnExactValidAuto", unfollowed := true, recurses := true, apart := false }
def FnExactValidAutoSaid : Prop := fnExactValidAutoRow.holds Try.pinned (OpenSpec.ofChange fnExactValidAutoSpec)

/-- ITS FALSE NEIGHBOUR: 'it returns false'. Refute it at one input. -/
def fnExactValidAutoWrong : ChangeSpec := { name := "fnExactValidAuto", fn := fun _ => fun
  | [d] => { results := [.lit (.bool false)], args := [d] }
  | _ => none }
def FnExactValidAutoWrongFalsely : Prop := fnExactValidAutoRow.holds Try.pinned (OpenSpec.ofChange fnExactValidAutoWrong)

/-- 'laws.FnExactStepAuto': WHATEVER THE INPUT: true; the input reads as it did. -/
def fnExactStepAutoSpec : ChangeSpec := { name := "fnExactStepAuto", fn := fun _ => fun
  | [d1, d2, d3] => { results := [.lit (.bool true)], args := [d1, d2, d3] }
  | _ => none }
def fnExactStepAutoRow : OpenClaim := { program := "ytifefpeefcjabaa", sum := "c6b6dd06747dd4d10d5483ecbf732314d07e0f7b6ecfc0a101a86b1726100e48", func := "loop.example/s0019/laws.FnExactStepAuto", spec := "fnExactStepAuto", unfollowed := true, recurses := true, apart := false }
def FnExactStepAutoSaid : Prop := fnExactStepAutoRow.holds Try.pinned (OpenSpec.ofChange fnExactStepAutoSpec)

/-- ITS FALSE NEIGHBOUR: 'it returns false'. Refute it at one input. -/
def fnExactStepAutoWrong : ChangeSpec := { name := "fnExactStepAuto", fn := fun _ => fun
  | [d1, d2, d3] => { results := [.lit (.bool false)], args := [d1, d2, d3] }
  | _ => none }
def FnExactStepAutoWrongFalsely : Prop := fnExactStepAutoRow.holds Try.pinned (OpenSpec.ofChange fnExactStepAutoWrong)

/-- 'laws.FnExactRunAuto': WHATEVER THE INPUT: true; the input reads as it did. -/
def fnExactRunAutoSpec : ChangeSpec := { name := "fnExactRunAuto", fn := fun _ => fun
  | [d1, d2] => { results := [.lit (.bool true)], args := [d1, d2] }
  | _ => none }
def fnExactRunAutoRow : OpenClaim := { program := "ytifefpeefcjabaa", sum := "c6b6dd06747dd4d10d5483ecbf732314d07e0f7b6ecfc0a101a86b1726100e48", func := "loop.example/s0019/laws.FnExactRunAuto", spec := "fnExactRunAuto", unfollowed := true, recurses := true, apart := false }
def FnExactRunAutoSaid : Prop := fnExactRunAutoRow.holds Try.pinned (OpenSpec.ofChange fnExactRunAutoSpec)

/-- ITS FALSE NEIGHBOUR: 'it returns false'. Refute it at one input. -/
def fnExactRunAutoWrong : ChangeSpec := { name := "fnExactRunAuto", fn := fun _ => fun
  | [d1, d2] => { results := [.lit (.bool false)], args := [d1, d2] }
  | _ => none }
def FnExactRunAutoWrongFalsely : Prop := fnExactRunAutoRow.holds Try.pinned (OpenSpec.ofChange fnExactRunAutoWrong)

/- THE SECOND FORM. 'bulk': how many values and letters a reading holds, each counted each time it is reached (what is shared counts as often as it is met; a slice's spare places count too). A statement '..UptoSaid' is the law's where the arguments, and the package variables that the reading takes, are together of bulk at most 1048576: NARROWER than '..Said'. Prove '..Said' where nothing that the law and all that it calls make is longer than what came in: it says more and counts as full. Else prove '..UptoSaid'. A law counts once. -/
mutual
def uptoBulk {H : Type} : DataW H → Nat
  | .lit (.string bytes) => bytes.length + 1
  | .lit _ => 1
  | .nil => 1
  | .ptr d => uptoBulk d + 1
  | .slice elems spare => uptoBulkAll elems + uptoBulkAll spare + 1
  | .agg parts => uptoBulkAll parts + 1
  | .iface _ d => uptoBulk d + 1
  | .map entries => uptoBulkEntries entries + 1
  | .held _ => 1
def uptoBulkAll {H : Type} : List (DataW H) → Nat
  | [] => 0
  | d :: r => uptoBulk d + uptoBulkAll r
def uptoBulkEntries {H : Type} : List (Lit × DataW H) → Nat
  | [] => 0
  | x :: r => uptoBulkEntry x + uptoBulkEntries r
def uptoBulkEntry {H : Type} : Lit × DataW H → Nat
  | (.string bytes, d) => bytes.length + uptoBulk d + 1
  | (_, d) => uptoBulk d + 1
 end
def uptoSmall : (H : Type) → List (DataW H) → Bool := fun _ ds => decide (uptoBulkAll ds ≤ 1048576)
def OpenSpec.upto (s : _root_.Go.ChangeSpec) : _root_.Go.OpenSpec := { _root_.Go.OpenSpec.ofChange s with cond := some uptoSmall }

/-- 'laws.FnExactBuildAuto', WHERE WHAT IT READS IS OF BULK AT MOST 1048576: true; the input reads as it did. -/
def fnExactBuildAutoUptoRow : OpenClaim := { program := "ytifefpeefcjabaa", sum := "c6b6dd06747dd4d10d5483ecbf732314d07e0f7b6ecfc0a101a86b1726100e48", func := "loop.example/s0019/laws.FnExactBuildAuto", spec := "fnExactBuildAuto", unfollowed := true, recurses := true, apart := false, narrowed := true }
def FnExactBuildAutoUptoSaid : Prop := fnExactBuildAutoUptoRow.holds Try.pinned (OpenSpec.upto fnExactBuildAutoSpec)

/-- 'laws.FnExactValidAuto', WHERE WHAT IT READS IS OF BULK AT MOST 1048576: true; the input reads as it did. -/
def fnExactValidAutoUptoRow : OpenClaim := { program := "ytifefpeefcjabaa", sum := "c6b6dd06747dd4d10d5483ecbf732314d07e0f7b6ecfc0a101a86b1726100e48", func := "loop.example/s0019/laws.FnExactValidAuto", spec := "fnExactValidAuto", unfollowed := true, recurses := true, apart := false, narrowed := true }
def FnExactValidAutoUptoSaid : Prop := fnExactValidAutoUptoRow.holds Try.pinned (OpenSpec.upto fnExactValidAutoSpec)

/-- 'laws.FnExactStepAuto', WHERE WHAT IT READS IS OF BULK AT MOST 1048576: true; the input reads as it did. -/
def fnExactStepAutoUptoRow : OpenClaim := { program := "ytifefpeefcjabaa", sum := "c6b6dd06747dd4d10d5483ecbf732314d07e0f7b6ecfc0a101a86b1726100e48", func := "loop.example/s0019/laws.FnExactStepAuto", spec := "fnExactStepAuto", unfollowed := true, recurses := true, apart := false, narrowed := true }
def FnExactStepAutoUptoSaid : Prop := fnExactStepAutoUptoRow.holds Try.pinned (OpenSpec.upto fnExactStepAutoSpec)

/-- 'laws.FnExactRunAuto', WHERE WHAT IT READS IS OF BULK AT MOST 1048576: true; the input reads as it did. -/
def fnExactRunAutoUptoRow : OpenClaim := { program := "ytifefpeefcjabaa", sum := "c6b6dd06747dd4d10d5483ecbf732314d07e0f7b6ecfc0a101a86b1726100e48", func := "loop.example/s0019/laws.FnExactRunAuto", spec := "fnExactRunAuto", unfollowed := true, recurses := true, apart := false, narrowed := true }
def FnExactRunAutoUptoSaid : Prop := fnExactRunAutoUptoRow.holds Try.pinned (OpenSpec.upto fnExactRunAutoSpec)

end Rows
end Go.Proofs.Ytifefpeefcjabaa
