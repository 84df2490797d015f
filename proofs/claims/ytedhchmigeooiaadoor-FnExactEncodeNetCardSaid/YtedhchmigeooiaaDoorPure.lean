import Derived.Test.YtedhchmigeooiaaDoorImO
import Derived.Test.YtedhchmigeooiaaDoorSpC
namespace Go.Proofs.YtedhchmigeooiaaDoor
open Go.RowKit
set_option linter.unusedVariables false

def nodeAt (zs : List Int) (i : Nat) : Bool := inB (iat zs i) && ascAt (ltI zs) i
def wayAt (N : Nt) (i : Nat) : Bool := wayGood N.nodes (wat N.ways i) && ascAt (ltW N.ways) i
def relAt (N : Nt) (i : Nat) : Bool := relGood N (rat N.rels i) && ascAt (ltR N.rels) i
def turnAt (N : Nt) (i : Nat) : Bool := (inB (tat N.turns i).cost && (hasW N.ways (tat N.turns i).frm && hasW N.ways (tat N.turns i).to)) && ascAt (ltT N.turns) i

def specHead (N : Nt) : Bool := inB N.uturn && (decide (N.nodes.length ≤ 2000) && (decide (N.ways.length ≤ 2000) && (decide (N.rels.length ≤ 1000) && decide (N.turns.length ≤ 2000))))
def specValid (N : Nt) : Bool :=
  specHead N && (allN N.nodes.length (nodeAt N.nodes) && (allN N.ways.length (wayAt N) && (decide (edTo N.ways N.ways.length ≤ 4000) && (allN N.rels.length (relAt N) && allN N.turns.length (turnAt N)))))

theorem allN_and (n : Nat) (p q : Nat → Bool) : allN n (fun i => p i && q i) = (allN n p && allN n q) := by
  unfold allN
  rw [Bool.eq_iff_iff]
  simp only [Bool.and_eq_true, List.all_eq_true, List.mem_range]
  constructor
  · intro h; exact ⟨fun i hi => (h i hi).1, fun i hi => (h i hi).2⟩
  · rintro ⟨h1, h2⟩ i hi; exact ⟨h1 i hi, h2 i hi⟩

theorem same_valid (N : Nt) : implValid N = specValid N := by
  have n1 : allN N.nodes.length (nodeAt N.nodes) = (allIn N.nodes && ascI N.nodes) := allN_and _ _ _
  have w1 : allN N.ways.length (wayAt N) = (waysOk N && ascW N.ways) := allN_and _ _ _
  have r1 : allN N.rels.length (relAt N) = (relsOk N && ascR N.rels) := allN_and _ _ _
  have t1 : allN N.turns.length (turnAt N) = (turnsOk N && ascT N.turns) := by
    have h : allN N.turns.length (turnAt N) = allN N.turns.length (fun i => turnGood N (tat N.turns i) && ascAt (ltT N.turns) i) := by
      unfold allN
      congr 1
      funext i
      unfold turnAt turnGood
      cases inB (tat N.turns i).cost <;> cases hasW N.ways (tat N.turns i).frm <;> cases hasW N.ways (tat N.turns i).to <;> rfl
    rw [h]
    exact allN_and _ _ _
  unfold implValid specValid counts specHead
  rw [n1, w1, r1, t1]
  generalize allIn N.nodes = b1
  generalize ascI N.nodes = b2
  generalize (waysOk N && ascW N.ways) = b3
  generalize (relsOk N && ascR N.rels) = b4
  generalize (turnsOk N && ascT N.turns) = b5
  generalize inB N.uturn = b6
  generalize decide (N.nodes.length ≤ 2000) = b7
  generalize decide (N.ways.length ≤ 2000) = b8
  generalize decide (N.rels.length ≤ 1000) = b9
  generalize decide (N.turns.length ≤ 2000) = b10
  generalize decide (edTo N.ways N.ways.length ≤ 4000) = b11
  revert b1 b2 b3 b4 b5 b6 b7 b8 b9 b10 b11
  decide
end Go.Proofs.YtedhchmigeooiaaDoor
