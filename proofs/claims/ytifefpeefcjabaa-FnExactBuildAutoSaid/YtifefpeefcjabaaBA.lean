import Derived.Test.YtifefpeefcjabaaAZ
import Derived.Maps.Own
namespace Go.Proofs.Ytifefpeefcjabaa
open Go.RowKit Go.Maps
set_option linter.unusedVariables false
set_option maxRecDepth 100000

/-- a pointer to a whole block -/
def ptr (b : Nat) : Value := .pointer (some ⟨b, 0, none⟩)
/-- how a pointer in a map reads: its block's number; nil: -1 -/
def ptrR (v : Value) : Option (DataW Unit × List MemPlace) :=
  match v with
  | .pointer none => some (.lit (.int .i64 (-1)), [])
  | .pointer (some ⟨b, 0, none⟩) => some (.lit (.int .i64 (b : Int)), [])
  | _ => none
theorem ptrR_ptr (b : Nat) : ptrR (ptr b) = some (.lit (.int .i64 (b : Int)), []) := rfl
theorem ptrR_inv {v : Value} {x : Int} {ps : List MemPlace} (h : ptrR v = some (.lit (.int .i64 x), ps)) : (x = -1 ∧ v = .pointer none) ∨ ∃ b : Nat, x = b ∧ v = ptr b := by
  unfold ptrR at h
  split at h
  · simp at h
    exact Or.inl ⟨h.1.symm, rfl⟩
  · rename_i b
    simp at h
    exact Or.inr ⟨b, h.1.symm, rfl⟩
  · simp at h
theorem keyI : Keyed Try.prog 2 := int_keyed Try.underlying2
/-- children: edges and the blocks of their nodes -/
def kidE (p : Int × Nat) : Lit × DataW Unit := (.int .i64 p.1, .lit (.int .i64 (p.2 : Int)))
def kidsD (ks : List (Int × Nat)) : DataW Unit := .map (ks.map kidE)
theorem ins_end (x : Lit × DataW Unit) (l : List (Lit × DataW Unit)) (h : ∀ p ∈ l, x.1.before p.1 = false) : DataW.insert x l = l ++ [x] := by
  induction l with
  | nil => rfl
  | cons y l ih =>
    unfold DataW.insert
    rw [h y (List.mem_cons_self ..)]
    simp only [Bool.false_eq_true, if_false, List.cons_append]
    rw [ih fun p hp => h p (List.mem_cons_of_mem _ hp)]
theorem kids_put {ks : List (Int × Nat)} {e : Int} (b : Nat) (h : ∀ p ∈ ks, p.1 < e) : (kidsD ks).put (.int .i64 e) (.lit (.int .i64 (b : Int))) = kidsD (ks ++ [(e, b)]) := by
  unfold kidsD
  rw [DataW.put_eq]
  congr 1
  unfold ChangeMaps.putKey
  have hf : (ks.map kidE).filter (ChangeMaps.notKey (.int .i64 e)) = ks.map kidE := by
    rw [List.filter_eq_self]
    intro p hp
    obtain ⟨q, hq, rfl⟩ := List.mem_map.1 hp
    have := h q hq
    simp [ChangeMaps.notKey, kidE, Lit.sameKey]
    omega
  rw [hf, ins_end]
  · simp [kidE]
  · intro p hp
    obtain ⟨q, hq, rfl⟩ := List.mem_map.1 hp
    have := h q hq
    simp [kidE, Lit.before]
    omega
/-- the node behind an edge -/
def kidOf (ks : List (Int × Nat)) (e : Int) : Option Nat := (ks.find? (fun p => decide (p.1 = e))).map (·.2)
def ptrO : Option Nat → Value
  | none => .pointer none
  | some b => ptr b
theorem kids_at (ks : List (Int × Nat)) (e : Int) : (kidsD ks).atKey (.int .i64 e) (.lit (.int .i64 (-1))) = .lit (.int .i64 (match kidOf ks e with | none => -1 | some b => (b : Int))) := by
  unfold kidsD kidOf
  simp only [DataW.atKey]
  induction ks with
  | nil => rfl
  | cons p ks ih =>
    simp only [List.map_cons, List.find?_cons]
    have e1 : (kidE p).1.sameKey (.int .i64 e) = decide (p.1 = e) := by simp [kidE, Lit.sameKey]
    rw [e1]
    by_cases h : p.1 = e
    · simp [h, kidE]
    · simp only [decide_eq_false h]
      exact ih
/-- a map that holds these children -/
def MK (w : World) (m : Value) (ks : List (Int × Nat)) : Prop := (m = .map none ∧ ks = []) ∨ ∃ mb, m = .map (some mb) ∧ w.ownsMap Try.prog 2 ptrR mb ks.length (kidsD ks)
def mapBlk : Value → Option Nat
  | .map (some b) => some b
  | _ => none
/-- two blocks alone may have turned -/
structure But (o o' : Option Nat) (w w' : World) : Prop where
  os : w'.os = w.os
  tape : w'.tape = w.tape
  output : w'.output = w.output
  size : w.heap.size ≤ w'.heap.size
  block : ∀ b, b < w.heap.size → some b ≠ o → some b ≠ o' → w'.heap[b]? = w.heap[b]?
theorem zeroPtr (w : World) : (zeroValue 78).run Try.prog w = .ok (.pointer none) w := by kernel_rfl
def node (num len last must : Int) (bad : Bool) (par fl m : Value) : Array Value := #[.int .i64 num, .int .i64 len, .int .i64 last, .int .i64 must, .bool bad, par, fl, m]
end Go.Proofs.Ytifefpeefcjabaa
