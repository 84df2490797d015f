import Derived.Test.YticooljejlkbfaaQB
namespace Go.Proofs.Yticooljejlkbfaa
open Go.RowKit Go.Sort Go.Maps Go.Shelf
set_option linter.unusedVariables false
set_option maxRecDepth 100000

section
variable {P : Program} {ops : Array Oper} {Q : Exit → Act → World → Prop} {md : Region.Mode}
/-- an operation that defers nothing does in a round what it does outside one -/
theorem opIn_of_op (l n : Nat) (hd : NoDefer (Fence.wide.inRound l) ops) (hl : ¬ LetsOut Q) {i : Nat} {K : Act → World → Prop} {a : Act} {w : World} (h : wpOp P ops Q i K a w) : wpOpIn (Fence.wide.inRound l) n P ops Q i K a w := by
  unfold wpOp at h
  unfold wpOpIn
  cases ho : ops[i]? with
  | none => rw [ho] at h; exact h
  | some o =>
    rw [ho] at h
    simp only at h ⊢
    by_cases hw : Region.wanted o (yielded ops a.tmps) = true
    · simp only [hw, if_true] at h ⊢
      rcases h with h | ⟨_, g⟩
      · refine ⟨fun f _ => trivial, ?_⟩
        rw [hd i o a.eval ho]
        unfold Oper.wp at h
        generalize (execOp a.eval o).run P w = r at h ⊢
        match r, h with
        | .ok (.value u) w', h => exact h
        | .ok .skip w', h => exact h
        | .ok (.defer d) w', h => exact h
        | .ok (.enter f args) w', h => exact ⟨fun e => (by cases e), (CallsIn.inRound l (callsIn_wide.2 h))⟩
        | .ok (.row row args) w', h => exact ⟨fun e => (by cases e), fun c cs _ => let ⟨v, w', r, s⟩ := h c cs; ⟨v, w', r, stepsIn_wide.2 s⟩⟩
        | .halt (.panic u) w', h => exact h
      · exact absurd g hl
    · simp only [hw] at h ⊢
      exact ⟨fun f _ => trivial, h⟩
theorem anyIn_of_any (l n : Nat) (hd : NoDefer (Fence.wide.inRound l) ops) (hl : ¬ LetsOut Q) : ∀ (fuel : Nat) (listed : Array Bool) (a : Act) (w : World), wpAny P md ops Q fuel listed a w → wpAnyIn (Fence.wide.inRound l) n P md ops Q fuel listed a w
  | 0, _, _, _, h => h
  | fuel + 1, _, _, _, h => ⟨h.1, fun i hi => wpOpIn_mono (fun a' w' h' => anyIn_of_any l n hd hl fuel _ a' w' h') (opIn_of_op l n hd hl (h.2 i hi))⟩
/-- a region that only reads and calls, in a round: one walk -/
theorem wpIn_region_quiet_r {id l n : Nat} {a : Act} {w : World} {os : List Oper} (hm : P.follows .mixedOrders = true) (hB : Region.lexB .any os.toArray = true) (hd : ∀ o ∈ os, ∀ c, o.op ≠ .defer c) (hl : ¬ LetsOut Q)
    (h : wpQuiet P os.toArray (fun w' => ∃ p : Regrown, w' = Sort.grow (redrawn w p.d) p.os) (fun a' => ∀ w', (∃ p : Regrown, w' = Sort.grow (redrawn w p.d) p.os) → Q .normal a' w') os a) : (Code.region id os.toArray true).wpIn (Fence.wide.inRound l) n P Q a w := by
  have hd' : NoDefer (Fence.wide.inRound l) os.toArray := fun j o ρ hj => Oper.semAt_some l ρ o (hd o (by
    have h1 : os[j]? = some o := by simpa using hj
    exact List.mem_of_getElem? h1))
  simp only [Region.lexB, Bool.and_eq_true] at hB
  refine wpIn_region_any hm (anyIn_of_any l n hd' hl _ _ _ _ (wpAny_of_quiet (Q := fun a' => ∀ w', (∃ p : Regrown, w' = Sort.grow (redrawn w p.d) p.os) → Q .normal a' w') (fun _ w' hw' h => h w' hw') _ _ _ _ ⟨⟨w.drawn + 1, #[]⟩, by rw [grow_empty]; rfl⟩ ?_))
  have := wpAnyQ_lex (C := fun w' => ∃ p : Regrown, w' = Sort.grow (redrawn w p.d) p.os) (md := .any) hB.1 os.toArray.toList 0 (Array.replicate os.toArray.size false) a (by simp) (by simpa using hB.2) (by simpa using h)
  simpa using this
end
end Go.Proofs.Yticooljejlkbfaa
