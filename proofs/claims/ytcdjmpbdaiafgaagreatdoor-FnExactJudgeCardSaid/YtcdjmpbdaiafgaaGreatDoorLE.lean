import Derived.Test.YtcdjmpbdaiafgaaGreatDoorLD
import Derived.RangeFuncOwn
import Derived.RangeFuncNested
import Derived.RangeFuncBound
import Derived.RangeFuncCalls
import Derived.RangeFuncLeaves
import Derived.Shelf.Abstract
import Derived.Shelf.RegionOpen
import Derived.OwnWalkIn
import Derived.LoopIn
namespace Go.Proofs.YtcdjmpbdaiafgaaGreatDoor
open Go.RowKit Go.Sort Go.Maps
set_option linter.unusedVariables false
set_option maxRecDepth 100000

theorem no_back {N : Nt} {i : Nat} (hb : (wat N.ways i).both = false) {e : Nat} (he : e < (E1 N).length) (hw : (eat (E1 N) e).way = i) : (eat (E1 N) e).back = false := by
  rw [E1_len] at he
  obtain ⟨i', j, q, hi, hj, hq, he1⟩ := lay_of N.ways.length he
  obtain ⟨_, a1⟩ := at_place hi hj hq
  rw [← he1] at a1
  have hii : i' = i := by
    rw [a1] at hw
    split at hw
    · simp [fwd] at hw; omega
    · split at hw
      · simp [fwd] at hw; omega
      · simp [bwd] at hw; omega
  subst hii
  have hq0 : q = 0 := by
    have : bnN N i' = 1 := by unfold bnN; rw [hb]; rfl
    have hq' : q < bnN N i' := hq
    omega
  rw [a1]
  split
  · rfl
  · first | rfl | (rw [if_pos hq0]; rfl)
theorem of_th (es : List Eg) (i : Int) (m : Nat) : (ofTo es i m).filter (fun e => !(eat es e).back) = thTo es i m := by
  unfold ofTo thTo
  rw [List.filter_filter]
  congr 1
  funext x
  exact Bool.and_comm _ _
theorem of_bk (es : List Eg) (i : Int) (m : Nat) : ((ofTo es i m).filter (fun e => (eat es e).back)).reverse = bkTo es i m := by
  unfold ofTo bkTo
  rw [List.filter_filter]
  congr 2
  funext x
  exact Bool.and_comm _ _
theorem trv_travs {N : Nt} (hv : implValid N = true) {i : Nat} (hi : i < N.ways.length) : trv (E1 N) (ofTo (E1 N) i (E1 N).length) = travs N (E1 N) i := by
  unfold trv travs
  rw [of_th]
  congr 1
  have h := edge_there (road_in hv) (rels_in hv) hi
  have hr := of_bk (E1 N) i (E1 N).length
  cases hb : (wat N.ways i).both
  · have e : (ofTo (E1 N) i (E1 N).length).filter (fun e => (eat (E1 N) e).back) = [] := by
      rw [List.filter_eq_nil_iff]
      intro x hx
      have hx1 := ofTo_lt hx
      have hx2 := (List.mem_filter.1 hx).2
      rw [no_back hb hx1 (by simpa [wayIs] using hx2)]
      simp
    rw [if_pos e]
    rfl
  · have hn := h.2 hb
    rw [if_neg (fun e => hn (by rw [← hr, e]; rfl)), hr]
    rfl
end Go.Proofs.YtcdjmpbdaiafgaaGreatDoor

namespace Go.Proofs.YtcdjmpbdaiafgaaGreatDoor
open Go
set_option linter.unusedVariables false
-- iterators whose elements lead to memory that they make: what is handed over is told at each yield
/-- what is no loop's record: cells and maps -/
def solid : Obj → Bool
  | .cells _ _ _ => true
  | .map _ _ => true
  | _ => false
/-- all that is solid stands, and all where K, but for X -/
structure Ck (X K : Nat → Prop) (A B : World) : Prop where
  os : B.os = A.os
  tape : B.tape = A.tape
  output : B.output = A.output
  size : A.heap.size ≤ B.heap.size
  block : ∀ (b : Nat) (o : Obj), A.heap[b]? = some o → ¬ X b → (K b ∨ solid o = true) → B.heap[b]? = some o
abbrev noX : Nat → Prop := fun _ => False
section
variable {X K : Nat → Prop} {A B C : World}
theorem Ck.refl (X K : Nat → Prop) (A : World) : Ck X K A A := ⟨rfl, rfl, rfl, Nat.le_refl _, fun _ _ h _ _ => h⟩
theorem Ck.trans (h : Ck X K A B) (k : Ck X K B C) : Ck X K A C :=
  ⟨k.os.trans h.os, k.tape.trans h.tape, k.output.trans h.output, Nat.le_trans h.size k.size, fun b o hb hx hc => k.block b o (h.block b o hb hx hc) hx hc⟩
theorem Ck.nx (h : Nx A B) : Ck X K A B := ⟨h.os, h.tape, h.output, h.size, fun b o hb _ _ => (h.block b (Array.getElem?_eq_some_iff.1 hb).1).trans hb⟩
theorem Ck.chg (h : Chg X A B) : Ck X K A B := ⟨h.os, h.tape, h.output, h.size, fun b o hb hx _ => (h.block b (Array.getElem?_eq_some_iff.1 hb).1 hx).trans hb⟩
theorem Ck.mono {Y L : Nat → Prop} (h : Ck X K A B) (hX : ∀ b, X b → Y b) (hK : ∀ b, L b → K b) : Ck Y L A B :=
  ⟨h.os, h.tape, h.output, h.size, fun b o hb hy hc => h.block b o hb (fun x => hy (hX b x)) (hc.imp (hK b) id)⟩
theorem Ck.put {l : Nat} {o o' : Obj} (h : A.heap[l]? = some o) (ho : solid o = false) (hl : ¬ K l) : Ck X K A (A.putObj l o') :=
  ⟨rfl, rfl, rfl, by simp, fun b p hb _ hc => by
    by_cases e : b = l
    · subst e
      rw [h] at hb
      cases hb
      rcases hc with q | q
      · exact absurd q hl
      · rw [ho] at q; cases q
    · exact (World.putObj_heap_other e).trans hb⟩
end
/-- what an iterator gives: len elements, each told by Py when it is handed over. The rounds may turn X and loops' records that are older; the iterator itself turns none of what is older. -/
def Gives (P : Program) (gf : Nat) (lb : Array Value) (Py : Nat → Nat → Array Value → World → Prop) (z len : Nat) (Inv : World → Prop) : Prop :=
  ∀ (X : Nat → Prop) (l m : Nat) (J : Nat → World → Prop) (Jx : World → Prop) (W : World), (∀ b, X b → z ≤ b ∧ b < W.heap.size) →
    (∀ B, Ck X noX W B → Inv B) → (∀ k A B, J k A → Ck noX (fun b => b < W.heap.size) A B → J k B) → (∀ A B, Jx A → Ck noX (fun b => b < W.heap.size) A B → Jx B) →
    (∀ k args W1, k < len → J k W1 → Ck X noX W W1 → Py W.heap.size k args W1 → YieldAt Fence.wide m P l args W1 fun e W' => Ck X (fun b => W.heap.size ≤ b) W1 W' ∧ ((e = .returned (.bool true) ∧ J (k + 1) W') ∨ (e = .returned (.bool false) ∧ Jx W'))) →
    J 0 W → Calls P gf (#[.func (.yield l) #[] #[]] ++ lb) W fun e W' => (∃ v, e = .returned v) ∧ Ck X noX W W' ∧ (J len W' ∨ Jx W')
/-- how a round's body is left: off its end, or by a return -/
def leftBy (X K : Nat → Prop) (I : World → Prop) (Ix : World → Prop) (W : World) : Exit → Act → World → Prop
  | .normal, _, W' => Ck X K W W' ∧ I W'
  | .ret, _, W' => Ck X K W W' ∧ Ix W'
  | .exit _, _, _ => False
  | .goto _, _, _ => False
  | .panic _, _, _ => False
  | .outgrown, _, _ => False
/-- one round: the record at l is ready; the loop's variables are laid; the body runs while the record is busy; it is ready again, or done with a return to come -/
theorem round_yield {P : Program} {X K0 : Nat → Prop} {l m : Nat} {r : Loop} {W : World} {args : Array Value} {I : World → Prop} {Ix : World → Prop} (Ax : Act → World → Prop)
    (hl : W.heap[l]? = some (.loop r)) (hst : r.state = .ready) (hp : r.pending = none) (hs : args.size = r.params.size) (hX : ¬ X l) (hK : K0 l)
    (hassign : ∀ (K : Act → World → Prop), (∀ a' W', Nx W W' → Ax a' W' → K a' W') → r.assign.wpIn (Fence.wide.inRound l) m P (Exit.then K (fun _ _ _ => False)) { tmps := (r.params.zip args).foldl (fun t (p, v) => t.setIfInBounds p v) r.tmps, defers := [] } W)
    (hbody : ∀ a' W', Nx W W' → Ax a' W' → r.body.wpIn (Fence.wide.inRound l) m P (leftBy X K0 I Ix (W'.putObj l (.loop { r with state := .busy }))) a' (W'.putObj l (.loop { r with state := .busy })))
    (R : Ending → World → Prop)
    (ht : ∀ W' W3, Nx W W' → Ck X K0 (W'.putObj l (.loop { r with state := .busy })) W3 → I W3 → R (.returned (.bool true)) (W3.putObj l (.loop r)))
    (hf : ∀ W' W3, Nx W W' → Ck X K0 (W'.putObj l (.loop { r with state := .busy })) W3 → Ix W3 → R (.returned (.bool false)) (W3.putObj l (.loop { r with state := .done, pending := some .ret }))) :
    YieldAt Fence.wide m P l args W R := by
  refine ⟨r.fn, _, r.assign, r.body, run_yield hl hs, roundIn_of_wpIn trivial (hassign _ fun a' W' hn ha => ?_)⟩
  have hl' : W'.heap[l]? = some (.loop r) := (hn.block l (Array.getElem?_eq_some_iff.1 hl).1).trans hl
  have hbusy : (W'.putObj l (.loop { r with state := .busy })).heap[l]? = some (.loop { r with state := .busy }) := World.putObj_heap_same (Array.getElem?_eq_some_iff.1 hl').1
  have still : ∀ W3, Ck X K0 (W'.putObj l (.loop { r with state := .busy })) W3 → W3.heap[l]? = some (.loop { r with state := .busy }) := fun W3 h => h.block l _ hbusy hX (Or.inl hK)
  refine ⟨_, run_beginRound hl' hst, wpIn_mono (hbody a' W' hn ha) ?_⟩
  intro e a3 W3 h
  cases e with
  | normal =>
    refine ⟨_, _, run_endRound none (still W3 h.1), ?_⟩
    have := ht W' W3 hn h.1 h.2
    rcases r with ⟨st, pe, f1, f2, f3, f4, f5, f6⟩
    simp only at hst hp
    subst hst hp
    exact this
  | ret => exact ⟨_, _, run_endRound (some .ret) (still W3 h.1), hf W' W3 hn h.1 h.2⟩
  | exit id => exact h.elim
  | goto t => exact h.elim
  | panic c => exact h.elim
  | outgrown => exact h.elim
end Go.Proofs.YtcdjmpbdaiafgaaGreatDoor

namespace Go.Proofs.YtcdjmpbdaiafgaaGreatDoor
open Go
set_option linter.unusedVariables false
/-- a loop over such an iterator -/
theorem range_gives {P : Program} {n : Nat} {g : Operand} {ps : Array Tmp} {assign body : Code} {Q : Exit → Act → World → Prop} {a : Act} {w : World} {gf : Nat} {lb : Array Value} {Py : Nat → Nat → Array Value → World → Prop} {z len : Nat} {Inv : World → Prop}
    (hG : Gives P gf lb Py z len Inv) (hg : a.eval g = .func (.func gf) #[] lb) (eg : ∀ args w, (callFunc gf args).run P w = .ok (.enter gf args) w)
    (X : Nat → Prop) (hX : ∀ b, X b → z ≤ b ∧ b < w.heap.size)
    (hps : ∀ k args W, Py (w.heap.size + 2) k args W → args.size = ps.size) (hPy : ∀ k args A B, Py (w.heap.size + 2) k args A → Ck noX (fun b => b < w.heap.size) A B → Py (w.heap.size + 2) k args B)
    (hInv : ∀ B, Ck X noX w B → Inv B)
    (I : Nat → World → Prop) (Ix : World → Prop) (hI : ∀ k A B, I k A → Ck noX (fun b => b < w.heap.size) A B → I k B) (hIx : ∀ A B, Ix A → Ck noX (fun b => b < w.heap.size) A B → Ix B)
    (h0I : I 0 w) (Ax : Array Value → Act → World → Prop) (hAx : ∀ args a' A B, Ax args a' A → Ck noX (fun b => b < w.heap.size) A B → Ax args a' B)
    (hassign : ∀ (l k : Nat) (args : Array Value) (W : World) (K : Act → World → Prop), k < len → w.heap.size ≤ W.heap.size → Py (w.heap.size + 2) k args W → (∀ a' W', Nx W W' → Ax args a' W' → K a' W') → assign.wpIn (Fence.wide.inRound l) n P (Exit.then K (fun _ _ _ => False)) { tmps := (ps.zip args).foldl (fun t (p, v) => t.setIfInBounds p v) a.tmps, defers := [] } W)
    (hbody : ∀ (l k : Nat) (args : Array Value) (a' : Act) (W : World), k < len → I k W → Py (w.heap.size + 2) k args W → Ax args a' W → Ck X noX w W → body.wpIn (Fence.wide.inRound l) n P (leftBy X (fun b => w.heap.size ≤ b) (I (k + 1)) Ix W) a' W)
    (hdone : ∀ (D : Nat) (W : World), w.heap.size ≤ D → I len W → Ck X noX w W → W.heap[D]? = some (.deferred (some [])) → Q .normal { a with defers := { target := .collected D, args := #[] } :: a.defers } W)
    (hstop : ∀ (D : Nat) (W : World), w.heap.size ≤ D → Ix W → Ck X noX w W → W.heap[D]? = some (.deferred (some [])) → Code.ret.wpIn Fence.wide n P Q { a with defers := { target := .collected D, args := #[] } :: a.defers } W) :
    (Code.rangeFunc g ps assign body).wpIn Fence.wide n P Q a w := by
  refine wpIn_rangeFunc fun fn _ => ?_
  -- the record, and the world that holds it
  generalize hr : (Loop.mk .ready none fn a.tmps ps assign body w.heap.size : Loop) = r
  generalize hW1 : (w.alloc (.deferred (some []))).alloc (.loop r) = W1
  have n1 : Nx w W1 := by rw [← hW1]; exact (box1 _ _).trans (box1 _ _)
  have s1 : W1.heap.size = w.heap.size + 2 := by rw [← hW1, size_alloc', size_alloc']
  have r1 : W1.heap[w.heap.size + 1]? = some (.loop r) := by
    rw [← hW1]
    have := World.alloc_heap_new (w.alloc (.deferred (some []))) (.loop r)
    rwa [size_alloc'] at this
  have d1 : W1.heap[w.heap.size]? = some (.deferred (some [])) := by
    rw [← hW1]
    exact ((box1 (w.alloc (.deferred (some []))) (.loop r)).block _ (by rw [size_alloc']; omega)).trans (World.alloc_heap_new w _)
  have hst : r.state = .ready := by rw [← hr]
  have hpe : r.pending = none := by rw [← hr]
  have hpa : r.params = ps := by rw [← hr]
  have has : r.assign = assign := by rw [← hr]
  have hbo : r.body = body := by rw [← hr]
  have htm : r.tmps = a.tmps := by rw [← hr]
  have nXl : ¬ X (w.heap.size + 1) := fun x => by have := (hX _ x).2; omega
  have tot : ∀ {W : World}, Ck X noX W1 W → Ck X noX w W := fun h => (Ck.nx n1).trans h
  have rec1 : ∀ {A B : World} {o : Obj} {i : Nat}, i < w.heap.size + 2 → Ck noX (fun b => b < W1.heap.size) A B → A.heap[i]? = some o → B.heap[i]? = some o := fun hi h ho => h.block _ _ ho id (Or.inl (by omega))
  have weak : ∀ {A B : World}, Ck noX (fun b => b < W1.heap.size) A B → Ck noX (fun b => b < w.heap.size) A B := fun h => h.mono (fun _ x => x) (fun b q => by omega)
  have wput : ∀ {X : Nat → Prop} {A : World} {q : Loop} (o : Obj), A.heap[w.heap.size + 1]? = some (.loop q) → Ck X (fun b => b < w.heap.size) A (A.putObj (w.heap.size + 1) o) := fun o h => Ck.put h rfl (by omega)
  have wputn : ∀ {X : Nat → Prop} {A : World} {q : Loop} (o : Obj), A.heap[w.heap.size + 1]? = some (.loop q) → Ck X (fun b => W1.heap.size ≤ b) A (A.putObj (w.heap.size + 1) o) := fun o h => Ck.put h rfl (by omega)
  have wput0 : ∀ {X : Nat → Prop} {A : World} {q : Loop} (o : Obj), A.heap[w.heap.size + 1]? = some (.loop q) → Ck X noX A (A.putObj (w.heap.size + 1) o) := fun o h => Ck.put h rfl id
  refine ⟨w.heap.size + 1, [{ target := .collected w.heap.size, args := #[] }], W1, { target := .fn (.func gf) lb, args := #[.func (.yield (w.heap.size + 1)) #[] #[]] }, W1, gf, #[.func (.yield (w.heap.size + 1)) #[] #[]] ++ lb, W1, ?_, ?_, fun _ _ => trivial, ?_, fun h => ?_, ?_⟩
  · rw [← hW1, ← hr]
    exact run_enterLoop_outer _ _ _ _ _
  · simp only [resolve, hg]
    simp [go_sem]
  · simp [invoke, go_sem, eg]
  · simp [Fence.wide] at h
  refine callsIn_wide.2 ((hG X (w.heap.size + 1) n
    (fun k W => I k W ∧ W.heap[w.heap.size + 1]? = some (.loop r) ∧ W.heap[w.heap.size]? = some (.deferred (some [])))
    (fun W => Ix W ∧ W.heap[w.heap.size + 1]? = some (.loop { r with state := .done, pending := some .ret }) ∧ W.heap[w.heap.size]? = some (.deferred (some []))) W1
    (fun b q => ⟨(hX b q).1, by have := (hX b q).2; omega⟩) (fun B h => hInv B ((Ck.nx n1).trans h))
    (fun k A B hj h => ⟨hI k A B hj.1 (weak h), rec1 (by omega) h hj.2.1, rec1 (by omega) h hj.2.2⟩)
    (fun A B hj h => ⟨hIx A B hj.1 (weak h), rec1 (by omega) h hj.2.1, rec1 (by omega) h hj.2.2⟩)
    ?_ ⟨hI 0 _ _ h0I (Ck.nx n1), r1, d1⟩).mono ?_)
  · rintro k args W hk ⟨hi, hl, hd⟩ hc hp
    rw [s1] at hp
    have hlt : w.heap.size + 1 < W.heap.size := (Array.getElem?_eq_some_iff.1 hl).1
    have aft : ∀ W' W3, Nx W W' → Ck X (fun b => w.heap.size ≤ b) (W'.putObj (w.heap.size + 1) (.loop { r with state := .busy })) W3 → W3.heap[w.heap.size + 1]? = some (.loop { r with state := .busy }) ∧ W3.heap[w.heap.size]? = some (.deferred (some [])) ∧ ∀ o, Ck X (fun b => W1.heap.size ≤ b) W (W3.putObj (w.heap.size + 1) o) := fun W' W3 hn h => by
      have hl' : W'.heap[w.heap.size + 1]? = some (.loop r) := (hn.block _ hlt).trans hl
      have hd' : W'.heap[w.heap.size]? = some (.deferred (some [])) := (hn.block _ (by omega)).trans hd
      have hbz : (W'.putObj (w.heap.size + 1) (.loop { r with state := .busy })).heap[w.heap.size + 1]? = some (.loop { r with state := .busy }) := World.putObj_heap_same (Array.getElem?_eq_some_iff.1 hl').1
      have hdz : (W'.putObj (w.heap.size + 1) (.loop { r with state := .busy })).heap[w.heap.size]? = some (.deferred (some [])) := (World.putObj_heap_other (by omega)).trans hd'
      have h1 := h.block _ _ hbz nXl (Or.inl (by omega))
      refine ⟨h1, h.block _ _ hdz (fun x => by have := (hX _ x).2; omega) (Or.inl (by omega)), fun o => ?_⟩
      exact (((Ck.nx hn).trans (wputn _ hl')).trans (h.mono (fun _ x => x) (fun b q => by omega))).trans (wputn _ h1)
    refine round_yield (X := X) (K0 := fun b => w.heap.size ≤ b) (I := I (k + 1)) (Ix := Ix) (Ax args) hl hst hpe (by rw [hpa]; exact hps k args W hp) nXl (by omega) ?_ ?_ _ ?_ ?_
    · intro K hK
      rw [has, hpa, htm]
      exact hassign _ k args W K hk (by have := hc.size; omega) hp hK
    · intro a' W' hn ha
      have hl' : W'.heap[w.heap.size + 1]? = some (.loop r) := (hn.block _ hlt).trans hl
      rw [hbo]
      exact hbody _ k args a' _ hk (hI _ _ _ (hI _ _ _ hi (Ck.nx hn)) (wput _ hl')) (hPy _ _ _ _ (hPy _ _ _ _ hp (Ck.nx hn)) (wput _ hl')) (hAx _ _ _ _ ha (wput _ hl')) (tot ((hc.trans (Ck.nx hn)).trans (wput0 _ hl')))
    · intro W' W3 hn hc3 hi3
      obtain ⟨h1, h2, h3⟩ := aft W' W3 hn hc3
      exact ⟨h3 _, Or.inl ⟨rfl, hI _ _ _ hi3 (wput _ h1), World.putObj_heap_same (Array.getElem?_eq_some_iff.1 h1).1, (World.putObj_heap_other (by omega)).trans h2⟩⟩
    · intro W' W3 hn hc3 hi3
      obtain ⟨h1, h2, h3⟩ := aft W' W3 hn hc3
      exact ⟨h3 _, Or.inr ⟨rfl, hIx _ _ hi3 (wput _ h1), World.putObj_heap_same (Array.getElem?_eq_some_iff.1 h1).1, (World.putObj_heap_other (by omega)).trans h2⟩⟩
  · rintro e W2 ⟨⟨v, rfl⟩, hc, (⟨hi, hl, hd⟩ | ⟨hi, hl, hd⟩)⟩
    · exact ⟨none, _, by have := run_endLoop (P := P) hl (by rw [hst]; simp); rw [hpe] at this; exact this, hdone w.heap.size _ (Nat.le_refl _) (hI _ _ _ hi (wput _ hl)) (tot (hc.trans (wput0 _ hl))) ((World.putObj_heap_other (by omega)).trans hd)⟩
    · exact ⟨some .ret, _, run_endLoop (P := P) hl (by simp), hstop w.heap.size _ (Nat.le_refl _) (hIx _ _ hi (wput _ hl)) (tot (hc.trans (wput0 _ hl))) ((World.putObj_heap_other (by omega)).trans hd)⟩
end Go.Proofs.YtcdjmpbdaiafgaaGreatDoor

namespace Go.Proofs.YtcdjmpbdaiafgaaGreatDoor
open Go.RowKit Go.Sort Go.Maps Go.Shelf
set_option linter.unusedVariables false
set_option maxRecDepth 100000
attribute [local go_sem] Oper.semAt_some

/-- a stretch: where it begins and ends, its edges -/
structure Sx where
  t : Int
  h : Int
  l : List Nat
def sxat (xs : List Sx) (i : Nat) : Sx := xs.getD i ⟨0, 0, []⟩
/-- where a slice's cells lie: below z, or not below c -/
def Lies (z c : Nat) (u : Value) : Prop := ∀ g, u.ownBlock = some g → g < z ∨ c ≤ g
def HStx (z : Nat) (W : World) (v : Value) (xs : List Sx) : Prop := HSlice 0 W v xs.length fun b off i => ∃ u, W.cell? ⟨b, off + i * 3, none⟩ = some (.int .i64 (sxat xs i).t) ∧ W.cell? ⟨b, off + i * 3 + 1, none⟩ = some (.int .i64 (sxat xs i).h) ∧ W.cell? ⟨b, off + i * 3 + 2, none⟩ = some u ∧ HInts 0 W u (nums (sxat xs i).l) ∧ (∀ g, u.ownBlock = some g → g < z) ∧ CapOk u
/-- the k-th stretch is handed over -/
def PyS (z : Nat) (xs : List Sx) (c k : Nat) (args : Array Value) (W : World) : Prop := ∃ u, args = #[.agg #[.int .i64 (sxat xs k).t, .int .i64 (sxat xs k).h, u]] ∧ HInts 0 W u (nums (sxat xs k).l) ∧ Lies z c u ∧ CapOk u
/-- what slices.Values reads -/
def InvV (z bq : Nat) (v : Value) (xs : List Sx) (W : World) : Prop := W.cell? ⟨bq, 0, none⟩ = some v ∧ HStx z W v xs

set_option maxHeartbeats 8000000 in
theorem values1_in (z bq : Nat) (v : Value) (xs : List Sx) (X : Nat → Prop) (l m : Nat) (J : Nat → World → Prop) (Jx : World → Prop) (W : World) (hX : ∀ b, X b → z ≤ b ∧ b < W.heap.size)
    (hInv : ∀ B, Ck X noX W B → InvV z bq v xs B) (hJ : ∀ k A B, J k A → Ck noX (fun b => b < W.heap.size) A B → J k B) 
    (hY : ∀ k args W1, k < xs.length → J k W1 → Ck X noX W W1 → PyS z xs W.heap.size k args W1 → YieldAt Fence.wide m Tryz.prog l args W1 fun e W' => Ck X (fun b => W.heap.size ≤ b) W1 W' ∧ ((e = .returned (.bool true) ∧ J (k + 1) W') ∨ (e = .returned (.bool false) ∧ Jx W')))
    (h0 : J 0 W) :
    CallsIn Fence.wide (m + 1) Tryz.prog 127 #[.func (.yield l) #[] #[], .pointer (some ⟨bq, 0, none⟩)] W fun e W' => (∃ v, e = .returned v) ∧ Ck X noX W W' ∧ (J xs.length W' ∨ Jx W') := by
  have HY : Hid (∀ k args W1, k < xs.length → J k W1 → Ck X noX W W1 → PyS z xs W.heap.size k args W1 → YieldAt Fence.wide m Tryz.prog l args W1 fun e W' => Ck X (fun b => W.heap.size ≤ b) W1 W' ∧ ((e = .returned (.bool true) ∧ J (k + 1) W') ∨ (e = .returned (.bool false) ∧ Jx W'))) := hY
  have HIN : Hid (∀ B, Ck X noX W B → InvV z bq v xs B) := hInv
  have HJS : Hid (∀ k A B, J k A → Ck noX (fun b => b < W.heap.size) A B → J k B) := hJ
  have hI := hInv W (Ck.refl _ _ _)
  have HJ0 : Hid (J 0 W) := h0
  obtain ⟨x0, hv⟩ := hI
  obtain ⟨sa, cap, rfl, hmx, hk⟩ := hv
  unfold maxLen at hmx
  generalize hn : xs.length = n at *
  have HN : Hid (xs.length = n) := hn
  clear hY hInv hJ h0 hk hn
  refine callsIn_of_wp Tryz.func127 rfl trivial ?_ rfl
  simp only [Tryz.ntmps127, List.size_toArray, List.length_cons, List.length_nil, Nat.reduceAdd, Nat.reduceSub, Array.replicate_succ, Array.replicate_zero, List.push_toArray, List.append_toArray, List.nil_append, List.cons_append]
  gi_wp2
  gi_loopw [4, 7] (fun p4 i wr => ∃ c : Nat, c ≤ n ∧ i = .int .i64 c ∧ Hid (J c wr) ∧ Hid (Ck X noX W wr)) (fun _ i _ => n - (intOf i).toNat)
  case atStart => exact ⟨0, Nat.zero_le _, rfl, HJ0, Ck.refl _ _ _⟩
  case round =>
    clear HJ0
    obtain ⟨c, hc, rfl, HJ, HC⟩ := hrel
    by_cases hlt : c < n
    · have HIW : Hid (InvV z bq (.slice sa n cap) xs wr) := HIN.out _ HC.out
      obtain ⟨y0, sa', cap', hse, hm', hk'⟩ := HIW.out
      have hlx : c < xs.length := by rw [HN.out]; exact hlt
      obtain ⟨b, off, rfl, hB, hb, hcs⟩ := hk' (by omega)
      simp only [Value.slice.injEq] at hse
      obtain ⟨rfl, jl, rfl⟩ := hse
      obtain ⟨u, z0, z1, z2, hu, hlz, hcp⟩ := hcs c hlx
      have HLZ : Hid (∀ g, u.ownBlock = some g → g < z) := hlz
      have HCP : Hid (CapOk u) := hcp
      have HU : Hid (HInts 0 wr u (nums (sxat xs c).l)) := hu
      obtain ⟨ua, uc, rfl, _⟩ := hu.slice
      generalize hun : (nums (sxat xs c).l).length = un at *
      have hlt' : (c : Int) < n := by omega
      generalize hW2 : wr.alloc (.cells #[.int .i64 (sxat xs c).t, .int .i64 (sxat xs c).h, .slice ua un uc] 160) = w2
      have HX2 : Hid (Nx wr w2) := by unfold Hid; rw [← hW2]; exact box1 _ _
      have HJ2 : Hid (J c w2) := HJS.out c _ _ HJ.out (Ck.nx HX2.out)
      have HC2 : Hid (Ck X noX W w2) := HC.out.trans (Ck.nx HX2.out)
      obtain ⟨fn, tmps, assign, body, hy, hR⟩ := HY.out c #[.agg #[.int .i64 (sxat xs c).t, .int .i64 (sxat xs c).h, .slice ua un uc]] w2 hlt HJ2.out HC2.out ⟨_, rfl, HU.out.keep (HX2.out.keeps 0), fun g hg => Or.inl (HLZ.out g hg), HCP.out⟩
      have HR : Hid (RoundIn Fence.wide m Tryz.prog l fn tmps assign body w2 _) := hR
      have HEQ : Hid (wr.alloc (.cells #[.int .i64 (sxat xs c).t, .int .i64 (sxat xs c).h, .slice ua un uc] 160) = w2) := hW2
      rw [← hW2] at hy
      clear hR hcs hk' hu hlz hcp jl hun hW2 y0 hm'
      gi_wp2
      rw [HEQ.out]
      refine RoundIn.mono HR.out ?_
      rintro e W3 ⟨hc3, (⟨rfl, hJ3⟩ | ⟨rfl, hJx3⟩)⟩
      · have HJ3 : Hid (J (c + 1) W3) := hJ3
        have HC3 : Hid (Ck X noX W W3) := HC2.out.trans (hc3.mono (fun _ x => x) (fun _ x => x.elim))
        clear hJ3 hc3 hy z0 z1 z2
        gi_wp2
        go_roundw
        case rel => exact ⟨c + 1, by omega, by go_num, HJ3, HC3⟩
        case measure => simp [intOf]; omega
      · have HC3 : Hid (Ck X noX W W3) := HC2.out.trans (hc3.mono (fun _ x => x) (fun _ x => x.elim))
        clear hc3
        gi_wp2
        refine bodyPost_ret (results_none rfl _ _ _) rfl ?_
        exact ⟨⟨_, rfl⟩, HC3.out, Or.inr hJx3⟩
    · have he : c = n := by omega
      subst he
      gi_wp2
      go_end0
      exact ⟨⟨_, rfl⟩, HC.out, Or.inl HJ.out⟩
/-- slices.Values of stretches gives them -/
theorem values_gives (z bq : Nat) (v : Value) (xs : List Sx) : Gives Tryz.prog 127 #[.pointer (some ⟨bq, 0, none⟩)] (PyS z xs) z xs.length (InvV z bq v xs) :=
  fun X l m J Jx W hX hInv hJ hJx hY h0 => callsIn_wide.1 (values1_in z bq v xs X l m J Jx W hX hInv hJ hY h0)
set_option maxHeartbeats 2000000 in
theorem values_any (a : Option Addr) (n c : Nat) (w : World) :
    Calls Tryz.prog 121 #[.slice a n c] w fun e w' => e = .returned (.func (.func 127) #[] #[.pointer (some ⟨w.heap.size, 0, none⟩)]) ∧ w' = w.alloc (.cells #[.slice a n c] 117) := by
  have hmf : ∀ (fn : Fn) (first cap : Array Value) (w : World), (Instr.makeFunc fn first cap).run Tryz.prog w = .ok (.func fn first cap) w := fun _ _ _ _ => rfl
  go_enter Tryz.func121, Tryz.ntmps121
  go_wp2
  go_ret
  exact ⟨rfl, rfl⟩
end Go.Proofs.YtcdjmpbdaiafgaaGreatDoor
