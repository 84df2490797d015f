import Derived.Test.YtcdjmpbdaiafgaaGreatDoorKF
import Derived.OrdersIn
import Derived.OrdersHeld
import Derived.Laws.World
import Derived.Maps.AppendAt
namespace Go.Proofs.YtcdjmpbdaiafgaaGreatDoor
open Go.RowKit
set_option linter.unusedVariables false
set_option maxRecDepth 100000

structure Ru where
  rel : Int
  only : Bool
  seq : List Int
structure Dp where
  rel : Int
  reason : Int
structure Rs where
  rules : List Ru
  drops : List Dp
def ruat (xs : List Ru) (i : Nat) : Ru := xs.getD i ⟨0, false, []⟩
def dpat (xs : List Dp) (i : Nat) : Dp := xs.getD i ⟨0, 0⟩
theorem ruat_eq {xs : List Ru} {i : Nat} (h : i < xs.length) : ruat xs i = xs[i] := by simp [ruat, List.getD, h]
theorem dpat_eq {xs : List Dp} {i : Nat} (h : i < xs.length) : dpat xs i = xs[i] := by simp [dpat, List.getD, h]
/-- is there such a rule already -/
def rpt (rules : List Ru) (only : Bool) (seq : List Int) : Bool := rules.any fun u => u.only == only && decide (u.seq = seq)
/-- why a relation is dropped, or 0 -/
def reason (rules : List Ru) (only : Bool) (ch : List (List Nat)) : Int :=
  if ch.length = 0 then 1 else if 1 < ch.length then 2 else if rpt rules only (nums (lsat ch 0)) then 3 else 0
def resStep (S : Rs) (r : Rl) (ch : List (List Nat)) : Rs :=
  if reason S.rules r.only ch = 0 then ⟨S.rules ++ [⟨r.id, r.only, nums (lsat ch 0)⟩], S.drops⟩ else ⟨S.rules, S.drops ++ [⟨r.id, reason S.rules r.only ch⟩]⟩
def resTo (ch : Rl → List (List Nat)) (rels : List Rl) : Nat → Rs
  | 0 => ⟨[], []⟩
  | k + 1 => resStep (resTo ch rels k) (rat rels k) (ch (rat rels k))
theorem resTo_len (ch : Rl → List (List Nat)) (rels : List Rl) (k : Nat) : (resTo ch rels k).rules.length ≤ k ∧ (resTo ch rels k).drops.length ≤ k := by
  induction k with
  | zero => simp [resTo]
  | succ k ih =>
    show (resStep _ _ _).rules.length ≤ _ ∧ (resStep _ _ _).drops.length ≤ _
    unfold resStep
    split
    · simp; omega
    · simp; omega
/-- only the number of chains and the sole one matter -/
theorem resStep_perm {S : Rs} {r : Rl} {c d : List (List Nat)} (h : c.Perm d) : resStep S r c = resStep S r d := by
  have hl := h.length_eq
  have h0 : c.length = 1 → lsat c 0 = lsat d 0 := fun e => by
    match c, d, e, hl, h with
    | [x], [y], _, _, h => have := List.singleton_perm_singleton.1 h; rw [this]
  have hr : reason S.rules r.only c = reason S.rules r.only d := by
    unfold reason
    rw [hl]
    by_cases e0 : d.length = 0
    · rw [if_pos e0, if_pos e0]
    · by_cases e1 : 1 < d.length
      · rw [if_neg e0, if_neg e0, if_pos e1, if_pos e1]
      · rw [h0 (by omega)]
  unfold resStep
  rw [hr]
  by_cases e : reason S.rules r.only d = 0
  · have : d.length = 1 := by
      unfold reason at e
      by_cases e0 : d.length = 0
      · rw [if_pos e0] at e; omega
      · by_cases e1 : 1 < d.length
        · rw [if_neg e0, if_pos e1] at e; omega
        · omega
    rw [if_pos e, if_pos e, h0 (by omega)]
  · rw [if_neg e, if_neg e]
theorem resTo_perm {c d : Rl → List (List Nat)} {rels : List Rl} (h : ∀ k, k < rels.length → (c (rat rels k)).Perm (d (rat rels k))) : ∀ k, k ≤ rels.length → resTo c rels k = resTo d rels k
  | 0, _ => rfl
  | k + 1, hk => by
    show resStep _ _ _ = resStep _ _ _
    rw [resTo_perm h k (by omega), resStep_perm (h k (by omega))]

theorem infoRule : (Tryz.prog.info? 100).map (fun i => (i.zero, i.size, i.bytes)) = some (some (.agg #[.int .i64 0, .bool false, .slice none 0 0]), 3, 40) := by kernel_rfl
theorem infoDrop : (Tryz.prog.info? 104).map (fun i => (i.zero, i.size, i.bytes)) = some (some (.agg #[.int .i64 0, .int .i64 0]), 2, 16) := by kernel_rfl
/-- an own row of rules; of drops -/
def rcell (x : Ru × Value) : List Value := [.int .i64 x.1.rel, .bool x.1.only, x.2]
def rcells (xs : List Ru) (vs : List Value) : List Value := (xs.zip vs).flatMap rcell
def OwnR (C D : Nat) (w : World) (v : Value) (xs : List Ru) : Prop :=
  ∃ vs : List Value, vs.length = xs.length ∧ w.ownsRow C 100 3 v xs.length (rcells xs vs) ∧ ∀ i, i < xs.length → OwnI D w (vat vs i) (ruat xs i).seq
def dcells (xs : List Dp) : List Value := xs.flatMap fun x => [.int .i64 x.rel, .int .i64 x.reason]
def OwnD (C : Nat) (w : World) (v : Value) (xs : List Dp) : Prop := w.ownsRow C 104 2 v xs.length (dcells xs)
theorem row_next {C ty sz n : Nat} {w w' : World} {v : Value} {xs : List Value} (h : w.ownsRow C ty sz v n xs) (k : Nx w w') : w'.ownsRow C ty sz v n xs := by
  obtain ⟨h1, h2⟩ := h
  refine ⟨h1, ?_⟩
  rcases h2 with h2 | ⟨g, cap, cur, hv, hg, hh, r⟩
  · exact Or.inl h2
  · exact Or.inr ⟨g, cap, cur, hv, hg, (k.block g (Array.getElem?_eq_some_iff.1 hh).1).trans hh, r⟩
theorem row_slice {C ty sz n : Nat} {w : World} {v : Value} {xs : List Value} (h : w.ownsRow C ty sz v n xs) : ∃ a c, v = .slice a n c := by
  rcases h.2 with ⟨rfl, h2⟩ | ⟨g, cap, cur, rfl, _⟩
  · exact ⟨none, 0, by rw [h2]⟩
  · exact ⟨_, _, rfl⟩
theorem OwnR.next {C D : Nat} {w w' : World} {v : Value} {xs : List Ru} (h : OwnR C D w v xs) (k : Nx w w') : OwnR C D w' v xs := by
  obtain ⟨vs, h1, h2, h3⟩ := h
  exact ⟨vs, h1, row_next h2 k, fun i hi => (h3 i hi).next k⟩
theorem OwnD.next {C : Nat} {w w' : World} {v : Value} {xs : List Dp} (h : OwnD C w v xs) (k : Nx w w') : OwnD C w' v xs := row_next h k
theorem rcells_snoc {xs : List Ru} {vs : List Value} (h : vs.length = xs.length) (x : Ru) (u : Value) : rcells (xs ++ [x]) (vs ++ [u]) = rcells xs vs ++ [.int .i64 x.rel, .bool x.only, u] := by
  unfold rcells
  rw [List.zip_append h.symm, List.flatMap_append]
  rfl
theorem ruat_snoc {xs : List Ru} {x : Ru} {i : Nat} (h : i < xs.length) : ruat (xs ++ [x]) i = ruat xs i := by simp [ruat, List.getD, List.getElem?_append_left h]
theorem ruat_end {xs : List Ru} {x : Ru} {i : Nat} (h : i = xs.length) : ruat (xs ++ [x]) i = x := by subst h; simp [ruat, List.getD]
/-- one rule more -/
theorem OwnR.snoc {C D : Nat} {w w' : World} {v v' u : Value} {xs : List Ru} {x : Ru} {vs : List Value} (h0 : vs.length = xs.length) (h1 : w.ownsRow C 100 3 v xs.length (rcells xs vs)) (h2 : ∀ i, i < xs.length → OwnI D w (vat vs i) (ruat xs i).seq)
    (hu : OwnI D w u x.seq) (ho : Obj) (hg : (w.alloc ho).grownBy w' v.ownBlock) (hn : w'.ownsRow C 100 3 v' (xs.length + 1) (rcells xs vs ++ [.int .i64 x.rel, .bool x.only, u])) : OwnR C D w' v' (xs ++ [x]) := by
  have kept : ∀ {z : Value} {zs : List Int}, OwnI D w z zs → OwnI D w' z zs := fun {z zs} hz => World.ownsRow.kept (World.ownsRow.alloc hz ho) hg (own_ne hz h1 (by decide))
  refine ⟨vs ++ [u], by simp [h0], by rw [List.length_append, rcells_snoc h0]; exact hn, fun i hi => ?_⟩
  rw [List.length_append, List.length_singleton] at hi
  by_cases e : i < xs.length
  · rw [ruat_snoc e]
    have : vat (vs ++ [u]) i = vat vs i := by simp [vat, List.getD, List.getElem?_append_left (show i < vs.length by omega)]
    rw [this]
    exact kept (h2 i e)
  · have e' : i = xs.length := by omega
    rw [ruat_end e']
    have : vat (vs ++ [u]) i = u := by rw [e', ← h0]; simp [vat, List.getD]
    rw [this]
    exact kept hu
theorem dcells_snoc (xs : List Dp) (x : Dp) : dcells (xs ++ [x]) = dcells xs ++ [.int .i64 x.rel, .int .i64 x.reason] := by simp [dcells]
theorem OwnD.snoc {C : Nat} {w : World} {v : Value} {xs : List Dp} {x : Dp} (h : w.ownsRow C 104 2 v (xs.length + 1) (dcells xs ++ [.int .i64 x.rel, .int .i64 x.reason])) : OwnD C w v (xs ++ [x]) := by
  unfold OwnD
  rw [List.length_append, dcells_snoc]
  exact h
theorem flat3 {α : Type} (l : List α) (f : α → List Value) (hf : ∀ x, (f x).length = 3) (i q : Nat) (hq : q < 3) (x : α) (hx : l[i]? = some x) : (l.flatMap f)[i * 3 + q]? = (f x)[q]? := by
  induction l generalizing i with
  | nil => simp at hx
  | cons a l ih =>
    cases i with
    | zero =>
      have : a = x := by simpa using hx
      subst this
      rw [List.flatMap_cons, Nat.zero_mul, Nat.zero_add, List.getElem?_append_left (by rw [hf]; exact hq)]
    | succ i =>
      rw [List.flatMap_cons, List.getElem?_append_right (by rw [hf]; omega), hf, show (i + 1) * 3 + q - 3 = i * 3 + q by omega]
      exact ih i (by simpa using hx)
/-- a rule's cells -/
theorem OwnR.at {C D : Nat} {w : World} {a : Option Addr} {n c : Nat} {xs : List Ru} (h : OwnR C D w (.slice a n c) xs) {i : Nat} (hi : i < xs.length) : ∃ g u, a = some ⟨g, 0, none⟩ ∧ w.cell? ⟨g, i * 3, none⟩ = some (.int .i64 (ruat xs i).rel) ∧ w.cell? ⟨g, i * 3 + 1, none⟩ = some (.bool (ruat xs i).only) ∧ w.cell? ⟨g, i * 3 + 2, none⟩ = some u ∧ OwnI D w u (ruat xs i).seq := by
  obtain ⟨vs, h0, h1, h2⟩ := h
  obtain ⟨h3, h4⟩ := h1
  rcases h4 with ⟨_, h4⟩ | ⟨g, cap, cur, e, hg, hh, hc, hm, hs, ht⟩
  · omega
  · simp only [Value.slice.injEq] at e
    have hz : (xs.zip vs)[i]? = some (ruat xs i, vat vs i) := by
      rw [List.getElem?_zip_eq_some]
      exact ⟨by rw [ruat_eq hi]; exact List.getElem?_eq_getElem hi, by simp [vat, List.getD, List.getElem?_eq_getElem (show i < vs.length by omega)]⟩
    have key : ∀ q, q < 3 → w.cell? ⟨g, i * 3 + q, none⟩ = (rcell (ruat xs i, vat vs i))[q]? := fun q hq => by
      have e1 : (cur.toList.take (xs.length * 3))[i * 3 + q]? = (rcells xs vs)[i * 3 + q]? := by rw [ht]
      rw [List.getElem?_take_of_lt (by omega), Array.getElem?_toList] at e1
      have e2 := flat3 (xs.zip vs) rcell (fun _ => rfl) i q hq _ hz
      unfold rcells at e1
      rw [e2] at e1
      have hlt : i * 3 + q < cur.size := by omega
      simp only [World.cell?, hh, e1]
      rfl
    exact ⟨g, vat vs i, e.1, key 0 (by omega), key 1 (by omega), key 2 (by omega), h2 i hi⟩
end Go.Proofs.YtcdjmpbdaiafgaaGreatDoor

namespace Go.Proofs.YtcdjmpbdaiafgaaGreatDoor
open Go
set_option linter.unusedVariables false
-- a region that draws its order, inside a fence or a round: a read may be taken first where the world keeps what it reads
section
variable {F : Fence} {n : Nat} {P : Program} {ops : Array Oper} {Q : Exit → Act → World → Prop} {md : Region.Mode} {S : World → Prop} {c : Nat}
def YF (P : Program) (ops : Array Oper) (S : World → Prop) (o : Oper) (v : Value) (a : Act) : Prop := YieldsIf P ops S o v a ∧ ∀ w, o.about P w a.eval = none
/-- no operation of the region is a defer statement -/
def NoDefer (F : Fence) (ops : Array Oper) : Prop := ∀ (j : Nat) (o : Oper) (ρ : Operand → Value), ops[j]? = some o → o.semAt F.round ρ = execOp ρ o
theorem noDefer_none (hro : F.round = none) : NoDefer F ops := fun j o ρ _ => by rw [hro, Oper.semAt_none]
theorem YF.op {i : Nat} {o : Oper} {v : Value} {a : Act} (hd : NoDefer F ops) (hi : ops[i]? = some o) (hy : YF P ops S o v a) {K : Act → World → Prop} {w : World} (hS : S w) (h : K (a.put o.dst v) w) : wpOpIn F n P ops Q i K a w := by
  have ha : ∀ f, o.about P w a.eval = some f → F.fn f := fun f hf => by rw [hy.2 w] at hf; cases hf
  unfold wpOpIn
  simp only [hi]
  rcases hy.1 with ⟨h1, h2⟩ | ⟨h1, rfl⟩
  · simp only [h1, if_true]
    unfold Oper.wpIn
    refine ⟨ha, ?_⟩
    rw [hd i o _ hi, h2 w hS]
    exact h
  · simp only [h1, Bool.false_eq_true, if_false]
    exact ⟨ha, h⟩
theorem YF.past {j : Nat} {oi oj : Oper} {v : Value} (hd : NoDefer F ops) (hj : ops[j]? = some oj) (hap : oi.apart ops oj = true) (hsi : ∀ cs b, oi.op ≠ .select cs b) (hsj : ∀ cs b, oj.op ≠ .select cs b) (hQ : ∀ c a w, Q (.panic c) (a.put oi.dst v) w → Q (.panic c) a w) {K : Act → World → Prop} {a : Act} {w : World} (hy : YF P ops S oi v a) (h : wpOpIn F n P ops Q j K (a.put oi.dst v) w) :
    wpOpIn F n P ops Q j (fun a' w' => YF P ops S oi v a' ∧ K (a'.put oi.dst v) w') a w := by
  obtain ⟨l1, l2, l3⟩ := Oper.apart_spec hap
  have kp : ∀ a : Act, YF P ops S oi v a → ∀ u, YF P ops S oi v (a.put oj.dst u) := fun a hy u => ⟨hy.1.of_same (execOp_put oi hsi a oj.dst u l3) (wanted_put oi a oj.dst u l3), fun w => by rw [about_put oi w a oj.dst u l3]; exact hy.2 w⟩
  have fin : ∀ u w', K ((a.put oi.dst v).put oj.dst u) w' → YF P ops S oi v (a.put oj.dst u) ∧ K ((a.put oj.dst u).put oi.dst v) w' := fun u w' hk => ⟨kp a hy u, by rw [← Act.put_comm a v u l2]; exact hk⟩
  unfold wpOpIn at h ⊢
  simp only [hj] at h ⊢
  rw [wanted_put oj a oi.dst v l1, about_put oj w a oi.dst v l1] at h
  by_cases hw : Region.wanted oj (yielded ops a.tmps) = true
  · simp only [hw, if_true] at h ⊢
    unfold Oper.wpIn at h ⊢
    rw [about_put oj w a oi.dst v l1, hd j oj _ hj, execOp_put oj hsj a oi.dst v l1] at h
    rw [hd j oj _ hj]
    refine ⟨h.1, ?_⟩
    replace h := h.2
    generalize (execOp a.eval oj).run P w = res at h ⊢
    match res, h with
    | .ok (.value u) w', h => exact fin u w' h
    | .ok .skip w', h => exact fin undef w' h
    | .ok (.defer d) w', h =>
      have hyd : YF P ops S oi v { a with defers := d :: a.defers } := ⟨hy.1.of_same rfl rfl, hy.2⟩
      refine ⟨kp _ hyd _, ?_⟩
      rw [← Act.put_comm _ v undef l2, ← Act.put_defers]
      exact h
    | .ok (.enter f args) w', h =>
      refine ⟨h.1, h.2.mono fun e w'' he => ?_⟩
      match e, he with
      | .returned u, he => exact fin u w'' he
      | .panicked c, he => exact hQ _ _ _ he
      | .outgrown, he => exact he
    | .ok (.row row args) w', h => exact ⟨h.1, h.2.mono fun u w'' he => fin u w'' he⟩
    | .ok (.round l f tmps assign body) w', h =>
      refine ⟨h.1, h.2.mono fun e w'' he => ?_⟩
      match e, he with
      | .returned u, he => exact fin u w'' he
      | .panicked c, he => exact hQ _ _ _ he
      | .outgrown, he => exact he
    | .halt (.panic u) w', h => exact hQ _ _ _ h
  · simp only [hw] at h ⊢
    exact ⟨h.1, fin undef w h.2⟩
/-- what an operation waits for -/
def dps (md : Region.Mode) (ops : Array Oper) (j : Nat) : List Nat := match ops[j]? with
  | some o => (o.after.toList.filter (fun e => Region.binds md e)).map (·.on)
  | none => []
/-- with each that has come up, all that it waits for -/
def Cl (md : Region.Mode) (ops : Array Oper) (listed : Array Bool) : Prop := ∀ k, listed.getD k false = true → ∀ e ∈ dps md ops k, listed.getD e false = true
def clos (md : Region.Mode) (ops : Array Oper) : Nat → List Nat → List Nat
  | 0, ks => ks
  | f + 1, ks => ks ++ clos md ops f ((ks.flatMap (dps md ops)).eraseDups)
theorem clos_ok {listed : Array Bool} (h : Cl md ops listed) : ∀ (f : Nat) (ks : List Nat), (∀ k ∈ ks, listed.getD k false = true) → ∀ k ∈ clos md ops f ks, listed.getD k false = true
  | 0, ks, hk, k, hm => hk k hm
  | f + 1, ks, hk, k, hm => by
    rcases List.mem_append.1 hm with g | g
    · exact hk k g
    · refine clos_ok h f _ (fun x hx => ?_) k g
      obtain ⟨y, hy, hxy⟩ := List.mem_flatMap.1 (List.mem_eraseDups.1 hx)
      exact h y (hk y hy) x hxy
/-- those from c on wait for all below c -/
def waitsB (md : Region.Mode) (ops : Array Oper) (c : Nat) : Bool := (List.range ops.size).all (fun j => decide (j < c) || (List.range c).all (fun i => (clos md ops 12 (dps md ops j)).contains i))
def Waits (md : Region.Mode) (ops : Array Oper) (c : Nat) : Prop := ∀ listed, Cl md ops listed → ∀ j, c ≤ j → j ∈ Region.ready md ops listed → ∀ i, i < c → listed.getD i true = true
theorem getD_tf {listed : Array Bool} {i : Nat} (h : listed.getD i false = true) : listed.getD i true = true := by
  rw [Array.getD_eq_getD_getElem?] at h ⊢
  cases hl : listed[i]? with
  | none => rw [hl] at h; simp at h
  | some b => rw [hl] at h; simpa using h
theorem waits_of (h : waitsB md ops c = true) : Waits md ops c := by
  intro listed hc j hj hr i hi
  obtain ⟨u1, o, u2, u3⟩ := mem_ready.1 hr
  have hlt : j < ops.size := (Array.getElem?_eq_some_iff.1 u2).1
  unfold waitsB at h
  rw [List.all_eq_true] at h
  have h1 := h j (List.mem_range.2 hlt)
  rw [Bool.or_eq_true] at h1
  rcases h1 with h1 | h1
  · simp at h1; omega
  · rw [List.all_eq_true] at h1
    have h2 := h1 i (List.mem_range.2 hi)
    refine getD_tf (clos_ok hc 12 _ (fun k hk => ?_) i (by simpa using h2))
    unfold dps at hk
    rw [u2] at hk
    obtain ⟨e, he, rfl⟩ := List.mem_map.1 hk
    rw [List.mem_filter] at he
    exact u3 e (by simpa using he.1) he.2
theorem Cl.step {listed : Array Bool} {j : Nat} (h : Cl md ops listed) (hr : j ∈ Region.ready md ops listed) : Cl md ops (listed.setIfInBounds j true) := by
  obtain ⟨u1, o, u2, u3⟩ := mem_ready.1 hr
  intro k hk e he
  refine getD_set_true ?_
  by_cases hjk : j = k
  · subst hjk
    unfold dps at he
    rw [u2] at he
    obtain ⟨x, hx, rfl⟩ := List.mem_map.1 he
    rw [List.mem_filter] at hx
    exact u3 x (by simpa using hx.1) hx.2
  · rw [getD_set_ne false hjk] at hk
    exact h k hk e he
/-- whatever order is picked, S holds behind every operation below c -/
def wpAnyS (F : Fence) (n : Nat) (P : Program) (md : Region.Mode) (ops : Array Oper) (Q : Exit → Act → World → Prop) (S : World → Prop) (c : Nat) : Nat → Array Bool → Act → World → Prop
  | 0, listed, a, w => Region.ready md ops listed = [] ∧ Q .normal a w
  | fuel + 1, listed, a, w => (Region.ready md ops listed = [] → Q .normal a w) ∧ ∀ i ∈ Region.ready md ops listed, wpOpIn F n P ops Q i (fun a' w' => (c ≤ i ∨ S w') ∧ wpAnyS F n P md ops Q S c fuel (listed.setIfInBounds i true) a' w') a w
theorem anyIn_of_S : ∀ (fuel : Nat) (listed : Array Bool) (a : Act) (w : World), wpAnyS F n P md ops Q S c fuel listed a w → wpAnyIn F n P md ops Q fuel listed a w
  | 0, _, _, _, h => h
  | fuel + 1, _, _, _, h => ⟨h.1, fun i hi => wpOpIn_mono (fun a' w' h' => anyIn_of_S fuel _ a' w' h'.2) (h.2 i hi)⟩
theorem anyS_first {i : Nat} (hw : Waits md ops c) (hic : i < c) {oi : Oper} {v : Value} (hd : NoDefer F ops) (hi : ops[i]? = some oi) (hsel : ∀ (j : Nat) (o : Oper) cs b, ops[j]? = some o → o.op ≠ .select cs b) (hQ : ∀ c a w, Q (.panic c) (a.put oi.dst v) w → Q (.panic c) a w) (fuel : Nat) : ∀ (listed : Array Bool) (a : Act) (w : World), Cl md ops listed →
    (∀ j oj, ops[j]? = some oj → j ≠ i → listed.getD j true = false → (∀ e ∈ oj.after, Region.binds md e = true → e.on ≠ i) → oi.apart ops oj = true) → i ∈ Region.ready md ops listed → YF P ops S oi v a → S w →
    wpAnyS F n P md ops Q S c fuel (listed.setIfInBounds i true) (a.put oi.dst v) w → wpAnyS F n P md ops Q S c (fuel + 1) listed a w := by
  induction fuel with
  | zero =>
    intro listed a w hcl _ hr hy hS H
    refine ⟨fun h => absurd hr (by rw [h]; simp), fun j hj => ?_⟩
    by_cases e : j = i
    · subst e; exact hy.op hd hi hS ⟨Or.inr hS, H⟩
    · exact absurd (ready_mono hj e) (by rw [H.1]; simp)
  | succ fuel ih =>
    intro listed a w hcl hf hr hy hS H
    refine ⟨fun h => absurd hr (by rw [h]; simp), fun j hj => ?_⟩
    by_cases e : j = i
    · subst e; exact hy.op hd hi hS ⟨Or.inr hS, H⟩
    obtain ⟨u1, oj, u2, u3⟩ := mem_ready.1 hj
    have nw : ∀ x ∈ oj.after, Region.binds md x = true → x.on ≠ i := by
      intro x hx hb he
      have q1 := u3 x hx hb
      have q0 := (mem_ready.1 hr).1
      rw [he] at q1
      by_cases hl : i < listed.size
      · simp [hl] at q0 q1
        rw [q0] at q1
        cases q1
      · simp [Array.getElem?_eq_none (Nat.le_of_not_lt hl)] at q1
    have st := hy.past hd u2 (hf j oj u2 e u1 nw) (fun cs b => hsel i oi cs b hi) (fun cs b => hsel j oj cs b u2) hQ (H.2 j (ready_mono hj e))
    have hjc : ¬ c ≤ j := fun g => by
      have q1 := hw listed hcl j g hj i hic
      rw [(mem_ready.1 hr).1] at q1
      cases q1
    refine wpOpIn_mono (fun a' w' h3 => ⟨h3.2.1, ih (listed.setIfInBounds j true) a' w' (hcl.step hj) (fun k ok hk hki hun hno => hf k ok hk hki ?_ hno) (ready_mono hr (Ne.symm e)) h3.1 (h3.2.1.resolve_left hjc) ?_⟩) st
    · by_cases hjk : j = k
      · subst hjk; exact u1
      · rw [getD_set_ne true hjk] at hun; exact hun
    · rw [Array.setIfInBounds_comm _ _ e]
      exact h3.2.2
theorem anyS_take {i : Nat} (hw : Waits md ops c) (hic : i < c) {oi : Oper} {v : Value} {fuel : Nat} {listed : Array Bool} {a : Act} {w : World} (hcl : Cl md ops listed) (hd : NoDefer F ops) (hi : ops[i]? = some oi) (hs : Region.noSelect ops = true) (hf : Region.free md ops listed i = true) (hr : (Region.ready md ops listed).contains i = true) (hQ : ∀ c a w, Q (.panic c) (a.put oi.dst v) w → Q (.panic c) a w) (hy : YF P ops S oi v a) (hS : S w)
    (h : Cl md ops (listed.setIfInBounds i true) → wpAnyS F n P md ops Q S c fuel (listed.setIfInBounds i true) (a.put oi.dst v) w) : wpAnyS F n P md ops Q S c (fuel + 1) listed a w :=
  anyS_first hw hic hd hi (Region.noSelect_spec hs) hQ fuel listed a w hcl (Region.free_spec hi hf) (by simpa using hr) hy hS (h (hcl.step (by simpa using hr)))
/-- one alone may come up -/
theorem anyS_one {i : Nat} {fuel : Nat} {listed : Array Bool} {a : Act} {w : World} (hr : Region.ready md ops listed = [i]) (h : wpOpIn F n P ops Q i (fun a' w' => (c ≤ i ∨ S w') ∧ wpAnyS F n P md ops Q S c fuel (listed.setIfInBounds i true) a' w') a w) : wpAnyS F n P md ops Q S c (fuel + 1) listed a w :=
  ⟨fun h0 => absurd (hr ▸ h0) (by simp), fun j hj => by rw [hr] at hj; simp at hj; subst hj; exact h⟩
theorem anyS_done {listed : Array Bool} {a : Act} {w : World} (hr : Region.ready md ops listed = []) (h : Q .normal a w) : ∀ fuel, wpAnyS F n P md ops Q S c fuel listed a w
  | 0 => ⟨hr, h⟩
  | _ + 1 => ⟨fun _ => h, by rw [hr]; simp⟩
theorem wpIn_region_S {id : Nat} {a : Act} {w : World} (hm : P.follows .mixedOrders = true) (hb : waitsB .any ops c = true) (h : Waits .any ops c → Cl .any ops (Array.replicate ops.size false) → wpAnyS F n P .any ops Q S c ops.size (Array.replicate ops.size false) a w.drew) : (Code.region id ops true).wpIn F n P Q a w :=
  wpIn_region_any hm (anyIn_of_S _ _ _ _ (h (waits_of hb) (fun k hk => by
    rw [Array.getD_eq_getD_getElem?] at hk
    by_cases g : k < ops.size
    · simp [g] at hk
    · simp [g] at hk)))
end
/-- an own row grows, as one step of a region that draws, in a fence -/
theorem step_append_in {n : Nat} {P : Program} {ops : Array Oper} {o : Oper} {a : Act} {w : World} {K : Act → World → Prop} {Q : Exit → Act → World → Prop} {E : Prop}
    (hg : o.guard = none) (s x : Operand) (t : TypeId) (hop : o.op = Op.call { callee := Callee.builtin Builtin.append, args := #[s, x], argTypes := #[t, t] })
    (e : TypeId) (i : TypeInfo) (z : Value) (size bytes : Nat) (h1 : P.underlying t = some (.slice e)) (h2 : P.info? e = some i) (h3 : i.zero = some z) (h4 : i.size = size) (h5 : i.bytes = bytes) (h6 : z.cells.size = size) (h7 : 0 < size)
    (B : Nat) (v : Value) (m0 : Nat) (olds : List Value) (hs : a.eval s = v) (hown : w.ownsRow B e size v m0 olds)
    (ad : Addr) (m c : Nat) (news : List Value) (hx : a.eval x = .slice (some ad) m c) (hn : news.length = m * size) (hc : ∀ j u, news[j]? = some u → w.cell? (ad.add j) = some u) (h1c : ∀ u ∈ news, u.oneCell' = true)
    (b1 : m0 + m ≤ maxLen) (b2 : (m0 + m) * bytes ≤ 140737488355328) (hB : B ≤ w.heap.size)
    (hK : ∀ v' w', w'.ownsRow B e size v' (m0 + m) (olds ++ news) → w.grownBy w' v.ownBlock → (v'.ownBlock = v.ownBlock ∨ v'.ownBlock = some w.heap.size) → K (a.put o.dst v') w') :
    if Region.wanted o (yielded ops a.tmps) = true then Oper.wpIn Fence.wide n P o a w K Q else E := by
  have hw : Region.wanted o (yielded ops a.tmps) = true := by simp [Region.wanted, hg]
  rw [if_pos hw]
  obtain ⟨v', w', hrun, r1, r2, _, r4⟩ := run_append_own_at (P := P) w B t o.type e i z size bytes h1 h2 h3 h4 h5 h6 h7 v m0 olds hown ad m c news hn hc h1c b1 b2 hB
  unfold Oper.wpIn
  refine ⟨fun f _ => trivial, ?_⟩
  rw [show Fence.wide.round = none from rfl, Oper.semAt_none]
  simp [execOp, hop, resolve, invoke, builtin, hs, hx, hrun, Result.andThen]
  exact hK v' w' r1 r2 r4
end Go.Proofs.YtcdjmpbdaiafgaaGreatDoor
