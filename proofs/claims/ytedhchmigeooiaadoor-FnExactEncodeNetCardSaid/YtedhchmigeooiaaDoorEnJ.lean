import Derived.Test.YtedhchmigeooiaaDoorEnI
import Derived.Test.YtedhchmigeooiaaDoorPure
namespace Go.Proofs.YtedhchmigeooiaaDoor
open Go.RowKit
set_option linter.unusedVariables false

def nodeTx (z : Int) : List UInt8 := [110, 111, 100, 101] ++ numsTo [z] [z].length ++ [10]
def wayTx (x : Wy) : List UInt8 := [119, 97, 121] ++ (numsTo [x.id] [x.id].length ++ ((if x.both then [32, 98] else [32, 102]) ++ (numsTo [iat x.nodes 0] [iat x.nodes 0].length ++ (numsTo (pairs x) (2 * x.weights.length) ++ [10]))))
def relTx (x : Rl) : List UInt8 := (if x.only then [111, 110, 108, 121] else [110, 111]) ++ (numsTo [x.id, x.frm] [x.id, x.frm].length ++
  (if x.via then [32, 97, 116] ++ (numsTo [x.node] [x.node].length ++ (numsTo [x.to] [x.to].length ++ [10])) else [32, 98, 121] ++ (numsTo x.ways x.ways.length ++ (numsTo [x.to] [x.to].length ++ [10]))))
def turnTx (x : Tn) : List UInt8 := [116, 117, 114, 110] ++ numsTo [x.frm, x.to, x.cost] [x.frm, x.to, x.cost].length ++ [10]
def headB : List UInt8 := [114, 111, 97, 100, 110, 101, 116, 32, 49, 10]
def headTx (u : Int) : List UInt8 := headB ++ [117, 116, 117, 114, 110] ++ numsTo [u] [u].length ++ [10]
/-- the first k pieces -/
def upTo (f : Nat → List UInt8) : Nat → List UInt8
  | 0 => []
  | k + 1 => upTo f k ++ f k
def nodesTx (zs : List Int) (k : Nat) : List UInt8 := upTo (fun i => nodeTx (iat zs i)) k
def waysTx (xs : List Wy) (k : Nat) : List UInt8 := upTo (fun i => wayTx (wat xs i)) k
def relsTx (xs : List Rl) (k : Nat) : List UInt8 := upTo (fun i => relTx (rat xs i)) k
def turnsTx (xs : List Tn) (k : Nat) : List UInt8 := upTo (fun i => turnTx (tat xs i)) k
def t0 (N : Nt) : List UInt8 := headTx N.uturn
def t1 (N : Nt) (k : Nat) : List UInt8 := t0 N ++ nodesTx N.nodes k
def t2 (N : Nt) (k : Nat) : List UInt8 := t1 N N.nodes.length ++ waysTx N.ways k
def t3 (N : Nt) (k : Nat) : List UInt8 := t2 N N.ways.length ++ relsTx N.rels k
def t4 (N : Nt) (k : Nat) : List UInt8 := t3 N N.rels.length ++ turnsTx N.turns k
def netTx (N : Nt) : List UInt8 := t4 N N.turns.length
def encTx (N : Nt) : List UInt8 := if implValid N then netTx N else []

theorem t1_zero (N : Nt) : t1 N 0 = t0 N := by simp [t1, nodesTx, upTo]
theorem t2_zero (N : Nt) : t2 N 0 = t1 N N.nodes.length := by simp [t2, waysTx, upTo]
theorem t3_zero (N : Nt) : t3 N 0 = t2 N N.ways.length := by simp [t3, relsTx, upTo]
theorem t4_zero (N : Nt) : t4 N 0 = t3 N N.rels.length := by simp [t4, turnsTx, upTo]
theorem t1_succ (N : Nt) (k : Nat) : t1 N (k + 1) = t1 N k ++ nodeTx (iat N.nodes k) := by simp [t1, nodesTx, upTo]
theorem t2_succ (N : Nt) (k : Nat) : t2 N (k + 1) = t2 N k ++ wayTx (wat N.ways k) := by simp [t2, waysTx, upTo]
theorem t3_succ (N : Nt) (k : Nat) : t3 N (k + 1) = t3 N k ++ relTx (rat N.rels k) := by simp [t3, relsTx, upTo]
theorem t4_succ (N : Nt) (k : Nat) : t4 N (k + 1) = t4 N k ++ turnTx (tat N.turns k) := by simp [t4, turnsTx, upTo]

def In (x : Int) : Prop := 0 ≤ x ∧ x ≤ 1048576
theorem in_of {x : Int} (h : inB x = true) : In x := by simpa [inB, In] using h
theorem allN_at {n : Nat} {p : Nat → Bool} (h : allN n p = true) {i : Nat} (hi : i < n) : p i = true := by
  unfold allN at h; rw [List.all_eq_true] at h; exact h i (List.mem_range.2 hi)
theorem hasI_in {zs : List Int} {x : Int} (ha : ∀ i, i < zs.length → In (iat zs i)) (h : hasI zs x = true) : In x := by
  unfold hasI at h
  rw [List.any_eq_true] at h
  obtain ⟨y, hy, e⟩ := h
  obtain ⟨i, hi, rfl⟩ := List.getElem_of_mem hy
  have := ha i hi
  rw [iat_eq hi] at this
  rwa [← (beq_iff_eq.1 e)]
theorem hasW_in {xs : List Wy} {x : Int} (ha : ∀ i, i < xs.length → In (wat xs i).id) (h : hasW xs x = true) : In x := by
  unfold hasW at h
  rw [List.any_eq_true] at h
  obtain ⟨y, hy, e⟩ := h
  obtain ⟨i, hi, rfl⟩ := List.getElem_of_mem hy
  have := ha i hi
  rw [wat_eq hi] at this
  rwa [← (beq_iff_eq.1 e)]

structure WayIn (x : Wy) : Prop where
  id : In x.id
  nodes : small x.nodes
  weights : small x.weights
  len : x.nodes.length = x.weights.length + 1
  seg : x.weights.length ≤ 100
structure RelIn (x : Rl) : Prop where
  id : In x.id
  frm : In x.frm
  to : In x.to
  node : In x.node
  ways : small x.ways
  len : x.ways.length ≤ 4
structure TurnIn (x : Tn) : Prop where
  frm : In x.frm
  to : In x.to
  cost : In x.cost
structure NetIn (N : Nt) : Prop where
  ut : In N.uturn
  c0 : N.nodes.length ≤ 2000
  c1 : N.ways.length ≤ 2000
  c2 : N.rels.length ≤ 1000
  c3 : N.turns.length ≤ 2000
  ed : edTo N.ways N.ways.length ≤ 4000
  nodes : ∀ i, i < N.nodes.length → In (iat N.nodes i)
  ways : ∀ i, i < N.ways.length → WayIn (wat N.ways i)
  rels : ∀ i, i < N.rels.length → RelIn (rat N.rels i)
  turns : ∀ i, i < N.turns.length → TurnIn (tat N.turns i)

theorem net_in {N : Nt} (h : implValid N = true) : NetIn N := by
  simp only [implValid, counts, Bool.and_eq_true, decide_eq_true_eq] at h
  obtain ⟨⟨c0, c1, ed, c2, c3⟩, hu, ⟨_, hn⟩, ⟨hw, _⟩, ⟨hr, _⟩, ht, _⟩ := h
  have an : ∀ i, i < N.nodes.length → In (iat N.nodes i) := fun i hi => in_of (allN_at hn hi)
  have aw : ∀ i, i < N.ways.length → WayIn (wat N.ways i) := fun i hi => by
    have := allN_at hw hi
    simp only [wayGood, wayHead, Bool.and_eq_true, decide_eq_true_eq] at this
    obtain ⟨⟨⟨⟨⟨g0, g1⟩, g2⟩, g3⟩, g4⟩, g5⟩ := this
    exact ⟨in_of g0, fun j hj => hasI_in an (allN_at g5 hj), fun j hj => in_of (allN_at g4 hj), g3, g2⟩
  have ai : ∀ i, i < N.ways.length → In (wat N.ways i).id := fun i hi => (aw i hi).id
  refine ⟨in_of hu, c0, c1, c2, c3, ed, an, aw, fun i hi => ?_, fun i hi => ?_⟩
  · have := allN_at hr hi
    simp only [relGood, relTail, Bool.and_eq_true] at this
    obtain ⟨g0, g1, g2, g3⟩ := this
    by_cases hv : (rat N.rels i).via = true
    · rw [if_pos hv] at g3
      simp only [Bool.and_eq_true, decide_eq_true_eq] at g3
      exact ⟨in_of g0, hasW_in ai g1, hasW_in ai g2, hasI_in an g3.2, fun j hj => by omega, by omega⟩
    · rw [if_neg hv] at g3
      simp only [Bool.and_eq_true, decide_eq_true_eq, beq_iff_eq] at g3
      exact ⟨in_of g0, hasW_in ai g1, hasW_in ai g2, by rw [g3.1]; exact ⟨by omega, by omega⟩, fun j hj => hasW_in ai (allN_at g3.2.2.2 hj), g3.2.2.1⟩
  · have := allN_at ht hi
    simp only [turnGood, Bool.and_eq_true] at this
    exact ⟨hasW_in ai this.1, hasW_in ai this.2.1, in_of this.2.2⟩

theorem small3 {x y z : Int} (h : In x) (h' : In y) (h'' : In z) : small [x, y, z] := by
  intro i hi
  match i, hi with
  | 0, _ => exact h
  | 1, _ => exact h'
  | 2, _ => exact h''
theorem nodeTx_len {z : Int} (h : In z) : (nodeTx z).length ≤ 13 := by
  have := numsTo_len (small1 h) [z].length (Nat.le_refl _)
  simp only [nodeTx, List.length_append, List.length_cons, List.length_nil] at *; omega
theorem headTx_len {z : Int} (h : In z) : (headTx z).length ≤ 24 := by
  have := numsTo_len (small1 h) [z].length (Nat.le_refl _)
  simp only [headTx, headB, List.length_append, List.length_cons, List.length_nil] at *; omega
theorem turnTx_len {x : Tn} (h : TurnIn x) : (turnTx x).length ≤ 29 := by
  have := numsTo_len (small3 h.frm h.to h.cost) [x.frm, x.to, x.cost].length (Nat.le_refl _)
  simp only [turnTx, List.length_append, List.length_cons, List.length_nil] at *; omega
theorem wayTx_len {x : Wy} (h : WayIn x) : (wayTx x).length ≤ 22 + 16 * x.weights.length := by
  have a := numsTo_len (small1 h.id) [x.id].length (Nat.le_refl _)
  have b := numsTo_len (small1 (h.nodes 0 (by rw [h.len]; omega))) [iat x.nodes 0].length (Nat.le_refl _)
  have c := numsTo_len (pairs_small h.nodes h.weights h.len) (2 * x.weights.length) (by rw [pairs_len]; exact Nat.le_refl _)
  have d : (if x.both then [32, 98] else [32, 102] : List UInt8).length = 2 := by split <;> rfl
  simp only [wayTx, List.length_append, List.length_cons, List.length_nil] at *; omega
theorem relTx_len {x : Rl} (h : RelIn x) : (relTx x).length ≤ 64 := by
  have a := numsTo_len (small2 h.id h.frm) [x.id, x.frm].length (Nat.le_refl _)
  have b := numsTo_len (small1 h.node) [x.node].length (Nat.le_refl _)
  have c := numsTo_len (small1 h.to) [x.to].length (Nat.le_refl _)
  have d := numsTo_len h.ways x.ways.length (Nat.le_refl _)
  have l := h.len
  have e : (if x.only then [111, 110, 108, 121] else [110, 111] : List UInt8).length ≤ 4 := by split <;> simp
  cases hv : x.via
  all_goals
    simp only [relTx, hv, if_true, Bool.false_eq_true, if_false, List.length_append, List.length_cons, List.length_nil] at *
    omega

theorem t1_len {N : Nt} (h : NetIn N) (k : Nat) (hk : k ≤ N.nodes.length) : (t1 N k).length ≤ 24 + 13 * k := by
  induction k with
  | zero => rw [t1_zero]; exact headTx_len h.ut
  | succ k ih => rw [t1_succ, List.length_append]; have := ih (by omega); have := nodeTx_len (h.nodes k (by omega)); omega
theorem t2_len {N : Nt} (h : NetIn N) (k : Nat) (hk : k ≤ N.ways.length) : (t2 N k).length ≤ 26024 + 22 * k + 16 * edTo N.ways k := by
  induction k with
  | zero => rw [t2_zero]; have := t1_len h _ (Nat.le_refl _); have := h.c0; omega
  | succ k ih =>
    rw [t2_succ, List.length_append]
    have := ih (by omega)
    have := wayTx_len (h.ways k (by omega))
    have : (wat N.ways k).weights.length ≤ edgeN (wat N.ways k) := by unfold edgeN; split <;> omega
    simp only [edTo]
    omega
theorem edTo_mono (xs : List Wy) {j k : Nat} (h : j ≤ k) : edTo xs j ≤ edTo xs k := by
  induction k with
  | zero => simp at h; subst h; exact Nat.le_refl _
  | succ k ih =>
    rcases Nat.lt_succ_iff_lt_or_eq.1 (Nat.lt_succ_of_le h) with h1 | rfl
    · have := ih (by omega); simp only [edTo]; omega
    · exact Nat.le_refl _
theorem t2_max {N : Nt} (h : NetIn N) (k : Nat) (hk : k ≤ N.ways.length) : (t2 N k).length ≤ 134024 := by
  have := t2_len h k hk
  have := edTo_mono N.ways hk
  have := h.ed
  have := h.c1
  omega
theorem t3_len {N : Nt} (h : NetIn N) (k : Nat) (hk : k ≤ N.rels.length) : (t3 N k).length ≤ 134024 + 64 * k := by
  induction k with
  | zero => rw [t3_zero]; exact t2_max h _ (Nat.le_refl _)
  | succ k ih => rw [t3_succ, List.length_append]; have := ih (by omega); have := relTx_len (h.rels k (by omega)); omega
theorem t4_len {N : Nt} (h : NetIn N) (k : Nat) (hk : k ≤ N.turns.length) : (t4 N k).length ≤ 198024 + 29 * k := by
  induction k with
  | zero => rw [t4_zero]; have := t3_len h _ (Nat.le_refl _); have := h.c2; omega
  | succ k ih => rw [t4_succ, List.length_append]; have := ih (by omega); have := turnTx_len (h.turns k (by omega)); omega
end Go.Proofs.YtedhchmigeooiaaDoor
