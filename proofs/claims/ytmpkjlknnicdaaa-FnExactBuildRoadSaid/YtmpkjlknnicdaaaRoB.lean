import Derived.Test.YtmpkjlknnicdaaaRoA
namespace Go.Proofs.Ytmpkjlknnicdaaa
open Go.RowKit
set_option linter.unusedVariables false

def eat (es : List Eg) (i : Nat) : Eg := es.getD i ⟨0, 0, 0, 0, 0, false, 0⟩
theorem eat_eq {es : List Eg} {i : Nat} (h : i < es.length) : eat es i = es[i] := by simp [eat, List.getD, h]
theorem eat_some {es : List Eg} {i : Nat} {x : Eg} (h : es[i]? = some x) : eat es i = x := by simp [eat, List.getD, h]

def bnN (N : Nt) (i : Nat) : Nat := if (wat N.ways i).both then 2 else 1
def nsN (N : Nt) (i : Nat) : Nat := (wat N.ways i).weights.length
def fwd (N : Nt) (i j : Nat) (tw : Int) : Eg :=
  ⟨pos N.nodes (iat (wat N.ways i).nodes j), pos N.nodes (iat (wat N.ways i).nodes (j + 1)), iat (wat N.ways i).weights j, i, j, false, tw⟩
def bwd (N : Nt) (i j : Nat) (tw : Int) : Eg :=
  ⟨pos N.nodes (iat (wat N.ways i).nodes (j + 1)), pos N.nodes (iat (wat N.ways i).nodes j), iat (wat N.ways i).weights j, i, j, true, tw⟩
def sg0 (N : Nt) (i o j : Nat) : List Eg := if (wat N.ways i).both then [fwd N i j (-1), bwd N i j (-1)] else [fwd N i j (-1)]
def sg1 (N : Nt) (i o j : Nat) : List Eg := if (wat N.ways i).both then [fwd N i j ((o : Int) + 1), bwd N i j o] else [fwd N i j (-1)]
theorem sg0_len (N : Nt) (i o j : Nat) : (sg0 N i o j).length = bnN N i := by unfold sg0 bnN; split <;> rfl
theorem sg1_len (N : Nt) (i o j : Nat) : (sg1 N i o j).length = bnN N i := by unfold sg1 bnN; split <;> rfl
def E0 (N : Nt) : List Eg := lay (sg0 N) (nsN N) N.ways.length
def E1 (N : Nt) : List Eg := lay (sg1 N) (nsN N) N.ways.length
def mN (N : Nt) : Nat := st (nsN N) (bnN N) N.ways.length
theorem E0_len (N : Nt) : (E0 N).length = mN N := lay_len (sg0_len N) _ _
theorem E1_len (N : Nt) : (E1 N).length = mN N := lay_len (sg1_len N) _ _

/-- the same segment, the other way -/
def mt (a b : Eg) : Bool := decide (a.way = b.way) && (decide (a.seg = b.seg) && (a.back != b.back))
/-- the twin, as far as the first f edges tell -/
def twTo (E : List Eg) (e : Nat) : Nat → Int
  | 0 => -1
  | f + 1 => if mt (eat E e) (eat E f) then f else twTo E e f
theorem twTo_none {E : List Eg} {e n : Nat} (h : ∀ f, f < n → mt (eat E e) (eat E f) = false) : twTo E e n = -1 := by
  induction n with
  | zero => rfl
  | succ n ih =>
    have h1 := h n (by omega)
    rw [twTo, if_neg (by simp [h1])]
    exact ih fun f hf => h f (by omega)
theorem twTo_one {E : List Eg} {e n f0 : Nat} (h0 : f0 < n) (hm : mt (eat E e) (eat E f0) = true) (h : ∀ f, f < n → mt (eat E e) (eat E f) = true → f = f0) : twTo E e n = f0 := by
  induction n with
  | zero => omega
  | succ n ih =>
    by_cases e1 : f0 = n
    · subst e1
      rw [twTo, if_pos hm]
    · have h1 : ¬ mt (eat E e) (eat E n) = true := fun h2 => e1 (h n (by omega) h2).symm
      rw [twTo, if_neg h1]
      exact ih (by omega) fun f hf => h f (by omega)
def setTw (x : Eg) (t : Int) : Eg := { x with twin := t }

/-- what lies at a place: its segment, its direction -/
theorem at_place {N : Nt} {i j q : Nat} (hi : i < N.ways.length) (hj : j < nsN N i) (hq : q < bnN N i) :
    eat (E0 N) (st (nsN N) (bnN N) i + bnN N i * j + q) = (if q = 0 then fwd N i j (-1) else bwd N i j (-1)) ∧
    eat (E1 N) (st (nsN N) (bnN N) i + bnN N i * j + q) = (if bnN N i = 1 then fwd N i j (-1) else if q = 0 then fwd N i j (((st (nsN N) (bnN N) i + bnN N i * j : Nat) : Int) + 1) else bwd N i j ((st (nsN N) (bnN N) i + bnN N i * j : Nat) : Int)) := by
  have h0 := lay_at (sg0_len N) (nsN N) hi hj q hq
  have h1 := lay_at (sg1_len N) (nsN N) hi hj q hq
  constructor
  · refine eat_some (h0.trans ?_)
    unfold bnN at hq
    unfold sg0
    by_cases hb : (wat N.ways i).both = true
    · rw [if_pos hb] at hq ⊢
      rcases (show q = 0 ∨ q = 1 by omega) with rfl | rfl <;> simp
    · rw [if_neg hb] at hq ⊢
      obtain rfl : q = 0 := by omega
      simp
  · refine eat_some (h1.trans ?_)
    unfold bnN at hq
    have hbn : bnN N i = if (wat N.ways i).both then 2 else 1 := rfl
    generalize st (nsN N) (bnN N) i + bnN N i * j = o
    unfold sg1
    by_cases hb : (wat N.ways i).both = true
    · rw [if_pos hb] at hq hbn ⊢
      rw [hbn]
      rcases (show q = 0 ∨ q = 1 by omega) with rfl | rfl <;> simp
    · rw [if_neg hb] at hq hbn ⊢
      rw [hbn]
      obtain rfl : q = 0 := by omega
      simp

theorem twin_eq (N : Nt) {e : Nat} (he : e < mN N) : eat (E1 N) e = setTw (eat (E0 N) e) (twTo (E0 N) e (mN N)) := by
  obtain ⟨i, j, q, hi, hj, hq, he1⟩ := lay_of N.ways.length he
  obtain ⟨a0, a1⟩ := at_place hi hj hq
  rw [← he1] at a0 a1
  have key : ∀ f, f < mN N → mt (eat (E0 N) e) (eat (E0 N) f) = true → ∃ q', q' < bnN N i ∧ f = st (nsN N) (bnN N) i + bnN N i * j + q' ∧ ((q = 0) ≠ (q' = 0)) := by
    intro f hf hm
    obtain ⟨i', j', q', hi', hj', hq', hf1⟩ := lay_of N.ways.length hf
    obtain ⟨b0, _⟩ := at_place hi' hj' hq'
    rw [← hf1] at b0
    rw [a0, b0] at hm
    simp only [mt, Bool.and_eq_true, decide_eq_true_eq] at hm
    obtain ⟨m1, m2, m3⟩ := hm
    have w1 : ∀ (t : Nat) (i j : Nat), (if t = 0 then fwd N i j (-1) else bwd N i j (-1)).way = i := fun t i j => by split <;> rfl
    have w2 : ∀ (t : Nat) (i j : Nat), (if t = 0 then fwd N i j (-1) else bwd N i j (-1)).seg = j := fun t i j => by split <;> rfl
    rw [w1, w1] at m1
    rw [w2, w2] at m2
    have ei : i = i' := by omega
    have ej : j = j' := by omega
    subst ei ej
    refine ⟨q', hq', hf1, fun h => ?_⟩
    by_cases h0 : q = 0
    · have h1 : q' = 0 := by rw [← h]; exact h0
      rw [if_pos h0, if_pos h1] at m3
      simp [fwd] at m3
    · have h1 : ¬ q' = 0 := by rw [← h]; exact h0
      rw [if_neg h0, if_neg h1] at m3
      simp [bwd] at m3
  have hbv : bnN N i = 2 ∨ bnN N i = 1 := by unfold bnN; split <;> simp
  rcases hbv with hb | hb
  · -- two ways: the other one of the two
    rw [if_neg (by omega)] at a1
    have hq2 : q < 2 := by omega
    have oth : ∀ q', q' < bnN N i → ((q = 0) ≠ (q' = 0)) → q' = 1 - q := by
      intro q' h1 h2
      rcases (show q = 0 ∨ q = 1 by omega) with rfl | rfl <;> rcases (show q' = 0 ∨ q' = 1 by omega) with rfl | rfl <;> simp_all
    have hq1 : 1 - q < bnN N i := by omega
    have hf0 : st (nsN N) (bnN N) i + bnN N i * j + (1 - q) < mN N := st_in (ns := nsN N) (bn := bnN N) hi hj hq1
    obtain ⟨c0, _⟩ := at_place hi hj hq1
    have hm : mt (eat (E0 N) e) (eat (E0 N) (st (nsN N) (bnN N) i + bnN N i * j + (1 - q))) = true := by
      rw [a0, c0]
      rcases (show q = 0 ∨ q = 1 by omega) with rfl | rfl <;> simp [mt, fwd, bwd]
    rw [twTo_one hf0 hm (fun f hf h => by obtain ⟨q', h1, h2, h3⟩ := key f hf h; rw [h2, oth q' h1 h3])]
    rw [a1, a0]
    rcases (show q = 0 ∨ q = 1 by omega) with rfl | rfl
    · simp [setTw, fwd]
    · simp [setTw, bwd]
  · rw [if_pos hb] at a1
    have hq0 : q = 0 := by omega
    rw [twTo_none (fun f hf => by
      by_cases h : mt (eat (E0 N) e) (eat (E0 N) f) = true
      · obtain ⟨q', h1, _, h3⟩ := key f hf h
        exact absurd (show (q = 0) = (q' = 0) by have : q' = 0 := by omega
                                                 simp [hq0, this]) h3
      · simpa using h)]
    rw [a1, a0, if_pos hq0]
    rfl
end Go.Proofs.Ytmpkjlknnicdaaa
