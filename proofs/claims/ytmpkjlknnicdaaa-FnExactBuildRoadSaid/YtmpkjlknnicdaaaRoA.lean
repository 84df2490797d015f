import Derived.Test.YtmpkjlknnicdaaaRep
namespace Go.Proofs.Ytmpkjlknnicdaaa
open Go.RowKit
set_option linter.unusedVariables false

/-- an edge -/
structure Eg where
  tail : Int
  head : Int
  weight : Int
  way : Int
  seg : Int
  back : Bool
  twin : Int

/-- where a number first stands -/
def pos (zs : List Int) (t : Int) : Nat := zs.findIdx (fun z => z == t)
theorem pos_at {zs : List Int} (hm : ∀ i j, i < j → j < zs.length → iat zs i < iat zs j) {i : Nat} (hi : i < zs.length) : pos zs (iat zs i) = i := by
  unfold pos
  rw [List.findIdx_eq hi]
  refine ⟨by rw [iat_eq hi]; simp, fun j hj => ?_⟩
  have h1 := hm j i hj hi
  rw [iat_eq (by omega), iat_eq hi] at h1
  rw [iat_eq hi]
  have : zs[j] ≠ zs[i] := by omega
  simpa using this

section Lay
variable (sg : Nat → Nat → Nat → List Eg) (ns : Nat → Nat)
/-- the segments of way i laid behind L; each told the number at which it begins -/
def wlay (i : Nat) (L : List Eg) : Nat → List Eg
  | 0 => L
  | j + 1 => wlay i L j ++ sg i (wlay i L j).length j
/-- the first i ways laid -/
def lay : Nat → List Eg
  | 0 => []
  | i + 1 => wlay sg i (lay i) (ns i)
variable (bn : Nat → Nat)
/-- the number at which way i begins -/
def st : Nat → Nat
  | 0 => 0
  | i + 1 => st i + bn i * ns i
end Lay

theorem wlay_len {sg : Nat → Nat → Nat → List Eg} {bn : Nat → Nat} (hl : ∀ i o j, (sg i o j).length = bn i) (i : Nat) (L : List Eg) (j : Nat) : (wlay sg i L j).length = L.length + bn i * j := by
  induction j with
  | zero => simp [wlay]
  | succ j ih => rw [wlay, List.length_append, hl, ih, Nat.mul_succ]; omega
theorem lay_len {sg : Nat → Nat → Nat → List Eg} {bn : Nat → Nat} (hl : ∀ i o j, (sg i o j).length = bn i) (ns : Nat → Nat) (i : Nat) : (lay sg ns i).length = st ns bn i := by
  induction i with
  | zero => rfl
  | succ i ih => rw [lay, wlay_len hl, ih, st]
theorem wlay_pre (sg : Nat → Nat → Nat → List Eg) (i : Nat) (L : List Eg) (j d : Nat) : wlay sg i L j <+: wlay sg i L (j + d) := by
  induction d with
  | zero => exact List.prefix_rfl
  | succ d ih => exact ih.trans (by rw [← Nat.add_assoc, wlay]; exact List.prefix_append _ _)
theorem lay_pre (sg : Nat → Nat → Nat → List Eg) (ns : Nat → Nat) (i d : Nat) : lay sg ns i <+: lay sg ns (i + d) := by
  induction d with
  | zero => exact List.prefix_rfl
  | succ d ih =>
    refine ih.trans ?_
    rw [← Nat.add_assoc, lay]
    have := wlay_pre sg (i + d) (lay sg ns (i + d)) 0 (ns (i + d))
    rwa [Nat.zero_add] at this
/-- what a segment laid stays where it lies -/
theorem lay_at {sg : Nat → Nat → Nat → List Eg} {bn : Nat → Nat} (hl : ∀ i o j, (sg i o j).length = bn i) (ns : Nat → Nat) {K i j : Nat} (hi : i < K) (hj : j < ns i) (q : Nat) (hq : q < bn i) :
    (lay sg ns K)[st ns bn i + bn i * j + q]? = (sg i (st ns bn i + bn i * j) j)[q]? := by
  have p1 : wlay sg i (lay sg ns i) (j + 1) <+: lay sg ns K := by
    have a := wlay_pre sg i (lay sg ns i) (j + 1) (ns i - (j + 1))
    rw [show j + 1 + (ns i - (j + 1)) = ns i by omega] at a
    have b := lay_pre sg ns (i + 1) (K - (i + 1))
    rw [show i + 1 + (K - (i + 1)) = K by omega] at b
    exact a.trans b
  have hlen : (wlay sg i (lay sg ns i) j).length = st ns bn i + bn i * j := by rw [wlay_len hl, lay_len hl]
  have hq' : q < (sg i (st ns bn i + bn i * j) j).length := by rw [hl]; exact hq
  have e : (wlay sg i (lay sg ns i) (j + 1))[st ns bn i + bn i * j + q]? = (sg i (st ns bn i + bn i * j) j)[q]? := by
    rw [wlay, hlen, List.getElem?_append_right (by omega), hlen]
    congr 1
    omega
  obtain ⟨t, ht⟩ := p1
  rw [← ht, List.getElem?_append_left, e]
  rw [wlay, List.length_append, hlen, hl]
  omega
/-- every place belongs to one segment -/
theorem lay_of {ns bn : Nat → Nat} (K : Nat) {e : Nat} (he : e < st ns bn K) : ∃ i j q, i < K ∧ j < ns i ∧ q < bn i ∧ e = st ns bn i + bn i * j + q := by
  induction K with
  | zero => simp [st] at he
  | succ K ih =>
    by_cases h : e < st ns bn K
    · obtain ⟨i, j, q, h1, h2⟩ := ih h
      exact ⟨i, j, q, by omega, h2⟩
    · rw [st] at he
      have hb : 0 < bn K := by
        rcases Nat.eq_zero_or_pos (bn K) with z | z
        · rw [z] at he; simp at he; omega
        · exact z
      refine ⟨K, (e - st ns bn K) / bn K, (e - st ns bn K) % bn K, by omega, ?_, Nat.mod_lt _ hb, ?_⟩
      · rw [Nat.div_lt_iff_lt_mul hb, Nat.mul_comm]; omega
      · have := Nat.div_add_mod (e - st ns bn K) (bn K); omega
theorem st_mono (ns bn : Nat → Nat) (i d : Nat) : st ns bn i ≤ st ns bn (i + d) := by
  induction d with
  | zero => exact Nat.le_refl _
  | succ d ih => rw [← Nat.add_assoc, st]; omega
theorem st_in {ns bn : Nat → Nat} {K i j q : Nat} (hi : i < K) (hj : j < ns i) (hq : q < bn i) : st ns bn i + bn i * j + q < st ns bn K := by
  have h1 := st_mono ns bn (i + 1) (K - (i + 1))
  rw [show i + 1 + (K - (i + 1)) = K by omega, st] at h1
  have h2 : bn i * (j + 1) ≤ bn i * ns i := Nat.mul_le_mul_left _ hj
  rw [Nat.mul_succ] at h2
  omega
end Go.Proofs.Ytmpkjlknnicdaaa
