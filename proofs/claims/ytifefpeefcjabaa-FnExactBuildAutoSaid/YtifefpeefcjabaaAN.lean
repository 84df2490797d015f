import Derived.Test.YtifefpeefcjabaaAJ
import Derived.ProofKit
import Derived.OpenShut
import Derived.Deep.Slices
import Derived.Deep.Grids
namespace Go.Proofs.Ytifefpeefcjabaa
open Go.RowKit Go.ChangeShapes Go.WideShapes
set_option linter.unusedVariables false
set_option maxRecDepth 100000

theorem cells2 : Try.prog.cellsOf 2 = 1 := by kernel_rfl
theorem cells4 : Try.prog.cellsOf 4 = 1 := by kernel_rfl
theorem cells22 : Try.prog.cellsOf 24 = 1 := by kernel_rfl
theorem cells23 : Try.prog.cellsOf 25 = 1 := by kernel_rfl
theorem cellsA : Try.prog.cellsOf 38 = 5 := by kernel_rfl

section
variable {H : Type} {enc : TypeId × Value → H} {w : World}

theorem spot_none {a : Addr} {v : Value} (h : w.cell? (a.add 0) = some v) : ∃ b off, a = ⟨b, off, none⟩ := by
  have hs := World.cell?_spot h
  obtain ⟨b, off, s⟩ := a
  simp [Addr.add] at hs
  exact ⟨b, off, by rw [hs]⟩
/-- the first element's first cell tells where the row lies -/
theorem row_at {a : Addr} {k : Nat} {m : Nat} {Q : Nat → List Value → Prop} (hk : 0 < k) (hx : ∀ i, i < m → ∃ cs', w.cells? 0 (a.add (i * k)) k = some cs' ∧ Q i cs') (hm : 0 < m) : ∃ b off, a = ⟨b, off, none⟩ := by
  obtain ⟨cs, h1, _⟩ := hx 0 hm
  obtain ⟨_, hlen, hcell⟩ := World.cells?_some h1
  have c0 := hcell 0 hk
  rw [Deep.add_add, List.getElem?_eq_getElem (by omega)] at c0
  simp only [Nat.zero_mul, Nat.add_zero] at c0
  exact spot_none c0
theorem add_at (b off i : Nat) : (⟨b, off, none⟩ : Addr).add i = ⟨b, off + i, none⟩ := by
  unfold Addr.add
  by_cases hi : i = 0 <;> simp [hi]

theorem open_int_list {n : Nat} {c : Value} {y : DataW H × List MemPlace} (h : DataW.trod enc Try.prog w 0 (fun _ => true) true n 24 [c] = some y) : ∃ zs, HInts 0 w c zs := by
  rcases open_ints Try.underlying24 Try.underlying2 cells2 h with ⟨hcs, _⟩ | ⟨a, len, cap, zs, hcs, _, hl, hm, hz, _, hcell, _⟩
  · simp at hcs; subst hcs
    exact ⟨[], none, 0, rfl, Nat.zero_le _, fun h0 => absurd h0 (Nat.lt_irrefl _)⟩
  · simp at hcs; subst hcs
    have hz' : zs.length = cap := by simpa using hz
    have hlen : (zs.take len).length = len := by rw [List.length_take]; omega
    refine ⟨zs.take len, some a, cap, by rw [hlen], by rw [hlen]; omega, fun h0 => ?_⟩
    rw [hlen] at h0
    obtain ⟨b, off, rfl⟩ := spot_none (hcell 0 (by omega))
    refine ⟨b, off, rfl, Nat.zero_le _, ?_, fun i hi => ?_⟩
    · have h1 := hcell 0 (by omega)
      rw [add_at] at h1
      exact cell_lt h1
    · rw [hlen] at hi
      have h1 := hcell i (by omega)
      rw [add_at] at h1
      rw [h1, iat_eq (by rw [hlen]; exact hi)]
      simp [List.getD, show i < zs.length by omega]

theorem open_bool_list {n : Nat} {c : Value} {y : DataW H × List MemPlace} (h : DataW.trod enc Try.prog w 0 (fun _ => true) true n 25 [c] = some y) : ∃ zs, HBools 0 w c zs := by
  rcases Deep.open_bools Try.underlying25 Try.underlying4 cells4 h with ⟨hcs, _⟩ | ⟨a, len, cap, Bf, hcs, _, hl, hm, _, hcell⟩
  · simp at hcs; subst hcs
    exact ⟨[], none, 0, rfl, Nat.zero_le _, fun h0 => absurd h0 (Nat.lt_irrefl _)⟩
  · simp at hcs; subst hcs
    have hlen : ((List.range len).map Bf).length = len := by simp
    refine ⟨(List.range len).map Bf, some a, cap, by rw [hlen], by rw [hlen]; omega, fun h0 => ?_⟩
    rw [hlen] at h0
    obtain ⟨b, off, rfl⟩ := spot_none (hcell 0 (by omega))
    refine ⟨b, off, rfl, Nat.zero_le _, ?_, fun i hi => ?_⟩
    · have h1 := hcell 0 (by omega)
      rw [add_at] at h1
      exact cell_lt h1
    · rw [hlen] at hi
      have h1 := hcell i (by omega)
      rw [add_at] at h1
      rw [h1, bat_eq (by rw [hlen]; exact hi)]
      simp
theorem open_auto {r : Reach} {b0 : Nat} {v : Value} {d : DataW H} {p : List MemPlace} (hv : Value.okWide Try.prog w r b0 38 v) (h : DataW.Trod enc Try.prog w 0 (fun _ => true) true 38 v d p) :
    ∃ (v0 v1 v2 v3 v4 : Value) (A : Au), v = .agg #[v0, v1, v2, v3, v4] ∧ HA 0 w v0 v1 v2 v3 v4 A := by
  obtain ⟨cs, rfl, hsz⟩ := okWide_struct Try.underlying38 hv
  rw [cellsA] at hsz
  obtain ⟨fuel, hf⟩ := h
  obtain ⟨xs, k, _, _, _, hxs, hf⟩ := DataW.trod_struct Try.underlying38 hf
  have hxs5 : xs.length = 5 := hxs
  obtain ⟨l⟩ := cs
  match l, hsz with
  | [e0, e1, e2, e3, e4], _ =>
    have f0 : DataW.trod enc Try.prog w 0 (fun _ => true) true k 24 (([e0, e1, e2, e3, e4].drop 0).take (Try.prog.cellsOf 24)) = xs[0]? := hf 0 _ rfl
    have f1 : DataW.trod enc Try.prog w 0 (fun _ => true) true k 24 (([e0, e1, e2, e3, e4].drop 1).take (Try.prog.cellsOf 24)) = xs[1]? := hf 1 _ rfl
    have f2 : DataW.trod enc Try.prog w 0 (fun _ => true) true k 24 (([e0, e1, e2, e3, e4].drop 2).take (Try.prog.cellsOf 24)) = xs[2]? := hf 2 _ rfl
    have f3 : DataW.trod enc Try.prog w 0 (fun _ => true) true k 24 (([e0, e1, e2, e3, e4].drop 3).take (Try.prog.cellsOf 24)) = xs[3]? := hf 3 _ rfl
    have f4 : DataW.trod enc Try.prog w 0 (fun _ => true) true k 25 (([e0, e1, e2, e3, e4].drop 4).take (Try.prog.cellsOf 25)) = xs[4]? := hf 4 _ rfl
    rw [List.getElem?_eq_getElem (by omega)] at f0 f1 f2 f3 f4
    simp only [cells22, cells23, List.drop_zero, List.drop_succ_cons, List.take_succ_cons, List.take_zero] at f0 f1 f2 f3 f4
    obtain ⟨z0, q0⟩ := open_int_list (c := e0) f0
    obtain ⟨z1, q1⟩ := open_int_list (c := e1) f1
    obtain ⟨z2, q2⟩ := open_int_list (c := e2) f2
    obtain ⟨z3, q3⟩ := open_int_list (c := e3) f3
    obtain ⟨z4, q4⟩ := open_bool_list (c := e4) f4
    exact ⟨e0, e1, e2, e3, e4, ⟨z0, z1, z2, z3, z4⟩, rfl, q0, q1, q2, q3, q4⟩
theorem open_path {v : Value} {d : DataW H} {p : List MemPlace} {b0 : Nat} {r : Reach} (hv : Value.okWide Try.prog w r b0 24 v) (h : DataW.Trod enc Try.prog w 0 (fun _ => true) true 24 v d p) : ∃ P, HInts 0 w v P := by
  obtain ⟨fuel, hf⟩ := h
  obtain ⟨a, n, c, rfl⟩ := okWide_slice Try.underlying24 hv
  exact open_int_list hf
end
end Go.Proofs.Ytifefpeefcjabaa
