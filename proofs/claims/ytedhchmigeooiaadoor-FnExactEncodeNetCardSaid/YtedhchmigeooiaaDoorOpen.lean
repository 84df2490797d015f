import Derived.Test.YtedhchmigeooiaaDoorRep
import Derived.ProofKit
import Derived.OpenShut
import Derived.Deep.Slices
namespace Go.Proofs.YtedhchmigeooiaaDoor
open Go.RowKit Go.ChangeShapes Go.WideShapes
set_option linter.unusedVariables false
set_option maxRecDepth 100000

theorem cells2 : Tryd.prog.cellsOf 2 = 1 := by kernel_rfl
theorem cells4 : Tryd.prog.cellsOf 4 = 1 := by kernel_rfl
theorem cells22 : Tryd.prog.cellsOf 22 = 1 := by kernel_rfl
theorem cells23 : Tryd.prog.cellsOf 23 = 1 := by kernel_rfl
theorem cells24 : Tryd.prog.cellsOf 24 = 1 := by kernel_rfl
theorem cells25 : Tryd.prog.cellsOf 25 = 1 := by kernel_rfl
theorem cells27 : Tryd.prog.cellsOf 27 = 5 := by kernel_rfl
theorem cells62 : Tryd.prog.cellsOf 71 = 4 := by kernel_rfl
theorem cells64 : Tryd.prog.cellsOf 73 = 7 := by kernel_rfl
theorem cells69 : Tryd.prog.cellsOf 82 = 3 := by kernel_rfl

section
variable {H : Type} {enc : TypeId × Value → H} {w : World}

theorem spot_none {a : Addr} {v : Value} (h : w.cell? (a.add 0) = some v) : ∃ b off, a = ⟨b, off, none⟩ := by
  have hs := World.cell?_spot h
  obtain ⟨b, off, s⟩ := a
  simp [Addr.add] at hs
  exact ⟨b, off, by rw [hs]⟩
/-- the first element's first cell tells where the row lies -/
theorem row_at {a : Addr} {k : Nat} {m : Nat} {Q : Nat → List Value → Prop} (hk : 0 < k) (hx : ∀ i, i < m → ∃ cs', w.cells? 0 (a.add (i * k)) k = some cs' ∧ Q i cs') (hm : 0 < m) : ∃ b off, a = ⟨b, off, none⟩ := by
  obtain ⟨cs, h1, _⟩ := hx 0 hm
  obtain ⟨_, hlen, hcell⟩ := World.cells?_some h1
  have c0 := hcell 0 hk
  rw [Deep.add_add, List.getElem?_eq_getElem (by omega)] at c0
  simp only [Nat.zero_mul, Nat.add_zero] at c0
  exact spot_none c0
theorem add_at (b off i : Nat) : (⟨b, off, none⟩ : Addr).add i = ⟨b, off + i, none⟩ := by
  unfold Addr.add
  by_cases hi : i = 0 <;> simp [hi]

theorem open_int_list {n : Nat} {c : Value} {y : DataW H × List MemPlace} (h : DataW.trod enc Tryd.prog w 0 (fun _ => true) true n 22 [c] = some y) : ∃ zs, HInts 0 w c zs := by
  rcases open_ints Tryd.underlying22 Tryd.underlying2 cells2 h with ⟨hcs, _⟩ | ⟨a, len, cap, zs, hcs, _, hl, hm, hz, _, hcell, _⟩
  · simp at hcs; subst hcs
    exact ⟨[], none, 0, rfl, Nat.zero_le _, fun h0 => absurd h0 (Nat.lt_irrefl _)⟩
  · simp at hcs; subst hcs
    have hz' : zs.length = cap := by simpa using hz
    have hlen : (zs.take len).length = len := by rw [List.length_take]; omega
    refine ⟨zs.take len, some a, cap, by rw [hlen], by rw [hlen]; omega, fun h0 => ?_⟩
    rw [hlen] at h0
    obtain ⟨b, off, rfl⟩ := spot_none (hcell 0 (by omega))
    refine ⟨b, off, rfl, Nat.zero_le _, ?_, fun i hi => ?_⟩
    · have h1 := hcell 0 (by omega)
      rw [add_at] at h1
      exact cell_lt h1
    · rw [hlen] at hi
      have h1 := hcell i (by omega)
      rw [add_at] at h1
      rw [h1, iat_eq (by rw [hlen]; exact hi)]
      simp [List.getD, show i < zs.length by omega]

theorem list_of {α : Type} {n : Nat} {p : Nat → α → Prop} (h : ∀ i, i < n → ∃ x, p i x) : ∃ xs : List α, xs.length = n ∧ ∀ i (hi : i < xs.length), p i xs[i] := by
  induction n with
  | zero => exact ⟨[], rfl, fun i hi => absurd hi (Nat.not_lt_zero _)⟩
  | succ n ih =>
    obtain ⟨xs, hl, hx⟩ := ih (fun i hi => h i (by omega))
    obtain ⟨x, hp⟩ := h n (by omega)
    refine ⟨xs ++ [x], by simp [hl], fun i hi => ?_⟩
    by_cases e : i < xs.length
    · rw [List.getElem_append_left e]; exact hx i e
    · have e' : i = xs.length := by simp at hi; omega
      subst e'
      rw [List.getElem_append_right (Nat.le_refl _)]
      simpa [hl] using hp

theorem open_way_list {n : Nat} {c : Value} {y : DataW H × List MemPlace} (h : DataW.trod enc Tryd.prog w 0 (fun _ => true) true n 23 [c] = some y) : ∃ xs, HWays 0 w c xs := by
  rcases Deep.open_slice Tryd.underlying23 h with ⟨hcs, _⟩ | ⟨a, len, cap, m, n', D, Pl, hcs, _, hl, hm, hmm, _, hx⟩
  · simp at hcs; subst hcs
    exact ⟨[], none, 0, rfl, Nat.zero_le _, fun h0 => absurd h0 (Nat.lt_irrefl _)⟩
  · simp at hcs; subst hcs
    have hmm' : m = cap := by simpa using hmm
    rw [cells62] at hx
    by_cases hlz : len = 0
    · subst hlz
      exact ⟨[], some a, cap, rfl, Nat.zero_le _, fun h0 => absurd h0 (Nat.lt_irrefl _)⟩
    obtain ⟨b, off, rfl⟩ := row_at (k := 4) (by decide) hx (show 0 < m by omega)
    have hel : ∀ i, i < len → ∃ x : Wy, b < w.heap.size ∧ HWay 0 w b (off + i * 4) x := by
      intro i hi
      obtain ⟨cs, h1, h2⟩ := hx i (by omega)
      obtain ⟨_, hlen, hcell⟩ := World.cells?_some h1
      obtain ⟨xs, k, _, _, _, hxs, hf⟩ := DataW.trod_struct Tryd.underlying71 h2
      match cs, hlen with
      | [e0, e1, e2, e3], _ =>
        have f0 : DataW.trod enc Tryd.prog w 0 (fun _ => true) true k 2 (([e0, e1, e2, e3].drop 0).take (Tryd.prog.cellsOf 2)) = xs[0]? := hf 0 _ rfl
        have f1 : DataW.trod enc Tryd.prog w 0 (fun _ => true) true k 4 (([e0, e1, e2, e3].drop 1).take (Tryd.prog.cellsOf 4)) = xs[1]? := hf 1 _ rfl
        have f2 : DataW.trod enc Tryd.prog w 0 (fun _ => true) true k 22 (([e0, e1, e2, e3].drop 2).take (Tryd.prog.cellsOf 22)) = xs[2]? := hf 2 _ rfl
        have f3 : DataW.trod enc Tryd.prog w 0 (fun _ => true) true k 22 (([e0, e1, e2, e3].drop 3).take (Tryd.prog.cellsOf 22)) = xs[3]? := hf 3 _ rfl
        have hxs4 : xs.length = 4 := hxs
        rw [List.getElem?_eq_getElem (by omega)] at f0 f1 f2 f3
        simp only [cells2, cells4, cells22, List.drop_zero, List.drop_succ_cons, List.take_succ_cons, List.take_zero] at f0 f1 f2 f3
        obtain ⟨id, q0, _⟩ := DataW.trod_int Tryd.underlying2 f0
        obtain ⟨bo, q1, _⟩ := DataW.trod_bool Tryd.underlying4 f1
        obtain ⟨ns, q2⟩ := open_int_list (c := e2) f2
        obtain ⟨ws, q3⟩ := open_int_list (c := e3) f3
        simp at q0 q1
        subst q0 q1
        have c0 := hcell 0 (by omega)
        have c1 := hcell 1 (by omega)
        have c2 := hcell 2 (by omega)
        have c3 := hcell 3 (by omega)
        rw [Deep.add_add] at c0 c1 c2 c3
        rw [add_at] at c0 c1 c2 c3
        refine ⟨⟨id, bo, ns, ws⟩, cell_lt c0, e2, e3, ?_, ?_, ?_, ?_, q2, q3⟩
        · simpa using c0
        · simpa [Nat.add_assoc] using c1
        · simpa [Nat.add_assoc] using c2
        · simpa [Nat.add_assoc] using c3
    obtain ⟨xs, hlx, hxs⟩ := list_of hel
    subst hlx
    refine ⟨xs, some ⟨b, off, none⟩, cap, rfl, by omega, fun h0 => ?_⟩
    obtain ⟨hb, _⟩ := hxs 0 h0
    refine ⟨b, off, rfl, Nat.zero_le _, hb, fun i hi => ?_⟩
    obtain ⟨_, hw⟩ := hxs i hi
    rw [wat_eq hi]
    exact hw

theorem open_rel_list {n : Nat} {c : Value} {y : DataW H × List MemPlace} (h : DataW.trod enc Tryd.prog w 0 (fun _ => true) true n 24 [c] = some y) : ∃ xs, HRels 0 w c xs := by
  rcases Deep.open_slice Tryd.underlying24 h with ⟨hcs, _⟩ | ⟨a, len, cap, m, n', D, Pl, hcs, _, hl, hm, hmm, _, hx⟩
  · simp at hcs; subst hcs
    exact ⟨[], none, 0, rfl, Nat.zero_le _, fun h0 => absurd h0 (Nat.lt_irrefl _)⟩
  · simp at hcs; subst hcs
    have hmm' : m = cap := by simpa using hmm
    rw [cells64] at hx
    by_cases hlz : len = 0
    · subst hlz
      exact ⟨[], some a, cap, rfl, Nat.zero_le _, fun h0 => absurd h0 (Nat.lt_irrefl _)⟩
    obtain ⟨b, off, rfl⟩ := row_at (k := 7) (by decide) hx (show 0 < m by omega)
    have hel : ∀ i, i < len → ∃ x : Rl, b < w.heap.size ∧ HRel 0 w b (off + i * 7) x := by
      intro i hi
      obtain ⟨cs, h1, h2⟩ := hx i (by omega)
      obtain ⟨_, hlen, hcell⟩ := World.cells?_some h1
      obtain ⟨xs, k, _, _, _, hxs, hf⟩ := DataW.trod_struct Tryd.underlying73 h2
      match cs, hlen with
      | [e0, e1, e2, e3, e4, e5, e6], _ =>
        have f0 : DataW.trod enc Tryd.prog w 0 (fun _ => true) true k 2 (([e0, e1, e2, e3, e4, e5, e6].drop 0).take (Tryd.prog.cellsOf 2)) = xs[0]? := hf 0 _ rfl
        have f1 : DataW.trod enc Tryd.prog w 0 (fun _ => true) true k 4 (([e0, e1, e2, e3, e4, e5, e6].drop 1).take (Tryd.prog.cellsOf 4)) = xs[1]? := hf 1 _ rfl
        have f2 : DataW.trod enc Tryd.prog w 0 (fun _ => true) true k 2 (([e0, e1, e2, e3, e4, e5, e6].drop 2).take (Tryd.prog.cellsOf 2)) = xs[2]? := hf 2 _ rfl
        have f3 : DataW.trod enc Tryd.prog w 0 (fun _ => true) true k 2 (([e0, e1, e2, e3, e4, e5, e6].drop 3).take (Tryd.prog.cellsOf 2)) = xs[3]? := hf 3 _ rfl
        have f4 : DataW.trod enc Tryd.prog w 0 (fun _ => true) true k 4 (([e0, e1, e2, e3, e4, e5, e6].drop 4).take (Tryd.prog.cellsOf 4)) = xs[4]? := hf 4 _ rfl
        have f5 : DataW.trod enc Tryd.prog w 0 (fun _ => true) true k 2 (([e0, e1, e2, e3, e4, e5, e6].drop 5).take (Tryd.prog.cellsOf 2)) = xs[5]? := hf 5 _ rfl
        have f6 : DataW.trod enc Tryd.prog w 0 (fun _ => true) true k 22 (([e0, e1, e2, e3, e4, e5, e6].drop 6).take (Tryd.prog.cellsOf 22)) = xs[6]? := hf 6 _ rfl
        have hxs4 : xs.length = 7 := hxs
        rw [List.getElem?_eq_getElem (by omega)] at f0 f1 f2 f3 f4 f5 f6
        simp only [cells2, cells4, cells22, List.drop_zero, List.drop_succ_cons, List.take_succ_cons, List.take_zero] at f0 f1 f2 f3 f4 f5 f6
        obtain ⟨id, q0, _⟩ := DataW.trod_int Tryd.underlying2 f0
        obtain ⟨bo, q1, _⟩ := DataW.trod_bool Tryd.underlying4 f1
        obtain ⟨fr, q2, _⟩ := DataW.trod_int Tryd.underlying2 f2
        obtain ⟨to, q3, _⟩ := DataW.trod_int Tryd.underlying2 f3
        obtain ⟨vi, q4, _⟩ := DataW.trod_bool Tryd.underlying4 f4
        obtain ⟨nd, q5, _⟩ := DataW.trod_int Tryd.underlying2 f5
        obtain ⟨ws, q6⟩ := open_int_list (c := e6) f6
        simp at q0 q1 q2 q3 q4 q5
        subst q0 q1 q2 q3 q4 q5
        have c0 := hcell 0 (by omega)
        have c1 := hcell 1 (by omega)
        have c2 := hcell 2 (by omega)
        have c3 := hcell 3 (by omega)
        have c4 := hcell 4 (by omega)
        have c5 := hcell 5 (by omega)
        have c6 := hcell 6 (by omega)
        rw [Deep.add_add] at c0 c1 c2 c3 c4 c5 c6
        rw [add_at] at c0 c1 c2 c3 c4 c5 c6
        refine ⟨⟨id, bo, fr, to, vi, nd, ws⟩, cell_lt c0, e6, ?_, ?_, ?_, ?_, ?_, ?_, ?_, q6⟩
        · simpa using c0
        · simpa [Nat.add_assoc] using c1
        · simpa [Nat.add_assoc] using c2
        · simpa [Nat.add_assoc] using c3
        · simpa [Nat.add_assoc] using c4
        · simpa [Nat.add_assoc] using c5
        · simpa [Nat.add_assoc] using c6
    obtain ⟨xs, hlx, hxs⟩ := list_of hel
    subst hlx
    refine ⟨xs, some ⟨b, off, none⟩, cap, rfl, by omega, fun h0 => ?_⟩
    obtain ⟨hb, _⟩ := hxs 0 h0
    refine ⟨b, off, rfl, Nat.zero_le _, hb, fun i hi => ?_⟩
    obtain ⟨_, hw⟩ := hxs i hi
    rw [rat_eq hi]
    exact hw

theorem open_turn_list {n : Nat} {c : Value} {y : DataW H × List MemPlace} (h : DataW.trod enc Tryd.prog w 0 (fun _ => true) true n 25 [c] = some y) : ∃ xs, HTurns 0 w c xs := by
  rcases Deep.open_slice Tryd.underlying25 h with ⟨hcs, _⟩ | ⟨a, len, cap, m, n', D, Pl, hcs, _, hl, hm, hmm, _, hx⟩
  · simp at hcs; subst hcs
    exact ⟨[], none, 0, rfl, Nat.zero_le _, fun h0 => absurd h0 (Nat.lt_irrefl _)⟩
  · simp at hcs; subst hcs
    have hmm' : m = cap := by simpa using hmm
    rw [cells69] at hx
    by_cases hlz : len = 0
    · subst hlz
      exact ⟨[], some a, cap, rfl, Nat.zero_le _, fun h0 => absurd h0 (Nat.lt_irrefl _)⟩
    obtain ⟨b, off, rfl⟩ := row_at (k := 3) (by decide) hx (show 0 < m by omega)
    have hel : ∀ i, i < len → ∃ x : Tn, b < w.heap.size ∧ HTurn w b (off + i * 3) x := by
      intro i hi
      obtain ⟨cs, h1, h2⟩ := hx i (by omega)
      obtain ⟨_, hlen, hcell⟩ := World.cells?_some h1
      obtain ⟨xs, k, _, _, _, hxs, hf⟩ := DataW.trod_struct Tryd.underlying82 h2
      match cs, hlen with
      | [e0, e1, e2], _ =>
        have f0 : DataW.trod enc Tryd.prog w 0 (fun _ => true) true k 2 (([e0, e1, e2].drop 0).take (Tryd.prog.cellsOf 2)) = xs[0]? := hf 0 _ rfl
        have f1 : DataW.trod enc Tryd.prog w 0 (fun _ => true) true k 2 (([e0, e1, e2].drop 1).take (Tryd.prog.cellsOf 2)) = xs[1]? := hf 1 _ rfl
        have f2 : DataW.trod enc Tryd.prog w 0 (fun _ => true) true k 2 (([e0, e1, e2].drop 2).take (Tryd.prog.cellsOf 2)) = xs[2]? := hf 2 _ rfl
        have hxs4 : xs.length = 3 := hxs
        rw [List.getElem?_eq_getElem (by omega)] at f0 f1 f2
        simp only [cells2, List.drop_zero, List.drop_succ_cons, List.take_succ_cons, List.take_zero] at f0 f1 f2
        obtain ⟨fr, q0, _⟩ := DataW.trod_int Tryd.underlying2 f0
        obtain ⟨to, q1, _⟩ := DataW.trod_int Tryd.underlying2 f1
        obtain ⟨co, q2, _⟩ := DataW.trod_int Tryd.underlying2 f2
        simp at q0 q1 q2
        subst q0 q1 q2
        have c0 := hcell 0 (by omega)
        have c1 := hcell 1 (by omega)
        have c2 := hcell 2 (by omega)
        rw [Deep.add_add] at c0 c1 c2
        rw [add_at] at c0 c1 c2
        refine ⟨⟨fr, to, co⟩, cell_lt c0, ?_, ?_, ?_⟩
        · simpa using c0
        · simpa [Nat.add_assoc] using c1
        · simpa [Nat.add_assoc] using c2
    obtain ⟨xs, hlx, hxs⟩ := list_of hel
    subst hlx
    refine ⟨xs, some ⟨b, off, none⟩, cap, rfl, by omega, fun h0 => ?_⟩
    obtain ⟨hb, _⟩ := hxs 0 h0
    refine ⟨b, off, rfl, Nat.zero_le _, hb, fun i hi => ?_⟩
    obtain ⟨_, hw⟩ := hxs i hi
    rw [tat_eq hi]
    exact hw

theorem open_net {r : Reach} {b0 : Nat} {v : Value} {d : DataW H} {p : List MemPlace} (hv : Value.okWide Tryd.prog w r b0 27 v) (h : DataW.Trod enc Tryd.prog w 0 (fun _ => true) true 27 v d p) :
    ∃ (v0 v1 v2 v3 : Value) (N : Nt), v = .agg #[v0, v1, v2, v3, .int .i64 N.uturn] ∧ HNet 0 w v0 v1 v2 v3 N := by
  obtain ⟨cs, rfl, hsz⟩ := okWide_struct Tryd.underlying27 hv
  rw [cells27] at hsz
  obtain ⟨fuel, hf⟩ := h
  obtain ⟨xs, k, _, _, _, hxs, hf⟩ := DataW.trod_struct Tryd.underlying27 hf
  have hxs5 : xs.length = 5 := hxs
  obtain ⟨l⟩ := cs
  match l, hsz with
  | [e0, e1, e2, e3, e4], _ =>
    have f0 : DataW.trod enc Tryd.prog w 0 (fun _ => true) true k 22 (([e0, e1, e2, e3, e4].drop 0).take (Tryd.prog.cellsOf 22)) = xs[0]? := hf 0 _ rfl
    have f1 : DataW.trod enc Tryd.prog w 0 (fun _ => true) true k 23 (([e0, e1, e2, e3, e4].drop 1).take (Tryd.prog.cellsOf 23)) = xs[1]? := hf 1 _ rfl
    have f2 : DataW.trod enc Tryd.prog w 0 (fun _ => true) true k 24 (([e0, e1, e2, e3, e4].drop 2).take (Tryd.prog.cellsOf 24)) = xs[2]? := hf 2 _ rfl
    have f3 : DataW.trod enc Tryd.prog w 0 (fun _ => true) true k 25 (([e0, e1, e2, e3, e4].drop 3).take (Tryd.prog.cellsOf 25)) = xs[3]? := hf 3 _ rfl
    have f4 : DataW.trod enc Tryd.prog w 0 (fun _ => true) true k 2 (([e0, e1, e2, e3, e4].drop 4).take (Tryd.prog.cellsOf 2)) = xs[4]? := hf 4 _ rfl
    rw [List.getElem?_eq_getElem (by omega)] at f0 f1 f2 f3 f4
    simp only [cells2, cells22, cells23, cells24, cells25, List.drop_zero, List.drop_succ_cons, List.take_succ_cons, List.take_zero] at f0 f1 f2 f3 f4
    obtain ⟨ns, q0⟩ := open_int_list (c := e0) f0
    obtain ⟨ws, q1⟩ := open_way_list (c := e1) f1
    obtain ⟨rs, q2⟩ := open_rel_list (c := e2) f2
    obtain ⟨ts, q3⟩ := open_turn_list (c := e3) f3
    obtain ⟨u, q4, _⟩ := DataW.trod_int Tryd.underlying2 f4
    simp at q4
    subst q4
    exact ⟨e0, e1, e2, e3, ⟨ns, ws, rs, ts, u⟩, rfl, q0, q1, q2, q3⟩
end
end Go.Proofs.YtedhchmigeooiaaDoor
