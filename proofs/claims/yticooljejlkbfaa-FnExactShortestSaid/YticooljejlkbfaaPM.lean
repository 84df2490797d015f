import Derived.Test.YticooljejlkbfaaPK
namespace Go.Proofs.Yticooljejlkbfaa
open Go.RowKit Go.Sort Go.Maps
set_option linter.unusedVariables false
set_option maxRecDepth 100000

/-- the struct of a search lies in block p -/
def SB (w : World) (p : Nat) (gv : List Value) (t : Int) (rb n : Nat) (q : Nat) (sv : Value) (b : Rk) : Prop := gv.length = 7 ∧ w.heap[p]? = some (.cells (List.toArray (gv ++ [.int .i64 t, .slice (some ⟨rb, 0, none⟩) n n, .pointer (some ⟨q, 0, none⟩), sv, .int .i64 b.1, .int .i64 b.2])) 58 (0, 0))
theorem SB.cell {w : World} {p : Nat} {gv : List Value} {t : Int} {rb n q : Nat} {sv : Value} {b : Rk} (h : SB w p gv t rb n q sv b) : w.cell? ⟨p, 7, none⟩ = some (.int .i64 t) ∧ w.cell? ⟨p, 8, none⟩ = some (.slice (some ⟨rb, 0, none⟩) n n) ∧ w.cell? ⟨p, 9, none⟩ = some (.pointer (some ⟨q, 0, none⟩)) ∧ w.cell? ⟨p, 10, none⟩ = some sv ∧ w.cell? ⟨p, 11, none⟩ = some (.int .i64 b.1) ∧ w.cell? ⟨p, 12, none⟩ = some (.int .i64 b.2) := by
  obtain ⟨hl, hb⟩ := h
  match gv, hl with
  | [a0, a1, a2, a3, a4, a5, a6], _ => simp [World.cell?, hb]
theorem SB.fz {w : World} {p : Nat} {gv : List Value} {t : Int} {rb n q : Nat} {sv : Value} {b : Rk} (h : SB w p gv t rb n q sv b) (o : Nat) : w.frozen? ⟨p, o, none⟩ = false := by
  simp [World.frozen?, h.2]
theorem SB.lt {w : World} {p : Nat} {gv : List Value} {t : Int} {rb n q : Nat} {sv : Value} {b : Rk} (h : SB w p gv t rb n q sv b) : p < w.heap.size := (Array.getElem?_eq_some_iff.1 h.2).1
theorem SB.kept {w w' : World} {p : Nat} {gv : List Value} {t : Int} {rb n q : Nat} {sv : Value} {b : Rk} (h : SB w p gv t rb n q sv b) (k : w'.heap[p]? = w.heap[p]?) : SB w' p gv t rb n q sv b := ⟨h.1, k.trans h.2⟩
/-- the search in memory -/
structure SR (C : Nat) (w : World) (sb p q mb rb n : Nat) (gv : List Value) (t : Int) (b : Rk) (iv sv : Value) (K : Nat → Rk) (L : List Nat) (D : DM) (S : List Nat) : Prop where
  x : w.heap[sb]? = some (.cells #[.pointer (some ⟨p, 0, none⟩)] 51 (0, 0))
  s : SB w p gv t rb n q sv b
  k : RKM w rb n K
  h : HQ C w q sb iv mb K n L D
  d : OwnI C w sv (ints S)
  ap : ∀ g, sv.ownBlock = some g → iv.ownBlock ≠ some g
  cb : C ≤ sb ∧ C ≤ p ∧ C ≤ q ∧ C ≤ mb ∧ C ≤ rb
theorem SR.cm {C : Nat} {w : World} {sb p q mb rb n : Nat} {gv : List Value} {t : Int} {b : Rk} {iv sv : Value} {K : Nat → Rk} {L : List Nat} {D : DM} {S : List Nat} (h : SR C w sb p q mb rb n gv t b iv sv K L D S) : CM w sb p rb n K :=
  ⟨by simp [World.cell?, h.x], ⟨n, h.s.cell.2.1⟩, h.k⟩
/-- the blocks of a search lie apart -/
theorem SR.sep {C : Nat} {w : World} {sb p q mb rb n : Nat} {gv : List Value} {t : Int} {b : Rk} {iv sv : Value} {K : Nat → Rk} {L : List Nat} {D : DM} {S : List Nat} (h : SR C w sb p q mb rb n gv t b iv sv K L D S) : (sb ∉ hbl q mb iv ∧ p ∉ hbl q mb iv ∧ rb ∉ hbl q mb iv) ∧ (sb ≠ p ∧ sb ≠ rb ∧ p ≠ rb) ∧ (∀ g, sv.ownBlock = some g → g ≠ sb ∧ g ≠ p ∧ g ≠ rb ∧ g ∉ hbl q mb iv) := by
  obtain ⟨es, clock, hmb, _⟩ := h.h.h.m
  have hq := h.h.h.q
  unfold QB at hq
  obtain ⟨cr, hr, _⟩ := h.k
  have hx := h.x
  have hp := h.s.2
  have hi : ∀ g, iv.ownBlock = some g → ∃ cur, w.heap[g]? = some (.cells cur 2 (0, 0)) := fun g e => (h.h.h.i.blk e).2.2
  have hd : ∀ g, sv.ownBlock = some g → ∃ cur, w.heap[g]? = some (.cells cur 2 (0, 0)) := fun g e => (h.d.blk e).2.2
  have key : ∀ (b : Nat) (c : Array Value) (ty : Nat), w.heap[b]? = some (.cells c ty (0, 0)) → ty ≠ 2 → ty ≠ 84 → b ∉ hbl q mb iv := by
    intro b c ty hb h1 h2 hm
    simp only [hbl, List.mem_cons, Option.mem_toList] at hm
    rcases hm with e | e | e
    · subst e; rw [hq] at hb; simp at hb; exact h2 hb.2.symm
    · subst e; rw [hmb] at hb; cases hb
    · obtain ⟨cur, hc⟩ := hi b e
      rw [hc] at hb; simp at hb; exact h1 hb.2.symm
  refine ⟨⟨key _ _ _ hx (by decide) (by decide), key _ _ _ hp (by decide) (by decide), key _ _ _ hr (by decide) (by decide)⟩, ⟨fun e => ?_, fun e => ?_, fun e => ?_⟩, fun g e => ?_⟩
  · subst e; rw [hp] at hx; simp at hx
  · subst e; rw [hr] at hx; simp at hx
  · subst e; rw [hr] at hp; simp at hp
  · obtain ⟨cur, hc⟩ := hd g e
    refine ⟨fun e2 => ?_, fun e2 => ?_, fun e2 => ?_, fun hm => ?_⟩
    · subst e2; rw [hx] at hc; simp at hc
    · subst e2; rw [hp] at hc; simp at hc
    · subst e2; rw [hr] at hc; simp at hc
    · simp only [hbl, List.mem_cons, Option.mem_toList] at hm
      rcases hm with e2 | e2 | e2
      · subst e2; rw [hq] at hc; simp at hc
      · subst e2; rw [hmb] at hc; cases hc
      · exact h.ap g e e2
theorem SR.next {C : Nat} {w w' : World} {sb p q mb rb n : Nat} {gv : List Value} {t : Int} {b : Rk} {iv sv : Value} {K : Nat → Rk} {L : List Nat} {D : DM} {S : List Nat} (h : SR C w sb p q mb rb n gv t b iv sv K L D S) (k : Nx w w') : SR C w' sb p q mb rb n gv t b iv sv K L D S :=
  ⟨(k.block sb (Array.getElem?_eq_some_iff.1 h.x).1).trans h.x, h.s.kept (k.block p h.s.lt), h.k.next k, ⟨h.h.h.kept k, h.h.o, h.h.j, h.h.p, h.h.v, h.h.s⟩, h.d.next k, h.ap, h.cb⟩

theorem RKM.set {w : World} {rb n : Nat} {K K' : Nat → Rk} (h : RKM w rb n K) {v : Nat} (hv : v < n) {r : Rk} (h1 : K' v = r) (h2 : ∀ y, y ≠ v → K' y = K y) : RKM ((w.setCell ⟨rb, v * 2, none⟩ (.int .i64 r.1)).setCell ⟨rb, v * 2 + 1, none⟩ (.int .i64 r.2)) rb n K' := by
  obtain ⟨c, e1, e2, e3⟩ := h
  refine ⟨(c.setIfInBounds (v * 2) (.int .i64 r.1)).setIfInBounds (v * 2 + 1) (.int .i64 r.2), by simp [World.setCell, Array.getElem?_modify, e1], by simp [e2], fun y hy => ?_⟩
  by_cases e : y = v
  · subst e
    rw [h1]
    constructor
    · rw [Array.getElem?_setIfInBounds, if_neg (by omega), Array.getElem?_setIfInBounds, if_pos rfl, if_pos (by omega)]
    · rw [Array.getElem?_setIfInBounds, if_pos rfl, if_pos (by simp; omega)]
  · rw [h2 y e]
    have := e3 y hy
    constructor
    · rw [Array.getElem?_setIfInBounds, if_neg (by omega), Array.getElem?_setIfInBounds, if_neg (by omega)]; exact this.1
    · rw [Array.getElem?_setIfInBounds, if_neg (by omega), Array.getElem?_setIfInBounds, if_neg (by omega)]; exact this.2

theorem eqRank (a b c d : Int) (w : World) : (Op.equalIn 10000 56 (.agg #[.int .i64 a, .int .i64 b]) (.agg #[.int .i64 c, .int .i64 d])).run Try.prog w = .ok (a == c && b == d) w := by
  have u3 := Try.underlying2
  have a3 := Try.isAgg2
  have z3 := Try.sizeOf2
  rw [show (10000 : Nat) = 9999 + 1 from rfl, Op.equalIn]
  simp only [Sem.run_bind, run_underlying Try.underlying56, Result.andThen_ok]
  simp only [Std.Legacy.Range.forIn_eq_forIn_range', Std.Legacy.Range.size, Nat.sub_zero, Nat.add_sub_cancel, Nat.div_one, List.range'_succ, List.range'_zero, List.forIn_cons, List.forIn_nil]
  go_simp
  by_cases h1 : a = c <;> by_cases h2 : b = d <;> simp [h1, h2]
theorem after_any (r : Rk) (k : Int) (w : World) (h1 : 0 ≤ r.1 ∧ r.1 ≤ 100000000000) (h2 : 0 ≤ r.2 ∧ r.2 ≤ 100000) (hk : 0 ≤ k ∧ k ≤ 3145728) :
    Calls Try.prog 66 #[.agg #[.int .i64 r.1, .int .i64 r.2], .int .i64 k] w fun e w' => e = .returned (.agg #[.int .i64 (aft r k).1, .int .i64 (aft r k).2]) ∧ Nx w w' := by
  obtain ⟨a, b⟩ := r
  simp only at h1 h2
  obtain ⟨h1a, h1b⟩ := h1
  obtain ⟨h2a, h2b⟩ := h2
  obtain ⟨hka, hkb⟩ := hk
  have x0 : (w.alloc (.cells #[.int .i64 a, .int .i64 b] 56)).cell? ⟨w.heap.size, 0, none⟩ = some (.int .i64 a) := (Blk.new w #[.int .i64 a, .int .i64 b] 56 _ rfl).cell (i := 0) rfl
  have x1 : (w.alloc (.cells #[.int .i64 a, .int .i64 b] 56)).cell? ⟨w.heap.size, 1, none⟩ = some (.int .i64 b) := (Blk.new w #[.int .i64 a, .int .i64 b] 56 _ rfl).cell (i := 1) rfl
  go_enter Try.func66, Try.ntmps66
  go_wp2
  exact bodyPost_ret (v := .agg #[.int .i64 (a + k), .int .i64 (b + 1)]) (by simp [results, Try.results66, go_sem]) rfl ⟨rfl, box2 _ _ _⟩
end Go.Proofs.Yticooljejlkbfaa
