import Derived.Test.YticooljejlkbfaaPA
import Derived.Test.YticooljejlkbfaaHA
import Derived.Test.YticooljejlkbfaaSU
import Derived.Maps.OwnSet
import Derived.Lib.QuietBelow
namespace Go.Proofs.Yticooljejlkbfaa
open Go.RowKit Go.Sort
set_option linter.unusedVariables false
set_option maxRecDepth 100000

/-- how two ranks compare -/
def cmpR (a b : Rk) : Int := if a.1 = b.1 then cmpI a.2 b.2 else cmpI a.1 b.1
theorem cmpR_lt (a b : Rk) : cmpR a b < 0 ↔ rlt a b := by
  unfold cmpR rlt cmpI
  split <;> (repeat' split) <;> omega
theorem cmpR_bd (a b : Rk) : -1 ≤ cmpR a b ∧ cmpR a b ≤ 1 := by
  unfold cmpR cmpI
  split <;> (repeat' split) <;> omega
theorem cmpR_le (a b : Rk) : cmpR a b ≤ 0 ↔ ¬ rlt b a := by
  unfold cmpR rlt cmpI
  split <;> (repeat' split) <;> omega
theorem cmpI_ne {x y : Int} (h : x ≠ y) : cmpI x y ≠ 0 := by
  unfold cmpI
  (repeat' split) <;> omega
theorem cmpI_same (x : Int) : cmpI x x = 0 := by
  unfold cmpI
  (repeat' split) <;> omega

set_option maxHeartbeats 4000000 in
theorem sCompare_any (b b' c c' : Nat) (x1 x2 y1 y2 : Int) (w : World) (hx1 : w.cell? ⟨b, 0, none⟩ = some (.int .i64 x1)) (hx2 : w.cell? ⟨b, 1, none⟩ = some (.int .i64 x2)) (hy1 : w.cell? ⟨b', 0, none⟩ = some (.int .i64 y1)) (hy2 : w.cell? ⟨b', 1, none⟩ = some (.int .i64 y2)) :
    Calls Try.prog 62 #[.slice (some ⟨b, 0, none⟩) 2 c, .slice (some ⟨b', 0, none⟩) 2 c'] w fun e w' => e = .returned (.int .i64 (cmpR (x1, x2) (y1, y2))) ∧ w' = w := by
  go_enter Try.func62, Try.ntmps62
  go_wp2
  go_loop [5, 6, 7, 8, 11] (fun _ _ _ _ i => ∃ k : Nat, k ≤ 2 ∧ i = .int .i64 (k : Int) ∧ Hid (1 ≤ k → x1 = y1) ∧ Hid (2 ≤ k → x2 = y2)) (fun _ _ _ _ i => 2 - (intOf i).toNat)
  case atStart => exact ⟨0, by omega, rfl, fun h => by omega, fun h => by omega⟩
  case round =>
    obtain ⟨k, hk, rfl, H1, H2⟩ := hrel
    by_cases h0 : k = 0
    · subst h0
      clear H1 H2
      by_cases e : x1 = y1
      · have HE : Hid (x1 = y1) := e
        have hc : cmpI x1 y1 = 0 := by rw [e]; exact cmpI_same _
        clear e
        go_wp2_with (go_at_call 46; refine (cmp_any _ _ _).mono ?_; rintro e w' ⟨rfl, rfl⟩)
        go_round
        case rel => exact ⟨1, by omega, by go_num, fun _ => HE.out, fun h => by omega⟩
        case measure => simp [intOf]
      · have hc := cmpI_ne e
        have HR : Hid (cmpI x1 y1 = cmpR (x1, x2) (y1, y2)) := by unfold Hid cmpR; rw [if_neg e]
        have hc' : (cmpI x1 y1 != 0) = true := by simpa using hc
        clear e
        go_wp2_with (go_at_call 46; refine (cmp_any _ _ _).mono ?_; rintro e w' ⟨rfl, rfl⟩)
        go_ret
        exact ⟨ret_int HR.out, rfl⟩
    · by_cases h1 : k = 1
      · subst h1
        have HE1 : Hid (x1 = y1) := H1.out (Nat.le_refl _)
        clear H1 H2
        by_cases e : x2 = y2
        · have HE : Hid (x2 = y2) := e
          have hc : cmpI x2 y2 = 0 := by rw [e]; exact cmpI_same _
          clear e
          go_wp2_with (go_at_call 46; refine (cmp_any _ _ _).mono ?_; rintro e w' ⟨rfl, rfl⟩)
          go_round
          case rel => exact ⟨2, by omega, by go_num, fun _ => HE1.out, fun _ => HE.out⟩
          case measure => simp [intOf]
        · have hc := cmpI_ne e
          have HR : Hid (cmpI x2 y2 = cmpR (x1, x2) (y1, y2)) := by unfold Hid cmpR; rw [if_pos HE1.out]
          have hc' : (cmpI x2 y2 != 0) = true := by simpa using hc
          clear e
          go_wp2_with (go_at_call 46; refine (cmp_any _ _ _).mono ?_; rintro e w' ⟨rfl, rfl⟩)
          go_ret
          exact ⟨ret_int HR.out, rfl⟩
      · have h2 : k = 2 := by omega
        subst h2
        have HE1 : Hid (x1 = y1) := H1.out (by omega)
        have HE2 : Hid (x2 = y2) := H2.out (by omega)
        have HR : Hid (0 = cmpR (x1, x2) (y1, y2)) := by unfold Hid cmpR; rw [if_pos HE1.out]; simp only; rw [HE2.out, cmpI_same]
        clear H1 H2
        go_wp2_with (go_at_call 46; refine (cmp_any _ _ _).mono ?_; rintro e w' ⟨rfl, rfl⟩)
        go_ret
        exact ⟨ret_int HR.out, rfl⟩

set_option maxHeartbeats 4000000 in
theorem cmpRanks_any (a b : Rk) (w : World) :
    Calls Try.prog 51 #[.agg #[.int .i64 a.1, .int .i64 a.2], .agg #[.int .i64 b.1, .int .i64 b.2]] w fun e w' => e = .returned (.int .i64 (cmpR a b)) ∧ Nx w w' := by
  obtain ⟨a1, a2⟩ := a
  obtain ⟨b1, b2⟩ := b
  go_enter Try.func51, Try.ntmps51
  go_upto_region 1 with fail
  have x1 := (Blk.new w #[.int .i64 a1, .int .i64 a2] 56 _ rfl).alloc (.cells #[.int .i64 b1, .int .i64 b2] 56)
  have y1 := Blk.new (w.alloc (.cells #[.int .i64 a1, .int .i64 a2] 56)) #[.int .i64 b1, .int .i64 b2] 56 (w.heap.size + 1) (size_alloc' _ _).symm
  have HX : Hid (Nx w ((w.alloc (.cells #[.int .i64 a1, .int .i64 a2] 56)).alloc (.cells #[.int .i64 b1, .int .i64 b2] 56))) := box2 _ _ _
  generalize (w.alloc (.cells #[.int .i64 a1, .int .i64 a2] 56)).alloc (.cells #[.int .i64 b1, .int .i64 b2] 56) = w2 at *
  have p0 : w2.cell? ⟨w.heap.size, 0, none⟩ = some (.int .i64 a1) := x1.cell (i := 0) rfl
  have p1 : w2.cell? ⟨w.heap.size, 1, none⟩ = some (.int .i64 a2) := x1.cell (i := 1) rfl
  have r0 : w2.cell? ⟨w.heap.size + 1, 0, none⟩ = some (.int .i64 b1) := y1.cell (i := 0) rfl
  have r1 : w2.cell? ⟨w.heap.size + 1, 1, none⟩ = some (.int .i64 b2) := y1.cell (i := 1) rfl
  clear x1 y1
  go_quiet ((go_at_call 62; exact Calls.quiet_of_same (sCompare_any _ _ _ _ a1 a2 b1 b2 _ p0 p1 r0 r1)))
  go_wp2
  go_ret
  exact ⟨rfl, HX.out.trans (nx_drewN _ _)⟩
end Go.Proofs.Yticooljejlkbfaa

namespace Go.Proofs.Yticooljejlkbfaa
open Go.RowKit Go.Sort Go.Maps
set_option linter.unusedVariables false
set_option maxRecDepth 100000

/-- but for these blocks nothing old has turned -/
structure OnS (S : List Nat) (w w' : World) : Prop where
  os : w'.os = w.os
  tape : w'.tape = w.tape
  output : w'.output = w.output
  size : w.heap.size ≤ w'.heap.size
  block : ∀ b, b < w.heap.size → b ∉ S → w'.heap[b]? = w.heap[b]?
theorem OnS.refl (S : List Nat) (w : World) : OnS S w w := ⟨rfl, rfl, rfl, Nat.le_refl _, fun _ _ _ => rfl⟩
theorem OnS.nx {S : List Nat} {w w' : World} (h : Nx w w') : OnS S w w' := ⟨h.os, h.tape, h.output, h.size, fun b hb _ => h.block b hb⟩
theorem OnS.trans {S S' : List Nat} {a b c : World} (h : OnS S a b) (k : OnS S' b c) (hs : ∀ x ∈ S', x ∈ S ∨ a.heap.size ≤ x) : OnS S a c :=
  ⟨k.os.trans h.os, k.tape.trans h.tape, k.output.trans h.output, Nat.le_trans h.size k.size, fun x hx hn => (k.block x (Nat.lt_of_lt_of_le hx h.size) (fun g => (hs x g).elim hn (fun g => by omega))).trans (h.block x hx hn)⟩
theorem OnS.tr {S : List Nat} {a b c : World} (h : OnS S a b) (k : OnS S b c) : OnS S a c := h.trans k (fun x hx => Or.inl hx)
theorem OnS.mono {S S' : List Nat} {a b : World} (h : OnS S a b) (hs : ∀ x ∈ S, x ∈ S') : OnS S' a b := ⟨h.os, h.tape, h.output, h.size, fun x hx hn => h.block x hx (fun g => hn (hs x g))⟩
theorem OnS.set (S : List Nat) (w : World) {g : Nat} (hg : g ∈ S) (i : Nat) (u : Value) : OnS S w (w.setCell ⟨g, i, none⟩ u) :=
  ⟨rfl, rfl, rfl, by simp [World.setCell], fun b hb hn => Below.heap_setCell _ _ _ _ (fun e => hn (e ▸ hg))⟩
theorem OnS.grown {S : List Nat} {w w' : World} {o : Option Nat} (h : w.grownBy w' o) (ho : ∀ g, o = some g → g ∈ S) : OnS S w w' :=
  ⟨h.os, h.tape, h.output, h.size, fun b hb hn => h.block b hb (fun e => hn (ho b e.symm))⟩
theorem OnS.below {S : List Nat} {w w' : World} {C : Nat} (h : OnS S w w') (hC : C ≤ w.heap.size) (hS : ∀ b ∈ S, C ≤ b) : Below C w w' := ⟨h.os, h.tape, h.output, h.size, fun b hb => h.block b (by omega) (fun g => by have := hS b g; omega)⟩

/-- the ranks, by vertex -/
def RKM (w : World) (rb n : Nat) (K : Nat → Rk) : Prop := ∃ c : Array Value, w.heap[rb]? = some (.cells c 56 (0, 0)) ∧ c.size = n * 2 ∧ ∀ v, v < n → c[v * 2]? = some (.int .i64 (K v).1) ∧ c[v * 2 + 1]? = some (.int .i64 (K v).2)
theorem RKM.c1 {w : World} {rb n : Nat} {K : Nat → Rk} (h : RKM w rb n K) {v : Nat} (hv : v < n) : w.cell? ⟨rb, v * 2, none⟩ = some (.int .i64 (K v).1) := by
  obtain ⟨c, h1, _, h3⟩ := h
  simp [World.cell?, h1, (h3 v hv).1]
theorem RKM.c2 {w : World} {rb n : Nat} {K : Nat → Rk} (h : RKM w rb n K) {v : Nat} (hv : v < n) : w.cell? ⟨rb, v * 2 + 1, none⟩ = some (.int .i64 (K v).2) := by
  obtain ⟨c, h1, _, h3⟩ := h
  simp [World.cell?, h1, (h3 v hv).2]
theorem RKM.fz {w : World} {rb n : Nat} {K : Nat → Rk} (h : RKM w rb n K) (o : Nat) : w.frozen? ⟨rb, o, none⟩ = false := by
  obtain ⟨c, h1, _, _⟩ := h
  simp [World.frozen?, h1]
theorem RKM.lt {w : World} {rb n : Nat} {K : Nat → Rk} (h : RKM w rb n K) : rb < w.heap.size := by
  obtain ⟨c, h1, _, _⟩ := h
  exact (Array.getElem?_eq_some_iff.1 h1).1
theorem RKM.kept {w w' : World} {rb n : Nat} {K : Nat → Rk} (h : RKM w rb n K) (k : w'.heap[rb]? = w.heap[rb]?) : RKM w' rb n K := by
  obtain ⟨c, h1, h2, h3⟩ := h
  exact ⟨c, k.trans h1, h2, h3⟩
theorem RKM.next {w w' : World} {rb n : Nat} {K : Nat → Rk} (h : RKM w rb n K) (k : Nx w w') : RKM w' rb n K := h.kept (k.block rb h.lt)
/-- the search's box s, its struct p and its ranks, as the comparer reads them -/
structure CM (w : World) (sb p rb n : Nat) (K : Nat → Rk) : Prop where
  b : w.cell? ⟨sb, 0, none⟩ = some (.pointer (some ⟨p, 0, none⟩))
  r : ∃ c, w.cell? ⟨p, 8, none⟩ = some (.slice (some ⟨rb, 0, none⟩) n c)
  k : RKM w rb n K
theorem CM.next {w w' : World} {sb p rb n : Nat} {K : Nat → Rk} (h : CM w sb p rb n K) (k : Nx w w') : CM w' sb p rb n K := by
  obtain ⟨h1, ⟨c, h2⟩, h3⟩ := h
  exact ⟨cellq k h1, ⟨c, cellq k h2⟩, h3.next k⟩

set_option maxHeartbeats 4000000 in
theorem less_vertex (sb p rb n v u : Nat) (K : Nat → Rk) (w : World) (h : CM w sb p rb n K) (hv : v < n) (hu : u < n) (hn : n ≤ 6000) :
    Calls Try.prog 50 #[.int .i64 (v : Int), .int .i64 (u : Int), .pointer (some ⟨sb, 0, none⟩)] w fun e w' => e = .returned (.int .i64 (cmpR (K v) (K u))) ∧ Nx w w' := by
  obtain ⟨h1, ⟨c, h2⟩, h3⟩ := h
  have hv0 : (v : Int) < n := by omega
  have hu0 : (u : Int) < n := by omega
  have CG : Hid (∀ d os, Calls Try.prog 51 #[.agg #[.int .i64 (K v).1, .int .i64 (K v).2], .agg #[.int .i64 (K u).1, .int .i64 (K u).2]] (Sort.grow (redrawn w d) os) fun e w'' => e = .returned (.int .i64 (cmpR (K v) (K u))) ∧ ∃ p : Regrown, w'' = Sort.grow (redrawn w p.d) p.os) :=
    fun d os => Calls.regrown_of (cmpRanks_any (K v) (K u) _)
  have v1 := cell_regrown (h3.c1 hv)
  have v2 := cell_regrown (h3.c2 hv)
  have u1 := cell_regrown (h3.c1 hu)
  have u2 := cell_regrown (h3.c2 hu)
  have q1 := cell_regrown h1
  have q2 := cell_regrown h2
  generalize cmpR (K v) (K u) = cc at *
  generalize (K v).1 = a1 at *
  generalize (K v).2 = a2 at *
  generalize (K u).1 = b1 at *
  generalize (K u).2 = b2 at *
  clear h3
  go_enter Try.func50, Try.ntmps50
  go_wp2
  refine wp_region_quiet_below (by kernel_rfl) (by kernel_rfl) ?_
  repeat (go_big_quiet_step (exact CG.out _ _))
  refine wpQuiet_nil ?_
  intro _ hw'
  obtain ⟨⟨dq, osq⟩, hw''⟩ := hw'
  subst hw''
  have HQ : Hid (Nx w (Sort.grow (redrawn w dq) osq)) := below_regrown w dq osq
  clear v1 v2 u1 u2 q1 q2 CG
  generalize Sort.grow (redrawn w dq) osq = wq at *
  go_wp2
  go_ret
  exact ⟨rfl, HQ.out⟩
end Go.Proofs.Yticooljejlkbfaa

namespace Go.Proofs.Yticooljejlkbfaa
open Go.RowKit Go.Sort Go.Maps
set_option linter.unusedVariables false
set_option maxRecDepth 100000

theorem OwnI.put {C : Nat} {w : World} {g n c : Nat} {zs : List Int} (h : OwnI C w (.slice (some ⟨g, 0, none⟩) n c) zs) {i : Nat} (hi : i < zs.length) (x : Int) : OwnI C (w.setCell ⟨g, i, none⟩ (.int .i64 x)) (.slice (some ⟨g, 0, none⟩) n c) (zs.set i x) := by
  obtain ⟨h1, h2⟩ := h
  rcases h2 with ⟨h2, _⟩ | ⟨g', cap, cur, hv, hg, hh, hc, hm, hs, ht⟩
  · simp at h2
  simp only [Value.slice.injEq, Option.some.injEq, Addr.mk.injEq, and_true] at hv
  obtain ⟨rfl, rfl, rfl⟩ := hv
  refine ⟨by simp [icells], Or.inr ⟨g, c, cur.setIfInBounds i (.int .i64 x), by rw [List.length_set], hg, ?_, by rw [List.length_set]; exact hc, hm, by simp [hs], ?_⟩⟩
  · simp [World.setCell, Array.getElem?_modify, hh]
  · rw [List.length_set]
    apply List.ext_getElem?
    intro j
    by_cases hj : j < zs.length * 1
    · have e0 : (cur.toList.take (zs.length * 1))[j]? = (icells zs)[j]? := by rw [ht]
      rw [List.getElem?_take_of_lt hj, Array.getElem?_toList] at e0
      rw [List.getElem?_take_of_lt hj, Array.getElem?_toList, Array.getElem?_setIfInBounds]
      unfold icells at e0 ⊢
      rw [List.getElem?_map] at e0 ⊢
      rw [List.getElem?_set]
      have hj' : j < zs.length := by omega
      by_cases c1 : i = j
      · subst c1; simp [show i < cur.size by omega, hj']
      · rw [if_neg c1, if_neg c1, e0]
    · rw [List.getElem?_eq_none (by simp; omega), List.getElem?_eq_none (by simp [icells]; omega)]
theorem OwnI.fz {C : Nat} {w : World} {g n c : Nat} {zs : List Int} (h : OwnI C w (.slice (some ⟨g, 0, none⟩) n c) zs) (o : Nat) : w.frozen? ⟨g, o, none⟩ = false := by
  obtain ⟨h1, h2⟩ := h
  rcases h2 with ⟨h2, _⟩ | ⟨g', cap, cur, hv, hg, hh, _⟩
  · simp at h2
  simp only [Value.slice.injEq, Option.some.injEq, Addr.mk.injEq, and_true] at hv
  obtain ⟨rfl, rfl, rfl⟩ := hv
  simp [World.frozen?, hh]
theorem OwnI.kept {C : Nat} {w w' : World} {v : Value} {zs : List Int} (h : OwnI C w v zs) (k : ∀ g, v.ownBlock = some g → w'.heap[g]? = w.heap[g]?) : OwnI C w' v zs := by
  obtain ⟨h1, h2⟩ := h
  refine ⟨h1, ?_⟩
  rcases h2 with h2 | ⟨g, cap, cur, hv, hg, hh, r⟩
  · exact Or.inl h2
  · exact Or.inr ⟨g, cap, cur, hv, hg, (k g (by rw [hv]; rfl)).trans hh, r⟩
theorem OwnI.blk {C : Nat} {w : World} {v : Value} {zs : List Int} (h : OwnI C w v zs) {g : Nat} (hg : v.ownBlock = some g) : C ≤ g ∧ g < w.heap.size ∧ ∃ cur, w.heap[g]? = some (.cells cur 2 (0, 0)) := by
  obtain ⟨h1, h2⟩ := h
  rcases h2 with ⟨h2, _⟩ | ⟨g', cap, cur, hv, hC, hh, r⟩
  · subst h2; simp [Value.ownBlock] at hg
  · subst hv
    simp [Value.ownBlock] at hg
    subst hg
    exact ⟨hC, (Array.getElem?_eq_some_iff.1 hh).1, cur, hh⟩
/-- the vertices as numbers -/
def ints (L : List Nat) : List Int := L.map (fun v : Nat => (v : Int))
theorem ints_len (L : List Nat) : (ints L).length = L.length := by simp [ints]
theorem ints_at {L : List Nat} {i : Nat} (h : i < L.length) : iat (ints L) i = (lat L i : Int) := by
  unfold iat ints lat
  simp [List.getElem?_eq_getElem h, List.getD_eq_getElem?_getD]
theorem ints_set (L : List Nat) (i x : Nat) : (ints L).set i (x : Int) = ints (L.set i x) := by
  unfold ints; rw [List.map_set]
theorem keyI : Keyed Try.prog 2 := int_keyed Try.underlying2
theorem wfN {i : Nat} (h : i ≤ 100000) : (Lit.int .i64 (i : Int)).wf = true := by
  simp [Lit.wf, IntKind.min, IntKind.max, IntKind.bits, IntKind.signed]
  omega

theorem eInt_ok (i : Nat) (h : i ≤ 100000) : (plainElem Try.prog 3) (.int .i64 (i : Int)) = some (pv i, []) := plainElem_int Try.underlying3 (wfN h)
theorem kv_ok (v : Nat) (h : v ≤ 100000) : keyOf Try.prog 2 (.int .i64 (v : Int)) = some (kv v) := keyOf_int_mk Try.underlying2 (wfN h)
/-- the comparer -/
def cmpF (sb : Nat) : Value := .func (.func 50) #[] #[.pointer (some ⟨sb, 0, none⟩)]
/-- the heap's struct lies in block q -/
def QB (w : World) (q sb : Nat) (iv : Value) (mb : Nat) : Prop := w.heap[q]? = some (.cells #[cmpF sb, iv, .map (some mb)] 84 (0, 0))
theorem QB.blk {w : World} {q sb : Nat} {iv : Value} {mb : Nat} (h : QB w q sb iv mb) : Blk w q #[cmpF sb, iv, .map (some mb)] := ⟨_, h⟩
/-- the heap in memory -/
structure HM (C : Nat) (w : World) (q sb : Nat) (iv : Value) (mb : Nat) (L : List Nat) (D : DM) : Prop where
  q : QB w q sb iv mb
  i : OwnI C w iv (ints L)
  m : w.ownsMap Try.prog 2 (plainElem Try.prog 3) mb (size D) D
theorem own_exact {P : Program} {k : TypeId} {R : Value → Option (DataW Unit × List MemPlace)} {w : World} {b n : Nat} {D : DM} (h : w.ownsMap P k R b n D) : w.ownsMap P k R b (size D) D := by
  obtain ⟨es, clock, hb, F, hs, hD⟩ := h
  refine ⟨es, clock, hb, F, ?_, hD⟩
  rw [hD]
  simp [size, length_sorted]
theorem HM.kept {C : Nat} {w w' : World} {q sb : Nat} {iv : Value} {mb : Nat} {L : List Nat} {D : DM} (h : HM C w q sb iv mb L D) (k : Nx w w') : HM C w' q sb iv mb L D :=
  ⟨(k.block q (Array.getElem?_eq_some_iff.1 h.q).1).trans h.q, h.i.next k, by
    obtain ⟨es, clock, hb, r⟩ := h.m
    exact ⟨es, clock, (k.block mb (Array.getElem?_eq_some_iff.1 hb).1).trans hb, r⟩⟩
theorem HM.ne {C : Nat} {w : World} {q sb : Nat} {iv : Value} {mb : Nat} {L : List Nat} {D : DM} (h : HM C w q sb iv mb L D) : q ≠ mb ∧ ∀ g, iv.ownBlock = some g → g ≠ q ∧ g ≠ mb := by
  obtain ⟨es, clock, hb, _⟩ := h.m
  have hq := h.q
  unfold QB at hq
  refine ⟨fun e => (by rw [e, hb] at hq; cases hq), fun g hg => ?_⟩
  obtain ⟨_, _, cur, hc⟩ := h.i.blk hg
  refine ⟨fun e => ?_, fun e => (by rw [e, hb] at hc; cases hc)⟩
  rw [e, hq] at hc
  simp at hc

set_option maxHeartbeats 4000000 in
theorem set_any (C q sb mb g c : Nat) (L : List Nat) (D : DM) (a x : Nat) (w : World) (h : HM C w q sb (.slice (some ⟨g, 0, none⟩) L.length c) mb L D) (ha : a < L.length) (hL : L.length ≤ 10000) (hx : x ≤ 10000) (hD : size D ≤ 10000) :
    Calls Try.prog 70 #[.pointer (some ⟨q, 0, none⟩), .int .i64 (a : Int), .int .i64 (x : Int)] w fun e w' => ∃ v, e = .returned v ∧ HM C w' q sb (.slice (some ⟨g, 0, none⟩) L.length c) mb (L.set a x) (D.put (kv x) (pv a)) ∧ OnS [g, mb] w w' := by
  have H : Hid (HM C w q sb (.slice (some ⟨g, 0, none⟩) L.length c) mb L D) := h
  have hne := h.ne
  have hgq : g ≠ q ∧ g ≠ mb := hne.2 g rfl
  have k1 : w.cell? ⟨q, 1, none⟩ = some (.slice (some ⟨g, 0, none⟩) L.length c) := h.q.blk.cell (i := 1) rfl
  have hc : w.cell? ⟨g, a, none⟩ = some (.int .i64 (iat (ints L) a)) := by
    obtain ⟨g', e, hc⟩ := h.i.cell (i := a) (by rw [ints_len]; exact ha)
    simp only [Option.some.injEq, Addr.mk.injEq, and_true] at e
    subst e
    exact hc
  have hz := h.i.fz a
  have ha' : (a : Int) < (L.length : Int) := by omega
  have HI1 : Hid (OwnI C (w.setCell ⟨g, a, none⟩ (.int .i64 (x : Int))) (.slice (some ⟨g, 0, none⟩) L.length c) (ints (L.set a x))) := by
    have := h.i.put (i := a) (by rw [ints_len]; exact ha) (x : Int)
    rw [ints_set] at this
    exact this
  have HQ1 : Hid (QB (w.setCell ⟨g, a, none⟩ (.int .i64 (x : Int))) q sb (.slice (some ⟨g, 0, none⟩) L.length c) mb) := (Below.heap_setCell _ _ _ _ (fun e => hgq.1 e.symm)).trans h.q
  have HM1 : Hid ((w.setCell ⟨g, a, none⟩ (.int .i64 (x : Int))).ownsMap Try.prog 2 (plainElem Try.prog 3) mb (size D) D) := h.m.setCell (fun e => hgq.2 e.symm) _
  have HO1 : Hid (OnS [g, mb] w (w.setCell ⟨g, a, none⟩ (.int .i64 (x : Int)))) := OnS.set _ w (by simp) _ _
  have k2 : (w.setCell ⟨g, a, none⟩ (.int .i64 (x : Int))).cell? ⟨q, 2, none⟩ = some (.map (some mb)) := HQ1.out.blk.cell (i := 2) rfl
  have HNE : Hid (g ≠ q ∧ g ≠ mb ∧ q ≠ mb) := ⟨hgq.1, hgq.2, hne.1⟩
  clear h hne hgq
  go_enter Try.func70, Try.ntmps70
  go_upto_region 1 with fail
  clear hc hz k1
  generalize w.setCell ⟨g, a, none⟩ (.int .i64 (x : Int)) = w1 at *
  go_wp2_with (at_mapUpdate; refine wpList_mapUpdate_own _ rfl _ _ _ 82 rfl 2 3 keyI Try.underlying82 (plainElem Try.prog 3) mb (size D) D rfl HM1.out (by unfold maxLen; omega) (.int .i64 (x : Int)) (.int .i64 (a : Int)) (kv x) rfl rfl (kv_ok x (by omega)) (pv a) [] (eInt_ok a (by omega)) ?_)
  intro w4 hown hg
  have HF : Hid (HM C w4 q sb (.slice (some ⟨g, 0, none⟩) L.length c) mb (L.set a x) (D.put (kv x) (pv a))) := by
    refine ⟨(hg.block q (Array.getElem?_eq_some_iff.1 HQ1.out).1 (fun e => HNE.out.2.2 (Option.some.inj e))).trans HQ1.out, HI1.out.kept (fun g' e => ?_), own_exact hown⟩
    have e' : g = g' := Option.some.inj e
    subst e'
    exact hg.block g (HI1.out.blk rfl).2.1 (fun e => HNE.out.2.1 (Option.some.inj e))
  have HO : Hid (OnS [g, mb] w w4) := HO1.out.tr (OnS.grown hg (fun g' e => by cases e; simp))
  clear hown hg k2
  go_wp2
  refine bodyPost_end (v := .tuple #[]) (by simp [results, Try.results70, go_sem]) rfl ⟨_, rfl, HF.out, HO.out⟩
end Go.Proofs.Yticooljejlkbfaa
