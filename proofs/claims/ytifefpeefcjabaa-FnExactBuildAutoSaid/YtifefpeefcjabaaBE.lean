import Derived.Test.YtifefpeefcjabaaBD
namespace Go.Proofs.Ytifefpeefcjabaa
open Go.RowKit Go.Maps
set_option linter.unusedVariables false
set_option maxRecDepth 100000

theorem infoPtr : (Try.prog.info? 78).map (fun i => (i.zero, i.size, i.bytes)) = some (some (.pointer none), 1, 8) := by kernel_rfl
/-- a row of pointers of our own -/
def pcells (bs : List Nat) : List Value := bs.map ptr
def OwnP (C : Nat) (w : World) (v : Value) (bs : List Nat) : Prop := w.ownsRow C 78 1 v bs.length (pcells bs)
theorem OwnP.snoc {C : Nat} {w : World} {v : Value} {bs : List Nat} {b : Nat} (h : w.ownsRow C 78 1 v (bs.length + 1) (pcells bs ++ [ptr b])) : OwnP C w v (bs ++ [b]) := by
  unfold OwnP
  have e : pcells (bs ++ [b]) = pcells bs ++ [ptr b] := by simp [pcells]
  rw [List.length_append, e]
  exact h
theorem OwnP.slice {C : Nat} {w : World} {v : Value} {bs : List Nat} (h : OwnP C w v bs) : ∃ a c, v = .slice a bs.length c := by
  rcases h.2 with ⟨rfl, h2⟩ | ⟨g, cap, cur, rfl, _⟩
  · exact ⟨none, 0, by rw [h2]⟩
  · exact ⟨_, _, rfl⟩
def nat (bs : List Nat) (i : Nat) : Nat := bs.getD i 0
theorem OwnP.cell {C : Nat} {w : World} {a : Option Addr} {n c : Nat} {bs : List Nat} (h : OwnP C w (.slice a n c) bs) {i : Nat} (hi : i < bs.length) : ∃ g, a = some ⟨g, 0, none⟩ ∧ w.cell? ⟨g, i, none⟩ = some (ptr (nat bs i)) := by
  obtain ⟨h1, h2⟩ := h
  rcases h2 with ⟨h2, h3⟩ | ⟨g, cap, cur, hv, hg, hh, hc, hm, hs, ht⟩
  · omega
  · simp only [Value.slice.injEq] at hv
    refine ⟨g, hv.1, ?_⟩
    have e : (cur.toList.take (bs.length * 1))[i]? = (pcells bs)[i]? := by rw [ht]
    rw [List.getElem?_take_of_lt (by omega), Array.getElem?_toList] at e
    simp [World.cell?, hh, e, pcells, nat, List.getD, hi]
theorem OwnP.next {C : Nat} {w w' : World} {v : Value} {bs : List Nat} (h : OwnP C w v bs) (k : Nx w w') : OwnP C w' v bs := by
  obtain ⟨h1, h2⟩ := h
  refine ⟨h1, ?_⟩
  rcases h2 with h2 | ⟨g, cap, cur, hv, hg, hh, r⟩
  · exact Or.inl h2
  · exact Or.inr ⟨g, cap, cur, hv, hg, (k.block g (Array.getElem?_eq_some_iff.1 hh).1).trans hh, r⟩

set_option maxHeartbeats 2000000 in
theorem put_any (q C : Nat) (v : Value) (bs : List Nat) (tk : Int) (b : Nat) (w : World) (hq : Blk w q #[v, .int .i64 tk]) (ho : OwnP C w v bs) (hC : q < C) (hl : bs.length ≤ 100000) (hz : C ≤ w.heap.size) :
    Calls Try.prog 70 #[ptr q, ptr b] w fun r w' => ∃ x v', r = .returned x ∧ Blk w' q #[v', .int .i64 tk] ∧ OwnP C w' v' (bs ++ [b]) ∧ (v'.ownBlock = v.ownBlock ∨ v'.ownBlock = some (w.heap.size + 1)) ∧ But (some q) v.ownBlock w w' := by
  obtain ⟨ii, hi, hz0, hz1, hz2⟩ := info_parts infoPtr
  have HQ : Hid (Blk w q #[v, .int .i64 tk]) := hq
  have HO : Hid (OwnP C w v bs) := ho
  obtain ⟨av, cv, hvs⟩ := ho.slice
  generalize hbl : bs.length = n at *
  have HBL : Hid (bs.length = n) := hbl
  subst hvs
  have k0 : w.cell? ⟨q, 0, none⟩ = some (.slice av n cv) := hq.cell (i := 0) rfl
  clear hq ho hbl
  unfold ptr
  go_enter Try.func70, Try.ntmps70
  go_wp2_with (at_builtin; refine wpList_append_own_at _ rfl _ _ 64 rfl C 78 ii (.pointer none) 1 8 Try.underlying64 hi hz0 hz1 hz2 rfl (by decide) _ _ _ rfl (World.ownsRow.alloc HO.out _) ⟨w.heap.size, 0, none⟩ 1 1 [ptr b] rfl rfl (fun j u hj => new_cells w _ _ _ rfl j u hj) ?c2 ?c3 ?c4 ?c5 ?_)
  case c2 => intro u hu; simp at hu; subst hu; rfl
  case c3 => rw [HBL.out]; unfold maxLen; omega
  case c4 => rw [HBL.out]; omega
  case c5 => simp; omega
  intro v7 w7 hown hgrow _ hat
  have HQ7 := (HQ.out.alloc (.cells #[ptr b] 78)).grownB hgrow (fun e => by have := (own_lt HO.out q e.symm).1; omega)
  have HO7 : Hid (OwnP C (w7.setCell ⟨q, 0, none⟩ v7) v7 (bs ++ [b])) := own_store (OwnP.snoc hown) hC 0 _
  have HB7 : Hid (Blk (w7.setCell ⟨q, 0, none⟩ v7) q #[v7, .int .i64 tk]) := HQ7.set 0 _
  have HW7 : Hid (But (some q) (Value.slice av n cv).ownBlock w (w7.setCell ⟨q, 0, none⟩ v7)) := But.set ((But.of_nx (box1 w _)).grow hgrow (fun g hg => Or.inr hg)) rfl _
  have HAT : Hid (v7.ownBlock = (Value.slice av n cv).ownBlock ∨ v7.ownBlock = some (w.heap.size + 1)) := by have := hat; unfold Hid; simpa using this
  obtain ⟨a7, c7, hv7⟩ := HO7.out.slice
  generalize (bs ++ [b]).length = m7 at hv7
  subst hv7
  have k7 : w7.cell? ⟨q, 0, none⟩ = some (.slice av n cv) := HQ7.cell (i := 0) rfl
  have z7 := HQ7.frozen 0
  clear hown hgrow hat HQ7
  go_wp2
  refine bodyPost_end (v := .tuple #[]) (by simp [results, Try.results70, go_sem]) rfl ⟨_, _, rfl, HB7.out, HO7.out, HAT.out, HW7.out⟩

set_option maxHeartbeats 2000000 in
theorem take_none (q C : Nat) (v : Value) (bs : List Nat) (w : World) (hq : Blk w q #[v, .int .i64 (bs.length : Int)]) (ho : OwnP C w v bs) :
    Calls Try.prog 71 #[ptr q] w fun r w' => r = .returned (.tuple #[.pointer none, .bool false]) ∧ Nx w w' := by
  obtain ⟨av, cv, hvs⟩ := ho.slice
  generalize hbl : bs.length = n at *
  subst hvs
  have k0 : w.cell? ⟨q, 0, none⟩ = some (.slice av n cv) := hq.cell (i := 0) rfl
  have k1 : w.cell? ⟨q, 1, none⟩ = some (.int .i64 (n : Int)) := hq.cell (i := 1) rfl
  have hd : ((n : Int) == (n : Int)) = true := by simp
  clear hq ho hbl
  unfold ptr
  go_enter Try.func71, Try.ntmps71
  go_wp2
  go_quiet (fail)
  go_wp2
  refine bodyPost_ret (v := .tuple #[.pointer none, .bool false]) (by simp [results, Try.results71, go_sem]) rfl ⟨rfl, ⟨rfl, rfl, rfl, Nat.le_refl _, fun _ _ => rfl⟩⟩
set_option maxHeartbeats 2000000 in
theorem take_some (q C tk : Nat) (v : Value) (bs : List Nat) (w : World) (hq : Blk w q #[v, .int .i64 (tk : Int)]) (ho : OwnP C w v bs) (hC : q < C) (ht : tk < bs.length) (hl : bs.length ≤ 100000) :
    Calls Try.prog 71 #[ptr q] w fun r w' => r = .returned (.tuple #[ptr (nat bs tk), .bool true]) ∧ Blk w' q #[v, .int .i64 ((tk : Int) + 1)] ∧ But (some q) none w w' := by
  have HQ : Hid (Blk w q #[v, .int .i64 (tk : Int)]) := hq
  obtain ⟨av, cv, hvs⟩ := ho.slice
  generalize hbl : bs.length = n at *
  subst hvs
  obtain ⟨g, hag, hcg⟩ := ho.cell (i := tk) (by omega)
  subst hag
  have hgq : g ≠ q := fun e => by
    have := (own_lt ho g rfl).1
    omega
  have k0 : w.cell? ⟨q, 0, none⟩ = some (.slice (some ⟨g, 0, none⟩) n cv) := hq.cell (i := 0) rfl
  have k1 : w.cell? ⟨q, 1, none⟩ = some (.int .i64 (tk : Int)) := hq.cell (i := 1) rfl
  have z1 := hq.frozen 1
  have hd : ((tk : Int) == (n : Int)) = false := by simp; omega
  have htn : (tk : Int) < n := by omega
  have hwt : IntKind.i64.wrap ((tk : Int) + 1) = (tk : Int) + 1 := by rw [IntKind.wrap_i64]; omega
  have hws := wrapJ tk (by omega)
  clear hq hbl
  unfold ptr at hcg ⊢
  go_enter Try.func71, Try.ntmps71
  go_wp2
  go_quiet (fail)
  generalize hwq : World.drewN w nq = wq at *
  have HN : Hid (Nx w wq) := by unfold Hid; rw [← hwq]; exact ⟨rfl, rfl, rfl, Nat.le_refl _, fun _ _ => rfl⟩
  have BQ := HQ.out.next HN.out
  have HBQ : Hid (Blk wq q #[.slice (some ⟨g, 0, none⟩) n cv, .int .i64 (tk : Int)]) := BQ
  have j1 : wq.cell? ⟨q, 1, none⟩ = some (.int .i64 (tk : Int)) := BQ.cell (i := 1) rfl
  have y1 := BQ.frozen 1
  have B2 := BQ.set 1 (.int .i64 ((tk : Int) + 1))
  have HB2 : Hid (Blk (wq.setCell ⟨q, 1, none⟩ (.int .i64 ((tk : Int) + 1))) q #[.slice (some ⟨g, 0, none⟩) n cv, .int .i64 ((tk : Int) + 1)]) := B2
  have m0 : (wq.setCell ⟨q, 1, none⟩ (.int .i64 ((tk : Int) + 1))).cell? ⟨q, 0, none⟩ = some (.slice (some ⟨g, 0, none⟩) n cv) := HB2.out.cell (i := 0) rfl
  have m1 : (wq.setCell ⟨q, 1, none⟩ (.int .i64 ((tk : Int) + 1))).cell? ⟨q, 1, none⟩ = some (.int .i64 ((tk : Int) + 1)) := HB2.out.cell (i := 1) rfl
  have m2 : (wq.setCell ⟨q, 1, none⟩ (.int .i64 ((tk : Int) + 1))).cell? ⟨g, tk, none⟩ = some (.pointer (some ⟨nat bs tk, 0, none⟩)) := (World.cell?_of_block (w := wq) (Below.heap_setCell _ _ _ _ hgq)).trans (cellq HN.out hcg)
  have HW : Hid (But (some q) none w (wq.setCell ⟨q, 1, none⟩ (.int .i64 ((tk : Int) + 1)))) := (But.of_nx HN.out).set rfl _
  clear hwq k0 k1 z1 hcg BQ B2 hd
  go_upto_region 5 with fail
  generalize hw2 : wq.setCell ⟨q, 1, none⟩ (.int .i64 ((tk : Int) + 1)) = w2 at *
  clear hw2 j1 y1
  go_wp2
  go_quiet (fail)
  go_wp2
  refine bodyPost_ret (v := .tuple #[.pointer (some ⟨nat bs tk, 0, none⟩), .bool true]) (by simp [results, Try.results71, go_sem]) rfl ⟨rfl, HB2.out, ⟨HW.out.os, HW.out.tape, HW.out.output, HW.out.size, HW.out.block⟩⟩
end Go.Proofs.Ytifefpeefcjabaa
