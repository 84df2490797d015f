import Derived.Test.YtifefpeefcjabaaBA
namespace Go.Proofs.Ytifefpeefcjabaa
open Go.RowKit Go.Maps
set_option linter.unusedVariables false
set_option maxRecDepth 100000

theorem own_set {w : World} {P : Program} {k : TypeId} {R : Value → Option (DataW Unit × List MemPlace)} {mb n b i : Nat} {D : DataW Unit} (h : w.ownsMap P k R mb n D) (hne : mb ≠ b) (v : Value) : (w.setCell ⟨b, i, none⟩ v).ownsMap P k R mb n D := by
  obtain ⟨es, clock, hb, r⟩ := h
  exact ⟨es, clock, (Below.heap_setCell _ _ _ _ hne).trans hb, r⟩
theorem Blk.grownB {w w' : World} {o : Option Nat} {b : Nat} {cs : Array Value} (h : Blk w b cs) (k : w.grownBy w' o) (hn : some b ≠ o) : Blk w' b cs := by
  have hl := h.lt
  obtain ⟨t, hb⟩ := h
  exact ⟨t, (k.block b hl hn).trans hb⟩
theorem But.of_nx {o o' : Option Nat} {w w' : World} (h : Nx w w') : But o o' w w' := ⟨h.os, h.tape, h.output, h.size, fun b hb _ _ => h.block b hb⟩
theorem But.set {o o' : Option Nat} {w w' : World} (h : But o o' w w') {g i : Nat} (hg : o = some g) (u : Value) : But o o' w (w'.setCell ⟨g, i, none⟩ u) :=
  ⟨h.os, h.tape, h.output, by simpa [World.setCell] using h.size, fun b hb hn hn' => (Below.heap_setCell _ _ _ _ (fun e => hn (by rw [hg, e]))).trans (h.block b hb hn hn')⟩
theorem But.alloc {o o' : Option Nat} {w w' : World} (h : But o o' w w') (x : Obj) : But o o' w (w'.alloc x) :=
  ⟨h.os, h.tape, h.output, by rw [size_alloc']; have := h.size; omega, fun b hb hn hn' => ((box1 w' x).block b (by have := h.size; omega)).trans (h.block b hb hn hn')⟩
theorem size_set' (w : World) (a : Addr) (v : Value) : (w.setCell a v).heap.size = w.heap.size := by simp [World.setCell]
theorem But.grow {o o' r : Option Nat} {w w' w2 : World} (h : But o o' w w') (k : w'.grownBy w2 r) (hr : ∀ g, r = some g → w.heap.size ≤ g ∨ o' = some g) : But o o' w w2 :=
  ⟨k.os.trans h.os, k.tape.trans h.tape, k.output.trans h.output, Nat.le_trans h.size k.size, fun b hb hn hn' => (k.block b (Nat.lt_of_lt_of_le hb h.size) (fun e => by
    rcases hr b e.symm with h1 | h1
    · omega
    · exact hn' h1.symm)).trans (h.block b hb hn hn')⟩
theorem newRoot_any (w : World) : Calls Try.prog 64 #[] w fun r w' => r = .returned (ptr w.heap.size) ∧ Blk w' w.heap.size (node 0 0 (-1) (-1) false (.pointer none) (.pointer none) (.map none)) ∧ Nx w w' := by
  go_enter Try.func64, Try.ntmps64
  go_wp2
  go_ret
  exact ⟨rfl, Blk.new w _ _ _ rfl, box1 _ _⟩
theorem numberOf_nil (w : World) : Calls Try.prog 48 #[.pointer none] w fun r w' => r = .returned (.int .i64 (-1)) ∧ w' = w := by
  go_enter Try.func48, Try.ntmps48
  go_wp2
  go_ret
  exact ⟨rfl, rfl⟩
theorem numberOf_any (b : Nat) (num len last must : Int) (bad : Bool) (par fl m : Value) (w : World) (h : Blk w b (node num len last must bad par fl m)) : Calls Try.prog 48 #[ptr b] w fun r w' => r = .returned (.int .i64 num) ∧ w' = w := by
  have k0 : w.cell? ⟨b, 0, none⟩ = some (.int .i64 num) := h.cell (i := 0) rfl
  unfold ptr
  go_enter Try.func48, Try.ntmps48
  go_wp2
  go_ret
  exact ⟨rfl, rfl⟩

set_option maxHeartbeats 2000000 in
theorem grow_nil (b : Nat) (num len last must : Int) (bad : Bool) (par fl : Value) (e : Int) (w : World) (hb : Blk w b (node num len last must bad par fl (.map none))) (hl0 : 0 ≤ len) (hl1 : len ≤ 100000) (hw : (Lit.int .i64 e).wf = true) :
    Calls Try.prog 65 #[ptr b, .int .i64 e] w fun r w' => r = .returned (ptr w.heap.size) ∧ Blk w' w.heap.size (node 0 (len + 1) e (-1) false (ptr b) (.pointer none) (.map none)) ∧ Blk w' b (node num len last must bad par fl (.map (some (w.heap.size + 1)))) ∧ MK w' (.map (some (w.heap.size + 1))) [(e, w.heap.size)] ∧ But (some b) none w w' := by
  have HB : Hid (Blk w b (node num len last must bad par fl (.map none))) := hb
  have k1 : w.cell? ⟨b, 1, none⟩ = some (.int .i64 len) := hb.cell (i := 1) rfl
  have hlt := hb.lt
  have hwl : IntKind.i64.wrap (len + 1) = len + 1 := by rw [IntKind.wrap_i64]; omega
  unfold ptr
  go_enter Try.func65, Try.ntmps65
  go_upto_region 2 with fail
  have B1 := HB.out.alloc (.cells #[.int .i64 0, .int .i64 (len + 1), .int .i64 e, .int .i64 (-1), .bool false, .pointer (some ⟨b, 0, none⟩), .pointer none, .map none] 82)
  have HB1 : Hid (Blk (w.alloc (.cells #[.int .i64 0, .int .i64 (len + 1), .int .i64 e, .int .i64 (-1), .bool false, .pointer (some ⟨b, 0, none⟩), .pointer none, .map none] 82)) b (node num len last must bad par fl (.map none))) := B1
  have BC := Blk.new w #[.int .i64 0, .int .i64 (len + 1), .int .i64 e, .int .i64 (-1), .bool false, .pointer (some ⟨b, 0, none⟩), .pointer none, .map none] 82 _ rfl
  have HBC : Hid (Blk (w.alloc (.cells #[.int .i64 0, .int .i64 (len + 1), .int .i64 e, .int .i64 (-1), .bool false, .pointer (some ⟨b, 0, none⟩), .pointer none, .map none] 82)) w.heap.size (node 0 (len + 1) e (-1) false (ptr b) (.pointer none) (.map none))) := BC
  have HN1 : Hid (Nx w (w.alloc (.cells #[.int .i64 0, .int .i64 (len + 1), .int .i64 e, .int .i64 (-1), .bool false, .pointer (some ⟨b, 0, none⟩), .pointer none, .map none] 82))) := box1 _ _
  clear B1 BC hb k1
  generalize hw1 : w.alloc (.cells #[.int .i64 0, .int .i64 (len + 1), .int .i64 e, .int .i64 (-1), .bool false, .pointer (some ⟨b, 0, none⟩), .pointer none, .map none] 82) = w1 at *
  have hz1 : w1.heap.size = w.heap.size + 1 := by rw [← hw1]; exact size_alloc' w _
  have HZ1 : Hid (w1.heap.size = w.heap.size + 1) := hz1
  clear hw1 hz1
  have k7 : w1.cell? ⟨b, 7, none⟩ = some (.map none) := HB1.out.cell (i := 7) rfl
  have z7 := HB1.out.frozen 7
  have hbl : b < w1.heap.size := HB1.out.lt
  have q53 : ∀ (w : World) (r : Option Nat), (binOp .eql 80 (.map r) (.map none)).run Try.prog w = .ok (.bool r.isNone) w := fun w r => run_eql_map_nil w _ _ _ r Try.underlying80
  have qmk : ∀ w : World, (Instr.makeMap 80 none).run Try.prog w = .ok (.map (some w.heap.size)) (w.alloc (.map #[] 0)) := fun w => run_makeMap _ w
  have B2 := HB1.out.alloc (.map #[] 0)
  have k7' : (w1.alloc (.map #[] 0)).cell? ⟨b, 7, none⟩ = some (.map none) := B2.cell (i := 7) rfl
  have z7' := B2.frozen 7
  have HB3 : Hid (Blk ((w1.setCell ⟨b, 7, none⟩ (.map (some w1.heap.size))).alloc (.map #[] 0)) b (node num len last must bad par fl (.map (some w1.heap.size)))) := (HB1.out.set 7 _).alloc _
  have HM3 : Hid (((w1.setCell ⟨b, 7, none⟩ (.map (some w1.heap.size))).alloc (.map #[] 0)).ownsMap Try.prog 2 ptrR w1.heap.size 0 (kidsD [])) := by
    have := World.ownsMap_made (w1.setCell ⟨b, 7, none⟩ (.map (some w1.heap.size))) Try.prog 2 ptrR
    rw [size_set'] at this
    exact this
  have HC3 : Hid (Blk ((w1.setCell ⟨b, 7, none⟩ (.map (some w1.heap.size))).alloc (.map #[] 0)) w.heap.size (node 0 (len + 1) e (-1) false (ptr b) (.pointer none) (.map none))) := (HBC.out.setOther (by omega) _ _).alloc _
  have HW3 : Hid (But (some b) none w ((w1.setCell ⟨b, 7, none⟩ (.map (some w1.heap.size))).alloc (.map #[] 0))) := ((But.of_nx HN1.out).set rfl _).alloc _
  have k8 : ((w1.setCell ⟨b, 7, none⟩ (.map (some w1.heap.size))).alloc (.map #[] 0)).cell? ⟨b, 7, none⟩ = some (.map (some w1.heap.size)) := HB3.out.cell (i := 7) rfl
  clear B2
  go_upto_region 4 with fail
  clear k7 z7 k7' z7' qmk
  generalize hw3 : (w1.setCell ⟨b, 7, none⟩ (.map (some w1.heap.size))).alloc (.map #[] 0) = w3 at *
  clear hw3
  go_wp2_with (at_mapUpdate; refine wpList_mapUpdate_own _ rfl _ _ _ 80 rfl 2 78 keyI Try.underlying80 ptrR w1.heap.size 0 (kidsD []) rfl HM3.out (by simp [maxLen]) (.int .i64 e) (.pointer (some ⟨w.heap.size, 0, none⟩)) (.int .i64 e) rfl rfl (keyOf_int_mk Try.underlying2 hw) (.lit (.int .i64 (w.heap.size : Int))) [] rfl ?_)
  intro w4 hown hg
  have HM4 : Hid (MK w4 (.map (some w1.heap.size)) [(e, w.heap.size)]) := Or.inr ⟨_, rfl, by rw [kids_put _ (by simp)] at hown; exact hown⟩
  have HC4 : Hid (Blk w4 w.heap.size (node 0 (len + 1) e (-1) false (ptr b) (.pointer none) (.map none))) := HC3.out.grownB hg (by have := HZ1.out; intro e; have := Option.some.inj e; omega)
  have HB4 : Hid (Blk w4 b (node num len last must bad par fl (.map (some w1.heap.size)))) := HB3.out.grownB hg (by intro e; have := Option.some.inj e; omega)
  have HW4 : Hid (But (some b) none w w4) := HW3.out.grow hg (fun g hg => Or.inl (by have := HZ1.out; have := Option.some.inj hg; omega))
  clear hown hg k8
  go_wp2
  go_ret
  rw [HZ1.out] at HM4 HB4
  exact ⟨rfl, HC4.out, HB4.out, HM4.out, HW4.out⟩
set_option maxHeartbeats 2000000 in
theorem grow_some (b mb : Nat) (num len last must : Int) (bad : Bool) (par fl : Value) (ks : List (Int × Nat)) (e : Int) (w : World) (hb : Blk w b (node num len last must bad par fl (.map (some mb)))) (hm : w.ownsMap Try.prog 2 ptrR mb ks.length (kidsD ks)) (he : ∀ p ∈ ks, p.1 < e) (hks : ks.length ≤ 4000) (hl0 : 0 ≤ len) (hl1 : len ≤ 100000) (hw : (Lit.int .i64 e).wf = true) :
    Calls Try.prog 65 #[ptr b, .int .i64 e] w fun r w' => r = .returned (ptr w.heap.size) ∧ Blk w' w.heap.size (node 0 (len + 1) e (-1) false (ptr b) (.pointer none) (.map none)) ∧ Blk w' b (node num len last must bad par fl (.map (some mb))) ∧ MK w' (.map (some mb)) (ks ++ [(e, w.heap.size)]) ∧ But none (some mb) w w' := by
  have HB : Hid (Blk w b (node num len last must bad par fl (.map (some mb)))) := hb
  have HM : Hid (w.ownsMap Try.prog 2 ptrR mb ks.length (kidsD ks)) := hm
  have HE : Hid (∀ p ∈ ks, p.1 < e) := he
  have HNE : Hid (b ≠ mb) := by
    intro e0
    subst e0
    obtain ⟨t, h1⟩ := hb
    obtain ⟨es, clock, h2, _⟩ := hm
    rw [h1] at h2
    simp at h2
  have HML : Hid (mb < w.heap.size) := hm.lt
  have k1 : w.cell? ⟨b, 1, none⟩ = some (.int .i64 len) := hb.cell (i := 1) rfl
  have hlt := hb.lt
  have hwl : IntKind.i64.wrap (len + 1) = len + 1 := by rw [IntKind.wrap_i64]; omega
  clear hm he
  unfold ptr
  go_enter Try.func65, Try.ntmps65
  go_upto_region 2 with fail
  have HB1 : Hid (Blk (w.alloc (.cells #[.int .i64 0, .int .i64 (len + 1), .int .i64 e, .int .i64 (-1), .bool false, .pointer (some ⟨b, 0, none⟩), .pointer none, .map none] 82)) b (node num len last must bad par fl (.map (some mb)))) := HB.out.alloc _
  have HBC : Hid (Blk (w.alloc (.cells #[.int .i64 0, .int .i64 (len + 1), .int .i64 e, .int .i64 (-1), .bool false, .pointer (some ⟨b, 0, none⟩), .pointer none, .map none] 82)) w.heap.size (node 0 (len + 1) e (-1) false (ptr b) (.pointer none) (.map none))) := Blk.new w _ 82 _ rfl
  have HN1 : Hid (Nx w (w.alloc (.cells #[.int .i64 0, .int .i64 (len + 1), .int .i64 e, .int .i64 (-1), .bool false, .pointer (some ⟨b, 0, none⟩), .pointer none, .map none] 82))) := box1 _ _
  have HM1 : Hid ((w.alloc (.cells #[.int .i64 0, .int .i64 (len + 1), .int .i64 e, .int .i64 (-1), .bool false, .pointer (some ⟨b, 0, none⟩), .pointer none, .map none] 82)).ownsMap Try.prog 2 ptrR mb ks.length (kidsD ks)) := HM.out.alloc _
  clear hb k1
  generalize hw1 : w.alloc (.cells #[.int .i64 0, .int .i64 (len + 1), .int .i64 e, .int .i64 (-1), .bool false, .pointer (some ⟨b, 0, none⟩), .pointer none, .map none] 82) = w1 at *
  clear hw1
  have k7 : w1.cell? ⟨b, 7, none⟩ = some (.map (some mb)) := HB1.out.cell (i := 7) rfl
  have q53 : ∀ (w : World) (r : Option Nat), (binOp .eql 80 (.map r) (.map none)).run Try.prog w = .ok (.bool r.isNone) w := fun w r => run_eql_map_nil w _ _ _ r Try.underlying80
  go_wp2_with (at_mapUpdate; refine wpList_mapUpdate_own _ rfl _ _ _ 80 rfl 2 78 keyI Try.underlying80 ptrR mb ks.length (kidsD ks) rfl HM1.out (by unfold maxLen; omega) (.int .i64 e) (.pointer (some ⟨w.heap.size, 0, none⟩)) (.int .i64 e) rfl rfl (keyOf_int_mk Try.underlying2 hw) (.lit (.int .i64 (w.heap.size : Int))) [] rfl ?_)
  intro w4 hown hg
  have HM4 : Hid (MK w4 (.map (some mb)) (ks ++ [(e, w.heap.size)])) := Or.inr ⟨_, rfl, by rw [kids_put _ HE.out] at hown; rw [List.length_append]; exact hown⟩
  have HC4 : Hid (Blk w4 w.heap.size (node 0 (len + 1) e (-1) false (ptr b) (.pointer none) (.map none))) := HBC.out.grownB hg (by intro e; have := Option.some.inj e; have := HML.out; omega)
  have HB4 : Hid (Blk w4 b (node num len last must bad par fl (.map (some mb)))) := HB1.out.grownB hg (by intro e; exact HNE.out (Option.some.inj e))
  have HW4 : Hid (But none (some mb) w w4) := (But.of_nx HN1.out).grow hg (fun g hg => Or.inr hg)
  clear hown hg k7
  go_wp2
  go_ret
  exact ⟨rfl, HC4.out, HB4.out, HM4.out, HW4.out⟩
/-- a node grows a child -/
theorem grow_any (b : Nat) (num len last must : Int) (bad : Bool) (par fl m : Value) (ks : List (Int × Nat)) (e : Int) (w : World) (hb : Blk w b (node num len last must bad par fl m)) (hm : MK w m ks) (he : ∀ p ∈ ks, p.1 < e) (hks : ks.length ≤ 4000) (hl0 : 0 ≤ len) (hl1 : len ≤ 100000) (hw : (Lit.int .i64 e).wf = true) :
    Calls Try.prog 65 #[ptr b, .int .i64 e] w fun r w' => ∃ m', r = .returned (ptr w.heap.size) ∧ Blk w' w.heap.size (node 0 (len + 1) e (-1) false (ptr b) (.pointer none) (.map none)) ∧ Blk w' b (node num len last must bad par fl m') ∧ MK w' m' (ks ++ [(e, w.heap.size)]) ∧ (mapBlk m' = mapBlk m ∨ mapBlk m' = some (w.heap.size + 1)) ∧ But (some b) (mapBlk m) w w' := by
  rcases hm with ⟨rfl, rfl⟩ | ⟨mb, rfl, hm⟩
  · refine (grow_nil b num len last must bad par fl e w hb hl0 hl1 hw).mono ?_
    rintro r w' ⟨h1, h2, h3, h4, h5⟩
    exact ⟨_, h1, h2, h3, h4, Or.inr rfl, h5⟩
  · refine (grow_some b mb num len last must bad par fl ks e w hb hm he hks hl0 hl1 hw).mono ?_
    rintro r w' ⟨h1, h2, h3, h4, h5⟩
    exact ⟨_, h1, h2, h3, h4, Or.inl rfl, ⟨h5.os, h5.tape, h5.output, h5.size, fun x hx _ hn => h5.block x hx (by simp) hn⟩⟩
end Go.Proofs.Ytifefpeefcjabaa
