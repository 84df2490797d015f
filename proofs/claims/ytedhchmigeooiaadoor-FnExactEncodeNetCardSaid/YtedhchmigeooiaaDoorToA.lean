import Derived.Test.YtedhchmigeooiaaDoorBase
import Derived.Deep.OwnRows
namespace Go.Proofs.YtedhchmigeooiaaDoor
open Go.RowKit
set_option linter.unusedVariables false

/-- block b holds cells, none of them frozen -/
def Opn (w : World) (b : Nat) : Prop := ∃ cs t, w.heap[b]? = some (.cells cs t (0, 0))
/-- what is new is open -/
structure Nu (w w' : World) : Prop where
  nx : Nx w w'
  op : ∀ b, w.heap.size ≤ b → b < w'.heap.size → Opn w' b
theorem Nu.size {w w' : World} (h : Nu w w') : w.heap.size ≤ w'.heap.size := h.nx.size
theorem Nu.keeps {w w' : World} (h : Nu w w') (B : Nat) : Keeps B w w' := h.nx.keeps B
theorem Opn.next {w w' : World} {b : Nat} (h : Opn w b) (k : Nx w w') : Opn w' b := by
  obtain ⟨cs, t, h⟩ := h
  exact ⟨cs, t, (k.block b (Array.getElem?_eq_some_iff.1 h).1).trans h⟩
theorem Opn.setCell {w : World} {b : Nat} (h : Opn w b) (p : Addr) (v : Value) : Opn (w.setCell p v) b := by
  obtain ⟨cs, t, h⟩ := h
  by_cases e : p.block = b
  · exact ⟨if p.spot.isSome then cs else cs.setIfInBounds p.off v, t, by simp [World.setCell, Array.getElem?_modify, h, e]⟩
  · exact ⟨cs, t, (Below.heap_setCell _ _ _ _ (fun h' => e h'.symm)).trans h⟩
theorem Nu.refl (w : World) : Nu w w := ⟨Nx.refl w, fun b h h' => absurd h' (by omega)⟩
theorem Nu.trans {a b c : World} (h : Nu a b) (k : Nu b c) : Nu a c := by
  refine ⟨h.nx.trans k.nx, fun x hx hx' => ?_⟩
  by_cases e : x < b.heap.size
  · exact (h.op x hx e).next k.nx
  · exact k.op x (by omega) hx'
theorem Nu.alloc {a b : World} (h : Nu a b) (cs : Array Value) (t : TypeId) : Nu a (b.alloc (.cells cs t)) := by
  refine ⟨h.nx.alloc _, fun x hx hx' => ?_⟩
  by_cases e : x < b.heap.size
  · exact (h.op x hx e).next (box1 _ _)
  · have e' : x = b.heap.size := by simp at hx'; omega
    subst e'
    exact ⟨cs, t, by show (b.heap.push _)[b.heap.size]? = _; simp⟩
theorem Nu.setCell {a b : World} (h : Nu a b) {p : Addr} (hp : a.heap.size ≤ p.block) (v : Value) : Nu a (b.setCell p v) :=
  ⟨Below.setCell h.nx hp v, fun x hx hx' => (h.op x hx (by simpa [World.setCell] using hx')).setCell p v⟩
theorem ubox1 (w : World) (cs : Array Value) (t : TypeId) : Nu w (w.alloc (.cells cs t)) := (Nu.refl w).alloc cs t
theorem ubox2 (w : World) (cs : Array Value) (t : TypeId) (cs' : Array Value) (t' : TypeId) : Nu w ((w.alloc (.cells cs t)).alloc (.cells cs' t')) := (ubox1 w cs t).alloc cs' t'

theorem info2 : (Tryd.prog.info? 2).map (fun i => (i.zero, i.size, i.bytes)) = some (some (.int .i64 0), 1, 8) := by kernel_rfl

/-- the first k cells of the new row hold the list's -/
def RowTo (w : World) (g n k : Nat) (zs : List Int) : Prop := ∃ f, w.rowIs g 2 n f ∧ ∀ i, i < k → f i = .int .i64 (iat zs i)
theorem RowTo.set {w : World} {g n k : Nat} {zs : List Int} (h : RowTo w g n k zs) : RowTo (w.setCell ⟨g, k, none⟩ (.int .i64 (iat zs k))) g n (k + 1) zs := by
  obtain ⟨f, h1, h2⟩ := h
  refine ⟨_, h1.set k _, fun i hi => ?_⟩
  by_cases e : i = k
  · subst e; simp
  · simp [e]; exact h2 i (by omega)
theorem RowTo.held {w : World} {g n : Nat} {zs : List Int} (hn : zs.length = n) (hm : n ≤ maxLen) (h : RowTo w g n n zs) : HInts g w (.slice (some ⟨g, 0, none⟩) n n) zs := by
  obtain ⟨f, h1, h2⟩ := h
  subst hn
  refine ⟨_, _, rfl, hm, fun h0 => ⟨g, 0, rfl, Nat.le_refl _, h1.lt, fun i hi => ?_⟩⟩
  show w.cell? ⟨g, 0 + i, none⟩ = _
  rw [Nat.zero_add, h1.cell hi, h2 i hi]

set_option maxHeartbeats 400000 in
theorem toInts_any (B : Nat) (v : Value) (zs : List Int) (w : World) (h0 : HInts B w v zs) (hs : zs.length ≤ 1048576) :
    Calls Tryd.prog 21 #[v] w fun e w' => (∃ a' n' c', e = .returned (.slice a' n' c') ∧ HInts w.heap.size w' (.slice a' n' c') zs) ∧ Nu w w' := by
  obtain ⟨a, cap, rfl, hn, hk⟩ := h0
  generalize hz : zs.length = n at *
  have HZ : Hid (zs.length = n) := hz
  have HM : Hid (n ≤ maxLen) := hn
  clear hz hn
  have hmk := run_make_row' (P := Tryd.prog) 22 2 (.int .i64 0) 8 Tryd.underlying22 info2 rfl .i64 .i64 n (by omega) (by omega)
  go_enter Tryd.func21, Tryd.ntmps21
  go_wp2
  go_loopw [4] (fun i wr => ∃ k : Nat, k ≤ n ∧ i = .int .i64 k ∧ Hid (RowTo wr w.heap.size n k zs) ∧ Hid (Nu w wr)) (fun i _ => n - (intOf i).toNat)
  case atStart => exact ⟨0, Nat.zero_le _, rfl, ⟨_, World.rowIs_made _ _ _ _, fun i hi => absurd hi (Nat.not_lt_zero _)⟩, ubox1 _ _ _⟩
  case round =>
    obtain ⟨k, hkn, rfl, HR, HN⟩ := hrel
    clear hmk
    by_cases hlt : k < n
    · obtain ⟨b, off, rfl, hB, hb, hc⟩ := hk (by omega)
      have c0 := cell_next HN.out.nx hb (hc k hlt)
      have hlt' : (k : Int) < n := by omega
      obtain ⟨f, hf, hf'⟩ := HR.out
      have r0 := hf.cell hlt
      have r1 := hf.frozen k
      clear hc hk hf hf'
      go_wp2
      go_roundw
      case rel => exact ⟨k + 1, by omega, by go_num, HR.out.set, Nu.setCell HN.out (Nat.le_refl _) _⟩
      case measure => simp [intOf]; omega
    · go_wp2
      go_ret
      have e : k = n := by omega
      subst e
      exact ⟨⟨_, _, _, rfl, HR.out.held HZ.out HM.out⟩, HN.out⟩
end Go.Proofs.YtedhchmigeooiaaDoor

namespace Go.Proofs.YtedhchmigeooiaaDoor
open Go.RowKit
set_option linter.unusedVariables false

theorem HInts.base {B B' : Nat} {w : World} {v : Value} {zs : List Int} (h : HInts B w v zs) (hB : B' ≤ B) : HInts B' w v zs :=
  HSlice.mono h hB (Nat.le_refl _) fun b off hb hs i hi hc => hc
/-- a store into a block below the base -/
theorem HInts.store {B : Nat} {w : World} {v : Value} {zs : List Int} (h : HInts B w v zs) {g o : Nat} (hg : g < B) (u : Value) : HInts B (w.setCell ⟨g, o, none⟩ u) v zs :=
  h.keep ⟨by simp [World.setCell], fun b hb _ o' => World.cell?_of_block (w := w) (Below.heap_setCell _ _ _ _ (by simp; omega))⟩

/-- block b holds these cells, none of them frozen -/
def Blk (w : World) (b : Nat) (cs : Array Value) : Prop := ∃ t, w.heap[b]? = some (.cells cs t (0, 0))
theorem Blk.lt {w : World} {b : Nat} {cs : Array Value} (h : Blk w b cs) : b < w.heap.size := by
  obtain ⟨t, h⟩ := h
  exact (Array.getElem?_eq_some_iff.1 h).1
theorem Blk.cell {w : World} {b : Nat} {cs : Array Value} (h : Blk w b cs) {i : Nat} {v : Value} (hi : cs[i]? = some v) : w.cell? ⟨b, i, none⟩ = some v := by
  obtain ⟨t, h⟩ := h
  simp [World.cell?, h, hi]
theorem Blk.frozen {w : World} {b : Nat} {cs : Array Value} (h : Blk w b cs) (i : Nat) : w.frozen? ⟨b, i, none⟩ = false := by
  obtain ⟨t, h⟩ := h
  simp [World.frozen?, h]
theorem Blk.next {w w' : World} {b : Nat} {cs : Array Value} (h : Blk w b cs) (k : Nx w w') : Blk w' b cs := by
  have hl := h.lt
  obtain ⟨t, h⟩ := h
  exact ⟨t, (k.block b hl).trans h⟩
theorem Blk.drew {w : World} {b : Nat} {cs : Array Value} (h : Blk w b cs) : Blk w.drew b cs := h
theorem Blk.new (w : World) (cs : Array Value) (t : TypeId) (n : Nat) (hn : n = w.heap.size) : Blk (w.alloc (.cells cs t)) n cs := by
  subst hn
  exact ⟨t, by show (w.heap.push _)[w.heap.size]? = _; simp⟩
theorem Blk.alloc {w : World} {b : Nat} {cs : Array Value} (h : Blk w b cs) (o : Obj) : Blk (w.alloc o) b cs := h.next (by exact Below.alloc (Below.refl _ _) (Nat.le_refl _) _)
theorem Blk.set {w : World} {b : Nat} {cs : Array Value} (h : Blk w b cs) (i : Nat) (v : Value) : Blk (w.setCell ⟨b, i, none⟩ v) b (cs.setIfInBounds i v) := by
  obtain ⟨t, h⟩ := h
  exact ⟨t, by simp [World.setCell, Array.getElem?_modify, h]⟩
theorem Blk.setOther {w : World} {b : Nat} {cs : Array Value} (h : Blk w b cs) {g : Nat} (hg : b ≠ g) (i : Nat) (v : Value) : Blk (w.setCell ⟨g, i, none⟩ v) b cs := by
  obtain ⟨t, h⟩ := h
  exact ⟨t, (Below.heap_setCell _ _ _ _ hg).trans h⟩

set_option maxHeartbeats 400000 in
theorem toWay_any (B : Nat) (id : Int) (both : Bool) (p q : Value) (ns ws : List Int) (w : World) (h0 : HInts B w p ns) (h1 : HInts B w q ws) (hs0 : ns.length ≤ 1048576) (hs1 : ws.length ≤ 1048576) :
    Calls Tryd.prog 44 #[.agg #[.int .i64 id, .bool both, p, q]] w fun e w' => (∃ a m c a' m' c', e = .returned (.agg #[.int .i64 id, .bool both, .slice a m c, .slice a' m' c']) ∧ HInts w.heap.size w' (.slice a m c) ns ∧ HInts w.heap.size w' (.slice a' m' c') ws) ∧ Nu w w' := by
  go_enter Tryd.func44, Tryd.ntmps44
  go_wp2_with fail
  refine (toInts_any B _ ns _ (h0.next (((box2 _ _ _).alloc _))) hs0).mono ?_
  rintro e w1 ⟨⟨a1, n1, c1, rfl, g1⟩, hu⟩
  have hx := hu.nx
  have HX : Hid (Nu w w1) := ((ubox2 _ _ _ _ _).alloc _ _).trans hu
  have BA : Blk w1 w.heap.size #[.int .i64 id, .bool both, p, q] := (((Blk.new w _ 71 _ rfl).alloc _).alloc _).next hx
  have BB : Blk w1 (w.heap.size + 1) #[.int .i64 0, .bool false, .slice none 0 0, .slice none 0 0] := ((Blk.new _ _ 50 _ (by simp)).alloc _).next hx
  have BC : Blk w1 (w.heap.size + 1 + 1) #[.int .i64 id, .bool both, .slice none 0 0, .slice none 0 0] := (Blk.new _ _ 50 _ (by simp)).next hx
  have G1 : Hid (HInts (w.heap.size + 3) w1 (.slice a1 n1 c1) ns) := g1.base (by simp)
  clear hx hu g1
  have k0 := BA.cell (i := 3) rfl
  have k1 := BC.cell (i := 2) rfl
  have k2 := BC.frozen 2
  have BC' := BC.set 2 (.slice a1 n1 c1)
  have BB' := BB.setOther (g := w.heap.size + 1 + 1) (by omega) 2 (.slice a1 n1 c1)
  have hz := BC.lt
  go_wp2_with fail
  have hy : Nu w (w1.setCell ⟨w.heap.size + 1 + 1, 2, none⟩ (.slice a1 n1 c1)) := Nu.setCell HX.out (by simp; omega) _
  refine (toInts_any B _ ws _ (h1.next hy.nx) hs1).mono ?_
  rintro e w2 ⟨⟨a2, n2, c2, rfl, g2⟩, hu2⟩
  have hx2 := hu2.nx
  have HX2 : Hid (Nu w w2) := hy.trans hu2
  have BC2 := BC'.next hx2
  have BB2 := BB'.next hx2
  have G2 : Hid (HInts (w.heap.size + 3) w2 (.slice a2 n2 c2) ws) := g2.base (by simp [World.setCell]; omega)
  have G1' : Hid (HInts (w.heap.size + 3) w2 (.slice a1 n1 c1) ns) := (G1.out.store (by omega) _).keep (hx2.keeps _)
  clear hx2 hu2 g2 G1 hy BA BB BC BC' BB' k0 k1 k2 hz
  have k0 := BC2.cell (i := 0) rfl
  have k1 := BC2.cell (i := 1) rfl
  have k2 := BC2.cell (i := 2) rfl
  have k3 := BC2.cell (i := 3) rfl
  have k4 := BC2.frozen 3
  have j0 := BB2.cell (i := 0) rfl
  have j1 := BB2.cell (i := 1) rfl
  have j2 := BB2.cell (i := 2) rfl
  have j3 := BB2.cell (i := 3) rfl
  have f0 := BB2.frozen 0
  have f1 := BB2.frozen 1
  have f2 := BB2.frozen 2
  have f3 := BB2.frozen 3
  go_wp2
  refine bodyPost_ret (v := .agg #[.int .i64 id, .bool both, .slice a1 n1 c1, .slice a2 n2 c2]) (by simp [results, Tryd.results44, go_sem, j0, j1, j2, j3]) rfl ⟨⟨a1, n1, c1, a2, n2, c2, rfl, ?_, ?_⟩, ?_⟩
  · exact (((((G1'.out.store (by omega) _).store (by omega) _).store (by omega) _).store (by omega) _).store (by omega) _).base (by omega)
  · exact (((((G2.out.store (by omega) _).store (by omega) _).store (by omega) _).store (by omega) _).store (by omega) _).base (by omega)
  · exact Nu.setCell (Nu.setCell (Nu.setCell (Nu.setCell (Nu.setCell HX2.out (by simp; omega) _) (by simp) _) (by simp) _) (by simp) _) (by simp) _
end Go.Proofs.YtedhchmigeooiaaDoor

namespace Go.Proofs.YtedhchmigeooiaaDoor
open Go.RowKit
set_option linter.unusedVariables false

set_option maxHeartbeats 400000 in
theorem toTurn_any (x : Tn) (w : World) :
    Calls Tryd.prog 46 #[.agg #[.int .i64 x.frm, .int .i64 x.to, .int .i64 x.cost]] w fun e w' => e = .returned (.agg #[.int .i64 x.frm, .int .i64 x.to, .int .i64 x.cost]) ∧ Nu w w' := by
  go_enter Tryd.func46, Tryd.ntmps46
  go_wp2
  refine bodyPost_ret (v := .agg #[.int .i64 x.frm, .int .i64 x.to, .int .i64 x.cost]) (by simp [results, Tryd.results46, go_sem]) rfl ⟨rfl, ?_⟩
  exact (ubox2 _ _ _ _ _).alloc _ _

set_option maxHeartbeats 400000 in
theorem toRel_any (B : Nat) (x : Rl) (p : Value) (w : World) (h0 : HInts B w p x.ways) (hs0 : x.ways.length ≤ 1048576) :
    Calls Tryd.prog 45 #[.agg #[.int .i64 x.id, .bool x.only, .int .i64 x.frm, .int .i64 x.to, .bool x.via, .int .i64 x.node, p]] w fun e w' => (∃ a m c, e = .returned (.agg #[.int .i64 x.id, .bool x.only, .int .i64 x.frm, .int .i64 x.to, .bool x.via, .int .i64 x.node, .slice a m c]) ∧ HInts w.heap.size w' (.slice a m c) x.ways) ∧ Nu w w' := by
  go_enter Tryd.func45, Tryd.ntmps45
  go_wp2_with fail
  refine (toInts_any B _ x.ways _ (h0.next (((box2 _ _ _).alloc _))) hs0).mono ?_
  rintro e w1 ⟨⟨a1, n1, c1, rfl, g1⟩, hu⟩
  have hx := hu.nx
  have HX : Hid (Nu w w1) := ((ubox2 _ _ _ _ _).alloc _ _).trans hu
  have BB2 : Blk w1 (w.heap.size + 1) #[.int .i64 0, .bool false, .int .i64 0, .int .i64 0, .bool false, .int .i64 0, .slice none 0 0] := ((Blk.new _ _ 53 _ (by simp)).alloc _).next hx
  have BC2 : Blk w1 (w.heap.size + 1 + 1) #[.int .i64 x.id, .bool x.only, .int .i64 x.frm, .int .i64 x.to, .bool x.via, .int .i64 x.node, .slice none 0 0] := (Blk.new _ _ 53 _ (by simp)).next hx
  have G1 : Hid (HInts (w.heap.size + 3) w1 (.slice a1 n1 c1) x.ways) := g1.base (by simp)
  clear hx hu g1
  have k0 := BC2.cell (i := 0) rfl
  have k1 := BC2.cell (i := 1) rfl
  have k2 := BC2.cell (i := 2) rfl
  have k3 := BC2.cell (i := 3) rfl
  have k4 := BC2.cell (i := 4) rfl
  have k5 := BC2.cell (i := 5) rfl
  have k6 := BC2.cell (i := 6) rfl
  have kf := BC2.frozen 6
  have j0 := BB2.cell (i := 0) rfl
  have j1 := BB2.cell (i := 1) rfl
  have j2 := BB2.cell (i := 2) rfl
  have j3 := BB2.cell (i := 3) rfl
  have j4 := BB2.cell (i := 4) rfl
  have j5 := BB2.cell (i := 5) rfl
  have j6 := BB2.cell (i := 6) rfl
  have f0 := BB2.frozen 0
  have f1 := BB2.frozen 1
  have f2 := BB2.frozen 2
  have f3 := BB2.frozen 3
  have f4 := BB2.frozen 4
  have f5 := BB2.frozen 5
  have f6 := BB2.frozen 6
  go_wp2
  refine bodyPost_ret (v := .agg #[.int .i64 x.id, .bool x.only, .int .i64 x.frm, .int .i64 x.to, .bool x.via, .int .i64 x.node, .slice a1 n1 c1]) (by simp [results, Tryd.results45, go_sem, j0, j1, j2, j3, j4, j5, j6]) rfl ⟨⟨a1, n1, c1, rfl, ?_⟩, ?_⟩
  · exact ((((((((G1.out.store (by omega) _).store (by omega) _).store (by omega) _).store (by omega) _).store (by omega) _).store (by omega) _).store (by omega) _).store (by omega) _).base (by omega)
  · exact Nu.setCell (Nu.setCell (Nu.setCell (Nu.setCell (Nu.setCell (Nu.setCell (Nu.setCell (Nu.setCell HX.out (by simp; omega) _) (by simp) _) (by simp) _) (by simp) _) (by simp) _) (by simp) _) (by simp) _) (by simp) _
end Go.Proofs.YtedhchmigeooiaaDoor

namespace Go.Proofs.YtedhchmigeooiaaDoor
open Go.RowKit
set_option linter.unusedVariables false

theorem make_structs (t e : TypeId) (z : Value) (k bytes : Nat) (ht : Tryd.prog.underlying t = some (.slice e)) (hinfo : (Tryd.prog.info? e).map (fun i => (i.zero, i.size, i.bytes)) = some (some z, k, bytes))
    (n : Nat) (hbytes : bytes * n ≤ 281474976710656) (h63 : n ≤ 9223372036854775807) (w : World) :
    (Instr.makeSlice t (.int .i64 (n : Int)) (.int .i64 (n : Int))).run Tryd.prog w = .ok (.slice (some ⟨w.heap.size, 0, none⟩) n n) (w.alloc (.cells (madeCells z.cells (n * k)) e)) := by
  obtain ⟨i, hi, hzz⟩ := Option.map_eq_some_iff.1 hinfo
  simp only [Prod.mk.injEq] at hzz
  obtain ⟨hz, hs, hb⟩ := hzz
  have hb' : (i.bytes : Int) * (n : Int) ≤ 281474976710656 := by
    have h : ((i.bytes * n : Nat) : Int) ≤ 281474976710656 := by rw [hb]; omega
    rwa [Int.natCast_mul] at h
  have hr := run_make (P := Tryd.prog) w t e i z ht hi hz .i64 .i64 n n (by omega) (Int.le_refl _) hb' (by omega)
  simp only [Int.toNat_natCast, hs] at hr
  exact hr

theorem set_ne {cs : Array Value} {i j : Nat} (a : Value) (h : i ≠ j) : (cs.setIfInBounds i a)[j]? = cs[j]? := by rw [Array.getElem?_setIfInBounds, if_neg h]
theorem set_eq {cs : Array Value} {i : Nat} (a : Value) (h : i < cs.size) : (cs.setIfInBounds i a)[i]? = some a := by simp [h]
theorem Blk.made (w : World) (z : Array Value) (n : Nat) (t : TypeId) : Blk (w.alloc (.cells (madeCells z n) t)) w.heap.size (madeCells z n) := Blk.new _ _ _ _ rfl
end Go.Proofs.YtedhchmigeooiaaDoor

namespace Go.Proofs.YtedhchmigeooiaaDoor
open Go.RowKit
set_option linter.unusedVariables false

/-- the first k structs of the new row hold the list's -/
def toWaysRow (w : World) (g n k : Nat) (zs : List Wy) : Prop := ∃ cs : Array Value, Blk w g cs ∧ cs.size = n * 4 ∧ ∀ i, i < k → ∃ p q : Value, cs[i * 4]? = some (.int .i64 (wat zs i).id) ∧ cs[i * 4 + 1]? = some (.bool (wat zs i).both) ∧ cs[i * 4 + 2]? = some p ∧ cs[i * 4 + 3]? = some q ∧ HInts (g + 1) w p (wat zs i).nodes ∧ HInts (g + 1) w q (wat zs i).weights
theorem toWaysRow.step {wr w1 : World} {g n k : Nat} {zs : List Wy} (h : toWaysRow wr g n k zs) (hx : Nx wr w1) (hk : k < n) (p : Value) (q : Value) (h0 : HInts (g + 1) w1 p (wat zs k).nodes) (h1 : HInts (g + 1) w1 q (wat zs k).weights) :
    toWaysRow ((((w1.setCell ⟨g, k * 4, none⟩ (.int .i64 (wat zs k).id)).setCell ⟨g, k * 4 + 1, none⟩ (.bool (wat zs k).both)).setCell ⟨g, k * 4 + 2, none⟩ p).setCell ⟨g, k * 4 + 3, none⟩ q) g n (k + 1) zs := by
  obtain ⟨cs, BK, hs, hi⟩ := h
  have hm : (k + 1) * 4 ≤ n * 4 := Nat.mul_le_mul_right 4 hk
  refine ⟨_, (((((BK.next hx).set (k * 4) (.int .i64 (wat zs k).id)).set (k * 4 + 1) (.bool (wat zs k).both)).set (k * 4 + 2) p).set (k * 4 + 3) q), by simpa using hs, fun i hik => ?_⟩
  by_cases e : i = k
  · subst e
    exact ⟨p, q, (by rw [set_ne _ (by omega)]; rw [set_ne _ (by omega)]; rw [set_ne _ (by omega)]; exact set_eq _ (by simp [hs]; omega)), (by rw [set_ne _ (by omega)]; rw [set_ne _ (by omega)]; exact set_eq _ (by simp [hs]; omega)), (by rw [set_ne _ (by omega)]; exact set_eq _ (by simp [hs]; omega)), (by  exact set_eq _ (by simp [hs]; omega)), ((((h0.store (by omega) _).store (by omega) _).store (by omega) _).store (by omega) _), ((((h1.store (by omega) _).store (by omega) _).store (by omega) _).store (by omega) _)⟩
  · obtain ⟨p', q', e0, e1, e2, e3, i0, i1⟩ := hi i (by omega)
    exact ⟨p', q', (by rw [set_ne _ (by omega)]; rw [set_ne _ (by omega)]; rw [set_ne _ (by omega)]; rw [set_ne _ (by omega)]; exact e0), (by rw [set_ne _ (by omega)]; rw [set_ne _ (by omega)]; rw [set_ne _ (by omega)]; rw [set_ne _ (by omega)]; exact e1), (by rw [set_ne _ (by omega)]; rw [set_ne _ (by omega)]; rw [set_ne _ (by omega)]; rw [set_ne _ (by omega)]; exact e2), (by rw [set_ne _ (by omega)]; rw [set_ne _ (by omega)]; rw [set_ne _ (by omega)]; rw [set_ne _ (by omega)]; exact e3), (((((i0.next hx).store (by omega) _).store (by omega) _).store (by omega) _).store (by omega) _), (((((i1.next hx).store (by omega) _).store (by omega) _).store (by omega) _).store (by omega) _)⟩
theorem toWaysRow.held {w : World} {g n : Nat} {zs : List Wy} (hn : zs.length = n) (hm : n ≤ maxLen) (h : toWaysRow w g n n zs) : HWays g w (.slice (some ⟨g, 0, none⟩) n n) zs := by
  obtain ⟨cs, BK, hs, hi⟩ := h
  subst hn
  refine ⟨_, _, rfl, hm, fun h0 => ⟨g, 0, rfl, Nat.le_refl _, BK.lt, fun i hik => ?_⟩⟩
  obtain ⟨p', q', e0, e1, e2, e3, i0, i1⟩ := hi i hik
  exact ⟨p', q', BK.cell (by simpa using e0), BK.cell (by simpa using e1), BK.cell (by simpa using e2), BK.cell (by simpa using e3), i0.base (by omega), i1.base (by omega)⟩
theorem info45 : (Tryd.prog.info? 50).map (fun i => (i.zero, i.size, i.bytes)) = some (some (.agg #[.int .i64 0, .bool false, .slice none 0 0, .slice none 0 0]), 4, 64) := by kernel_rfl

set_option maxHeartbeats 1000000 in
theorem toWays_any (B : Nat) (v : Value) (zs : List Wy) (w : World) (h0 : HWays B w v zs) (hs : zs.length ≤ 1048576) (hs1 : ∀ i, i < zs.length → (wat zs i).nodes.length ≤ 1048576 ∧ (wat zs i).weights.length ≤ 1048576) :
    Calls Tryd.prog 22 #[v] w fun e w' => (∃ a' n' c', e = .returned (.slice a' n' c') ∧ HWays w.heap.size w' (.slice a' n' c') zs) ∧ Nu w w' := by
  obtain ⟨a, cap, rfl, hn, hk⟩ := h0
  generalize hz : zs.length = n at *
  have HZ : Hid (zs.length = n) := hz
  have HM : Hid (n ≤ maxLen) := hn
  clear hz hn
  have hmk := make_structs 31 50 (.agg #[.int .i64 0, .bool false, .slice none 0 0, .slice none 0 0]) 4 64 Tryd.underlying31 info45 n (by omega) (by omega)
  go_enter Tryd.func22, Tryd.ntmps22
  go_wp2
  go_loopw [4] (fun i wr => ∃ k : Nat, k ≤ n ∧ i = .int .i64 k ∧ Hid (toWaysRow wr w.heap.size n k zs) ∧ Hid (Nu w wr)) (fun i _ => n - (intOf i).toNat)
  case atStart => exact ⟨0, Nat.zero_le _, rfl, ⟨_, Blk.made _ _ _ _, size_madeCells _ _, fun i hi => absurd hi (Nat.not_lt_zero _)⟩, ubox1 _ _ _⟩
  case round =>
    obtain ⟨k, hkn, rfl, HR, HN⟩ := hrel
    clear hmk
    by_cases hlt : k < n
    · obtain ⟨b, off, rfl, hB, hb, hc⟩ := hk (by omega)
      obtain ⟨p1, p2, a0, a1, a2, a3, n1, w1'⟩ := hc k hlt
      have a0 := cell_next HN.out.nx hb a0
      have a1 := cell_next HN.out.nx hb a1
      have a2 := cell_next HN.out.nx hb a2
      have a3 := cell_next HN.out.nx hb a3
      have hlt' : (k : Int) < n := by omega
      obtain ⟨cs, BK, hcs, _⟩ := HR.out
      have hm : (k + 1) * 4 ≤ n * 4 := Nat.mul_le_mul_right 4 hlt
      have hsz : w.heap.size < wr.heap.size := BK.lt
      clear hc hk
      go_wp2_with fail
      refine (toWay_any B _ _ _ _ (wat zs k).nodes (wat zs k).weights _ (by exact n1.next HN.out.nx) (by exact w1'.next HN.out.nx) (hs1 k hlt).1 (hs1 k hlt).2).mono ?_
      rintro e w1 ⟨⟨q1, m1, c1, q2, m2, c2, rfl, g0', g1'⟩, hu⟩
      have hx := hu.nx
      have BK1 := BK.next hx
      have g0 : Hid (HInts wr.heap.size w1 (.slice q1 m1 c1) (wat zs k).nodes) := g0'
      have g1 : Hid (HInts wr.heap.size w1 (.slice q2 m2 c2) (wat zs k).weights) := g1'
      clear g0' g1'
      have r0 := BK1.cell (i := k * 4) (Array.getElem?_eq_getElem (by omega))
      have r1 := BK1.cell (i := k * 4 + 1) (Array.getElem?_eq_getElem (by omega))
      have r2 := BK1.cell (i := k * 4 + 2) (Array.getElem?_eq_getElem (by omega))
      have r3 := BK1.cell (i := k * 4 + 3) (Array.getElem?_eq_getElem (by omega))
      have f0 := BK1.frozen (k * 4)
      have f1 := BK1.frozen (k * 4 + 1)
      have f2 := BK1.frozen (k * 4 + 2)
      have f3 := BK1.frozen (k * 4 + 3)
      have HX : Hid (Nu wr w1) := hu
      clear hx hu BK BK1
      go_wp2
      go_roundw
      case rel => exact ⟨k + 1, by omega, by go_num, HR.out.step HX.out.nx hlt _ _ (g0.out.base (by omega)) (g1.out.base (by omega)), Nu.setCell (Nu.setCell (Nu.setCell (Nu.setCell (HN.out.trans HX.out) (Nat.le_refl _) _) (Nat.le_refl _) _) (Nat.le_refl _) _) (Nat.le_refl _) _⟩
      case measure => simp [intOf]; omega
    · go_wp2
      go_ret
      have e : k = n := by omega
      subst e
      exact ⟨⟨_, _, _, rfl, HR.out.held HZ.out HM.out⟩, HN.out⟩
end Go.Proofs.YtedhchmigeooiaaDoor

namespace Go.Proofs.YtedhchmigeooiaaDoor
open Go.RowKit
set_option linter.unusedVariables false

/-- the first k structs of the new row hold the list's -/
def toRelsRow (w : World) (g n k : Nat) (zs : List Rl) : Prop := ∃ cs : Array Value, Blk w g cs ∧ cs.size = n * 7 ∧ ∀ i, i < k → ∃ p : Value, cs[i * 7]? = some (.int .i64 (rat zs i).id) ∧ cs[i * 7 + 1]? = some (.bool (rat zs i).only) ∧ cs[i * 7 + 2]? = some (.int .i64 (rat zs i).frm) ∧ cs[i * 7 + 3]? = some (.int .i64 (rat zs i).to) ∧ cs[i * 7 + 4]? = some (.bool (rat zs i).via) ∧ cs[i * 7 + 5]? = some (.int .i64 (rat zs i).node) ∧ cs[i * 7 + 6]? = some p ∧ HInts (g + 1) w p (rat zs i).ways
theorem toRelsRow.step {wr w1 : World} {g n k : Nat} {zs : List Rl} (h : toRelsRow wr g n k zs) (hx : Nx wr w1) (hk : k < n) (p : Value) (h0 : HInts (g + 1) w1 p (rat zs k).ways) :
    toRelsRow (((((((w1.setCell ⟨g, k * 7, none⟩ (.int .i64 (rat zs k).id)).setCell ⟨g, k * 7 + 1, none⟩ (.bool (rat zs k).only)).setCell ⟨g, k * 7 + 2, none⟩ (.int .i64 (rat zs k).frm)).setCell ⟨g, k * 7 + 3, none⟩ (.int .i64 (rat zs k).to)).setCell ⟨g, k * 7 + 4, none⟩ (.bool (rat zs k).via)).setCell ⟨g, k * 7 + 5, none⟩ (.int .i64 (rat zs k).node)).setCell ⟨g, k * 7 + 6, none⟩ p) g n (k + 1) zs := by
  obtain ⟨cs, BK, hs, hi⟩ := h
  have hm : (k + 1) * 7 ≤ n * 7 := Nat.mul_le_mul_right 7 hk
  refine ⟨_, ((((((((BK.next hx).set (k * 7) (.int .i64 (rat zs k).id)).set (k * 7 + 1) (.bool (rat zs k).only)).set (k * 7 + 2) (.int .i64 (rat zs k).frm)).set (k * 7 + 3) (.int .i64 (rat zs k).to)).set (k * 7 + 4) (.bool (rat zs k).via)).set (k * 7 + 5) (.int .i64 (rat zs k).node)).set (k * 7 + 6) p), by simpa using hs, fun i hik => ?_⟩
  by_cases e : i = k
  · subst e
    exact ⟨p, (by rw [set_ne _ (by omega)]; rw [set_ne _ (by omega)]; rw [set_ne _ (by omega)]; rw [set_ne _ (by omega)]; rw [set_ne _ (by omega)]; rw [set_ne _ (by omega)]; exact set_eq _ (by simp [hs]; omega)), (by rw [set_ne _ (by omega)]; rw [set_ne _ (by omega)]; rw [set_ne _ (by omega)]; rw [set_ne _ (by omega)]; rw [set_ne _ (by omega)]; exact set_eq _ (by simp [hs]; omega)), (by rw [set_ne _ (by omega)]; rw [set_ne _ (by omega)]; rw [set_ne _ (by omega)]; rw [set_ne _ (by omega)]; exact set_eq _ (by simp [hs]; omega)), (by rw [set_ne _ (by omega)]; rw [set_ne _ (by omega)]; rw [set_ne _ (by omega)]; exact set_eq _ (by simp [hs]; omega)), (by rw [set_ne _ (by omega)]; rw [set_ne _ (by omega)]; exact set_eq _ (by simp [hs]; omega)), (by rw [set_ne _ (by omega)]; exact set_eq _ (by simp [hs]; omega)), (by  exact set_eq _ (by simp [hs]; omega)), (((((((h0.store (by omega) _).store (by omega) _).store (by omega) _).store (by omega) _).store (by omega) _).store (by omega) _).store (by omega) _)⟩
  · obtain ⟨p', e0, e1, e2, e3, e4, e5, e6, i0⟩ := hi i (by omega)
    exact ⟨p', (by rw [set_ne _ (by omega)]; rw [set_ne _ (by omega)]; rw [set_ne _ (by omega)]; rw [set_ne _ (by omega)]; rw [set_ne _ (by omega)]; rw [set_ne _ (by omega)]; rw [set_ne _ (by omega)]; exact e0), (by rw [set_ne _ (by omega)]; rw [set_ne _ (by omega)]; rw [set_ne _ (by omega)]; rw [set_ne _ (by omega)]; rw [set_ne _ (by omega)]; rw [set_ne _ (by omega)]; rw [set_ne _ (by omega)]; exact e1), (by rw [set_ne _ (by omega)]; rw [set_ne _ (by omega)]; rw [set_ne _ (by omega)]; rw [set_ne _ (by omega)]; rw [set_ne _ (by omega)]; rw [set_ne _ (by omega)]; rw [set_ne _ (by omega)]; exact e2), (by rw [set_ne _ (by omega)]; rw [set_ne _ (by omega)]; rw [set_ne _ (by omega)]; rw [set_ne _ (by omega)]; rw [set_ne _ (by omega)]; rw [set_ne _ (by omega)]; rw [set_ne _ (by omega)]; exact e3), (by rw [set_ne _ (by omega)]; rw [set_ne _ (by omega)]; rw [set_ne _ (by omega)]; rw [set_ne _ (by omega)]; rw [set_ne _ (by omega)]; rw [set_ne _ (by omega)]; rw [set_ne _ (by omega)]; exact e4), (by rw [set_ne _ (by omega)]; rw [set_ne _ (by omega)]; rw [set_ne _ (by omega)]; rw [set_ne _ (by omega)]; rw [set_ne _ (by omega)]; rw [set_ne _ (by omega)]; rw [set_ne _ (by omega)]; exact e5), (by rw [set_ne _ (by omega)]; rw [set_ne _ (by omega)]; rw [set_ne _ (by omega)]; rw [set_ne _ (by omega)]; rw [set_ne _ (by omega)]; rw [set_ne _ (by omega)]; rw [set_ne _ (by omega)]; exact e6), ((((((((i0.next hx).store (by omega) _).store (by omega) _).store (by omega) _).store (by omega) _).store (by omega) _).store (by omega) _).store (by omega) _)⟩
theorem toRelsRow.held {w : World} {g n : Nat} {zs : List Rl} (hn : zs.length = n) (hm : n ≤ maxLen) (h : toRelsRow w g n n zs) : HRels g w (.slice (some ⟨g, 0, none⟩) n n) zs := by
  obtain ⟨cs, BK, hs, hi⟩ := h
  subst hn
  refine ⟨_, _, rfl, hm, fun h0 => ⟨g, 0, rfl, Nat.le_refl _, BK.lt, fun i hik => ?_⟩⟩
  obtain ⟨p', e0, e1, e2, e3, e4, e5, e6, i0⟩ := hi i hik
  exact ⟨p', BK.cell (by simpa using e0), BK.cell (by simpa using e1), BK.cell (by simpa using e2), BK.cell (by simpa using e3), BK.cell (by simpa using e4), BK.cell (by simpa using e5), BK.cell (by simpa using e6), i0.base (by omega)⟩
theorem info49 : (Tryd.prog.info? 53).map (fun i => (i.zero, i.size, i.bytes)) = some (some (.agg #[.int .i64 0, .bool false, .int .i64 0, .int .i64 0, .bool false, .int .i64 0, .slice none 0 0]), 7, 72) := by kernel_rfl

set_option maxHeartbeats 1000000 in
theorem toRels_any (B : Nat) (v : Value) (zs : List Rl) (w : World) (h0 : HRels B w v zs) (hs : zs.length ≤ 1048576) (hs1 : ∀ i, i < zs.length → (rat zs i).ways.length ≤ 1048576) :
    Calls Tryd.prog 23 #[v] w fun e w' => (∃ a' n' c', e = .returned (.slice a' n' c') ∧ HRels w.heap.size w' (.slice a' n' c') zs) ∧ Nu w w' := by
  obtain ⟨a, cap, rfl, hn, hk⟩ := h0
  generalize hz : zs.length = n at *
  have HZ : Hid (zs.length = n) := hz
  have HM : Hid (n ≤ maxLen) := hn
  clear hz hn
  have hmk := make_structs 32 53 (.agg #[.int .i64 0, .bool false, .int .i64 0, .int .i64 0, .bool false, .int .i64 0, .slice none 0 0]) 7 72 Tryd.underlying32 info49 n (by omega) (by omega)
  go_enter Tryd.func23, Tryd.ntmps23
  go_wp2
  go_loopw [4] (fun i wr => ∃ k : Nat, k ≤ n ∧ i = .int .i64 k ∧ Hid (toRelsRow wr w.heap.size n k zs) ∧ Hid (Nu w wr)) (fun i _ => n - (intOf i).toNat)
  case atStart => exact ⟨0, Nat.zero_le _, rfl, ⟨_, Blk.made _ _ _ _, size_madeCells _ _, fun i hi => absurd hi (Nat.not_lt_zero _)⟩, ubox1 _ _ _⟩
  case round =>
    obtain ⟨k, hkn, rfl, HR, HN⟩ := hrel
    clear hmk
    by_cases hlt : k < n
    · obtain ⟨b, off, rfl, hB, hb, hc⟩ := hk (by omega)
      obtain ⟨p1, a0, a1, a2, a3, a4, a5, a6, n1⟩ := hc k hlt
      have a0 := cell_next HN.out.nx hb a0
      have a1 := cell_next HN.out.nx hb a1
      have a2 := cell_next HN.out.nx hb a2
      have a3 := cell_next HN.out.nx hb a3
      have a4 := cell_next HN.out.nx hb a4
      have a5 := cell_next HN.out.nx hb a5
      have a6 := cell_next HN.out.nx hb a6
      have hlt' : (k : Int) < n := by omega
      obtain ⟨cs, BK, hcs, _⟩ := HR.out
      have hm : (k + 1) * 7 ≤ n * 7 := Nat.mul_le_mul_right 7 hlt
      have hsz : w.heap.size < wr.heap.size := BK.lt
      clear hc hk
      go_wp2_with fail
      refine (toRel_any B (rat zs k) _ _ (by exact n1.next HN.out.nx) (hs1 k hlt)).mono ?_
      rintro e w1 ⟨⟨q1, m1, c1, rfl, g0'⟩, hu⟩
      have hx := hu.nx
      have BK1 := BK.next hx
      have g0 : Hid (HInts wr.heap.size w1 (.slice q1 m1 c1) (rat zs k).ways) := g0'
      clear g0'
      have r0 := BK1.cell (i := k * 7) (Array.getElem?_eq_getElem (by omega))
      have r1 := BK1.cell (i := k * 7 + 1) (Array.getElem?_eq_getElem (by omega))
      have r2 := BK1.cell (i := k * 7 + 2) (Array.getElem?_eq_getElem (by omega))
      have r3 := BK1.cell (i := k * 7 + 3) (Array.getElem?_eq_getElem (by omega))
      have r4 := BK1.cell (i := k * 7 + 4) (Array.getElem?_eq_getElem (by omega))
      have r5 := BK1.cell (i := k * 7 + 5) (Array.getElem?_eq_getElem (by omega))
      have r6 := BK1.cell (i := k * 7 + 6) (Array.getElem?_eq_getElem (by omega))
      have f0 := BK1.frozen (k * 7)
      have f1 := BK1.frozen (k * 7 + 1)
      have f2 := BK1.frozen (k * 7 + 2)
      have f3 := BK1.frozen (k * 7 + 3)
      have f4 := BK1.frozen (k * 7 + 4)
      have f5 := BK1.frozen (k * 7 + 5)
      have f6 := BK1.frozen (k * 7 + 6)
      have HX : Hid (Nu wr w1) := hu
      clear hx hu BK BK1
      go_wp2
      go_roundw
      case rel => exact ⟨k + 1, by omega, by go_num, HR.out.step HX.out.nx hlt _ (g0.out.base (by omega)), Nu.setCell (Nu.setCell (Nu.setCell (Nu.setCell (Nu.setCell (Nu.setCell (Nu.setCell (HN.out.trans HX.out) (Nat.le_refl _) _) (Nat.le_refl _) _) (Nat.le_refl _) _) (Nat.le_refl _) _) (Nat.le_refl _) _) (Nat.le_refl _) _) (Nat.le_refl _) _⟩
      case measure => simp [intOf]; omega
    · go_wp2
      go_ret
      have e : k = n := by omega
      subst e
      exact ⟨⟨_, _, _, rfl, HR.out.held HZ.out HM.out⟩, HN.out⟩
end Go.Proofs.YtedhchmigeooiaaDoor

namespace Go.Proofs.YtedhchmigeooiaaDoor
open Go.RowKit
set_option linter.unusedVariables false

/-- the first k structs of the new row hold the list's -/
def toTurnsRow (w : World) (g n k : Nat) (zs : List Tn) : Prop := ∃ cs : Array Value, Blk w g cs ∧ cs.size = n * 3 ∧ ∀ i, i < k → cs[i * 3]? = some (.int .i64 (tat zs i).frm) ∧ cs[i * 3 + 1]? = some (.int .i64 (tat zs i).to) ∧ cs[i * 3 + 2]? = some (.int .i64 (tat zs i).cost)
theorem toTurnsRow.step {wr w1 : World} {g n k : Nat} {zs : List Tn} (h : toTurnsRow wr g n k zs) (hx : Nx wr w1) (hk : k < n)   :
    toTurnsRow (((w1.setCell ⟨g, k * 3, none⟩ (.int .i64 (tat zs k).frm)).setCell ⟨g, k * 3 + 1, none⟩ (.int .i64 (tat zs k).to)).setCell ⟨g, k * 3 + 2, none⟩ (.int .i64 (tat zs k).cost)) g n (k + 1) zs := by
  obtain ⟨cs, BK, hs, hi⟩ := h
  have hm : (k + 1) * 3 ≤ n * 3 := Nat.mul_le_mul_right 3 hk
  refine ⟨_, ((((BK.next hx).set (k * 3) (.int .i64 (tat zs k).frm)).set (k * 3 + 1) (.int .i64 (tat zs k).to)).set (k * 3 + 2) (.int .i64 (tat zs k).cost)), by simpa using hs, fun i hik => ?_⟩
  by_cases e : i = k
  · subst e
    exact ⟨(by rw [set_ne _ (by omega)]; rw [set_ne _ (by omega)]; exact set_eq _ (by simp [hs]; omega)), (by rw [set_ne _ (by omega)]; exact set_eq _ (by simp [hs]; omega)), (by  exact set_eq _ (by simp [hs]; omega))⟩
  · obtain ⟨e0, e1, e2⟩ := hi i (by omega)
    exact ⟨(by rw [set_ne _ (by omega)]; rw [set_ne _ (by omega)]; rw [set_ne _ (by omega)]; exact e0), (by rw [set_ne _ (by omega)]; rw [set_ne _ (by omega)]; rw [set_ne _ (by omega)]; exact e1), (by rw [set_ne _ (by omega)]; rw [set_ne _ (by omega)]; rw [set_ne _ (by omega)]; exact e2)⟩
theorem toTurnsRow.held {w : World} {g n : Nat} {zs : List Tn} (hn : zs.length = n) (hm : n ≤ maxLen) (h : toTurnsRow w g n n zs) : HTurns g w (.slice (some ⟨g, 0, none⟩) n n) zs := by
  obtain ⟨cs, BK, hs, hi⟩ := h
  subst hn
  refine ⟨_, _, rfl, hm, fun h0 => ⟨g, 0, rfl, Nat.le_refl _, BK.lt, fun i hik => ?_⟩⟩
  obtain ⟨e0, e1, e2⟩ := hi i hik
  exact ⟨BK.cell (by simpa using e0), BK.cell (by simpa using e1), BK.cell (by simpa using e2)⟩
theorem info51 : (Tryd.prog.info? 55).map (fun i => (i.zero, i.size, i.bytes)) = some (some (.agg #[.int .i64 0, .int .i64 0, .int .i64 0]), 3, 24) := by kernel_rfl

set_option maxHeartbeats 1000000 in
theorem toTurns_any (B : Nat) (v : Value) (zs : List Tn) (w : World) (h0 : HTurns B w v zs) (hs : zs.length ≤ 1048576)  :
    Calls Tryd.prog 24 #[v] w fun e w' => (∃ a' n' c', e = .returned (.slice a' n' c') ∧ HTurns w.heap.size w' (.slice a' n' c') zs) ∧ Nu w w' := by
  obtain ⟨a, cap, rfl, hn, hk⟩ := h0
  generalize hz : zs.length = n at *
  have HZ : Hid (zs.length = n) := hz
  have HM : Hid (n ≤ maxLen) := hn
  clear hz hn
  have hmk := make_structs 33 55 (.agg #[.int .i64 0, .int .i64 0, .int .i64 0]) 3 24 Tryd.underlying33 info51 n (by omega) (by omega)
  go_enter Tryd.func24, Tryd.ntmps24
  go_wp2
  go_loopw [4] (fun i wr => ∃ k : Nat, k ≤ n ∧ i = .int .i64 k ∧ Hid (toTurnsRow wr w.heap.size n k zs) ∧ Hid (Nu w wr)) (fun i _ => n - (intOf i).toNat)
  case atStart => exact ⟨0, Nat.zero_le _, rfl, ⟨_, Blk.made _ _ _ _, size_madeCells _ _, fun i hi => absurd hi (Nat.not_lt_zero _)⟩, ubox1 _ _ _⟩
  case round =>
    obtain ⟨k, hkn, rfl, HR, HN⟩ := hrel
    clear hmk
    by_cases hlt : k < n
    · obtain ⟨b, off, rfl, hB, hb, hc⟩ := hk (by omega)
      obtain ⟨a0, a1, a2⟩ := hc k hlt
      have a0 := cell_next HN.out.nx hb a0
      have a1 := cell_next HN.out.nx hb a1
      have a2 := cell_next HN.out.nx hb a2
      have hlt' : (k : Int) < n := by omega
      obtain ⟨cs, BK, hcs, _⟩ := HR.out
      have hm : (k + 1) * 3 ≤ n * 3 := Nat.mul_le_mul_right 3 hlt
      have hsz : w.heap.size < wr.heap.size := BK.lt
      clear hc hk
      go_wp2_with fail
      refine (toTurn_any (tat zs k) _).mono ?_
      rintro e w1 ⟨rfl, hu⟩
      have hx := hu.nx
      have BK1 := BK.next hx
      have r0 := BK1.cell (i := k * 3) (Array.getElem?_eq_getElem (by omega))
      have r1 := BK1.cell (i := k * 3 + 1) (Array.getElem?_eq_getElem (by omega))
      have r2 := BK1.cell (i := k * 3 + 2) (Array.getElem?_eq_getElem (by omega))
      have f0 := BK1.frozen (k * 3)
      have f1 := BK1.frozen (k * 3 + 1)
      have f2 := BK1.frozen (k * 3 + 2)
      have HX : Hid (Nu wr w1) := hu
      clear hx hu BK BK1
      go_wp2
      go_roundw
      case rel => exact ⟨k + 1, by omega, by go_num, HR.out.step HX.out.nx hlt  , Nu.setCell (Nu.setCell (Nu.setCell (HN.out.trans HX.out) (Nat.le_refl _) _) (Nat.le_refl _) _) (Nat.le_refl _) _⟩
      case measure => simp [intOf]; omega
    · go_wp2
      go_ret
      have e : k = n := by omega
      subst e
      exact ⟨⟨_, _, _, rfl, HR.out.held HZ.out HM.out⟩, HN.out⟩
end Go.Proofs.YtedhchmigeooiaaDoor

namespace Go.Proofs.YtedhchmigeooiaaDoor
open Go.RowKit
set_option linter.unusedVariables false

theorem set_keeps {B : Nat} (w : World) {g : Nat} (o : Nat) (hg : g < B) (u : Value) : Keeps B w (w.setCell ⟨g, o, none⟩ u) :=
  ⟨by simp [World.setCell], fun b hb _ o' => World.cell?_of_block (w := w) (Below.heap_setCell _ _ _ _ (by simp; omega))⟩
theorem HWays.base {B B' : Nat} {w : World} {v : Value} {xs : List Wy} (h : HWays B w v xs) (hB : B' ≤ B) : HWays B' w v xs :=
  HSlice.mono h hB (Nat.le_refl _) fun b off hb hs i hi hc => by
    obtain ⟨p, q, h0, h1, h2, h3, h4, h5⟩ := hc
    exact ⟨p, q, h0, h1, h2, h3, h4.base hB, h5.base hB⟩
theorem HRels.base {B B' : Nat} {w : World} {v : Value} {xs : List Rl} (h : HRels B w v xs) (hB : B' ≤ B) : HRels B' w v xs :=
  HSlice.mono h hB (Nat.le_refl _) fun b off hb hs i hi hc => by
    obtain ⟨p, h0, h1, h2, h3, h4, h5, h6, h7⟩ := hc
    exact ⟨p, h0, h1, h2, h3, h4, h5, h6, h7.base hB⟩
theorem HTurns.base {B B' : Nat} {w : World} {v : Value} {xs : List Tn} (h : HTurns B w v xs) (hB : B' ≤ B) : HTurns B' w v xs :=
  HSlice.mono h hB (Nat.le_refl _) fun b off hb hs i hi hc => hc

theorem Keeps.trans {B : Nat} {a b c : World} (h : Keeps B a b) (k : Keeps B b c) : Keeps B a c :=
  ⟨Nat.le_trans h.1 k.1, fun x hx hl o => (k.2 x hx (Nat.lt_of_lt_of_le hl h.1) o).trans (h.2 x hx hl o)⟩
structure Small (N : Nt) : Prop where
  nodes : N.nodes.length ≤ 1048576
  ways : N.ways.length ≤ 1048576
  way : ∀ i, i < N.ways.length → (wat N.ways i).nodes.length ≤ 1048576 ∧ (wat N.ways i).weights.length ≤ 1048576
  rels : N.rels.length ≤ 1048576
  rel : ∀ i, i < N.rels.length → (rat N.rels i).ways.length ≤ 1048576
  turns : N.turns.length ≤ 1048576

set_option maxHeartbeats 1000000 in
theorem toNet_any (B : Nat) (v0 v1 v2 v3 : Value) (N : Nt) (w : World) (h0 : HNet B w v0 v1 v2 v3 N) (hs : Small N) :
    Calls Tryd.prog 6 #[.agg #[v0, v1, v2, v3, .int .i64 N.uturn]] w fun e w' => (∃ a0 n0 c0 a1 n1 c1 a2 n2 c2 a3 n3 c3, e = .returned (.agg #[.slice a0 n0 c0, .slice a1 n1 c1, .slice a2 n2 c2, .slice a3 n3 c3, .int .i64 N.uturn]) ∧ HNet w.heap.size w' (.slice a0 n0 c0) (.slice a1 n1 c1) (.slice a2 n2 c2) (.slice a3 n3 c3) N) ∧ Nu w w' := by
  obtain ⟨i0, i1, i2, i3⟩ := h0
  go_enter Tryd.func6, Tryd.ntmps6
  go_wp2_with fail
  have HXX : Hid (Nu w (((w.alloc (.cells #[v0, v1, v2, v3, .int .i64 N.uturn] 27)).alloc (.cells #[.slice none 0 0, .slice none 0 0, .slice none 0 0, .slice none 0 0, .int .i64 0] 35)).alloc (.cells #[.slice none 0 0, .slice none 0 0, .slice none 0 0, .slice none 0 0, .int .i64 0] 35))) := (ubox2 _ _ _ _ _).alloc _ _
  have BA : Blk (((w.alloc (.cells #[v0, v1, v2, v3, .int .i64 N.uturn] 27)).alloc (.cells #[.slice none 0 0, .slice none 0 0, .slice none 0 0, .slice none 0 0, .int .i64 0] 35)).alloc (.cells #[.slice none 0 0, .slice none 0 0, .slice none 0 0, .slice none 0 0, .int .i64 0] 35)) w.heap.size #[v0, v1, v2, v3, .int .i64 N.uturn] := ((Blk.new w _ 27 _ rfl).alloc _).alloc _
  have BB : Blk (((w.alloc (.cells #[v0, v1, v2, v3, .int .i64 N.uturn] 27)).alloc (.cells #[.slice none 0 0, .slice none 0 0, .slice none 0 0, .slice none 0 0, .int .i64 0] 35)).alloc (.cells #[.slice none 0 0, .slice none 0 0, .slice none 0 0, .slice none 0 0, .int .i64 0] 35)) (w.heap.size + 1) #[.slice none 0 0, .slice none 0 0, .slice none 0 0, .slice none 0 0, .int .i64 0] := (Blk.new _ _ 35 _ (by simp)).alloc _
  have BC : Blk (((w.alloc (.cells #[v0, v1, v2, v3, .int .i64 N.uturn] 27)).alloc (.cells #[.slice none 0 0, .slice none 0 0, .slice none 0 0, .slice none 0 0, .int .i64 0] 35)).alloc (.cells #[.slice none 0 0, .slice none 0 0, .slice none 0 0, .slice none 0 0, .int .i64 0] 35)) (w.heap.size + 1 + 1) #[.slice none 0 0, .slice none 0 0, .slice none 0 0, .slice none 0 0, .int .i64 0] := Blk.new _ _ 35 _ (by simp)
  have hsz : w.heap.size + 3 ≤ (((w.alloc (.cells #[v0, v1, v2, v3, .int .i64 N.uturn] 27)).alloc (.cells #[.slice none 0 0, .slice none 0 0, .slice none 0 0, .slice none 0 0, .int .i64 0] 35)).alloc (.cells #[.slice none 0 0, .slice none 0 0, .slice none 0 0, .slice none 0 0, .int .i64 0] 35)).heap.size := by simp
  refine (toInts_any B _ N.nodes _ (by exact i0.keep (HXX.out.keeps B)) hs.nodes).mono ?_
  rintro e w0 ⟨⟨a0, n0, c0, rfl, g0⟩, hu⟩
  have hx := hu.nx
  have HX : Hid (Nu w w0) := HXX.out.trans hu
  clear HXX
  have BA := BA.next hx
  have BB := BB.next hx
  have BC := BC.next hx
  have G0 : Hid (HInts (w.heap.size + 3) w0 (.slice a0 n0 c0) N.nodes) := g0.base hsz
  have hsz : w.heap.size + 3 ≤ w0.heap.size := Nat.le_trans hsz hx.size
  clear hx hu g0
  have k0 := BA.cell (i := 1) rfl
  have k1 := BC.cell (i := 0) rfl
  have k2 := BC.frozen 0
  have HS : Hid (w.heap.size + 3 ≤ w0.heap.size) := hsz
  go_wp2_with fail
  have HXX : Hid (Nu w (w0.setCell ⟨w.heap.size + 1 + 1, 0, none⟩ (.slice a0 n0 c0))) := Nu.setCell HX.out (by simp; omega) _
  have BA := BA.setOther (g := w.heap.size + 1 + 1) (by omega) 0 (.slice a0 n0 c0)
  have BB := BB.setOther (g := w.heap.size + 1 + 1) (by omega) 0 (.slice a0 n0 c0)
  have BC := BC.set 0 (.slice a0 n0 c0)
  have hsz : w.heap.size + 3 ≤ (w0.setCell ⟨w.heap.size + 1 + 1, 0, none⟩ (.slice a0 n0 c0)).heap.size := by simp only [World.setCell, Array.size_modify]; exact HS.out
  have G0 : Hid (HInts (w.heap.size + 3) (w0.setCell ⟨w.heap.size + 1 + 1, 0, none⟩ (.slice a0 n0 c0)) (.slice a0 n0 c0) N.nodes) := G0.out.keep (set_keeps _ _ (by omega) _)
  clear k0 k1 k2 HS HX
  refine (toWays_any B _ N.ways _ (by exact i1.keep (HXX.out.keeps B)) hs.ways hs.way).mono ?_
  rintro e w1 ⟨⟨a1, n1, c1, rfl, g1⟩, hu⟩
  have hx := hu.nx
  have HX : Hid (Nu w w1) := HXX.out.trans hu
  clear HXX
  have BA := BA.next hx
  have BB := BB.next hx
  have BC := BC.next hx
  have G1 : Hid (HWays (w.heap.size + 3) w1 (.slice a1 n1 c1) N.ways) := g1.base hsz
  have G0 : Hid (HInts (w.heap.size + 3) w1 (.slice a0 n0 c0) N.nodes) := G0.out.keep (hx.keeps _)
  have hsz : w.heap.size + 3 ≤ w1.heap.size := Nat.le_trans hsz hx.size
  clear hx hu g1
  have k0 := BA.cell (i := 2) rfl
  have k1 := BC.cell (i := 1) rfl
  have k2 := BC.frozen 1
  have HS : Hid (w.heap.size + 3 ≤ w1.heap.size) := hsz
  go_wp2_with fail
  have HXX : Hid (Nu w (w1.setCell ⟨w.heap.size + 1 + 1, 1, none⟩ (.slice a1 n1 c1))) := Nu.setCell HX.out (by simp; omega) _
  have BA := BA.setOther (g := w.heap.size + 1 + 1) (by omega) 1 (.slice a1 n1 c1)
  have BB := BB.setOther (g := w.heap.size + 1 + 1) (by omega) 1 (.slice a1 n1 c1)
  have BC := BC.set 1 (.slice a1 n1 c1)
  have hsz : w.heap.size + 3 ≤ (w1.setCell ⟨w.heap.size + 1 + 1, 1, none⟩ (.slice a1 n1 c1)).heap.size := by simp only [World.setCell, Array.size_modify]; exact HS.out
  have G0 : Hid (HInts (w.heap.size + 3) (w1.setCell ⟨w.heap.size + 1 + 1, 1, none⟩ (.slice a1 n1 c1)) (.slice a0 n0 c0) N.nodes) := G0.out.keep (set_keeps _ _ (by omega) _)
  have G1 : Hid (HWays (w.heap.size + 3) (w1.setCell ⟨w.heap.size + 1 + 1, 1, none⟩ (.slice a1 n1 c1)) (.slice a1 n1 c1) N.ways) := G1.out.keep (set_keeps _ _ (by omega) _)
  clear k0 k1 k2 HS HX
  refine (toRels_any B _ N.rels _ (by exact i2.keep (HXX.out.keeps B)) hs.rels hs.rel).mono ?_
  rintro e w2 ⟨⟨a2, n2, c2, rfl, g2⟩, hu⟩
  have hx := hu.nx
  have HX : Hid (Nu w w2) := HXX.out.trans hu
  clear HXX
  have BA := BA.next hx
  have BB := BB.next hx
  have BC := BC.next hx
  have G2 : Hid (HRels (w.heap.size + 3) w2 (.slice a2 n2 c2) N.rels) := g2.base hsz
  have G0 : Hid (HInts (w.heap.size + 3) w2 (.slice a0 n0 c0) N.nodes) := G0.out.keep (hx.keeps _)
  have G1 : Hid (HWays (w.heap.size + 3) w2 (.slice a1 n1 c1) N.ways) := G1.out.keep (hx.keeps _)
  have hsz : w.heap.size + 3 ≤ w2.heap.size := Nat.le_trans hsz hx.size
  clear hx hu g2
  have k0 := BA.cell (i := 3) rfl
  have k1 := BC.cell (i := 2) rfl
  have k2 := BC.frozen 2
  have HS : Hid (w.heap.size + 3 ≤ w2.heap.size) := hsz
  go_wp2_with fail
  have HXX : Hid (Nu w (w2.setCell ⟨w.heap.size + 1 + 1, 2, none⟩ (.slice a2 n2 c2))) := Nu.setCell HX.out (by simp; omega) _
  have BA := BA.setOther (g := w.heap.size + 1 + 1) (by omega) 2 (.slice a2 n2 c2)
  have BB := BB.setOther (g := w.heap.size + 1 + 1) (by omega) 2 (.slice a2 n2 c2)
  have BC := BC.set 2 (.slice a2 n2 c2)
  have hsz : w.heap.size + 3 ≤ (w2.setCell ⟨w.heap.size + 1 + 1, 2, none⟩ (.slice a2 n2 c2)).heap.size := by simp only [World.setCell, Array.size_modify]; exact HS.out
  have G0 : Hid (HInts (w.heap.size + 3) (w2.setCell ⟨w.heap.size + 1 + 1, 2, none⟩ (.slice a2 n2 c2)) (.slice a0 n0 c0) N.nodes) := G0.out.keep (set_keeps _ _ (by omega) _)
  have G1 : Hid (HWays (w.heap.size + 3) (w2.setCell ⟨w.heap.size + 1 + 1, 2, none⟩ (.slice a2 n2 c2)) (.slice a1 n1 c1) N.ways) := G1.out.keep (set_keeps _ _ (by omega) _)
  have G2 : Hid (HRels (w.heap.size + 3) (w2.setCell ⟨w.heap.size + 1 + 1, 2, none⟩ (.slice a2 n2 c2)) (.slice a2 n2 c2) N.rels) := G2.out.keep (set_keeps _ _ (by omega) _)
  clear k0 k1 k2 HS HX
  refine (toTurns_any B _ N.turns _ (by exact i3.keep (HXX.out.keeps B)) hs.turns).mono ?_
  rintro e w3 ⟨⟨a3, n3, c3, rfl, g3⟩, hu⟩
  have hx := hu.nx
  have HX : Hid (Nu w w3) := HXX.out.trans hu
  clear HXX
  have BA := BA.next hx
  have BB := BB.next hx
  have BC := BC.next hx
  have G3 : Hid (HTurns (w.heap.size + 3) w3 (.slice a3 n3 c3) N.turns) := g3.base hsz
  have G0 : Hid (HInts (w.heap.size + 3) w3 (.slice a0 n0 c0) N.nodes) := G0.out.keep (hx.keeps _)
  have G1 : Hid (HWays (w.heap.size + 3) w3 (.slice a1 n1 c1) N.ways) := G1.out.keep (hx.keeps _)
  have G2 : Hid (HRels (w.heap.size + 3) w3 (.slice a2 n2 c2) N.rels) := G2.out.keep (hx.keeps _)
  have hsz : w.heap.size + 3 ≤ w3.heap.size := Nat.le_trans hsz hx.size
  clear hx hu g3
  have k0 := BA.cell (i := 4) rfl
  have l0 := BC.cell (i := 0) rfl
  have m0 := BB.cell (i := 0) rfl
  have f0 := BB.frozen 0
  have l1 := BC.cell (i := 1) rfl
  have m1 := BB.cell (i := 1) rfl
  have f1 := BB.frozen 1
  have l2 := BC.cell (i := 2) rfl
  have m2 := BB.cell (i := 2) rfl
  have f2 := BB.frozen 2
  have l3 := BC.cell (i := 3) rfl
  have m3 := BB.cell (i := 3) rfl
  have f3 := BB.frozen 3
  have l4 := BC.cell (i := 4) rfl
  have m4 := BB.cell (i := 4) rfl
  have f4 := BB.frozen 4
  have f5 := BC.frozen 3
  have f6 := BC.frozen 4
  go_wp2
  have K7 := ((((((set_keeps (B := w.heap.size + 3) w3 (g := w.heap.size + 1 + 1) 3 (by omega) (.slice a3 n3 c3)).trans (set_keeps _ (g := w.heap.size + 1 + 1) 4 (by omega) (.int .i64 N.uturn))).trans (set_keeps _ (g := w.heap.size + 1) 0 (by omega) (.slice a0 n0 c0))).trans (set_keeps _ (g := w.heap.size + 1) 1 (by omega) (.slice a1 n1 c1))).trans (set_keeps _ (g := w.heap.size + 1) 2 (by omega) (.slice a2 n2 c2))).trans (set_keeps _ (g := w.heap.size + 1) 3 (by omega) (.slice a3 n3 c3))).trans (set_keeps _ (g := w.heap.size + 1) 4 (by omega) (.int .i64 N.uturn))
  refine bodyPost_ret (v := .agg #[.slice a0 n0 c0, .slice a1 n1 c1, .slice a2 n2 c2, .slice a3 n3 c3, .int .i64 N.uturn]) (by simp [results, Tryd.results6, go_sem, m0, m1, m2, m3, m4]) rfl ⟨⟨a0, n0, c0, a1, n1, c1, a2, n2, c2, a3, n3, c3, rfl, ?_, ?_, ?_, ?_⟩, ?_⟩
  · exact (G0.out.keep K7).base (by omega)
  · exact (G1.out.keep K7).base (by omega)
  · exact (G2.out.keep K7).base (by omega)
  · exact (G3.out.keep K7).base (by omega)
  · exact Nu.setCell (Nu.setCell (Nu.setCell (Nu.setCell (Nu.setCell (Nu.setCell (Nu.setCell HX.out (by simp; omega) _) (by simp; omega) _) (by simp) _) (by simp) _) (by simp) _) (by simp) _) (by simp) _
end Go.Proofs.YtedhchmigeooiaaDoor
