import Derived.Test.YtcdjmpbdaiafgaaGreatDoorSpA
import Derived.Deep.OwnRows
namespace Go.Proofs.YtcdjmpbdaiafgaaGreatDoor
open Go.RowKit
set_option linter.unusedVariables false

/-- block b holds cells, none of them frozen -/
def Opn (w : World) (b : Nat) : Prop := ∃ cs t, w.heap[b]? = some (.cells cs t (0, 0))
/-- what is new is open -/
structure Nu (w w' : World) : Prop where
  nx : Nx w w'
  op : ∀ b, w.heap.size ≤ b → b < w'.heap.size → Opn w' b
theorem Nu.size {w w' : World} (h : Nu w w') : w.heap.size ≤ w'.heap.size := h.nx.size
theorem Nu.keeps {w w' : World} (h : Nu w w') (B : Nat) : Keeps B w w' := h.nx.keeps B
theorem Opn.next {w w' : World} {b : Nat} (h : Opn w b) (k : Nx w w') : Opn w' b := by
  obtain ⟨cs, t, h⟩ := h
  exact ⟨cs, t, (k.block b (Array.getElem?_eq_some_iff.1 h).1).trans h⟩
theorem Opn.setCell {w : World} {b : Nat} (h : Opn w b) (p : Addr) (v : Value) : Opn (w.setCell p v) b := by
  obtain ⟨cs, t, h⟩ := h
  by_cases e : p.block = b
  · exact ⟨if p.spot.isSome then cs else cs.setIfInBounds p.off v, t, by simp [World.setCell, Array.getElem?_modify, h, e]⟩
  · exact ⟨cs, t, (Below.heap_setCell _ _ _ _ (fun h' => e h'.symm)).trans h⟩
theorem Nu.refl (w : World) : Nu w w := ⟨Nx.refl w, fun b h h' => absurd h' (by omega)⟩
theorem Nu.trans {a b c : World} (h : Nu a b) (k : Nu b c) : Nu a c := by
  refine ⟨h.nx.trans k.nx, fun x hx hx' => ?_⟩
  by_cases e : x < b.heap.size
  · exact (h.op x hx e).next k.nx
  · exact k.op x (by omega) hx'
theorem Nu.alloc {a b : World} (h : Nu a b) (cs : Array Value) (t : TypeId) : Nu a (b.alloc (.cells cs t)) := by
  refine ⟨h.nx.alloc _, fun x hx hx' => ?_⟩
  by_cases e : x < b.heap.size
  · exact (h.op x hx e).next (box1 _ _)
  · have e' : x = b.heap.size := by simp at hx'; omega
    subst e'
    exact ⟨cs, t, by show (b.heap.push _)[b.heap.size]? = _; simp⟩
theorem Nu.setCell {a b : World} (h : Nu a b) {p : Addr} (hp : a.heap.size ≤ p.block) (v : Value) : Nu a (b.setCell p v) :=
  ⟨Below.setCell h.nx hp v, fun x hx hx' => (h.op x hx (by simpa [World.setCell] using hx')).setCell p v⟩
theorem ubox1 (w : World) (cs : Array Value) (t : TypeId) : Nu w (w.alloc (.cells cs t)) := (Nu.refl w).alloc cs t
theorem ubox2 (w : World) (cs : Array Value) (t : TypeId) (cs' : Array Value) (t' : TypeId) : Nu w ((w.alloc (.cells cs t)).alloc (.cells cs' t')) := (ubox1 w cs t).alloc cs' t'

theorem info2 : (Tryz.prog.info? 2).map (fun i => (i.zero, i.size, i.bytes)) = some (some (.int .i64 0), 1, 8) := by kernel_rfl

/-- the first k cells of the new row hold the list's -/
def RowTo (w : World) (g n k : Nat) (zs : List Int) : Prop := ∃ f, w.rowIs g 2 n f ∧ ∀ i, i < k → f i = .int .i64 (iat zs i)
theorem RowTo.set {w : World} {g n k : Nat} {zs : List Int} (h : RowTo w g n k zs) : RowTo (w.setCell ⟨g, k, none⟩ (.int .i64 (iat zs k))) g n (k + 1) zs := by
  obtain ⟨f, h1, h2⟩ := h
  refine ⟨_, h1.set k _, fun i hi => ?_⟩
  by_cases e : i = k
  · subst e; simp
  · simp [e]; exact h2 i (by omega)
theorem RowTo.held {w : World} {g n : Nat} {zs : List Int} (hn : zs.length = n) (hm : n ≤ maxLen) (h : RowTo w g n n zs) : HInts g w (.slice (some ⟨g, 0, none⟩) n n) zs := by
  obtain ⟨f, h1, h2⟩ := h
  subst hn
  refine ⟨_, _, rfl, hm, fun h0 => ⟨g, 0, rfl, Nat.le_refl _, h1.lt, fun i hi => ?_⟩⟩
  show w.cell? ⟨g, 0 + i, none⟩ = _
  rw [Nat.zero_add, h1.cell hi, h2 i hi]

set_option maxHeartbeats 400000 in
theorem toInts_any (B : Nat) (v : Value) (zs : List Int) (w : World) (h0 : HInts B w v zs) (hs : zs.length ≤ 1048576) :
    Calls Tryz.prog 15 #[v] w fun e w' => (∃ a' n' c', e = .returned (.slice a' n' c') ∧ HInts w.heap.size w' (.slice a' n' c') zs) ∧ Nu w w' := by
  obtain ⟨a, cap, rfl, hn, hk⟩ := h0
  generalize hz : zs.length = n at *
  have HZ : Hid (zs.length = n) := hz
  have HM : Hid (n ≤ maxLen) := hn
  clear hz hn
  have hmk := run_make_row' (P := Tryz.prog) 22 2 (.int .i64 0) 8 Tryz.underlying22 info2 rfl .i64 .i64 n (by omega) (by omega)
  go_enter Tryz.func15, Tryz.ntmps15
  go_wp2
  go_loopw [4] (fun i wr => ∃ k : Nat, k ≤ n ∧ i = .int .i64 k ∧ Hid (RowTo wr w.heap.size n k zs) ∧ Hid (Nu w wr)) (fun i _ => n - (intOf i).toNat)
  case atStart => exact ⟨0, Nat.zero_le _, rfl, ⟨_, World.rowIs_made _ _ _ _, fun i hi => absurd hi (Nat.not_lt_zero _)⟩, ubox1 _ _ _⟩
  case round =>
    obtain ⟨k, hkn, rfl, HR, HN⟩ := hrel
    clear hmk
    by_cases hlt : k < n
    · obtain ⟨b, off, rfl, hB, hb, hc⟩ := hk (by omega)
      have c0 := cell_next HN.out.nx hb (hc k hlt)
      have hlt' : (k : Int) < n := by omega
      obtain ⟨f, hf, hf'⟩ := HR.out
      have r0 := hf.cell hlt
      have r1 := hf.frozen k
      clear hc hk hf hf'
      go_wp2
      go_roundw
      case rel => exact ⟨k + 1, by omega, by go_num, HR.out.set, Nu.setCell HN.out (Nat.le_refl _) _⟩
      case measure => simp [intOf]; omega
    · go_wp2
      go_ret
      have e : k = n := by omega
      subst e
      exact ⟨⟨_, _, _, rfl, HR.out.held HZ.out HM.out⟩, HN.out⟩
end Go.Proofs.YtcdjmpbdaiafgaaGreatDoor

namespace Go.Proofs.YtcdjmpbdaiafgaaGreatDoor
open Go.RowKit
set_option linter.unusedVariables false

theorem HInts.base {B B' : Nat} {w : World} {v : Value} {zs : List Int} (h : HInts B w v zs) (hB : B' ≤ B) : HInts B' w v zs :=
  HSlice.mono h hB (Nat.le_refl _) fun b off hb hs i hi hc => hc
/-- a store into a block below the base -/
theorem HInts.store {B : Nat} {w : World} {v : Value} {zs : List Int} (h : HInts B w v zs) {g o : Nat} (hg : g < B) (u : Value) : HInts B (w.setCell ⟨g, o, none⟩ u) v zs :=
  h.keep ⟨by simp [World.setCell], fun b hb _ o' => World.cell?_of_block (w := w) (Below.heap_setCell _ _ _ _ (by simp; omega))⟩

/-- block b holds these cells, none of them frozen -/
def Blk (w : World) (b : Nat) (cs : Array Value) : Prop := ∃ t, w.heap[b]? = some (.cells cs t (0, 0))
theorem Blk.lt {w : World} {b : Nat} {cs : Array Value} (h : Blk w b cs) : b < w.heap.size := by
  obtain ⟨t, h⟩ := h
  exact (Array.getElem?_eq_some_iff.1 h).1
theorem Blk.cell {w : World} {b : Nat} {cs : Array Value} (h : Blk w b cs) {i : Nat} {v : Value} (hi : cs[i]? = some v) : w.cell? ⟨b, i, none⟩ = some v := by
  obtain ⟨t, h⟩ := h
  simp [World.cell?, h, hi]
theorem Blk.frozen {w : World} {b : Nat} {cs : Array Value} (h : Blk w b cs) (i : Nat) : w.frozen? ⟨b, i, none⟩ = false := by
  obtain ⟨t, h⟩ := h
  simp [World.frozen?, h]
theorem Blk.next {w w' : World} {b : Nat} {cs : Array Value} (h : Blk w b cs) (k : Nx w w') : Blk w' b cs := by
  have hl := h.lt
  obtain ⟨t, h⟩ := h
  exact ⟨t, (k.block b hl).trans h⟩
theorem Blk.drew {w : World} {b : Nat} {cs : Array Value} (h : Blk w b cs) : Blk w.drew b cs := h
theorem Blk.new (w : World) (cs : Array Value) (t : TypeId) (n : Nat) (hn : n = w.heap.size) : Blk (w.alloc (.cells cs t)) n cs := by
  subst hn
  exact ⟨t, by show (w.heap.push _)[w.heap.size]? = _; simp⟩
theorem Blk.alloc {w : World} {b : Nat} {cs : Array Value} (h : Blk w b cs) (o : Obj) : Blk (w.alloc o) b cs := h.next (by exact Below.alloc (Below.refl _ _) (Nat.le_refl _) _)
theorem Blk.set {w : World} {b : Nat} {cs : Array Value} (h : Blk w b cs) (i : Nat) (v : Value) : Blk (w.setCell ⟨b, i, none⟩ v) b (cs.setIfInBounds i v) := by
  obtain ⟨t, h⟩ := h
  exact ⟨t, by simp [World.setCell, Array.getElem?_modify, h]⟩
theorem Blk.setOther {w : World} {b : Nat} {cs : Array Value} (h : Blk w b cs) {g : Nat} (hg : b ≠ g) (i : Nat) (v : Value) : Blk (w.setCell ⟨g, i, none⟩ v) b cs := by
  obtain ⟨t, h⟩ := h
  exact ⟨t, (Below.heap_setCell _ _ _ _ hg).trans h⟩

set_option maxHeartbeats 400000 in
theorem toWay_any (B : Nat) (id : Int) (both : Bool) (p q : Value) (ns ws : List Int) (w : World) (h0 : HInts B w p ns) (h1 : HInts B w q ws) (hs0 : ns.length ≤ 1048576) (hs1 : ws.length ≤ 1048576) :
    Calls Tryz.prog 59 #[.agg #[.int .i64 id, .bool both, p, q]] w fun e w' => (∃ a m c a' m' c', e = .returned (.agg #[.int .i64 id, .bool both, .slice a m c, .slice a' m' c']) ∧ HInts w.heap.size w' (.slice a m c) ns ∧ HInts w.heap.size w' (.slice a' m' c') ws) ∧ Nu w w' := by
  go_enter Tryz.func59, Tryz.ntmps59
  go_wp2_with fail
  refine (toInts_any B _ ns _ (h0.next (((box2 _ _ _).alloc _))) hs0).mono ?_
  rintro e w1 ⟨⟨a1, n1, c1, rfl, g1⟩, hu⟩
  have hx := hu.nx
  have HX : Hid (Nu w w1) := ((ubox2 _ _ _ _ _).alloc _ _).trans hu
  have BA : Blk w1 w.heap.size #[.int .i64 id, .bool both, p, q] := (((Blk.new w _ 84 _ rfl).alloc _).alloc _).next hx
  have BB : Blk w1 (w.heap.size + 1) #[.int .i64 0, .bool false, .slice none 0 0, .slice none 0 0] := ((Blk.new _ _ 90 _ (by simp)).alloc _).next hx
  have BC : Blk w1 (w.heap.size + 1 + 1) #[.int .i64 id, .bool both, .slice none 0 0, .slice none 0 0] := (Blk.new _ _ 90 _ (by simp)).next hx
  have G1 : Hid (HInts (w.heap.size + 3) w1 (.slice a1 n1 c1) ns) := g1.base (by simp)
  clear hx hu g1
  have k0 := BA.cell (i := 3) rfl
  have k1 := BC.cell (i := 2) rfl
  have k2 := BC.frozen 2
  have BC' := BC.set 2 (.slice a1 n1 c1)
  have BB' := BB.setOther (g := w.heap.size + 1 + 1) (by omega) 2 (.slice a1 n1 c1)
  have hz := BC.lt
  go_wp2_with fail
  have hy : Nu w (w1.setCell ⟨w.heap.size + 1 + 1, 2, none⟩ (.slice a1 n1 c1)) := Nu.setCell HX.out (by simp; omega) _
  refine (toInts_any B _ ws _ (h1.next hy.nx) hs1).mono ?_
  rintro e w2 ⟨⟨a2, n2, c2, rfl, g2⟩, hu2⟩
  have hx2 := hu2.nx
  have HX2 : Hid (Nu w w2) := hy.trans hu2
  have BC2 := BC'.next hx2
  have BB2 := BB'.next hx2
  have G2 : Hid (HInts (w.heap.size + 3) w2 (.slice a2 n2 c2) ws) := g2.base (by simp [World.setCell]; omega)
  have G1' : Hid (HInts (w.heap.size + 3) w2 (.slice a1 n1 c1) ns) := (G1.out.store (by omega) _).keep (hx2.keeps _)
  clear hx2 hu2 g2 G1 hy BA BB BC BC' BB' k0 k1 k2 hz
  have k0 := BC2.cell (i := 0) rfl
  have k1 := BC2.cell (i := 1) rfl
  have k2 := BC2.cell (i := 2) rfl
  have k3 := BC2.cell (i := 3) rfl
  have k4 := BC2.frozen 3
  have j0 := BB2.cell (i := 0) rfl
  have j1 := BB2.cell (i := 1) rfl
  have j2 := BB2.cell (i := 2) rfl
  have j3 := BB2.cell (i := 3) rfl
  have f0 := BB2.frozen 0
  have f1 := BB2.frozen 1
  have f2 := BB2.frozen 2
  have f3 := BB2.frozen 3
  go_wp2
  refine bodyPost_ret (v := .agg #[.int .i64 id, .bool both, .slice a1 n1 c1, .slice a2 n2 c2]) (by simp [results, Tryz.results59, go_sem, j0, j1, j2, j3]) rfl ⟨⟨a1, n1, c1, a2, n2, c2, rfl, ?_, ?_⟩, ?_⟩
  · exact (((((G1'.out.store (by omega) _).store (by omega) _).store (by omega) _).store (by omega) _).store (by omega) _).base (by omega)
  · exact (((((G2.out.store (by omega) _).store (by omega) _).store (by omega) _).store (by omega) _).store (by omega) _).base (by omega)
  · exact Nu.setCell (Nu.setCell (Nu.setCell (Nu.setCell (Nu.setCell HX2.out (by simp; omega) _) (by simp) _) (by simp) _) (by simp) _) (by simp) _
end Go.Proofs.YtcdjmpbdaiafgaaGreatDoor

namespace Go.Proofs.YtcdjmpbdaiafgaaGreatDoor
open Go.RowKit
set_option linter.unusedVariables false

set_option maxHeartbeats 400000 in
theorem toTurn_any (x : Tn) (w : World) :
    Calls Tryz.prog 61 #[.agg #[.int .i64 x.frm, .int .i64 x.to, .int .i64 x.cost]] w fun e w' => e = .returned (.agg #[.int .i64 x.frm, .int .i64 x.to, .int .i64 x.cost]) ∧ Nu w w' := by
  go_enter Tryz.func61, Tryz.ntmps61
  go_wp2
  refine bodyPost_ret (v := .agg #[.int .i64 x.frm, .int .i64 x.to, .int .i64 x.cost]) (by simp [results, Tryz.results61, go_sem]) rfl ⟨rfl, ?_⟩
  exact (ubox2 _ _ _ _ _).alloc _ _

set_option maxHeartbeats 400000 in
theorem toRel_any (B : Nat) (x : Rl) (p : Value) (w : World) (h0 : HInts B w p x.ways) (hs0 : x.ways.length ≤ 1048576) :
    Calls Tryz.prog 60 #[.agg #[.int .i64 x.id, .bool x.only, .int .i64 x.frm, .int .i64 x.to, .bool x.via, .int .i64 x.node, p]] w fun e w' => (∃ a m c, e = .returned (.agg #[.int .i64 x.id, .bool x.only, .int .i64 x.frm, .int .i64 x.to, .bool x.via, .int .i64 x.node, .slice a m c]) ∧ HInts w.heap.size w' (.slice a m c) x.ways) ∧ Nu w w' := by
  go_enter Tryz.func60, Tryz.ntmps60
  go_wp2_with fail
  refine (toInts_any B _ x.ways _ (h0.next (((box2 _ _ _).alloc _))) hs0).mono ?_
  rintro e w1 ⟨⟨a1, n1, c1, rfl, g1⟩, hu⟩
  have hx := hu.nx
  have HX : Hid (Nu w w1) := ((ubox2 _ _ _ _ _).alloc _ _).trans hu
  have BB2 : Blk w1 (w.heap.size + 1) #[.int .i64 0, .bool false, .int .i64 0, .int .i64 0, .bool false, .int .i64 0, .slice none 0 0] := ((Blk.new _ _ 93 _ (by simp)).alloc _).next hx
  have BC2 : Blk w1 (w.heap.size + 1 + 1) #[.int .i64 x.id, .bool x.only, .int .i64 x.frm, .int .i64 x.to, .bool x.via, .int .i64 x.node, .slice none 0 0] := (Blk.new _ _ 93 _ (by simp)).next hx
  have G1 : Hid (HInts (w.heap.size + 3) w1 (.slice a1 n1 c1) x.ways) := g1.base (by simp)
  clear hx hu g1
  have k0 := BC2.cell (i := 0) rfl
  have k1 := BC2.cell (i := 1) rfl
  have k2 := BC2.cell (i := 2) rfl
  have k3 := BC2.cell (i := 3) rfl
  have k4 := BC2.cell (i := 4) rfl
  have k5 := BC2.cell (i := 5) rfl
  have k6 := BC2.cell (i := 6) rfl
  have kf := BC2.frozen 6
  have j0 := BB2.cell (i := 0) rfl
  have j1 := BB2.cell (i := 1) rfl
  have j2 := BB2.cell (i := 2) rfl
  have j3 := BB2.cell (i := 3) rfl
  have j4 := BB2.cell (i := 4) rfl
  have j5 := BB2.cell (i := 5) rfl
  have j6 := BB2.cell (i := 6) rfl
  have f0 := BB2.frozen 0
  have f1 := BB2.frozen 1
  have f2 := BB2.frozen 2
  have f3 := BB2.frozen 3
  have f4 := BB2.frozen 4
  have f5 := BB2.frozen 5
  have f6 := BB2.frozen 6
  go_wp2
  refine bodyPost_ret (v := .agg #[.int .i64 x.id, .bool x.only, .int .i64 x.frm, .int .i64 x.to, .bool x.via, .int .i64 x.node, .slice a1 n1 c1]) (by simp [results, Tryz.results60, go_sem, j0, j1, j2, j3, j4, j5, j6]) rfl ⟨⟨a1, n1, c1, rfl, ?_⟩, ?_⟩
  · exact ((((((((G1.out.store (by omega) _).store (by omega) _).store (by omega) _).store (by omega) _).store (by omega) _).store (by omega) _).store (by omega) _).store (by omega) _).base (by omega)
  · exact Nu.setCell (Nu.setCell (Nu.setCell (Nu.setCell (Nu.setCell (Nu.setCell (Nu.setCell (Nu.setCell HX.out (by simp; omega) _) (by simp) _) (by simp) _) (by simp) _) (by simp) _) (by simp) _) (by simp) _) (by simp) _
end Go.Proofs.YtcdjmpbdaiafgaaGreatDoor

namespace Go.Proofs.YtcdjmpbdaiafgaaGreatDoor
open Go.RowKit
set_option linter.unusedVariables false

theorem make_structs (t e : TypeId) (z : Value) (k bytes : Nat) (ht : Tryz.prog.underlying t = some (.slice e)) (hinfo : (Tryz.prog.info? e).map (fun i => (i.zero, i.size, i.bytes)) = some (some z, k, bytes))
    (n : Nat) (hbytes : bytes * n ≤ 281474976710656) (h63 : n ≤ 9223372036854775807) (w : World) :
    (Instr.makeSlice t (.int .i64 (n : Int)) (.int .i64 (n : Int))).run Tryz.prog w = .ok (.slice (some ⟨w.heap.size, 0, none⟩) n n) (w.alloc (.cells (madeCells z.cells (n * k)) e)) := by
  obtain ⟨i, hi, hzz⟩ := Option.map_eq_some_iff.1 hinfo
  simp only [Prod.mk.injEq] at hzz
  obtain ⟨hz, hs, hb⟩ := hzz
  have hb' : (i.bytes : Int) * (n : Int) ≤ 281474976710656 := by
    have h : ((i.bytes * n : Nat) : Int) ≤ 281474976710656 := by rw [hb]; omega
    rwa [Int.natCast_mul] at h
  have hr := run_make (P := Tryz.prog) w t e i z ht hi hz .i64 .i64 n n (by omega) (Int.le_refl _) hb' (by omega)
  simp only [Int.toNat_natCast, hs] at hr
  exact hr

theorem set_ne {cs : Array Value} {i j : Nat} (a : Value) (h : i ≠ j) : (cs.setIfInBounds i a)[j]? = cs[j]? := by rw [Array.getElem?_setIfInBounds, if_neg h]
theorem set_eq {cs : Array Value} {i : Nat} (a : Value) (h : i < cs.size) : (cs.setIfInBounds i a)[i]? = some a := by simp [h]
theorem Blk.made (w : World) (z : Array Value) (n : Nat) (t : TypeId) : Blk (w.alloc (.cells (madeCells z n) t)) w.heap.size (madeCells z n) := Blk.new _ _ _ _ rfl
end Go.Proofs.YtcdjmpbdaiafgaaGreatDoor
